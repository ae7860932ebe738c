import PyProof.Rows.All
import HandS.SetFor
import HandS.Strs
import PyProof.ListNew
import HandS.Small
import HandS.SetBool
import HandS.Comp
import HandS.ForMost
import HandS.ForExc
import KE.SortData
import KE.GoesEnum
import HandS.TupAny
import HandS.Zip
import HandS.IsInst
import HandS.Conv
import HandS.AnyAll
import HandS.Style
import HandS.Flow
import KE.DataCmp
import PyProof.Rows.Walk
import HandS.More
import HandS.Defaults
import HandS.Ends
import HandS.SortKw
import HandS.TupLe
import PyProof.ReprRoads
import PyProof.EqKinds
import HandS.Deep
import HandS.Text
import HandS.RaiseMore
import HandS.Star
import HandS.SetKeys
import HandS.TupSets
import HandS.Codes
import HandS.Head0
import HandS.Head1
import HandS.Head2
import HandS.HeadEnd
import HandS.HeadHook1
import HandS.HeadHook2
import PySem.Challenge.RW_levelkin_k69_whole_web_texts_there_and_b
set_option Elab.async false
section
set_option linter.all false
set_option maxRecDepth 100000
set_option maxHeartbeats 3200000
/-! Kin 0: integers, each once, in order; set(..) of a list of integers. -/
namespace Kin
open PySem PySem.Spec PyProof.Rows L2

def insI (k : Int) : List Int → List Int
  | [] => [k]
  | x :: r => if k < x then k :: x :: r else if k = x then x :: r else x :: insI k r
def uniq (l : List Int) : List Int := l.foldl (fun a k => insI k a) []
abbrev Asc (l : List Int) : Prop := l.Pairwise (· < ·)
theorem mem_insI {k j : Int} : ∀ {l : List Int}, j ∈ insI k l ↔ j = k ∨ j ∈ l
  | [] => by simp [insI]
  | x :: r => by
    unfold insI
    split
    · simp
    · split
      · rename_i h; subst h; simp
      · rw [List.mem_cons, mem_insI, List.mem_cons]
        constructor <;> (intro h; rcases h with h | h | h <;> simp [h])
theorem insI_asc {k : Int} : ∀ {l : List Int}, Asc l → Asc (insI k l)
  | [], _ => by simp [insI, Asc]
  | x :: r, h => by
    have h' := List.pairwise_cons.mp h
    unfold insI
    split
    · rename_i q
      refine List.pairwise_cons.mpr ⟨fun j hj => ?_, h⟩
      rcases List.mem_cons.mp hj with e | e
      · rw [e]; exact q
      · have := h'.1 j e
        omega
    · split
      · exact h
      · refine List.pairwise_cons.mpr ⟨fun j hj => ?_, insI_asc h'.2⟩
        rcases mem_insI.mp hj with e | e
        · omega
        · exact h'.1 j e
theorem uniq_go : ∀ (l a : List Int), Asc a → Asc (l.foldl (fun a k => insI k a) a) ∧ ∀ j, j ∈ l.foldl (fun a k => insI k a) a ↔ j ∈ a ∨ j ∈ l
  | [], a, h => ⟨h, fun j => by simp⟩
  | k :: l, a, h => by
    obtain ⟨p, q⟩ := uniq_go l (insI k a) (insI_asc h)
    refine ⟨p, fun j => ?_⟩
    rw [List.foldl_cons, q j, mem_insI, List.mem_cons]
    rw [or_comm (a := j = k), or_assoc]
theorem uniq_asc (l : List Int) : Asc (uniq l) := (uniq_go l [] List.Pairwise.nil).1
theorem mem_uniq {l : List Int} {j : Int} : j ∈ uniq l ↔ j ∈ l := by
  have := (uniq_go l [] List.Pairwise.nil).2 j
  unfold uniq
  rw [this]
  simp
theorem asc_nodup {l : List Int} (h : Asc l) : l.Nodup := h.imp fun h => Int.ne_of_lt h
theorem asc_ext : ∀ {l m : List Int}, Asc l → Asc m → (∀ j, j ∈ l ↔ j ∈ m) → l = m
  | [], [], _, _, _ => rfl
  | [], y :: m, _, _, h => by have := (h y).mpr (by simp); simp at this
  | x :: l, [], _, _, h => by have := (h x).mp (by simp); simp at this
  | x :: l, y :: m, hl, hm, h => by
    have hl' := List.pairwise_cons.mp hl
    have hm' := List.pairwise_cons.mp hm
    have e : x = y := by
      rcases List.mem_cons.mp ((h x).mp (by simp)) with q | q
      · exact q
      · rcases List.mem_cons.mp ((h y).mpr (by simp)) with q2 | q2
        · exact q2.symm
        · have a := hm'.1 x q
          have b := hl'.1 y q2
          omega
    subst e
    refine congrArg (x :: ·) (asc_ext hl'.2 hm'.2 fun j => ⟨fun hj => ?_, fun hj => ?_⟩)
    · rcases List.mem_cons.mp ((h j).mp (by simp [hj])) with q | q
      · have := hl'.1 j hj
        omega
      · exact q
    · rcases List.mem_cons.mp ((h j).mpr (by simp [hj])) with q | q
      · have := hm'.1 j hj
        omega
      · exact q
theorem card_le : ∀ {l U : List Int}, l.Nodup → (∀ k ∈ l, k ∈ U) → l.length ≤ U.length
  | [], _, _, _ => by simp
  | x :: r, U, h, k => by
    have h' := List.nodup_cons.mp h
    have hx : x ∈ U := k x (by simp)
    have := card_le (l := r) (U := U.erase x) h'.2 fun y hy => by
      have ne : y ≠ x := fun e => h'.1 (e ▸ hy)
      exact (List.mem_erase_of_ne ne).mpr (k y (by simp [hy]))
    rw [List.length_erase_of_mem hx] at this
    have pos : 0 < U.length := List.length_pos_of_mem hx
    simp only [List.length_cons]
    omega
theorem setR_card {w : World} {h : Heap} {a : Addr} {S : Int → Bool} {n : Nat} {U : List Int} (R : SetR w h a S n) (hU : U.Nodup) (hS : ∀ k, S k = true ↔ k ∈ U) : n = U.length := by
  obtain ⟨o, es, ep, t, _, _, _, _, nd, hm, _, _, hn, _⟩ := R
  have l1 := card_le nd fun k hk => (hS k).mp ((hm k).mpr hk)
  have l2 := card_le hU fun k hk => (hm k).mp ((hS k).mpr hk)
  rw [List.length_map] at l1 l2
  have e : es.toList.length = es.size := Array.length_toList
  omega
/-- the set of these integers, in order -/
def ISet (w : World) (a : Addr) (is : List Int) : HO := SetO w a (fun j => decide (j ∈ is)) is.length

section
variable {P : Program} {w : World} {A : Around} {E : Value → Shared → Prop} {s : Shared}
theorem set_of_list {l : Addr} {items : Array Value} (ns : List Int) {Q : Value → Shared → Prop} (hh : A.handled = none) (hl : s.heap.IsList l items) (hit : IntsAre items.toList ns) (hb : ns.length + 1 < scanBound)
    (h : ∀ (h' : Heap) (tk c : Nat), SetR w h' s.heap.objs.size (fun j => decide (j ∈ ns)) c → (∀ b o, s.heap.get? b = some o → h'.get? b = some o) → Q (.ref s.heap.objs.size) { s with heap := h', toks := tk }) :
    wpAny (model P w) A (call (.type "set") [.ref l]) Q E s := by
  have hisz : items.size = ns.length := by
    have q := IntsAre.length hit
    rw [Array.length_toList] at q
    exact q
  obtain ⟨c, tl, hmro⟩ := F.called_set.mro
  have hmade := F.called_set.made
  have hsub := F.called_set.sub
  refine wpAny_call (codeAny_of_tree ?_)
  show wpAny _ _ (callAny (.type "set") _) _ _ _
  refine wpAny_pure ⟨Code.quiet_builtin _ (by decide +kernel), codeAny_builtin F.entry_type_call ?_⟩
  rw [Around.under_plain (weight_type_call_type "set" [.ref l] []) rfl]
  have h1 := F.called_set.notType
  have h2 := F.called_set.canCreate
  have hct := F.typeCall_set_1 (.ref l)
  repeat (any_goals (first | assumption | wp_step))
  refine codeAny_mono (code_set_led1 (.ref l) (E := E) (Q₁ := fun obj s₁ => obj = .ref s.heap.objs.size ∧ s₁ = { s with heap := s.heap.push { cls := .type "set", dict := none, data := .set #[] 0 (.fresh 0 0 (!w.params.followText "set-order")) } }) ⟨rfl, rfl⟩) fun r s₁ hr => ?_
  match r, hr with
  | .error e, hr => exact hr
  | .ok (.ret obj), hr =>
    obtain ⟨rfl, rfl⟩ := hr
    have hS : (s.heap.push { cls := .type "set", dict := none, data := .set #[] 0 (.fresh 0 0 (!w.params.followText "set-order")) }).get? s.heap.objs.size = some { cls := .type "set", dict := none, data := .set #[] 0 (.fresh 0 0 (!w.params.followText "set-order")) } := Heap.get?_push_size _ rfl
    have hT : Shared.TypeIs { s with heap := s.heap.push { cls := .type "set", dict := none, data := .set #[] 0 (.fresh 0 0 (!w.params.followText "set-order")) } } (.ref s.heap.objs.size) "set" := ⟨_, hS, rfl⟩
    have hli := F.called_set.init.lookup
    have hbi := F.called_set.init.bind (.ref s.heap.objs.size)
    repeat (any_goals (first | assumption | wp_step))
    refine codeAny_mono (codeAny_call_builtin (R := wants (fun r s₂ => r = .none ∧ ∃ h' tk c, s₂ = { s with heap := h', toks := tk } ∧ SetR w h' s.heap.objs.size (fun j => decide (j ∈ ns)) c ∧ ∀ b o, s.heap.get? b = some o → h'.get? b = some o) E)
      F.called_set.init.plain F.entry_set_init (check_set_init_1 hT ?go)) fun r₂ s₂ hr₂ => ?out
    case out =>
      match r₂, hr₂ with
      | .error e, hr₂ => exact hr₂
      | .ok (.ret r), hr₂ =>
        obtain ⟨rfl, h', tk, c', rfl, a1, a2⟩ := hr₂
        repeat (any_goals (first | assumption | wp_step))
        exact h _ _ _ a1 a2
    case go =>
      obtain ⟨ol, hol, hcl, nl, hdl⟩ := hl
      obtain ⟨ocls, odict, odata, oslots⟩ := ol
      simp only at hcl hdl
      subst hcl hdl
      have hol' := Heap.get?_push_of_some ({ cls := .type "set", dict := none, data := .set #[] 0 (.fresh 0 0 (!w.params.followText "set-order")) } : Obj) hol
      have hl1 : (s.heap.push { cls := .type "set", dict := none, data := .set #[] 0 (.fresh 0 0 (!w.params.followText "set-order")) }).IsList l items := ⟨_, hol', rfl, nl, rfl⟩
      have f1 := F.sub_list_set
      have f2 := F.sub_list_frozenset
      have f3 : (Value.type "list" == Value.type "dict") = false := by decide
      unfold Builtin.«set.__init__» noKeywords Builtin.Frozenset.updateFrom
      generalize hPI : pyIter = PI
      wp_walk
      subst hPI
      have lt : l < s.heap.objs.size := Heap.lt_size hol
      refine wpAny_pyIter_list hl1 (wpAny_bind (wpAny_runValue ?_))
      have z1 : (s.heap.push { cls := .type "set", dict := none, data := .set #[] 0 (.fresh 0 0 (!w.params.followText "set-order")) }).objs.size = s.heap.objs.size + 1 := Heap.size_push ..
      have ne1 : l ≠ (s.heap.push { cls := .type "set", dict := none, data := .set #[] 0 (.fresh 0 0 (!w.params.followText "set-order")) }).objs.size := by rw [z1]; exact Nat.ne_of_lt (Nat.lt_succ_of_lt lt)
      have nf : s.heap.objs.size ∉ [(s.heap.push { cls := .type "set", dict := none, data := .set #[] 0 (.fresh 0 0 (!w.params.followText "set-order")) }).objs.size, l] := by
        rw [z1]
        simp only [List.mem_cons, List.not_mem_nil, or_false, not_or]
        exact ⟨Nat.ne_of_lt (Nat.lt_succ_self _), Nat.ne_of_gt lt⟩
      refine set_update_ints ((Walks.list (by simp [hh]) _ l ne1 items).toS) s.heap.objs.size nf ns hisz hb (fun i v hv => ?_) (items.size - 0) 0 _ (by omega) (Nat.zero_le _)
        ⟨⟨_, Heap.get?_push_size _ rfl, rfl, rfl⟩, hl1.push _⟩ ⟨0, Nat.le_refl 0, setR_new_at (Heap.get?_push_of_some _ hS)⟩ fun s' c' hm hc' hS' => ?_
      · have hi : i < ns.length := by rw [← hisz]; exact (Array.getElem?_eq_some_iff.mp hv).1
        obtain ⟨t, e⟩ := IntsAre.int_at hit i v (by rw [Array.getElem?_toList]; exact hv)
        exact ⟨ns[i], t, List.getElem?_eq_getElem hi, by rw [e, List.getD_eq_getElem?_getD, List.getElem?_eq_getElem hi]; rfl⟩
      · obtain ⟨h', g2, d', tk', os'⟩ := s'
        have eg : g2 = s.gens := hm.gens
        have ed : d' = s.drawn := hm.drawn
        have eo : os' = s.os := hm.os
        subst eg ed eo
        show wpAny _ _ _ _ _ _
        refine wpAny_pure ?_
        show wpAny _ _ (ret Value.none) _ _ _
        refine wpAny_pure ⟨rfl, h', tk', c', rfl, hS', fun b o e => hm.heap b o ?_ (Heap.get?_push_of_some _ (Heap.get?_push_of_some _ e))⟩
        have hb0 : b < s.heap.objs.size := Heap.lt_size e
        simp only [List.mem_cons, List.not_mem_nil, or_false, not_or]
        exact ⟨Nat.ne_of_lt hb0, by rw [z1]; exact Nat.ne_of_lt (Nat.lt_succ_of_lt hb0)⟩
end
section
variable {X : Cx}
def rSetI (K : PySem.W.Frag) (w : World) : List V → Hp → VK → Prop := fun xs H Q => ∃ (p : Addr) (ns : List Int), xs = [.ref p] ∧ (SqL K H p (ns.map V.int) ∨ SqT K H p (ns.map V.int)) ∧ ns.length + 1 < scanBound ∧ ∀ q, H q = none → Q (.ref q) (upd H q (ISet w q (uniq ns)))
theorem iset_of {w : World} {h : Heap} {a : Addr} {ns : List Int} {c : Nat} (R : SetR w h a (fun j => decide (j ∈ ns)) c) : SetR w h a (fun j => decide (j ∈ uniq ns)) (uniq ns).length := by
  have e := setR_card R (asc_nodup (uniq_asc ns)) fun k => by rw [decide_eq_true_eq, mem_uniq]
  subst e
  exact R.congr fun k => by simp only [mem_uniq]
theorem cr_setI (hc : X.calm = true) : CallR X (.type "set") (rSetI X.K X.w) := by
  intro pins s σ H xs us Q I r h
  obtain ⟨p, ns, rfl, hq, hb, q⟩ := h
  rw [Vals.ref1 r]
  have fin : ∀ (h' : Heap) (tk c : Nat), SetR X.w h' s.heap.objs.size (fun j => decide (j ∈ ns)) c → (∀ b o, s.heap.get? b = some o → h'.get? b = some o) → EP X pins σ Q (.ref s.heap.objs.size) { s with heap := h', toks := tk } := fun h' tk c R k =>
    ⟨.ref _, upd H s.heap.objs.size (ISet X.w s.heap.objs.size (uniq ns)), I.laid (t' := tk) k (Nat.le_refl _) (setO_new (iset_of R)), rfl, q _ (I.hok.fresh (Nat.le_refl _))⟩
  rcases hq with hq | hq
  · obtain ⟨its, rv, pl, hz⟩ := I.list hq
    exact set_of_list ns (I.ok.hd hc) pl.isList (ints_of_vals rv) hb fin
  · obtain ⟨its, rv, pt, hz⟩ := I.tuple hq
    exact call_set_tupI ns (I.ok.hd hc) (show s.heap.IsTuple p its.toArray from pt) (ints_of_vals rv) hb fun h' tk c R _ k => fin h' tk c R k
end
end Kin
end
section
set_option linter.all false
set_option maxRecDepth 100000
set_option maxHeartbeats 3200000
/-! Kin 0b: extend by a tuple; in a dict; a dict's item is set. -/
namespace Kin
open PySem PySem.Spec PyProof.Rows L2
theorem extend_tup (l : Addr) (items : Array Value) (n : Nat) (b : Addr) (items2 : Array Value) (n2 : Nat) (dd : Option Addr) (sl : Array (Option Value)) (hs0 : ¬(!items.isEmpty && Builtin.List.listTooLong (items.size + items2.size)) = true) (hs1 : items.size ≤ sizeLine) (hs2 : items.size + items2.size ≤ sizeLine + 1) :
    Meets (Builtin.«list.extend» ⟨[.ref l, .ref b], []⟩) (fun _ R s => s.heap.get? l = some { cls := .type "list", dict := none, data := .seq items n, slots := #[] } ∧ s.heap.get? b = some { cls := .type "tuple", dict := dd, data := .seq items2 n2, slots := sl } ∧
      R (.ok (.ret Value.none)) { s with heap := s.heap.update l (Obj.mapSeq fun x => x ++ items2), toks := s.toks }) :=
  .of_wp fun prog w A R s h => by
    obtain ⟨hp, g, d, tk, os⟩ := s
    obtain ⟨hl, hb, h⟩ := h
    have f2 := F.sub_tuple_tuple
    have f3 := F.sub_list_list
    have f4 := F.sub_tuple_list
    have f5 := F.sub_list_tuple
    have hz : (items ++ items2).size ≤ sizeLine + 1 := by rw [Array.size_append]; exact hs2
    wp_walk using (wpAny_updateSeq hl rfl (hz := hs1) (_hz' := hz)), wpAny_loadPart' hl, wpAny_loadPart' hb
    exact ⟨_, rfl, h⟩
section
variable {X : Cx}
def rExtendT (K : PySem.W.Frag) : V → List V → Hp → VK → Prop := fun x vs H Q => ∃ l b xs zs, x = .ref l ∧ vs = [.ref b] ∧ H l = some (.lst xs) ∧ SqT K H b zs ∧ xs.length + zs.length ≤ sizeLine ∧ Q .non (upd H l (.lst (xs ++ zs)))
theorem mt_extendT : MtM X "list.extend" (rExtendT X.K) := by
  intro pins s σ H x vs v us Q I rx rv h
  obtain ⟨l, b, xs, zs, rfl, rfl, hH, hB, hz, q⟩ := h
  cases rx
  obtain ⟨u, rfl, ru⟩ := rv.one
  cases ru
  obtain ⟨z, its, n, r, hl, e⟩ := I.lstM hH
  obtain ⟨its2, r2, ⟨o2, e2, hc2, n2, hd2⟩, z2⟩ := I.tuple hB
  obtain ⟨c2, dd2, dt2, sl2⟩ := o2
  simp only at hc2 hd2
  subst hc2 hd2
  have l2 := r2.length
  have l1 := r.length
  have hsz : its.toArray.size + its2.toArray.size ≤ sizeLine := by rw [List.size_toArray, List.size_toArray]; omega
  have hlong : ¬ (!its.toArray.isEmpty && Builtin.List.listTooLong (its.toArray.size + its2.toArray.size)) = true := by
    rw [notLongL hsz, Bool.and_false]
    exact Bool.false_ne_true
  refine call_meets F.slot_list_extend ⟨_, e, rfl⟩ F.entry_list_extend (F.args_list_extend_2 _ _)
    (extend_tup l its.toArray n b its2.toArray n2 dd2 sl2 hlong (by rw [List.size_toArray]; omega) (by omega)) ⟨e, e2, ?_⟩
  refine ⟨.non, _, I.lset (its' := its ++ its2) hH e (by simp) (r.append r2) ?_, rfl, q⟩
  rw [List.length_append]
  omega
def rDIn (neg : Bool) : R2 := fun x y H Q => ∃ a o, y = .ref a ∧ DGet H a x o ∧ Q (.bl (if neg then !o.isSome else o.isSome)) H
theorem op_din (hu : X.A.units + 1 < cLine) : OpR X (compareOp .In) (rDIn false) := by
  intro pins s σ H x y v u Q I rx ry h
  obtain ⟨a, o, rfl, g, q⟩ := h
  cases ry
  exact d_in hu I g rx fun s3 I3 => ⟨.bl o.isSome, H, I3, rfl, q⟩
theorem op_dnin (hu : X.A.units + 1 < cLine) : OpR X (compareOp .NotIn) (rDIn true) := by
  intro pins s σ H x y v u Q I rx ry h
  obtain ⟨a, o, rfl, g, q⟩ := h
  cases ry
  exact d_notIn hu I g rx fun s3 I3 => ⟨.bl (!o.isSome), H, I3, rfl, q⟩
theorem _root_.L2.PSet.or {t t' : TSet} (h : PSet X t) (h' : PSet X t') : PSet X (fun o i v H Q => t o i v H Q ∨ t' o i v H Q) := by
  intro pins s σ H o i v ov iv u Q I ro ri rv q
  rcases q with q | q
  · exact h pins s σ H o i v ov iv u Q I ro ri rv q
  · exact h' pins s σ H o i v ov iv u Q I ro ri rv q
end
end Kin
end
section
set_option Elab.async false
set_option linter.all false
set_option maxRecDepth 100000
set_option maxHeartbeats 4000000
/-! Kin 0c: {elt for t0 in i0 if .. for t1 in i1 if ..}, its members integers. -/
namespace Kin
open PySem PySem.Spec PyProof.Rows L2

/-- the tests of a clause -/
abbrev testsS (ifs : List Expr) (env : Env) : Sem Bool := forIn ifs true fun c r => if r = true then do let ok ← isTrue c env (eval c env); pure (ForInStep.yield ok) else pure (ForInStep.yield r)
section
variable {prog : Program} {w : World} {A : Around} {R : Result → Shared → Prop} {s : Shared} {elt t0 i0 t1 i1 : Expr} {ifs0 ifs1 : List Expr} {scope : Scope} {pos : Pos} {it acc : Value} {env : Env}
theorem turnS_out (elt t0 i0 t1 i1 : Expr) (ifs0 ifs1 : List Expr) (scope : Scope) (pos : Pos) (it acc : Value) (env : Env) :
    compTurn (.SetComp elt [⟨t0, i0, ifs0, 0⟩, ⟨t1, i1, ifs1, 0⟩] scope pos) 0 it acc env = (do
      standAt i0.pos
      match ← pyNext it with
      | none => pure (.done .next)
      | some v =>
        letOwnedTupleGo t0 it v
        assign t0 env v
        let mut ok := true
        for c in ifs0 do
          if ok then ok ← isTrue c env (eval c env)
        if ok then
          let x ← eval i1 env
          standAt i1.pos
          let x ← foldedSetIterable i1 env x
          let _ ← runOwn (.compStart (.SetComp elt [⟨t0, i0, ifs0, 0⟩, ⟨t1, i1, ifs1, 0⟩] scope pos) 1 (← holding [x] (pyIter x)) acc env) env
        again (.compLoop (.SetComp elt [⟨t0, i0, ifs0, 0⟩, ⟨t1, i1, ifs1, 0⟩] scope pos) 0 it acc env)) := by rfl
theorem turnS_in (elt t0 i0 t1 i1 : Expr) (ifs0 ifs1 : List Expr) (scope : Scope) (pos : Pos) (it acc : Value) (env : Env) :
    compTurn (.SetComp elt [⟨t0, i0, ifs0, 0⟩, ⟨t1, i1, ifs1, 0⟩] scope pos) 1 it acc env = (do
      standAt i1.pos
      match ← pyNext it with
      | none => pure (.done .next)
      | some v =>
        letOwnedTupleGo t1 it v
        assign t1 env v
        let mut ok := true
        for c in ifs1 do
          if ok then ok ← isTrue c env (eval c env)
        if ok then
          (do let v ← eval elt env; standAt elt.pos; let _ ← call (.builtin "set.add") [acc, v])
        again (.compLoop (.SetComp elt [⟨t0, i0, ifs0, 0⟩, ⟨t1, i1, ifs1, 0⟩] scope pos) 1 it acc env)) := by rfl
abbrev noS (prog : Program) (w : World) (A : Around) (env : Env) (R : Result → Shared → Prop) : Value → Shared → Prop := notedBy (model prog w) A env fun e s' => R (.error e) s'
/-- an item is stored, the tests are asked -/
def StepS (prog : Program) (w : World) (A : Around) (env : Env) (R : Result → Shared → Prop) (t : Expr) (ifs : List Expr) (it v : Value) (K : Bool → Shared → Prop) (s : Shared) : Prop :=
  wpAny (model prog w) A (letOwnedTupleGo t it v) (fun _ s1 => wpAny (model prog w) A (assign t env v) (fun _ s2 => wpAny (model prog w) A (testsS ifs env) K (noS prog w A env R) s2) (noS prog w A env R) s1) (noS prog w A env R) s
theorem loopS_out (hs : ∀ x, foldedSetIterable i1 env x = pure x) (I : Nat → Shared → Prop)
    (turn : ∀ n s, I n s → wpAny (model prog w) A (pyNext it) (fun r s1 => match r with
      | none => R (.ok .next) s1
      | some v => StepS prog w A env R t0 ifs0 it v (fun ok s3 => if ok = true then
          wpAny (model prog w) A (eval i1 env) (fun x s4 => wpAny (model prog w) A (pyIter x) (fun it1 s5 =>
            codeAny (model prog w) A (.compStart (.SetComp elt [⟨t0, i0, ifs0, 0⟩, ⟨t1, i1, ifs1, 0⟩] scope pos) 1 it1 acc env) (fun r s' => match r with
              | .ok _ => ∃ m, m < n ∧ I m s'
              | .error _ => False) s5) (noS prog w A env R) s4) (noS prog w A env R) s3
          else ∃ m, m < n ∧ I m s3) s1) (noS prog w A env R) s)
    (n : Nat) (h : I n s) : codeAny (model prog w) A (.compLoop (.SetComp elt [⟨t0, i0, ifs0, 0⟩, ⟨t1, i1, ifs1, 0⟩] scope pos) 0 it acc env) R s := by
  refine codeAny_loop rfl I (fun n s hI => ?_) n h
  show wpAny _ A ((compTurn (.SetComp elt [⟨t0, i0, ifs0, 0⟩, ⟨t1, i1, ifs1, 0⟩] scope pos) 0 it acc env).onRaise (fun x => do noteFrame x env; theTreesLotGoes x)) _ _ s
  refine wpAny_noted ?_
  rw [turnS_out]
  refine wpAny_bind (wpAny_standAt (wpAny_bind (wpAny_mono (turn n s hI) (fun r s1 h1 => ?_) fun _ _ z => z)))
  match r, h1 with
  | none, h1 => exact wpAny_pure h1
  | some v, h1 =>
    refine wpAny_bind (wpAny_mono h1 (fun _ s2 h2 => wpAny_bind (wpAny_mono h2 (fun _ s3 h3 => wpAny_bind (wpAny_mono h3 (fun ok s4 h4 => ?_) fun _ _ z => z)) fun _ _ z => z)) fun _ _ z => z)
    match ok, h4 with
    | false, h4 => exact wpAny_pure ⟨rfl, h4⟩
    | true, h4 =>
      refine wpAny_bind (wpAny_mono h4 (fun x s5 h5 => ?_) fun _ _ z => z)
      refine wpAny_bind (wpAny_standAt (wpAny_bind (wpAny_of_eq (hs x) (wpAny_bind (wpAny_holding (wpAny_mono h5 (fun it1 s6 h6 => ?_) fun _ _ z => z))))))
      refine wpAny_bind (wpAny_runOwn ?_)
      rw [Around.mark_none]
      refine codeAny_mono h6 fun r s' hr => ?_
      match r, hr with
      | .ok f, hr => first | exact wpAny_pure ⟨rfl, hr⟩ | exact wpAny_bind (wpAny_pure (wpAny_pure ⟨rfl, hr⟩))
      | .error e, hr => exact hr.elim
theorem loopS_in (I : Nat → Shared → Prop)
    (turn : ∀ n s, I n s → wpAny (model prog w) A (pyNext it) (fun r s1 => match r with
      | none => R (.ok .next) s1
      | some v => StepS prog w A env R t1 ifs1 it v (fun ok s3 => if ok = true then
          wpAny (model prog w) A (eval elt env) (fun x s4 => wpAny (model prog w) A (call (.builtin "set.add") [acc, x]) (fun _ s5 => ∃ m, m < n ∧ I m s5) (noS prog w A env R) s4) (noS prog w A env R) s3
          else ∃ m, m < n ∧ I m s3) s1) (noS prog w A env R) s)
    (n : Nat) (h : I n s) : codeAny (model prog w) A (.compLoop (.SetComp elt [⟨t0, i0, ifs0, 0⟩, ⟨t1, i1, ifs1, 0⟩] scope pos) 1 it acc env) R s := by
  refine codeAny_loop rfl I (fun n s hI => ?_) n h
  show wpAny _ A ((compTurn (.SetComp elt [⟨t0, i0, ifs0, 0⟩, ⟨t1, i1, ifs1, 0⟩] scope pos) 1 it acc env).onRaise (fun x => do noteFrame x env; theTreesLotGoes x)) _ _ s
  refine wpAny_noted ?_
  rw [turnS_in]
  refine wpAny_bind (wpAny_standAt (wpAny_bind (wpAny_mono (turn n s hI) (fun r s1 h1 => ?_) fun _ _ z => z)))
  match r, h1 with
  | none, h1 => exact wpAny_pure h1
  | some v, h1 =>
    refine wpAny_bind (wpAny_mono h1 (fun _ s2 h2 => wpAny_bind (wpAny_mono h2 (fun _ s3 h3 => wpAny_bind (wpAny_mono h3 (fun ok s4 h4 => ?_) fun _ _ z => z)) fun _ _ z => z)) fun _ _ z => z)
    match ok, h4 with
    | false, h4 => exact wpAny_pure ⟨rfl, h4⟩
    | true, h4 => exact wpAny_bind (wpAny_bind (wpAny_mono h4 (fun x s5 h5 => wpAny_bind (wpAny_standAt (wpAny_bind (wpAny_mono h5 (fun _ s6 h6 => wpAny_pure (wpAny_pure ⟨rfl, h6⟩)) fun _ _ z => z)))) fun _ _ z => z))
theorem startS_in (h0 : codeAny (model prog w) A (.compLoop (.SetComp elt [⟨t0, i0, ifs0, 0⟩, ⟨t1, i1, ifs1, 0⟩] scope pos) 1 it acc env) R s)
    (h : wpAny (model prog w) A (pyIter it) (fun it' s' => codeAny (model prog w) A (.compLoop (.SetComp elt [⟨t0, i0, ifs0, 0⟩, ⟨t1, i1, ifs1, 0⟩] scope pos) 1 it' acc env) R s') (noS prog w A env R) s) :
    codeAny (model prog w) A (.compStart (.SetComp elt [⟨t0, i0, ifs0, 0⟩, ⟨t1, i1, ifs1, 0⟩] scope pos) 1 it acc env) R s := by
  refine codeAny_of_tree ?_
  show wpAny _ _ ((compStart (.SetComp elt [⟨t0, i0, ifs0, 0⟩, ⟨t1, i1, ifs1, 0⟩] scope pos) 1 it acc env).onRaise (fun x => do noteFrame x env; standAt theWindowsPlace)) _ _ s
  refine wpAny_notedAt ?_
  unfold compStart
  show wpAny _ _ (ask >>= _) _ _ s
  refine wpAny_bind (wpAny_askSetting (wpAny_ite ?_))
  split
  · first | exact wpAny_bind (wpAny_pure (wpAny_pure (And.intro rfl h0))) | exact wpAny_pure (And.intro rfl h0)
  · first
      | exact wpAny_bind (wpAny_rule (wpAny_bind (wpAny_standAt (wpAny_bind (wpAny_mono h (fun it' s' z => wpAny_pure (And.intro rfl z)) fun _ _ x => x)))))
      | (refine wpAny_bind (wpAny_rule ?_); show wpAny _ _ (standAt i1.pos >>= _) _ _ s; exact wpAny_bind (wpAny_standAt (wpAny_bind (wpAny_mono h (fun it' s' z => wpAny_pure (And.intro rfl z)) fun _ _ x => x))))
end
section
variable {X : Cx}
/-- what the two clauses owe: D the new set, from turn to turn; vs the block's names, vs1 those of the second target -/
def tSc2 (w : World) (wi : TI) (g : TG) (tt : TT) (wi1 : TI) (g1 : TG) (tt1 : TT) (te : TE) (vs vs1 : List Nat) : TE := fun σ H Q => wi σ H fun J H1 => ∀ D, H1 D = none → ∃ W : Nat → Nat → Hp → Prop, (∃ m, W 0 m (upd H1 D (ISet w D []))) ∧ ∀ i m H, W i m H →
  (J.stop i H ∧ Q (.ref D) H) ∨ (J.go i H ∧ ∃ Nx : Hp → Prop, (∀ H', Nx H' → ∃ m', m' < m ∧ W (i + 1) m' H') ∧ ∀ x H', J.yld i H x H' → g x (L2.wipe σ vs) H' fun σ2 H2 => L2.wipe σ2 vs = L2.wipe σ vs ∧ tt σ2 H2 fun b H3 =>
    if b = true then wi1 σ2 H3 fun J1 H4 => ∃ W1 : Nat → Nat → Hp → Prop, (∃ m, W1 0 m H4) ∧ ∀ j k H, W1 j k H →
      (J1.stop j H ∧ Nx H) ∨ (J1.go j H ∧ ∃ Nx1 : Hp → Prop, (∀ H', Nx1 H' → ∃ k', k' < k ∧ W1 (j + 1) k' H') ∧ ∀ x H', J1.yld j H x H' → g1 x (L2.wipe σ2 vs1) H' fun σ3 H5 => L2.wipe σ3 vs1 = L2.wipe σ2 vs1 ∧ tt1 σ3 H5 fun b H6 =>
        if b = true then te σ3 H6 fun y H7 => ∃ (c : Int) (is : List Int), y = .int c ∧ H7 D = some (ISet w D is) ∧ Asc is ∧ is.length + 1 < scanBound ∧ Nx1 (upd H7 D (ISet w D (insI c is))) else Nx1 H6)
    else Nx H3)
theorem insI_len {c : Int} : ∀ {is : List Int}, Asc is → (insI c is).length = if c ∈ is then is.length else is.length + 1
  | [], _ => by simp [insI]
  | x :: r, h => by
    have h' := List.pairwise_cons.mp h
    unfold insI
    split
    · rename_i q
      have : c ∉ x :: r := fun m => by
        rcases List.mem_cons.mp m with e | e
        · omega
        · have := h'.1 c e
          omega
      rw [if_neg this, List.length_cons]
    · split
      · rename_i e
        subst e
        simp
      · rename_i q1 q2
        rw [List.length_cons, insI_len h'.2]
        by_cases m : c ∈ r
        · simp [m]
        · simp [m, q2]
theorem iset_add {w : World} {D : Addr} {c : Int} {is : List Int} (h : Asc is) : SetO w D (fun j => decide (j ∈ is) || decide (j = c)) (if decide (c ∈ is) = true then is.length else is.length + 1) = ISet w D (insI c is) := by
  unfold ISet
  rw [insI_len h]
  congr 1
  · funext j
    rw [Bool.eq_iff_iff]
    simp [mem_insI, or_comm]
  · simp
theorem add_int {X : Cx} {pins : List (Addr × Obj)} {s : Shared} {σ : L2.St} {H : Hp} {D : Addr} {c : Int} {is : List Int} {v : Value} {Q : VK} (I : Inv X pins σ H s) (hD : H D = some (ISet X.w D is)) (ha : Asc is) (room : is.length + 1 < scanBound) (rv : RelV (.int c) v)
    (q : Q .non (upd H D (ISet X.w D (insI c is)))) : wpAny (model X.prog X.w) X.A (call (.builtin "set.add") [.ref D, v]) (EP X pins σ Q) X.xe s :=
  mt_sadd pins s σ H (.ref D) [.int c] (.ref D) [v] Q I rfl (.cons rv .nil) ⟨D, c, _, is.length, rfl, rfl, hD, room, by rw [iset_add ha]; exact q⟩
/-- what holds in the block between turns of the outer clause -/
theorem pe_sc2 {elt tg iter tg1 iter1 : Expr} {ifs ifs1 : List Expr} {scope : Scope} {own : List (Str × Nat)} {vs1 : List Nat} {pos : Pos} {wi wi1 : TI} {g g1 : TG} {tt tt1 : TT} {te : TE}
    (hc : X.calm = true) (hN : X.N.Nodup) (hi : PI X tg iter wi) (ok : BlkOk X.N X.env.scope scope own) (hv : ∀ i ∈ vs1, i ∈ own.map (·.2))
    (hg : ∀ s H C cl fp, PG (X.blk s H scope (compEnvC scope cl C X.env) fp) tg g) (ht : ∀ s H C cl fp, PTs (X.blk s H scope (compEnvC scope cl C X.env) fp) ifs tt)
    (hi1 : ∀ s H C cl fp, PI (X.blk s H scope (compEnvC scope cl C X.env) fp) tg1 iter1 wi1) (hg1 : ∀ s H C cl fp, PG (X.blk s H scope (compEnvC scope cl C X.env) fp) tg1 g1)
    (ht1 : ∀ s H C cl fp, PTs (X.blk s H scope (compEnvC scope cl C X.env) fp) ifs1 tt1) (he : ∀ s H C cl fp, PE (X.blk s H scope (compEnvC scope cl C X.env) fp) elt te)
    (hs : ∀ x, foldedSetIterable iter X.env x = pure x) (hs1 : ∀ env x, foldedSetIterable iter1 env x = pure x) :
    PE X (.SetComp elt [⟨tg, iter, ifs, 0⟩, ⟨tg1, iter1, ifs1, 0⟩] scope pos) (tSc2 X.w wi g tt wi1 g1 tt1 te (own.map (·.2)) vs1) := by
  refine ⟨fun pins s σ H Q I h => ?_⟩
  rw [PpSet.eval_SetComp]
  have hfree : ∀ y ∈ scope.names, y.2 = .free → ∃ c, X.env.cells.lookup y.1 = some c := fun y hy e => (ok.free y hy e).elim (fun k => I.ok.has _ (.inl k)) fun k => I.ok.has _ (.inr k)
  refine wpAny_comprehension_free (use := none) rfl hs (closure_ok hfree) ok.kind (fun y hy e => by rw [ok.uniq y hy, e]) (thn (hi.run pins s σ H _ I h) fun xv s1 hx => thn hx fun itv s2 h2 => ?_)
  obtain ⟨it, fp, tn, J, H2, rfl, I2, T, st2, f2, q⟩ := h2
  refine PpSet.newSet_ok (newEnv_comp ?_)
  generalize hD : s2.heap.objs.size = D
  have hDn : H2 D = none := I2.hok.fresh (Nat.le_of_eq hD)
  obtain ⟨W, ⟨m0, w0⟩, turn⟩ := q D hDn
  generalize hs3 : ({ s2 with heap := s2.heap.push { cls := .type "set", dict := none, data := .set #[] 0 (.fresh 0 0 (!X.w.params.followText "set-order")) } } : Shared) = s3
  have h3 : s3.heap = s2.heap.push { cls := .type "set", dict := none, data := .set #[] 0 (.fresh 0 0 (!X.w.params.followText "set-order")) } := by rw [← hs3]
  generalize hH3 : upd H2 D (ISet X.w D []) = H3 at w0
  have I3 : Inv X pins σ H3 s3 := by
    rw [← hs3, ← hH3]
    refine I2.laid (t' := s2.toks) (fun b o e => Heap.get?_push_of_some _ e) (Nat.le_of_eq hD) ?_
    rw [← hD]
    exact setO_new ((setR_fresh X.w).congr fun k => by simp)
  have f3 : ∀ b ∈ fp, FpOk X pins H3 b ∧ b < s3.heap.objs.size := fun b hb => by
    obtain ⟨o, e, _⟩ := T.obj _ _ st2 b hb
    have hlt := Heap.lt_size e
    refine ⟨⟨?_, (f2 b hb).2⟩, by rw [h3, Heap.size_push]; exact Nat.lt_succ_of_lt hlt⟩
    rw [← hH3, upd_ne (by rw [← hD]; exact Nat.ne_of_lt hlt)]
    exact (f2 b hb).1
  have st3 : tn 0 s3.heap := T.keep _ _ _ st2 fun b _ o e => by rw [h3]; exact Heap.get?_push_of_some _ e
  have I4 := block_start I3 ok hN f3
  generalize hcl : cellsFrom (s3.heap.objs.size + 1) scope.names (cloFrom X.env.cells scope.names []) = cl at I4
  have pg := hg s3 H3 s3.heap.objs.size cl fp
  have pt := ht s3 H3 s3.heap.objs.size cl fp
  have pe := he s3 H3 s3.heap.objs.size cl fp
  have pi1 := hi1 s3 H3 s3.heap.objs.size cl fp
  have pg1 := hg1 s3 H3 s3.heap.objs.size cl fp
  have pt1 := ht1 s3 H3 s3.heap.objs.size cl fp
  show codeAny _ _ (.compStart (.SetComp elt [⟨tg, iter, ifs, 0⟩, ⟨tg1, iter1, ifs1, 0⟩] scope pos) 0 (.ref it) (.ref D) (compEnvC scope cl s3.heap.objs.size X.env)) (compPost (model X.prog X.w) X.A X.xe none (EP X pins σ Q) (.ref D) s3.heap.objs.size) { s3 with heap := pushCells (s3.heap.push { cls := .type "dict", data := .dict #[] }) scope.names }
  generalize hQ : compPost (model X.prog X.w) X.A X.xe none (EP X pins σ Q) (.ref D) s3.heap.objs.size = Qe
  have nfp : ∀ b ∈ fp, H3 b = none := fun b hb => (f3 b hb).1.1
  generalize hce : compEnvC scope cl s3.heap.objs.size X.env = ce at I4 pg pt pe pi1 pg1 pt1 ⊢
  have cL : ce.locals = s3.heap.objs.size := by subst hce; rfl
  generalize hs4 : ({ s3 with heap := pushCells (s3.heap.push { cls := .type "dict", data := .dict #[] }) scope.names } : Shared) = s4 at I4 ⊢
  have st4 : tn 0 s4.heap := T.keep _ _ _ st3 fun b _ o e => by rw [← hs4]; exact pushCells_keeps _ _ _ _ (Heap.get?_push_of_some _ e)
  let vs := own.map (·.2)
  -- between turns of the outer clause
  have stat : ∀ {σ' : L2.St} {H' : Hp} {s' : Shared}, Inv (X.blk s3 H3 scope ce fp) [] σ' H' s' → (∀ b ∈ fp, H' b = none) → ∀ b ∈ fp, FpOk (X.blk s3 H3 scope ce fp) [] H' b := fun {σ' H' s'} I' hn b hb =>
    ⟨hn b hb, (I'.ok.exf b hb).1, I'.ok.exfs b hb, .inl hb, fun x c e => (I'.ok.exf b hb).2 x c e, fun p hp => absurd (show p ∈ ([] : List (Addr × Obj)) ++ [] from hp) (by simp)⟩
  let Out : Nat → Shared → Prop := fun n s' => ∃ i H', Inv (X.blk s3 H3 scope ce fp) [] (L2.wipe σ vs) H' s' ∧ tn i s'.heap ∧ (∀ b ∈ fp, H' b = none) ∧ W i n H'
  have loop : codeAny (model X.prog X.w) X.A (.compLoop (.SetComp elt [⟨tg, iter, ifs, 0⟩, ⟨tg1, iter1, ifs1, 0⟩] scope pos) 0 (.ref it) (.ref D) ce) Qe s4 := by
    refine loopS_out (hs1 ce) Out ?_ m0 ⟨0, H3, I4, st4, nfp, w0⟩
    rintro n s5 ⟨i, H5, I5, st5, n5, w5⟩
    rcases turn i n H5 w5 with ⟨stop, qq⟩ | ⟨go, Nx, hNx, step⟩
    · -- the end: back in the def
      refine thnF (T.done (X.blk s3 H3 scope ce fp) rfl rfl rfl hc i [] s5 _ H5 (fun _ _ => False) I5 (stat I5 n5) st5 stop) fun r s6 ⟨hr, I6⟩ => ?_
      subst hr
      have I7 : Inv X pins σ H5 s6 := I3.call' (ch := fp) I6.os I6.base I6.hok I6.bare fun b hb => ⟨(f3 b hb).1.2.2.2.1, (f3 b hb).1.2.1, (f3 b hb).1.2.2.2.2.1, (f3 b hb).1.2.2.2.2.2⟩
      have nC : H5 s3.heap.objs.size = none := by
        have z : H5 ce.locals = none := I6.free
        rw [cL] at z
        exact z
      obtain ⟨m, hn, _⟩ := I6.loc
      have hn : s6.heap.Ns ce.locals m := hn
      rw [cL] at hn
      obtain ⟨a0, a1, _, a3, a4, a5⟩ := I3.fpOk (Nat.le_refl _) nC
      rw [← hQ]
      exact ⟨m, hn, fun h'' sb => ⟨.ref D, H5, I7.turned (t' := s6.toks) (fun b o hb e => (sb.2 b hb).trans e) a0 a1 a3 a4 a5, rfl, qq⟩⟩
    · refine thnF (T.item (X.blk s3 H3 scope ce fp) rfl rfl rfl hc i [] s5 _ H5 (fun _ _ => False) I5 (stat I5 n5) st5 go) fun r s6 ⟨u, hr, h6⟩ => ?_
      subst hr
      refine thnF h6 fun _ s7 ⟨x, H7, I7, r7, y7, st7, n7⟩ => ?_
      refine thnF (pg.run _ s7 _ H7 x u _ (I7.pinned (stat I7 n7) (T.obj _ _ st7)) r7 (step x H7 y7)) fun _ s8 ⟨σ8, H8, I8, hw8, q8⟩ => ?_
      refine thnF (pt.run _ s8 σ8 H8 _ I8 q8) fun b s9 ⟨H9, I9, q9⟩ => ?_
      have back : ∀ {σ9 : L2.St} {s' : Shared} {H' : Hp}, Inv (X.blk s3 H3 scope ce fp) ([] ++ pinsAt fp s7.heap) σ9 H' s' → (L2.wipe σ vs).length = σ9.length → (∀ (j : Nat) v, (L2.wipe σ vs)[j]? = some (some v) → σ9[j]? = some (some v)) → Nx H' → ∃ m, m < n ∧ Out m s' := fun {σ9 s' H'} I' hl hk nx => by
        obtain ⟨m', hm, w'⟩ := hNx H' nx
        have pin' : ∀ b ∈ fp, ∀ o, s7.heap.get? b = some o → s'.heap.get? b = some o ∧ H' b = none := fun b hb o e =>
          let z := I'.pin (b, o) (List.mem_append_right _ (List.mem_append_right _ (mem_pinsAt hb e)))
          ⟨z.1, z.2.1⟩
        refine ⟨m', hm, i + 1, H', (I'.unpinned (pins := [])).weak hl hk, T.keep _ _ _ st7 fun b hb o e => (pin' b hb o e).1, fun b hb => ?_, w'⟩
        obtain ⟨o, e, _⟩ := T.obj _ _ st7 b hb
        exact (pin' b hb o e).2
      have l8 : (L2.wipe σ vs).length = σ8.length := by rw [← hw8, wipe_length]
      have k8 : ∀ (j : Nat) v, (L2.wipe σ vs)[j]? = some (some v) → σ8[j]? = some (some v) := fun j v e => by
        rw [← hw8] at e
        exact (wipe_some e).1
      have k9 : ∀ (j : Nat) v, (L2.wipe σ vs)[j]? = some (some v) → (L2.wipe σ8 vs1)[j]? = some (some v) := fun j v e => by
        rw [← hw8] at e
        obtain ⟨e1, e2⟩ := wipe_some e
        rw [wipe_out fun z => e2 (hv j z)]
        exact e1
      match b, q9 with
      | false, q9 => exact back I9 l8 k8 q9
      | true, q9 =>
        refine thnF (pi1.run _ s9 σ8 H9 _ I9 q9) fun xv s10 hx => thnF hx fun itv s11 h11 => ?_
        obtain ⟨it1, fp1, tn1, J1, H11, rfl, I11, T1, st11, f11, W1, ⟨m1, w1⟩, turn1⟩ := h11
        -- the inner clause
        have stat1 : ∀ {H' : Hp}, (∀ b ∈ fp1, H' b = none) → ∀ b ∈ fp1, FpOk (X.blk s3 H3 scope ce fp) ([] ++ pinsAt fp s7.heap) H' b := fun hn b hb => ⟨hn b hb, (f11 b hb).2⟩
        let In : Nat → Shared → Prop := fun k s' => ∃ j H', Inv (X.blk s3 H3 scope ce fp) ([] ++ pinsAt fp s7.heap) (L2.wipe σ8 vs1) H' s' ∧ tn1 j s'.heap ∧ (∀ b ∈ fp1, H' b = none) ∧ W1 j k H'
        have loop1 : codeAny (model X.prog X.w) X.A (.compLoop (.SetComp elt [⟨tg, iter, ifs, 0⟩, ⟨tg1, iter1, ifs1, 0⟩] scope pos) 1 (.ref it1) (.ref D) ce)
            (fun r s' => match r with
              | .ok _ => ∃ m, m < n ∧ Out m s'
              | .error _ => False) s11 := by
          refine loopS_in In ?_ m1 ⟨0, H11, I11.weak (wipe_length _ _) (fun j v e => (wipe_some e).1), st11, fun b hb => (f11 b hb).1, w1⟩
          rintro k s12 ⟨j, H12, I12, st12, n12, w12⟩
          rcases turn1 j k H12 w12 with ⟨stop1, nx1⟩ | ⟨go1, Nx1, hNx1, step1⟩
          · refine thnF (T1.done (X.blk s3 H3 scope ce fp) rfl rfl rfl hc j _ s12 _ H12 (fun _ _ => False) I12 (stat1 n12) st12 stop1) fun r s13 ⟨hr, I13⟩ => ?_
            subst hr
            exact back I13 (l8.trans (wipe_length σ8 vs1).symm) k9 nx1
          · refine thnF (T1.item (X.blk s3 H3 scope ce fp) rfl rfl rfl hc j _ s12 _ H12 (fun _ _ => False) I12 (stat1 n12) st12 go1) fun r s13 ⟨u1, hr, h13⟩ => ?_
            subst hr
            refine thnF h13 fun _ s14 ⟨x1, H14, I14, r14, y14, st14, n14⟩ => ?_
            refine thnF (pg1.run _ s14 _ H14 x1 u1 _ (I14.pinned (stat1 n14) (T1.obj _ _ st14)) r14 (step1 x1 H14 y14)) fun _ s15 ⟨σ15, H15, I15, hw15, q15⟩ => ?_
            refine thnF (pt1.run _ s15 σ15 H15 _ I15 q15) fun b1 s16 ⟨H16, I16, q16⟩ => ?_
            have back1 : ∀ {s' : Shared} {H' : Hp}, Inv (X.blk s3 H3 scope ce fp) (([] ++ pinsAt fp s7.heap) ++ pinsAt fp1 s14.heap) σ15 H' s' → Nx1 H' → ∃ m, m < k ∧ In m s' := fun {s' H'} I' nx => by
              obtain ⟨m', hm, w'⟩ := hNx1 H' nx
              have pin' : ∀ b ∈ fp1, ∀ o, s14.heap.get? b = some o → s'.heap.get? b = some o ∧ H' b = none := fun b hb o e =>
                let z := I'.pin (b, o) (List.mem_append_right _ (List.mem_append_right _ (mem_pinsAt hb e)))
                ⟨z.1, z.2.1⟩
              refine ⟨m', hm, j + 1, H', I'.unpinned.weak (by rw [← hw15, wipe_length]) (fun j v e => by rw [← hw15] at e; exact (wipe_some e).1), T1.keep _ _ _ st14 fun b hb o e => (pin' b hb o e).1, fun b hb => ?_, w'⟩
              obtain ⟨o, e, _⟩ := T1.obj _ _ st14 b hb
              exact (pin' b hb o e).2
            match b1, q16 with
            | false, q16 => exact back1 I16 q16
            | true, q16 =>
              refine thnF (pe.run _ s16 σ15 H16 _ I16 q16) fun z s17 ⟨yv, H17, I17, r17, cc, is, ey, hD17, asc, room, nx⟩ => ?_
              subst ey
              exact thnF (add_int (X := (X.blk s3 H3 scope ce fp)) (Q := fun _ H' => Nx1 H') I17 hD17 asc room r17 nx) fun _ s18 ⟨_, H18, I18, _, nx18⟩ => back1 I18 nx18
        exact startS_in loop1 (T1.self X.A 0 _ _ _ st11 loop1)
  exact PpSet.codeAny_compStart_set loop (T.self X.A 0 _ _ _ st4 loop)
end
end Kin
end
section
set_option linter.all false
/-! Kin 1: data, compact programs, the evaluator: pure functions. -/
namespace Kin
open PySem

/-- data: tuples by value, the rest by number -/
inductive D where
  | non
  | bl (b : Bool)
  | int (i : Int)
  | str (x : Str)
  | tup (ds : List D)
  | ref (n : Nat)
  deriving Inhabited

abbrev Flds := List (Str × D)
/-- what stands at a number -/
inductive AO where
  | lst (ds : List D)
  | frz (ds : List D)
  | dct (kvs : List (L2.Key × D))
  | ins (c : Nat) (fs : Flds)
  | iset (is : List Int)
  deriving Inhabited
abbrev AH := List AO
/-- a raised error -/
structure Ex where
  c : Nat
  fs : Flds

inductive Res (α : Type) where
  | ok (a : α) (A : AH)
  | exc (x : Ex) (A : AH)
  | bad

inductive Bm where | append | extend | pop | get | setd | join | split
  deriving DecidableEq
inductive BOp where | add | sub | mul | fdiv | mod
  deriving DecidableEq
inductive COp where | eq | ne | lt | le | gt | ge | isn | notn | inn | nin
  deriving DecidableEq
inductive Blt where
  | len | list | tuple | sum | all | any | abs | int | bool | min | max | repr | sorted | set | str
  deriving DecidableEq
inductive Ty where | int | bool | str | tuple | list | dict
  deriving DecidableEq

mutual
inductive CE where
  | bad
  | slot (i : Nat)
  | cst (d : D)
  | tup (es : List CE)
  | lst (es : List CE)
  | star (t : Bool) (es : List (Bool × CE))
  | dct (kvs : List (CE × CE))
  | bin (op : BOp) (a b : CE)
  | neg (a : CE)
  | cmp (op : COp) (a b : CE)
  | chain (op op' : COp) (a b c : CE)
  | and (a : CE) (b : CE)
  | or (a : CE) (b : CE)
  | not (a : CE)
  | ite (c a b : CE)
  | idx (a i : CE)
  | slc (a : CE) (lo hi : Option CE)
  | rev (a : CE)
  | call (f : Nat) (es : List CE)
  | meth (b : Bm) (a : CE) (es : List CE)
  | blt (b : Blt) (es : List CE)
  | listR (es : List CE)
  | isi (a : CE) (cs : List Ty)
  | comp (elt : CE) (t : CT) (it : CI) (ifs : List CE) (own : List Nat)
  | comp2 (st : Bool) (elt : CE) (t : CT) (it : CI) (ifs : List CE) (t1 : CT) (it1 : CI) (ifs1 : List CE) (own own1 : List Nat)
  | new (c : Nat) (es : List CE)
  | attr (a : CE) (f : Str)
  | mcall (a : CE) (m : Str) (es : List CE)
  | isc (a : CE) (c : Nat)
  | sset (a : CE)
inductive CI where
  | bad
  | seq (e : CE)
  | rng (es : List CE)
  | enum (e : CE)
  | zip (a b : CE)
inductive CT where
  | bad
  | slot (i : Nat)
  | tup (ts : List CT)
  | item (a i : CE)
end

inductive CS where
  | bad
  | ex (e : CE)
  | asg (t : CT) (e : CE)
  | par (is : List Nat) (es : List CE)
  | aug (i : Nat) (op : BOp) (e : CE)
  | ret (e : CE)
  | cond (c : CE) (a b : List CS)
  | loop (t : CT) (it : CI) (b : List CS)
  | while (c : CE) (b : List CS)
  | sta (a : CE) (f : Str) (e : CE)
  | brk | cont | pass

structure CDef where
  name : Str
  nps : Nat
  n : Nat
  body : List CS
/-- a class: its __init__, its methods, the names that its instances have -/
structure CCls where
  name : Str
  init : Nat
  meths : List (Str × Nat)
  flds : List Str
structure CProg where
  defs : List CDef
  cls : List CCls

/-! ### primitives -/
def lim : Nat := 16777216
def new (A : AH) (o : AO) : D × AH := (.ref A.length, A ++ [o])
def Res.of {α : Type} : Option (α × AH) → Res α
  | some (a, A) => .ok a A
  | none => .bad
def Res.of1 {α : Type} (A : AH) : Option α → Res α
  | some a => .ok a A
  | none => .bad
def Res.bind {α β : Type} (r : Res α) (f : α → AH → Res β) : Res β :=
  match r with
  | .ok a A => f a A
  | .exc x A => .exc x A
  | .bad => .bad
/-- no error may leave here -/
def Res.calm {α : Type} (r : Res α) : Res α :=
  match r with
  | .ok a A => .ok a A
  | _ => .bad

def onB {α : Type} (o : Option Bool) (t f : Res α) : Res α :=
  match o with
  | some true => t
  | some false => f
  | none => .bad
def negD : D → Option D
  | .int i => some (.int (-i))
  | _ => none
def intOf : D → Option Int
  | .int i => some i
  | _ => none
def tupOf : D → Option (List D)
  | .tup ds => some ds
  | _ => none
/-- the items of a list or a tuple -/
def seqOf (d : D) (A : AH) : Option (List D) :=
  match d with
  | .tup ds => some ds
  | .ref n => match A[n]? with
    | some (.lst ds) => some ds
    | some (.frz ds) => some ds
    | _ => none
  | _ => none
def lstOf (d : D) (A : AH) : Option (List D) :=
  match d with
  | .ref n => match A[n]? with
    | some (.lst ds) => some ds
    | _ => none
  | _ => none

def dctOf (d : D) (A : AH) : Option (List (L2.Key × D)) :=
  match d with
  | .ref n => match A[n]? with
    | some (.dct kvs) => some kvs
    | _ => none
  | _ => none
/-- a set of integers, in order -/
def setOf (d : D) (A : AH) : Option (List Int) :=
  match d with
  | .ref n => match A[n]? with
    | some (.iset is) => some is
    | _ => none
  | _ => none
def kD : L2.Key → D
  | .inl i => .int i
  | .inr x => .str x
def allS {α : Type} : List (Option α) → Option (List α)
  | [] => some []
  | some a :: r => (allS r).map (a :: ·)
  | none :: _ => none
/-- what is read through all numbers: as it is shown, ordered, compared -/
def pyD : Nat → AH → D → Option PyData
  | 0, _, _ => none
  | n + 1, A, d => match d with
    | .non => some .none
    | .bl b => some (.bool b)
    | .int i => some (.int i)
    | .str x => some (.str x)
    | .tup ds => (allS (ds.map (pyD n A))).map .tuple
    | .ref k => (seqOf (.ref k) A).bind fun ds => (allS (ds.map (pyD n A))).map .list
def deep : Nat := 60
def eqP (a b : D) (A : AH) : Option Bool :=
  match pyD deep A a, pyD deep A b with
  | some p, some q => if SeqAt.shaped p && SeqAt.shaped q then some (PyData.eqv p q) else none
  | _, _ => none
/-- the order of what is alike -/
def ordO (op : COp) (p q : PyData) : Option Bool :=
  match op with
  | .lt => some (PySem.W.dataLt p q)
  | .gt => some (PySem.W.dataLt q p)
  | .le => some (!PySem.W.dataLt q p)
  | .ge => some (!PySem.W.dataLt p q)
  | _ => none
def notNone : PyData → Bool
  | .none => false
  | _ => true
def ordP (op : COp) (a b : D) (A : AH) : Option Bool :=
  match pyD deep A a, pyD deep A b with
  | some p, some q => if PySem.W.alike p q && notNone p && decide (p.depth ≤ 64) then ordO op p q else none
  | _, _ => none
def showP (p : PyData) : Option Str := if p.showable && !p.hasDict && decide (p.depth ≤ 64) && decide (p.shown.length ≤ lim) then some p.shown else none
/-- a tuple of integers -/
def iTup : PyData → Option (List Int)
  | .tuple ps => allS (ps.map fun p => match p with | .int i => some i | _ => none)
  | _ => none
def sortB (ps : List PyData) : Bool := (ps.all fun p => decide (p.depth ≤ 64) && ps.all fun q => PySem.W.alike p q) && ((ps.all fun p => match p with | .tuple (_ :: _) => true | _ => false) || ps.all fun p => match p with | .tuple _ => false | .none => false | _ => true)
def sortP {α : Type} (ds : List α) (ps : List PyData) : List α := ((ds.zip ps).mergeSort (PySem.W.dataLe false fun b => b.2)).map (·.1)
/-- in order, by what they are shown as -/
def sortD (ds : List D) (A : AH) : Option (List D) := (allS (ds.map (pyD deep A))).bind fun ps => if sortB ps && decide (ds.length ≤ lim) then some (sortP ds ps) else none
def binD (op : BOp) (a b : D) (A : AH) : Option (D × AH) :=
  match op, a, b with
  | .add, .int i, .int j => some (.int (i + j), A)
  | .sub, .int i, .int j => some (.int (i - j), A)
  | .mul, .int i, .int j => if (-(2 ^ 64) < i ∧ i < 2 ^ 64) ∨ (-(2 ^ 64) < j ∧ j < 2 ^ 64) then some (.int (i * j), A) else none
  | .fdiv, .int i, .int j => if 0 < j ∧ j < 1073741824 then some (.int (i / j), A) else none
  | .mod, .int i, .int j => if 0 < j then some (.int (i % j), A) else none
  | .add, .str x, .str y => if x.length + y.length ≤ lim then some (.str (x ++ y), A) else none
  | .add, .tup xs, .tup ys => if xs.length + ys.length ≤ lim then some (.tup (xs ++ ys), A) else none
  | .add, .ref m, .ref n => match lstOf (.ref m) A, lstOf (.ref n) A with
    | some xs, some ys => if xs.length + ys.length ≤ lim then some (new A (.lst (xs ++ ys))) else none
    | _, _ => none
  | .mul, .ref m, .int k => match lstOf (.ref m) A with
    | some xs => if 0 ≤ k ∧ k ≤ 16777216 ∧ xs.length * k.toNat ≤ lim then some (new A (.lst (List.replicate k.toNat xs).flatten)) else none
    | none => none
  | _, _, _ => none

def truthD (d : D) (A : AH) : Option Bool :=
  match d with
  | .non => some false
  | .bl b => some b
  | .int i => some (i != 0)
  | .str x => if x.length ≤ lim then some ((x.length : Int) != 0) else none
  | .tup ds => some (!ds.isEmpty)
  | .ref n => match A[n]? with
    | some (.lst ds) => some (!ds.isEmpty)
    | some (.frz ds) => some (!ds.isEmpty)
    | some (.dct kvs) => some (!kvs.isEmpty)
    | _ => none

/-- what has no parts -/
def flatD : D → Bool
  | .non => true
  | .bl _ => true
  | .int _ => true
  | .str _ => true
  | _ => false
def eqF : D → D → Bool
  | .non, .non => true
  | .bl a, .bl b => a == b
  | .bl a, .int b => (if a then 1 else 0) == b
  | .int a, .bl b => a == (if b then 1 else 0)
  | .int a, .int b => a == b
  | .str a, .str b => a == b
  | _, _ => false
/-- whether what stands there has parts in a row -/
def isSeq (d : D) (A : AH) : Bool := (seqOf d A).isSome
def eqD (a b : D) (A : AH) : Option Bool :=
  if flatD a && flatD b then some (eqF a b)
  else if (flatD a && isSeq b A) || (flatD b && isSeq a A) then some false
  else eqP a b A

def kGet (kvs : List (L2.Key × D)) (k : L2.Key) : Option D := (kvs.find? fun p => decide (p.1 = k)).map (·.2)
def kPut (kvs : List (L2.Key × D)) (k : L2.Key) (v : D) : List (L2.Key × D) :=
  if (kvs.any fun p => decide (p.1 = k)) = true then kvs.map (fun p => if p.1 = k then (p.1, v) else p) else kvs ++ [(k, v)]
def keyD : D → Option L2.Key
  | .int i => some (.inl i)
  | .str x => some (.inr x)
  | _ => none
def isDct (d : D) (A : AH) : Bool := match d with
  | .ref n => (match A[n]? with
    | some (.dct _) => true
    | _ => false)
  | _ => false
def isStrD : D → Bool
  | .str _ => true
  | _ => false
/-- in a list or a tuple of things without parts -/
def inD0 (x : D) (y : D) (A : AH) : Option Bool :=
  match seqOf y A with
  | some ys => if ys.all flatD then (if flatD x then some (ys.any fun z => eqF z x) else if isSeq x A || (isDct x A && ys.all isStrD) then some false else none) else none
  | none => match dctOf y A with
    | some kvs => (keyD x).map fun k => (kGet kvs k).isSome
    | none => match setOf y A with
      | some is => (intOf x).map fun i => decide (i ∈ is)
      | none => none

/-- one sign in a text; data in a list or a tuple of data -/
def inD1 (x : D) (y : D) (A : AH) : Option Bool :=
  match x, y with
  | .str c, .str z => (match c.cps.toList with
    | [k] => some (decide (k ∈ z.cps.toList))
    | _ => none)
  | x, y => match pyD deep A x, pyD deep A y with
    | some p, some (.list ps) => if SeqAt.shaped p && SeqAt.shaped (.list ps) then some (ps.any fun z => PyData.eqv z p) else none
    | some p, some (.tuple ps) => if SeqAt.shaped p && SeqAt.shaped (.tuple ps) then some (ps.any fun z => PyData.eqv z p) else none
    | _, _ => none
def inD (x : D) (y : D) (A : AH) : Option Bool := match inD0 x y A with
  | some b => some b
  | none => inD1 x y A
def cmpI (op : COp) (i j : Int) : Option Bool :=
  match op with
  | .lt => some (decide (i < j))
  | .le => some (decide (i ≤ j))
  | .gt => some (decide (j < i))
  | .ge => some (decide (j ≤ i))
  | _ => none
def cmpD (op : COp) (a b : D) (A : AH) : Option Bool :=
  match op with
  | .eq => eqD a b A
  | .ne => if flatD a && flatD b then some (!eqF a b) else (eqP a b A).map (!·)
  | .isn => match b with | .non => (match a with | .non => some true | _ => some false) | _ => none
  | .notn => match b with | .non => (match a with | .non => some false | _ => some true) | _ => none
  | .inn => inD a b A
  | .nin => (inD a b A).map (!·)
  | _ => match a, b with
    | .int i, .int j => cmpI op i j
    | _, _ => ordP op a b A

def idxD (a i : D) (A : AH) : Option D :=
  match a, i with
  | .tup ds, .int k => L2.atI ds k
  | .str x, .int k => if x.length ≤ lim then (L2.atI x.cps.toList k).map fun c => .str ⟨#[c]⟩ else none
  | .ref n, k => match A[n]? with
    | some (.lst ds) => match k with
      | .int k => L2.atI ds k
      | _ => none
    | some (.frz ds) => match k with
      | .int k => L2.atI ds k
      | _ => none
    | some (.dct kvs) => (keyD k).bind (kGet kvs)
    | _ => none
  | _, _ => none
def setIdx (a i v : D) (A : AH) : Option AH :=
  match a with
  | .ref n => match A[n]? with
    | some (.lst ds) => match i with
      | .int k => (L2.ixN ds.length k).map fun j => A.set n (.lst (ds.set j v))
      | _ => none
    | some (.dct kvs) => (keyD i).bind fun k => if kvs.length < lim then some (A.set n (.dct (kPut kvs k v))) else none
    | _ => none
  | _ => none
def cut {α : Type} (xs : List α) (lo hi : Option Int) : List α := (xs.drop (HT.sIx xs.length 0 lo)).take (HT.sIx xs.length xs.length hi - HT.sIx xs.length 0 lo)
def slcD (a : D) (lo hi : Option Int) (A : AH) : Option (D × AH) :=
  match a with
  | .tup ds => some (.tup (cut ds lo hi), A)
  | .ref n => (seqOf (.ref n) A).map fun ds => new A (.lst (cut ds lo hi))
  | _ => none
def revD (a : D) (A : AH) : Option (D × AH) :=
  match a with
  | .tup ds => some (.tup ds.reverse, A)
  | _ => none
def intsD : List D → Option (List Int)
  | [] => some []
  | .int i :: r => (intsD r).map (i :: ·)
  | _ => none
def blsD : List D → Option (List Bool)
  | [] => some []
  | .bl i :: r => (blsD r).map (i :: ·)
  | _ => none
def topL : List Int → Option Int
  | [] => none
  | x :: r => some (r.foldl (fun a b => if b > a then b else a) x)
def lowL : List Int → Option Int
  | [] => none
  | x :: r => some (r.foldl (fun a b => if b < a then b else a) x)
/-- tuples of integers, in order -/
def lexLt : List Int → List Int → Bool
  | [], [] => false
  | [], _ :: _ => true
  | _ :: _, [] => false
  | x :: r, y :: q => decide (x < y) || (decide (x = y) && lexLt r q)
def insT (k : List Int) : List (List Int) → List (List Int)
  | [] => [k]
  | x :: r => if lexLt k x then k :: x :: r else if k = x then x :: r else x :: insT k r
def uniqT (l : List (List Int)) : List (List Int) := l.foldl (fun a k => insT k a) []
def tupsI : List D → Option (List (List Int))
  | [] => some []
  | .tup ds :: r => (intsD ds).bind fun k => (tupsI r).map (k :: ·)
  | _ => none
def alikeT : List (List Int) → Bool
  | [] => true
  | k :: r => decide (1 ≤ k.length) && (k :: r).all fun m => decide (m.length = k.length) && m.all fun i => decide (0 ≤ i)
def tupI (k : List Int) : D := .tup (k.map .int)
/-- sorted(set(x)) -/
def ssetD (d : D) (A : AH) : Option (D × AH) :=
  (seqOf d A).bind fun ds => match intsD ds with
    | some is => if (uniq is).length < 64 ∧ is.length < 4095 then some (new A (.lst ((uniq is).map .int))) else none
    | none => (lstOf d A).bind fun ds => (tupsI ds).bind fun ks => if decide (ks.length < 64) && alikeT ks then some (new A (.lst ((uniqT ks).map tupI))) else none
def callB (b : Blt) (vs : List D) (A : AH) : Option (D × AH) :=
  match b, vs with
  | .len, [.str x] => if x.length ≤ lim then some (.int x.length, A) else none
  | .len, [d] => (seqOf d A).map fun ds => (.int ds.length, A)
  | .list, [d] => match dctOf d A with
    | some kvs => some (new A (.lst (kvs.map fun p => kD p.1)))
    | none => (seqOf d A).map fun ds => new A (.lst ds)
  | .tuple, [d] => (seqOf d A).map fun ds => (D.tup ds, A)
  | .sum, [d] => ((lstOf d A).bind intsD).map fun is => (.int is.sum, A)
  | .all, [d] => ((lstOf d A).bind blsD).map fun bs => (.bl (bs.all id), A)
  | .any, [d] => ((lstOf d A).bind blsD).map fun bs => (.bl (bs.any id), A)
  | .abs, [.int i] => some (.int (if i < 0 then -i else i), A)
  | .int, [.int i] => some (.int i, A)
  | .int, [.bl b] => some (.int (if b then 1 else 0), A)
  | .int, [.str x] => (intText? x).bind fun n => if x.length ≤ 640 then some (.int n, A) else none
  | .str, [.int i] => if i.natAbs.log2 < 1920 then some (.str (toString i : String), A) else none
  | .str, [.str x] => some (.str x, A)
  | .bool, [.bl b] => some (.bl b, A)
  | .bool, [.int i] => some (.bl (i != 0), A)
  | .min, [.int i, .int j] => some (.int (if j < i then j else i), A)
  | .max, [.int i, .int j] => some (.int (if j > i then j else i), A)
  | .max, [.ref n] => (((lstOf (.ref n) A).bind intsD).bind topL).map fun i => (.int i, A)
  | .min, [.ref n] => (((lstOf (.ref n) A).bind intsD).bind lowL).map fun i => (.int i, A)
  | .repr, [d] => ((pyD deep A d).bind showP).map fun x => (.str x, A)
  | .sorted, [d] => match setOf d A with
    | some is => if is.length < 64 then some (new A (.lst (is.map .int))) else none
    | none => (seqOf d A).bind fun ds => (sortD ds A).map fun es => new A (.lst es)
  | .set, [d] => ((seqOf d A).bind intsD).bind fun is => if is.length < 4095 then some (new A (.iset (uniq is))) else none
  | _, _ => none
def strsD : List D → Option (List Str)
  | [] => some []
  | .str x :: r => (strsD r).map (x :: ·)
  | _ => none
/-- a method of what is built in: x.m(vs) -/
def methB (m : Bm) (x : D) (vs : List D) (A : AH) : Option (D × AH) :=
  match m, x, vs with
  | .append, .ref n, [v] => match A[n]? with
    | some (.lst ds) => if ds.length < lim then some (.non, A.set n (.lst (ds ++ [v]))) else none
    | _ => none
  | .extend, .ref n, [.ref k] => match A[n]?, A[k]? with
    | some (.lst ds), some (.lst es) => if ds.length + es.length ≤ lim then some (.non, A.set n (.lst (ds ++ es))) else none
    | _, _ => none
  | .extend, .ref n, [.tup es] => match A[n]? with
    | some (.lst ds) => if ds.length + es.length ≤ lim then some (.non, A.set n (.lst (ds ++ es))) else none
    | _ => none
  | .pop, .ref n, [] => match A[n]? with
    | some (.lst ds) => (ds[ds.length - 1]?).map fun d => (d, A.set n (.lst ds.dropLast))
    | _ => none
  | .join, .str x, [d] => ((seqOf d A).bind strsD).bind fun ys => if (ys.map (·.length)).sum + ys.length * x.length ≤ 16777216 then some (.str (Txt.join x ys), A) else none
  | .split, .str x, [.str y] => if y.length ≠ 0 ∧ x.length + 2 ≤ lim then some (new A (.lst ((Txt.split x y).map .str))) else none
  | .get, x, [y] => (dctOf x A).bind fun kvs => (keyD y).map fun k => ((kGet kvs k).getD .non, A)
  | .get, x, [y, d] => (dctOf x A).bind fun kvs => (keyD y).map fun k => ((kGet kvs k).getD d, A)
  | .setd, .ref n, [y, d] => (dctOf (.ref n) A).bind fun kvs => (keyD y).bind fun k => if kvs.length < lim then (match kGet kvs k with
    | some v => some (v, A)
    | none => some (d, A.set n (.dct (kPut kvs k d)))) else none
  | _, _, _ => none

def tyD (d : D) (A : AH) : List Ty :=
  match d with
  | .non => []
  | .bl _ => [.bool, .int]
  | .int _ => [.int]
  | .str _ => [.str]
  | .tup _ => [.tuple]
  | .ref n => match A[n]? with
    | some (.lst _) => [.list]
    | some (.frz _) => [.list]
    | some (.dct _) => [.dict]
    | _ => []

/-! ### instances -/
def insOf (d : D) (A : AH) : Option (Nat × Flds) :=
  match d with
  | .ref n => match A[n]? with
    | some (.ins c fs) => some (c, fs)
    | _ => none
  | _ => none
def putA (f : Str) (d : D) : Flds → Flds
  | [] => [(f, d)]
  | (g, x) :: r => if g = f then (g, d) :: r else (g, x) :: putA f d r
def fldB (P : CProg) (c : Nat) (f : Str) : Bool := match P.cls[c]? with
  | some cl => cl.flds.contains f
  | none => false
def methN (P : CProg) (c : Nat) (m : Str) : Option Nat := match P.cls[c]? with
  | some cl => cl.meths.lookup m
  | none => none
def attrD (P : CProg) (d : D) (f : Str) (A : AH) : Option D := (insOf d A).bind fun p => if fldB P p.1 f then p.2.lookup f else none
def staD (P : CProg) (d : D) (f : Str) (v : D) (A : AH) : Option AH :=
  match d with
  | .ref n => match A[n]? with
    | some (.ins c fs) => if fldB P c f && decide (fs.length < 1000) then some (A.set n (.ins c (putA f v fs))) else none
    | _ => none
  | _ => none
def methOf (P : CProg) (d : D) (m : Str) (A : AH) : Option Nat := (insOf d A).bind fun p => if (p.2.lookup m).isNone then methN P p.1 m else none
def ownEq (P : CProg) (op : COp) (d : D) (A : AH) : Option Nat :=
  match op with
  | .eq => (insOf d A).bind fun p => methN P p.1 "__eq__"
  | _ => none
def iscD (d : D) (c : Nat) (A : AH) : Option Bool :=
  match setOf d A with
  | some _ => none
  | none => some (match insOf d A with
    | some p => decide (p.1 = c)
    | none => false)

def isiD (d : D) (cs : List Ty) (A : AH) : Option Bool :=
  match setOf d A with
  | some _ => none
  | none => some (cs.any fun c => (tyD d A).contains c)
/-! ### the evaluator -/
abbrev Loc := List (Option D)
def wipe (L : Loc) : List Nat → Loc
  | [] => L
  | v :: vs => (wipe L vs).set v none
def getL (L : Loc) (i : Nat) : Option D :=
  match L[i]? with
  | some (some d) => some d
  | _ => none
structure Fns where
  call : Nat → List D → AH → Res D
/-- a walk: the i-th item, by what stands now -/
abbrev Wk := Nat → AH → Option (Option D)
def wkItems (ds : List D) : Wk := fun i _ => some ds[i]?
def wkLive (n : Nat) : Wk := fun i A => match A[n]? with
  | some (.lst ds) => some ds[i]?
  | _ => none
def wkEnum (w : Wk) : Wk := fun i A => (w i A).map fun o => o.map fun d => D.tup [.int (i : Nat), d]
def rngItems (lo hi : Int) : List D := (List.range (hi - lo).toNat).map fun k => D.int (lo + (k : Nat))
def okR (i j : Int) : Bool := decide (-(2 ^ 62) ≤ i ∧ i < 2 ^ 62 ∧ -(2 ^ 62) ≤ j ∧ j < 2 ^ 62)
def dnItems (i j : Int) : List D := (List.range (i - j).toNat).map fun k => D.int (i - (k : Nat))
def rngWk (ds : List D) : Option Wk :=
  match ds with
  | [.int j] => if okR 0 j then some (wkItems (rngItems 0 j)) else none
  | [.int i, .int j] => if okR i j then some (wkItems (rngItems i j)) else none
  | [.int i, .int j, .int k] => if okR i j && decide (k = -1) then some (wkItems (dnItems i j)) else none
  | _ => none
def rngLst (ds : List D) : Option (List D) :=
  match ds with
  | [.int j] => if okR 0 j && decide (j.toNat ≤ 2 ^ 24) then some (rngItems 0 j) else none
  | [.int i, .int j] => if okR i j && decide ((j - i).toNat ≤ 2 ^ 24) then some (rngItems i j) else none
  | _ => none
/-- the signs of a text -/
def signsD (x : Str) : List D := x.cps.toList.map fun c => .str ⟨#[c]⟩
def seqWk (d : D) (A : AH) : Option Wk :=
  match d with
  | .tup ds => some (wkItems ds)
  | .str x => some (wkItems (signsD x))
  | .ref n => match A[n]? with
    | some (.lst _) => some (wkLive n)
    | _ => none
  | _ => none
def enWk (d : D) (A : AH) : Option Wk := if isStrD d then none else (seqWk d A).map wkEnum
def zipWk (a b : D) : Option Wk :=
  match a, b with
  | .tup ds, .tup es => some (wkItems ((ds.zip es).map fun p => D.tup [p.1, p.2]))
  | _, _ => none
inductive SRes where
  | nx (L : Loc) (A : AH)
  | rt (d : D) (A : AH)
  | bk (L : Loc) (A : AH)
  | ct (L : Loc) (A : AH)
  | exc (x : Ex) (L : Loc) (A : AH)
  | bad
/-- over the walk: f d acc -/
def overW {α : Type} (w : Wk) (f : D → α → AH → Res α) : Nat → Nat → α → AH → Res α
  | 0, _, _, _ => .bad
  | k + 1, i, a, A => match w i A with
    | none => .bad
    | some none => .ok a A
    | some (some d) => (f d a A).bind fun a A => overW w f k (i + 1) a A
def fuel : Nat := 1000000
def isList (d : D) (A : AH) : Bool := (lstOf d A).isSome
def baseB (m : Bm) (d : D) (A : AH) : Bool :=
  match m with
  | .get => (dctOf d A).isSome
  | .setd => (dctOf d A).isSome
  | .join => isStrD d
  | .split => isStrD d
  | _ => isList d A

/-- one more: to a list, or to a set of integers -/
def addA (st : Bool) (acc : List D) (v : D) : Option (List D) :=
  match st with
  | true => match v, intsD acc with
    | .int i, some is => if is.length < 4094 then some ((insI i is).map .int) else none
    | _, _ => none
  | false => if acc.length < lim then some (acc ++ [v]) else none
def newA (st : Bool) (ds : List D) (A : AH) : Option (D × AH) :=
  match st with
  | true => (intsD ds).map fun is => new A (.iset is)
  | false => some (new A (.lst ds))
def cmpE (P : CProg) (F : Fns) (op : COp) (x y : D) (A : AH) : Res D :=
  match ownEq P op x A with
  | some i => if (setOf y A).isSome then .bad else (F.call i [x, y] A).calm.bind fun v A => match v with
    | .bl b => .ok (.bl b) A
    | _ => .bad
  | none => Res.of1 A ((cmpD op x y A).map .bl)
def newFin (n : Nat) (v : D) (A : AH) : Res D := match v with
  | .non => .ok (.ref n) A
  | _ => .bad
def initN (P : CProg) (c : Nat) : Option Nat := (P.cls[c]?).map fun cl => cl.init
mutual
def evE (P : CProg) (F : Fns) : CE → Loc → AH → Res D
  | .bad, _, _ => .bad
  | .slot i, L, A => Res.of1 A (getL L i)
  | .cst d, _, A => .ok d A
  | .tup es, L, A => (evEs P F es L A).bind fun ds A => if ds.length ≤ lim then .ok (.tup ds) A else .bad
  | .lst es, L, A => (evEs P F es L A).bind fun ds A => if ds.length ≤ lim then Res.of (some (new A (.lst ds))) else .bad
  | .star t es, L, A => (evStar P F es L A).bind fun ds A => if ds.length ≤ lim then (if t then .ok (.tup ds) A else Res.of (some (new A (.lst ds)))) else .bad
  | .dct kvs, L, A => (evKVs P F kvs L A).bind fun ps A => if ps.length ≤ 15 then Res.of (some (new A (.dct (ps.foldl (fun acc p => kPut acc p.1 p.2) [])))) else .bad
  | .bin op a b, L, A => (evE P F a L A).bind fun x A => (evE P F b L A).bind fun y A => Res.of (binD op x y A)
  | .neg a, L, A => (evE P F a L A).bind fun x A => Res.of1 A (negD x)
  | .cmp op a b, L, A => (evE P F a L A).bind fun x A => (evE P F b L A).bind fun y A => cmpE P F op x y A
  | .chain op op' a b c, L, A => (evE P F a L A).bind fun x A => (evE P F b L A).bind fun y A =>
    onB (cmpD op x y A) ((evE P F c L A).bind fun z A => Res.of1 A ((cmpD op' y z A).map .bl)) (.ok (.bl false) A)
  | .and a b, L, A => (evE P F a L A).bind fun x A => onB (truthD x A) (evE P F b L A) (.ok x A)
  | .or a b, L, A => (evE P F a L A).bind fun x A => onB (truthD x A) (.ok x A) (evE P F b L A)
  | .not a, L, A => (evE P F a L A).bind fun x A => Res.of1 A ((truthD x A).map fun b => .bl (!b))
  | .ite c a b, L, A => (evE P F c L A).bind fun x A => onB (truthD x A) (evE P F a L A) (evE P F b L A)
  | .idx a i, L, A => (evE P F a L A).bind fun x A => (evE P F i L A).bind fun y A => Res.of1 A (idxD x y A)
  | .slc a lo hi, L, A => (evE P F a L A).bind fun x A => (evO P F lo L A).bind fun l A => (evO P F hi L A).bind fun h A => Res.of (slcD x l h A)
  | .rev a, L, A => (evE P F a L A).bind fun x A => Res.of (revD x A)
  | .call f es, L, A => (evEs P F es L A).bind fun ds A => F.call f ds A
  | .meth m a es, L, A => (evE P F a L A).bind fun x A => if baseB m x A then (evEs P F es L A).bind fun ds A => Res.of (methB m x ds A) else .bad
  | .blt b es, L, A => (evEs P F es L A).bind fun ds A => Res.of (callB b ds A)
  | .listR es, L, A => (evEs P F es L A).bind fun ds A => Res.of ((rngLst ds).map fun l => new A (.lst l))
  | .isi a cs, L, A => (evE P F a L A).bind fun x A => Res.of1 A ((isiD x cs A).map .bl)
  | .comp elt t it ifs own, L, A => (evI P F it L A).bind fun w A =>
    (overW w (fun d acc A => ((asT P F t d (wipe L own) A).bind fun L A => (evIfs P F ifs L A).bind fun b A =>
      if b then (evE P F elt L A).bind fun v A => if acc.length < lim then .ok (acc ++ [v]) A else .bad else .ok acc A).calm) fuel 0 [] A).bind fun ds A => Res.of (some (new A (.lst ds)))
  | .comp2 st elt t it ifs t1 it1 ifs1 own own1, L, A => (evI P F it L A).bind fun w A =>
    (overW w (fun d acc A => ((asT P F t d (wipe L own) A).bind fun L1 A => (evIfs P F ifs L1 A).bind fun b A =>
      if b then (evI P F it1 L1 A).bind fun w1 A => overW w1 (fun d1 acc A => ((asT P F t1 d1 (wipe L1 own1) A).bind fun L2 A => (evIfs P F ifs1 L2 A).bind fun b A =>
        if b then (evE P F elt L2 A).bind fun v A => Res.of1 A (addA st acc v) else .ok acc A).calm) fuel 0 acc A
      else .ok acc A).calm) fuel 0 [] A).bind fun ds A => Res.of (newA st ds A)
  | .new c es, L, A => (evEs P F es L A).bind fun ds A => (Res.of1 A (initN P c)).bind fun i A =>
    (F.call i (.ref A.length :: ds) (A ++ [.ins c []])).bind (newFin A.length)
  | .attr a f, L, A => (evE P F a L A).bind fun x A => Res.of1 A (attrD P x f A)
  | .mcall a m es, L, A => (evE P F a L A).bind fun x A => (Res.of1 A (methOf P x m A)).bind fun i A => (evEs P F es L A).bind fun ds A => F.call i (x :: ds) A
  | .isc a c, L, A => (evE P F a L A).bind fun x A => Res.of1 A ((iscD x c A).map .bl)
  | .sset a, L, A => (evE P F a L A).bind fun x A => Res.of (ssetD x A)
def evEs (P : CProg) (F : Fns) : List CE → Loc → AH → Res (List D)
  | [], _, A => .ok [] A
  | e :: es, L, A => (evE P F e L A).bind fun d A => (evEs P F es L A).bind fun ds A => .ok (d :: ds) A
def evStar (P : CProg) (F : Fns) : List (Bool × CE) → Loc → AH → Res (List D)
  | [], _, A => .ok [] A
  | (b, e) :: es, L, A => (evE P F e L A).bind fun d A => if b then (Res.of1 A (seqOf d A)).bind fun xs A => (evStar P F es L A).bind fun ds A => .ok (xs ++ ds) A else (evStar P F es L A).bind fun ds A => .ok (d :: ds) A
def evKVs (P : CProg) (F : Fns) : List (CE × CE) → Loc → AH → Res (List (L2.Key × D))
  | [], _, A => .ok [] A
  | (k, v) :: es, L, A => (evE P F k L A).bind fun d A => (evE P F v L A).bind fun w A => (Res.of1 A (keyD d)).bind fun d A => (evKVs P F es L A).bind fun ds A => .ok ((d, w) :: ds) A
def evO (P : CProg) (F : Fns) : Option CE → Loc → AH → Res (Option Int)
  | none, _, A => .ok none A
  | some e, L, A => (evE P F e L A).bind fun d A => Res.of1 A ((intOf d).map some)
/-- the walk of an iterable -/
def evI (P : CProg) (F : Fns) : CI → Loc → AH → Res Wk
  | .bad, _, _ => .bad
  | .seq e, L, A => (evE P F e L A).bind fun d A => Res.of1 A (seqWk d A)
  | .rng es, L, A => (evEs P F es L A).bind fun ds A => Res.of1 A (rngWk ds)
  | .enum e, L, A => (evE P F e L A).bind fun d A => Res.of1 A (enWk d A)
  | .zip a b, L, A => (evE P F a L A).bind fun x A => (evE P F b L A).bind fun y A => Res.of1 A (zipWk x y)
/-- a target -/
def asT (P : CProg) (F : Fns) : CT → D → Loc → AH → Res Loc
  | .bad, _, _, _ => .bad
  | .slot i, d, L, A => .ok (L.set i (some d)) A
  | .tup ts, d, L, A => (Res.of1 A (tupOf d)).bind fun ds A => if ds.length = ts.length then asTs P F ts ds L A else .bad
  | .item a i, d, L, A => (evE P F a L A).bind fun x A => (evE P F i L A).bind fun y A => Res.of ((setIdx x y d A).map fun A => (L, A))
def asTs (P : CProg) (F : Fns) : List CT → List D → Loc → AH → Res Loc
  | t :: ts, d :: ds, L, A => (asT P F t d L A).bind fun L A => (asTs P F ts ds L A).calm
  | [], [], L, A => .ok L A
  | _, _, _, _ => .bad
def evIfs (P : CProg) (F : Fns) : List CE → Loc → AH → Res Bool
  | [], _, A => .ok true A
  | [c], L, A => (evE P F c L A).bind fun x A => Res.of1 A (truthD x A)
  | _, _, _ => .bad
end


/-- the turns of a for -/
def turnsW (w : Wk) (f : D → Loc → AH → SRes) : Nat → Nat → Loc → AH → SRes
  | 0, _, _, _ => .bad
  | k + 1, i, L, A => match w i A with
    | none => .bad
    | some none => .nx L A
    | some (some d) => match f d L A with
      | .nx L A => turnsW w f k (i + 1) L A
      | .ct L A => turnsW w f k (i + 1) L A
      | .bk L A => .nx L A
      | r => r
def whileN (c : Loc → AH → Res Bool) (f : Loc → AH → SRes) : Nat → Loc → AH → SRes
  | 0, _, _ => .bad
  | n + 1, L, A => match c L A with
    | .ok true A => (match f L A with
      | .nx L A => whileN c f n L A
      | .ct L A => whileN c f n L A
      | .bk L A => .nx L A
      | r => r)
    | .ok false A => .nx L A
    | .exc x A => .exc x L A
    | .bad => .bad
def SRes.ofE {α : Type} (L : Loc) (r : Res α) (f : α → AH → SRes) : SRes :=
  match r with
  | .ok a A => f a A
  | .exc x A => .exc x L A
  | .bad => .bad
def setAll : List Nat → List D → Loc → Option Loc
  | i :: is, d :: ds, L => setAll is ds (L.set i (some d))
  | [], [], L => some L
  | _, _, _ => none
def SRes.ofL (A : AH) : Option Loc → SRes
  | some L => .nx L A
  | none => .bad
def evT (P : CProg) (F : Fns) (c : CE) (L : Loc) (A : AH) : Res Bool := (evE P F c L A).bind fun x A => Res.of1 A (truthD x A)
mutual
def evS (P : CProg) (F : Fns) : CS → Loc → AH → SRes
  | .bad, _, _ => .bad
  | .ex e, L, A => SRes.ofE L (evE P F e L A) fun _ A => .nx L A
  | .asg t e, L, A => SRes.ofE L (evE P F e L A) fun d A => SRes.ofE L (asT P F t d L A) fun L A => .nx L A
  | .par is es, L, A => SRes.ofE L (evEs P F es L A) fun ds A => SRes.ofL A (setAll is ds L)
  | .aug i op e, L, A => (match L[i]? with
    | some (some x) => SRes.ofE L (evE P F e L A) fun y A => SRes.ofE L (Res.of (binD op x y A)) fun z A => .nx (L.set i (some z)) A
    | _ => .bad)
  | .ret e, L, A => SRes.ofE L (evE P F e L A) fun d A => .rt d A
  | .cond c a b, L, A => SRes.ofE L (evT P F c L A) fun x A => if x then evSs P F a L A else evSs P F b L A
  | .loop t it b, L, A => SRes.ofE L (evI P F it L A) fun w A => turnsW w (fun d L A => SRes.ofE L (asT P F t d L A) fun L A => evSs P F b L A) fuel 0 L A
  | .while c b, L, A => whileN (evT P F c) (fun L A => evSs P F b L A) fuel L A
  | .sta a f e, L, A => SRes.ofE L (evE P F e L A) fun d A => SRes.ofE L (evE P F a L A) fun x A => SRes.ofE L (Res.of1 A (staD P x f d A)) fun A' _ => .nx L A'
  | .brk, L, A => .bk L A
  | .cont, L, A => .ct L A
  | .pass, L, A => .nx L A
def evSs (P : CProg) (F : Fns) : List CS → Loc → AH → SRes
  | [], L, A => .nx L A
  | s :: ss, L, A => (match evS P F s L A with
    | .nx L A => evSs P F ss L A
    | r => r)
end
def SRes.ret (r : SRes) : Res D :=
  match r with
  | .nx _ A => .ok .non A
  | .rt v A => .ok v A
  | .exc x _ A => .exc x A
  | _ => .bad
def Fns.none : Fns := { call := fun _ _ _ => .bad }
/-- so many calls within one another -/
def fns (P : CProg) : Nat → Fns
  | 0 => .none
  | k + 1 => { call := fun f ds A => match P.defs[f]? with
      | some d => if ds.length = d.nps then (evSs P (fns P k) d.body (ds.map some ++ List.replicate (d.n - d.nps) Option.none) A).ret else .bad
      | Option.none => .bad }
end Kin
end
section
set_option linter.all false
/-! Kin 30: what holds behind a run: of expressions and statements, by their parts. -/
namespace Kin
open PySem

def Wp {α : Type} (r : Res α) (Q : α → AH → Prop) (E : Ex → AH → Prop) : Prop :=
  match r with
  | .ok a A => Q a A
  | .exc x A => E x A
  | .bad => False
structure SQ where
  nx : Loc → AH → Prop
  rt : D → AH → Prop
  bk : Loc → AH → Prop
  ct : Loc → AH → Prop
  ex : Ex → AH → Prop
def WpS (r : SRes) (Q : SQ) : Prop :=
  match r with
  | .nx L A => Q.nx L A
  | .rt d A => Q.rt d A
  | .bk L A => Q.bk L A
  | .ct L A => Q.ct L A
  | .exc x _ A => Q.ex x A
  | .bad => False
section
variable {α β : Type} {P : CProg} {F : Fns} {L : Loc} {A : AH} {E : Ex → AH → Prop}
theorem Wp.mono {r : Res α} {Q Q' : α → AH → Prop} {E' : Ex → AH → Prop} (h : Wp r Q E) (q : ∀ a A, Q a A → Q' a A) (e : ∀ a A, E a A → E' a A) : Wp r Q' E' := by
  cases r with
  | ok a A => exact q _ _ h
  | exc x A => exact e _ _ h
  | bad => exact h
theorem Wp.ok {r : Res α} {Q : α → AH → Prop} (h : Wp r Q fun _ _ => False) : ∃ a A, r = .ok a A ∧ Q a A := by
  cases r with
  | ok a A => exact ⟨a, A, rfl, h⟩
  | exc x A => exact h.elim
  | bad => exact h.elim
theorem WpS.mono {r : SRes} {Q Q' : SQ} (h : WpS r Q) (h1 : ∀ L A, Q.nx L A → Q'.nx L A) (h2 : ∀ L A, Q.rt L A → Q'.rt L A) (h3 : ∀ L A, Q.bk L A → Q'.bk L A) (h4 : ∀ L A, Q.ct L A → Q'.ct L A) (h5 : ∀ L A, Q.ex L A → Q'.ex L A) : WpS r Q' := by
  cases r with
  | nx L A => exact h1 _ _ h
  | rt L A => exact h2 _ _ h
  | bk L A => exact h3 _ _ h
  | ct L A => exact h4 _ _ h
  | exc x L A => exact h5 _ _ h
  | bad => exact h.elim
@[simp] theorem wp_ok {a : α} {Q : α → AH → Prop} : Wp (.ok a A) Q E ↔ Q a A := Iff.rfl
@[simp] theorem wp_exc {x : Ex} {Q : α → AH → Prop} : Wp (.exc x A) Q E ↔ E x A := Iff.rfl
@[simp] theorem wp_bad {Q : α → AH → Prop} : Wp .bad Q E ↔ False := Iff.rfl
@[simp] theorem wp_bind {r : Res α} {f : α → AH → Res β} {Q : β → AH → Prop} : Wp (r.bind f) Q E ↔ Wp r (fun a A => Wp (f a A) Q E) E := by
  cases r <;> exact Iff.rfl
@[simp] theorem wp_of1 {a : α} {Q : α → AH → Prop} : Wp (Res.of1 A (some a)) Q E ↔ Q a A := Iff.rfl
@[simp] theorem wp_of1n {Q : α → AH → Prop} : Wp (Res.of1 A none) Q E ↔ False := Iff.rfl
@[simp] theorem wp_of {a : α} {Q : α → AH → Prop} : Wp (Res.of (some (a, A))) Q E ↔ Q a A := Iff.rfl
@[simp] theorem wp_ofn {Q : α → AH → Prop} : Wp (Res.of none) Q E ↔ False := Iff.rfl
@[simp] theorem wp_calm {r : Res α} {Q : α → AH → Prop} : Wp r.calm Q E ↔ Wp r Q fun _ _ => False := by
  cases r <;> exact Iff.rfl
@[simp] theorem wp_onB {b : Bool} {t f : Res α} {Q : α → AH → Prop} : Wp (onB (some b) t f) Q E ↔ if b then Wp t Q E else Wp f Q E := by
  cases b <;> exact Iff.rfl
@[simp] theorem wp_onBn {t f : Res α} {Q : α → AH → Prop} : Wp (onB none t f) Q E ↔ False := Iff.rfl
@[simp] theorem wp_ite {c : Prop} [Decidable c] {t f : Res α} {Q : α → AH → Prop} : Wp (if c then t else f) Q E ↔ if c then Wp t Q E else Wp f Q E := by
  split <;> exact Iff.rfl
/-! expressions -/
section
variable {Q : D → AH → Prop}
theorem wp_slot {i : Nat} : Wp (evE P F (.slot i) L A) Q E ↔ Wp (Res.of1 A (getL L i)) Q E := by simp only [evE]
theorem wp_cst {d : D} : Wp (evE P F (.cst d) L A) Q E ↔ Q d A := by simp only [evE, wp_ok]
theorem wp_tup {es : List CE} : Wp (evE P F (.tup es) L A) Q E ↔ Wp (evEs P F es L A) (fun ds A => if ds.length ≤ lim then Q (.tup ds) A else False) E := by simp only [evE, wp_bind, wp_ite, wp_ok, wp_bad]
theorem wp_lst {es : List CE} : Wp (evE P F (.lst es) L A) Q E ↔ Wp (evEs P F es L A) (fun ds A => if ds.length ≤ lim then Q (.ref A.length) (A ++ [.lst ds]) else False) E := by simp only [evE, wp_bind, wp_ite, wp_bad]; rfl
theorem wp_bin {op : BOp} {a b : CE} : Wp (evE P F (.bin op a b) L A) Q E ↔ Wp (evE P F a L A) (fun x A => Wp (evE P F b L A) (fun y A => Wp (Res.of (binD op x y A)) Q E) E) E := by simp only [evE, wp_bind]
theorem wp_neg {a : CE} : Wp (evE P F (.neg a) L A) Q E ↔ Wp (evE P F a L A) (fun x A => Wp (Res.of1 A (negD x)) Q E) E := by simp only [evE, wp_bind]
theorem wp_of1m {α β : Type} {o : Option α} {g : α → β} {Q : β → AH → Prop} : Wp (Res.of1 A (o.map g)) Q E ↔ Wp (Res.of1 A o) (fun z A => Q (g z) A) E := by cases o <;> exact Iff.rfl
theorem wp_cmp {op : COp} {a b : CE} : Wp (evE P F (.cmp op a b) L A) Q E ↔ Wp (evE P F a L A) (fun x A => Wp (evE P F b L A) (fun y A => Wp (cmpE P F op x y A) Q E) E) E := by simp only [evE, wp_bind]
theorem cmpE_int {op : COp} {i : Int} {y : D} : cmpE P F op (.int i) y A = Res.of1 A ((cmpD op (.int i) y A).map .bl) := by cases op <;> rfl
theorem cmpE_str {op : COp} {i : Str} {y : D} : cmpE P F op (.str i) y A = Res.of1 A ((cmpD op (.str i) y A).map .bl) := by cases op <;> rfl
theorem cmpE_bl {op : COp} {i : Bool} {y : D} : cmpE P F op (.bl i) y A = Res.of1 A ((cmpD op (.bl i) y A).map .bl) := by cases op <;> rfl
theorem cmpE_tup {op : COp} {i : List D} {y : D} : cmpE P F op (.tup i) y A = Res.of1 A ((cmpD op (.tup i) y A).map .bl) := by cases op <;> rfl
theorem cmpE_non {op : COp} {y : D} : cmpE P F op .non y A = Res.of1 A ((cmpD op .non y A).map .bl) := by cases op <;> rfl
theorem cmpE_ne {x y : D} : cmpE P F .ne x y A = Res.of1 A ((cmpD .ne x y A).map .bl) := rfl
theorem cmpE_lt {x y : D} : cmpE P F .lt x y A = Res.of1 A ((cmpD .lt x y A).map .bl) := rfl
theorem cmpE_le {x y : D} : cmpE P F .le x y A = Res.of1 A ((cmpD .le x y A).map .bl) := rfl
theorem cmpE_gt {x y : D} : cmpE P F .gt x y A = Res.of1 A ((cmpD .gt x y A).map .bl) := rfl
theorem cmpE_ge {x y : D} : cmpE P F .ge x y A = Res.of1 A ((cmpD .ge x y A).map .bl) := rfl
theorem cmpE_isn {x y : D} : cmpE P F .isn x y A = Res.of1 A ((cmpD .isn x y A).map .bl) := rfl
theorem cmpE_notn {x y : D} : cmpE P F .notn x y A = Res.of1 A ((cmpD .notn x y A).map .bl) := rfl
theorem cmpE_inn {x y : D} : cmpE P F .inn x y A = Res.of1 A ((cmpD .inn x y A).map .bl) := rfl
theorem cmpE_nin {x y : D} : cmpE P F .nin x y A = Res.of1 A ((cmpD .nin x y A).map .bl) := rfl
def ownFin (v : D) (A : AH) : Res D := match v with
  | .bl b => .ok (.bl b) A
  | _ => .bad
/-- what is no instance is compared as data -/
theorem cmpE_ref {n : Nat} {y : D} {op : COp} (h : insOf (.ref n) A = none) : cmpE P F op (.ref n) y A = Res.of1 A ((cmpD op (.ref n) y A).map .bl) := by
  cases op with
  | eq => simp only [cmpE, ownEq, h, Option.bind_none]
  | _ => rfl
theorem cmpE_any {x y : D} {op : COp} (h : insOf x A = none) : cmpE P F op x y A = Res.of1 A ((cmpD op x y A).map .bl) := by
  cases op with
  | eq => simp only [cmpE, ownEq, h, Option.bind_none]
  | _ => rfl
theorem wp_own {n c i : Nat} {fs : Flds} {y : D} {Q : D → AH → Prop} (h : A[n]? = some (.ins c fs)) (hm : methN P c "__eq__" = some i) (ny : setOf y A = none) :
    Wp (cmpE P F .eq (.ref n) y A) Q E ↔ Wp (F.call i [.ref n, y] A) (fun v A => Wp (ownFin v A) Q E) fun _ _ => False := by
  have e : ownEq P .eq (.ref n) A = some i := by simp only [ownEq, insOf, h, Option.bind_some, hm]
  simp only [cmpE, e, ny, Option.isSome_none, Bool.false_eq_true, if_false, wp_bind, wp_calm]
  exact Iff.rfl
theorem wp_chain {op op' : COp} {a b c : CE} : Wp (evE P F (.chain op op' a b c) L A) Q E ↔ Wp (evE P F a L A) (fun x A => Wp (evE P F b L A) (fun y A => Wp (Res.of1 A (cmpD op x y A)) (fun z A => if z then Wp (evE P F c L A) (fun z A => Wp (Res.of1 A (cmpD op' y z A)) (fun z A => Q (.bl z) A) E) E else Q (.bl false) A) E) E) E := by
  have h : ∀ (o : Option Bool) (A : AH), Wp (Res.of1 A (o.map D.bl)) Q E ↔ Wp (Res.of1 A o) (fun z A => Q (.bl z) A) E := fun o A => by cases o <;> exact Iff.rfl
  have g : ∀ (o : Option Bool) (A : AH) (t f : Res D), Wp (onB o t f) Q E ↔ Wp (Res.of1 A o) (fun z _ => if z then Wp t Q E else Wp f Q E) E := fun o A t f => by
    cases o with
    | none => exact Iff.rfl
    | some b => cases b <;> exact Iff.rfl
  simp only [evE, wp_bind]
  constructor
  · intro w
    refine w.mono (fun x A w => w.mono (fun y A w => ?_) fun _ _ e => e) fun _ _ e => e
    rw [g _ A] at w
    simp only [wp_bind, h, wp_ok] at w
    cases e : cmpD op x y A with
    | none => rw [e] at w; exact w
    | some b => rw [e] at w; exact w
  · intro w
    refine w.mono (fun x A w => w.mono (fun y A w => ?_) fun _ _ e => e) fun _ _ e => e
    rw [g _ A]
    simp only [wp_bind, h, wp_ok]
    cases e : cmpD op x y A with
    | none => rw [e] at w; exact w
    | some b => rw [e] at w; exact w
theorem wp_truth {o : Option Bool} {t f : Res α} {Q : α → AH → Prop} (A : AH) : Wp (onB o t f) Q E ↔ Wp (Res.of1 A o) (fun z _ => if z then Wp t Q E else Wp f Q E) E := by
  cases o with
  | none => exact Iff.rfl
  | some b => cases b <;> exact Iff.rfl
theorem wp_and {a b : CE} : Wp (evE P F (.and a b) L A) Q E ↔ Wp (evE P F a L A) (fun x A => Wp (onB (truthD x A) (evE P F b L A) (.ok x A)) Q E) E := by simp only [evE, wp_bind]
theorem wp_or {a b : CE} : Wp (evE P F (.or a b) L A) Q E ↔ Wp (evE P F a L A) (fun x A => Wp (onB (truthD x A) (.ok x A) (evE P F b L A)) Q E) E := by simp only [evE, wp_bind]
theorem wp_not {a : CE} : Wp (evE P F (.not a) L A) Q E ↔ Wp (evE P F a L A) (fun x A => Wp (Res.of1 A (truthD x A)) (fun b A => Q (.bl !b) A) E) E := by
  have h : ∀ (o : Option Bool) (A : AH), Wp (Res.of1 A (o.map fun b => D.bl (!b))) Q E ↔ Wp (Res.of1 A o) (fun z A => Q (.bl !z) A) E := fun o A => by cases o <;> exact Iff.rfl
  simp only [evE, wp_bind, h]
theorem wp_ifx {c a b : CE} : Wp (evE P F (.ite c a b) L A) Q E ↔ Wp (evE P F c L A) (fun x A => Wp (onB (truthD x A) (evE P F a L A) (evE P F b L A)) Q E) E := by simp only [evE, wp_bind]
theorem wp_idx {a i : CE} : Wp (evE P F (.idx a i) L A) Q E ↔ Wp (evE P F a L A) (fun x A => Wp (evE P F i L A) (fun y A => Wp (Res.of1 A (idxD x y A)) Q E) E) E := by simp only [evE, wp_bind]
theorem wp_slc {a : CE} {lo hi : Option CE} : Wp (evE P F (.slc a lo hi) L A) Q E ↔ Wp (evE P F a L A) (fun x A => Wp (evO P F lo L A) (fun l A => Wp (evO P F hi L A) (fun h A => Wp (Res.of (slcD x l h A)) Q E) E) E) E := by simp only [evE, wp_bind]
theorem wp_rev {a : CE} : Wp (evE P F (.rev a) L A) Q E ↔ Wp (evE P F a L A) (fun x A => Wp (Res.of (revD x A)) Q E) E := by simp only [evE, wp_bind]
theorem wp_call {f : Nat} {es : List CE} : Wp (evE P F (.call f es) L A) Q E ↔ Wp (evEs P F es L A) (fun ds A => Wp (F.call f ds A) Q E) E := by simp only [evE, wp_bind]
theorem wp_meth {m : Bm} {a : CE} {es : List CE} : Wp (evE P F (.meth m a es) L A) Q E ↔ Wp (evE P F a L A) (fun x A => if baseB m x A then Wp (evEs P F es L A) (fun ds A => Wp (Res.of (methB m x ds A)) Q E) E else False) E := by simp only [evE, wp_bind, wp_ite, wp_bad]
theorem wp_blt {b : Blt} {es : List CE} : Wp (evE P F (.blt b es) L A) Q E ↔ Wp (evEs P F es L A) (fun ds A => Wp (Res.of (callB b ds A)) Q E) E := by simp only [evE, wp_bind]
theorem wp_listR {es : List CE} : Wp (evE P F (.listR es) L A) Q E ↔ Wp (evEs P F es L A) (fun ds A => Wp (Res.of1 A (rngLst ds)) (fun l A => Q (.ref A.length) (A ++ [.lst l])) E) E := by
  have h : ∀ (o : Option (List D)) (A : AH), Wp (Res.of (o.map fun l => new A (.lst l))) Q E ↔ Wp (Res.of1 A o) (fun l A => Q (.ref A.length) (A ++ [.lst l])) E := fun o A => by cases o <;> exact Iff.rfl
  simp only [evE, wp_bind, h]
theorem wp_isi {a : CE} {cs : List Ty} : Wp (evE P F (.isi a cs) L A) Q E ↔ Wp (evE P F a L A) (fun x A => Wp (Res.of1 A (isiD x cs A)) (fun b A => Q (.bl b) A) E) E := by
  have h : ∀ (o : Option Bool) (A : AH), Wp (Res.of1 A (o.map D.bl)) Q E ↔ Wp (Res.of1 A o) (fun z A => Q (.bl z) A) E := fun o A => by cases o <;> exact Iff.rfl
  simp only [evE, wp_bind, h]
theorem wp_new {c : Nat} {es : List CE} : Wp (evE P F (.new c es) L A) Q E ↔ Wp (evEs P F es L A) (fun ds A => Wp (Res.of1 A (initN P c)) (fun i A => Wp (F.call i (.ref A.length :: ds) (A ++ [.ins c []])) (fun v A' => Wp (newFin A.length v A') Q E) E) E) E := by simp only [evE, wp_bind]
theorem wp_attr {a : CE} {f : Str} : Wp (evE P F (.attr a f) L A) Q E ↔ Wp (evE P F a L A) (fun x A => Wp (Res.of1 A (attrD P x f A)) Q E) E := by simp only [evE, wp_bind]
theorem wp_mcall {a : CE} {m : Str} {es : List CE} : Wp (evE P F (.mcall a m es) L A) Q E ↔ Wp (evE P F a L A) (fun x A => Wp (Res.of1 A (methOf P x m A)) (fun i A => Wp (evEs P F es L A) (fun ds A => Wp (F.call i (x :: ds) A) Q E) E) E) E := by simp only [evE, wp_bind]
theorem wp_isc {a : CE} {c : Nat} : Wp (evE P F (.isc a c) L A) Q E ↔ Wp (evE P F a L A) (fun x A => Wp (Res.of1 A (iscD x c A)) (fun b A => Q (.bl b) A) E) E := by simp only [evE, wp_bind, wp_of1m]
theorem wp_sset {a : CE} : Wp (evE P F (.sset a) L A) Q E ↔ Wp (evE P F a L A) (fun x A => Wp (Res.of (ssetD x A)) Q E) E := by simp only [evE, wp_bind]
theorem wp_star {t : Bool} {es : List (Bool × CE)} : Wp (evE P F (.star t es) L A) Q E ↔ Wp (evStar P F es L A) (fun ds A => if ds.length ≤ lim then (if t then Q (.tup ds) A else Q (.ref A.length) (A ++ [.lst ds])) else False) E := by
  simp only [evE, wp_bind, wp_ite, wp_bad]
  cases t <;> exact Iff.rfl
theorem wp_comp {elt : CE} {t : CT} {it : CI} {ifs : List CE} {own : List Nat} : Wp (evE P F (.comp elt t it ifs own) L A) Q E ↔ Wp (evI P F it L A) (fun w A =>
    Wp (overW w (fun d acc A => ((asT P F t d (wipe L own) A).bind fun L A => (evIfs P F ifs L A).bind fun b A =>
      if b then (evE P F elt L A).bind fun v A => if acc.length < lim then .ok (acc ++ [v]) A else .bad else .ok acc A).calm) fuel 0 [] A) (fun ds A => Q (.ref A.length) (A ++ [.lst ds])) E) E := by
  simp only [evE, wp_bind]; rfl
theorem wp_dct {kvs : List (CE × CE)} : Wp (evE P F (.dct kvs) L A) Q E ↔ Wp (evKVs P F kvs L A) (fun ps A => if ps.length ≤ 15 then Q (.ref A.length) (A ++ [.dct (ps.foldl (fun acc p => kPut acc p.1 p.2) [])]) else False) E := by simp only [evE, wp_bind, wp_ite, wp_bad]; rfl
end
theorem wp_nil {Q : List D → AH → Prop} : Wp (evEs P F [] L A) Q E ↔ Q [] A := by simp only [evEs, wp_ok]
theorem wp_cons {e : CE} {es : List CE} {Q : List D → AH → Prop} : Wp (evEs P F (e :: es) L A) Q E ↔ Wp (evE P F e L A) (fun d A => Wp (evEs P F es L A) (fun ds A => Q (d :: ds) A) E) E := by simp only [evEs, wp_bind, wp_ok]
theorem wp_knil {Q : List (L2.Key × D) → AH → Prop} : Wp (evKVs P F [] L A) Q E ↔ Q [] A := by simp only [evKVs, wp_ok]
theorem wp_kcons {k v : CE} {es : List (CE × CE)} {Q : List (L2.Key × D) → AH → Prop} : Wp (evKVs P F ((k, v) :: es) L A) Q E ↔ Wp (evE P F k L A) (fun d A => Wp (evE P F v L A) (fun w A => Wp (Res.of1 A (keyD d)) (fun d A => Wp (evKVs P F es L A) (fun ds A => Q ((d, w) :: ds) A) E) E) E) E := by simp only [evKVs, wp_bind, wp_ok]
theorem wp_onone {Q : Option Int → AH → Prop} : Wp (evO P F none L A) Q E ↔ Q none A := by simp only [evO, wp_ok]
theorem wp_osome {e : CE} {Q : Option Int → AH → Prop} : Wp (evO P F (some e) L A) Q E ↔ Wp (evE P F e L A) (fun d A => Wp (Res.of1 A (intOf d)) (fun i A => Q (some i) A) E) E := by
  have h : ∀ (o : Option Int) (A : AH), Wp (Res.of1 A (o.map some)) Q E ↔ Wp (Res.of1 A o) (fun z A => Q (some z) A) E := fun o A => by cases o <;> exact Iff.rfl
  simp only [evO, wp_bind, h]
theorem wp_iseq {e : CE} {Q : Wk → AH → Prop} : Wp (evI P F (.seq e) L A) Q E ↔ Wp (evE P F e L A) (fun d A => Wp (Res.of1 A (seqWk d A)) Q E) E := by simp only [evI, wp_bind]
theorem wp_irng {es : List CE} {Q : Wk → AH → Prop} : Wp (evI P F (.rng es) L A) Q E ↔ Wp (evEs P F es L A) (fun d A => Wp (Res.of1 A (rngWk d)) Q E) E := by simp only [evI, wp_bind]
theorem wp_ienum {e : CE} {Q : Wk → AH → Prop} : Wp (evI P F (.enum e) L A) Q E ↔ Wp (evE P F e L A) (fun d A => Wp (Res.of1 A (enWk d A)) Q E) E := by simp only [evI, wp_bind]
theorem wp_izip {a b : CE} {Q : Wk → AH → Prop} : Wp (evI P F (.zip a b) L A) Q E ↔ Wp (evE P F a L A) (fun x A => Wp (evE P F b L A) (fun y A => Wp (Res.of1 A (zipWk x y)) Q E) E) E := by simp only [evI, wp_bind]
theorem wp_tslot {i : Nat} {d : D} {Q : Loc → AH → Prop} : Wp (asT P F (.slot i) d L A) Q E ↔ Q (L.set i (some d)) A := by simp only [asT, wp_ok]
theorem wp_ttup {ts : List CT} {d : D} {Q : Loc → AH → Prop} : Wp (asT P F (.tup ts) d L A) Q E ↔ Wp (Res.of1 A (tupOf d)) (fun ds A => if ds.length = ts.length then Wp (asTs P F ts ds L A) Q E else False) E := by simp only [asT, wp_bind, wp_ite, wp_bad]
theorem wp_titem {a i : CE} {d : D} {Q : Loc → AH → Prop} : Wp (asT P F (.item a i) d L A) Q E ↔ Wp (evE P F a L A) (fun x A => Wp (evE P F i L A) (fun y A => Wp (Res.of1 A (setIdx x y d A)) (fun A _ => Q L A) E) E) E := by
  have h : ∀ (o : Option AH) (A : AH), Wp (Res.of (o.map fun A => (L, A))) Q E ↔ Wp (Res.of1 A o) (fun A _ => Q L A) E := fun o A => by cases o <;> exact Iff.rfl
  simp only [asT, wp_bind]
  constructor
  · intro w
    exact w.mono (fun x A w => w.mono (fun y A w => (h _ A).mp w) fun _ _ e => e) fun _ _ e => e
  · intro w
    exact w.mono (fun x A w => w.mono (fun y A w => (h _ A).mpr w) fun _ _ e => e) fun _ _ e => e
theorem wp_tnil {Q : Loc → AH → Prop} : Wp (asTs P F [] [] L A) Q E ↔ Q L A := by simp only [asTs, wp_ok]
theorem wp_tcons {t : CT} {ts : List CT} {d : D} {ds : List D} {Q : Loc → AH → Prop} : Wp (asTs P F (t :: ts) (d :: ds) L A) Q E ↔ Wp (asT P F t d L A) (fun L A => Wp (asTs P F ts ds L A) Q fun _ _ => False) E := by simp only [asTs, wp_bind, wp_calm]
theorem wp_fnil {Q : Bool → AH → Prop} : Wp (evIfs P F [] L A) Q E ↔ Q true A := by simp only [evIfs, wp_ok]
theorem wp_fone {c : CE} {Q : Bool → AH → Prop} : Wp (evIfs P F [c] L A) Q E ↔ Wp (evE P F c L A) (fun x A => Wp (Res.of1 A (truthD x A)) Q E) E := by simp only [evIfs, wp_bind]
/-! statements -/
section
variable {Q : SQ}
theorem wp_ofE {r : Res α} {f : α → AH → SRes} : WpS (SRes.ofE L r f) Q ↔ Wp r (fun a A => WpS (f a A) Q) Q.ex := by
  cases r <;> exact Iff.rfl
theorem wps_nil : WpS (evSs P F [] L A) Q ↔ Q.nx L A := by simp only [evSs, WpS]
theorem wps_cons {s : CS} {ss : List CS} : WpS (evSs P F (s :: ss) L A) Q ↔ WpS (evS P F s L A) ⟨fun L A => WpS (evSs P F ss L A) Q, Q.rt, Q.bk, Q.ct, Q.ex⟩ := by
  simp only [evSs]
  cases evS P F s L A <;> exact Iff.rfl
theorem wps_ex {e : CE} : WpS (evS P F (.ex e) L A) Q ↔ Wp (evE P F e L A) (fun _ A => Q.nx L A) Q.ex := by
  simp only [evS, wp_ofE]
  exact Iff.rfl
theorem wps_asg {t : CT} {e : CE} : WpS (evS P F (.asg t e) L A) Q ↔ Wp (evE P F e L A) (fun d A => Wp (asT P F t d L A) (fun L A => Q.nx L A) Q.ex) Q.ex := by
  simp only [evS, wp_ofE]
  exact Iff.rfl
theorem wps_par {is : List Nat} {es : List CE} : WpS (evS P F (.par is es) L A) Q ↔ Wp (evEs P F es L A) (fun ds A => Wp (Res.of1 A (setAll is ds L)) (fun L A => Q.nx L A) Q.ex) Q.ex := by
  simp only [evS, wp_ofE]
  have h : ∀ (o : Option Loc) (A : AH), WpS (SRes.ofL A o) Q ↔ Wp (Res.of1 A o) (fun L A => Q.nx L A) Q.ex := fun o A => by cases o <;> exact Iff.rfl
  simp only [h]
theorem wps_ret {e : CE} : WpS (evS P F (.ret e) L A) Q ↔ Wp (evE P F e L A) (fun d A => Q.rt d A) Q.ex := by
  simp only [evS, wp_ofE]
  exact Iff.rfl
theorem wps_cond {c : CE} {a b : List CS} : WpS (evS P F (.cond c a b) L A) Q ↔ Wp (evE P F c L A) (fun x A => Wp (Res.of1 A (truthD x A)) (fun x A => if x then WpS (evSs P F a L A) Q else WpS (evSs P F b L A) Q) Q.ex) Q.ex := by
  have h : ∀ (c : Prop) [Decidable c] (a b : SRes), WpS (if c then a else b) Q ↔ if c then WpS a Q else WpS b Q := fun c _ a b => by split <;> exact Iff.rfl
  simp only [evS, wp_ofE, evT, wp_bind, h]
theorem wps_sta {a : CE} {f : Str} {e : CE} : WpS (evS P F (.sta a f e) L A) Q ↔ Wp (evE P F e L A) (fun d A => Wp (evE P F a L A) (fun x A => Wp (Res.of1 A (staD P x f d A)) (fun A' _ => Q.nx L A') Q.ex) Q.ex) Q.ex := by
  simp only [evS, wp_ofE]
  exact Iff.rfl
theorem wps_loop {t : CT} {it : CI} {b : List CS} : WpS (evS P F (.loop t it b) L A) Q ↔ Wp (evI P F it L A) (fun w A => WpS (turnsW w (fun d L A => SRes.ofE L (asT P F t d L A) fun L A => evSs P F b L A) fuel 0 L A) Q) Q.ex := by
  simp only [evS, wp_ofE]
theorem wps_brk : WpS (evS P F .brk L A) Q ↔ Q.bk L A := by simp only [evS, WpS]
theorem wps_cont : WpS (evS P F .cont L A) Q ↔ Q.ct L A := by simp only [evS, WpS]
theorem wps_pass : WpS (evS P F .pass L A) Q ↔ Q.nx L A := by simp only [evS, WpS]
theorem wp_ret {r : SRes} {Q : D → AH → Prop} : Wp r.ret Q E ↔ WpS r ⟨fun _ A => Q .non A, Q, fun _ _ => False, fun _ _ => False, E⟩ := by
  cases r <;> exact Iff.rfl
end
/-- a def by its number -/
def Def (P : CProg) (f nps n : Nat) (body : List CS) : Prop := ∃ nm, P.defs[f]? = some ⟨nm, nps, n, body⟩
theorem wp_def {f nps n : Nat} {body : List CS} (h : Def P f nps n body) {k : Nat} {ds : List D} (e : ds.length = nps) {Q : D → AH → Prop} :
    Wp ((fns P (k + 1)).call f ds A) Q E ↔ WpS (evSs P (fns P k) body (ds.map some ++ List.replicate (n - nps) none) A) ⟨fun _ A => Q .non A, Q, fun _ _ => False, fun _ _ => False, E⟩ := by
  obtain ⟨nm, h⟩ := h
  simp only [fns, h, e, if_true, wp_ret]
/-! loops -/
theorem turns_items {ds : List D} {f : D → Loc → AH → SRes} {Q : SQ} (I : Nat → Loc → AH → Prop)
    (step : ∀ i d L A, ds[i]? = some d → I i L A → WpS (f d L A) ⟨I (i + 1), Q.rt, Q.nx, I (i + 1), Q.ex⟩) (fin : ∀ L A, I ds.length L A → Q.nx L A) :
    ∀ (k i : Nat) (L : Loc) (A : AH), ds.length < k + i → i ≤ ds.length → I i L A → WpS (turnsW (wkItems ds) f k i L A) Q
  | 0, i, L, A, hk, hi, _ => by omega
  | k + 1, i, L, A, hk, hi, h => by
    simp only [turnsW, wkItems]
    cases e : ds[i]? with
    | none =>
      have : ds.length ≤ i := by simpa using e
      have : i = ds.length := by omega
      subst this
      exact fin _ _ h
    | some d =>
      have hl : i < ds.length := by
        by_cases hl : i < ds.length
        · exact hl
        · rw [List.getElem?_eq_none (by omega)] at e; cases e
      have s := step i d L A e h
      simp only
      revert s
      cases f d L A with
      | nx L A => exact fun s => turns_items I step fin k (i + 1) L A (by omega) hl s
      | ct L A => exact fun s => turns_items I step fin k (i + 1) L A (by omega) hl s
      | bk L A => exact fun s => s
      | rt L A => exact fun s => s
      | exc x L A => exact fun s => s
      | bad => exact fun s => s
theorem loop_items {ds : List D} {f : D → Loc → AH → SRes} {Q : SQ} (I : Nat → Loc → AH → Prop) (hl : ds.length < fuel) (h0 : I 0 L A)
    (step : ∀ i d L A, ds[i]? = some d → I i L A → WpS (f d L A) ⟨I (i + 1), Q.rt, Q.nx, I (i + 1), Q.ex⟩) (fin : ∀ L A, I ds.length L A → Q.nx L A) : WpS (turnsW (wkItems ds) f fuel 0 L A) Q :=
  turns_items I step fin fuel 0 L A hl (Nat.zero_le _) h0
theorem over_items {ds : List D} {f : D → α → AH → Res α} {Q : α → AH → Prop} (I : Nat → α → AH → Prop)
    (step : ∀ i d a A, ds[i]? = some d → I i a A → Wp (f d a A) (I (i + 1)) E) (fin : ∀ a A, I ds.length a A → Q a A) :
    ∀ (k i : Nat) (a : α) (A : AH), ds.length < k + i → i ≤ ds.length → I i a A → Wp (overW (wkItems ds) f k i a A) Q E
  | 0, i, L, A, hk, hi, _ => by omega
  | k + 1, i, a, A, hk, hi, h => by
    simp only [overW, wkItems]
    cases e : ds[i]? with
    | none =>
      have : ds.length ≤ i := by simpa using e
      have : i = ds.length := by omega
      subst this
      exact fin _ _ h
    | some d =>
      have hl : i < ds.length := by
        by_cases hl : i < ds.length
        · exact hl
        · rw [List.getElem?_eq_none (by omega)] at e; cases e
      simp only [wp_bind]
      exact (step i d a A e h).mono (fun a A s => over_items I step fin k (i + 1) a A (by omega) hl s) fun _ _ e => e
theorem comp_items {ds : List D} {f : D → α → AH → Res α} {Q : α → AH → Prop} {a : α} (I : Nat → α → AH → Prop) (hl : ds.length < fuel) (h0 : I 0 a A)
    (step : ∀ i d a A, ds[i]? = some d → I i a A → Wp (f d a A) (I (i + 1)) E) (fin : ∀ a A, I ds.length a A → Q a A) : Wp (overW (wkItems ds) f fuel 0 a A) Q E :=
  over_items I step fin fuel 0 a A hl (Nat.zero_le _) h0
end
end Kin
end
section
set_option linter.all false
set_option maxRecDepth 100000
/-! Kin 31: how data are read where they are known; the pot of a law, what is drawn of it. -/
namespace Kin
open PySem
section
variable {A : AH} {L : Loc}
theorem getL_0 {d : D} : getL (some d :: L) 0 = some d := rfl
theorem getL_s {i : Nat} {o : Option D} : getL (o :: L) (i + 1) = getL L i := rfl
theorem bin_add {i j : Int} : binD .add (.int i) (.int j) A = some (.int (i + j), A) := rfl
theorem bin_sub {i j : Int} : binD .sub (.int i) (.int j) A = some (.int (i - j), A) := rfl
theorem bin_mul {i j : Int} : binD .mul (.int i) (.int j) A = if (-(2 ^ 64) < i ∧ i < 2 ^ 64) ∨ (-(2 ^ 64) < j ∧ j < 2 ^ 64) then some (.int (i * j), A) else none := rfl
theorem bin_fdiv {i j : Int} : binD .fdiv (.int i) (.int j) A = if 0 < j ∧ j < 1073741824 then some (.int (i / j), A) else none := rfl
theorem bin_mod {i j : Int} : binD .mod (.int i) (.int j) A = if 0 < j then some (.int (i % j), A) else none := rfl
theorem bin_tup {x y : List D} : binD .add (.tup x) (.tup y) A = if x.length + y.length ≤ lim then some (.tup (x ++ y), A) else none := rfl
theorem bin_str {x y : Str} : binD .add (.str x) (.str y) A = if x.length + y.length ≤ lim then some (.str (x ++ y), A) else none := rfl

theorem cmp_lt {i j : Int} : cmpD .lt (.int i) (.int j) A = some (decide (i < j)) := rfl
theorem cmp_le {i j : Int} : cmpD .le (.int i) (.int j) A = some (decide (i ≤ j)) := rfl
theorem cmp_gt {i j : Int} : cmpD .gt (.int i) (.int j) A = some (decide (j < i)) := rfl
theorem cmp_ge {i j : Int} : cmpD .ge (.int i) (.int j) A = some (decide (j ≤ i)) := rfl
theorem cmp_eqI {i j : Int} : cmpD .eq (.int i) (.int j) A = some (i == j) := rfl
theorem cmp_eqS {i j : Str} : cmpD .eq (.str i) (.str j) A = some (i == j) := rfl
theorem cmp_neI {i j : Int} : cmpD .ne (.int i) (.int j) A = some (!(i == j)) := rfl
theorem cmp_neS {i j : Str} : cmpD .ne (.str i) (.str j) A = some (!(i == j)) := rfl
theorem cmp_eqB {i j : Bool} : cmpD .eq (.bl i) (.bl j) A = some (i == j) := rfl
theorem truth_bl {b : Bool} : truthD (.bl b) A = some b := rfl
theorem truth_int {i : Int} : truthD (.int i) A = some (i != 0) := rfl
theorem truth_tup {ds : List D} : truthD (.tup ds) A = some (!ds.isEmpty) := rfl
theorem truth_non : truthD .non A = some false := rfl
theorem neg_int {i : Int} : negD (.int i) = some (.int (-i)) := rfl
theorem intOf_int {i : Int} : intOf (.int i) = some i := rfl
theorem tupOf_tup {ds : List D} : tupOf (.tup ds) = some ds := rfl
theorem idx_tup {ds : List D} {k : Int} : idxD (.tup ds) (.int k) A = L2.atI ds k := rfl
/-- an item of what stands there -/
def idxO (k : D) : AO → Option D
  | .lst ds => (match k with
    | .int k => L2.atI ds k
    | _ => none)
  | .frz ds => (match k with
    | .int k => L2.atI ds k
    | _ => none)
  | .dct kvs => (keyD k).bind (kGet kvs)
  | _ => none
theorem idx_ref {n : Nat} {k : D} : idxD (.ref n) k A = (A[n]?).bind (idxO k) := by
  simp only [idxD]
  cases A[n]? with
  | none => rfl
  | some o => cases o <;> rfl
theorem idxO_lst {ds : List D} {k : Int} : idxO (.int k) (.lst ds) = L2.atI ds k := rfl
theorem idxO_dct {ds : List (L2.Key × D)} {k : D} : idxO k (.dct ds) = (keyD k).bind (kGet ds) := rfl
def setO (i v : D) : AO → Option AO
  | .lst ds => (match i with
    | .int k => (L2.ixN ds.length k).map fun j => .lst (ds.set j v)
    | _ => none)
  | .dct kvs => (keyD i).bind fun k => if kvs.length < lim then some (.dct (kPut kvs k v)) else none
  | _ => none
theorem set_ref {n : Nat} {i v : D} : setIdx (.ref n) i v A = ((A[n]?).bind (setO i v)).map fun o => A.set n o := by
  simp only [setIdx]
  cases A[n]? with
  | none => rfl
  | some o =>
    cases o with
    | lst ds =>
      simp only [Option.bind_some, setO]
      cases i <;> first | rfl | (simp only [Option.map_map]; rfl)
    | dct kvs =>
      simp only [Option.bind_some, setO]
      cases keyD i with
      | none => rfl
      | some k =>
        simp only [Option.bind_some]
        split <;> rfl
    | _ => rfl
theorem setO_dct {kvs : List (L2.Key × D)} {i v : D} : setO i v (.dct kvs) = (keyD i).bind fun k => if kvs.length < lim then some (.dct (kPut kvs k v)) else none := rfl
theorem setO_lst {ds : List D} {k : Int} {v : D} : setO (.int k) v (.lst ds) = (L2.ixN ds.length k).map fun j => .lst (ds.set j v) := rfl
theorem atI_cons {a : D} {l : List D} {k : Int} : L2.atI (a :: l) k = if 0 ≤ k then (if k < ((a :: l).length : Nat) then (a :: l)[k.toNat]? else none) else if -(((a :: l).length : Nat) : Int) ≤ k then (a :: l)[(k + ((a :: l).length : Nat)).toNat]? else none := by
  simp only [L2.atI, L2.ixN]
  split
  · split <;> rfl
  · split <;> rfl
theorem setO_cons {a : D} {l : List D} {k : Int} {v : D} : setO (.int k) v (.lst (a :: l)) = if 0 ≤ k then (if k < ((a :: l).length : Nat) then some (.lst ((a :: l).set k.toNat v)) else none) else if -(((a :: l).length : Nat) : Int) ≤ k then some (.lst ((a :: l).set (k + ((a :: l).length : Nat)).toNat v)) else none := by
  simp only [setO, L2.ixN]
  split
  · split <;> rfl
  · split <;> rfl
def seqO : AO → Option (List D)
  | .lst ds => some ds
  | .frz ds => some ds
  | _ => none
theorem seqO_lst {ds : List D} : seqO (.lst ds) = some ds := rfl
theorem seqO_frz {ds : List D} : seqO (.frz ds) = some ds := rfl
theorem seq_ref {n : Nat} : seqOf (.ref n) A = (A[n]?).bind seqO := by
  simp only [seqOf]
  cases A[n]? with
  | none => rfl
  | some o => cases o <;> rfl
def lstO : AO → Option (List D)
  | .lst ds => some ds
  | _ => none
theorem lstO_lst {ds : List D} : lstO (.lst ds) = some ds := rfl
theorem lst_ref {n : Nat} : lstOf (.ref n) A = (A[n]?).bind lstO := by
  simp only [lstOf]
  cases A[n]? with
  | none => rfl
  | some o => cases o <;> rfl
theorem isList_ref {n : Nat} : isList (.ref n) A = ((A[n]?).bind lstO).isSome := by simp only [isList, lst_ref]
theorem len_ref {n : Nat} : callB .len [.ref n] A = ((A[n]?).bind seqO).map fun ds => (.int ds.length, A) := by simp only [callB, seq_ref]
/-- what list(..) reads -/
def lisO : AO → Option (List D)
  | .lst ds => some ds
  | .frz ds => some ds
  | .dct kvs => some (kvs.map fun p => kD p.1)
  | _ => none
theorem lisO_lst {ds : List D} : lisO (.lst ds) = some ds := rfl
theorem lisO_dct {kvs : List (L2.Key × D)} : lisO (.dct kvs) = some (kvs.map fun p => kD p.1) := rfl
theorem list_ref {n : Nat} : callB .list [.ref n] A = ((A[n]?).bind lisO).map fun ds => (.ref A.length, A ++ [.lst ds]) := by
  simp only [callB, seqOf, dctOf]
  cases A[n]? with
  | none => rfl
  | some o => cases o <;> rfl
theorem tuple_ref {n : Nat} : callB .tuple [.ref n] A = ((A[n]?).bind seqO).map fun ds => (.tup ds, A) := by simp only [callB, seq_ref]
theorem all_ref {n : Nat} : callB .all [.ref n] A = ((A[n]?).bind lstO).bind fun ds => (blsD ds).map fun bs => (.bl (bs.all id), A) := by
  simp only [callB, lst_ref]
  cases (A[n]?).bind lstO <;> rfl
theorem any_ref {n : Nat} : callB .any [.ref n] A = ((A[n]?).bind lstO).bind fun ds => (blsD ds).map fun bs => (.bl (bs.any id), A) := by
  simp only [callB, lst_ref]
  cases (A[n]?).bind lstO <;> rfl
theorem add_ref {m n : Nat} : binD .add (.ref m) (.ref n) A = ((A[m]?).bind lstO).bind fun xs => ((A[n]?).bind lstO).bind fun ys => if xs.length + ys.length ≤ lim then some (.ref A.length, A ++ [.lst (xs ++ ys)]) else none := by
  simp only [binD, lst_ref]
  cases (A[m]?).bind lstO with
  | none => rfl
  | some xs => cases (A[n]?).bind lstO <;> rfl
theorem slc_ref {n : Nat} {lo hi : Option Int} : slcD (.ref n) lo hi A = ((A[n]?).bind seqO).map fun ds => (.ref A.length, A ++ [.lst (cut ds lo hi)]) := by simp only [slcD, seq_ref]; rfl
theorem set_self {n : Nat} {o : AO} (h : n < A.length) : (A.set n o)[n]? = some o := List.getElem?_set_self h
theorem len_tup {ds : List D} : callB .len [.tup ds] A = some (.int ds.length, A) := rfl

theorem list_tup {ds : List D} : callB .list [.tup ds] A = some (.ref A.length, A ++ [.lst ds]) := rfl




theorem int_int {i : Int} : callB .int [.int i] A = some (.int i, A) := rfl
theorem int_bl {i : Bool} : callB .int [.bl i] A = some (.int (if i then 1 else 0), A) := rfl
theorem abs_int {i : Int} : callB .abs [.int i] A = some (.int (if i < 0 then -i else i), A) := rfl
theorem append_ref {n : Nat} {v : D} : methB .append (.ref n) [v] A = ((A[n]?).bind lstO).bind fun ds => if ds.length < lim then some (.non, A.set n (.lst (ds ++ [v]))) else none := by
  simp only [methB]
  cases A[n]? with
  | none => rfl
  | some o => cases o <;> rfl
theorem extend_tup' {n : Nat} {es : List D} : methB .extend (.ref n) [.tup es] A = ((A[n]?).bind lstO).bind fun ds => if ds.length + es.length ≤ lim then some (.non, A.set n (.lst (ds ++ es))) else none := by
  simp only [methB]
  cases A[n]? with
  | none => rfl
  | some o => cases o <;> rfl
theorem extend_ref {n k : Nat} : methB .extend (.ref n) [.ref k] A = ((A[n]?).bind lstO).bind fun ds => ((A[k]?).bind lstO).bind fun es => if ds.length + es.length ≤ lim then some (.non, A.set n (.lst (ds ++ es))) else none := by
  simp only [methB]
  cases A[n]? with
  | none => rfl
  | some o =>
    cases o with
    | lst ds =>
      cases A[k]? with
      | none => rfl
      | some o => cases o <;> rfl
    | _ => rfl
theorem base_append {n : Nat} : baseB .append (.ref n) A = ((A[n]?).bind lstO).isSome := isList_ref
theorem base_extend {n : Nat} : baseB .extend (.ref n) A = ((A[n]?).bind lstO).isSome := isList_ref
def dctO : AO → Option (List (L2.Key × D))
  | .dct kvs => some kvs
  | _ => none
theorem dctO_dct {kvs : List (L2.Key × D)} : dctO (.dct kvs) = some kvs := rfl
theorem dct_ref {n : Nat} : dctOf (.ref n) A = (A[n]?).bind dctO := by
  simp only [dctOf]
  cases A[n]? with
  | none => rfl
  | some o => cases o <;> rfl
theorem base_get {n : Nat} : baseB .get (.ref n) A = ((A[n]?).bind dctO).isSome := by simp only [baseB, dct_ref]
theorem get2_ref {n : Nat} {y d : D} : methB .get (.ref n) [y, d] A = ((A[n]?).bind dctO).bind fun kvs => (keyD y).map fun k => ((kGet kvs k).getD d, A) := by simp only [methB, dct_ref]
theorem set_call {d : D} : callB .set [d] A = ((seqOf d A).bind intsD).bind fun is => if is.length < 4095 then some (.ref A.length, A ++ [.iset (uniq is)]) else none := rfl
def setOO : AO → Option (List Int)
  | .iset is => some is
  | _ => none
theorem setOO_iset {is : List Int} : setOO (.iset is) = some is := rfl
theorem setOf_ref {n : Nat} : setOf (.ref n) A = (A[n]?).bind setOO := by
  simp only [setOf]
  cases A[n]? with
  | none => rfl
  | some o => cases o <;> rfl
theorem sorted_set {n : Nat} {is : List Int} (h : A[n]? = some (.iset is)) (hl : is.length < 64) : callB .sorted [.ref n] A = some (.ref A.length, A ++ [.lst (is.map D.int)]) := by
  simp only [callB, setOf, h, hl, if_true]
  rfl
theorem max_ref {n : Nat} : callB .max [.ref n] A = ((((A[n]?).bind lstO).bind intsD).bind topL).map fun i => (.int i, A) := by simp only [callB, lst_ref]
theorem max_int {i j : Int} : callB .max [.int i, .int j] A = some (.int (if j > i then j else i), A) := rfl
theorem min_int {i j : Int} : callB .min [.int i, .int j] A = some (.int (if j < i then j else i), A) := rfl
theorem slc_tup {ds : List D} {lo hi : Option Int} : slcD (.tup ds) lo hi A = some (.tup (cut ds lo hi), A) := rfl
theorem rev_tup {ds : List D} : revD (.tup ds) A = some (.tup ds.reverse, A) := rfl
theorem seqWk_tup {ds : List D} : seqWk (.tup ds) A = some (wkItems ds) := rfl
theorem enWk_tup {ds : List D} : enWk (.tup ds) A = some (wkEnum (wkItems ds)) := rfl
theorem enWk_ref {n : Nat} : enWk (.ref n) A = (seqWk (.ref n) A).map wkEnum := rfl
theorem join_ref {x : Str} {n : Nat} : methB .join (.str x) [.ref n] A = (((A[n]?).bind seqO).bind strsD).bind fun ys => if (ys.map (·.length)).sum + ys.length * x.length ≤ 16777216 then some (.str (Txt.join x ys), A) else none := by simp only [methB, seq_ref]
theorem split_str {x y : Str} : methB .split (.str x) [.str y] A = if y.length ≠ 0 ∧ x.length + 2 ≤ lim then some (.ref A.length, A ++ [.lst ((Txt.split x y).map .str)]) else none := rfl
theorem base_join {x : Str} : baseB .join (.str x) A = true := rfl
theorem base_split {x : Str} : baseB .split (.str x) A = true := rfl
theorem str_int {i : Int} : callB .str [.int i] A = if i.natAbs.log2 < 1920 then some (.str (toString i : String), A) else none := rfl
theorem str_str {x : Str} : callB .str [.str x] A = some (.str x, A) := rfl
theorem int_str {x : Str} : callB .int [.str x] A = (intText? x).bind fun n => if x.length ≤ 640 then some (.int n, A) else none := rfl
theorem len_str {x : Str} : callB .len [.str x] A = if x.length ≤ lim then some (.int x.length, A) else none := rfl
theorem isc_ins {n c d : Nat} {fs : Flds} (h : A[n]? = some (.ins c fs)) : iscD (.ref n) d A = some (decide (c = d)) := by simp only [iscD, setOf, insOf, h]
theorem attr_ins {P : CProg} {n c : Nat} {fs : Flds} {f : Str} (h : A[n]? = some (.ins c fs)) (hf : fldB P c f = true) : attrD P (.ref n) f A = fs.lookup f := by simp only [attrD, insOf, h, Option.bind_some, hf, if_true]
theorem sta_ins {P : CProg} {n c : Nat} {fs : Flds} {f : Str} {v : D} (h : A[n]? = some (.ins c fs)) (hf : fldB P c f = true) (hl : fs.length < 1000) : staD P (.ref n) f v A = some (A.set n (.ins c (putA f v fs))) := by simp only [staD, h, hf, hl, decide_true, Bool.and_self, if_true]
theorem seqWk_str {x : Str} : seqWk (.str x) A = some (wkItems (signsD x)) := rfl
theorem zipWk_tup {ds es : List D} : zipWk (.tup ds) (.tup es) = some (wkItems ((ds.zip es).map fun p => D.tup [p.1, p.2])) := rfl
theorem wkEnum_items {ds : List D} : wkEnum (wkItems ds) = wkItems (ds.zipIdx.map fun p => D.tup [.int (p.2 : Nat), p.1]) := by
  funext i A
  simp only [wkEnum, wkItems, Option.map_some, List.getElem?_map, List.getElem?_zipIdx, Option.map_map]
  rw [Nat.zero_add]
  rfl
theorem rng_one {j : Int} : rngWk [.int j] = if okR 0 j then some (wkItems (rngItems 0 j)) else none := rfl
theorem rng_two {i j : Int} : rngWk [.int i, .int j] = if okR i j then some (wkItems (rngItems i j)) else none := rfl
theorem rng_three {i j : Int} : rngWk [.int i, .int j, .int (-1)] = if okR i j then some (wkItems (dnItems i j)) else none := by
  simp only [rngWk, decide_true, Bool.and_true]
theorem okR_of {i j : Int} (h1 : -(2 ^ 62) ≤ i) (h2 : i < 2 ^ 62) (h3 : -(2 ^ 62) ≤ j) (h4 : j < 2 ^ 62) : okR i j = true := by
  simp only [okR, decide_eq_true_eq]
  exact ⟨h1, h2, h3, h4⟩
theorem rngItems_len {i j : Int} : (rngItems i j).length = (j - i).toNat := by simp only [rngItems, List.length_map, List.length_range]
theorem rngItems_at {i j : Int} {n : Nat} {d : D} (h : (rngItems i j)[n]? = some d) : d = .int (i + n) ∧ (n : Int) < j - i := by
  simp only [rngItems, List.getElem?_map, List.getElem?_range] at h
  by_cases c : n < (j - i).toNat
  · rw [List.getElem?_range c] at h
    cases h
    exact ⟨rfl, by omega⟩
  · rw [List.getElem?_eq_none (by simp only [List.length_range]; omega)] at h
    cases h
theorem atI_of {ds : List D} {k : Int} (h0 : 0 ≤ k) (h1 : k < ds.length) : ∃ d, L2.atI ds k = some d ∧ d ∈ ds ∧ ds[k.toNat]? = some d := by
  obtain ⟨j, rfl⟩ := Int.eq_ofNat_of_zero_le h0
  have h : j < ds.length := by omega
  exact ⟨ds[j], L2.atI_nat (List.getElem?_eq_getElem h), List.getElem_mem h, List.getElem?_eq_getElem h⟩
theorem at_new {o : AO} : (A ++ [o])[A.length]? = some o := by rw [List.getElem?_append_right (Nat.le_refl _), Nat.sub_self] <;> rfl
/-- what stands elsewhere stays -/
structure Fr (S : List Nat) (A A' : AH) : Prop where
  le : A.length ≤ A'.length
  at_ : ∀ n, n < A.length → n ∉ S → A'[n]? = A[n]?
theorem Fr.refl (S : List Nat) (A : AH) : Fr S A A := ⟨Nat.le_refl _, fun _ _ _ => rfl⟩
theorem Fr.trans {S : List Nat} {A B C : AH} (h : Fr S A B) (g : Fr S B C) : Fr S A C :=
  ⟨Nat.le_trans h.le g.le, fun n hn hS => (g.at_ n (Nat.lt_of_lt_of_le hn h.le) hS).trans (h.at_ n hn hS)⟩
theorem Fr.new (S : List Nat) (A : AH) (o : AO) : Fr S A (A ++ [o]) :=
  ⟨by simp, fun n hn _ => List.getElem?_append_left hn⟩
theorem Fr.snoc {S : List Nat} {A B : AH} (h : Fr S A B) (o : AO) : Fr S A (B ++ [o]) := h.trans (Fr.new S B o)
theorem lt_of_at {n : Nat} {o : AO} (h : A[n]? = some o) : n < A.length := by
  by_cases c : n < A.length
  · exact c
  · rw [List.getElem?_eq_none (by omega)] at h; cases h
theorem Fr.get {S : List Nat} {A B : AH} {n : Nat} {o : AO} (h : Fr S A B) (e : A[n]? = some o) (hS : n ∉ S) : B[n]? = some o := (h.at_ n (lt_of_at e) hS).trans e
theorem at_snoc {n : Nat} {o o' : AO} (h : A[n]? = some o) : (A ++ [o'])[n]? = some o := (List.getElem?_append_left (lt_of_at h)).trans h
/-- the pot of a law: its cells, how many are read, what is left of a great one, a sum, a count -/
def Pot (p : Nat) (A : AH) : Prop := ∃ (c : Nat) (cells : List Int) (i b s k : Int), A[p]? = some (.lst [.ref c, .int i, .int b, .int s, .int k]) ∧ c ≠ p ∧ A[c]? = some (.lst (cells.map D.int)) ∧ 0 ≤ i ∧ 0 ≤ b ∧ 0 ≤ s ∧ 0 ≤ k ∧ ∀ x ∈ cells, 0 ≤ x
theorem Pot.lt {p : Nat} (h : Pot p A) : p < A.length := by
  obtain ⟨c, cells, i, b, s, k, h, _⟩ := h
  exact lt_of_at h
theorem Pot.snoc {p : Nat} (h : Pot p A) (o : AO) : Pot p (A ++ [o]) := by
  obtain ⟨c, cells, i, b, s, k, h, g, e, r⟩ := h
  exact ⟨c, cells, i, b, s, k, at_snoc h, g, at_snoc e, r⟩
theorem Pot.set {p : Nat} (h : Pot p A) {n : Nat} {o : AO} (h1 : n ≠ p) (h2 : ∀ c cells i b s k, A[p]? = some (.lst [.ref c, .int i, .int b, .int s, .int k]) → A[c]? = some (.lst cells) → n ≠ c) : Pot p (A.set n o) := by
  obtain ⟨c, cells, i, b, s, k, h, g, e, r⟩ := h
  refine ⟨c, cells, i, b, s, k, ?_, g, ?_, r⟩
  · rw [List.getElem?_set_ne h1, h]
  · rw [List.getElem?_set_ne (h2 _ _ _ _ _ _ h e), e]
end
/-! what is known of any datum: how long its tuples are at most, below what its numbers of places lie -/
mutual
def okD (b N : Nat) : D → Prop
  | .tup ds => ds.length ≤ b ∧ okDs b N ds
  | .ref n => n < N
  | _ => True
def okDs (b N : Nat) : List D → Prop
  | [] => True
  | d :: ds => okD b N d ∧ okDs b N ds
end
theorem okDs_iff {b N : Nat} : ∀ {ds : List D}, okDs b N ds ↔ ∀ d ∈ ds, okD b N d
  | [] => by simp [okDs]
  | d :: ds => by simp only [okDs, List.mem_cons, forall_eq_or_imp, okDs_iff (ds := ds)]
mutual
theorem okD.mono {b N b' N' : Nat} (hb : b ≤ b') (hN : N ≤ N') : ∀ {d : D}, okD b N d → okD b' N' d
  | .tup ds, h => ⟨Nat.le_trans h.1 hb, okDs.mono hb hN h.2⟩
  | .ref n, h => Nat.lt_of_lt_of_le h hN
  | .non, _ => trivial
  | .bl _, _ => trivial
  | .int _, _ => trivial
  | .str _, _ => trivial
theorem okDs.mono {b N b' N' : Nat} (hb : b ≤ b') (hN : N ≤ N') : ∀ {ds : List D}, okDs b N ds → okDs b' N' ds
  | [], _ => trivial
  | _ :: _, h => ⟨okD.mono hb hN h.1, okDs.mono hb hN h.2⟩
end
def tpB : D → Bool
  | .tup _ => true
  | _ => false
def isStr : D → Bool
  | .str _ => true
  | _ => false
def isInt : D → Bool
  | .int _ => true
  | .bl _ => true
  | _ => false
def isBl : D → Bool
  | .bl _ => true
  | _ => false
theorem isi_tup {d : D} {A : AH} : ([Ty.tuple].any fun c => (tyD d A).contains c) = tpB d := by
  cases d with
  | ref n =>
    simp only [tyD]
    split <;> rfl
  | _ => rfl
theorem isi_str {d : D} {A : AH} : ([Ty.str].any fun c => (tyD d A).contains c) = isStr d := by
  cases d with
  | ref n =>
    simp only [tyD]
    split <;> rfl
  | _ => rfl
theorem isi_int {d : D} {A : AH} : ([Ty.int].any fun c => (tyD d A).contains c) = isInt d := by
  cases d with
  | ref n =>
    simp only [tyD]
    split <;> rfl
  | _ => rfl
theorem isi_bool {d : D} {A : AH} : ([Ty.bool].any fun c => (tyD d A).contains c) = isBl d := by
  cases d with
  | ref n =>
    simp only [tyD]
    split <;> rfl
  | _ => rfl
theorem isiD_tup {ds : List D} {cs : List Ty} {A : AH} : isiD (.tup ds) cs A = some (cs.any fun c => (tyD (.tup ds) A).contains c) := rfl
theorem isiD_str {x : Str} {cs : List Ty} {A : AH} : isiD (.str x) cs A = some (cs.any fun c => (tyD (.str x) A).contains c) := rfl
theorem isiD_int {i : Int} {cs : List Ty} {A : AH} : isiD (.int i) cs A = some (cs.any fun c => (tyD (.int i) A).contains c) := rfl
theorem isiD_bl {b : Bool} {cs : List Ty} {A : AH} : isiD (.bl b) cs A = some (cs.any fun c => (tyD (.bl b) A).contains c) := rfl
theorem isiD_non {cs : List Ty} {A : AH} : isiD .non cs A = some (cs.any fun c => (tyD .non A).contains c) := rfl
theorem isiD_of {d : D} {cs : List Ty} {A : AH} (h : setOf d A = none) : isiD d cs A = some (cs.any fun c => (tyD d A).contains c) := by simp only [isiD, h]
section
variable {α : Type} {A : AH} {E : Ex → AH → Prop}
theorem over_live {n : Nat} {ds : List D} {f : D → α → AH → Res α} {Q : α → AH → Prop} (I : Nat → α → AH → Prop) (hI : ∀ i a A, I i a A → A[n]? = some (.lst ds))
    (step : ∀ i d a A, ds[i]? = some d → I i a A → Wp (f d a A) (I (i + 1)) E) (fin : ∀ a A, I ds.length a A → Q a A) :
    ∀ (k i : Nat) (a : α) (A : AH), ds.length < k + i → i ≤ ds.length → I i a A → Wp (overW (wkLive n) f k i a A) Q E
  | 0, i, L, A, hk, hi, _ => by omega
  | k + 1, i, a, A, hk, hi, h => by
    simp only [overW, wkLive, hI i a A h]
    cases e : ds[i]? with
    | none =>
      have : ds.length ≤ i := by simpa using e
      have : i = ds.length := by omega
      subst this
      exact fin _ _ h
    | some d =>
      have hl : i < ds.length := by
        by_cases hl : i < ds.length
        · exact hl
        · rw [List.getElem?_eq_none (by omega)] at e; cases e
      simp only [wp_bind]
      exact (step i d a A e h).mono (fun a A s => over_live I hI step fin k (i + 1) a A (by omega) hl s) fun _ _ e => e
theorem comp_live {n : Nat} {ds : List D} {f : D → α → AH → Res α} {Q : α → AH → Prop} {a : α} (I : Nat → α → AH → Prop) (hI : ∀ i a A, I i a A → A[n]? = some (.lst ds)) (hl : ds.length < fuel) (h0 : I 0 a A)
    (step : ∀ i d a A, ds[i]? = some d → I i a A → Wp (f d a A) (I (i + 1)) E) (fin : ∀ a A, I ds.length a A → Q a A) : Wp (overW (wkLive n) f fuel 0 a A) Q E :=
  over_live I hI step fin fuel 0 a A hl (Nat.zero_le _) h0
theorem turns_live {n : Nat} {ds : List D} {f : D → Loc → AH → SRes} {Q : SQ} (I : Nat → Loc → AH → Prop) (hI : ∀ i L A, I i L A → A[n]? = some (.lst ds))
    (step : ∀ i d L A, ds[i]? = some d → I i L A → WpS (f d L A) ⟨I (i + 1), Q.rt, Q.nx, I (i + 1), Q.ex⟩) (fin : ∀ L A, I ds.length L A → Q.nx L A) :
    ∀ (k i : Nat) (L : Loc) (A : AH), ds.length < k + i → i ≤ ds.length → I i L A → WpS (turnsW (wkLive n) f k i L A) Q
  | 0, i, L, A, hk, hi, _ => by omega
  | k + 1, i, L, A, hk, hi, h => by
    simp only [turnsW, wkLive, hI i L A h]
    cases e : ds[i]? with
    | none =>
      have : ds.length ≤ i := by simpa using e
      have : i = ds.length := by omega
      subst this
      exact fin _ _ h
    | some d =>
      have hl : i < ds.length := by
        by_cases hl : i < ds.length
        · exact hl
        · rw [List.getElem?_eq_none (by omega)] at e; cases e
      have s := step i d L A e h
      simp only
      revert s
      cases f d L A with
      | nx L A => exact fun s => turns_live I hI step fin k (i + 1) L A (by omega) hl s
      | ct L A => exact fun s => turns_live I hI step fin k (i + 1) L A (by omega) hl s
      | bk L A => exact fun s => s
      | rt L A => exact fun s => s
      | exc x L A => exact fun s => s
      | bad => exact fun s => s
theorem loop_live {n : Nat} {L : Loc} {ds : List D} {f : D → Loc → AH → SRes} {Q : SQ} (I : Nat → Loc → AH → Prop) (hI : ∀ i L A, I i L A → A[n]? = some (.lst ds)) (hl : ds.length < fuel) (h0 : I 0 L A)
    (step : ∀ i d L A, ds[i]? = some d → I i L A → WpS (f d L A) ⟨I (i + 1), Q.rt, Q.nx, I (i + 1), Q.ex⟩) (fin : ∀ L A, I ds.length L A → Q.nx L A) : WpS (turnsW (wkLive n) f fuel 0 L A) Q :=
  turns_live I hI step fin fuel 0 L A hl (Nat.zero_le _) h0
theorem seqWk_ref {n : Nat} {ds : List D} (h : A[n]? = some (.lst ds)) : seqWk (.ref n) A = some (wkLive n) := by simp only [seqWk, h]
end
/-- a comprehension that tells g of each item -/
theorem comp_map {ds : List D} {f : D → List D → AH → Res (List D)} {g : D → D} {A : AH} {Q : List D → AH → Prop} {E : Ex → AH → Prop} (H : AH → Prop) (hl : ds.length < fuel) (h0 : H A)
    (step : ∀ d acc A', d ∈ ds → acc.length < 16777216 → H A' → Wp (f d acc A') (fun acc' A'' => acc' = acc ++ [g d] ∧ H A'') E)
    (go : ∀ A', H A' → Q (ds.map g) A') : Wp (overW (wkItems ds) f fuel 0 [] A) Q E := by
  refine comp_items (fun i acc A' => acc = (ds.take i).map g ∧ H A') hl ⟨rfl, h0⟩ (fun i d acc A' hd ⟨e, h⟩ => ?_) fun acc A' ⟨e, h⟩ => ?_
  · have hi : i < ds.length := by
      by_cases c : i < ds.length
      · exact c
      · rw [List.getElem?_eq_none (by omega)] at hd; cases hd
    refine (step d acc A' (List.mem_of_getElem? hd) ?_ h).mono (fun acc' A'' ⟨e', h'⟩ => ⟨?_, h'⟩) fun _ _ e => e
    · rw [e, List.length_map, List.length_take]
      unfold fuel at hl
      omega
    · rw [e', e, List.take_add_one, hd, List.map_append]
      rfl
  · rw [e, List.take_length]
    exact go A' h
/-- a comprehension whose items are of some kind -/
theorem comp_gen {ds : List D} {f : D → List D → AH → Res (List D)} {A : AH} {Q : List D → AH → Prop} {E : Ex → AH → Prop} (H : AH → Prop) (R : Nat → D → Prop) (hl : ds.length < fuel) (h0 : H A)
    (step : ∀ i d acc A', ds[i]? = some d → acc.length < 16777216 → H A' → Wp (f d acc A') (fun acc' A'' => ∃ v, acc' = acc ++ [v] ∧ R i v ∧ H A'') E)
    (go : ∀ vs A', vs.length = ds.length → (∀ j v, vs[j]? = some v → R j v) → H A' → Q vs A') : Wp (overW (wkItems ds) f fuel 0 [] A) Q E := by
  refine comp_items (fun i acc A' => acc.length = i ∧ (∀ j v, acc[j]? = some v → R j v) ∧ H A') hl ⟨rfl, fun j v e => (by cases e), h0⟩ (fun i d acc A' hd ⟨e, r, h⟩ => ?_) fun acc A' ⟨e, r, h⟩ => go acc A' e r h
  have hi : i < ds.length := by
    by_cases c : i < ds.length
    · exact c
    · rw [List.getElem?_eq_none (by omega)] at hd; cases hd
  refine (step i d acc A' hd (by unfold fuel at hl; omega) h).mono (fun acc' A'' ⟨v, e', r', h'⟩ => ?_) fun _ _ e => e
  subst e'
  refine ⟨by simp [e], fun j w hw => ?_, h'⟩
  by_cases c : j < acc.length
  · rw [List.getElem?_append_left c] at hw
    exact r j w hw
  · rw [List.getElem?_append_right (by omega)] at hw
    have : j - acc.length = 0 := by
      by_cases z : j - acc.length = 0
      · exact z
      · rw [List.getElem?_eq_none (by simp; omega)] at hw; cases hw
    rw [this] at hw
    cases hw
    rw [show j = i by omega]
    exact r'
theorem blsD_map (bs : List Bool) : blsD (bs.map D.bl) = some bs := by
  induction bs with
  | nil => rfl
  | cons b bs ih => simp only [List.map_cons, blsD, ih, Option.map_some]
theorem blsD_cons {b : Bool} {r : List D} : blsD (.bl b :: r) = (blsD r).map (b :: ·) := rfl
theorem blsD_nil : blsD [] = some [] := rfl
theorem cut_from {xs : List D} {k : Int} (h : 0 ≤ k) : cut xs (some k) none = xs.drop k.toNat := by
  unfold cut
  obtain ⟨j, rfl⟩ := Int.eq_ofNat_of_zero_le h
  rw [show HT.sIx xs.length 0 (some (j : Int)) = min j xs.length from HT.sIx_nat _ _ _]
  show (xs.drop (min j xs.length)).take (xs.length - min j xs.length) = _
  rw [Int.toNat_natCast]
  by_cases c : j ≤ xs.length
  · rw [Nat.min_eq_left c, List.take_of_length_le (by rw [List.length_drop]; exact Nat.le_refl _)]
  · rw [Nat.min_eq_right (by omega), Nat.sub_self, List.take_zero, List.drop_eq_nil_of_le (by omega)]
theorem cut_to {xs : List D} {k : Int} (h : 0 ≤ k) : cut xs none (some k) = xs.take k.toNat := by
  unfold cut
  obtain ⟨j, rfl⟩ := Int.eq_ofNat_of_zero_le h
  rw [show HT.sIx xs.length xs.length (some (j : Int)) = min j xs.length from HT.sIx_nat _ _ _]
  show (xs.drop 0).take (min j xs.length - 0) = _
  rw [Int.toNat_natCast, List.drop_zero, Nat.sub_zero]
  by_cases c : j ≤ xs.length
  · rw [Nat.min_eq_left c]
  · rw [Nat.min_eq_right (by omega), List.take_length, List.take_of_length_le (by omega)]
theorem atI_0 {α : Type} {a : α} {l : List α} : L2.atI (a :: l) 0 = some a := by
  simp only [L2.atI, L2.ixN, List.length_cons]
  rw [if_pos (by omega), if_pos (by omega)] <;> rfl
theorem atI_1 {α : Type} {a b : α} {l : List α} : L2.atI (a :: b :: l) 1 = some b := by
  simp only [L2.atI, L2.ixN, List.length_cons]
  rw [if_pos (by omega), if_pos (by omega)] <;> rfl
theorem atI_2 {α : Type} {a b c : α} {l : List α} : L2.atI (a :: b :: c :: l) 2 = some c := by
  simp only [L2.atI, L2.ixN, List.length_cons]
  rw [if_pos (by omega), if_pos (by omega)] <;> rfl
theorem atI_3 {α : Type} {a b c d : α} {l : List α} : L2.atI (a :: b :: c :: d :: l) 3 = some d := by
  simp only [L2.atI, L2.ixN, List.length_cons]
  rw [if_pos (by omega), if_pos (by omega)] <;> rfl
theorem atI_4 {α : Type} {a b c d e : α} {l : List α} : L2.atI (a :: b :: c :: d :: e :: l) 4 = some e := by
  simp only [L2.atI, L2.ixN, List.length_cons]
  rw [if_pos (by omega), if_pos (by omega)] <;> rfl
theorem tpB_tup {ds : List D} : tpB (.tup ds) = true := rfl
theorem tpB_str {x : Str} : tpB (.str x) = false := rfl
theorem tpB_bl {b : Bool} : tpB (.bl b) = false := rfl
theorem tpB_int {i : Int} : tpB (.int i) = false := rfl
theorem tpB_non : tpB .non = false := rfl
theorem tpB_ref {n : Nat} : tpB (.ref n) = false := rfl
theorem isStr_tup {ds : List D} : isStr (.tup ds) = false := rfl
theorem isStr_str {x : Str} : isStr (.str x) = true := rfl
theorem isStr_bl {b : Bool} : isStr (.bl b) = false := rfl
theorem isStr_int {i : Int} : isStr (.int i) = false := rfl
theorem isStr_non : isStr .non = false := rfl
theorem isStr_ref {n : Nat} : isStr (.ref n) = false := rfl
theorem isBl_tup {ds : List D} : isBl (.tup ds) = false := rfl
theorem isBl_str {x : Str} : isBl (.str x) = false := rfl
theorem isBl_bl {b : Bool} : isBl (.bl b) = true := rfl
theorem isBl_int {i : Int} : isBl (.int i) = false := rfl
theorem isBl_non : isBl .non = false := rfl
theorem isBl_ref {n : Nat} : isBl (.ref n) = false := rfl
theorem isInt_tup {ds : List D} : isInt (.tup ds) = false := rfl
theorem isInt_str {x : Str} : isInt (.str x) = false := rfl
theorem isInt_bl {b : Bool} : isInt (.bl b) = true := rfl
theorem isInt_int {i : Int} : isInt (.int i) = true := rfl
theorem isInt_non : isInt .non = false := rfl
theorem isInt_ref {n : Nat} : isInt (.ref n) = false := rfl
theorem in_str2 {w a b : Str} {A : AH} : cmpD .inn (.str w) (.tup [.str a, .str b]) A = some (a == w || (b == w || false)) := rfl
theorem in_str3 {w a b c : Str} {A : AH} : cmpD .inn (.str w) (.tup [.str a, .str b, .str c]) A = some (a == w || (b == w || (c == w || false))) := rfl
theorem setOf_tup {ds : List D} {A : AH} : setOf (.tup ds) A = none := rfl
theorem keyD_int {i : Int} : keyD (.int i) = some (.inl i) := rfl
theorem keyD_str {x : Str} : keyD (.str x) = some (.inr x) := rfl
theorem lim_lit : lim = 16777216 := by
  unfold lim
  exact (Nat.add_zero 16777216).symm.trans (Nat.add_zero _)
theorem wp_if {α : Type} {c : Prop} {_ : Decidable c} {o : Option (α × AH)} {Q : α → AH → Prop} {E : Ex → AH → Prop} (h : c) : Wp (Res.of (if c then o else none)) Q E ↔ Wp (Res.of o) Q E := by rw [if_pos h]
local macro_rules | `(tactic| walk_at "go") => `(tactic| try simp only [wps_nil, wps_cons, wps_ex, wps_asg, wps_par, wps_ret, wps_cond, wps_loop, wps_brk, wps_cont, wps_pass, wp_ret, wp_slot, wp_cst, wp_tup, wp_lst, wp_bin, wp_neg, wp_cmp, wp_chain, wp_and, wp_or, wp_not, wp_ifx, wp_idx, wp_slc, wp_rev, wp_call, wp_meth, wp_blt, wp_listR, wp_isi, wp_new, wp_attr, wp_mcall, wp_isc, wp_sset, wps_sta, wp_of1m, cmpE_int, cmpE_str, cmpE_bl, cmpE_tup, cmpE_non, cmpE_ne, cmpE_lt, cmpE_le, cmpE_gt, cmpE_ge, cmpE_isn, cmpE_notn, cmpE_inn, cmpE_nin, wp_star, wp_comp, wp_dct, wp_nil, wp_cons, wp_knil, wp_kcons, wp_onone, wp_osome, wp_iseq, wp_irng, wp_ienum, wp_izip, wp_tslot, wp_ttup, wp_titem, wp_tnil, wp_tcons, wp_fnil, wp_fone, wp_ok, wp_of1, wp_of, wp_of1n, wp_ofn, wp_onB, wp_onBn, wp_calm, wp_bind, wp_ite, wp_exc, wp_bad,
  getL_0, getL_s, bin_add, bin_sub, bin_mul, bin_fdiv, bin_mod, bin_tup, bin_str, cmp_lt, cmp_le, cmp_gt, cmp_ge, cmp_eqI, cmp_eqS, cmp_neI, cmp_neS, cmp_eqB, in_str2, in_str3, truth_bl, truth_int, truth_tup, truth_non, neg_int, intOf_int, tupOf_tup, idx_tup, idx_ref, idxO_lst, atI_0, atI_1, atI_2, atI_3, atI_4, cut_from, cut_to, List.drop_succ_cons, List.drop_zero, List.take_succ_cons, List.take_zero, List.drop_nil, List.take_nil, Int.reduceLE, Int.reduceBEq, blsD_map, blsD_cons, blsD_nil, set_ref, setO_cons, isList_ref, Option.isSome_some, Int.reduceLE, Int.reduceLT, Int.cast_ofNat_Int, Int.reduceToNat, List.getElem?_cons_succ, List.getElem?_cons_zero, Int.reduceNeg, Int.reduceAdd, at_new, and_self, or_true, true_or, true_and, and_true, Int.reducePow, Int.reduceSub, Int.reduceMul, seq_ref, seqO_lst, seqO_frz, lst_ref, lstO_lst, len_ref, list_ref, lisO_lst, append_ref, enWk_tup, enWk_ref, split_str, base_join, base_split, str_int, str_str, int_str, len_str, seqWk_str, extend_tup', extend_ref, base_append, base_extend, base_get, get2_ref, dctO_dct, keyD_int, keyD_str,  tuple_ref, all_ref, any_ref, add_ref, slc_ref, len_tup, list_tup, int_int, int_bl, abs_int, max_int, max_ref, min_int, slc_tup, rev_tup, seqWk_tup, zipWk_tup, rng_one, rng_two, rng_three, wkEnum_items, Option.map_some, Option.bind_some, setAll,
  List.set_cons_zero, List.set_cons_succ, List.set_set, List.foldl_nil, List.foldl_cons, List.length_cons, List.length_nil, List.map_cons, List.map_nil, List.cons_append, List.nil_append, List.replicate_succ, List.replicate_zero, Nat.reduceAdd, Nat.reduceSub, Bool.not_true, Bool.not_false, if_true, if_false, Bool.false_eq_true, decide_eq_true_eq, Nat.reduceLeDiff, lim_lit, wipe, isiD_tup, isiD_str, isiD_int, isiD_bl, isiD_non, isi_tup, isi_str, isi_int, isi_bool, Bool.and_true, Bool.and_false, Bool.true_and, Bool.false_and, tpB_tup, tpB_str, tpB_bl, tpB_int, tpB_non, tpB_ref, isStr_tup, isStr_str, isStr_bl, isStr_int, isStr_non, isStr_ref, isBl_tup, isBl_str, isBl_bl, isBl_int, isBl_non, isBl_ref, isInt_tup, isInt_str, isInt_bl, isInt_int, isInt_non, isInt_ref])
local macro_rules | `(tactic| walk_at "goh") => `(tactic| try simp only [*, Int.reduceBEq, wps_nil, wps_cons, wps_ex, wps_asg, wps_par, wps_ret, wps_cond, wps_loop, wps_brk, wps_cont, wps_pass, wp_ret, wp_slot, wp_cst, wp_tup, wp_lst, wp_bin, wp_neg, wp_cmp, wp_chain, wp_and, wp_or, wp_not, wp_ifx, wp_idx, wp_slc, wp_rev, wp_call, wp_meth, wp_blt, wp_listR, wp_isi, wp_new, wp_attr, wp_mcall, wp_isc, wp_sset, wps_sta, wp_of1m, cmpE_int, cmpE_str, cmpE_bl, cmpE_tup, cmpE_non, cmpE_ne, cmpE_lt, cmpE_le, cmpE_gt, cmpE_ge, cmpE_isn, cmpE_notn, cmpE_inn, cmpE_nin, wp_star, wp_comp, wp_dct, wp_nil, wp_cons, wp_knil, wp_kcons, wp_onone, wp_osome, wp_iseq, wp_irng, wp_ienum, wp_izip, wp_tslot, wp_ttup, wp_titem, wp_tnil, wp_tcons, wp_fnil, wp_fone, wp_ok, wp_of1, wp_of, wp_of1n, wp_ofn, wp_onB, wp_onBn, wp_calm, wp_bind, wp_ite, wp_exc, wp_bad,
  getL_0, getL_s, bin_add, bin_sub, bin_mul, bin_fdiv, bin_mod, bin_tup, bin_str, cmp_lt, cmp_le, cmp_gt, cmp_ge, cmp_eqI, cmp_eqS, cmp_neI, cmp_neS, cmp_eqB, in_str2, in_str3, truth_bl, truth_int, truth_tup, truth_non, neg_int, intOf_int, tupOf_tup, idx_tup, idx_ref, idxO_lst, atI_0, atI_1, atI_2, atI_3, atI_4, cut_from, cut_to, List.drop_succ_cons, List.drop_zero, List.take_succ_cons, List.take_zero, List.drop_nil, List.take_nil, Int.reduceLE, blsD_map, blsD_cons, blsD_nil, set_ref, setO_cons, isList_ref, Option.isSome_some, Int.reduceLE, Int.reduceLT, Int.cast_ofNat_Int, Int.reduceToNat, List.getElem?_cons_succ, List.getElem?_cons_zero, Int.reduceNeg, Int.reduceAdd, at_new, and_self, or_true, true_or, true_and, and_true, Int.reducePow, Int.reduceSub, Int.reduceMul, seq_ref, seqO_lst, seqO_frz, lst_ref, lstO_lst, len_ref, list_ref, lisO_lst, append_ref, enWk_tup, enWk_ref, split_str, base_join, base_split, str_int, str_str, int_str, len_str, seqWk_str, extend_tup', extend_ref, base_append, base_extend, base_get, get2_ref, dctO_dct, keyD_int, keyD_str,  tuple_ref, all_ref, any_ref, add_ref, slc_ref, len_tup, list_tup, int_int, int_bl, abs_int, max_int, max_ref, min_int, slc_tup, rev_tup, seqWk_tup, zipWk_tup, rng_one, rng_two, rng_three, wkEnum_items, Option.map_some, Option.bind_some, setAll,
  List.set_cons_zero, List.set_cons_succ, List.set_set, List.foldl_nil, List.foldl_cons, List.length_cons, List.length_nil, List.map_cons, List.map_nil, List.cons_append, List.nil_append, List.replicate_succ, List.replicate_zero, Nat.reduceAdd, Nat.reduceSub, Bool.not_true, Bool.not_false, if_true, if_false, Bool.false_eq_true, decide_eq_true_eq, Nat.reduceLeDiff, lim_lit, wipe, isiD_tup, isiD_str, isiD_int, isiD_bl, isiD_non, isi_tup, isi_str, isi_int, isi_bool, Bool.and_true, Bool.and_false, Bool.true_and, Bool.false_and, tpB_tup, tpB_str, tpB_bl, tpB_int, tpB_non, tpB_ref, isStr_tup, isStr_str, isStr_bl, isStr_int, isStr_non, isStr_ref, isBl_tup, isBl_str, isBl_bl, isBl_int, isBl_non, isBl_ref, isInt_tup, isInt_str, isInt_bl, isInt_int, isInt_non, isInt_ref])
local macro_rules | `(tactic| walk_at "dr") => `(tactic| (refine draw_ok (by assumption) (by assumption) (by first | assumption | omega | decide) (by first | omega | decide) ?_; intro r A' r0 r1 hp f))
local macro_rules | `(tactic| walk_at "an") => `(tactic| (refine any_ok (by assumption) (by assumption) (Pot.snoc (by assumption) _) at_new (Nat.ne_of_gt (Pot.lt (by assumption))) (by simp) (by simp) ?_; intro d A' hm hp f))
local macro_rules | `(tactic| walk_at "fr") => `(tactic| repeat first | exact Fr.refl _ _ | assumption | refine Fr.snoc ?_ _ | refine Fr.trans ?_ (by assumption) | refine Fr.trans ?_ (Fr.nil (by assumption)))
local macro_rules | `(tactic| walk_at "g1") => `(tactic| try simp only [*, wps_nil, wps_ex, wps_asg, wps_par, wps_ret, wps_cond, wps_loop, wps_brk, wps_cont, wps_pass, wp_ret, wp_slot, wp_cst, wp_tup, wp_lst, wp_bin, wp_neg, wp_cmp, wp_chain, wp_and, wp_or, wp_not, wp_ifx, wp_idx, wp_slc, wp_rev, wp_call, wp_meth, wp_blt, wp_listR, wp_isi, wp_new, wp_attr, wp_mcall, wp_isc, wp_sset, wps_sta, wp_of1m, cmpE_int, cmpE_str, cmpE_bl, cmpE_tup, cmpE_non, cmpE_ne, cmpE_lt, cmpE_le, cmpE_gt, cmpE_ge, cmpE_isn, cmpE_notn, cmpE_inn, cmpE_nin, wp_star, wp_comp, wp_dct, wp_nil, wp_cons, wp_knil, wp_kcons, wp_onone, wp_osome, wp_iseq, wp_irng, wp_ienum, wp_izip, wp_tslot, wp_ttup, wp_titem, wp_tnil, wp_tcons, wp_fnil, wp_fone, wp_ok, wp_of1, wp_of, wp_of1n, wp_ofn, wp_onB, wp_onBn, wp_calm, wp_bind, wp_ite, wp_exc, wp_bad,
  getL_0, getL_s, bin_add, bin_sub, bin_mul, bin_fdiv, bin_mod, bin_tup, bin_str, cmp_lt, cmp_le, cmp_gt, cmp_ge, cmp_eqI, cmp_eqS, cmp_neI, cmp_neS, cmp_eqB, in_str2, in_str3, truth_bl, truth_int, truth_tup, truth_non, neg_int, intOf_int, tupOf_tup, idx_tup, idx_ref, idxO_lst, atI_0, atI_1, atI_2, atI_3, atI_4, cut_from, cut_to, List.drop_succ_cons, List.drop_zero, List.take_succ_cons, List.take_zero, List.drop_nil, List.take_nil, Int.reduceLE, Int.reduceBEq, blsD_map, blsD_cons, blsD_nil, set_ref, setO_cons, isList_ref, Option.isSome_some, Int.reduceLE, Int.reduceLT, Int.cast_ofNat_Int, Int.reduceToNat, List.getElem?_cons_succ, List.getElem?_cons_zero, Int.reduceNeg, Int.reduceAdd, at_new, and_self, or_true, true_or, true_and, and_true, Int.reducePow, Int.reduceSub, Int.reduceMul, seq_ref, seqO_lst, seqO_frz, lst_ref, lstO_lst, len_ref, list_ref, lisO_lst, append_ref, enWk_tup, enWk_ref, split_str, base_join, base_split, str_int, str_str, int_str, len_str, seqWk_str, extend_tup', extend_ref, base_append, base_extend, base_get, get2_ref, dctO_dct, keyD_int, keyD_str,  tuple_ref, all_ref, any_ref, add_ref, slc_ref, len_tup, list_tup, int_int, int_bl, abs_int, max_int, max_ref, min_int, slc_tup, rev_tup, seqWk_tup, zipWk_tup, rng_one, rng_two, rng_three, wkEnum_items, Option.map_some, Option.bind_some, setAll,
  List.set_cons_zero, List.set_cons_succ, List.set_set, List.foldl_nil, List.foldl_cons, List.length_cons, List.length_nil, List.map_cons, List.map_nil, List.cons_append, List.nil_append, List.replicate_succ, List.replicate_zero, Nat.reduceAdd, Nat.reduceSub, Bool.not_true, Bool.not_false, if_true, if_false, Bool.false_eq_true, decide_eq_true_eq, Nat.reduceLeDiff, lim_lit, wipe, isiD_tup, isiD_str, isiD_int, isiD_bl, isiD_non, isi_tup, isi_str, isi_int, isi_bool, Bool.and_true, Bool.and_false, Bool.true_and, Bool.false_and, tpB_tup, tpB_str, tpB_bl, tpB_int, tpB_non, tpB_ref, isStr_tup, isStr_str, isStr_bl, isStr_int, isStr_non, isStr_ref, isBl_tup, isBl_str, isBl_bl, isBl_int, isBl_non, isBl_ref, isInt_tup, isInt_str, isInt_bl, isInt_int, isInt_non, isInt_ref])
local macro_rules | `(tactic| walk_at "go1") => `(tactic| try simp only [wps_nil, wps_ex, wps_asg, wps_par, wps_ret, wps_cond, wps_loop, wps_brk, wps_cont, wps_pass, wp_ret, wp_slot, wp_cst, wp_tup, wp_lst, wp_bin, wp_neg, wp_cmp, wp_chain, wp_and, wp_or, wp_not, wp_ifx, wp_idx, wp_slc, wp_rev, wp_call, wp_meth, wp_blt, wp_listR, wp_isi, wp_new, wp_attr, wp_mcall, wp_isc, wp_sset, wps_sta, wp_of1m, cmpE_int, cmpE_str, cmpE_bl, cmpE_tup, cmpE_non, cmpE_ne, cmpE_lt, cmpE_le, cmpE_gt, cmpE_ge, cmpE_isn, cmpE_notn, cmpE_inn, cmpE_nin, wp_star, wp_comp, wp_dct, wp_nil, wp_cons, wp_knil, wp_kcons, wp_onone, wp_osome, wp_iseq, wp_irng, wp_ienum, wp_izip, wp_tslot, wp_ttup, wp_titem, wp_tnil, wp_tcons, wp_fnil, wp_fone, wp_ok, wp_of1, wp_of, wp_of1n, wp_ofn, wp_onB, wp_onBn, wp_calm, wp_bind, wp_ite, wp_exc, wp_bad,
  getL_0, getL_s, bin_add, bin_sub, bin_mul, bin_fdiv, bin_mod, bin_tup, bin_str, cmp_lt, cmp_le, cmp_gt, cmp_ge, cmp_eqI, cmp_eqS, cmp_neI, cmp_neS, cmp_eqB, in_str2, in_str3, truth_bl, truth_int, truth_tup, truth_non, neg_int, intOf_int, tupOf_tup, idx_tup, idx_ref, idxO_lst, atI_0, atI_1, atI_2, atI_3, atI_4, cut_from, cut_to, List.drop_succ_cons, List.drop_zero, List.take_succ_cons, List.take_zero, List.drop_nil, List.take_nil, Int.reduceLE, Int.reduceBEq, blsD_map, blsD_cons, blsD_nil, set_ref, setO_cons, isList_ref, Option.isSome_some, Int.reduceLE, Int.reduceLT, Int.cast_ofNat_Int, Int.reduceToNat, List.getElem?_cons_succ, List.getElem?_cons_zero, Int.reduceNeg, Int.reduceAdd, at_new, and_self, or_true, true_or, true_and, and_true, Int.reducePow, Int.reduceSub, Int.reduceMul, seq_ref, seqO_lst, seqO_frz, lst_ref, lstO_lst, len_ref, list_ref, lisO_lst, append_ref, enWk_tup, enWk_ref, split_str, base_join, base_split, str_int, str_str, int_str, len_str, seqWk_str, extend_tup', extend_ref, base_append, base_extend, base_get, get2_ref, dctO_dct, keyD_int, keyD_str,  tuple_ref, all_ref, any_ref, add_ref, slc_ref, len_tup, list_tup, int_int, int_bl, abs_int, max_int, max_ref, min_int, slc_tup, rev_tup, seqWk_tup, zipWk_tup, rng_one, rng_two, rng_three, wkEnum_items, Option.map_some, Option.bind_some, setAll,
  List.set_cons_zero, List.set_cons_succ, List.set_set, List.foldl_nil, List.foldl_cons, List.length_cons, List.length_nil, List.map_cons, List.map_nil, List.cons_append, List.nil_append, List.replicate_succ, List.replicate_zero, Nat.reduceAdd, Nat.reduceSub, Bool.not_true, Bool.not_false, if_true, if_false, Bool.false_eq_true, decide_eq_true_eq, Nat.reduceLeDiff, lim_lit, wipe, isiD_tup, isiD_str, isiD_int, isiD_bl, isiD_non, isi_tup, isi_str, isi_int, isi_bool, Bool.and_true, Bool.and_false, Bool.true_and, Bool.false_and, tpB_tup, tpB_str, tpB_bl, tpB_int, tpB_non, tpB_ref, isStr_tup, isStr_str, isStr_bl, isStr_int, isStr_non, isStr_ref, isBl_tup, isBl_str, isBl_bl, isBl_int, isBl_non, isBl_ref, isInt_tup, isInt_str, isInt_bl, isInt_int, isInt_non, isInt_ref])
def bDrawT : List CS :=
  [.cond (.cmp .gt (.idx (.slot 0) (.cst (.int 2))) (.cst (.int 0)))
    [.asg (.slot 3) (.bin .mod (.blt .int [(.idx (.slot 0) (.cst (.int 2)))]) (.slot 1)),
      .asg (.item (.slot 0) (.cst (.int 2))) (.bin .fdiv (.idx (.slot 0) (.cst (.int 2))) (.slot 1)),
      .ret (.slot 3)]
    [],
  .asg (.item (.slot 0) (.cst (.int 4))) (.bin .add (.idx (.slot 0) (.cst (.int 4))) (.cst (.int 1))),
  .asg (.slot 4) (.bin .mod (.blt .int [(.bin .mul (.blt .int [(.bin .add (.idx (.slot 0) (.cst (.int 3))) (.bin .mul (.cst (.int 7919)) (.idx (.slot 0) (.cst (.int 4)))))]) (.cst (.int 48271)))]) (.cst (.int 2147483647))),
  .asg (.slot 4) (.bin .mod (.blt .int [(.bin .mul (.slot 4) (.bin .add (.bin .fdiv (.slot 4) (.cst (.int 1009))) (.cst (.int 69621))))]) (.cst (.int 2147483647))),
  .asg (.slot 4) (.bin .mod (.blt .int [(.bin .mul (.slot 4) (.bin .add (.bin .fdiv (.slot 4) (.cst (.int 2003))) (.cst (.int 40692))))]) (.cst (.int 2147483399))),
  .ret (.bin .mod (.blt .int [(.bin .fdiv (.slot 4) (.cst (.int 16)))]) (.slot 1))]
def bDraw : List CS :=
  .cond (.and (.cmp .eq (.idx (.slot 0) (.cst (.int 2))) (.cst (.int 0))) (.cmp .lt (.idx (.slot 0) (.cst (.int 1))) (.blt .len [(.idx (.slot 0) (.cst (.int 0)))])))
    [.asg (.slot 2) (.idx (.idx (.slot 0) (.cst (.int 0))) (.idx (.slot 0) (.cst (.int 1)))),
      .asg (.item (.slot 0) (.cst (.int 1))) (.bin .add (.idx (.slot 0) (.cst (.int 1))) (.cst (.int 1))),
      .asg (.item (.slot 0) (.cst (.int 3))) (.bin .mod (.blt .int [(.bin .add (.bin .add (.bin .mul (.idx (.slot 0) (.cst (.int 3))) (.cst (.int 69621))) (.slot 2)) (.cst (.int 11)))]) (.cst (.int 2147483629))),
      .cond (.cmp .ge (.slot 2) (.cst (.int 1000000000000000000)))
        [.asg (.item (.slot 0) (.cst (.int 2))) (.slot 2)]
        []]
    [] :: bDrawT
section
variable {P : CProg} {k' f p : Nat} {m : Int} {A : AH} {Q : D → AH → Prop} {E : Ex → AH → Prop}
theorem Fr.set {S : List Nat} {A B : AH} {n : Nat} (h : Fr S A B) (o : AO) (hn : n ∈ S) : Fr S A (B.set n o) :=
  ⟨by rw [List.length_set]; exact h.le, fun j hj hS => by
    rw [List.getElem?_set_ne (fun e => hS (by rw [← e]; exact hn))]
    exact h.at_ j hj hS⟩
theorem drawT_ok {F : Fns} {c : Nat} {cells : List Int} {i b s k : Int} {l2 l3 l4 : Option D} {Q : SQ} (hA : A[p]? = some (.lst [.ref c, .int i, .int b, .int s, .int k])) (hcp : c ≠ p) (hC : A[c]? = some (.lst (cells.map D.int)))
    (i0 : 0 ≤ i) (b0 : 0 ≤ b) (s0 : 0 ≤ s) (k0 : 0 ≤ k) (pos : ∀ x ∈ cells, 0 ≤ x) (h0 : 0 < m) (h1 : m < 1073741824) (go : ∀ r A', 0 ≤ r → r < m → Pot p A' → Fr [p] A A' → Q.rt (.int r) A') :
    WpS (evSs P F bDrawT [some (.ref p), some (.int m), l2, l3, l4] A) Q := by
  have hlt : p < A.length := lt_of_at hA
  have hset : ∀ o, (A.set p o)[p]? = some o := fun o => set_self hlt
  unfold bDrawT
  walk_at "goh"
  split
  · refine go _ _ (Int.emod_nonneg _ (by omega)) (Int.emod_lt_of_pos _ h0) ⟨c, cells, i, b / m, s, k, hset _, hcp, ?_, i0, Int.ediv_nonneg b0 (by omega), s0, k0, pos⟩ ((Fr.refl _ _).set _ (by simp))
    rw [List.getElem?_set_ne (Ne.symm hcp)]
    exact hC
  · have e1 : ∀ x : Int, -18446744073709551616 < x % 2147483647 ∧ x % 2147483647 < 18446744073709551616 := fun x => by
      have := Int.emod_nonneg x (b := 2147483647) (by omega)
      have := Int.emod_lt_of_pos x (b := 2147483647) (by omega)
      omega
    simp only [e1]
    walk_at "goh"
    refine go _ _ (Int.emod_nonneg _ (by omega)) (Int.emod_lt_of_pos _ h0) ⟨c, cells, i, b, s, k + 1, hset _, hcp, ?_, i0, b0, s0, by omega, pos⟩ ((Fr.refl _ _).set _ (by simp))
    rw [List.getElem?_set_ne (Ne.symm hcp)]
    exact hC
theorem draw_ok (hd : Def P f 2 5 bDraw) (hp : Pot p A) (h0 : 0 < m) (h1 : m < 1073741824) (go : ∀ r A', 0 ≤ r → r < m → Pot p A' → Fr [p] A A' → Q (.int r) A') : Wp ((fns P (k' + 1)).call f [.ref p, .int m] A) Q E := by
  obtain ⟨c, cells, i, b, s, k, hA, hcp, hC, i0, b0, s0, k0, pos⟩ := hp
  have hlt : p < A.length := lt_of_at hA
  rw [wp_def hd rfl]
  unfold bDraw
  have hset : ∀ o, (A.set p o)[p]? = some o := fun o => set_self hlt
  have hset2 : ∀ o o', ((A.set p o).set p o')[p]? = some o' := fun o o' => set_self (by rw [List.length_set]; exact hlt)
  rw [wps_cons]
  walk_at "goh"
  split
  · split
    · rename_i h2
      obtain ⟨d, hd, hm, _⟩ := atI_of (ds := cells.map D.int) i0 (by simpa using h2)
      obtain ⟨x, hx, rfl⟩ := List.mem_map.mp hm
      walk_at "goh"
      have fin : ∀ b' s', 0 ≤ b' → 0 ≤ s' → WpS (evSs P (fns P k') bDrawT [some (.ref p), some (.int m), some (.int x), none, none] (A.set p (.lst [.ref c, .int (i + 1), .int b', .int s', .int k]))) ⟨fun _ A => Q .non A, Q, fun _ _ => False, fun _ _ => False, E⟩ := fun b' s' b1 s1 =>
        drawT_ok (hset _) hcp (by rw [List.getElem?_set_ne (Ne.symm hcp)]; exact hC) (by omega) b1 s1 k0 pos h0 h1 fun r A' r0 r1 hp hf => go r A' r0 r1 hp (((Fr.refl _ _).set _ (by simp)).trans hf)
      have s1 : 0 ≤ (s * 69621 + x + 11) % 2147483629 := Int.emod_nonneg _ (by omega)
      split
      · exact fin _ _ (pos _ hx) s1
      · exact fin _ _ b0 s1
    · refine drawT_ok hA hcp hC i0 b0 s0 k0 pos h0 h1 go
  · refine drawT_ok hA hcp hC i0 b0 s0 k0 pos h0 h1 go
def bAny (f : Nat) : List CS := [.ret (.idx (.slot 1) (.call f [(.slot 0), (.blt .len [(.slot 1)])]))]
theorem any_ok {g t : Nat} {ds : List D} (hd : Def P f 2 5 bDraw) (ha : Def P g 2 2 (bAny f)) (hp : Pot p A) (ht : A[t]? = some (.lst ds)) (tp : t ≠ p) (hne : 0 < ds.length) (hl : ds.length < 1073741824)
    (go : ∀ d A', d ∈ ds → Pot p A' → Fr [p] A A' → Q d A') : Wp ((fns P (k' + 2)).call g [.ref p, .ref t] A) Q E := by
  rw [wp_def ha rfl]
  unfold bAny
  walk_at "goh"
  refine draw_ok hd hp (by omega) (by omega) fun r A' r0 r1 hp' hf => ?_
  rw [hf.get ht (by simpa using tp)]
  obtain ⟨d, hd, hm, _⟩ := atI_of r0 r1
  simp only [Option.bind_some, idxO_lst, hd, wp_of1]
  exact go d A' hm hp' hf
def bPot : List CS :=
  [.asg (.slot 1) (.comp (.blt .abs [(.blt .int [(.slot 2)])]) (.slot 2) (.seq (.slc (.slot 0) none (some (.cst (.int 63))))) [] [2]),
  .ret (.lst [(.slot 1), (.cst (.int 0)), (.cst (.int 0)), (.bin .add (.cst (.int 1)) (.blt .len [(.slot 1)])), (.cst (.int 0))])]
theorem pot_ok {n : Nat} {ns : List Int} (hd : Def P f 1 3 bPot) (hn : A[n]? = some (.frz (ns.map D.int))) (hl : ns.length ≤ 63) (go : ∀ p A', Pot p A' → Fr [] A A' → A.length ≤ p → Q (.ref p) A') : Wp ((fns P (k' + 1)).call f [.ref n] A) Q E := by
  rw [wp_def hd rfl]
  unfold bPot
  rw [wps_cons]
  walk_at "g1"
  rw [seqWk_ref at_new]
  walk_at "g1"
  have hl2 : (List.take 63 (ns.map D.int)) = ns.map D.int := List.take_of_length_le (by simpa using hl)
  rw [hl2]
  refine comp_live (ds := ns.map D.int) (fun i acc B => B = A ++ [.lst (ns.map D.int)] ∧ ∃ cs : List Int, acc = cs.map D.int ∧ cs.length = i ∧ ∀ x ∈ cs, 0 ≤ x) (fun i a B h => by rw [h.1]; exact at_new) (by simp [fuel]; omega) ⟨rfl, [], rfl, rfl, by simp⟩ (fun i d acc B hd ⟨hB, cs, e, hcs, pos⟩ => ?_) fun acc B ⟨hB, cs, e, hcs, pos⟩ => ?_
  · obtain ⟨x, _, rfl⟩ := List.mem_map.mp (List.mem_of_getElem? hd)
    have li : i < ns.length := by
      have := (List.getElem?_eq_some_iff.mp hd).1
      simpa using this
    have la : acc.length < 16777216 := by rw [e, List.length_map, hcs]; omega
    walk_at "go"
    simp only [la, if_true, wp_ok]
    refine ⟨hB, cs ++ [if x < 0 then -x else x], by rw [e, List.map_append]; rfl, by rw [List.length_append, hcs]; rfl, fun y hy => ?_⟩
    rcases List.mem_append.mp hy with hy | hy
    · exact pos y hy
    · rw [List.mem_singleton.mp hy]
      split <;> omega
  · subst hB
    subst e
    rw [wps_cons]
    walk_at "g1"
    refine go _ _ ⟨_, cs, 0, 0, _, 0, at_new, ?_, at_snoc at_new, by omega, by omega, by omega, by omega, pos⟩ (((Fr.refl _ _).snoc _).snoc _ |>.snoc _) ?_
    · simp
    · simp only [List.length_append]; omega
theorem Fr.sub {S T : List Nat} {A B : AH} (h : Fr S A B) (hs : ∀ x ∈ S, x ∈ T) : Fr T A B := ⟨h.le, fun n hn hT => h.at_ n hn fun e => hT (hs n e)⟩
theorem Fr.nil {S : List Nat} {A B : AH} (h : Fr [] A B) : Fr S A B := h.sub (by simp)
theorem Pot.fr {A B : AH} (h : Pot p A) (f : Fr [] A B) : Pot p B := by
  obtain ⟨c, cells, i, b, s, k, hA, hcp, hC, r⟩ := h
  exact ⟨c, cells, i, b, s, k, f.get hA (by simp), hcp, f.get hC (by simp), r⟩
end
end Kin
end
section
set_option linter.all false
/-! The compact program of law k69: what the compiler of KinC tells. -/
namespace Kin
open PySem
/-- is_whole -/
def b69_0 : List CS :=
  [.ret (.and (.isi (.slot 0) [.int]) (.not (.isi (.slot 0) [.bool])))]
/-- is_number -/
def b69_1 : List CS :=
  [.ret (.and (.call 0 [(.slot 0)]) (.cmp .ge (.slot 0) (.cst (.int 0))))]
/-- is_below -/
def b69_2 : List CS :=
  [.ret (.and (.call 1 [(.slot 1)]) (.cmp .lt (.slot 1) (.slot 0)))]
/-- is_figures -/
def b69_3 : List CS :=
  [.cond (.or (.not (.chain .le .le (.cst (.int 1)) (.blt .len [(.slot 0)]) (.cst (.int 9)))) (.not (.blt .all [(.comp (.cmp .inn (.slot 1) (.cst (.str ("0123456789" : Str)))) (.slot 1) (.seq (.slot 0)) [] [1])])))
 [.ret (.cst (.bl false))]
 [],
  .ret (.or (.cmp .eq (.blt .len [(.slot 0)]) (.cst (.int 1))) (.cmp .ne (.idx (.slot 0) (.cst (.int 0))) (.cst (.str ("0" : Str)))))]
/-- is_hues -/
def b69_4 : List CS :=
  [.cond (.or (.not (.isi (.slot 1) [.tuple])) (.cmp .ne (.blt .len [(.slot 1)]) (.slot 0)))
 [.ret (.cst (.bl false))]
 [],
  .ret (.blt .all [(.comp (.call 2 [(.cst (.int 10)), (.slot 2)]) (.slot 2) (.seq (.slot 1)) [] [2])])]
/-- is_tie -/
def b69_5 : List CS :=
  [.cond (.or (.not (.isi (.slot 1) [.tuple])) (.cmp .ne (.blt .len [(.slot 1)]) (.cst (.int 3))))
 [.ret (.cst (.bl false))]
 [],
  .asg (.tup [(.slot 2), (.slot 3), (.slot 4)]) (.slot 1),
  .ret (.and (.call 2 [(.cst (.int 4)), (.slot 2)]) (.and (.call 2 [(.slot 0), (.slot 3)]) (.call 2 [(.slot 0), (.slot 4)])))]
/-- line_of -/
def b69_6 : List CS :=
  [.ret (.bin .add (.meth .join (.cst (.str (" " : Str))) [(.comp (.blt .str [(.slot 1)]) (.slot 1) (.seq (.slot 0)) [] [1])]) (.cst (.str ("\n" : Str))))]
/-- web_text -/
def b69_7 : List CS :=
  [.asg (.slot 1) (.lst [(.call 6 [(.lst [(.cst (.str ("places" : Str))), (.attr (.slot 0) ("many" : Str))])]), (.call 6 [(.star false [(false, (.cst (.str ("hues" : Str)))), (true, (.attr (.slot 0) ("hues" : Str)))])])]),
  .ex (.meth .extend (.slot 1) [(.comp (.call 6 [(.star false [(false, (.cst (.str ("tie" : Str)))), (true, (.slot 2))])]) (.slot 2) (.seq (.attr (.slot 0) ("ties" : Str))) [] [2])]),
  .ret (.meth .join (.cst (.str ("" : Str))) [(.slot 1)])]
/-- has_form -/
def b69_8 : List CS :=
  [.cond (.not (.blt .all [(.comp (.call 3 [(.slot 2)]) (.slot 2) (.seq (.slc (.slot 1) (some (.cst (.int 1))) none)) [] [2])]))
 [.ret (.cst (.bl false))]
 [],
  .cond (.cmp .eq (.slot 0) (.cst (.int 0)))
 [.ret (.and (.cmp .eq (.idx (.slot 1) (.cst (.int 0))) (.cst (.str ("places" : Str)))) (.cmp .eq (.blt .len [(.slot 1)]) (.cst (.int 2))))]
 [],
  .cond (.cmp .eq (.slot 0) (.cst (.int 1)))
 [.ret (.cmp .eq (.idx (.slot 1) (.cst (.int 0))) (.cst (.str ("hues" : Str))))]
 [],
  .ret (.and (.cmp .eq (.idx (.slot 1) (.cst (.int 0))) (.cst (.str ("tie" : Str)))) (.cmp .eq (.blt .len [(.slot 1)]) (.cst (.int 4))))]
/-- read_web -/
def b69_9 : List CS :=
  [.cond (.not (.isi (.slot 0) [.str]))
 [.bad]
 [],
  .asg (.slot 1) (.meth .split (.slot 0) [(.cst (.str ("\n" : Str)))]),
  .asg (.slot 2) (.comp (.meth .split (.slot 6) [(.cst (.str (" " : Str)))]) (.slot 6) (.seq (.slc (.slot 1) none (some (.neg (.cst (.int 1)))))) [] [6]),
  .loop (.tup [(.slot 3), (.slot 4)]) (.enum (.slot 2))
 [.cond (.not (.call 8 [(.slot 3), (.slot 4)]))
 [.bad]
 []],
  .cond (.or (.cmp .lt (.blt .len [(.slot 2)]) (.cst (.int 2))) (.idx (.slot 1) (.neg (.cst (.int 1)))))
 [.bad]
 [],
  .asg (.slot 5) (.comp (.comp (.blt .int [(.slot 7)]) (.slot 7) (.seq (.slc (.slot 4) (some (.cst (.int 1))) none)) [] [7]) (.slot 4) (.seq (.slot 2)) [] [4]),
  .ret (.new 0 [(.idx (.idx (.slot 5) (.cst (.int 0))) (.cst (.int 0))), (.blt .tuple [(.idx (.slot 5) (.cst (.int 1)))]), (.blt .tuple [(.comp (.blt .tuple [(.slot 8)]) (.slot 8) (.seq (.slc (.slot 5) (some (.cst (.int 2))) none)) [] [8])])])]
/-- own same -/
def b69_13 : List CS :=
  [.cond (.isi (.slot 1) [.tuple, .list])
 [.cond (.or (.cmp .ne (.isi (.slot 0) [.tuple]) (.isi (.slot 1) [.tuple])) (.not (.isi (.slot 0) [.tuple, .list])))
 [.ret (.cst (.bl false))]
 [],
  .ret (.and (.cmp .eq (.blt .len [(.slot 0)]) (.blt .len [(.slot 1)])) (.blt .all [(.comp (.call 13 [(.slot 2), (.slot 3)]) (.tup [(.slot 2), (.slot 3)]) (.zip (.slot 0) (.slot 1)) [] [2, 3])]))]
 [],
  .ret (.and (.cmp .eq (.isi (.slot 0) [.bool]) (.isi (.slot 1) [.bool])) (.cmp .eq (.slot 0) (.slot 1)))]
/-- own parts -/
def b69_14 : List CS :=
  [.asg (.slot 5) (.bin .add (.cst (.int 1)) (.call 11 [(.slot 0), (.slot 1)])),
  .asg (.slot 6) (.lst []),
  .loop (.slot 7) (.rng [(.call 11 [(.slot 0), (.bin .add (.slot 4) (.cst (.int 1)))])])
 [.ex (.meth .append (.slot 6) [(.tup [(.call 11 [(.slot 0), (.slot 2)]), (.call 11 [(.slot 0), (.slot 5)]), (.call 11 [(.slot 0), (.slot 5)])])])],
  .ret (.tup [(.slot 5), (.blt .tuple [(.comp (.call 11 [(.slot 0), (.slot 3)]) (.slot 8) (.rng [(.slot 5)]) [] [8])]), (.blt .tuple [(.sset (.slot 6))])])]
/-- own web_text -/
def b69_15 : List CS :=
  [.asg (.slot 1) (.lst [(.bin .add (.cst (.str ("places " : Str))) (.blt .str [(.idx (.slot 0) (.cst (.int 0)))])), (.meth .join (.cst (.str (" " : Str))) [(.bin .add (.lst [(.cst (.str ("hues" : Str)))]) (.comp (.blt .str [(.slot 2)]) (.slot 2) (.seq (.idx (.slot 0) (.cst (.int 1)))) [] [2]))])]),
  .asg (.slot 1) (.bin .add (.slot 1) (.comp (.meth .join (.cst (.str (" " : Str))) [(.bin .add (.lst [(.cst (.str ("tie" : Str)))]) (.comp (.blt .str [(.slot 4)]) (.slot 4) (.seq (.slot 3)) [] [4]))]) (.slot 3) (.seq (.idx (.slot 0) (.cst (.int 2)))) [] [3])),
  .ret (.meth .join (.cst (.str ("" : Str))) [(.comp (.bin .add (.slot 5) (.cst (.str ("\n" : Str)))) (.slot 5) (.seq (.slot 1)) [] [5])])]
/-- own great -/
def b69_16 : List CS :=
  [.asg (.slot 1) (.lst []),
  .loop (.slot 2) (.rng [(.cst (.int 40))])
 [.loop (.slot 3) (.rng [(.cst (.int 40))])
 [.ex (.meth .append (.slot 1) [(.tup [(.call 11 [(.slot 0), (.cst (.int 4))]), (.slot 2), (.slot 3)])])]],
  .ret (.tup [(.cst (.int 40)), (.blt .tuple [(.comp (.call 11 [(.slot 0), (.cst (.int 10))]) (.slot 4) (.rng [(.cst (.int 40))]) [] [4])]), (.blt .tuple [(.blt .sorted [(.slot 1)])])])]
/-- own other -/
def b69_17 : List CS :=
  [.asg (.tup [(.slot 2), (.slot 3), (.slot 4)]) (.slot 1),
  .par [5, 6] [(.call 11 [(.slot 0), (.slot 2)]), (.call 11 [(.slot 0), (.cst (.int 4))])],
  .cond (.and (.cmp .eq (.slot 6) (.cst (.int 0))) (.cmp .gt (.blt .len [(.slot 4)]) (.cst (.int 0))))
 [.asg (.slot 7) (.call 11 [(.slot 0), (.blt .len [(.slot 4)])]),
  .ret (.tup [(.slot 2), (.slot 3), (.bin .add (.slc (.slot 4) none (some (.slot 7))) (.slc (.slot 4) (some (.bin .add (.slot 7) (.cst (.int 1)))) none))])]
 [],
  .cond (.and (.cmp .eq (.slot 6) (.cst (.int 1))) (.cmp .lt (.slot 2) (.cst (.int 40))))
 [.ret (.tup [(.bin .add (.slot 2) (.cst (.int 1))), (.bin .add (.slot 3) (.tup [(.call 11 [(.slot 0), (.cst (.int 10))])])), (.slot 4)])]
 [],
  .asg (.slot 8) (.tup [(.call 11 [(.slot 0), (.cst (.int 4))]), (.slot 5), (.call 11 [(.slot 0), (.slot 2)])]),
  .cond (.and (.cmp .eq (.slot 6) (.cst (.int 2))) (.and (.cmp .lt (.blt .len [(.slot 4)]) (.cst (.int 1600))) (.cmp .nin (.slot 8) (.slot 4))))
 [.ret (.tup [(.slot 2), (.slot 3), (.blt .tuple [(.blt .sorted [(.bin .add (.slot 4) (.tup [(.slot 8)]))])])])]
 [],
  .ret (.tup [(.slot 2), (.bin .add (.bin .add (.slc (.slot 3) none (some (.slot 5))) (.tup [(.bin .mod (.blt .int [(.bin .add (.bin .add (.idx (.slot 3) (.slot 5)) (.cst (.int 1))) (.call 11 [(.slot 0), (.cst (.int 9))]))]) (.cst (.int 10)))])) (.slc (.slot 3) (some (.bin .add (.slot 5) (.cst (.int 1)))) none)), (.slot 4)])]
/-- own is_read -/
def b69_18 : List CS :=
  [.asg (.slot 3) (.call 9 [(.slot 0)]),
  .cond (.or (.not (.isc (.slot 3) 0)) (.not (.call 13 [(.tup [(.attr (.slot 3) ("many" : Str)), (.attr (.slot 3) ("hues" : Str)), (.attr (.slot 3) ("ties" : Str))]), (.slot 1)])))
 [.ret (.cst (.bl false))]
 [],
  .ret (.and (.cmp .eq (.slot 3) (.slot 2)) (.and (.cmp .eq (.slot 2) (.slot 3)) (.cmp .eq (.call 7 [(.slot 3)]) (.slot 0))))]
/-- law -/
def b69_19 : List CS :=
  [.asg (.slot 1) (.call 10 [(.slot 0)]),
  .loop (.slot 2) (.rng [(.cst (.int 4))])
 [.asg (.slot 3) (.call 14 [(.slot 1), (.call 12 [(.slot 1), (.lst [(.cst (.int 1)), (.cst (.int 4)), (.cst (.int 12)), (.cst (.int 40))])]), (.cst (.int 4)), (.cst (.int 10)), (.call 12 [(.slot 1), (.lst [(.cst (.int 0)), (.cst (.int 3)), (.cst (.int 12)), (.cst (.int 60))])])]),
  .cond (.and (.cmp .eq (.slot 2) (.cst (.int 3))) (.cmp .eq (.call 11 [(.slot 1), (.cst (.int 24))]) (.cst (.int 0))))
 [.asg (.slot 3) (.call 16 [(.slot 1)])]
 [],
  .asg (.slot 4) (.call 17 [(.slot 1), (.slot 3)]),
  .par [5, 6] [(.new 0 [(.idx (.slot 3) (.cst (.int 0))), (.idx (.slot 3) (.cst (.int 1))), (.idx (.slot 3) (.cst (.int 2)))]), (.new 0 [(.idx (.slot 4) (.cst (.int 0))), (.idx (.slot 4) (.cst (.int 1))), (.idx (.slot 4) (.cst (.int 2)))])],
  .par [7, 8] [(.call 15 [(.slot 3)]), (.call 15 [(.slot 4)])],
  .cond (.or (.not (.call 13 [(.call 7 [(.slot 5)]), (.slot 7)])) (.or (.not (.call 13 [(.call 7 [(.slot 6)]), (.slot 8)])) (.cmp .eq (.slot 7) (.slot 8))))
 [.ret (.cst (.bl false))]
 [],
  .cond (.or (.not (.call 18 [(.slot 7), (.slot 3), (.slot 5)])) (.or (.not (.call 18 [(.slot 8), (.slot 4), (.slot 6)])) (.cmp .eq (.slot 5) (.slot 6))))
 [.ret (.cst (.bl false))]
 [],
  .cond (.or (.cmp .ne (.call 7 [(.slot 5)]) (.slot 7)) (.not (.call 13 [(.tup [(.attr (.slot 5) ("many" : Str)), (.attr (.slot 5) ("hues" : Str)), (.attr (.slot 5) ("ties" : Str))]), (.slot 3)])))
 [.ret (.cst (.bl false))]
 []],
  .ret (.cst (.bl true))]
/-- Web.__init__ -/
def b69_20 : List CS :=
  [.cond (.or (.not (.call 1 [(.slot 1)])) (.not (.chain .le .le (.cst (.int 1)) (.slot 1) (.cst (.int 40)))))
 [.bad]
 [],
  .cond (.not (.call 4 [(.slot 1), (.slot 2)]))
 [.bad]
 [],
  .cond (.or (.not (.isi (.slot 3) [.tuple])) (.cmp .gt (.blt .len [(.slot 3)]) (.cst (.int 1600))))
 [.bad]
 [],
  .loop (.tup [(.slot 4), (.slot 5)]) (.enum (.slot 3))
 [.cond (.or (.not (.call 5 [(.slot 1), (.slot 5)])) (.and (.cmp .gt (.slot 4) (.cst (.int 0))) (.cmp .le (.slot 5) (.idx (.slot 3) (.bin .sub (.slot 4) (.cst (.int 1)))))))
 [.bad]
 []],
  .sta (.slot 0) ("many" : Str) (.slot 1),
  .sta (.slot 0) ("hues" : Str) (.slot 2),
  .sta (.slot 0) ("ties" : Str) (.slot 3)]
/-- Web.__eq__ -/
def b69_21 : List CS :=
  [.ret (.and (.isc (.slot 1) 0) (.and (.cmp .eq (.attr (.slot 0) ("many" : Str)) (.attr (.slot 1) ("many" : Str))) (.and (.cmp .eq (.attr (.slot 0) ("hues" : Str)) (.attr (.slot 1) ("hues" : Str))) (.cmp .eq (.attr (.slot 0) ("ties" : Str)) (.attr (.slot 1) ("ties" : Str))))))]
structure Is69 (P : CProg) : Prop where
  d0 : Def P 0 1 1 b69_0
  d1 : Def P 1 1 1 b69_1
  d2 : Def P 2 2 2 b69_2
  d3 : Def P 3 1 2 b69_3
  d4 : Def P 4 2 3 b69_4
  d5 : Def P 5 2 5 b69_5
  d6 : Def P 6 1 2 b69_6
  d7 : Def P 7 1 3 b69_7
  d8 : Def P 8 2 3 b69_8
  d9 : Def P 9 1 9 b69_9
  d10 : Def P 10 1 3 bPot
  d11 : Def P 11 2 5 bDraw
  d12 : Def P 12 2 2 (bAny 11)
  d13 : Def P 13 2 4 b69_13
  d14 : Def P 14 5 9 b69_14
  d15 : Def P 15 1 6 b69_15
  d16 : Def P 16 1 5 b69_16
  d17 : Def P 17 2 9 b69_17
  d18 : Def P 18 3 4 b69_18
  d19 : Def P 19 1 9 b69_19
  d20 : Def P 20 4 6 b69_20
  d21 : Def P 21 2 2 b69_21
  cls : P.cls = [{ name := ("Web" : Str), init := 20, meths := [(("__eq__" : Str), 21)], flds := [("hues" : Str), ("many" : Str), ("ties" : Str)] }]
end Kin
end
section
set_option linter.all false
set_option maxRecDepth 100000
/-! Kin 32: integers sorted and shown. -/
namespace Kin
open PySem
theorem sortP_ints (is : List Int) : sortP (is.map D.int) (is.map PyData.int) = (is.mergeSort fun a b => decide (a ≤ b)).map D.int := by
  unfold sortP
  have e : (is.map D.int).zip (is.map PyData.int) = is.map fun i => (D.int i, PyData.int i) := by
    induction is with
    | nil => rfl
    | cons i is ih => simp only [List.map_cons, List.zip_cons_cons, ih]
  rw [e, ← PySem.W.sort_maps (r := fun a b => decide (a ≤ b)) (fun i => (D.int i, PyData.int i)) fun a _ b _ => ?_, List.map_map]
  · rfl
  · exact (congrFun (congrFun (PySem.W.dataLe_int fun i : Int => i) a) b).symm
theorem sort_nodup {is : List Int} (h : is.Nodup) : (is.mergeSort fun a b => decide (a ≤ b)) = uniq is := by
  have p := List.mergeSort_perm is fun a b => decide (a ≤ b)
  refine asc_ext ?_ (uniq_asc _) fun j => ?_
  · have s : (is.mergeSort fun a b => decide (a ≤ b)).Pairwise fun a b => decide (a ≤ b) = true := List.pairwise_mergeSort (fun a b c h1 h2 => by simp at *; omega) (fun a b => by simp; omega) is
    have n : (is.mergeSort fun a b => decide (a ≤ b)).Nodup := p.nodup_iff.mpr h
    refine (s.and n).imp fun {a b} hh => ?_
    have h1 : a ≤ b := by simpa using hh.1
    have h2 : a ≠ b := hh.2
    omega
  · rw [p.mem_iff, mem_uniq]
theorem allS_some {α : Type} : ∀ l : List α, allS (l.map some) = some l
  | [] => rfl
  | a :: l => by
    show (allS (l.map some)).map (a :: ·) = _
    rw [allS_some l]
    rfl
theorem pyD_ints (n : Nat) (A : AH) (is : List Int) : allS ((is.map D.int).map (pyD (n + 1) A)) = some (is.map PyData.int) := by
  rw [← allS_some (is.map PyData.int), List.map_map, List.map_map]
  rfl
theorem sortB_ints (is : List Int) : sortB (is.map PyData.int) = true := by
  unfold sortB
  simp only [Bool.and_eq_true, Bool.or_eq_true, List.all_map, List.all_eq_true, Function.comp_apply]
  refine ⟨fun i _ => ⟨?_, fun j _ => rfl⟩, .inr fun i _ => trivial⟩
  exact decide_eq_true (by rw [show (PyData.int i).depth = 0 from rfl]; omega)
theorem sortD_ints {A : AH} {is : List Int} (h : is.Nodup) (hl : is.length ≤ lim) : sortD (is.map D.int) A = some ((uniq is).map D.int) := by
  unfold sortD
  rw [show deep = 59 + 1 from rfl, pyD_ints]
  simp only [Option.bind_some, sortB_ints, Bool.true_and, List.length_map, hl, decide_true, if_true, sortP_ints, sort_nodup h]
/-- two that are shown alike -/
theorem shown_short {p : PyData} (h1 : p.showable = true) (h2 : p.hasDict = false) (h3 : p.depth ≤ 64) (h4 : p.shown.length ≤ lim) : showP p = some p.shown := by
  unfold showP
  simp only [h1, h2, h3, h4, decide_true, Bool.not_false, Bool.and_self, if_true]
theorem atI_m1 {α : Type} {a : α} {l : List α} : L2.atI (a :: l) (-1) = (a :: l)[l.length]? := by
  simp only [L2.atI, L2.ixN, List.length_cons]
  rw [if_neg (by omega), if_pos (by omega)]
  show (a :: l)[(-1 + ((l.length + 1 : Nat) : Int)).toNat]? = _
  rw [show (-1 + ((l.length + 1 : Nat) : Int)).toNat = l.length by omega]
theorem atI_last {α : Type} {l : List α} {a : α} : L2.atI (l ++ [a]) (-1) = some a := by
  cases l with
  | nil => exact atI_m1
  | cons x l =>
    rw [List.cons_append, atI_m1, List.length_append]
    show (x :: (l ++ [a]))[l.length + 1]? = _
    rw [List.getElem?_cons_succ, List.getElem?_append_right (Nat.le_refl _), Nat.sub_self]
    rfl
section
variable {P : CProg} {F : Fns} {L : Loc} {A : AH} {E : Ex → AH → Prop}
theorem wp_comp2 {st : Bool} {elt : CE} {t : CT} {it : CI} {ifs : List CE} {t1 : CT} {it1 : CI} {ifs1 : List CE} {own own1 : List Nat} {Q : D → AH → Prop} : Wp (evE P F (.comp2 st elt t it ifs t1 it1 ifs1 own own1) L A) Q E ↔ Wp (evI P F it L A) (fun w A =>
    Wp (overW w (fun d acc A => ((asT P F t d (wipe L own) A).bind fun L1 A => (evIfs P F ifs L1 A).bind fun b A =>
      if b then (evI P F it1 L1 A).bind fun w1 A => overW w1 (fun d1 acc A => ((asT P F t1 d1 (wipe L1 own1) A).bind fun L2 A => (evIfs P F ifs1 L2 A).bind fun b A =>
        if b then (evE P F elt L2 A).bind fun v A => Res.of1 A (addA st acc v) else .ok acc A).calm) fuel 0 acc A
      else .ok acc A).calm) fuel 0 [] A) (fun ds A => Wp (Res.of (newA st ds A)) Q E) E) E := by simp only [evE, wp_bind]
theorem wp_snil {Q : List D → AH → Prop} : Wp (evStar P F [] L A) Q E ↔ Q [] A := by simp only [evStar, wp_ok]
theorem wp_scons {e : CE} {es : List (Bool × CE)} {Q : List D → AH → Prop} : Wp (evStar P F ((false, e) :: es) L A) Q E ↔ Wp (evE P F e L A) (fun d A => Wp (evStar P F es L A) (fun ds A => Q (d :: ds) A) E) E := by
  simp only [evStar, wp_bind, wp_ok, Bool.false_eq_true, if_false]
theorem wp_sstar {e : CE} {es : List (Bool × CE)} {Q : List D → AH → Prop} : Wp (evStar P F ((true, e) :: es) L A) Q E ↔ Wp (evE P F e L A) (fun d A => Wp (Res.of1 A (seqOf d A)) (fun xs A => Wp (evStar P F es L A) (fun ds A => Q (xs ++ ds) A) E) E) E := by
  simp only [evStar, wp_bind, wp_ok, if_true]
theorem intsD_ints : ∀ is : List Int, intsD (is.map D.int) = some is
  | [] => rfl
  | i :: is => by
    show (intsD (is.map D.int)).map (i :: ·) = _
    rw [intsD_ints is]
    rfl
theorem mul_ref {m : Nat} {k : Int} : binD .mul (.ref m) (.int k) A = ((A[m]?).bind lstO).bind fun xs => if 0 ≤ k ∧ k ≤ 16777216 ∧ xs.length * k.toNat ≤ lim then some (.ref A.length, A ++ [.lst (List.replicate k.toNat xs).flatten]) else none := by
  simp only [binD, lst_ref]
  cases (A[m]?).bind lstO <;> rfl
theorem ixN_m1 {n : Nat} (h : 0 < n) : L2.ixN n (-1) = some (n - 1) := by
  unfold L2.ixN
  rw [if_neg (by omega), if_pos (by omega), show (-1 + (n : Int)).toNat = n - 1 by omega]
theorem ixN_nat {n : Nat} {k : Int} (h : 0 ≤ k) (h2 : k < n) : L2.ixN n k = some k.toNat := by
  unfold L2.ixN
  rw [if_pos h, if_pos h2]
theorem sorted_lst {n : Nat} {is : List Int} (h : A[n]? = some (.lst (is.map D.int))) (nd : is.Nodup) (hl : is.length ≤ lim) : callB .sorted [.ref n] A = some (.ref A.length, A ++ [.lst ((uniq is).map D.int)]) := by
  simp only [callB, setOf, seqOf, h, Option.bind_some, sortD_ints nd hl, Option.map_some]
  rfl
theorem add_set {is : List Int} {i : Int} (h : is.length < 4094) : addA true (is.map D.int) (.int i) = some ((insI i is).map D.int) := by
  simp only [addA, intsD_ints, h, if_true]
theorem new_set {is : List Int} : newA true (is.map D.int) A = some (.ref A.length, A ++ [.iset is]) := by
  simp only [newA, intsD_ints, Option.map_some]
  rfl
/-- all members come to a set: the inner clause over integers -/
theorem over_set {ms : List Int} {f : D → List D → AH → Res (List D)} {A : AH} {is : List Int} {Q : List D → AH → Prop} (hl : ms.length < fuel)
    (step : ∀ (m : Int) (acc : List Int), m ∈ ms → (∀ x ∈ acc, x ∈ is ∨ x ∈ ms) → Asc acc → Wp (f (.int m) (acc.map D.int) A) (fun a B => a = (insI m acc).map D.int ∧ B = A) E) (h0 : Asc is)
    (go : Q ((ms.foldl (fun a k => insI k a) is).map D.int) A) : Wp (overW (wkItems (ms.map D.int)) f fuel 0 (is.map D.int) A) Q E := by
  refine comp_items (fun i acc B => acc = ((ms.take i).foldl (fun a k => insI k a) is).map D.int ∧ B = A) (by simpa using hl) ⟨rfl, rfl⟩ (fun i d acc B hd ⟨e, eB⟩ => ?_) fun acc B ⟨e, eB⟩ => ?_
  · subst e eB
    rw [List.getElem?_map] at hd
    cases em : ms[i]? with
    | none => rw [em] at hd; cases hd
    | some m =>
      rw [em] at hd
      cases hd
      have ug := uniq_go (ms.take i) is h0
      refine (step m _ (List.mem_of_getElem? em) (fun x hx => ?_) ug.1).mono (fun a B ⟨e1, e2⟩ => ⟨?_, e2⟩) fun _ _ e => e
      · rcases (ug.2 x).mp hx with h | h
        · exact .inl h
        · exact .inr (List.mem_of_mem_take h)
      · rw [e1, List.take_add_one, em, List.foldl_append]
        rfl
  · subst e eB
    rw [List.length_map, List.take_length]
    exact go
end
end Kin
end
section
set_option linter.all false
/-! Kin 2: from the text to compact programs: what is not known becomes bad. -/
namespace Kin
open PySem

structure Ctx where
  funs : List (Str × Nat)
  /-- own classes; names of their methods -/
  clss : List (Str × Nat)
  mns : List Str
  cons : List (Str × D)
  blts : List Str
  N : List Str
  sc : Scope
  /-- in a comprehension: its scope (its names alone may be stored) -/
  wr : Option Scope

def ix {α : Type} [BEq α] (x : α) (l : List α) : Option Nat := l.idxOf? x
def okName (x : Str) : Bool := !(x == ("__debug__" : Str)) && !(x == ("__classdict__" : Str)) && !decide (x = ("__name__" : Str))
def visB (sc : Scope) (x : Str) : Bool := match sc.names.lookup x with
  | some .local => true
  | some .cell => true
  | some .free => true
  | _ => false
def locB (sc : Scope) (x : Str) : Bool := match sc.names.lookup x with
  | some .local => true
  | some .cell => true
  | _ => false
def Ctx.slot (C : Ctx) (x : Str) : Option Nat := if visB C.sc x && okName x then ix x C.N else none
def wrB (w : Option Scope) (x : Str) : Bool := match w with
  | none => true
  | some s => locB s x
def Ctx.tslot (C : Ctx) (x : Str) : Option Nat := if locB C.sc x && okName x && wrB C.wr x then ix x C.N else none
def Ctx.glob (C : Ctx) (x : Str) : Bool := (match C.sc.names.lookup x with
  | some .globalImplicit => true
  | _ => false) && okName x
def Ctx.bltn (C : Ctx) (x : Str) : Bool := C.glob x && C.blts.contains x

def opOf : Operator → Option BOp
  | .Add => some .add
  | .Sub => some .sub
  | .Mult => some .mul
  | .FloorDiv => some .fdiv
  | .Mod => some .mod
  | _ => none
def cmpOf : CmpOp → Option COp
  | .Eq => some .eq
  | .NotEq => some .ne
  | .Lt => some .lt
  | .LtE => some .le
  | .Gt => some .gt
  | .GtE => some .ge
  | .In => some .inn
  | .NotIn => some .nin
  | .Is => some .isn
  | .IsNot => some .notn
def constD : Const → Option D
  | .none => some .non
  | .bool b => some (.bl b)
  | .int i => some (.int i)
  | .str x => some (.str x)
  | _ => none
def isStar : Expr → Bool
  | .Starred _ _ => true
  | _ => false
def isSet : Expr → Bool
  | .Set _ _ _ => true
  | _ => false
def isComp : Expr → Bool
  | .ListComp _ _ _ _ => true
  | .SetComp _ _ _ _ => true
  | .DictComp _ _ _ _ _ => true
  | _ => false
def isSlice : Expr → Bool
  | .Slice _ _ _ _ => true
  | _ => false
def isTup : Expr → Bool
  | .Tuple _ _ _ => true
  | _ => false

abbrev CEF := Ctx → Expr → CE
def optF (f : Expr → CE) (k : Option Expr) : CE := match k with
  | some k => f k
  | none => .bad
def listF (f : CEF) (C : Ctx) (es : List Expr) : List CE := if es.any isStar then [.bad] else es.map (f C)
def boolF (op : BoolOp) : List CE → CE
  | [] => .bad
  | [e] => e
  | e :: es => match op with
    | .And => .and e (boolF op es)
    | .Or => .or e (boolF op es)
def isNm : Expr → Bool
  | .Name _ _ => true
  | _ => false
def tyOf (C : Ctx) : Expr → Option Ty
  | .Name x _ => if C.bltn x then
      (if x = ("int" : Str) then some .int else if x = ("bool" : Str) then some .bool else if x = ("str" : Str) then some .str else if x = ("tuple" : Str) then some .tuple
      else if x = ("list" : Str) then some .list else if x = ("dict" : Str) then some .dict else none) else none
  | _ => none
/-- built-in functions and types, by name -/
def bltOf (x : Str) : Option Blt :=
  if x = ("len" : Str) then some .len else if x = ("sum" : Str) then some .sum else if x = ("all" : Str) then some .all else if x = ("any" : Str) then some .any
  else if x = ("abs" : Str) then some .abs else if x = ("min" : Str) then some .min else if x = ("max" : Str) then some .max else if x = ("repr" : Str) then some .repr else if x = ("sorted" : Str) then some .sorted else none
def btyOf (x : Str) : Option Blt :=
  if x = ("list" : Str) then some .list else if x = ("tuple" : Str) then some .tuple else if x = ("int" : Str) then some .int else if x = ("bool" : Str) then some .bool else if x = ("set" : Str) then some .set else if x = ("str" : Str) then some .str else none
/-- range(..) -/
def rangeArgs (C : Ctx) : Expr → Option (List Expr)
  | .Call (.Name g _) es [] _ => if g = ("range" : Str) && C.bltn g && !es.any isStar then (match es with
      | [_] => some es
      | [_, _] => some es
      | _ => none) else none
  | _ => none
def rangeArgs3 (C : Ctx) : Expr → Option (List Expr)
  | .Call (.Name g _) [a, b, c] [] _ => if g = ("range" : Str) && C.bltn g && ![a, b, c].any isStar then some [a, b, c] else none
  | _ => none
def bmOf (m : Str) : Option Bm :=
  if m = ("append" : Str) then some .append else if m = ("extend" : Str) then some .extend else if m = ("get" : Str) then some .get else if m = ("setdefault" : Str) then some .setd else if m = ("pop" : Str) then some .pop else if m = ("join" : Str) then some .join else if m = ("split" : Str) then some .split else none
def bmArity (m : Bm) (n : Nat) : Bool := match m with
  | .append => n == 1
  | .extend => n == 1
  | .get => n == 1 || n == 2
  | .setd => n == 2
  | .pop => n == 0
  | .join => n == 1
  | .split => n == 1
/-- not super(), not x() -/
def plainBase : Expr → Bool
  | .Call (.Name _ _) [] [] _ => false
  | _ => true
def methF (f : CEF) (C : Ctx) (a : Expr) (m : Str) (p pos : Pos) (es : List Expr) : CE :=
  if C.mns.contains m then (if plainBase a && (p.endLine == pos.line) && decide (es.length < 30) && !es.any isStar then .mcall (f C a) m (es.map (f C)) else .bad) else
  match bmOf m with
  | some b => if bmArity b es.length && plainBase a && (p.endLine == pos.line) && !es.any isStar then .meth b (f C a) (es.map (f C)) else .bad
  | none => .bad
def starF (f : CEF) (C : Ctx) : Expr → Bool × CE
  | .Starred e _ => (true, f C e)
  | e => (false, f C e)
/-- a tuple of built-in types -/
def tysOf (C : Ctx) : Expr → Option (List Ty)
  | .Tuple es _ _ => if es.isEmpty || decide (10 < es.length) then none else es.foldr (fun e r => (tyOf C e).bind fun T => r.map (T :: ·)) (some [])
  | _ => none
/-- an own class -/
def clsOf (C : Ctx) : Expr → Option Nat
  | .Name x _ => if C.glob x then C.clss.lookup x else none
  | _ => none
/-- sorted(set(e)) -/
def setArg (C : Ctx) (x : Str) : List Expr → Option Expr
  | [.Call (.Name y _) [e] [] _] => if x = ("sorted" : Str) && y = ("set" : Str) && C.bltn y && !isStar e then some e else none
  | _ => none
def callF (f : CEF) (C : Ctx) (x : Str) (es : List Expr) : CE :=
  match C.funs.lookup x with
  | some i => if C.glob x then .call i (listF f C es) else .bad
  | none => match C.clss.lookup x with
  | some c => if C.glob x then .new c (listF f C es) else .bad
  | none => if C.bltn x then
      (if x = ("isinstance" : Str) then (match es with
        | [a, t] => if isStar a then .bad else match tyOf C t with
          | some T => .isi (f C a) [T]
          | none => match clsOf C t with
            | some c => .isc (f C a) c
            | none => match tysOf C t with
              | some Ts => .isi (f C a) Ts
              | none => .bad
        | _ => .bad)
      else match setArg C x es with
        | some e => .sset (f C e)
        | none => match bltOf x, btyOf x, es with
        | some b, _, _ :: _ => .blt b (listF f C es)
        | none, some b, [e] => if x = ("list" : Str) then (match rangeArgs C e with
            | some as => .listR (as.map (f C))
            | none => .blt b (listF f C es)) else .blt b (listF f C es)
        | _, _, _ => .bad) else .bad
def subF (f : CEF) (C : Ctx) (a : Expr) : Expr → CE
  | .Slice none none (some (.UnaryOp .USub (.Constant (.int 1) _ _) _)) _ => .rev (f C a)
  | .Slice lo hi none _ => .slc (f C a) (lo.map (f C)) (hi.map (f C))
  | .Slice _ _ _ _ => .bad
  | i => .idx (f C a) (f C i)
def iterF (f : CEF) (C : Ctx) (tup : Bool) (e : Expr) : CI :=
  match rangeArgs C e with
  | some as => .rng (as.map (f C))
  | none => match rangeArgs3 C e with
    | some as => .rng (as.map (f C))
    | none => match e with
    | .Call (.Name g p) es [] q => if g = ("enumerate" : Str) && C.bltn g && tup then (match es with
        | [a] => if isStar a then .bad else .enum (f C a)
        | _ => .bad)
      else if g = ("zip" : Str) && C.bltn g && tup then (match es with
        | [a, b] => if isStar a || isStar b then .bad else .zip (f C a) (f C b)
        | _ => .bad)
      else if g = ("enumerate" : Str) || g = ("zip" : Str) then .bad else .seq (f C (.Call (.Name g p) es [] q))
    | e => if isSet e || isStar e then .bad else .seq (f C e)
def tgtF (f : CEF) : Nat → Ctx → Expr → CT
  | 0, _, _ => .bad
  | m + 1, C, e => match e with
    | .Name x _ => (match C.tslot x with
      | some i => .slot i
      | none => .bad)
    | .Tuple es _ _ => if es.any isStar then .bad else .tup (es.map (tgtF f m C))
    | .Subscript a i _ => if isSlice i then .bad else .item (f C a) (f C i)
    | _ => .bad

/-- a comprehension's scope as it runs -/
def relC (scope : Scope) (C : Ctx) : Ctx := { C with sc := L2.relS scope C.sc, wr := some scope }
def ownOf (scope : Scope) (C : Ctx) : List (Str × Nat) := scope.names.filterMap fun p => match p.2 with
  | .local => (ix p.1 C.N).map fun i => (p.1, i)
  | .cell => (ix p.1 C.N).map fun i => (p.1, i)
  | _ => none
/-- what a comprehension's block wants -/
def blkB (scope : Scope) (C : Ctx) : Bool :=
  scope.kind == .function && scope.names.all fun y => decide (scope.names.lookup y.1 = some y.2) &&
    (match y.2 with
    | .free => (match C.sc.names.lookup y.1 with
      | some .cell => true
      | some .free => true
      | _ => false)
    | .local => (ownOf scope C).any (fun p => decide (p.1 = y.1)) || !C.N.contains y.1
    | .cell => (ownOf scope C).any (fun p => decide (p.1 = y.1)) || !C.N.contains y.1
    | _ => true)

mutual
def slotsT : CT → List Nat
  | .slot i => [i]
  | .tup ts => slotsTs ts
  | _ => []
def slotsTs : List CT → List Nat
  | [] => []
  | t :: ts => slotsT t ++ slotsTs ts
end
def badI : CI → Bool
  | .bad => true
  | _ => false
/-- two clauses -/
def comp2F (f : CEF) (C : Ctx) (st : Bool) (elt t it : Expr) (ifs : List Expr) (t1 it1 : Expr) (ifs1 : List Expr) (scope : Scope) : CE :=
  let C' := relC scope C
  if blkB scope C && !badI (iterF f C (isTup t) it) && !badI (iterF f C' (isTup t1) it1) then
    .comp2 st (f C' elt) (tgtF f 6 C' t) (iterF f C (isTup t) it) (ifs.map (f C')) (tgtF f 6 C' t1) (iterF f C' (isTup t1) it1) (ifs1.map (f C')) ((ownOf scope C).map (·.2)) (slotsT (tgtF f 6 C' t1))
  else .bad
def compE : Nat → Ctx → Expr → CE
  | 0, _, _ => .bad
  | n + 1, C, e => match e with
    | .Constant c _ _ => (match constD c with
      | some d => .cst d
      | none => .bad)
    | .Name x _ => (match C.slot x with
      | some i => .slot i
      | none => if C.glob x then (match C.cons.lookup x with
        | some d => .cst d
        | none => .bad) else .bad)
    | .Tuple es _ _ => if es.any isStar then .star true (es.map (starF (compE n) C)) else .tup (listF (compE n) C es)
    | .List es _ => if es.any isStar then .star false (es.map (starF (compE n) C)) else .lst (listF (compE n) C es)
    | .Dict ks vs _ => if ks.all (·.isSome) && decide (ks.length = vs.length) && !ks.isEmpty && decide (ks.length ≤ 15) then
        .dct ((ks.map (optF (compE n C))).zip (vs.map (compE n C))) else if ks.isEmpty && vs.isEmpty then .dct [] else .bad
    | .BinOp a op b _ => (match op, a, b with
      | .Pow, .Constant (.int i) _ _, .Constant (.int j) _ _ => if 0 ≤ j ∧ j ≤ 100 ∧ i.natAbs < 1000 then .cst (.int (i ^ j.toNat)) else .bad
      | _, _, _ => match opOf op with
        | some o => .bin o (compE n C a) (compE n C b)
        | none => .bad)
    | .UnaryOp .USub a _ => .neg (compE n C a)
    | .UnaryOp .Not a _ => .not (compE n C a)
    | .BoolOp op es _ => boolF op (es.map (compE n C))
    | .IfExp c a b _ => .ite (compE n C c) (compE n C a) (compE n C b)
    | .Compare a [op] [b] _ => (match cmpOf op with
      | some o => if isSet b then .bad else .cmp o (compE n C a) (compE n C b)
      | none => .bad)
    | .Compare a [op, op'] [b, c] _ => (match cmpOf op, cmpOf op' with
      | some o, some o' => if isSet c then .bad else .chain o o' (compE n C a) (compE n C b) (compE n C c)
      | _, _ => .bad)
    | .Subscript a i _ => subF (compE n) C a i
    | .Attribute a m _ => if plainBase a then .attr (compE n C a) m else .bad
    | .Call (.Name x _) es [] _ => callF (compE n) C x es
    | .Call (.Attribute a m p) es [] pos => methF (compE n) C a m p pos es
    | .ListComp elt [⟨t, it, ifs, 0⟩] scope _ =>
      if blkB scope C then .comp (compE n (relC scope C) elt) (tgtF (compE n) 6 (relC scope C) t) (iterF (compE n) C (isTup t) it) (ifs.map (compE n (relC scope C))) ((ownOf scope C).map (·.2)) else .bad
    | .ListComp elt [⟨t, it, ifs, 0⟩, ⟨t1, it1, ifs1, 0⟩] scope _ => comp2F (compE n) C false elt t it ifs t1 it1 ifs1 scope
    | .SetComp elt [⟨t, it, ifs, 0⟩, ⟨t1, it1, ifs1, 0⟩] scope _ => comp2F (compE n) C true elt t it ifs t1 it1 ifs1 scope
    | _ => .bad

/-- a, b = x, y: plain local names on one line -/
def parNames (C : Ctx) (line : Nat) : List Expr → Option (List Nat)
  | [] => some []
  | .Name x pos :: r => if pos.line == line && decide (C.sc.names.lookup x = some .local) then (C.tslot x).bind fun i => (parNames C line r).map (i :: ·) else none
  | _ => none
/-- some target is no local name -/
def oddB (C : Ctx) (ts : List Expr) : Bool := ts.any fun t => match t with
  | .Name x _ => !decide (C.sc.names.lookup x = some .local)
  | _ => true
def parF (f : CEF) (C : Ctx) (ts vs : List Expr) (tg e : Expr) : CS :=
  if oddB C ts then .asg (tgtF f 6 C tg) (f C e)
  else if (ts.length == 2 || ts.length == 3) && vs.length == ts.length && !vs.any isStar && !vs.all (foldedForSure 8) && !vs.all (constantsAlone 8) then
    (match parNames C ((ts.head?.map (·.pos.line)).getD 0) ts with
    | some is => if decide is.Nodup then .par is (vs.map (f C)) else .bad
    | none => .bad)
  else .bad
def compS : Nat → Ctx → Stmt → CS
  | 0, _, _ => .bad
  | n + 1, C, s => match s with
    | .Expr e _ => if isComp e then .bad else .ex (compE n C e)
    | .Assign [t] e _ => (match t, e with
      | .Tuple ts a b, .Tuple vs c d => parF (compE n) C ts vs (.Tuple ts a b) (.Tuple vs c d)
      | .List _ _, _ => .bad
      | .Starred _ _, _ => .bad
      | .Attribute a m _, e => if plainBase a then .sta (compE n C a) m (compE n C e) else .bad
      | _, .SetComp _ _ _ _ => .bad
      | .Name x _, .ListComp elt gs scope p => (match C.tslot x with
        | some i => .asg (.slot i) (compE n C (.ListComp elt gs scope p))
        | none => .bad)
      | t, e => .asg (tgtF (compE n) 6 C t) (compE n C e))
    | .Return (some e) _ => .ret (compE n C e)
    | .Return none _ => .ret (.cst .non)
    | .If c a b _ => .cond (compE n C c) (a.map (compS n C)) (b.map (compS n C))
    | .For t it b [] _ => .loop (tgtF (compE n) 6 C t) (iterF (compE n) C (isTup t) it) (b.map (compS n C))
    | .While c b [] _ => .while (compE n C c) (b.map (compS n C))
    | .Break _ => .brk
    | .Continue _ => .cont
    | .Pass _ => .pass
    | _ => .bad

/-! the names of a def: parameters, its own, those of its comprehensions -/
def ownN (sc : Scope) : List Str := sc.names.filterMap fun p => match p.2 with
  | .local => if p.1 = (".0" : Str) then none else some p.1
  | .cell => some p.1
  | _ => none
def optN (f : Expr → List Str) (e : Option Expr) : List Str := match e with
  | some e => f e
  | none => []
def genN (f : Expr → List Str) (g : Comprehension) : List Str := f g.iter ++ g.ifs.flatMap f
def compNames : Nat → Expr → List Str
  | 0, _ => []
  | n + 1, e => match e with
    | .Tuple es _ _ => es.flatMap (compNames n)
    | .List es _ => es.flatMap (compNames n)
    | .Dict ks vs _ => ks.flatMap (fun k => match k with | some k => compNames n k | none => []) ++ vs.flatMap (compNames n)
    | .BinOp a _ b _ => compNames n a ++ compNames n b
    | .UnaryOp _ a _ => compNames n a
    | .BoolOp _ es _ => es.flatMap (compNames n)
    | .IfExp c a b _ => compNames n c ++ compNames n a ++ compNames n b
    | .Compare a _ bs _ => compNames n a ++ bs.flatMap (compNames n)
    | .Subscript a i _ => compNames n a ++ compNames n i
    | .Slice a b c _ => optN (compNames n) a ++ optN (compNames n) b ++ optN (compNames n) c
    | .Call f es _ _ => compNames n f ++ es.flatMap (compNames n)
    | .Attribute a _ _ => compNames n a
    | .Starred a _ => compNames n a
    | .ListComp a gs sc _ => ownN sc ++ compNames n a ++ gs.flatMap (genN (compNames n))
    | .SetComp a gs sc _ => ownN sc ++ compNames n a ++ gs.flatMap (genN (compNames n))
    | _ => []
def stmtNames : Nat → Stmt → List Str
  | 0, _ => []
  | n + 1, s => match s with
    | .Expr e _ => compNames n e
    | .Assign ts e _ => ts.flatMap (compNames n) ++ compNames n e
    | .Return (some e) _ => compNames n e
    | .If c a b _ => compNames n c ++ a.flatMap (stmtNames n) ++ b.flatMap (stmtNames n)
    | .For _ it b _ _ => compNames n it ++ b.flatMap (stmtNames n)
    | .While c b _ _ => compNames n c ++ b.flatMap (stmtNames n)
    | _ => []
def dedupS : List Str → List Str → List Str
  | acc, [] => acc
  | acc, x :: xs => if acc.contains x then dedupS acc xs else dedupS (acc ++ [x]) xs
def paramsOf (a : Arguments) : List Str := a.args.map (·.arg)
def namesOf (a : Arguments) (sc : Scope) (body : List Stmt) : List Str :=
  dedupS [] (paramsOf a ++ (sc.names.filterMap fun p => match p.2 with | .local => some p.1 | .cell => some p.1 | _ => none) ++ body.flatMap (stmtNames 60))

/-- a def of the text: of the module, or of a class -/
structure Item where
  own : Option Str
  name : Str
  args : Arguments
  body : List Stmt
  sc : Scope
  deriving Inhabited
def Item.qual (it : Item) : Str := match it.own with
  | none => it.name
  | some c => c ++ Str.ofString "." ++ it.name
def arrB (a : Arguments) (sc : Scope) (b : List Stmt) : Bool :=
  a.posonlyargs.isEmpty && a.kwonlyargs.isEmpty && a.vararg.isNone && a.kwarg.isNone && a.defaults.isEmpty &&
  decide (sc.kind = .function) && !sc.isCoroutine && !sc.isGenerator && decide (namesOf a sc b).Nodup && decide ((namesOf a sc b).take (paramsOf a).length = paramsOf a) &&
  (paramsOf a).all (fun x => decide (sc.names.lookup x = some .local ∨ sc.names.lookup x = some .cell)) && sc.names.all (fun y => decide (y.2 ≠ .free))
def itemOf (own : Option Str) (st : Stmt) : Option Item := match st with
  | .FunctionDef name a b [] _ _ sc _ _ _ => if arrB a sc b then some ⟨own, name, a, b, sc⟩ else none
  | _ => none
/-- a plain class: its name, its methods, the names its instances have -/
def clsD (st : Stmt) : Option (Str × List Item × List Str) := match st with
  | .ClassDef name [] [] body [] [] _ none _ stat _ => some (name, body.filterMap (itemOf (some name)), stat)
  | _ => none
/-- whole numbers and strings that stand in the module -/
def numD : Const → Option D
  | .int i => some (.int i)
  | .str x => some (.str x)
  | _ => none
def consOf (st : Stmt) : List (Str × D) := match st with
  | .Assign [.Name x _] (.Constant c _ _) _ => if x = ("__name__" : Str) then [] else (numD c).toList.map fun d => (x, d)
  | _ => []
def allBlts : List Str := ["len", "sum", "all", "any", "abs", "min", "max", "repr", "sorted", "set", "list", "tuple", "int", "bool", "str", "dict", "isinstance", "range", "enumerate", "zip"]
structure Tab where
  defs : List Item
  meths : List Item
  cons : List (Str × D)
  clss : List (Str × List Str)
def clsL (top : List Stmt) : List (Str × List Str) := (top.filterMap clsD).map fun p => (p.1, p.2.2)
def tabOf (top : List Stmt) : Tab := ⟨top.filterMap (itemOf none), (top.filterMap clsD).flatMap (·.2.1), top.flatMap consOf, if ((clsL top).map (·.1)).Nodup then clsL top else []⟩
def Tab.items (T : Tab) : List Item := T.defs ++ T.meths
def isInit (c : Str) (it : Item) : Bool := decide (it.own = some c) && decide (it.name = ("__init__" : Str))
def Tab.ctx (T : Tab) (it : Item) : Ctx := { funs := (T.defs.map (·.name)).zipIdx, clss := (T.clss.map (·.1)).zipIdx.filter (fun p => (T.items.findIdx? (isInit p.1)).isSome), mns := T.meths.map (·.name), cons := T.cons, blts := allBlts, N := namesOf it.args it.sc it.body, sc := it.sc, wr := none }
def Tab.def_ (T : Tab) (it : Item) : CDef :=
  { name := it.qual, nps := (paramsOf it.args).length, n := (namesOf it.args it.sc it.body).length, body := it.body.map (compS 60 (T.ctx it)) }
def Tab.cls_ (T : Tab) (c : Str) (fs : List Str) : CCls :=
  { name := c, init := (T.items.findIdx? (isInit c)).getD T.items.length,
    meths := T.items.zipIdx.filterMap fun p => if p.1.own = some c && !isInit c p.1 then some (p.1.name, p.2) else none, flds := fs }
def Tab.prog (T : Tab) : CProg := ⟨T.items.map T.def_, T.clss.map fun p => T.cls_ p.1 p.2⟩
def runLaw (P : CProg) (ns : List Int) : Res D :=
  match P.defs.findIdx? fun d => d.name == ("law" : Str) with
  | some f => (fns P 60).call f [.ref 0] [.frz (ns.map D.int)]
  | none => .bad
def isTrue (r : Res D) : Bool := match r with
  | .ok (.bl b) _ => b
  | _ => false
end Kin
end
section
set_option linter.all false
set_option maxRecDepth 100000
/-! Kin 3: how data stand in the heap of the hand layer; readings. -/
namespace Kin
open PySem PySem.Spec PyProof.Rows L2
abbrev St := L2.St

mutual
def RV (ρ : List Addr) (H : Hp) : D → V → Prop
  | .non, v => v = .non
  | .bl b, v => v = .bl b
  | .int i, v => v = .int i
  | .str x, v => v = .str x
  | .tup ds, v => ∃ a vs, v = .ref a ∧ H a = some (.tup vs) ∧ RVs ρ H ds vs
  | .ref n, v => ∃ a, ρ[n]? = some a ∧ v = .ref a
def RVs (ρ : List Addr) (H : Hp) : List D → List V → Prop
  | [], vs => vs = []
  | d :: ds, vs => ∃ v r, vs = v :: r ∧ RV ρ H d v ∧ RVs ρ H ds r
end
def RKs (ρ : List Addr) (H : Hp) : List (L2.Key × D) → List (L2.Key × V) → Prop
  | [], vs => vs = []
  | (k, d) :: ds, vs => ∃ v r, vs = (k, v) :: r ∧ RV ρ H d v ∧ RKs ρ H ds r

/-- what is never written -/
def Still : HO → Prop
  | .tup _ => True
  | .rng _ _ => True
  | .xd _ => True
  | .own _ => True
  | _ => False
/-- what is behind: numbers are put behind; what is still, and what has no number, stays -/
structure Ext (ρ : List Addr) (H : Hp) (ρ' : List Addr) (H' : Hp) : Prop where
  pre : ∃ t, ρ' = ρ ++ t ∧ ∀ a ∈ t, H a = none
  still : ∀ a o, Still o → H a = some o → H' a = some o
  keep : ∀ a o, a ∉ ρ → H a = some o → H' a = some o
  dom : ∀ a, H' a = none → H a = none
theorem Ext.refl {ρ : List Addr} {H : Hp} : Ext ρ H ρ H := ⟨⟨[], by simp⟩, fun _ _ _ h => h, fun _ _ _ h => h, fun _ h => h⟩
theorem Ext.trans {ρ ρ1 ρ2 : List Addr} {H H1 H2 : Hp} (a : Ext ρ H ρ1 H1) (b : Ext ρ1 H1 ρ2 H2) : Ext ρ H ρ2 H2 := by
  obtain ⟨⟨t, e, f⟩, s1, k1, d1⟩ := a
  obtain ⟨⟨u, e', f'⟩, s2, k2, d2⟩ := b
  subst e e'
  refine ⟨⟨t ++ u, by simp, fun x hx => ?_⟩, fun x o s h => s2 x o s (s1 x o s h), fun x o n h => k2 x o ?_ (k1 x o n h), fun x h => d1 x (d2 x h)⟩
  · rcases List.mem_append.mp hx with hx | hx
    · exact f x hx
    · exact d1 x (f' x hx)
  · intro hx
    rcases List.mem_append.mp hx with hx | hx
    · exact n hx
    · have := f x hx
      rw [h] at this
      cases this
theorem Ext.at {ρ ρ' : List Addr} {H H' : Hp} (e : Ext ρ H ρ' H') {n : Nat} {a : Addr} (h : ρ[n]? = some a) : ρ'[n]? = some a := by
  obtain ⟨⟨t, rfl, _⟩, _⟩ := e
  have := (List.getElem?_eq_some_iff.mp h).1
  rw [List.getElem?_append_left this]
  exact h
section
variable {ρ ρ' : List Addr} {H H' : Hp}
/-- what readings need of it -/
structure Ex2 (ρ : List Addr) (H : Hp) (ρ' : List Addr) (H' : Hp) : Prop where
  at_ : ∀ (n : Nat) (a : Addr), ρ[n]? = some a → ρ'[n]? = some a
  still : ∀ a o, Still o → H a = some o → H' a = some o
theorem Ext.ex (x : Ext ρ H ρ' H') : Ex2 ρ H ρ' H' := ⟨fun _ _ h => x.at h, x.still⟩
mutual
theorem RV.mono2 (x : Ex2 ρ H ρ' H') : ∀ (d : D) (v : V), RV ρ H d v → RV ρ' H' d v
  | .non, _, h => by simp only [RV] at h ⊢; exact h
  | .bl _, _, h => by simp only [RV] at h ⊢; exact h
  | .int _, _, h => by simp only [RV] at h ⊢; exact h
  | .str _, _, h => by simp only [RV] at h ⊢; exact h
  | .tup ds, v, h => by
    simp only [RV] at h ⊢
    obtain ⟨a, vs, e, q, r⟩ := h
    exact ⟨a, vs, e, x.still _ _ trivial q, RVs.mono2 x ds vs r⟩
  | .ref n, v, h => by
    simp only [RV] at h ⊢
    obtain ⟨a, q, e⟩ := h
    exact ⟨a, x.at_ _ _ q, e⟩
theorem RVs.mono2 (x : Ex2 ρ H ρ' H') : ∀ (ds : List D) (vs : List V), RVs ρ H ds vs → RVs ρ' H' ds vs
  | [], _, h => by simp only [RVs] at h ⊢; exact h
  | d :: ds, vs, h => by
    simp only [RVs] at h ⊢
    obtain ⟨v, r, e, q, t⟩ := h
    exact ⟨v, r, e, RV.mono2 x d v q, RVs.mono2 x ds r t⟩
end
theorem RV.mono (x : Ext ρ H ρ' H') (d : D) (v : V) (h : RV ρ H d v) : RV ρ' H' d v := RV.mono2 x.ex d v h
theorem RVs.mono (x : Ext ρ H ρ' H') (d : List D) (v : List V) (h : RVs ρ H d v) : RVs ρ' H' d v := RVs.mono2 x.ex d v h
theorem RKs.mono2 (x : Ex2 ρ H ρ' H') : ∀ (ds : List (L2.Key × D)) (vs : List (L2.Key × V)), RKs ρ H ds vs → RKs ρ' H' ds vs
  | [], _, h => by simp only [RKs] at h ⊢; exact h
  | (k, d) :: ds, vs, h => by
    simp only [RKs] at h ⊢
    obtain ⟨v, r, e, q, t⟩ := h
    exact ⟨v, r, e, RV.mono2 x d v q, RKs.mono2 x ds r t⟩
theorem RKs.mono (x : Ext ρ H ρ' H') : ∀ (ds : List (L2.Key × D)) (vs : List (L2.Key × V)), RKs ρ H ds vs → RKs ρ' H' ds vs
  | [], _, h => by simp only [RKs] at h ⊢; exact h
  | (k, d) :: ds, vs, h => by
    simp only [RKs] at h ⊢
    obtain ⟨v, r, e, q, t⟩ := h
    exact ⟨v, r, e, RV.mono x d v q, RKs.mono x ds r t⟩
theorem RVs.length : ∀ {ds : List D} {vs : List V}, RVs ρ H ds vs → vs.length = ds.length
  | [], _, h => by simp only [RVs] at h; rw [h]; rfl
  | d :: ds, vs, h => by
    simp only [RVs] at h
    obtain ⟨v, r, e, _, t⟩ := h
    rw [e, List.length_cons, List.length_cons, RVs.length t]
theorem RVs.get : ∀ {ds : List D} {vs : List V} {i : Nat} {d : D}, RVs ρ H ds vs → ds[i]? = some d → ∃ v, vs[i]? = some v ∧ RV ρ H d v
  | [], _, i, d, _, h => by simp at h
  | x :: ds, vs, 0, d, h, e => by
    simp only [RVs] at h
    obtain ⟨v, r, e1, q, _⟩ := h
    simp at e
    subst e
    exact ⟨v, by rw [e1]; rfl, q⟩
  | x :: ds, vs, i + 1, d, h, e => by
    simp only [RVs] at h
    obtain ⟨v, r, e1, _, t⟩ := h
    obtain ⟨w, a, b⟩ := RVs.get (i := i) t (by simpa using e)
    exact ⟨w, by rw [e1]; simpa using a, b⟩
theorem RVs.append : ∀ {ds es : List D} {vs ws : List V}, RVs ρ H ds vs → RVs ρ H es ws → RVs ρ H (ds ++ es) (vs ++ ws)
  | [], _, vs, _, h, k => by simp only [RVs] at h; rw [h]; exact k
  | d :: ds, es, vs, ws, h, k => by
    simp only [RVs] at h
    obtain ⟨v, r, e, q, t⟩ := h
    rw [e]
    simp only [List.cons_append, RVs]
    exact ⟨v, r ++ ws, rfl, q, RVs.append t k⟩
theorem RVs.one {d : D} {v : V} (h : RV ρ H d v) : RVs ρ H [d] [v] := by
  simp only [RVs]
  exact ⟨v, [], rfl, h, rfl⟩
theorem RVs.of_get : ∀ {ds : List D} {vs : List V}, vs.length = ds.length → (∀ (i : Nat) d v, ds[i]? = some d → vs[i]? = some v → RV ρ H d v) → RVs ρ H ds vs
  | [], vs, hl, _ => by
    simp only [RVs]
    exact List.length_eq_zero_iff.mp (by simpa using hl)
  | d :: ds, [], hl, _ => by simp at hl
  | d :: ds, v :: vs, hl, h => by
    simp only [RVs]
    exact ⟨v, vs, rfl, h 0 d v rfl rfl, RVs.of_get (by simpa using hl) fun i d' v' a b => h (i + 1) d' v' (by simpa using a) (by simpa using b)⟩
theorem RVs.take {ds : List D} {vs : List V} (n : Nat) (h : RVs ρ H ds vs) : RVs ρ H (ds.take n) (vs.take n) := by
  refine RVs.of_get (by simp [h.length]) fun i d v a b => ?_
  rw [List.getElem?_take] at a b
  split at a
  · rename_i hi
    rw [if_pos hi] at b
    obtain ⟨w, c, r⟩ := h.get a
    rw [b] at c
    cases c
    exact r
  · cases a
theorem RVs.drop {ds : List D} {vs : List V} (n : Nat) (h : RVs ρ H ds vs) : RVs ρ H (ds.drop n) (vs.drop n) := by
  refine RVs.of_get (by simp [h.length]) fun i d v a b => ?_
  rw [List.getElem?_drop] at a b
  obtain ⟨w, c, r⟩ := h.get a
  rw [b] at c
  cases c
  exact r
theorem RVs.set {ds : List D} {vs : List V} {d : D} {v : V} (n : Nat) (h : RVs ρ H ds vs) (r : RV ρ H d v) : RVs ρ H (ds.set n d) (vs.set n v) := by
  refine RVs.of_get (by simp [h.length]) fun i d' v' a b => ?_
  rw [List.getElem?_set] at a b
  split at a
  · rename_i hi
    rw [if_pos hi] at b
    split at a
    · rename_i hj
      rw [if_pos (by rw [h.length]; exact hj)] at b
      cases a
      cases b
      exact r
    · cases a
  · rename_i hi
    rw [if_neg hi] at b
    obtain ⟨w, c, r'⟩ := h.get a
    rw [b] at c
    cases c
    exact r'
theorem RVs.dropLast {ds : List D} {vs : List V} (h : RVs ρ H ds vs) : RVs ρ H ds.dropLast vs.dropLast := by
  rw [List.dropLast_eq_take, List.dropLast_eq_take, h.length]
  exact h.take _
theorem RVs.reverse {ds : List D} {vs : List V} (h : RVs ρ H ds vs) : RVs ρ H ds.reverse vs.reverse := by
  refine RVs.of_get (by simp [h.length]) fun i d v a b => ?_
  have hl := (List.getElem?_eq_some_iff.mp a).1
  have hl2 := (List.getElem?_eq_some_iff.mp b).1
  rw [List.length_reverse] at hl hl2
  rw [List.getElem?_reverse hl] at a
  rw [List.getElem?_reverse hl2] at b
  obtain ⟨w, c, r⟩ := h.get a
  rw [h.length] at b
  rw [b] at c
  cases c
  exact r
theorem RVs.replicate {ds : List D} {vs : List V} (h : RVs ρ H ds vs) : ∀ n, RVs ρ H (List.replicate n ds).flatten (List.replicate n vs).flatten
  | 0 => by simp [RVs]
  | n + 1 => by
    rw [List.replicate_succ, List.replicate_succ, List.flatten_cons, List.flatten_cons]
    exact h.append (RVs.replicate h n)
theorem RVs.isEmpty {ds : List D} {vs : List V} (h : RVs ρ H ds vs) : vs.isEmpty = ds.isEmpty := by
  have := h.length
  cases ds <;> cases vs <;> simp_all
theorem RKs.length : ∀ {ds : List (L2.Key × D)} {vs : List (L2.Key × V)}, RKs ρ H ds vs → vs.length = ds.length
  | [], _, h => by simp only [RKs] at h; rw [h]; rfl
  | (k, d) :: ds, vs, h => by
    simp only [RKs] at h
    obtain ⟨v, r, e, _, t⟩ := h
    rw [e, List.length_cons, List.length_cons, RKs.length t]

theorem nodup_at {l : List Addr} (h : l.Nodup) {i j : Nat} (hi : i < l.length) (hj : j < l.length) (e : l[i] = l[j]) : i = j := by
  have p := List.pairwise_iff_getElem.mp h
  rcases Nat.lt_trichotomy i j with q | q | q
  · exact (p i j hi hj q e).elim
  · exact q
  · exact (p j i hj hi q e.symm).elim
/-- where the classes stand -/
structure Gl where
  w : World
  n : Nat
  ca : Nat → Addr
def RFs (ρ : List Addr) (H : Hp) : Flds → List (Str × V) → Prop
  | [], vs => vs = []
  | (f, d) :: ds, vs => ∃ v r, vs = (f, v) :: r ∧ RV ρ H d v ∧ RFs ρ H ds r
theorem RFs.mono2 (x : Ex2 ρ H ρ' H') : ∀ (ds : Flds) (vs : List (Str × V)), RFs ρ H ds vs → RFs ρ' H' ds vs
  | [], _, h => by simp only [RFs] at h ⊢; exact h
  | (k, d) :: ds, vs, h => by
    simp only [RFs] at h ⊢
    obtain ⟨v, r, e, q, t⟩ := h
    exact ⟨v, r, e, RV.mono2 x d v q, RFs.mono2 x ds r t⟩
theorem RFs.mono (x : Ext ρ H ρ' H') (ds : Flds) (vs : List (Str × V)) (h : RFs ρ H ds vs) : RFs ρ' H' ds vs := RFs.mono2 x.ex ds vs h
/-- an object and its number -/
def RO (G : Gl) (ρ : List Addr) (H : Hp) (a : Addr) : AO → Prop
  | .lst ds => ∃ vs, H a = some (.lst vs) ∧ RVs ρ H ds vs
  | .frz ds => ∃ o vs, H a = some (.frz o (.lst vs)) ∧ RVs ρ H ds vs
  | .dct kvs => ∃ ws, H a = some (.dK ws) ∧ RKs ρ H kvs ws
  | .ins c fs => ∃ dx ws, H a = some (.ins (G.ca c) dx ws) ∧ RFs ρ H fs ws ∧ c < G.n
  | .iset is => H a = some (ISet G.w a is) ∧ Asc is
variable {G : Gl}
theorem RO.there {a : Addr} {o : AO} (h : RO G ρ H a o) : ∃ u, H a = some u ∧ ¬ Still u := by
  cases o with
  | lst ds => obtain ⟨vs, e, _⟩ := h; exact ⟨_, e, id⟩
  | frz ds => obtain ⟨o, vs, e, _⟩ := h; exact ⟨_, e, id⟩
  | dct ds => obtain ⟨vs, e, _⟩ := h; exact ⟨_, e, id⟩
  | ins c fs => obtain ⟨dx, vs, e, _⟩ := h; exact ⟨_, e, id⟩
  | iset is => exact ⟨_, h.1, id⟩
theorem RO.mono {a : Addr} {o : AO} (x : Ext ρ H ρ' H') (e : H' a = H a) (h : RO G ρ H a o) : RO G ρ' H' a o := by
  cases o with
  | lst ds => obtain ⟨vs, q, r⟩ := h; exact ⟨vs, e.trans q, RVs.mono x _ _ r⟩
  | frz ds => obtain ⟨o, vs, q, r⟩ := h; exact ⟨o, vs, e.trans q, RVs.mono x _ _ r⟩
  | dct ds => obtain ⟨vs, q, r⟩ := h; exact ⟨vs, e.trans q, RKs.mono x _ _ r⟩
  | ins c fs => obtain ⟨dx, vs, q, r⟩ := h; exact ⟨dx, vs, e.trans q, RFs.mono x _ _ r.1, r.2⟩
  | iset is => exact ⟨e.trans h.1, h.2⟩
theorem RO.mono2 {a : Addr} {o : AO} (x : Ex2 ρ H ρ' H') (e : H' a = H a) (h : RO G ρ H a o) : RO G ρ' H' a o := by
  cases o with
  | lst ds => obtain ⟨vs, q, r⟩ := h; exact ⟨vs, e.trans q, RVs.mono2 x _ _ r⟩
  | frz ds => obtain ⟨o, vs, q, r⟩ := h; exact ⟨o, vs, e.trans q, RVs.mono2 x _ _ r⟩
  | dct ds => obtain ⟨vs, q, r⟩ := h; exact ⟨vs, e.trans q, RKs.mono2 x _ _ r⟩
  | ins c fs => obtain ⟨dx, vs, q, r⟩ := h; exact ⟨dx, vs, e.trans q, RFs.mono2 x _ _ r.1, r.2⟩
  | iset is => exact ⟨e.trans h.1, h.2⟩
structure Sim (G : Gl) (ρ : List Addr) (A : AH) (H : Hp) : Prop where
  len : ρ.length = A.length
  nd : ρ.Nodup
  at_ : ∀ (n : Nat) (a : Addr) (o : AO), ρ[n]? = some a → A[n]? = some o → RO G ρ H a o
theorem Sim.mem {A : AH} (s : Sim G ρ A H) {a : Addr} (h : a ∈ ρ) : ∃ u, H a = some u ∧ ¬ Still u := by
  obtain ⟨n, hn, e⟩ := List.mem_iff_getElem.mp h
  have h1 : ρ[n]? = some a := by rw [List.getElem?_eq_getElem hn, e]
  have h2 : n < A.length := s.len ▸ hn
  exact (s.at_ n a A[n] h1 (List.getElem?_eq_getElem h2)).there
theorem Sim.addr {A : AH} (s : Sim G ρ A H) {n : Nat} {o : AO} (h : A[n]? = some o) : ∃ a, ρ[n]? = some a ∧ RO G ρ H a o := by
  have h2 : n < ρ.length := s.len ▸ (List.getElem?_eq_some_iff.mp h).1
  exact ⟨ρ[n], List.getElem?_eq_getElem h2, s.at_ n _ o (List.getElem?_eq_getElem h2) h⟩
/-- something new without a number -/
theorem Ext.lay {p : Addr} {o : HO} (h : H p = none) : Ext ρ H ρ (upd H p o) := by
  refine ⟨⟨[], by simp⟩, fun a u _ e => ?_, fun a u _ e => ?_, fun a e => ?_⟩
  · rw [upd_ne (ne_of_none e h)]; exact e
  · rw [upd_ne (ne_of_none e h)]; exact e
  · by_cases q : a = p
    · subst q; exact h
    · rw [upd_ne q] at e; exact e
theorem Sim.lay {A : AH} {p : Addr} {o : HO} (s : Sim G ρ A H) (h : H p = none) : Sim G ρ A (upd H p o) := by
  refine ⟨s.len, s.nd, fun n a u e1 e2 => ?_⟩
  have r := s.at_ n a u e1 e2
  obtain ⟨w, q, _⟩ := r.there
  exact r.mono (Ext.lay h) (upd_ne (ne_of_none q h))
/-- what is there gets a number -/
theorem Ext.reg {ρ0 : List Addr} {H0 : Hp} {p : Addr} (x : Ext ρ0 H0 ρ H) (h0 : H0 p = none) : Ext ρ0 H0 (ρ ++ [p]) H := by
  obtain ⟨⟨t, e, f⟩, s, k, d⟩ := x
  refine ⟨⟨t ++ [p], by rw [e, List.append_assoc], fun a ha => ?_⟩, s, k, d⟩
  rcases List.mem_append.mp ha with ha | ha
  · exact f a ha
  · rw [List.mem_singleton.mp ha]; exact h0

mutual
theorem RV.more {p : Addr} : ∀ (d : D) (v : V), RV ρ H d v → RV (ρ ++ [p]) H d v
  | .non, _, h => by simp only [RV] at h ⊢; exact h
  | .bl _, _, h => by simp only [RV] at h ⊢; exact h
  | .int _, _, h => by simp only [RV] at h ⊢; exact h
  | .str _, _, h => by simp only [RV] at h ⊢; exact h
  | .tup ds, v, h => by
    simp only [RV] at h ⊢
    obtain ⟨a, vs, e, q, r⟩ := h
    exact ⟨a, vs, e, q, RVs.more ds vs r⟩
  | .ref n, v, h => by
    simp only [RV] at h ⊢
    obtain ⟨a, q, e⟩ := h
    have := (List.getElem?_eq_some_iff.mp q).1
    exact ⟨a, by rw [List.getElem?_append_left this]; exact q, e⟩
theorem RVs.more {p : Addr} : ∀ (ds : List D) (vs : List V), RVs ρ H ds vs → RVs (ρ ++ [p]) H ds vs
  | [], _, h => by simp only [RVs] at h ⊢; exact h
  | d :: ds, vs, h => by
    simp only [RVs] at h ⊢
    obtain ⟨v, r, e, q, t⟩ := h
    exact ⟨v, r, e, RV.more d v q, RVs.more ds r t⟩
end
theorem RKs.more {p : Addr} : ∀ (ds : List (L2.Key × D)) (vs : List (L2.Key × V)), RKs ρ H ds vs → RKs (ρ ++ [p]) H ds vs
  | [], _, h => by simp only [RKs] at h ⊢; exact h
  | (k, d) :: ds, vs, h => by
    simp only [RKs] at h ⊢
    obtain ⟨v, r, e, q, t⟩ := h
    exact ⟨v, r, e, RV.more d v q, RKs.more ds r t⟩
theorem RFs.more {p : Addr} : ∀ (ds : Flds) (vs : List (Str × V)), RFs ρ H ds vs → RFs (ρ ++ [p]) H ds vs
  | [], _, h => by simp only [RFs] at h ⊢; exact h
  | (k, d) :: ds, vs, h => by
    simp only [RFs] at h ⊢
    obtain ⟨v, r, e, q, t⟩ := h
    exact ⟨v, r, e, RV.more d v q, RFs.more ds r t⟩
theorem RO.more {p a : Addr} {o : AO} (h : RO G ρ H a o) : RO G (ρ ++ [p]) H a o := by
  cases o with
  | lst ds => obtain ⟨vs, q, r⟩ := h; exact ⟨vs, q, RVs.more _ _ r⟩
  | frz ds => obtain ⟨o, vs, q, r⟩ := h; exact ⟨o, vs, q, RVs.more _ _ r⟩
  | dct ds => obtain ⟨vs, q, r⟩ := h; exact ⟨vs, q, RKs.more _ _ r⟩
  | ins c fs => obtain ⟨dx, vs, q, r⟩ := h; exact ⟨dx, vs, q, RFs.more _ _ r.1, r.2⟩
  | iset is => exact h
theorem Sim.reg {A : AH} {p : Addr} {o : AO} (s : Sim G ρ A H) (hp : p ∉ ρ) (h : RO G ρ H p o) : Sim G (ρ ++ [p]) (A ++ [o]) H := by
  refine ⟨by simp [s.len], ?_, fun n a u e1 e2 => ?_⟩
  · rw [List.nodup_append]
    exact ⟨s.nd, by simp, fun a ha b hb => by rw [List.mem_singleton.mp hb]; intro e; exact hp (e ▸ ha)⟩
  · by_cases hn : n < ρ.length
    · rw [List.getElem?_append_left hn] at e1
      rw [List.getElem?_append_left (s.len ▸ hn)] at e2
      exact (s.at_ n a u e1 e2).more
    · have e : n = ρ.length := by
        have := (List.getElem?_eq_some_iff.mp e1).1
        rw [List.length_append, List.length_singleton] at this
        omega
      subst e
      rw [List.getElem?_append_right (Nat.le_refl _)] at e1
      rw [s.len, List.getElem?_append_right (Nat.le_refl _)] at e2
      simp at e1 e2
      subst e1 e2
      exact h.more
/-- a new object gets a number -/
theorem Sim.new_ {A : AH} {p : Addr} {ho : HO} {o : AO} (s : Sim G ρ A H) (h : H p = none) (r : RO G ρ (upd H p ho) p o) : Sim G (ρ ++ [p]) (A ++ [o]) (upd H p ho) :=
  (s.lay h).reg (fun hp => by
    obtain ⟨u, e, _⟩ := s.mem hp
    rw [h] at e
    cases e) r
/-- an object is written -/
theorem Ext.put {A : AH} {a : Addr} {ho : HO} (s : Sim G ρ A H) (ha : a ∈ ρ) : Ext ρ H ρ (upd H a ho) := by
  obtain ⟨u, e, ns⟩ := s.mem ha
  refine ⟨⟨[], by simp⟩, fun b o st h => ?_, fun b o hb h => ?_, fun b h => ?_⟩
  · by_cases q : b = a
    · subst q
      rw [e] at h
      cases h
      exact (ns st).elim
    · rw [upd_ne q]; exact h
  · rw [upd_ne (fun q : b = a => hb (q.symm ▸ ha))]; exact h
  · by_cases q : b = a
    · subst q
      rw [upd_same] at h
      cases h
    · rw [upd_ne q] at h; exact h
theorem Sim.put {A : AH} {n : Nat} {a : Addr} {ho : HO} {o : AO} (s : Sim G ρ A H) (hn : ρ[n]? = some a) (r : RO G ρ (upd H a ho) a o) : Sim G ρ (A.set n o) (upd H a ho) := by
  have ha : a ∈ ρ := List.mem_of_getElem? hn
  refine ⟨by simp [s.len], s.nd, fun k b u e1 e2 => ?_⟩
  by_cases q : k = n
  · subst q
    rw [hn] at e1
    cases e1
    have hl : k < A.length := s.len ▸ (List.getElem?_eq_some_iff.mp hn).1
    rw [List.getElem?_set_self hl] at e2
    cases e2
    exact r
  · rw [List.getElem?_set_ne (fun z => q z.symm)] at e2
    have hb : b ≠ a := by
      intro z
      subst z
      obtain ⟨h1, e1'⟩ := List.getElem?_eq_some_iff.mp e1
      obtain ⟨h2, e2'⟩ := List.getElem?_eq_some_iff.mp hn
      exact q (nodup_at s.nd h1 h2 (e1'.trans e2'.symm))
    exact (s.at_ k b u e1 e2).mono (Ext.put s ha) (upd_ne hb)
/-! something without a number is written, then gets one -/
theorem upd_ex2 {p : Addr} {u ho : HO} (h : H p = some u) (hu : ¬ Still u) : Ex2 ρ H (ρ ++ [p]) (upd H p ho) := by
  refine ⟨fun n a e => ?_, fun a o st e => ?_⟩
  · have := (List.getElem?_eq_some_iff.mp e).1
    rw [List.getElem?_append_left this]
    exact e
  · by_cases q : a = p
    · subst q
      rw [h] at e
      cases e
      exact (hu st).elim
    · rw [upd_ne q]; exact e
theorem upd_ex {p : Addr} {u ho : HO} (h : H p = some u) (hu : ¬ Still u) : Ex2 ρ H ρ (upd H p ho) := by
  refine ⟨fun n a e => e, fun a o st e => ?_⟩
  by_cases q : a = p
  · subst q
    rw [h] at e
    cases e
    exact (hu st).elim
  · rw [upd_ne q]; exact e
/-- it is written -/
theorem Sim.own {A : AH} {p : Addr} {u ho : HO} (s : Sim G ρ A H) (hp : p ∉ ρ) (h : H p = some u) (hu : ¬ Still u) : Sim G ρ A (upd H p ho) := by
  refine ⟨s.len, s.nd, fun n a o e1 e2 => ?_⟩
  have ha : a ≠ p := fun q => hp (q ▸ List.mem_of_getElem? e1)
  exact (s.at_ n a o e1 e2).mono2 (upd_ex h hu) (upd_ne ha)
theorem Ext.fin {p : Addr} {o1 o2 : HO} (x : Ext ρ (upd H p o1) ρ' H') (hp : H p = none) : Ext ρ H (ρ' ++ [p]) (upd H' p o2) := by
  obtain ⟨⟨t, e, f⟩, s, k, d⟩ := x
  refine ⟨⟨t ++ [p], by rw [e, List.append_assoc], fun a ha => ?_⟩, fun a o st h => ?_, fun a o n h => ?_, fun a h => ?_⟩
  · rcases List.mem_append.mp ha with ha | ha
    · have := f a ha
      by_cases q : a = p
      · rw [q]; exact hp
      · rw [upd_ne q] at this; exact this
    · rw [List.mem_singleton.mp ha]; exact hp
  · have q : a ≠ p := ne_of_none h hp
    rw [upd_ne q]
    exact s a o st (by rw [upd_ne q]; exact h)
  · have q : a ≠ p := ne_of_none h hp
    rw [upd_ne q]
    exact k a o n (by rw [upd_ne q]; exact h)
  · by_cases q : a = p
    · rw [q]; exact hp
    · rw [upd_ne q] at h
      have := d a h
      rw [upd_ne q] at this
      exact this
theorem Ext.new_not {p : Addr} {o1 : HO} (x : Ext ρ (upd H p o1) ρ' H') (hp : p ∉ ρ) : p ∉ ρ' := fun hm => by
  obtain ⟨t, et, ft⟩ := x.pre
  rw [et] at hm
  rcases List.mem_append.mp hm with hm | hm
  · exact hp hm
  · have := ft p hm
    rw [upd_same] at this
    cases this
theorem Sim.not_mem {A : AH} {p : Addr} (s : Sim G ρ A H) (hp : H p = none) : p ∉ ρ := fun hm => by
  obtain ⟨u, e, _⟩ := s.mem hm
  rw [hp] at e
  cases e
end
end Kin
end
section
set_option linter.all false
set_option maxRecDepth 100000
/-! Kin 4: readings by the evaluator; the primitives. -/
namespace Kin
open PySem PySem.Spec PyProof.Rows L2

/-- the names -/
def RL (ρ : List Addr) (H : Hp) (L : Loc) (σ : St) : Prop := L.length = σ.length ∧ ∀ (i : Nat) (d : D), L[i]? = some (some d) → ∃ v, σ[i]? = some (some v) ∧ RV ρ H d v
/-- an error, as it lies -/
def RX (G : Gl) (ρ : List Addr) (H : Hp) (x : Ex) (cls : Value) (d : Option Addr) : Prop := cls = .ref (G.ca x.c) ∧ match d with
  | none => x.fs = []
  | some dx => ∃ ws, H dx = some (.xd ws) ∧ RFs ρ H x.fs ws
section
variable {α β γ δ : Type}
abbrev Rel (α β : Type) : Type := List Addr → Hp → α → β → Prop
/-- what is wanted behind a result -/
def OutR (G : Gl) (R : Rel α β) (W : WX) (σ : St) (ρ : List Addr) (H : Hp) (Q : β → Hp → Prop) : Res α → Prop
  | .ok a A => ∀ ρ' H' v, Ext ρ H ρ' H' → Sim G ρ' A H' → R ρ' H' a v → Q v H'
  | .exc x A => ∀ ρ' H' cls dx, Ext ρ H ρ' H' → Sim G ρ' A H' → RX G ρ' H' x cls dx → W cls dx σ H'
  | .bad => False
def tR (G : Gl) (R : Rel α β) (W : WX) (m : Loc → AH → Res α) (σ : St) (H : Hp) (Q : β → Hp → Prop) : Prop := ∃ ρ A L, Sim G ρ A H ∧ RL ρ H L σ ∧ OutR G R W σ ρ H Q (m L A)
variable {G : Gl} {R : Rel α β} {R' : Rel γ δ} {W : WX} {σ : St} {ρ ρ1 : List Addr} {H H1 : Hp} {Q : β → Hp → Prop} {Q' : δ → Hp → Prop}
theorem OutR.mono (x : Ext ρ H ρ1 H1) : ∀ {r : Res α}, OutR G R W σ ρ H Q r → OutR G R W σ ρ1 H1 Q r
  | .ok _ _, h => fun ρ' H' v e s r => h ρ' H' v (x.trans e) s r
  | .exc _ _, h => fun ρ' H' c d e s r => h ρ' H' c d (x.trans e) s r
  | .bad, h => h
theorem RL.mono (x : Ext ρ H ρ1 H1) {L : Loc} (h : RL ρ H L σ) : RL ρ1 H1 L σ := ⟨h.1, fun i d e => by
  obtain ⟨v, q, r⟩ := h.2 i d e
  exact ⟨v, q, RV.mono x d v r⟩⟩
theorem Ex2.trans {ρ2 : List Addr} {H2 : Hp} (x : Ex2 ρ H ρ1 H1) (y : Ex2 ρ1 H1 ρ2 H2) : Ex2 ρ H ρ2 H2 := ⟨fun n a h => y.at_ n a (x.at_ n a h), fun a o s h => y.still a o s (x.still a o s h)⟩
theorem RL.mono2 (x : Ex2 ρ H ρ1 H1) {L : Loc} (h : RL ρ H L σ) : RL ρ1 H1 L σ := ⟨h.1, fun i d e => by
  obtain ⟨v, q, r⟩ := h.2 i d e
  exact ⟨v, q, RV.mono2 x d v r⟩⟩
theorem OutR.ok {a : α} {A : AH} {v : β} (h : OutR G R W σ ρ H Q (.ok a A)) (s : Sim G ρ A H) (r : R ρ H a v) : Q v H := h ρ H v .refl s r
theorem OutR.imp {P : β → Hp → Prop} (k : ∀ v H', Q v H' → P v H') : ∀ {r : Res α}, OutR G R W σ ρ H Q r → OutR G R W σ ρ H P r
  | .ok _ _, h => fun ρ' H' v e s r => k _ _ (h ρ' H' v e s r)
  | .exc _ _, h => h
  | .bad, h => h
/-- first one, then what hangs on it -/
theorem OutR.bind {r : Res α} {k : α → AH → Res γ} (h : OutR G R' W σ ρ H Q' (r.bind k)) :
    OutR G R W σ ρ H (fun v H1 => ∃ ρ1 A1 x, Ext ρ H ρ1 H1 ∧ Sim G ρ1 A1 H1 ∧ R ρ1 H1 x v ∧ OutR G R' W σ ρ1 H1 Q' (k x A1)) r := by
  cases r with
  | ok x A => exact fun ρ' H' v e s r => ⟨ρ', A, x, e, s, r, OutR.mono e h⟩
  | exc x A => exact h
  | bad => exact h
/-- the same, the wish as it stood ahead -/
theorem OutR.bind0 {r : Res α} {k : α → AH → Res γ} (x0 : Ext ρ H ρ1 H1) (h : OutR G R' W σ ρ H Q' (r.bind k)) :
    OutR G R W σ ρ1 H1 (fun v H2 => ∃ ρ2 A2 x, Ext ρ1 H1 ρ2 H2 ∧ Sim G ρ2 A2 H2 ∧ R ρ2 H2 x v ∧ OutR G R' W σ ρ H Q' (k x A2)) r := by
  cases r with
  | ok x A => exact fun ρ' H' v e s r => ⟨ρ', A, x, e, s, r, h⟩
  | exc x A => exact fun ρ' H' c d e s r => h ρ' H' c d (x0.trans e) s r
  | bad => exact h
end
theorem _root_.L2.PE.imp {X : Cx} {e : Expr} {t t' : TE} (h : PE X e t) (k : ∀ σ H Q, t' σ H Q → t σ H Q) : PE X e t' := ⟨fun pins s σ H Q I q => h.run pins s σ H Q I (k σ H Q q)⟩
theorem _root_.L2.PT.imp {X : Cx} {e : Expr} {t t' : TT} (h : PT X e t) (k : ∀ σ H Q, t' σ H Q → t σ H Q) : PT X e t' := ⟨fun pins s σ H Q I q => h.run pins s σ H Q I (k σ H Q q)⟩
theorem _root_.L2.PW.imp {X : Cx} {e : Expr} {t t' : TT} (h : PW X e t) (k : ∀ σ H Q, t' σ H Q → t σ H Q) : PW X e t' := ⟨fun w pins s σ H Q I q => h.run w pins s σ H Q I (k σ H Q q)⟩
theorem _root_.L2.PA.imp {X : Cx} {es : List Expr} {t t' : TA} (h : PA X es t) (k : ∀ σ H Q, t' σ H Q → t σ H Q) : PA X es t' := ⟨fun p pins s σ H Q I q => h.run p pins s σ H Q I (k σ H Q q)⟩
theorem _root_.L2.PO.imp {X : Cx} {e : Option Expr} {t t' : TO} (h : PO X e t) (k : ∀ σ H Q, t' σ H Q → t σ H Q) : PO X e t' := ⟨fun pins s σ H Q I q => h.run pins s σ H Q I (k σ H Q q)⟩
theorem _root_.L2.PI.imp {X : Cx} {g e : Expr} {t t' : TI} (h : PI X g e t) (k : ∀ σ H Q, t' σ H Q → t σ H Q) : PI X g e t' := ⟨fun pins s σ H Q I q => h.run pins s σ H Q I (k σ H Q q)⟩
theorem _root_.L2.PG.imp {X : Cx} {e : Expr} {t t' : TG} (h : PG X e t) (k : ∀ v σ H Q, t' v σ H Q → t v σ H Q) : PG X e t' := ⟨fun pins s σ H v u Q I r q => h.run pins s σ H v u Q I r (k v σ H Q q)⟩
theorem _root_.L2.PGs.imp {X : Cx} {e : List Expr} {t t' : TGs} (h : PGs X e t) (k : ∀ v σ H Q, t' v σ H Q → t v σ H Q) : PGs X e t' := ⟨fun pins s σ H v u Q I r q => h.run pins s σ H v u Q I r (k v σ H Q q)⟩
theorem _root_.L2.PS.imp {X : Cx} {st : Stmt} {t t' : TS} (h : PS X st t) (k : ∀ D σ H, t' D σ H → t D σ H) : PS X st t' := ⟨fun pins s σ H D I q => h.run pins s σ H D I (k D σ H q)⟩
theorem _root_.L2.PSs.imp {X : Cx} {st : List Stmt} {t t' : TS} (h : PSs X st t) (k : ∀ D σ H, t' D σ H → t D σ H) : PSs X st t' := ⟨fun pins s σ H D I q => h.run pins s σ H D I (k D σ H q)⟩

/-! ### what new things do -/
section
variable {G : Gl} {W : WX} {σ : St} {ρ : List Addr} {H : Hp} {A : AH} {Q : VK}
theorem sim_lst {ds : List D} {vs : List V} {p : Addr} (s : Sim G ρ A H) (r : RVs ρ H ds vs) (h : H p = none) : Sim G (ρ ++ [p]) (A ++ [.lst ds]) (upd H p (.lst vs)) :=
  s.new_ h ⟨vs, upd_same, RVs.mono (Ext.lay h) _ _ r⟩
theorem ref_new {p : Addr} {H : Hp} (s : Sim G ρ A H) {H' : Hp} : RV (ρ ++ [p]) H' (.ref A.length) (.ref p) := by
  simp only [RV]
  exact ⟨p, by rw [← s.len, List.getElem?_append_right (Nat.le_refl _)]; simp, rfl⟩
theorem out_lst {ds : List D} {vs : List V} (o : OutR G RV W σ ρ H Q (Res.of (some (new A (.lst ds))))) (s : Sim G ρ A H) (r : RVs ρ H ds vs) : ∀ p, H p = none → Q (.ref p) (upd H p (.lst vs)) := fun p h =>
  o _ _ _ ((Ext.lay h).reg h) (sim_lst s r h) (ref_new s)
theorem out_tup {ds : List D} {vs : List V} (o : OutR G RV W σ ρ H Q (.ok (.tup ds) A)) (s : Sim G ρ A H) (r : RVs ρ H ds vs) : ∀ p, H p = none → Q (.ref p) (upd H p (.tup vs)) := fun p h =>
  o _ _ _ (Ext.lay h) (s.lay h) (by
    simp only [RV]
    exact ⟨p, vs, rfl, upd_same, RVs.mono (Ext.lay h) _ _ r⟩)
theorem out_put {n : Nat} {a : Addr} {ho : HO} {ao : AO} {d : D} {v : V} (o : OutR G RV W σ ρ H Q (.ok d (A.set n ao))) (s : Sim G ρ A H) (hn : ρ[n]? = some a) (ro : RO G ρ (upd H a ho) a ao) (r : RV ρ (upd H a ho) d v) : Q v (upd H a ho) :=
  o _ _ _ (Ext.put s (List.mem_of_getElem? hn)) (s.put hn ro) r
end

/-! ### what data are -/
section
variable {ρ : List Addr} {H : Hp} {A : AH} {K : PySem.W.Frag}
theorem rv_ref {n : Nat} {v : V} {o : AO} (s : Sim G ρ A H) (r : RV ρ H (.ref n) v) (h : A[n]? = some o) : ∃ a, ρ[n]? = some a ∧ v = .ref a ∧ RO G ρ H a o := by
  simp only [RV] at r
  obtain ⟨a, e, q⟩ := r
  exact ⟨a, e, q, s.at_ n a o e h⟩
theorem seqOf_at {d : D} {ds : List D} {v : V} (s : Sim G ρ A H) (r : RV ρ H d v) (h : seqOf d A = some ds) : ∃ a vs, v = .ref a ∧ RVs ρ H ds vs ∧ (SqL K H a vs ∨ SqT K H a vs) := by
  cases d with
  | tup es =>
    simp only [seqOf, Option.some.injEq] at h
    subst h
    simp only [RV] at r
    obtain ⟨a, vs, e, q, rs⟩ := r
    exact ⟨a, vs, e, rs, .inr (.of q)⟩
  | ref n =>
    simp only [seqOf] at h
    split at h
    · rename_i es e
      simp only [Option.some.injEq] at h
      subst h
      obtain ⟨a, _, q, vs, e2, rs⟩ := rv_ref s r e
      exact ⟨a, vs, q, rs, .inl (.of e2)⟩
    · rename_i es e
      simp only [Option.some.injEq] at h
      subst h
      obtain ⟨a, _, q, o, vs, e2, rs⟩ := rv_ref s r e
      exact ⟨a, vs, q, rs, .inl (.inl (.inr ⟨o, e2⟩))⟩
    · cases h
  | _ => simp [seqOf] at h
theorem lstOf_at {d : D} {ds : List D} {v : V} (s : Sim G ρ A H) (r : RV ρ H d v) (h : lstOf d A = some ds) : ∃ a vs, v = .ref a ∧ RVs ρ H ds vs ∧ H a = some (.lst vs) := by
  cases d with
  | ref n =>
    simp only [lstOf] at h
    split at h
    · rename_i es e
      simp only [Option.some.injEq] at h
      subst h
      obtain ⟨a, _, q, vs, e2, rs⟩ := rv_ref s r e
      exact ⟨a, vs, q, rs, e2⟩
    · cases h
  | _ => simp [lstOf] at h
theorem atI_len {α β : Type} {xs : List α} {ys : List β} (h : ys.length = xs.length) {i : Int} {x : α} (e : L2.atI xs i = some x) : ∃ j : Nat, xs[j]? = some x ∧ ∀ y : β, ys[j]? = some y → L2.atI ys i = some y := by
  unfold L2.atI at e ⊢
  rw [h]
  cases q : ixN xs.length i with
  | none => rw [q] at e; cases e
  | some j =>
    rw [q] at e
    exact ⟨j, e, fun y hy => hy⟩
theorem RVs.atI {ds : List D} {vs : List V} {i : Int} {d : D} (r : RVs ρ H ds vs) (e : L2.atI ds i = some d) : ∃ v, L2.atI vs i = some v ∧ RV ρ H d v := by
  obtain ⟨j, h1, h2⟩ := atI_len r.length e
  obtain ⟨v, h3, h4⟩ := r.get h1
  exact ⟨v, h2 v h3, h4⟩
theorem RVs.cut {ds : List D} {vs : List V} (r : RVs ρ H ds vs) (lo hi : Option Int) : RVs ρ H (Kin.cut ds lo hi) (cutV vs lo hi) := by
  unfold Kin.cut cutV
  rw [r.length]
  exact (r.drop _).take _
theorem cut_all {α : Type} (xs : List α) (lo hi : Option Int) (h : HT.sIx xs.length 0 lo = 0 ∧ HT.sIx xs.length xs.length hi = xs.length) : Kin.cut xs lo hi = xs := by
  unfold Kin.cut
  rw [h.1, h.2]
  simp
theorem rvs_ints : ∀ {ds : List D} {vs : List V} {is : List Int}, RVs ρ H ds vs → intsD ds = some is → vs = is.map V.int
  | [], vs, is, r, h => by
    simp only [intsD, Option.some.injEq] at h
    simp only [RVs] at r
    subst h r
    rfl
  | .int i :: ds, vs, is, r, h => by
    simp only [intsD] at h
    cases e : intsD ds with
    | none => rw [e] at h; cases h
    | some js =>
      rw [e] at h
      simp only [Option.map_some, Option.some.injEq] at h
      simp only [RVs, RV] at r
      obtain ⟨v, t, rfl, rfl, rt⟩ := r
      subst h
      rw [rvs_ints rt e]
      rfl
  | .non :: _, _, _, _, h => by simp [intsD] at h
  | .bl _ :: _, _, _, _, h => by simp [intsD] at h
  | .str _ :: _, _, _, _, h => by simp [intsD] at h
  | .tup _ :: _, _, _, _, h => by simp [intsD] at h
  | .ref _ :: _, _, _, _, h => by simp [intsD] at h
theorem rvs_bls : ∀ {ds : List D} {vs : List V} {is : List Bool}, RVs ρ H ds vs → blsD ds = some is → vs = is.map V.bl
  | [], vs, is, r, h => by
    simp only [blsD, Option.some.injEq] at h
    simp only [RVs] at r
    subst h r
    rfl
  | .bl i :: ds, vs, is, r, h => by
    simp only [blsD] at h
    cases e : blsD ds with
    | none => rw [e] at h; cases h
    | some js =>
      rw [e] at h
      simp only [Option.map_some, Option.some.injEq] at h
      simp only [RVs, RV] at r
      obtain ⟨v, t, rfl, rfl, rt⟩ := r
      subst h
      rw [rvs_bls rt e]
      rfl
  | .non :: _, _, _, _, h => by simp [blsD] at h
  | .int _ :: _, _, _, _, h => by simp [blsD] at h
  | .str _ :: _, _, _, _, h => by simp [blsD] at h
  | .tup _ :: _, _, _, _, h => by simp [blsD] at h
  | .ref _ :: _, _, _, _, h => by simp [blsD] at h
theorem rv_flat {d : D} {v : V} (r : RV ρ H d v) (f : flatD d = true) : flatV v = true := by
  cases d <;> simp only [flatD, Bool.false_eq_true] at f <;> simp only [RV] at r <;> subst r <;> rfl
theorem rv_eqF {d e : D} {v u : V} (r : RV ρ H d v) (r2 : RV ρ H e u) (f : flatD d = true) (f2 : flatD e = true) : eqV v u = eqF d e := by
  cases d <;> simp only [flatD, Bool.false_eq_true] at f <;> cases e <;> simp only [flatD, Bool.false_eq_true] at f2 <;> simp only [RV] at r r2 <;> subst r r2 <;> rfl
theorem rvs_flat : ∀ {ds : List D} {vs : List V}, RVs ρ H ds vs → ds.all flatD = true → vs.all flatV = true
  | [], vs, r, _ => by simp only [RVs] at r; subst r; rfl
  | d :: ds, vs, r, h => by
    simp only [RVs] at r
    obtain ⟨v, t, rfl, rv, rt⟩ := r
    rw [List.all_cons, Bool.and_eq_true] at h ⊢
    exact ⟨rv_flat rv h.1, rvs_flat rt h.2⟩
theorem rvs_any {x : D} {u : V} (rx : RV ρ H x u) (fx : flatD x = true) : ∀ {ds : List D} {vs : List V}, RVs ρ H ds vs → ds.all flatD = true → (vs.any fun y => eqV y u) = ds.any fun z => eqF z x
  | [], vs, r, _ => by simp only [RVs] at r; subst r; rfl
  | d :: ds, vs, r, h => by
    simp only [RVs] at r
    obtain ⟨v, t, rfl, rv, rt⟩ := r
    rw [List.all_cons, Bool.and_eq_true] at h
    rw [List.any_cons, List.any_cons, rv_eqF rv rx h.1 fx, rvs_any rx fx rt h.2]
end
end Kin
end
section
set_option linter.all false
set_option maxRecDepth 100000
/-! Kin 5: the primitives over the hand layer. -/
namespace Kin
open PySem PySem.Spec PyProof.Rows L2

theorem lim_eq : lim = sizeLine := sizeLine_eq.symm
section
variable {α β : Type} {R : Rel α β} {G : Gl} {W : WX} {σ : St} {ρ : List Addr} {H : Hp} {A : AH} {Q' : β → Hp → Prop}
theorem out_of {p : Option (α × AH)} (o : OutR G R W σ ρ H Q' (Res.of p)) : ∃ d A', p = some (d, A') ∧ OutR G R W σ ρ H Q' (.ok d A') := by
  cases p with
  | none => exact (show False from o).elim
  | some q => exact ⟨q.1, q.2, rfl, o⟩
theorem out_of1 {p : Option α} (o : OutR G R W σ ρ H Q' (Res.of1 A p)) : ∃ d, p = some d ∧ OutR G R W σ ρ H Q' (.ok d A) := by
  cases p with
  | none => exact (show False from o).elim
  | some q => exact ⟨q, rfl, o⟩
end
section
variable {G : Gl} {W : WX} {σ : St} {ρ : List Addr} {H : Hp} {A : AH} {Q : VK} {X : Cx} {K : PySem.W.Frag}
theorem out_int {i : Int} (o : OutR G RV W σ ρ H Q (.ok (.int i) A)) (s : Sim G ρ A H) : Q (.int i) H := OutR.ok o s (by simp only [RV])
theorem out_bl {i : Bool} (o : OutR G RV W σ ρ H Q (.ok (.bl i) A)) (s : Sim G ρ A H) : Q (.bl i) H := OutR.ok o s (by simp only [RV])
theorem out_str {i : Str} (o : OutR G RV W σ ρ H Q (.ok (.str i) A)) (s : Sim G ρ A H) : Q (.str i) H := OutR.ok o s (by simp only [RV])
theorem out_non (o : OutR G RV W σ ρ H Q (.ok .non A)) (s : Sim G ρ A H) : Q .non H := OutR.ok o s (by simp only [RV])
theorem out_ref {n : Nat} {a : Addr} (o : OutR G RV W σ ρ H Q (.ok (.ref n) A)) (s : Sim G ρ A H) (h : ρ[n]? = some a) : Q (.ref a) H := OutR.ok o s (by simp only [RV]; exact ⟨a, h, rfl⟩)
theorem rv_int {i : Int} {v : V} (r : RV ρ H (.int i) v) : v = .int i := by simpa only [RV] using r
theorem rv_bl {i : Bool} {v : V} (r : RV ρ H (.bl i) v) : v = .bl i := by simpa only [RV] using r
theorem rv_str {i : Str} {v : V} (r : RV ρ H (.str i) v) : v = .str i := by simpa only [RV] using r
theorem rv_non {v : V} (r : RV ρ H .non v) : v = .non := by simpa only [RV] using r
theorem rv_tup {ds : List D} {v : V} (r : RV ρ H (.tup ds) v) : ∃ a vs, v = .ref a ∧ H a = some (.tup vs) ∧ RVs ρ H ds vs := by simpa only [RV] using r
theorem tup_rv {ds : List D} {a : Addr} {vs : List V} (h : H a = some (.tup vs)) (r : RVs ρ H ds vs) : RV ρ H (.tup ds) (.ref a) := by simp only [RV]; exact ⟨a, vs, rfl, h, r⟩
/-! ### two-place operations -/
abbrev rAddA (K : PySem.W.Frag) : R2 := fun x y H Q => rI0 (fun i j => .int (i + j)) x y H Q ∨ (∃ i j, x = .str i ∧ y = .str j ∧ i.length + j.length ≤ sizeLine ∧ Q (.str (i ++ j)) H) ∨ rCatA K x y H Q ∨ rCat x y H Q
theorem op_addA : OpR X (binaryOp .Add) (rAddA X.K) := op_add.or (op_add_str.or (op_catA.or op_cat))
theorem pr_add {x y : D} {v u : V} (s : Sim G ρ A H) (rx : RV ρ H x v) (ry : RV ρ H y u) (o : OutR G RV W σ ρ H Q (Res.of (binD .add x y A))) : rAddA K v u H Q := by
  obtain ⟨d, A', e, o⟩ := out_of o
  cases x <;> cases y <;> simp only [binD, reduceCtorEq] at e
  · cases e
    cases rv_int rx
    cases rv_int ry
    exact .inl ⟨_, _, rfl, rfl, out_int o s⟩
  · split at e
    · rename_i hl
      cases e
      cases rv_str rx
      cases rv_str ry
      exact .inr (.inl ⟨_, _, rfl, rfl, by rw [← lim_eq]; exact hl, out_str o s⟩)
    · cases e
  · rename_i xs ys
    split at e
    · rename_i hl
      cases e
      obtain ⟨a, vs, rfl, ha, ra⟩ := rv_tup rx
      obtain ⟨b, us, rfl, hb, rb⟩ := rv_tup ry
      refine .inr (.inr (.inl ⟨a, b, vs, us, rfl, rfl, .of ha, .of hb, by rw [ra.length, rb.length, ← lim_eq]; exact hl, fun z => ?_, fun _ z => ?_, fun _ _ => ?_⟩))
      · subst z
        have : xs = [] := List.length_eq_zero_iff.mp (by rw [← ra.length]; rfl)
        subst this
        exact OutR.ok o s (tup_rv hb rb)
      · subst z
        have : ys = [] := List.length_eq_zero_iff.mp (by rw [← rb.length]; rfl)
        subst this
        rw [List.append_nil] at o
        exact OutR.ok o s (tup_rv ha ra)
      · exact out_tup o s (ra.append rb)
    · cases e
  · split at e
    · rename_i xs ys e1 e2
      split at e
      · rename_i hl
        cases e
        obtain ⟨a, vs, rfl, ra, ha⟩ := lstOf_at s rx e1
        obtain ⟨b, us, rfl, rb, hb⟩ := lstOf_at s ry e2
        exact .inr (.inr (.inr ⟨a, b, vs, us, rfl, rfl, ha, hb, by rw [ra.length, rb.length, ← lim_eq]; exact hl, out_lst (ds := xs ++ ys) o s (ra.append rb)⟩))
      · cases e
    · cases e
theorem pr_sub {x y : D} {v u : V} (s : Sim G ρ A H) (rx : RV ρ H x v) (ry : RV ρ H y u) (o : OutR G RV W σ ρ H Q (Res.of (binD .sub x y A))) : rI0 (fun i j => .int (i - j)) v u H Q := by
  obtain ⟨d, A', e, o⟩ := out_of o
  cases x <;> cases y <;> simp only [binD, reduceCtorEq] at e
  cases e
  cases rv_int rx
  cases rv_int ry
  exact ⟨_, _, rfl, rfl, out_int o s⟩
abbrev rMulA : R2 := fun x y H Q => rI CMul (fun i j => .int (i * j)) x y H Q ∨ rRep x y H Q
theorem op_mulA : OpR X (binaryOp .Mult) rMulA := op_mul.or op_rep
theorem pr_mul {x y : D} {v u : V} (s : Sim G ρ A H) (rx : RV ρ H x v) (ry : RV ρ H y u) (o : OutR G RV W σ ρ H Q (Res.of (binD .mul x y A))) : rMulA v u H Q := by
  obtain ⟨d, A', e, o⟩ := out_of o
  cases x <;> cases y <;> simp only [binD, reduceCtorEq] at e
  · split at e
    · rename_i hl
      cases e
      cases rv_int rx
      cases rv_int ry
      exact .inl ⟨_, _, rfl, rfl, hl, out_int o s⟩
    · cases e
  · rename_i m k
    split at e
    · rename_i xs e1
      split at e
      · rename_i hl
        cases e
        obtain ⟨a, vs, rfl, ra, ha⟩ := lstOf_at s rx e1
        cases rv_int ry
        have h0 := hl.1
        have h1 := hl.2.1
        exact .inr ⟨a, _, vs, rfl, rfl, ha, by omega, by omega, by rw [ra.length, ← lim_eq]; exact hl.2.2, out_lst (ds := (List.replicate k.toNat xs).flatten) o s (ra.replicate _)⟩
      · cases e
    · cases e
theorem pr_fdiv {x y : D} {v u : V} (s : Sim G ρ A H) (rx : RV ρ H x v) (ry : RV ρ H y u) (o : OutR G RV W σ ρ H Q (Res.of (binD .fdiv x y A))) : rI CDiv (fun i j => .int (i / j)) v u H Q := by
  obtain ⟨d, A', e, o⟩ := out_of o
  cases x <;> cases y <;> simp only [binD, reduceCtorEq] at e
  split at e
  · rename_i hl
    cases e
    cases rv_int rx
    cases rv_int ry
    exact ⟨_, _, rfl, rfl, hl, out_int o s⟩
  · cases e
theorem pr_mod {x y : D} {v u : V} (s : Sim G ρ A H) (rx : RV ρ H x v) (ry : RV ρ H y u) (o : OutR G RV W σ ρ H Q (Res.of (binD .mod x y A))) : rI (fun _ j => 0 < j) (fun i j => .int (i % j)) v u H Q := by
  obtain ⟨d, A', e, o⟩ := out_of o
  cases x <;> cases y <;> simp only [binD, reduceCtorEq] at e
  split at e
  · rename_i hl
    cases e
    cases rv_int rx
    cases rv_int ry
    exact ⟨_, _, rfl, rfl, hl, out_int o s⟩
  · cases e
/-- whatever the operation is -/
theorem bin_ok {op : Operator} {bop : BOp} (h : opOf op = some bop) : ∃ r, OpR X (binaryOp op) r ∧ ∀ {G : Gl} {W : WX} {σ : St} {ρ A H Q x y v u}, Sim G ρ A H → RV ρ H x v → RV ρ H y u → OutR G RV W σ ρ H Q (Res.of (binD bop x y A)) → r v u H Q := by
  cases op <;> simp only [opOf, Option.some.injEq, reduceCtorEq] at h <;> subst h
  · exact ⟨_, op_addA, pr_add⟩
  · exact ⟨_, op_sub, pr_sub⟩
  · exact ⟨_, op_mulA, pr_mul⟩
  · exact ⟨_, op_mod, pr_mod⟩
  · exact ⟨_, op_fdiv, pr_fdiv⟩
/-! ### truth -/
theorem pr_truth {x : D} {v : V} {b : Bool} (s : Sim G ρ A H) (r : RV ρ H x v) (h : truthD x A = some b) : TruV K v H b := by
  cases x with
  | non => simp only [truthD, Option.some.injEq] at h; cases rv_non r; subst h; rfl
  | bl c => simp only [truthD, Option.some.injEq] at h; cases rv_bl r; subst h; rfl
  | int i => simp only [truthD, Option.some.injEq] at h; cases rv_int r; subst h; rfl
  | str z =>
    simp only [truthD] at h
    split at h
    · rename_i hl
      simp only [Option.some.injEq] at h
      cases rv_str r
      subst h
      exact ⟨by rw [← lim_eq]; exact hl, rfl⟩
    · cases h
  | tup ds =>
    simp only [truthD, Option.some.injEq] at h
    obtain ⟨a, vs, rfl, ha, ra⟩ := rv_tup r
    subst h
    exact .inr (.inl ⟨vs, .of ha, by rw [ra.isEmpty]⟩)
  | ref n =>
    simp only [truthD] at h
    split at h
    · rename_i ds e
      simp only [Option.some.injEq] at h
      obtain ⟨a, _, rfl, vs, ha, ra⟩ := rv_ref s r e
      subst h
      exact .inl ⟨vs, .of ha, by rw [ra.isEmpty]⟩
    · rename_i ds e
      simp only [Option.some.injEq] at h
      obtain ⟨a, _, rfl, o, vs, ha, ra⟩ := rv_ref s r e
      subst h
      exact .inl ⟨vs, .inl (.inr ⟨o, ha⟩), by rw [ra.isEmpty]⟩
    · rename_i ds e
      simp only [Option.some.injEq] at h
      obtain ⟨a, _, rfl, vs, ha, ra⟩ := rv_ref s r e
      subst h
      refine .inr (.inr ⟨vs, ha, ?_⟩)
      have := ra.length
      cases ds <;> cases vs <;> simp_all
    · cases h
end
end Kin
end
section
set_option linter.all false
set_option maxRecDepth 100000
/-! Kin 9b: defs where nothing is being shown (so that a text of lists and tuples may be made). -/
namespace Kin
open PySem PySem.Spec PyProof.Rows L2
/-- nothing is being shown -/
def Bare (A : Around) : Prop := A.guards = some []
theorem Bare.deeper {A : Around} (b : Bare A) (env : Env) : Bare (A.deeper env) := b
/-- a def's promise there -/
structure FnG (P : Program) (w : World) (K : PySem.W.Frag) (mg : Str → Option Value) (base : Heap) (CX : CXT) (k : Nat) (f : Addr) (fd : FuncData) (ps : List Str) (sp : Sp) : Prop where
  arity : ∀ vs H Q E, sp vs H Q E → vs.length = ps.length
  does : ∀ {A : Around} {outer : List Env} {s : Shared} {H : Hp} {args : Args} {us : List Value} {vs : List V} {Q : VK} {E : XK},
    Bare A → Room k A → Env0 P w K mg base A outer s H → BindsTo s fd args (ps.zip us) → Vals vs us → sp vs H Q E → codeAny (model P w) A (.call (.ref f) args) (CR CX outer P w H s Q E) s
section
variable {P : Program} {w : World} {K : PySem.W.Frag} {mg : Str → Option Value} {base : Heap} {CX : CXT}
/-- by its body -/
theorem FnG.of_body {x qual : Str} {params : Arguments} {body : List Stmt} {scope : Scope} {dvs : List V} {kws : List (Str × V)} {f : Addr} {fd : FuncData} {N ps : List Str} {k : Nat} {sp : Sp}
    (D : FunD K x qual params body scope dvs kws f fd) (S : FnScope N ps scope) (ar : ∀ vs H Q E, sp vs H Q E → vs.length = ps.length)
    (hb : ∀ (cdv : Value) (A : Around) (outer : List Env) (s : Shared) (H : Hp) (vs : List V) (Q : VK) (E : XK), Bare A → Room k (A.deeper (envOfC qual scope s.heap.objs.size f cdv)) → sp vs H Q E →
      ∃ t, PSs (cxOf CX P w K mg base N qual scope f cdv A outer s H E) body t ∧ t { nx := fun _ H' => Q .non H', rt := Q } (start N vs) H) : FnG P w K mg base CX (k + 1) f fd ps sp := by
  obtain ⟨_, _, _, _, _, _, _, cdv, _, _, rfl, at_, isCode, _, _⟩ := D.ex
  constructor
  · exact ar
  intro A outer s H args us vs Q E bare room e0 binds vals want
  have kin : K.In s.heap := e0.mod.kin.keeps fun b o e => (e0.bs b o e).1
  have lim : s.heap.NoLimit := e0.mod.nolimit.keeps fun b o e => (e0.bs b o e).1
  obtain ⟨t, rt, tq⟩ := hb cdv A outer s H vs Q E bare (room.deeper _) want
  apply codeAny_call_function room.depth (kin _ _ at_) rfl S.co S.gen rfl (PySem.W.codeRec_of kin isCode) (binds _ _ _ _ _)
  apply wpAny_newFunctionEnv_cells S.kind
  · rintro ⟨n, v⟩ hy
    cases S.par n (List.of_mem_zip hy).1 with
    | inl q => exact .inl q
    | inr q => exact .inr ⟨q, PySem.W.cellsFrom_some _ _ _ (.inl q)⟩
  intro env he s1 inC
  cases he
  refine ⟨lim.keeps inC.toInCall.keep, codeAny_func ?_⟩
  have inv := inv_start (CX := CX) (E := E) (cd := cdv) S room.hd e0 (ar _ _ _ _ want) vals inC
  apply wpAny_mono (rt.run [] s1 (start N vs) H _ inv tq) _ (fun _ _ h => h)
  intro fl s' h
  match fl, h with
  | .ret u, ⟨v, _, H', J, rv, q⟩ => exact ⟨v, H', J.os, J.bare, J.base, J.hok, rv, q⟩
  | .next, ⟨_, H', J, q⟩ => exact ⟨.non, H', J.os, J.bare, J.base, J.hok, rfl, q⟩
  | .brk, ⟨_, _, _, q⟩ => exact q.elim
  | .cont, ⟨_, _, _, q⟩ => exact q.elim
end
section
variable {X : Cx} {CX : CXT} {k : Nat} {f : Addr} {fd : FuncData} {ps : List Str} {sp : Sp} {E : St → XK}
/-- it is called with these values -/
theorem FnG.called (F : FnG X.prog X.w X.K X.mg X.base CX k f fd ps sp) (bare : Bare X.A) (room : Room k X.A) (hb : Binds X.K fd ps []) {σ : St} (hx : PassesAt CX X σ (E σ)) {pins : List (Addr × Obj)} {H : Hp} {s : Shared} {Q : VK}
    {us : List Value} {vs : List V} (I : Inv X pins σ H s) (r : Vals vs us) (want : sp vs H Q (E σ)) : wpAny (model X.prog X.w) X.A (call (.ref f) us) (EP X pins σ Q) X.xe s := by
  have n : us.length = ps.length := r.length ▸ F.arity _ _ _ _ want
  have bound := hb s us I.kIn (by simpa using n)
  rw [List.append_nil] at bound
  apply wpAny_call
  refine codeAny_mono (F.does bare room I.env0 bound r want) ?_
  intro res s' h
  match res, h with
  | .error e, h => exact hx pins H s e s' I h
  | .ok (.ret u), h => exact I.after h
/-- f(e, ..) -/
theorem pe_callG {x : Str} {p pos : Pos} {e : Expr} {es : List Expr} {t : TA} (F : FnG X.prog X.w X.K X.mg X.base CX k f fd ps sp) (bare : Bare X.A) (room : Room k X.A) (hg : L2.Gl X x) (hm : X.mg x = some (.ref f)) (hk : PySem.W.keepIn X.K (.ref f) = true)
    (hb : Binds X.K fd ps []) (hx : ∀ σ, PassesAt CX X σ (E σ)) (ha : PA X (e :: es) t) (hd : (x == ("__debug__" : Str)) = false) (hs : starEach (e :: es) X.env = (false, eval e X.env) :: starEach es X.env)
    (hp : (backTo pos (starEach es X.env)).any (·.1) = false) : PE X (.Call (.Name x p) (e :: es) [] pos) (fun σ H Q => t σ H fun vs H1 => sp vs H1 Q (E σ)) := by
  constructor
  intro pins s σ H Q I h
  apply wpAny_Call_Name_kw (ld_glob I hg hm _ hd)
  apply PySem.W.callWith_K (h₀ := X.base) I.ok.mod.kin hk _ hs hp
  refine thn (ha.run pos pins s σ H _ I h) ?_
  rintro us s1 ⟨vs, H1, I1, r, q⟩
  exact ⟨I1.kIn, F.called bare room hb (hx σ) I1 r q⟩
end
/-- the law's def is called with the script, a list that the module does not know -/
theorem law_start {P : Program} {w : World} {K : PySem.W.Frag} {mg mb : Str → Option Value} {CX : CXT} {k : Nat} {fa a : Addr} {fd : FuncData} {x : Str} {sp : Sp} {s : Shared} {vs : List Value} {ns : List Int}
    (kin : K.In s.heap) (gl : s.heap.Ns mainGlobals mg) (bl : s.heap.Ns builtinsNs mb) (bb : ∀ x : Str, x ≠ "__name__" → mb x = bootBuiltins x) (lim : s.heap.NoLimit) (gens : s.gens = #[])
    (ha : s.heap.get? a = some { cls := .type "list", data := .seq vs.toArray }) (hints : IntsAre vs ns) (short : ns.length ≤ sizeLine) (room : Room k callerA) (new : K.lookup a = none)
    (F : ∀ base : Heap, K.In base → base.Ns mainGlobals mg → FnG P w K mg base CX k fa fd [x] sp) (binds : ∀ (s : Shared) (u : Value), BindsTo s fd ⟨[u], []⟩ [(x, u)])
    (want : ∀ (H : Hp) (o : Obj), H a = some (.frz o (.lst (ns.map V.int))) → sp [.ref a] H (fun v _ => v = .bl true) fun _ _ _ => False) (quiet : ∀ H e s', CX [] H s (fun _ _ _ => False) e s' → False) :
    codeAny (model P w) callerA (.call (.ref fa) ⟨[.ref a], []⟩) (fun r s' => r = .ok (.ret (.bool true)) ∧ OldK s.heap s'.heap ∧ s'.os = s.os ∧ AllBare s'.gens) s := by
  let so : Obj := { cls := .type "list", data := .seq vs.toArray }
  let H : Hp := fun b => if b = a then some (.frz so (.lst (ns.map V.int))) else none
  have Ha : H a = some (.frz so (.lst (ns.map V.int))) := by simp only [H, if_true]
  have Hn : ∀ b, b ≠ a → H b = none := fun b n => by simp only [H, if_neg n]
  have hok : HOk P w H s.heap := by
    intro b u e
    by_cases q : b = a
    · subst q
      rw [Ha] at e
      cases e
      exact ⟨ha, by rw [List.length_map]; exact short, vs, _, vals_ints hints, ha⟩
    · rw [Hn b q] at e
      cases e
  have stays : ∀ {b : Addr} {o : Obj}, b ≠ a → s.heap.get? b = some o → (hidT s.heap H).get? b = some o := fun n e => hidT_get e (Hn _ n)
  have ns_ : ∀ {b : Addr} {m : Str → Option Value}, s.heap.Ns b m → (hidT s.heap H).Ns b m := by
    rintro b m ⟨o, es, ep, e, d, r⟩
    refine ⟨o, es, ep, stays (fun q => ?_) e, d, r⟩
    subst q
    rw [ha] at e
    cases e
    cases d
  have kin' : K.In (hidT s.heap H) := fun b o e => stays (fun q => by rw [q, new] at e; cases e) (kin b o e)
  have mod : Mod K mg (hidT s.heap H) := by
    obtain ⟨mc, l1, l2⟩ := lim
    exact ⟨kin', ns_ gl, ⟨mb, ns_ bl, bb⟩, ⟨mc, ns_ l1, l2⟩⟩
  have e0 : Env0 P w K mg (hidT s.heap H) callerA [] s H :=
    { frames := rfl, mod := mod, bs := fun b o e => of_hidT e, bsz := Nat.le_of_eq (hidT_size _ _), funs := trivial, frf := fun b hb => (nomatch (show b ∈ ([] : List Addr) from hb)), hok := hok, bare := .of_eq gens }
  refine codeAny_mono ((F _ kin' (ns_ gl)).does (us := [.ref a]) (vs := [.ref a]) rfl room e0 (binds s (.ref a)) (.cons rfl .nil) (want H so Ha)) ?_
  intro r s' h
  match r, h with
  | .error e, h => exact (quiet H e s' h).elim
  | .ok (.ret u), ⟨v, H', os, bare, un, hok', rel, q⟩ =>
    cases q
    cases rel
    refine ⟨rfl, OldK.of_keep fun b o e => ?_, os, bare⟩
    by_cases q : b = a
    · subst q
      obtain ⟨e2, _⟩ := hok' _ _ (un.frzs _ _ _ Ha)
      rw [ha] at e
      cases e
      exact e2
    · exact un.keep b o e (Hn b q) (fun z => (nomatch (show b ∈ ([] : List Addr) from z))) (by simp)
end Kin
end
section
set_option linter.all false
set_option maxRecDepth 100000
/-! Kin 5b: data read through all numbers: shown, ordered, compared. -/
namespace Kin
open PySem PySem.Spec PyProof.Rows L2
theorem allS_cons {α : Type} {o : Option α} {l : List (Option α)} {r : List α} (h : allS (o :: l) = some r) : ∃ a t, o = some a ∧ allS l = some t ∧ r = a :: t := by
  cases o with
  | none => cases h
  | some a =>
    simp only [allS] at h
    cases e : allS l with
    | none => rw [e] at h; cases h
    | some t =>
      rw [e] at h
      cases h
      exact ⟨a, t, rfl, rfl, rfl⟩
section
variable {ρ : List Addr} {H : Hp} {A : AH} {K : PySem.W.Frag}
theorem dps_of {f : D → Option PyData} (hf : ∀ d v p, RV ρ H d v → f d = some p → Dp K H v p) : ∀ {ds : List D} {vs : List V} {ps : List PyData}, RVs ρ H ds vs → allS (ds.map f) = some ps → DpAll K H vs ps
  | [], vs, ps, r, e => by
    simp only [RVs] at r
    subst r
    cases e
    exact .nil
  | d :: ds, vs, ps, r, e => by
    simp only [RVs] at r
    obtain ⟨v, t, rfl, rv, rt⟩ := r
    obtain ⟨p, q, e1, e2, rfl⟩ := allS_cons (by simpa only [List.map_cons] using e)
    exact .cons (hf d v p rv e1) (dps_of hf rt e2)
theorem dp_of (s : Sim G ρ A H) : ∀ (n : Nat) (d : D) (v : V) (p : PyData), RV ρ H d v → pyD n A d = some p → Dp K H v p
  | 0, _, _, _, _, e => by cases e
  | n + 1, d, v, p, r, e => by
    cases d with
    | non => cases e; cases (show v = .non by simpa only [RV] using r); exact .non
    | bl b => cases e; cases (show v = .bl b by simpa only [RV] using r); exact .bl b
    | int i => cases e; cases (show v = .int i by simpa only [RV] using r); exact .int i
    | str x => cases e; cases (show v = .str x by simpa only [RV] using r); exact .str x
    | tup ds =>
      simp only [pyD] at e
      cases q : allS (ds.map (pyD n A)) with
      | none => rw [q] at e; cases e
      | some ps =>
        rw [q] at e
        cases e
        obtain ⟨a, vs, rfl, ha, ra⟩ : ∃ a vs, v = .ref a ∧ H a = some (.tup vs) ∧ RVs ρ H ds vs := by simpa only [RV] using r
        exact .tup (.of ha) (dps_of (dp_of s n) ra q)
    | ref k =>
      simp only [pyD] at e
      cases q0 : seqOf (.ref k) A with
      | none => rw [q0] at e; cases e
      | some ds =>
        rw [q0] at e
        simp only [Option.bind_some] at e
        cases q : allS (ds.map (pyD n A)) with
        | none => rw [q] at e; cases e
        | some ps =>
          rw [q] at e
          cases e
          simp only [RV] at r
          obtain ⟨a, ea, rfl⟩ := r
          simp only [seqOf] at q0
          split at q0
          · rename_i es ek
            cases q0
            obtain ⟨vs, ha, ra⟩ := s.at_ k a _ ea ek
            exact .lst (.of ha) (dps_of (dp_of s n) ra q)
          · rename_i es ek
            cases q0
            obtain ⟨o, vs, ha, ra⟩ := s.at_ k a _ ea ek
            exact .lst (.inl (.inr ⟨o, ha⟩)) (dps_of (dp_of s n) ra q)
          · cases q0
end
section
variable {X : Cx}
/-- repr(x) -/
def rRepr (K : PySem.W.Frag) : List V → Hp → VK → Prop := fun xs H Q => ∃ x p, xs = [x] ∧ Dp K H x p ∧ p.showable = true ∧ p.hasDict = false ∧ p.depth ≤ 64 ∧ p.shown.length ≤ sizeLine ∧ Q (.str p.shown) H
theorem call_repr (bare : Bare X.A) (hu : X.A.units + 80 < cLine) : CallR X (.builtin "repr") (rRepr X.K) := by
  intro pins s σ H xs us Q I r h
  obtain ⟨x, p, rfl, dp, sh, nd, dep, len, q⟩ := h
  obtain ⟨u, rfl, rel⟩ := vals1 r
  obtain ⟨as, rd⟩ := Dp.reads I p x u dp rel
  cases rd with
  | none =>
    exact P.repr_of_none ⟨.str _, H, I.tok _, ⟨_, rfl⟩, by simpa only [PyData.shown] using q⟩
  | bool b =>
    exact P.repr_of_bool ⟨.str _, H, I.tok _, ⟨_, rfl⟩, by simpa only [PyData.shown] using q⟩
  | int i t =>
    exact P.repr_of_int (by simpa [PyData.showable] using sh) ⟨.str _, H, I.tok _, ⟨_, rfl⟩, by simpa only [PyData.shown] using q⟩
  | str z t =>
    exact P.repr_of_str ⟨.str _, H, I.tok _, ⟨_, rfl⟩, by simpa only [PyData.shown] using q⟩
  | list h1 h2 h3 h4 =>
    exact repr_of_reads' (.list h1 h2 h3 h4) sh (PyData.noDict_hsm nd) bare (by omega) (fun _ _ e => e) (fun h' u tk hk => ⟨.str _, H, I.kept hk, ⟨_, rfl⟩, q⟩) len
  | tuple h1 h2 h3 h4 =>
    exact repr_of_reads' (.tuple h1 h2 h3 h4) sh (PyData.noDict_hsm nd) bare (by omega) (fun _ _ e => e) (fun h' u tk hk => ⟨.str _, H, I.kept hk, ⟨_, rfl⟩, q⟩) len
  | dict _ _ _ _ _ => cases nd
/-- the order of what is alike -/
def rOrdD (K : PySem.W.Frag) (c : COp) : R2 := fun x y H Q => ∃ p q b, Dp K H x p ∧ Dp K H y q ∧ PySem.W.alike p q = true ∧ notNone p = true ∧ p.depth ≤ 64 ∧ ordO c p q = some b ∧ Q (.bl b) H
theorem ordD_at {pins : List (Addr × Obj)} {σ : St} {H : Hp} {s : Shared} {c : COp} {x y : V} {v u : Value} {Q : VK} (I : Inv X pins σ H s) (rx : RelV x v) (ry : RelV y u) (h : rOrdD X.K c x y H Q) :
    ∃ (p q : PyData) (as bs : List Addr) (b : Bool), Reads s.heap v p as ∧ Reads s.heap u q bs ∧ PySem.W.alike p q = true ∧ p ≠ .none ∧ p.depth ≤ 64 ∧ ordO c p q = some b ∧ EP X pins σ Q (.bool b) s := by
  obtain ⟨p, q, b, d1, d2, al, nn, dep, e, w⟩ := h
  obtain ⟨as, r1⟩ := Dp.reads I p x v d1 rx
  obtain ⟨bs, r2⟩ := Dp.reads I q y u d2 ry
  exact ⟨p, q, as, bs, b, r1, r2, al, (fun z => by rw [z] at nn; cases nn), dep, e, .bl b, H, I, rfl, w⟩
theorem op_ltD (hu : X.A.units + 80 < cLine) : OpR X (compareOp .Lt) (rOrdD X.K .lt) := by
  intro pins s σ H x y v u Q I rx ry h
  obtain ⟨p, q, as, bs, b, r1, r2, al, nn, dep, e, w⟩ := ordD_at I rx ry h
  cases e
  exact PySem.W.lt_data r1 r2 al nn (by omega) w
theorem op_gtD (hu : X.A.units + 80 < cLine) : OpR X (compareOp .Gt) (rOrdD X.K .gt) := by
  intro pins s σ H x y v u Q I rx ry h
  obtain ⟨p, q, as, bs, b, r1, r2, al, nn, dep, e, w⟩ := ordD_at I rx ry h
  cases e
  exact PySem.W.gt_data r1 r2 al nn (by omega) w
theorem op_leD (hu : X.A.units + 80 < cLine) : OpR X (compareOp .LtE) (rOrdD X.K .le) := by
  intro pins s σ H x y v u Q I rx ry h
  obtain ⟨p, q, as, bs, b, r1, r2, al, nn, dep, e, w⟩ := ordD_at I rx ry h
  cases e
  exact PySem.W.le_data r1 r2 al nn (by omega) w
theorem op_geD (hu : X.A.units + 80 < cLine) : OpR X (compareOp .GtE) (rOrdD X.K .ge) := by
  intro pins s σ H x y v u Q I rx ry h
  obtain ⟨p, q, as, bs, b, r1, r2, al, nn, dep, e, w⟩ := ordD_at I rx ry h
  cases e
  exact PySem.W.ge_data r1 r2 al nn (by omega) w
theorem sortB_ok {ps : List PyData} (h : sortB ps = true) : PySem.W.AllAlike ps ∧ PySem.W.Sortable ps ∧ ∀ p ∈ ps, p.depth ≤ 64 := by
  unfold sortB at h
  rw [Bool.and_eq_true, Bool.or_eq_true] at h
  obtain ⟨h1, h2⟩ := h
  have h1 := List.all_eq_true.mp h1
  refine ⟨fun p hp q hq => ?_, ?_, fun p hp => ?_⟩
  · have := h1 p hp
    rw [Bool.and_eq_true] at this
    exact List.all_eq_true.mp this.2 q hq
  · rcases h2 with h2 | h2
    · refine .inl fun p hp => ?_
      have := List.all_eq_true.mp h2 p hp
      split at this
      · exact ⟨_, _, rfl⟩
      · cases this
    · refine .inr fun p hp => ?_
      have := List.all_eq_true.mp h2 p hp
      split at this
      · cases this
      · cases this
      · rename_i n1 n2
        exact ⟨n2, n1⟩
  · have := h1 p hp
    rw [Bool.and_eq_true, decide_eq_true_eq] at this
    exact this.1
theorem each_zip {K : PySem.W.Frag} {H : Hp} : ∀ {xs : List V} {us : List Value} {ps : List PyData}, Vals xs us → DpAll K H xs ps → PySem.W.EachIs (fun u (b : V × PyData) => RelV b.1 u ∧ Dp K H b.1 b.2) us (xs.zip ps)
  | [], [], [], _, _ => .nil
  | x :: xs, u :: us, p :: ps, .cons r rs, .cons d ds => .cons ⟨r, d⟩ (each_zip rs ds)
theorem vals_out {K : PySem.W.Frag} {H : Hp} : ∀ {us : List Value} {bs : List (V × PyData)}, PySem.W.EachIs (fun u (b : V × PyData) => RelV b.1 u ∧ Dp K H b.1 b.2) us bs → Vals (bs.map (·.1)) us
  | _, _, .nil => .nil
  | _, _, .cons h t => .cons h.1 (vals_out t)
theorem dps_len {K : PySem.W.Frag} {H : Hp} : ∀ {xs : List V} {ps : List PyData}, DpAll K H xs ps → xs.length = ps.length
  | _, _, .nil => rfl
  | _, _, .cons _ t => by rw [List.length_cons, List.length_cons, dps_len t]
theorem zip_snd {α β : Type} : ∀ {xs : List α} {ys : List β}, xs.length = ys.length → (xs.zip ys).map (·.2) = ys
  | [], [], _ => rfl
  | x :: xs, y :: ys, h => by simp only [List.zip_cons_cons, List.map_cons]; rw [zip_snd (by simpa using h)]
theorem sortP_len {α : Type} {xs : List α} {ps : List PyData} (h : xs.length = ps.length) : (sortP xs ps).length = xs.length := by
  unfold sortP
  rw [List.length_map, List.length_mergeSort, List.length_zip, ← h, Nat.min_self]
end
section
open PySem.W
variable {prog : Program} {w : World} {A : Around} {E : Value → Shared → Prop} {s : Shared}
/-- the items of a tuple in a new list -/
theorem collect_tup {l : Addr} {vs : List Value} {Q : List Value → Shared → Prop} (hl : s.heap.IsTuple l vs.toArray)
    (h : Q vs { s with heap := (s.heap.push (seqObj "list" #[] 0)).update s.heap.objs.size (Obj.mapSeq (· ++ vs.toArray)) }) (hsz : vs.length ≤ sizeLine) :
    wpAny (model prog w) A (collect (.ref l)) Q E s := by
  obtain ⟨o, ho, hc, n, hd⟩ := id hl
  unfold collect
  refine wpAny_bind (wpAny_runValue (codeAny_builtin entry_proto_collect' ?_))
  show wpAny _ _ (do again (.builtin "list.__iadd__" ⟨[← newList [], .ref l], []⟩)) _ _ s
  refine wpAny_bind (wpAny_newList (wpAny_pure ⟨Code.quiet_builtin _ (by decide +kernel), codeAny_builtin entry_list_iadd' ?_⟩))
  show wpAny _ _ (Builtin.List.listExtendWith (.ref s.heap.objs.size) (.ref l) (.ref s.heap.objs.size)) _ _ { s with heap := s.heap.push (seqObj "list" #[] 0) }
  unfold Builtin.List.listExtendWith
  have ho' : (s.heap.push (seqObj "list" #[] 0)).get? l = some o := Heap.get?_push_of_some _ ho
  refine wpAny_bind (wpAny_typeOf (T := "tuple") ⟨o, ho', hc⟩ ?_)
  have ht : (Value.type "tuple" == Value.type "tuple") = true := by rfl
  rw [if_pos (by rw [ht]; simp)]
  refine wpAny_bind (listItems_at ho' hd ?_)
  refine wpAny_bind (listItems_at (xs := #[]) (n := 0) (Heap.get?_push_size _ rfl) rfl ?_)
  rw [if_neg (by simp)]
  refine wpAny_bind (listUpdate_at (xs := #[]) (n := 0) (Heap.get?_push_size _ rfl) rfl ?_ (Nat.zero_le _) (by show (#[] ++ vs.toArray).size ≤ sizeLine + 1; simp only [Array.size_append, List.size_toArray, List.length_nil]; omega))
  refine wpAny_pure ?_
  show wpAny (model prog w) A (do
      let o ← load s.heap.objs.size
      match o.data with
      | .seq xs _ => pure xs.toList
      | _ => unsupported "internal:collect") Q E { s with heap := (s.heap.push (seqObj "list" #[] 0)).update s.heap.objs.size (Obj.mapSeq (· ++ vs.toArray)) }
  refine wpAny_bind (wpAny_load (get?_update_seq (Heap.get?_push_size _ rfl) _) ?_)
  show wpAny _ _ (pure ((#[] : Array Value) ++ vs.toArray).toList) Q E _
  rw [show ((#[] : Array Value) ++ vs.toArray).toList = vs by simp]
  exact wpAny_pure h
theorem sorted_of_sort_tup {l : Addr} {vs : List Value} {kw : List (Str × Value)} {Q : Value → Shared → Prop} (hl : s.heap.IsTuple l vs.toArray) (hL : vs.length ≤ sizeLine) (ha1 : argsOk "sorted" ⟨[.ref l], kw⟩) (ha2 : ∀ x, argsOk "list.sort" ⟨[.ref x], kw⟩)
    (body : ∀ E' : Value → Shared → Prop, wpAny (model prog w) A.in1.in1 (Builtin.«list.sort» ⟨[.ref (s.heap.objs.size + 1)], kw⟩) (fun f s' => f = .done (.ret .none) ∧ Q (.ref (s.heap.objs.size + 1)) s') E' { s with heap := copyHeap s.heap vs }) :
    wpAny (model prog w) A (call (.builtin "sorted") [.ref l] kw) Q E s := by
  refine call_function_entry_kw kind_sorted plain_sorted entry_sorted ha1 ?_
  unfold Builtin.«sorted»
  refine wpAny_bind (m := checkCount "sorted" 1 1 _) (wpAny_pure ?_)
  refine wpAny_bind (collect_tup hl ?_ hL)
  refine wpAny_bind (wpAny_newList ?_ hL)
  have hsz : ((s.heap.push (seqObj "list" #[] 0)).update s.heap.objs.size (Obj.mapSeq (· ++ vs.toArray))).objs.size = s.heap.objs.size + 1 := by
    rw [Heap.size_update, size_push']
  show wpAny _ _ _ _ _ { s with heap := copyHeap s.heap vs }
  rw [hsz]
  refine wpAny_bind (wpAny_holding (wpAny_call_entry_kw slot_list_sort ⟨_, copyHeap_at s.heap vs, rfl⟩ entry_list_sort ?body (ha2 _)))
  case body =>
    show wpAny (model prog w) A.in1.in1 (Builtin.«list.sort» ⟨[.ref (s.heap.objs.size + 1)], kw⟩) _ _ _
    refine wpAny_mono (body _) (fun f s' hf => ?_) fun _ _ e => e
    obtain ⟨rfl, hq⟩ := hf
    exact ⟨_, rfl, wpAny_pure ⟨_, rfl, hq⟩⟩
theorem sorted_vals_tup {κ : PyProof.Rows.KeyKind} {l : Addr} {vs : List Value} {Q : Value → Shared → Prop} (hl : s.heap.IsTuple l vs.toArray) (S : SortsAt prog w A.in1.in1 { s with heap := sortingHeap (copyHeap s.heap vs) (s.heap.objs.size + 1) vs } κ vs) (hL : vs.length ≤ sizeLine)
    (h : Q (.ref (s.heap.objs.size + 1)) { s with heap := sortedAll s.heap vs (sortVals κ false vs vs).toArray }) : wpAny (model prog w) A (call (.builtin "sorted") [.ref l]) Q E s :=
  sorted_of_sort_tup hl hL (args_sorted1 _) (fun _ => args_list_sort _) fun _ => list_sort_vals (s := { s with heap := copyHeap s.heap vs }) (copyHeap_at s.heap vs) S hL ⟨rfl, h⟩
theorem sorted_data_tup {β : Type} {R : Value → β → Prop} {enc : β → PyData} {bs : List β} {vs : List Value} {l : Addr} {Q : Value → Shared → Prop} (hl : s.heap.IsTuple l vs.toArray) (e : EachIs R vs bs) (er : EachIs (fun v b => ∃ as, Reads s.heap v (enc b) as) vs bs) (hal : AllAlike (bs.map enc)) (hk : Sortable (bs.map enc)) (hL : bs.length ≤ sizeLine)
    (hu : ∀ b, b ∈ bs → A.units + 2 + (enc b).depth < cLine) (h : ∀ out, out.length = bs.length → EachIs R out (bs.mergeSort (dataLe false enc)) → Q (.ref (s.heap.objs.size + 1)) { s with heap := sortedAll s.heap vs (List.toArray out) }) :
    wpAny (model prog w) A (call (.builtin "sorted") [.ref l]) Q E s := by
  have er' : EachIs (fun v b => ∃ as, Reads (sortingHeap (copyHeap s.heap vs) (s.heap.objs.size + 1) vs) v (enc b) as) vs bs := er.mono fun _ _ ⟨as, r⟩ => ⟨as, PyProof.Rows.Reads.keeps (fun _ _ => sorting_copy_old) r⟩
  exact sorted_vals_tup hl (SortsAt.data (s := { s with heap := sortingHeap (copyHeap s.heap vs) (s.heap.objs.size + 1) vs }) (each_map (R := fun v d => ∃ as, Reads (sortingHeap (copyHeap s.heap vs) (s.heap.objs.size + 1) vs) v d as) enc er') hal hk (bound_map hu)) (by rw [e.length]; exact hL)
    (h _ (by rw [sortVals_length false rfl]; exact e.length) (sortVals_data false e er' hal))
end
section
variable {X : Cx}
/-- sorted(xs) -/
def rSortD (K : PySem.W.Frag) : List V → Hp → VK → Prop := fun vs H Q => ∃ (a : Addr) (xs : List V) (ps : List PyData), vs = [.ref a] ∧ (SqL K H a xs ∨ SqT K H a xs) ∧ DpAll K H xs ps ∧ sortB ps = true ∧ xs.length ≤ sizeLine ∧ ∀ p, H p = none → Q (.ref p) (upd H p (.lst (sortP xs ps)))
theorem call_sorted (hu : X.A.units + 80 < cLine) : CallR X (.builtin "sorted") (rSortD X.K) := by
  intro pins s σ H vs us Q I r h
  obtain ⟨a, xs, ps, rfl, sq, dps, ok, hz, q⟩ := h
  obtain ⟨u, rfl, rel⟩ := vals1 r
  cases rel
  obtain ⟨al, so, dep⟩ := sortB_ok ok
  have hlen := dps_len dps
  have em : (xs.zip ps).map (fun b => b.2) = ps := zip_snd hlen
  have lz : (xs.zip ps).length = xs.length := by rw [List.length_zip, ← hlen, Nat.min_self]
  have fin : ∀ (its out : List Value), PySem.W.EachIs (fun u (b : V × PyData) => RelV b.1 u ∧ Dp X.K H b.1 b.2) out ((xs.zip ps).mergeSort (PySem.W.dataLe false fun b : V × PyData => b.2)) →
      EP X pins σ Q (.ref (s.heap.objs.size + 1)) { s with heap := PyProof.Rows.sortedAll s.heap its (List.toArray out) } := fun its out eo => by
    obtain ⟨ep, he'⟩ := PyProof.Rows.sortedAll_at s.heap its out.toArray
    have hf : H (s.heap.objs.size + 1) = none := I.hok.fresh (Nat.le_succ _)
    exact ⟨.ref _, upd H (s.heap.objs.size + 1) (.lst (sortP xs ps)), I.laid (t' := s.toks) (fun _ _ => PyProof.Rows.sortedAll_old) (Nat.le_succ _)
      ⟨by rw [sortP_len hlen]; exact hz, out, ep, vals_out eo, he'⟩, rfl, q _ hf⟩
  have dd : ∀ b ∈ xs.zip ps, X.A.units + 2 + b.2.depth < cLine := fun b hb => by have := dep b.2 (List.of_mem_zip hb).2; omega
  rcases sq with sq | sq
  · obtain ⟨its, rv, hl, _⟩ := I.list sq
    have ez := each_zip rv dps
    exact PySem.W.sorted_data (enc := fun b : V × PyData => b.2) hl.isList ez (ez.mono fun u b ⟨r1, d1⟩ => Dp.reads I b.2 b.1 u d1 r1) (by rw [em]; exact al) (by rw [em]; exact so) (by rw [lz]; exact hz) dd fun out lo eo => fin its out eo
  · obtain ⟨its, rv, pt, _⟩ := I.tuple sq
    have ez := each_zip rv dps
    exact sorted_data_tup (enc := fun b : V × PyData => b.2) (show s.heap.IsTuple a its.toArray from pt) ez (ez.mono fun u b ⟨r1, d1⟩ => Dp.reads I b.2 b.1 u d1 r1) (by rw [em]; exact al) (by rw [em]; exact so) (by rw [lz]; exact hz) dd fun out lo eo => fin its out eo
end
section
variable {ρ : List Addr} {H : Hp}
theorem rvs_pairs : ∀ {l : List (D × V)}, (∀ q ∈ l, RV ρ H q.1 q.2) → RVs ρ H (l.map (·.1)) (l.map (·.2))
  | [], _ => by simp [RVs]
  | q :: l, h => by
    simp only [List.map_cons, RVs]
    exact ⟨_, _, rfl, h q List.mem_cons_self, rvs_pairs fun x hx => h x (List.mem_cons_of_mem _ hx)⟩
theorem pairs_rvs : ∀ {ds : List D} {vs : List V}, RVs ρ H ds vs → ∀ q ∈ ds.zip vs, RV ρ H q.1 q.2
  | [], vs, _, q, hq => by simp at hq
  | d :: ds, vs, r, q, hq => by
    simp only [RVs] at r
    obtain ⟨v, t, rfl, rv, rt⟩ := r
    rw [List.zip_cons_cons] at hq
    rcases List.mem_cons.mp hq with rfl | hq
    · exact rv
    · exact pairs_rvs rt q hq
theorem sortP_map {α β : Type} (f : α → β) (xs : List α) (ps : List PyData) : sortP (xs.map f) ps = (sortP xs ps).map f := by
  unfold sortP
  have e : (xs.map f).zip ps = (xs.zip ps).map fun b => (f b.1, b.2) := by
    rw [List.zip_map_left]
    rfl
  have m := List.map_mergeSort (r := PySem.W.dataLe false fun b : α × PyData => b.2) (s := PySem.W.dataLe false fun b : β × PyData => b.2) (f := fun b => (f b.1, b.2)) (l := xs.zip ps) fun a _ b _ => rfl
  rw [e, ← m, List.map_map, List.map_map]
  rfl
theorem mem_sortP {α : Type} {xs : List α} {ps : List PyData} {x : α} (h : x ∈ sortP xs ps) : x ∈ xs := by
  unfold sortP at h
  obtain ⟨b, hb, rfl⟩ := List.mem_map.mp h
  exact (List.of_mem_zip ((List.mergeSort_perm _ _).mem_iff.mp hb)).1
theorem RVs.sortP {ds : List D} {vs : List V} (r : RVs ρ H ds vs) (ps : List PyData) : RVs ρ H (Kin.sortP ds ps) (Kin.sortP vs ps) := by
  have l := r.length
  have e1 : (ds.zip vs).map (·.1) = ds := List.map_fst_zip (by omega)
  have e2 : (ds.zip vs).map (·.2) = vs := List.map_snd_zip (by omega)
  have h := rvs_pairs (l := Kin.sortP (ds.zip vs) ps) fun q hq => pairs_rvs r q (mem_sortP hq)
  rw [← sortP_map, ← sortP_map, e1, e2] at h
  exact h
end
end Kin
end
section
set_option linter.all false
set_option maxRecDepth 100000
/-! Kin 6: a text against a dict. -/
namespace KinEq
open PySem PySem.Spec PyProof.Rows PySem.SeqAt
open AutoSeq1 (wpAny_loadPart')
open MeetsSeq MeetsSeq2 MeetsSeq3
theorem dict_str (l : Addr) (es : Array DictEntry) (ep : Nat) (dd : Option Addr) (sl : Array (Option Value)) (b : Str) (u : Tok) :
    Meets (Builtin.«dict.__eq__» ⟨[.ref l, .str b u], []⟩) (fun _ R s => s.heap.get? l = some { cls := .type "dict", dict := dd, data := .dict es ep, slots := sl } ∧ R (.ok (.ret .notImplemented)) s) :=
  .of_wp fun prog w A R s h => by
    obtain ⟨hp, g, d, tk, os⟩ := s
    obtain ⟨hl, h⟩ := h
    have f1 := F.sub_str_dict
    have f2 : isSubtype (.type "dict") (.type "dict") = pure true := by rw [isSubtype_type]; kernel_rfl
    wp_walk using wpAny_loadPart' hl
    exact ⟨_, rfl, h⟩
theorem str_dict (l : Addr) (es : Array DictEntry) (ep : Nat) (dd : Option Addr) (sl : Array (Option Value)) (b : Str) (u : Tok) :
    Meets (Builtin.«str.__eq__» ⟨[.str b u, .ref l], []⟩) (fun _ R s => s.heap.get? l = some { cls := .type "dict", dict := dd, data := .dict es ep, slots := sl } ∧ R (.ok (.ret .notImplemented)) s) :=
  .of_wp fun prog w A R s h => by
    obtain ⟨hp, g, d, tk, os⟩ := s
    obtain ⟨hl, h⟩ := h
    have f1 := F.sub_dict_str
    wp_walk using wpAny_loadPart' hl
    exact ⟨_, rfl, h⟩
section
variable {A : Around} {s : Shared}
theorem rc_str_dict {l : Addr} {o : Obj} {es : Array DictEntry} {ep : Nat} (b : Str) (u : Tok) (ho : s.heap.get? l = some o) (hc : o.cls = .type "dict") (hd : o.data = .dict es ep) (hu : A.units < cLine) : RcAt A s (.str b u) (.ref l) false := fun prog w E Q h => by
  obtain ⟨cls, dd, data, sl⟩ := o
  simp only at hc hd
  subst hc hd
  exact rc_eq_decline_or (k := false) (typeIs_str s b u) ⟨_, ho, rfl⟩ (by decide) F.sub_dict_str F.slot_str_eq F.slot_dict_eq_refl
    (fun _ hq => call_meets F.slot_str_eq (typeIs_str s b u) F.entry_str_eq (F.args_str_eq_2 _ _) (str_dict l es ep dd sl b u) ⟨ho, hq⟩)
    (fun _ hq => call_meets F.slot_dict_eq_refl ⟨_, ho, rfl⟩ F.entry_dict_eq (F.args_dict_eq_2 _ _) (dict_str l es ep dd sl b u) ⟨ho, hq⟩)
    (fun _ hq => wpAny_of_eq (rfl : isSame (.str b u) (.ref l) = pure false) hq) (.inr hu) h
theorem at_str_dict {l : Addr} {o : Obj} {es : Array DictEntry} {ep : Nat} (b : Str) (u : Tok) (ho : s.heap.get? l = some o) (hc : o.cls = .type "dict") (hd : o.data = .dict es ep) (hu : A.units < cLine) : EqAt A s (.str b u) (.ref l) false := fun prog w E Q h => by
  unfold eqBool
  refine wpAny_holding ?_
  refine wpAny_ite_split (fun hab => absurd (eq_of_beq hab) nofun) (fun _ => ?_)
  exact wpAny_bind (rc_str_dict b u ho hc hd hu prog w E _ (wpAny_truthy_bool h))
end
end KinEq
namespace Kin
open PySem PySem.Spec PyProof.Rows L2
section
variable {X : Cx} {pins : List (Addr × Obj)} {σ : St} {H : Hp} {s : Shared}
/-- a list or a tuple there -/
def SqV (K : PySem.W.Frag) (H : Hp) (x : V) : Prop := ∃ a ys, x = .ref a ∧ (SqL K H a ys ∨ SqT K H a ys)
theorem eq_flat_seq {A : Around} (I : Inv X pins σ H s) (hu : A.units < cLine) {x y : V} {u v : Value} (rx : RelV x u) (ry : RelV y v) (f : flatV x = true) (q : SqV X.K H y) : SeqAt.EqAt A s u v false := by
  obtain ⟨a, ys, rfl, h⟩ := q
  cases ry
  rcases h with h | h
  · obtain ⟨its, _, p, _⟩ := I.list h
    cases x with
    | non => cases rx; exact SeqAt.EqAt.none_list p.isList hu
    | bl b => cases rx; exact SeqAt.EqAt.bool_list b p.isList hu
    | int i => obtain ⟨t, rfl⟩ := rx; exact SeqAt.EqAt.int_list i t p.isList hu
    | str z => obtain ⟨t, rfl⟩ := rx; exact SeqAt.EqAt.str_list z t p.isList hu
    | _ => cases f
  · obtain ⟨its, _, p, _⟩ := I.tuple h
    cases x with
    | non => cases rx; exact SeqAt.EqAt.none_tuple p hu
    | bl b => cases rx; exact SeqAt.EqAt.bool_tuple b p hu
    | int i => obtain ⟨t, rfl⟩ := rx; exact SeqAt.EqAt.int_tuple i t p hu
    | str z => obtain ⟨t, rfl⟩ := rx; exact SeqAt.EqAt.str_tuple z t p hu
    | _ => cases f
theorem rc_flat_seq {A : Around} (I : Inv X pins σ H s) (hu : A.units < cLine) {x y : V} {u v : Value} (rx : RelV x u) (ry : RelV y v) (f : flatV x = true) (q : SqV X.K H y) : SeqAt.RcAt A s u v false := by
  obtain ⟨a, ys, rfl, h⟩ := q
  cases ry
  rcases h with h | h
  · obtain ⟨its, _, p, _⟩ := I.list h
    cases x with
    | non => cases rx; exact SeqAt.RcAt.none_list p.isList hu
    | bl b => cases rx; exact SeqAt.RcAt.bool_list b p.isList hu
    | int i => obtain ⟨t, rfl⟩ := rx; exact SeqAt.RcAt.int_list i t p.isList hu
    | str z => obtain ⟨t, rfl⟩ := rx; exact SeqAt.RcAt.str_list z t p.isList hu
    | _ => cases f
  · obtain ⟨its, _, p, _⟩ := I.tuple h
    cases x with
    | non => cases rx; exact SeqAt.RcAt.none_tuple p hu
    | bl b => cases rx; exact SeqAt.RcAt.bool_tuple b p hu
    | int i => obtain ⟨t, rfl⟩ := rx; exact SeqAt.RcAt.int_tuple i t p hu
    | str z => obtain ⟨t, rfl⟩ := rx; exact SeqAt.RcAt.str_tuple z t p hu
    | _ => cases f
theorem rc_seq_flat {A : Around} (I : Inv X pins σ H s) (hu : A.units < cLine) {x y : V} {u v : Value} (rx : RelV x u) (ry : RelV y v) (f : flatV x = true) (q : SqV X.K H y) : SeqAt.RcAt A s v u false := by
  obtain ⟨a, ys, rfl, h⟩ := q
  cases ry
  rcases h with h | h
  · obtain ⟨its, _, p, _⟩ := I.list h
    cases x with
    | non => cases rx; exact SeqAt.RcAt.list_none p.isList hu
    | bl b => cases rx; exact SeqAt.RcAt.list_bool b p.isList hu
    | int i => obtain ⟨t, rfl⟩ := rx; exact SeqAt.RcAt.list_int i t p.isList hu
    | str z => obtain ⟨t, rfl⟩ := rx; exact SeqAt.RcAt.list_str z t p.isList hu
    | _ => cases f
  · obtain ⟨its, _, p, _⟩ := I.tuple h
    cases x with
    | non => cases rx; exact SeqAt.RcAt.tuple_none p hu
    | bl b => cases rx; exact SeqAt.RcAt.tuple_bool b p hu
    | int i => obtain ⟨t, rfl⟩ := rx; exact SeqAt.RcAt.tuple_int i t p hu
    | str z => obtain ⟨t, rfl⟩ := rx; exact SeqAt.RcAt.tuple_str z t p hu
    | _ => cases f
end
section
variable {X : Cx}
/-- == of what has no parts and a list or a tuple -/
def rEqFS (K : PySem.W.Frag) : R2 := fun x y H Q => ((flatV x = true ∧ SqV K H y) ∨ (flatV y = true ∧ SqV K H x)) ∧ Q (.bl false) H
theorem op_eqFS (hu : X.A.units < cLine) : OpR X (compareOp .Eq) (rEqFS X.K) := by
  intro pins s σ H x y v u Q I rx ry h
  obtain ⟨h, q⟩ := h
  have fin : EP X pins σ Q (.bool false) s := ⟨.bl false, H, I, rfl, q⟩
  rcases h with ⟨f, g⟩ | ⟨f, g⟩
  · exact rc_flat_seq I hu rx ry f g _ _ _ _ fin
  · exact rc_seq_flat I hu ry rx f g _ _ _ _ fin
/-- in: a list, a tuple or a dict among things without parts -/
def rInP (K : PySem.W.Frag) (neg : Bool) : R2 := fun x y H Q => ∃ p xs, y = .ref p ∧ (SqL K H p xs ∨ SqT K H p xs) ∧ xs.all flatV = true ∧
  (SqV K H x ∨ ((∃ a kvs, x = .ref a ∧ H a = some (.dK kvs)) ∧ ∀ z ∈ xs, ∃ t, z = .str t)) ∧ Q (.bl neg) H
theorem inP_at {pins : List (Addr × Obj)} {σ : St} {H : Hp} {s : Shared} {A : Around} (I : Inv X pins σ H s) (hu : A.units < cLine) {x : V} {v : Value} {xs : List V} {its : List Value} (rx : RelV x v) (r : Vals xs its) (fs : xs.all flatV = true)
    (h : SqV X.K H x ∨ ((∃ a kvs, x = .ref a ∧ H a = some (.dK kvs)) ∧ ∀ z ∈ xs, ∃ t, z = .str t)) : ∀ w ∈ its, SeqAt.EqAt A s w v false := by
  intro w hw
  obtain ⟨j, hj, e⟩ := List.mem_iff_getElem.mp hw
  have hl := r.length
  have e2 : its[j]? = some w := by rw [List.getElem?_eq_getElem hj, e]
  have hj2 : j < xs.length := by rw [hl]; exact hj
  obtain ⟨u, e3, r3⟩ := r.get (List.getElem?_eq_getElem hj2)
  rw [e2] at e3
  cases e3
  have hm : xs[j] ∈ xs := List.getElem_mem hj2
  have f : flatV xs[j] = true := List.all_eq_true.mp fs _ hm
  rcases h with h | ⟨⟨a, kvs, rfl, ha⟩, hs⟩
  · exact eq_flat_seq I hu r3 rx f h
  · obtain ⟨t, et⟩ := hs _ hm
    rw [et] at r3
    obtain ⟨tk, rfl⟩ := r3
    cases rx
    obtain ⟨_, _, vs, _, o, es, ep, ho, hx, hd, _⟩ := I.hok a _ ha
    exact KinEq.at_str_dict t tk ho hx.1 hd hu
theorem op_inP (hu : X.A.units + 1 < cLine) : OpR X (compareOp .In) (rInP X.K false) := by
  intro pins s σ H x y v u Q I rx ry h
  obtain ⟨p, xs, rfl, hq, fs, hx, q⟩ := h
  cases ry
  have hu' : X.A.in1.units < cLine := hu
  have an : ∀ its : List Value, its.toArray.any (fun _ => false) = false := fun its => by simp
  rcases hq with hq | hq
  · obtain ⟨its, r, pl, hz⟩ := I.list hq
    refine SeqAt.in_listAt (fun _ => false) pl.isList (fun w hw => inP_at I hu' rx r fs hx w (by simpa using hw)) ⟨.bl _, H, I, rfl, ?_⟩
    rw [an]
    exact q
  · obtain ⟨its, r, pl, hz⟩ := I.tuple hq
    refine SeqAt.in_tupleAt (fun _ => false) pl (fun w hw => inP_at I hu' rx r fs hx w (by simpa using hw)) ⟨.bl _, H, I, rfl, ?_⟩
    rw [an]
    exact q
theorem op_ninP (hu : X.A.units + 1 < cLine) : OpR X (compareOp .NotIn) (rInP X.K true) := by
  intro pins s σ H x y v u Q I rx ry h
  obtain ⟨p, xs, rfl, hq, fs, hx, q⟩ := h
  cases ry
  have hu' : X.A.in1.units < cLine := hu
  have an : ∀ its : List Value, (!its.toArray.any (fun _ => false)) = true := fun its => by simp
  rcases hq with hq | hq
  · obtain ⟨its, r, pl, hz⟩ := I.list hq
    refine SeqAt.notIn_listAt (fun _ => false) pl.isList (fun w hw => inP_at I hu' rx r fs hx w (by simpa using hw)) ⟨.bl _, H, I, rfl, ?_⟩
    rw [an]
    exact q
  · obtain ⟨its, r, pl, hz⟩ := I.tuple hq
    refine SeqAt.notIn_tupleAt (fun _ => false) pl (fun w hw => inP_at I hu' rx r fs hx w (by simpa using hw)) ⟨.bl _, H, I, rfl, ?_⟩
    rw [an]
    exact q
end
end Kin
end
section
set_option linter.all false
set_option maxRecDepth 100000
/-! Kin 6b: dicts by their keys. -/
namespace Kin
open PySem PySem.Spec PyProof.Rows L2

section
variable {ρ : List Addr} {H : Hp}
theorem rks_get : ∀ {kvs : List (Key × D)} {ws : List (Key × V)} {k : Key} {d : D}, RKs ρ H kvs ws → kGet kvs k = some d → ∃ v, valV ws k = some v ∧ RV ρ H d v
  | [], _, _, _, _, h => by simp [kGet] at h
  | (l, e) :: r, ws, k, d, rk, h => by
    simp only [RKs] at rk
    obtain ⟨v, t, rfl, rv, rt⟩ := rk
    unfold kGet at h
    unfold valV
    rw [List.find?_cons] at h ⊢
    by_cases q : l = k
    · simp only [q, decide_true, Option.map_some, Option.some.injEq] at h ⊢
      subst h
      exact ⟨v, rfl, rv⟩
    · simp only [q, decide_false] at h ⊢
      exact rks_get rt h
theorem rks_any : ∀ {kvs : List (Key × D)} {ws : List (Key × V)} (k : Key), RKs ρ H kvs ws → (ws.any fun p => decide (p.1 = k)) = kvs.any fun p => decide (p.1 = k)
  | [], _, _, rk => by simp only [RKs] at rk; subst rk; rfl
  | (l, e) :: r, ws, k, rk => by
    simp only [RKs] at rk
    obtain ⟨v, t, rfl, rv, rt⟩ := rk
    rw [List.any_cons, List.any_cons, rks_any k rt]
theorem rks_map : ∀ {kvs : List (Key × D)} {ws : List (Key × V)} {k : Key} {d : D} {v : V}, RKs ρ H kvs ws → RV ρ H d v →
    RKs ρ H (kvs.map fun p => if p.1 = k then (p.1, d) else p) (ws.map fun p => if p.1 = k then (p.1, v) else p)
  | [], _, _, _, _, rk, _ => by simp only [RKs] at rk; subst rk; rfl
  | (l, e) :: r, ws, k, d, v, rk, rv => by
    simp only [RKs] at rk
    obtain ⟨u, t, rfl, ru, rt⟩ := rk
    rw [List.map_cons, List.map_cons]
    by_cases q : l = k
    · simp only [q, if_true, RKs]
      exact ⟨v, _, rfl, rv, rks_map rt rv⟩
    · simp only [q, if_false, RKs]
      exact ⟨u, _, rfl, ru, rks_map rt rv⟩
theorem rks_snoc : ∀ {kvs : List (Key × D)} {ws : List (Key × V)} {k : Key} {d : D} {v : V}, RKs ρ H kvs ws → RV ρ H d v → RKs ρ H (kvs ++ [(k, d)]) (ws ++ [(k, v)])
  | [], _, _, _, _, rk, rv => by
    simp only [RKs] at rk
    subst rk
    simp only [List.nil_append, RKs]
    exact ⟨_, _, rfl, rv, rfl⟩
  | (l, e) :: r, ws, k, d, v, rk, rv => by
    simp only [RKs] at rk
    obtain ⟨u, t, rfl, ru, rt⟩ := rk
    simp only [List.cons_append, RKs]
    exact ⟨u, _, rfl, ru, rks_snoc rt rv⟩
theorem rks_put {kvs : List (Key × D)} {ws : List (Key × V)} {k : Key} {d : D} {v : V} (rk : RKs ρ H kvs ws) (rv : RV ρ H d v) : RKs ρ H (kPut kvs k d) (putK ws k v) := by
  unfold kPut putK
  rw [rks_any k rk]
  split
  · exact rks_map rk rv
  · exact rks_snoc rk rv
theorem keyD_at {d : D} {k : Key} {v : V} (r : RV ρ H d v) (h : keyD d = some k) : v = kV k := by
  cases d <;> simp only [keyD, reduceCtorEq, Option.some.injEq] at h <;> subst h
  · exact rv_int r
  · exact rv_str r
end
section
variable {G : Gl} {ρ : List Addr} {H : Hp} {A : AH}
theorem rks_none : ∀ {kvs : List (Key × D)} {ws : List (Key × V)} {k : Key}, RKs ρ H kvs ws → kGet kvs k = none → valV ws k = none
  | [], ws, _, rk, _ => by simp only [RKs] at rk; subst rk; rfl
  | (l, e) :: r, ws, k, rk, h => by
    simp only [RKs] at rk
    obtain ⟨v, t, rfl, rv, rt⟩ := rk
    unfold kGet at h
    unfold valV
    rw [List.find?_cons] at h ⊢
    by_cases q : l = k
    · simp only [q, decide_true, Option.map_some, reduceCtorEq] at h
    · simp only [q, decide_false] at h ⊢
      exact rks_none rt h
theorem rks_some {kvs : List (Key × D)} {ws : List (Key × V)} {k : Key} (r : RKs ρ H kvs ws) : (valV ws k).isSome = (kGet kvs k).isSome := by
  cases h : kGet kvs k with
  | none => rw [rks_none r h]; rfl
  | some d =>
    obtain ⟨v, e, _⟩ := rks_get r h
    rw [e]; rfl
theorem dctOf_at {d : D} {v : V} {kvs : List (Key × D)} (s : Sim G ρ A H) (r : RV ρ H d v) (h : dctOf d A = some kvs) : ∃ n a ws, d = .ref n ∧ A[n]? = some (.dct kvs) ∧ ρ[n]? = some a ∧ v = .ref a ∧ H a = some (.dK ws) ∧ RKs ρ H kvs ws := by
  cases d with
  | ref n =>
    simp only [dctOf] at h
    split at h
    · rename_i kvs' e
      cases h
      obtain ⟨a, hn, rfl, ws, ha, rk⟩ := rv_ref s r e
      exact ⟨n, a, ws, rfl, e, hn, rfl, ha, rk⟩
    · cases h
  | _ => simp only [dctOf, reduceCtorEq] at h
theorem setOf_at {d : D} {v : V} {is : List Int} (s : Sim G ρ A H) (r : RV ρ H d v) (h : setOf d A = some is) : ∃ n a, d = .ref n ∧ A[n]? = some (.iset is) ∧ v = .ref a ∧ H a = some (ISet G.w a is) ∧ Asc is := by
  cases d with
  | ref n =>
    simp only [setOf] at h
    split at h
    · rename_i kvs' e
      cases h
      obtain ⟨a, hn, rfl, ha, asc⟩ := rv_ref s r e
      exact ⟨n, a, rfl, e, rfl, ha, asc⟩
    · cases h
  | _ => simp only [setOf, reduceCtorEq] at h
theorem kD_at (k : Key) : RV ρ H (kD k) (kV k) := by
  cases k <;> simp only [kD, RV] <;> rfl
theorem kDs_at : ∀ {kvs : List (Key × D)} {ws : List (Key × V)}, RKs ρ H kvs ws → RVs ρ H (kvs.map fun p => kD p.1) (ws.map fun p => kV p.1)
  | [], ws, rk => by simp only [RKs] at rk; subst rk; simp only [List.map_nil, RVs]
  | (l, e) :: r, ws, rk => by
    simp only [RKs] at rk
    obtain ⟨v, t, rfl, rv, rt⟩ := rk
    simp only [List.map_cons, RVs]
    exact ⟨_, _, rfl, kD_at l, kDs_at rt⟩
end
end Kin
end
section
set_option linter.all false
set_option maxRecDepth 100000
/-! Kin 7: comparisons, items, slices, stores, built-in functions. -/
namespace Kin
open PySem PySem.Spec PyProof.Rows L2

section
variable {G : Gl} {W : WX} {σ : St} {ρ : List Addr} {H : Hp} {A : AH} {Q : VK} {X : Cx} {K : PySem.W.Frag}
/-! ### comparisons -/
/-- two things without parts: of kinds that == tells apart as data does, or a flag and an integer -/
theorem flat_two {d e : D} {v u : V} (rx : RV ρ H d v) (ry : RV ρ H e u) (f : flatD d = true) (g : flatD e = true) :
    (scal v u = true ∧ decide (v = u) = eqF d e) ∨ ∃ p q, Dp K H v p ∧ Dp K H u q ∧ SeqAt.shaped p = true ∧ SeqAt.shaped q = true ∧ PyData.eqv p q = eqF d e := by
  cases d <;> simp only [flatD, Bool.false_eq_true] at f <;> cases e <;> simp only [flatD, Bool.false_eq_true] at g <;>
    first | cases rv_non rx | cases rv_bl rx | cases rv_int rx | cases rv_str rx
  all_goals first | cases rv_non ry | cases rv_bl ry | cases rv_int ry | cases rv_str ry
  · exact .inl ⟨rfl, by simp [eqF]⟩
  · exact .inl ⟨rfl, by simp [eqF]⟩
  · exact .inl ⟨rfl, by simp [eqF]⟩
  · exact .inl ⟨rfl, by simp [eqF]⟩
  · exact .inl ⟨rfl, by simp [eqF]⟩
  · exact .inl ⟨rfl, by rw [eqF, dec_bl]⟩
  · exact .inr ⟨.bool _, .int _, .bl _, .int _, rfl, rfl, rfl⟩
  · exact .inl ⟨rfl, by simp [eqF]⟩
  · exact .inl ⟨rfl, by simp [eqF]⟩
  · exact .inr ⟨.int _, .bool _, .int _, .bl _, rfl, rfl, rfl⟩
  · exact .inl ⟨rfl, by rw [eqF, dec_int]⟩
  · exact .inl ⟨rfl, by simp [eqF]⟩
  · exact .inl ⟨rfl, by simp [eqF]⟩
  · exact .inl ⟨rfl, by simp [eqF]⟩
  · exact .inl ⟨rfl, by simp [eqF]⟩
  · exact .inl ⟨rfl, by rw [eqF, dec_str]⟩
theorem sqv_of {d : D} {v : V} (s : Sim G ρ A H) (r : RV ρ H d v) (h : isSeq d A = true) : SqV K H v := by
  unfold isSeq at h
  cases e : seqOf d A with
  | none => rw [e] at h; cases h
  | some ds =>
    obtain ⟨a, vs, rfl, _, q⟩ := seqOf_at s r e
    exact ⟨a, vs, rfl, q⟩
theorem dct_of {d : D} {v : V} (s : Sim G ρ A H) (r : RV ρ H d v) (h : isDct d A = true) : ∃ a kvs, v = .ref a ∧ H a = some (.dK kvs) := by
  cases d with
  | ref n =>
    simp only [isDct] at h
    split at h
    · rename_i kvs e
      obtain ⟨a, _, rfl, ws, ha, _⟩ := rv_ref s r e
      exact ⟨a, ws, rfl, ha⟩
    · cases h
  | _ => cases h
theorem strs_of : ∀ {ds : List D} {vs : List V}, RVs ρ H ds vs → ds.all isStrD = true → ∀ z ∈ vs, ∃ t, z = .str t
  | [], vs, r, _, z, hz => by simp only [RVs] at r; subst r; cases hz
  | d :: ds, vs, r, h, z, hz => by
    simp only [RVs] at r
    obtain ⟨v, t, rfl, rv, rt⟩ := r
    rw [List.all_cons, Bool.and_eq_true] at h
    rcases List.mem_cons.mp hz with e | e
    · subst e
      cases d <;> first | (exact ⟨_, rv_str rv⟩) | (exact (Bool.false_ne_true h.1).elim)
    · exact strs_of rt h.2 z e
theorem eqP_ok {x y : D} {v u : V} {b : Bool} (s : Sim G ρ A H) (rx : RV ρ H x v) (ry : RV ρ H y u) (h : eqP x y A = some b) : ∃ p q, Dp K H v p ∧ Dp K H u q ∧ SeqAt.shaped p = true ∧ SeqAt.shaped q = true ∧ PyData.eqv p q = b := by
  unfold eqP at h
  split at h
  · rename_i p q e1 e2
    split at h
    · rename_i sh
      rw [Bool.and_eq_true] at sh
      cases h
      exact ⟨p, q, dp_of s _ _ _ _ rx e1, dp_of s _ _ _ _ ry e2, sh.1, sh.2, rfl⟩
    · cases h
  · cases h
abbrev rEqX (K : PySem.W.Frag) : R2 := fun x y H Q => rEq x y H Q ∨ rEqD K x y H Q ∨ rEqFS K x y H Q
abbrev rNeX (K : PySem.W.Frag) : R2 := fun x y H Q => rNe x y H Q ∨ rNeD K x y H Q
abbrev rInX (K : PySem.W.Frag) (n : Bool) : R2 := fun x y H Q => rIn K n x y H Q ∨ rInP K n x y H Q
theorem out_b {p : Option Bool} (o : OutR G RV W σ ρ H Q (Res.of1 A (p.map .bl))) (s : Sim G ρ A H) : ∃ b, p = some b ∧ Q (.bl b) H := by
  obtain ⟨d, e, o⟩ := out_of1 o
  cases p with
  | none => cases e
  | some b =>
    cases e
    exact ⟨b, rfl, out_bl o s⟩
/-- a sign in a text, data in lists and tuples of data -/
def rIn1 (K : PySem.W.Frag) (neg : Bool) : R2 := fun x y H Q => (∃ c z, x = .str ⟨#[c]⟩ ∧ y = .str z ∧ Q (.bl (neg != decide (c ∈ z.cps.toList))) H) ∨
  ∃ d ds, Dp K H x d ∧ SeqAt.shaped d = true ∧ ((Dp K H y (.list ds) ∧ SeqAt.shaped (.list ds) = true) ∨ (Dp K H y (.tuple ds) ∧ SeqAt.shaped (.tuple ds) = true)) ∧ Q (.bl (neg != ds.any fun z => PyData.eqv z d)) H
theorem op_in1 (hu : X.A.units + 65 < cLine) : OpR X (compareOp .In) (rIn1 X.K false) := by
  intro pins s σ H x y v u Q I rx ry h
  rcases h with ⟨c, z, rfl, rfl, q⟩ | ⟨d, ds, hd, sd, h, q⟩
  · exact op_in_sign pins s σ H _ _ v u Q I rx ry ⟨c, z, rfl, rfl, by simpa using q⟩
  · obtain ⟨as, r1⟩ := Dp.reads I d x v hd rx
    rcases h with ⟨he, se⟩ | ⟨he, se⟩
    · obtain ⟨bs, r2⟩ := Dp.reads I (.list ds) y u he ry
      exact SeqAt.in_list_reads r2 r1 (SeqAt.canLay_of_shaped se) (SeqAt.canLay_of_shaped sd) (room_in_shaped sd hu) ⟨.bl _, H, I, rfl, by simpa using q⟩
    · obtain ⟨bs, r2⟩ := Dp.reads I (.tuple ds) y u he ry
      exact SeqAt.in_tuple_reads r2 r1 (SeqAt.canLay_of_shaped se) (SeqAt.canLay_of_shaped sd) (room_in_shaped sd hu) ⟨.bl _, H, I, rfl, by simpa using q⟩
theorem op_nin1 (hu : X.A.units + 65 < cLine) : OpR X (compareOp .NotIn) (rIn1 X.K true) := by
  intro pins s σ H x y v u Q I rx ry h
  rcases h with ⟨c, z, rfl, rfl, q⟩ | ⟨d, ds, hd, sd, h, q⟩
  · exact op_notIn_sign pins s σ H _ _ v u Q I rx ry ⟨c, z, rfl, rfl, by simpa using q⟩
  · obtain ⟨as, r1⟩ := Dp.reads I d x v hd rx
    rcases h with ⟨he, se⟩ | ⟨he, se⟩
    · obtain ⟨bs, r2⟩ := Dp.reads I (.list ds) y u he ry
      exact SeqAt.notIn_list_reads r2 r1 (SeqAt.canLay_of_shaped se) (SeqAt.canLay_of_shaped sd) (room_in_shaped sd hu) ⟨.bl _, H, I, rfl, by simpa using q⟩
    · obtain ⟨bs, r2⟩ := Dp.reads I (.tuple ds) y u he ry
      exact SeqAt.notIn_tuple_reads r2 r1 (SeqAt.canLay_of_shaped se) (SeqAt.canLay_of_shaped sd) (room_in_shaped sd hu) ⟨.bl _, H, I, rfl, by simpa using q⟩
theorem in1_ok {x y : D} {v u : V} {b neg : Bool} {Q : VK} (s : Sim G ρ A H) (rx : RV ρ H x v) (ry : RV ρ H y u) (h : inD1 x y A = some b) (q : Q (.bl (neg != b)) H) : rIn1 K neg v u H Q := by
  unfold inD1 at h
  split at h
  · rename_i c z
    split at h
    · rename_i k ek
      cases h
      cases rv_str rx
      cases rv_str ry
      have ec : c = ⟨#[k]⟩ := by
        obtain ⟨cps⟩ := c
        have : cps = #[k] := by
          apply Array.toList_inj.mp
          exact ek
        rw [this]
      subst ec
      exact .inl ⟨k, z, rfl, rfl, q⟩
    · cases h
  · split at h
    · rename_i p ps e1 e2
      split at h
      · rename_i sh
        rw [Bool.and_eq_true] at sh
        cases h
        exact .inr ⟨p, ps, dp_of s _ _ _ _ rx e1, sh.1, .inl ⟨dp_of s _ _ _ _ ry e2, sh.2⟩, q⟩
      · cases h
    · rename_i p ps e1 e2
      split at h
      · rename_i sh
        rw [Bool.and_eq_true] at sh
        cases h
        exact .inr ⟨p, ps, dp_of s _ _ _ _ rx e1, sh.1, .inr ⟨dp_of s _ _ _ _ ry e2, sh.2⟩, q⟩
      · cases h
    · cases h
theorem cmp_ok (hu : X.A.units + 64 < cLine) (hu' : X.A.units + 80 < cLine) {op : CmpOp} {c : COp} (h : cmpOf op = some c) : ∃ r, OpR X (compareOp op) r ∧ ∀ {G : Gl} {W : WX} {σ : St} {ρ A H Q x y v u}, G.w = X.w → Sim G ρ A H → RV ρ H x v → RV ρ H y u → OutR G RV W σ ρ H Q (Res.of1 A ((cmpD c x y A).map .bl)) → r v u H Q := by
  have ord2 : ∀ {g : Int → Int → Bool} (c : COp) (hc : ∀ x y A b, cmpD c x y A = some b → (∃ i j, x = .int i ∧ y = .int j ∧ b = g i j) ∨ ordP c x y A = some b) {G : Gl} {W : WX} {σ : St} {ρ A H Q x y v u}, G.w = X.w → Sim G ρ A H → RV ρ H x v → RV ρ H y u → OutR G RV W σ ρ H Q (Res.of1 A ((cmpD c x y A).map .bl)) →
      rI0 (fun i j => .bl (g i j)) v u H Q ∨ rOrdD X.K c v u H Q := by
    intro g c hc G W σ ρ A H Q x y v u _ s rx ry o
    obtain ⟨b, e, q⟩ := out_b o s
    rcases hc _ _ _ _ e with ⟨i, j, rfl, rfl, rfl⟩ | e
    · exact .inl ⟨i, j, rv_int rx, rv_int ry, q⟩
    · unfold ordP at e
      split at e
      · rename_i p p' e1 e2
        split at e
        · rename_i ok
          simp only [Bool.and_eq_true, decide_eq_true_eq] at ok
          exact .inr ⟨p, p', b, dp_of s _ _ _ _ rx e1, dp_of s _ _ _ _ ry e2, ok.1.1, ok.1.2, ok.2, e, q⟩
        · cases e
      · cases e
  cases op <;> simp only [cmpOf, Option.some.injEq] at h <;> subst h
  · refine ⟨rEqX X.K, op_eq.or ((op_eqD hu).or (op_eqFS (by omega))), fun {G W σ ρ A H Q x y v u} hw s rx ry o => ?_⟩
    obtain ⟨b, e, q⟩ := out_b o s
    simp only [cmpD, eqD] at e
    split at e
    · rename_i hf
      rw [Bool.and_eq_true] at hf
      cases e
      rcases flat_two (K := X.K) rx ry hf.1 hf.2 with ⟨a, b⟩ | ⟨p, p', a, b, c, d, f⟩
      · exact .inl ⟨a, by rw [b]; exact q⟩
      · exact .inr (.inl ⟨p, p', a, b, c, d, by rw [f]; exact q⟩)
    · split at e
      · rename_i hf
        cases e
        rw [Bool.or_eq_true, Bool.and_eq_true, Bool.and_eq_true] at hf
        refine .inr (.inr ⟨?_, q⟩)
        rcases hf with ⟨a, b⟩ | ⟨a, b⟩
        · exact .inl ⟨rv_flat rx a, sqv_of s ry b⟩
        · exact .inr ⟨rv_flat ry a, sqv_of s rx b⟩
      · obtain ⟨p, p', a, b, c, d, f⟩ := eqP_ok (K := X.K) s rx ry e
        exact .inr (.inl ⟨p, p', a, b, c, d, by rw [f]; exact q⟩)
  · refine ⟨rNeX X.K, op_ne.or (op_neD hu), fun {G W σ ρ A H Q x y v u} hw s rx ry o => ?_⟩
    obtain ⟨b, e, q⟩ := out_b o s
    simp only [cmpD] at e
    split at e
    · rename_i hf
      rw [Bool.and_eq_true] at hf
      cases e
      rcases flat_two (K := X.K) rx ry hf.1 hf.2 with ⟨a, b⟩ | ⟨p, p', a, b, c, d, f⟩
      · exact .inl ⟨a, by rw [b]; exact q⟩
      · exact .inr ⟨p, p', a, b, c, d, by rw [f]; exact q⟩
    · cases z : eqP x y A with
      | none => rw [z] at e; cases e
      | some w =>
        rw [z] at e
        cases e
        obtain ⟨p, p', a, b, c, d, f⟩ := eqP_ok (K := X.K) s rx ry z
        exact .inr ⟨p, p', a, b, c, d, by rw [f]; exact q⟩
  · refine ⟨_, op_lt.or (op_ltD hu'), ord2 .lt fun x y A b e => ?_⟩
    cases x <;> cases y <;> simp only [cmpD, cmpI, Option.some.injEq] at e <;> first | exact .inr e | exact .inl ⟨_, _, rfl, rfl, e.symm⟩
  · refine ⟨_, op_le.or (op_leD hu'), ord2 .le fun x y A b e => ?_⟩
    cases x <;> cases y <;> simp only [cmpD, cmpI, Option.some.injEq] at e <;> first | exact .inr e | exact .inl ⟨_, _, rfl, rfl, e.symm⟩
  · refine ⟨_, op_gt.or (op_gtD hu'), ord2 .gt fun x y A b e => ?_⟩
    cases x <;> cases y <;> simp only [cmpD, cmpI, Option.some.injEq] at e <;> first | exact .inr e | exact .inl ⟨_, _, rfl, rfl, e.symm⟩
  · refine ⟨_, op_ge.or (op_geD hu'), ord2 .ge fun x y A b e => ?_⟩
    cases x <;> cases y <;> simp only [cmpD, cmpI, Option.some.injEq] at e <;> first | exact .inr e | exact .inl ⟨_, _, rfl, rfl, e.symm⟩
  · refine ⟨_, L2.op_isN, fun {G W σ ρ A H Q x y v u} hw s rx ry o => ?_⟩
    obtain ⟨b, e, q⟩ := out_b o s
    cases y <;> simp only [cmpD, reduceCtorEq] at e
    cases rv_non ry
    refine ⟨rfl, ?_⟩
    cases x <;> simp only [Option.some.injEq] at e <;> subst e
    · cases rv_non rx; exact q
    · cases rv_bl rx; exact q
    · cases rv_int rx; exact q
    · cases rv_str rx; exact q
    · obtain ⟨a, vs, rfl, _⟩ := rv_tup rx; exact q
    · simp only [RV] at rx; obtain ⟨a, _, rfl⟩ := rx; exact q
  · refine ⟨_, L2.op_notN, fun {G W σ ρ A H Q x y v u} hw s rx ry o => ?_⟩
    obtain ⟨b, e, q⟩ := out_b o s
    cases y <;> simp only [cmpD, reduceCtorEq] at e
    cases rv_non ry
    refine ⟨rfl, ?_⟩
    cases x <;> simp only [Option.some.injEq] at e <;> subst e
    · cases rv_non rx; exact q
    · cases rv_bl rx; exact q
    · cases rv_int rx; exact q
    · cases rv_str rx; exact q
    · obtain ⟨a, vs, rfl, _⟩ := rv_tup rx; exact q
    · simp only [RV] at rx; obtain ⟨a, _, rfl⟩ := rx; exact q
  · refine ⟨fun x y H Q => (rInX X.K false x y H Q ∨ rDIn false x y H Q ∨ rSIn X.w x y H Q) ∨ rIn1 X.K false x y H Q, ((op_in_seq.or (op_inP (by omega))).or ((op_din (by omega)).or or_sin)).or (op_in1 (by omega)), fun {G W σ ρ A H Q x y v u} hw s rx ry o => ?_⟩
    obtain ⟨b, e, q⟩ := out_b o s
    replace e : inD x y A = some b := e
    unfold inD at e
    cases e0 : inD0 x y A with
    | none => rw [e0] at e; exact .inr (in1_ok (K := X.K) s rx ry e (by simpa using q))
    | some b0 =>
    rw [e0] at e
    cases e
    revert e0
    intro e
    refine .inl ?_
    unfold inD0 at e
    split at e
    · rename_i ys ey
      obtain ⟨a, vs, rfl, rs, hs⟩ := seqOf_at (K := X.K) s ry ey
      split at e
      · rename_i hf
        split at e
        · rename_i hx
          cases e
          refine .inl (.inl ⟨a, vs, rfl, hs, rv_flat rx hx, rvs_flat rs hf, ?_⟩)
          show Q (.bl (inV v vs)) H
          unfold inV
          rw [rvs_any rx hx rs hf]
          exact q
        · split at e
          · rename_i hx
            cases e
            rw [Bool.or_eq_true, Bool.and_eq_true] at hx
            refine .inl (.inr ⟨a, vs, rfl, hs, rvs_flat rs hf, ?_, q⟩)
            rcases hx with hx | hx
            · exact .inl (sqv_of s rx hx)
            · exact .inr ⟨dct_of s rx hx.1, strs_of rs hx.2⟩
          · cases e
      · cases e
    · split at e
      · rename_i kvs ek
        obtain ⟨_, a, ws, rfl, _, _, rfl, ha, rk⟩ := dctOf_at s ry ek
        cases kx : keyD x with
        | none => rw [kx] at e; cases e
        | some k =>
          rw [kx] at e
          cases e
          refine .inr (.inl ⟨a, valV ws k, rfl, by rw [keyD_at rx kx]; exact DGet.k ha, ?_⟩)
          rw [rks_some rk]
          exact q
      · split at e
        · rename_i is es
          obtain ⟨_, a, rfl, _, rfl, ha, asc⟩ := setOf_at s ry es
          cases x <;> simp only [intOf, Option.map_none, Option.map_some, reduceCtorEq, Option.some.injEq] at e
          subst e
          rw [hw] at ha
          exact .inr (.inr ⟨_, a, _, _, rv_int rx, rfl, ha, q⟩)
        · cases e
  · refine ⟨fun x y H Q => (rInX X.K true x y H Q ∨ rDIn true x y H Q ∨ rSNotIn X.w x y H Q) ∨ rIn1 X.K true x y H Q, ((op_notIn_seq.or (op_ninP (by omega))).or ((op_dnin (by omega)).or or_snotin)).or (op_nin1 (by omega)), fun {G W σ ρ A H Q x y v u} hw s rx ry o => ?_⟩
    obtain ⟨b, e, q⟩ := out_b o s
    replace e : (inD x y A).map (!·) = some b := e
    unfold inD at e
    cases e0 : inD0 x y A with
    | none =>
      rw [e0] at e
      cases e1 : inD1 x y A with
      | none => simp only [e1] at e; cases e
      | some b1 =>
        simp only [e1] at e
        cases e
        exact .inr (in1_ok (K := X.K) s rx ry e1 (by simpa using q))
    | some b0 =>
    rw [e0] at e
    cases e
    revert e0
    intro e
    refine .inl ?_
    unfold inD0 at e
    split at e
    · rename_i ys ey
      obtain ⟨a, vs, rfl, rs, hs⟩ := seqOf_at (K := X.K) s ry ey
      split at e
      · rename_i hf
        split at e
        · rename_i hx
          cases e
          refine .inl (.inl ⟨a, vs, rfl, hs, rv_flat rx hx, rvs_flat rs hf, ?_⟩)
          show Q (.bl (!inV v vs)) H
          unfold inV
          rw [rvs_any rx hx rs hf]
          exact q
        · split at e
          · rename_i hx
            cases e
            rw [Bool.or_eq_true, Bool.and_eq_true] at hx
            refine .inl (.inr ⟨a, vs, rfl, hs, rvs_flat rs hf, ?_, q⟩)
            rcases hx with hx | hx
            · exact .inl (sqv_of s rx hx)
            · exact .inr ⟨dct_of s rx hx.1, strs_of rs hx.2⟩
          · cases e
      · cases e
    · split at e
      · rename_i kvs ek
        obtain ⟨_, a, ws, rfl, _, _, rfl, ha, rk⟩ := dctOf_at s ry ek
        cases kx : keyD x with
        | none => rw [kx] at e; cases e
        | some k =>
          rw [kx] at e
          cases e
          refine .inr (.inl ⟨a, valV ws k, rfl, by rw [keyD_at rx kx]; exact DGet.k ha, ?_⟩)
          rw [rks_some rk]
          exact q
      · split at e
        · rename_i is es
          obtain ⟨_, a, rfl, _, rfl, ha, asc⟩ := setOf_at s ry es
          cases x <;> simp only [intOf, Option.map_none, Option.map_some, reduceCtorEq, Option.some.injEq] at e
          subst e
          rw [hw] at ha
          exact .inr (.inr ⟨_, a, _, _, rv_int rx, rfl, ha, q⟩)
        · cases e
end
end Kin
end
section
set_option linter.all false
set_option maxRecDepth 100000
/-! Kin 8: items, slices, stores, built-in functions. -/
namespace Kin
open PySem PySem.Spec PyProof.Rows L2

section
variable {G : Gl} {W : WX} {σ : St} {ρ : List Addr} {H : Hp} {A : AH} {Q : VK} {X : Cx} {K : PySem.W.Frag}
/-! ### items -/
def rIxD : R2 := fun x y H Q => ∃ a v, x = .ref a ∧ DGet H a y (some v) ∧ Q v H
theorem ix_dict (hu : X.A.units + 1 < cLine) : IxR X rIxD := by
  intro value slice pins s σ H x y v u Q I rx ry h hs
  obtain ⟨a, w, rfl, g, q⟩ := h
  cases rx
  have hT := dict_typeIs I g
  unfold subscriptTail
  refine wpAny_bind ?_
  rw [getitemInPython_of_ne hT.not_modules]
  refine wpAny_bind (wpAny_specialOf hT PySem.F.slot_dict_getitem.lookup ?_)
  have fin : wpAny (model X.prog X.w) X.A (subscripted slice false (.ref a) u) (fun r s₃ => wpAny (model X.prog X.w) X.A (letTemporaryGo value (.ref a) r >>= fun _ => pure r) (EP X pins σ Q) X.xe s₃) X.xe s := by
    rw [hs]
    exact wpAny_operating (d_getItem hu I g ry fun w' s3 I3 rw' => wpAny_bind (wpAny_letTemporaryGo (wpAny_pure ⟨w, H, I3, rw', q⟩)))
  first
    | exact wpAny_pure (wpAny_bind fin)
    | exact wpAny_bind (wpAny_pure (wpAny_bind fin))
    | exact wpAny_bind fin
abbrev rIxX (K : PySem.W.Frag) : R2 := fun x y H Q => rIx K x y H Q ∨ rIxD x y H Q
theorem ix_all (hu : X.A.units + 1 < cLine) : IxR X (rIxX X.K) := ix_seq.or (ix_dict hu)
theorem pr_idx {x y : D} {v u : V} (s : Sim G ρ A H) (rx : RV ρ H x v) (ry : RV ρ H y u) (o : OutR G RV W σ ρ H Q (Res.of1 A (idxD x y A))) : rIxX K v u H Q := by
  obtain ⟨d, e, o2⟩ := out_of1 o
  clear o
  cases x with
  | tup ds =>
    cases y <;> simp only [idxD, reduceCtorEq] at e
    obtain ⟨a, vs, rfl, ha, ra⟩ := rv_tup rx
    obtain ⟨w, hw, rw'⟩ := ra.atI e
    exact .inl (.inr (.inl ⟨a, vs, _, w, rfl, rv_int ry, .of ha, hw, OutR.ok o2 s rw'⟩))
  | str z =>
    cases y <;> simp only [idxD, reduceCtorEq] at e
    split at e
    · rename_i hl
      cases q : L2.atI z.cps.toList _ with
      | none => rw [q] at e; cases e
      | some c =>
        rw [q] at e
        cases e
        exact .inl (.inr (.inr ⟨z, _, c, rv_str rx, rv_int ry, by rw [← lim_eq]; exact hl, q, out_str o2 s⟩))
    · cases e
  | ref n =>
    simp only [idxD] at e
    split at e
    · rename_i ds en
      obtain ⟨a, _, rfl, vs, ha, ra⟩ := rv_ref s rx en
      cases y <;> simp only [reduceCtorEq] at e
      obtain ⟨w, hw, rw'⟩ := ra.atI e
      exact .inl (.inl ⟨a, vs, _, w, rfl, rv_int ry, .of ha, hw, OutR.ok o2 s rw'⟩)
    · rename_i ds en
      obtain ⟨a, _, rfl, ob, vs, ha, ra⟩ := rv_ref s rx en
      cases y <;> simp only [reduceCtorEq] at e
      obtain ⟨w, hw, rw'⟩ := ra.atI e
      exact .inl (.inl ⟨a, vs, _, w, rfl, rv_int ry, .inl (.inr ⟨ob, ha⟩), hw, OutR.ok o2 s rw'⟩)
    · rename_i kvs en
      obtain ⟨a, _, rfl, ws, ha, rk⟩ := rv_ref s rx en
      cases ky : keyD y with
      | none => rw [ky] at e; cases e
      | some k =>
        rw [ky] at e
        obtain ⟨w, hw, rw'⟩ := rks_get rk e
        refine .inr ⟨a, w, rfl, ?_, OutR.ok o2 s rw'⟩
        rw [keyD_at ry ky, ← hw]
        exact DGet.k ha
    · cases e
  | _ => simp only [idxD, reduceCtorEq] at e
/-! ### slices -/
abbrev rSlX (K : PySem.W.Frag) : V → Option Int → Option Int → Hp → VK → Prop := fun x lo hi H Q => rSlA K x lo hi H Q ∨ rSlL K x lo hi H Q
theorem sl_all : SlR X (rSlX X.K) := sl_tupA.or sl_list
theorem pr_slc {x : D} {v : V} {lo hi : Option Int} (s : Sim G ρ A H) (rx : RV ρ H x v) (o : OutR G RV W σ ρ H Q (Res.of (slcD x lo hi A))) : rSlX K v lo hi H Q := by
  obtain ⟨d, A', e, o2⟩ := out_of o
  clear o
  cases x with
  | tup ds =>
    simp only [slcD, Option.some.injEq, Prod.mk.injEq] at e
    obtain ⟨e1, e2⟩ := e
    subst e1 e2
    obtain ⟨a, vs, rfl, ha, ra⟩ := rv_tup rx
    refine .inl ⟨a, vs, rfl, .of ha, fun hw => ?_, fun _ => out_tup o2 s (ra.cut lo hi)⟩
    rw [ra.length] at hw
    rw [cut_all ds lo hi hw] at o2
    exact OutR.ok o2 s (tup_rv ha ra)
  | ref n =>
    simp only [slcD] at e
    cases q : seqOf (.ref n) A with
    | none => rw [q] at e; cases e
    | some ds =>
      rw [q] at e
      simp only [Option.map_some, Option.some.injEq] at e
      obtain ⟨a, vs, rfl, ra, hs⟩ := seqOf_at (K := K) s rx q
      rcases hs with hs | hs
      · refine .inr ⟨a, vs, rfl, hs, ?_⟩
        have o' : OutR G RV W σ ρ H Q (Res.of (some (new A (.lst (Kin.cut ds lo hi))))) := by rw [e]; exact o2
        exact out_lst o' s (ra.cut lo hi)
      · refine .inr ?_
        simp only [seqOf] at q
        split at q
        · rename_i es en
          cases q
          obtain ⟨b, _, eb, ws, hb, rb⟩ := rv_ref s rx en
          cases eb
          refine ⟨a, ws, rfl, .of hb, ?_⟩
          have o' : OutR G RV W σ ρ H Q (Res.of (some (new A (.lst (Kin.cut ds lo hi))))) := by rw [e]; exact o2
          exact out_lst o' s (rb.cut lo hi)
        · rename_i es en
          cases q
          obtain ⟨b, _, eb, ob, ws, hb, rb⟩ := rv_ref s rx en
          cases eb
          refine ⟨a, ws, rfl, .inl (.inr ⟨ob, hb⟩), ?_⟩
          have o' : OutR G RV W σ ρ H Q (Res.of (some (new A (.lst (Kin.cut ds lo hi))))) := by rw [e]; exact o2
          exact out_lst o' s (rb.cut lo hi)
        · cases q
  | _ => simp only [slcD, reduceCtorEq] at e
/-! ### stores -/
theorem pr_set {x y d : D} {v u w : V} {A' : AH} {P : Hp → Prop} (s : Sim G ρ A H) (rx : RV ρ H x v) (ry : RV ρ H y u) (rd : RV ρ H d w) (h : setIdx x y d A = some A')
    (k : ∀ H', Ext ρ H ρ H' → Sim G ρ A' H' → P H') : rSetL v u w H P ∨ rSetD v u w H P := by
  cases x <;> simp only [setIdx, reduceCtorEq] at h
  rename_i n
  split at h
  · rename_i ds en
    cases y <;> simp only [reduceCtorEq] at h
    rename_i i
    obtain ⟨a, hn, rfl, vs, ha, ra⟩ := rv_ref s rx en
    cases q : L2.ixN ds.length i with
    | none => rw [q] at h; cases h
    | some j =>
      rw [q] at h
      cases h
      have x1 := Ext.put (ho := .lst (vs.set j w)) s (List.mem_of_getElem? hn)
      exact .inl ⟨a, vs, i, j, rfl, rv_int ry, ha, by rw [ra.length]; exact q, k _ x1 (s.put hn ⟨_, upd_same, RVs.mono x1 _ _ (ra.set j rd)⟩)⟩
  · rename_i kvs en
    obtain ⟨a, hn, rfl, ws, ha, rk⟩ := rv_ref s rx en
    cases ky : keyD y with
    | none => rw [ky] at h; cases h
    | some key =>
      rw [ky] at h
      simp only [Option.bind_some] at h
      split at h
      · rename_i hl
        cases h
        have x1 := Ext.put (ho := .dK (putK ws key w)) s (List.mem_of_getElem? hn)
        refine .inr ⟨a, _, rfl, ?_, k _ x1 (s.put hn ⟨_, upd_same, RKs.mono x1 _ _ (rks_put rk rd)⟩)⟩
        rw [keyD_at ry ky]
        exact DPut.k ha (by rw [rk.length, ← lim_eq]; exact hl)
      · cases h
  · cases h
/-! ### built-in functions -/
theorem rvs1 {a : D} {vs : List V} (r : RVs ρ H [a] vs) : ∃ v, vs = [v] ∧ RV ρ H a v := by
  simp only [RVs] at r
  obtain ⟨v, t, rfl, rv, rfl⟩ := r
  exact ⟨v, rfl, rv⟩
theorem rvs2 {a b : D} {vs : List V} (r : RVs ρ H [a, b] vs) : ∃ v u, vs = [v, u] ∧ RV ρ H a v ∧ RV ρ H b u := by
  simp only [RVs] at r
  obtain ⟨v, t, rfl, rv, u, t2, rfl, ru, rfl⟩ := r
  exact ⟨v, u, rfl, rv, ru⟩
theorem isI_at {ρ : List Addr} {H : Hp} : ∀ is : List Int, RVs ρ H (is.map D.int) (is.map V.int)
  | [] => by simp only [List.map_nil, RVs]
  | i :: is => by
    simp only [List.map_cons, RVs]
    exact ⟨_, _, rfl, by simp only [RV], isI_at is⟩
theorem top_go : ∀ (r : List Int) (x : Int), (r.foldl (fun a b => if b > a then b else a) x ∈ x :: r) ∧ ∀ y ∈ x :: r, y ≤ r.foldl (fun a b => if b > a then b else a) x
  | [], x => by simp
  | b :: r, x => by
    rw [List.foldl_cons]
    have z1 : (if b > x then b else x) = b ∨ (if b > x then b else x) = x := by split <;> simp
    have z2 : x ≤ (if b > x then b else x) ∧ b ≤ (if b > x then b else x) := by split <;> omega
    generalize (if b > x then b else x) = z at z1 z2
    obtain ⟨p, q⟩ := top_go r z
    have hx := q z (by simp)
    refine ⟨?_, fun y hy => ?_⟩
    · rcases List.mem_cons.mp p with p | p
      · rw [p]; rcases z1 with e | e <;> simp [e]
      · simp [p]
    · rcases List.mem_cons.mp hy with e | hy
      · subst e; omega
      · rcases List.mem_cons.mp hy with e | hy
        · subst e; omega
        · exact q y (by simp [hy])
theorem top_is {is : List Int} {m : Int} (h : topL is = some m) : m ∈ is ∧ ∀ y ∈ is, y ≤ m := by
  cases is with
  | nil => cases h
  | cons x r =>
    simp only [topL, Option.some.injEq] at h
    rw [← h]
    exact top_go r x
theorem low_go : ∀ (r : List Int) (x : Int), (r.foldl (fun a b => if b < a then b else a) x ∈ x :: r) ∧ ∀ y ∈ x :: r, r.foldl (fun a b => if b < a then b else a) x ≤ y
  | [], x => by simp
  | b :: r, x => by
    rw [List.foldl_cons]
    have z1 : (if b < x then b else x) = b ∨ (if b < x then b else x) = x := by split <;> simp
    have z2 : x ≥ (if b < x then b else x) ∧ b ≥ (if b < x then b else x) := by split <;> omega
    generalize (if b < x then b else x) = z at z1 z2
    obtain ⟨p, q⟩ := low_go r z
    have hx := q z (by simp)
    refine ⟨?_, fun y hy => ?_⟩
    · rcases List.mem_cons.mp p with p | p
      · rw [p]; rcases z1 with e | e <;> simp [e]
      · simp [p]
    · rcases List.mem_cons.mp hy with e | hy
      · subst e; omega
      · rcases List.mem_cons.mp hy with e | hy
        · subst e; omega
        · exact q y (by simp [hy])
theorem low_is {is : List Int} {m : Int} (h : lowL is = some m) : m ∈ is ∧ ∀ y ∈ is, m ≤ y := by
  cases is with
  | nil => cases h
  | cons x r =>
    simp only [lowL, Option.some.injEq] at h
    rw [← h]
    exact low_go r x
abbrev PrB (w : World) (b : Blt) (r : List V → Hp → VK → Prop) : Prop := ∀ {G : Gl} {W : WX} {σ : St} {ρ A H Q ds vs}, G.w = w → Sim G ρ A H → RVs ρ H ds vs → OutR G RV W σ ρ H Q (Res.of (callB b ds A)) → r vs H Q
/-- built-in functions: what stands under the name, what it does -/
theorem fn_ok (hc : X.calm = true) (bare : Bare X.A) (hu : X.A.units + 80 < cLine) {x : Str} {b : Blt} (h : bltOf x = some b) : ∃ id r, bootBuiltins x = some (.builtin id) ∧ CallR X (.builtin id) r ∧ PrB X.w b r := by
  unfold bltOf at h
  split at h
  · rename_i e; subst e; cases h
    refine ⟨_, _, by decide +kernel, call_len, fun {G W σ ρ A H Q ds vs} hw s r o => ?_⟩
    obtain ⟨d, A', e, o⟩ := out_of o
    match ds, e with
    | [.str z], e =>
      simp only [callB] at e
      split at e
      · rename_i hl
        cases e
        obtain ⟨v, rfl, rv⟩ := rvs1 r
        exact ⟨v, _, rfl, by cases rv_str rv; exact ⟨by rw [← lim_eq]; exact hl, rfl⟩, out_int o s⟩
      · cases e
    | [.tup z], e =>
      simp only [callB, seqOf, Option.map_some, Option.some.injEq, Prod.mk.injEq] at e
      obtain ⟨e1, e2⟩ := e
      subst e1 e2
      obtain ⟨v, rfl, rv⟩ := rvs1 r
      obtain ⟨a, ws, rfl, ha, ra⟩ := rv_tup rv
      refine ⟨_, _, rfl, .inr ⟨ws, .of ha, rfl⟩, ?_⟩
      rw [ra.length]
      exact out_int o s
    | [.ref n], e =>
      simp only [callB] at e
      cases q : seqOf (.ref n) A with
      | none => rw [q] at e; cases e
      | some es =>
        rw [q] at e
        simp only [Option.map_some, Option.some.injEq, Prod.mk.injEq] at e
        obtain ⟨e1, e2⟩ := e
        subst e1 e2
        obtain ⟨v, rfl, rv⟩ := rvs1 r
        obtain ⟨a, ws, rfl, ra, hs⟩ := seqOf_at (K := X.K) s rv q
        refine ⟨_, _, rfl, ?_, out_int (i := (es.length : Int)) o s⟩
        rcases hs with hs | hs
        · exact .inl ⟨ws, hs, ra.length.symm⟩
        · exact .inr ⟨ws, hs, ra.length.symm⟩
    | [], e => simp [callB] at e
    | [.non], e => simp [callB, seqOf] at e
    | [.bl _], e => simp [callB, seqOf] at e
    | [.int _], e => simp [callB, seqOf] at e
    | a :: b :: t, e => cases a <;> simp [callB] at e
  split at h
  · rename_i e; subst e; cases h
    refine ⟨_, _, by decide +kernel, cr_sum hc, fun {G W σ ρ A H Q ds vs} hw s r o => ?_⟩
    obtain ⟨d, A', e, o⟩ := out_of o
    match ds, e with
    | [z], e =>
      simp only [callB] at e
      obtain ⟨v, rfl, rv⟩ := rvs1 r
      cases q : lstOf z A with
      | none => rw [q] at e; cases e
      | some es =>
        rw [q] at e
        cases qi : intsD es with
        | none => simp [qi] at e
        | some is =>
          simp only [Option.bind_some, qi, Option.map_some, Option.some.injEq, Prod.mk.injEq] at e
          obtain ⟨e1, e2⟩ := e
          subst e1 e2
          obtain ⟨a, ws, rfl, ra, ha⟩ := lstOf_at s rv q
          exact ⟨a, is, rfl, by rw [← rvs_ints ra qi]; exact .of ha, out_int o s⟩
    | [], e => simp [callB] at e
    | a :: b :: t, e => simp [callB] at e
  split at h
  · rename_i e; subst e; cases h
    refine ⟨_, _, by decide +kernel, cr_all hc, fun {G W σ ρ A H Q ds vs} hw s r o => ?_⟩
    obtain ⟨d, A', e, o⟩ := out_of o
    match ds, e with
    | [z], e =>
      simp only [callB] at e
      obtain ⟨v, rfl, rv⟩ := rvs1 r
      cases q : lstOf z A with
      | none => rw [q] at e; cases e
      | some es =>
        rw [q] at e
        cases qi : blsD es with
        | none => simp [qi] at e
        | some is =>
          simp only [Option.bind_some, qi, Option.map_some, Option.some.injEq, Prod.mk.injEq] at e
          obtain ⟨e1, e2⟩ := e
          subst e1 e2
          obtain ⟨a, ws, rfl, ra, ha⟩ := lstOf_at s rv q
          exact ⟨a, is, rfl, by rw [← rvs_bls ra qi]; exact .of ha, out_bl o s⟩
    | [], e => simp [callB] at e
    | a :: b :: t, e => simp [callB] at e
  split at h
  · rename_i e; subst e; cases h
    refine ⟨_, _, by decide +kernel, cr_any hc, fun {G W σ ρ A H Q ds vs} hw s r o => ?_⟩
    obtain ⟨d, A', e, o⟩ := out_of o
    match ds, e with
    | [z], e =>
      simp only [callB] at e
      obtain ⟨v, rfl, rv⟩ := rvs1 r
      cases q : lstOf z A with
      | none => rw [q] at e; cases e
      | some es =>
        rw [q] at e
        cases qi : blsD es with
        | none => simp [qi] at e
        | some is =>
          simp only [Option.bind_some, qi, Option.map_some, Option.some.injEq, Prod.mk.injEq] at e
          obtain ⟨e1, e2⟩ := e
          subst e1 e2
          obtain ⟨a, ws, rfl, ra, ha⟩ := lstOf_at s rv q
          exact ⟨a, is, rfl, by rw [← rvs_bls ra qi]; exact .of ha, out_bl o s⟩
    | [], e => simp [callB] at e
    | a :: b :: t, e => simp [callB] at e
  split at h
  · rename_i e; subst e; cases h
    refine ⟨_, _, by decide +kernel, call_abs, fun {G W σ ρ A H Q ds vs} hw s r o => ?_⟩
    obtain ⟨d, A', e, o⟩ := out_of o
    unfold callB at e
    split at e <;> simp only [reduceCtorEq] at * <;> cases e
    obtain ⟨v, rfl, rv⟩ := rvs1 r
    exact ⟨_, by rw [rv_int rv], out_int o s⟩
  split at h
  · rename_i e; subst e; cases h
    refine ⟨_, _, by decide +kernel, (call_min2 hc).or (cr_min hc), fun {G W σ ρ A H Q ds vs} hw s r o => ?_⟩
    obtain ⟨d, A', e, o2⟩ := out_of o
    clear o
    match ds, r, e with
    | [.int i, .int j], r, e =>
      simp only [callB, Option.some.injEq, Prod.mk.injEq] at e
      obtain ⟨e1, e2⟩ := e
      subst e1 e2
      obtain ⟨v, u, rfl, rv, ru⟩ := rvs2 r
      exact .inl ⟨_, _, by rw [rv_int rv, rv_int ru], out_int o2 s⟩
    | [.ref n], r, e =>
      simp only [callB] at e
      obtain ⟨v, rfl, rv⟩ := rvs1 r
      cases q : lstOf (.ref n) A with
      | none => rw [q] at e; cases e
      | some es =>
        rw [q] at e
        cases qi : intsD es with
        | none => simp [qi] at e
        | some is =>
          simp only [Option.bind_some, qi] at e
          cases qt : lowL is with
          | none => rw [qt] at e; cases e
          | some m0 =>
            rw [qt] at e
            simp only [Option.map_some, Option.some.injEq, Prod.mk.injEq] at e
            obtain ⟨e1, e2⟩ := e
            subst e1 e2
            obtain ⟨a, ws, rfl, ra, ha⟩ := lstOf_at s rv q
            obtain ⟨m1, m2⟩ := low_is qt
            refine .inr ⟨a, is, rfl, by rw [← rvs_ints ra qi]; exact .of ha, List.length_pos_of_mem m1, fun m h1 h2 => ?_⟩
            have : m = m0 := by
              have := h2 m0 m1
              have := m2 m h1
              omega
            subst this
            exact out_int o2 s
    | [], _, e => simp [callB] at e
    | [.non], _, e => simp [callB] at e
    | [.bl _], _, e => simp [callB] at e
    | [.int _], _, e => simp [callB] at e
    | [.str _], _, e => simp [callB] at e
    | [.tup _], _, e => simp [callB] at e
    | a :: b :: c :: t, _, e => cases a <;> cases b <;> simp [callB] at e
    | [.int _, .non], _, e => simp [callB] at e
    | [.int _, .bl _], _, e => simp [callB] at e
    | [.int _, .str _], _, e => simp [callB] at e
    | [.int _, .tup _], _, e => simp [callB] at e
    | [.int _, .ref _], _, e => simp [callB] at e
    | [.non, _], _, e => simp [callB] at e
    | [.bl _, _], _, e => simp [callB] at e
    | [.str _, _], _, e => simp [callB] at e
    | [.tup _, _], _, e => simp [callB] at e
    | [.ref _, _], _, e => simp [callB] at e
  split at h
  · rename_i e; subst e; cases h
    refine ⟨_, _, by decide +kernel, (call_max2 hc).or (cr_max hc), fun {G W σ ρ A H Q ds vs} hw s r o => ?_⟩
    obtain ⟨d, A', e, o2⟩ := out_of o
    clear o
    match ds, r, e with
    | [.int i, .int j], r, e =>
      simp only [callB, Option.some.injEq, Prod.mk.injEq] at e
      obtain ⟨e1, e2⟩ := e
      subst e1 e2
      obtain ⟨v, u, rfl, rv, ru⟩ := rvs2 r
      exact .inl ⟨_, _, by rw [rv_int rv, rv_int ru], out_int o2 s⟩
    | [.ref n], r, e =>
      simp only [callB] at e
      obtain ⟨v, rfl, rv⟩ := rvs1 r
      cases q : lstOf (.ref n) A with
      | none => rw [q] at e; cases e
      | some es =>
        rw [q] at e
        cases qi : intsD es with
        | none => simp [qi] at e
        | some is =>
          simp only [Option.bind_some, qi] at e
          cases qt : topL is with
          | none => rw [qt] at e; cases e
          | some m0 =>
            rw [qt] at e
            simp only [Option.map_some, Option.some.injEq, Prod.mk.injEq] at e
            obtain ⟨e1, e2⟩ := e
            subst e1 e2
            obtain ⟨a, ws, rfl, ra, ha⟩ := lstOf_at s rv q
            obtain ⟨m1, m2⟩ := top_is qt
            refine .inr ⟨a, is, rfl, by rw [← rvs_ints ra qi]; exact .of ha, List.length_pos_of_mem m1, fun m h1 h2 => ?_⟩
            have : m = m0 := by
              have := h2 m0 m1
              have := m2 m h1
              omega
            subst this
            exact out_int o2 s
    | [], _, e => simp [callB] at e
    | [.non], _, e => simp [callB] at e
    | [.bl _], _, e => simp [callB] at e
    | [.int _], _, e => simp [callB] at e
    | [.str _], _, e => simp [callB] at e
    | [.tup _], _, e => simp [callB] at e
    | a :: b :: c :: t, _, e => cases a <;> cases b <;> simp [callB] at e
    | [.int _, .non], _, e => simp [callB] at e
    | [.int _, .bl _], _, e => simp [callB] at e
    | [.int _, .str _], _, e => simp [callB] at e
    | [.int _, .tup _], _, e => simp [callB] at e
    | [.int _, .ref _], _, e => simp [callB] at e
    | [.non, _], _, e => simp [callB] at e
    | [.bl _, _], _, e => simp [callB] at e
    | [.str _, _], _, e => simp [callB] at e
    | [.tup _, _], _, e => simp [callB] at e
    | [.ref _, _], _, e => simp [callB] at e
  split at h
  · rename_i e; subst e; cases h
    refine ⟨_, _, by decide +kernel, call_repr bare hu, fun {G W σ ρ A H Q ds vs} hw s r o => ?_⟩
    obtain ⟨d, A', e, o⟩ := out_of o
    match ds, e with
    | [z], e =>
      simp only [callB] at e
      obtain ⟨v, rfl, rv⟩ := rvs1 r
      cases q : pyD deep A z with
      | none => rw [q] at e; cases e
      | some p =>
        rw [q] at e
        simp only [Option.bind_some] at e
        unfold showP at e
        split at e
        · rename_i ok
          simp only [Bool.and_eq_true, Bool.not_eq_true', decide_eq_true_eq] at ok
          cases e
          exact ⟨v, p, rfl, dp_of s _ _ _ _ rv q, ok.1.1.1, ok.1.1.2, ok.1.2, by rw [← lim_eq]; exact ok.2, out_str o s⟩
        · cases e
    | [], e => simp [callB] at e
    | a :: b :: t, e => simp [callB] at e
  split at h
  · rename_i e; subst e; cases h
    refine ⟨_, fun xs H Q => rSortD X.K xs H Q ∨ rSortedSet X.w xs H Q, by decide +kernel, (call_sorted hu).or (cr_sortedSet hc), fun {G W σ ρ A H Q ds vs} hw s r o => ?_⟩
    obtain ⟨d, A', e, o2⟩ := out_of o
    clear o
    have o := o2
    clear o2
    match ds, e with
    | [z], e =>
      simp only [callB] at e
      obtain ⟨v, rfl, rv⟩ := rvs1 r
      split at e
      · rename_i is es
        split at e
        · rename_i hl
          cases e
          obtain ⟨_, a, rfl, _, rfl, ha, asc⟩ := setOf_at s rv es
          rw [hw] at ha
          refine .inr ⟨a, _, _, rfl, ha, hl, fun ns p h1 h2 _ hp => ?_⟩
          have e : ns = is := asc_ext h1 asc fun j => by rw [h2 j, decide_eq_true_eq]
          rw [e]
          exact out_lst o s (isI_at is) p hp
        · cases e
      · cases q : seqOf z A with
          | none => rw [q] at e; cases e
          | some es =>
            rw [q] at e
            simp only [Option.bind_some] at e
            obtain ⟨a, ws, rfl, ra, ha⟩ := seqOf_at (K := X.K) s rv q
            unfold sortD at e
            cases q2 : allS (es.map (pyD deep A)) with
            | none => rw [q2] at e; cases e
            | some ps =>
              rw [q2] at e
              simp only [Option.bind_some] at e
              split at e
              · rename_i ok
                rw [Bool.and_eq_true] at ok
                cases e
                exact .inl ⟨a, ws, ps, rfl, ha, dps_of (fun d v p => dp_of s deep d v p) ra q2, ok.1, by rw [ra.length, ← lim_eq]; exact of_decide_eq_true ok.2, out_lst (ds := sortP es ps) o s (ra.sortP ps)⟩
              · cases e
    | [], e => simp [callB] at e
    | a :: b :: t, e => simp [callB] at e
  cases h
end
end Kin
end
section
set_option linter.all false
set_option maxRecDepth 100000
/-! Kin 8b: t[::-1] of a tuple. -/
namespace Kin
open PySem PySem.Spec PyProof.Rows L2
theorem rv_adjust (n : Nat) : Builtin.Slice.sliceAdjust none none (-1) (n : Int) = ((n : Int) - 1, -1) := rfl
theorem rv_places (n : Nat) : Builtin.Slice.slicePlaces ((n : Int) - 1) (-1) (-1) = n := by
  unfold Builtin.Slice.slicePlaces
  rw [if_neg (by decide)]
  by_cases h : n = 0
  · subst h
    rfl
  · rw [if_pos (by omega)]
    have e : ((n : Int) - 1 - -1 - 1) / (- -1) = (n : Int) - 1 := by
      rw [show (- -1 : Int) = 1 by decide, Int.ediv_one]
      omega
    rw [e]
    omega
theorem rv_pick (xs : Array Value) : ((List.range xs.size).filterMap fun (k : Nat) => xs[(((xs.size : Int) - 1) + (k : Int) * (-1)).toNat]?).toArray = xs.toList.reverse.toArray := by
  congr 1
  have e : (fun (k : Nat) => xs[(((xs.size : Int) - 1) + (k : Int) * (-1)).toNat]?) = (fun j => xs[j]?) ∘ fun k => xs.size - 1 - k := by
    funext k
    show xs[_]? = xs[xs.size - 1 - k]?
    congr 1
    omega
  rw [e, ← List.filterMap_map, PySem.W.krv_range, List.filterMap_reverse, PySem.W.krv_all]
section
variable {prog : Program} {w : World} {A : Around} {E : Value → Shared → Prop} {z : Shared}
theorem rv_applied {b : Addr} {va vb vc : Value} {n : Nat} {Q : Int × Int × Nat → Shared → Prop} (hb : z.heap.IsSliceOf b va vb vc) (pa : IsPart va none) (pb : IsPart vb none) (pc : IsPart vc (some (-1)))
    (h : Q ((n : Int) - 1, -1, n) z) : wpAny (model prog w) A (Builtin.Slice.sliceApplied (.ref b) (pure (n : Int))) Q E z := by
  obtain ⟨ob, g1, g2, g3⟩ := hb
  unfold Builtin.Slice.sliceApplied Builtin.Slice.sliceFields
  refine wpAny_bind (wpAny_bind (wpAny_field g1 g3 (x := va) rfl (wpAny_bind (wpAny_field g1 g3 (x := vb) rfl (wpAny_bind (wpAny_field g1 g3 (x := vc) rfl (wpAny_pure ?_)))))))
  refine wpAny_bind (HT.slicePart_ pc ?_)
  show wpAny _ _ (if ((-1 : Int) == 0) = true then _ else _) _ _ z
  rw [if_neg (by decide)]
  refine wpAny_bind (HT.slicePart_ pa (wpAny_bind (HT.slicePart_ pb (wpAny_bind (wpAny_pure ?_)))))
  show wpAny _ _ (match Builtin.Slice.sliceAdjust none none (-1) (n : Int) with | (x, y) => pure (x, (-1 : Int), Builtin.Slice.slicePlaces x y (-1))) _ _ z
  rw [rv_adjust]
  show wpAny _ _ (pure ((n : Int) - 1, (-1 : Int), Builtin.Slice.slicePlaces ((n : Int) - 1) (-1) (-1))) _ _ z
  rw [rv_places]
  exact wpAny_pure h
theorem rv_item {t b : Addr} {its : Array Value} {va vb vc : Value} {Q : Value → Shared → Prop} (hT : IsTup z.heap t its) (hb : z.heap.IsSliceOf b va vb vc) (pa : IsPart va none) (pb : IsPart vb none) (pc : IsPart vc (some (-1)))
    (hz : its.size ≤ sizeLine) (h : Q (.ref z.heap.objs.size) { z with heap := z.heap.push { cls := .type "tuple", data := .seq its.toList.reverse.toArray } }) : wpAny (model prog w) A (getItem (.ref t) (.ref b)) Q E z := by
  have ok : sizeOk (.seq its.toList.reverse.toArray) := by
    show its.toList.reverse.toArray.size ≤ sizeLine
    rw [List.size_toArray, List.length_reverse, Array.length_toList]
    exact hz
  obtain ⟨ob, g1, g2, g3⟩ := id hb
  have hB : z.TypeIs (.ref b) "slice" := ⟨ob, g1, g2⟩
  unfold getItem
  try with_reducible refine wpAny_holding ?_
  first | refine wpAny_bind (wpAny_pure ?_) | skip
  refine wpAny_bind (wpAny_sequenceKey hT.typeIs (by decide) ?_)
  refine wpAny_bind (wpAny_callSpecial?_slot (name := Str.ofString "__getitem__") hT.typeIs PyProof.Rows.slot_tuple_getitem (wpAny_call_entry PyProof.Rows.slot_tuple_getitem hT.typeIs entry_tuple_getitem ?_ (args_tuple_getitem _ _)))
  show wpAny _ _ (Builtin.Tuple.tupleItemsOf (.ref t) >>= _) _ _ z
  refine wpAny_bind (tupleItemsOf_ hT ?_)
  refine wpAny_bind (wpAny_typeOf hB ?_)
  rw [if_pos (by decide)]
  refine wpAny_bind (rv_applied hb pa pb pc ?_)
  show wpAny _ _ (if (((its.size : Int) - 1) == 0 && (-1 : Int) == 1 && its.size == its.size) = true then _ else _) _ _ z
  have no : ¬ ((((its.size : Int) - 1) == 0 && (-1 : Int) == 1 && its.size == its.size) = true) := by simp
  rw [if_neg no, rv_pick]
  first
    | exact wpAny_bind (m := Builtin.Tuple.tupleExact _) (wpAny_newObj_type (wpAny_pure ⟨_, rfl, wpAny_pure h⟩) ok)
    | exact wpAny_bind (m := Builtin.Tuple.tupleExact _) (wpAny_newObj_type (wpAny_bind (wpAny_pure (wpAny_pure ⟨_, rfl, wpAny_pure h⟩))) ok)
    | exact wpAny_bind (wpAny_bind (m := Builtin.Tuple.tupleExact _) (wpAny_newObj_type (wpAny_pure (wpAny_pure ⟨_, rfl, wpAny_pure h⟩)) ok))
    | exact wpAny_bind (wpAny_bind (m := Builtin.Tuple.tupleExact _) (wpAny_newObj_type (wpAny_pure ⟨_, rfl, wpAny_pure h⟩) ok))
end
/-- e[::-1], e a tuple -/
def tRevT (K : PySem.W.Frag) (te : TE) : TE := fun σ H Q => te σ H fun x H1 => ∃ a xs, x = .ref a ∧ SqT K H1 a xs ∧ ∀ p, H1 p = none → Q (.ref p) (upd H1 p (.tup xs.reverse))
theorem pe_revT {X : Cx} {e : Expr} {te : TE} {j : Nat} {p1 p2 p3 pos : Pos} (he : PE X e te) : PE X (.Subscript e (.Slice none none (some (.UnaryOp .USub (.Constant (.int 1) j p1) p2)) p3) pos) (tRevT X.K te) := by
  refine ⟨fun pn z τ H Q J h => ?_⟩
  refine Subscript_ (thn (he.run pn z τ H _ J h) fun v z1 ⟨x, H1, J1, r1, a, xs, ex, hx, q⟩ => ?_)
  subst ex
  cases r1
  have st : PO X (some (.UnaryOp .USub (.Constant (.int 1) j p1) p2)) (tPart (tUn (rU fun i => .int (-i)) (tC (.int 1)))) := po_some (pe_un un_neg pe_int)
  refine wpAny_Slice (thn (po_none.run pn z1 τ H1 (fun o G => o = none ∧ G = H1) J1 ⟨rfl, rfl⟩) fun va z2 ⟨l, H2, J2, pa, el, e2⟩ => ?_)
  subst el e2
  refine thn (po_none.run pn z2 τ H2 (fun o G => o = none ∧ G = H2) J2 ⟨rfl, rfl⟩) fun vb z3 ⟨u, H3, J3, pb, eu, e3⟩ => ?_
  subst eu e3
  refine thn (st.run pn z3 τ H3 (fun o G => o = some (-1) ∧ G = H3) J3 ⟨1, rfl, -1, rfl, rfl, rfl⟩) fun vc z4 ⟨o, H4, J4, pc, eo, e4⟩ => ?_
  subst eo e4
  have J5 : Inv X pn τ H4 { z4 with heap := z4.heap.push { cls := .type "slice", data := .fields #[va, vb, vc] } } := J4.kept (t' := z4.toks) fun b ob q => Heap.get?_push_of_some _ q
  obtain ⟨its, r, ht, hz⟩ := J5.tuple hx
  have hlen := r.length
  show wpAny (model X.prog X.w) X.A (subscriptTail e (.Slice none none (some (.UnaryOp .USub (.Constant (.int 1) j p1) p2)) p3) (.ref a) (.ref z4.heap.objs.size)) (EP X pn τ Q) X.xe { z4 with heap := z4.heap.push { cls := .type "slice", data := .fields #[va, vb, vc] } }
  refine tail_any (ops := [.ref a, .ref z4.heap.objs.size]) ht.typeIs (PyProof.Rows.slot_tuple_getitem.lookup) ?_ (by with_unfolding_all rfl)
  refine rv_item ht (Heap.IsSliceOf.new _ va vb vc) pa pb pc (by rw [List.size_toArray]; omega) ?_
  refine ⟨.ref _, _, J5.laid (t' := z4.toks) (o := .tup xs.reverse) (fun b ob q => Heap.get?_push_of_some _ q) (Nat.le_refl _) ?_, rfl, q _ (J5.hok.fresh (Nat.le_refl _))⟩
  refine ⟨by rw [List.length_reverse]; omega, _, r.reverse, ?_⟩
  exact ⟨_, Heap.get?_push_size _ rfl, rfl, 0, rfl⟩
end Kin
end
section
set_option linter.all false
set_option maxRecDepth 100000
/-! Kin 9: built-in types, isinstance. -/
namespace Kin
open PySem PySem.Spec PyProof.Rows L2

section
variable {G : Gl} {W : WX} {σ : St} {ρ : List Addr} {H : Hp} {A : AH} {Q : VK} {X : Cx} {K : PySem.W.Frag}
theorem ty_ok (hc : X.calm = true) {x : Str} {b : Blt} (h : btyOf x = some b) : ∃ T r, bootBuiltins x = some (.type T) ∧ CallR X (.type T) r ∧ PrB X.w b r := by
  unfold btyOf at h
  split at h
  · rename_i e; subst e; cases h
    refine ⟨_, _, by decide +kernel, call_list_of.or (call_list_dK hc), fun {G W σ ρ A H Q ds vs} hw s r o => ?_⟩
    obtain ⟨d, A', e, o2⟩ := out_of o
    clear o
    match ds, e with
    | [z], e =>
      simp only [callB] at e
      obtain ⟨v, rfl, rv⟩ := rvs1 r
      split at e
      · rename_i kvs ek
        cases e
        obtain ⟨_, a, ws, rfl, _, _, rfl, ha, rk⟩ := dctOf_at s rv ek
        exact .inr ⟨a, ws, rfl, ha, out_lst o2 s (kDs_at rk)⟩
      · cases q : seqOf z A with
        | none => rw [q] at e; cases e
        | some es =>
          rw [q] at e
          simp only [Option.map_some, Option.some.injEq] at e
          obtain ⟨a, ws, rfl, ra, hs⟩ := seqOf_at (K := X.K) s rv q
          have o' : OutR G RV W σ ρ H Q (Res.of (some (new A (.lst es)))) := by rw [e]; exact o2
          exact .inl ⟨a, ws, rfl, hs, out_lst o' s ra⟩
    | [], e => simp [callB] at e
    | a :: b :: t, e => simp [callB] at e
  split at h
  · rename_i e; subst e; cases h
    refine ⟨_, _, by decide +kernel, call_tuple_of, fun {G W σ ρ A H Q ds vs} hw s r o => ?_⟩
    obtain ⟨d, A', e, o⟩ := out_of o
    match ds, e with
    | [.tup z], e =>
      simp only [callB, seqOf, Option.map_some, Option.some.injEq, Prod.mk.injEq] at e
      obtain ⟨e1, e2⟩ := e
      subst e1 e2
      obtain ⟨v, rfl, rv⟩ := rvs1 r
      obtain ⟨a, ws, rfl, ha, ra⟩ := rv_tup rv
      exact ⟨a, ws, rfl, .inr ⟨.of ha, OutR.ok o s rv⟩⟩
    | [.ref n], e =>
      simp only [callB] at e
      obtain ⟨v, rfl, rv⟩ := rvs1 r
      cases q : seqOf (.ref n) A with
      | none => rw [q] at e; cases e
      | some es =>
        rw [q] at e
        simp only [Option.map_some, Option.some.injEq, Prod.mk.injEq] at e
        obtain ⟨e1, e2⟩ := e
        subst e1 e2
        simp only [seqOf] at q
        split at q
        · rename_i ds en
          cases q
          obtain ⟨a, _, rfl, ws, ha, ra⟩ := rv_ref s rv en
          exact ⟨a, ws, rfl, .inl ⟨.of ha, out_tup o s ra⟩⟩
        · rename_i ds en
          cases q
          obtain ⟨a, _, rfl, ob, ws, ha, ra⟩ := rv_ref s rv en
          exact ⟨a, ws, rfl, .inl ⟨.inl (.inr ⟨ob, ha⟩), out_tup o s ra⟩⟩
        · cases q
    | [], e => simp [callB] at e
    | [.non], e => simp [callB, seqOf] at e
    | [.bl _], e => simp [callB, seqOf] at e
    | [.int _], e => simp [callB, seqOf] at e
    | [.str _], e => simp [callB, seqOf] at e
    | a :: b :: t, e => simp [callB] at e
  split at h
  · rename_i e; subst e; cases h
    refine ⟨_, _, by decide +kernel, call_int1.or call_int_str, fun {G W σ ρ A H Q ds vs} hw s r o => ?_⟩
    obtain ⟨d, A', e, o⟩ := out_of o
    match ds, r, e with
    | [.int i], r, e =>
      simp only [callB, Option.some.injEq, Prod.mk.injEq] at e
      obtain ⟨rfl, rfl⟩ := e
      obtain ⟨v, rfl, rv⟩ := rvs1 r
      exact .inl (.inl ⟨_, by rw [rv_int rv], out_int o s⟩)
    | [.bl i], r, e =>
      simp only [callB, Option.some.injEq, Prod.mk.injEq] at e
      obtain ⟨rfl, rfl⟩ := e
      obtain ⟨v, rfl, rv⟩ := rvs1 r
      exact .inl (.inr ⟨_, by rw [rv_bl rv], out_int o s⟩)
    | [.str x], r, e =>
      simp only [callB] at e
      cases hn : intText? x with
      | none => rw [hn] at e; cases e
      | some n =>
        rw [hn] at e
        simp only [Option.bind_some] at e
        split at e
        · rename_i hl
          cases e
          obtain ⟨v, rfl, rv⟩ := rvs1 r
          exact .inr ⟨x, n, by rw [rv_str rv], hn, hl, out_int o s⟩
        · cases e
    | [], r, e => simp [callB] at e
    | [.non], r, e => simp [callB] at e
    | [.tup _], r, e => simp [callB] at e
    | [.ref _], r, e => simp [callB] at e
    | a :: b :: t, r, e => simp [callB] at e
  split at h
  · rename_i e; subst e; cases h
    refine ⟨_, _, by decide +kernel, call_bool1, fun {G W σ ρ A H Q ds vs} hw s r o => ?_⟩
    obtain ⟨d, A', e, o⟩ := out_of o
    unfold callB at e
    split at e <;> simp only [reduceCtorEq] at * <;> cases e
    · obtain ⟨v, rfl, rv⟩ := rvs1 r
      exact .inr ⟨_, by rw [rv_bl rv], out_bl o s⟩
    · obtain ⟨v, rfl, rv⟩ := rvs1 r
      exact .inl ⟨_, by rw [rv_int rv], out_bl o s⟩
  split at h
  · rename_i e; subst e; cases h
    refine ⟨_, _, by decide +kernel, cr_setI hc, fun {G W σ ρ A H Q ds vs} hw s r o => ?_⟩
    obtain ⟨d, A', e, o⟩ := out_of o
    match ds, e with
    | [z], e =>
      simp only [callB] at e
      obtain ⟨v, rfl, rv⟩ := rvs1 r
      cases q : seqOf z A with
      | none => rw [q] at e; cases e
      | some es =>
        rw [q] at e
        cases qi : intsD es with
        | none => simp [qi] at e
        | some is =>
          simp only [Option.bind_some, qi] at e
          split at e
          · rename_i hl
            cases e
            obtain ⟨a, ws, rfl, ra, hs⟩ := seqOf_at (K := X.K) s rv q
            rw [rvs_ints ra qi] at hs
            refine ⟨a, is, rfl, hs, by unfold scanBound; omega, fun p hp => ?_⟩
            rw [← hw]
            exact o _ _ _ ((Ext.lay hp).reg hp) (s.new_ hp ⟨upd_same, uniq_asc is⟩) (ref_new s)
          · cases e
    | [], e => simp [callB] at e
    | a :: b :: t, e => simp [callB] at e
  split at h
  · rename_i e; subst e; cases h
    refine ⟨_, _, by decide +kernel, call_str_int.or SkE.call_str_str, fun {G W σ ρ A H Q ds vs} hw s r o => ?_⟩
    obtain ⟨d, A', e, o⟩ := out_of o
    match ds, r, e with
    | [.int i], r, e =>
      simp only [callB] at e
      split at e
      · rename_i hl
        cases e
        obtain ⟨v, rfl, rv⟩ := rvs1 r
        exact .inl ⟨i, by rw [rv_int rv], hl, out_str o s⟩
      · cases e
    | [.str x], r, e =>
      simp only [callB, Option.some.injEq, Prod.mk.injEq] at e
      obtain ⟨rfl, rfl⟩ := e
      obtain ⟨v, rfl, rv⟩ := rvs1 r
      exact .inr ⟨x, by rw [rv_str rv], out_str o s⟩
    | [], r, e => simp [callB] at e
    | [.non], r, e => simp [callB] at e
    | [.bl _], r, e => simp [callB] at e
    | [.tup _], r, e => simp [callB] at e
    | [.ref _], r, e => simp [callB] at e
    | a :: b :: t, r, e => simp [callB] at e
  cases h
/-! ### isinstance -/
def tyS : Ty → String
  | .int => "int" | .bool => "bool" | .str => "str" | .tuple => "tuple" | .list => "list" | .dict => "dict"
theorem boot_ty (T : Ty) : ∃ x : Str, x = Str.ofString (tyS T) ∧ bootBuiltins x = some (.type (tyS T)) := ⟨_, rfl, by cases T <;> decide +kernel⟩
theorem kit_non (T : Ty) : PySem.W.kitOne K (.type "NoneType") (.type (tyS T)) = some (([] : List Ty).contains T) := by cases T <;> exact kit_ty (by kernel_rfl)
theorem kit_bl (T : Ty) : PySem.W.kitOne K (.type "bool") (.type (tyS T)) = some (([.bool, .int] : List Ty).contains T) := by cases T <;> exact kit_ty (by kernel_rfl)
theorem kit_int (T : Ty) : PySem.W.kitOne K (.type "int") (.type (tyS T)) = some (([.int] : List Ty).contains T) := by cases T <;> exact kit_ty (by kernel_rfl)
theorem kit_str (T : Ty) : PySem.W.kitOne K (.type "str") (.type (tyS T)) = some (([.str] : List Ty).contains T) := by cases T <;> exact kit_ty (by kernel_rfl)
theorem kit_tup (T : Ty) : PySem.W.kitOne K (.type "tuple") (.type (tyS T)) = some (([.tuple] : List Ty).contains T) := by cases T <;> exact kit_ty (by kernel_rfl)
theorem kit_lst (T : Ty) : PySem.W.kitOne K (.type "list") (.type (tyS T)) = some (([.list] : List Ty).contains T) := by cases T <;> exact kit_ty (by kernel_rfl)
theorem kit_dct (T : Ty) : PySem.W.kitOne K (.type "dict") (.type (tyS T)) = some (([.dict] : List Ty).contains T) := by cases T <;> exact kit_ty (by kernel_rfl)
/-- what is known of a class -/
structure ClsF (K : PySem.W.Frag) (C : Addr) : Prop where
  cl : Cls K C
  ha : PySem.W.findIn K (.ref C) "__class__" = some (some (.builtin "object.__class__"))
  hn : PySem.W.specialIn K (.builtin "object.__class__") "__get__" = some (some (.builtin "getset_descriptor.__get__"))
  htk : PySem.W.takesIn K (.builtin "object.__class__") = some true
  hm : PySem.W.mroIn K C (.type "object") = some true
  kit : ∀ T : Ty, PySem.W.kitOne K (.ref C) (.type (tyS T)) = some false
/-- isinstance by own classes: of an instance of the first; of what is built in -/
structure IscF (K : PySem.W.Frag) (C C' : Addr) (b : Bool) : Prop where
  own : PySem.W.kitOne K (.ref C) (.ref C') = some b
  base : ∀ n ∈ ["NoneType", "bool", "int", "str", "tuple", "list", "dict"], PySem.W.kitOne K (.type n) (.ref C') = some false
theorem isc_at {x : D} {v : V} {c : Nat} (cf : ∀ c, c < G.n → ClsF K (G.ca c)) (icf : ∀ c c', c < G.n → c' < G.n → IscF K (G.ca c) (G.ca c') (decide (c = c'))) (hc : c < G.n) (s : Sim G ρ A H) (r : RV ρ H x v) (nb : setOf x A = none) :
    ∃ t b, TyX K H v t ∧ PySem.W.kitOne K t (.ref (G.ca c)) = some b ∧ b = (match insOf x A with | some p => decide (p.1 = c) | none => false) ∧ (b = true → t = .ref (G.ca c)) := by
  have B := (icf c c hc hc).base
  cases x with
  | non => cases rv_non r; exact ⟨_, _, .base .non, B _ (by simp), rfl, fun z => Bool.noConfusion z⟩
  | bl b => cases rv_bl r; exact ⟨_, _, .base (.bl b), B _ (by simp), rfl, fun z => Bool.noConfusion z⟩
  | int b => cases rv_int r; exact ⟨_, _, .base (.int b), B _ (by simp), rfl, fun z => Bool.noConfusion z⟩
  | str b => cases rv_str r; exact ⟨_, _, .base (.str b), B _ (by simp), rfl, fun z => Bool.noConfusion z⟩
  | tup ds =>
    obtain ⟨a, ws, rfl, ha, ra⟩ := rv_tup r
    exact ⟨_, _, .base (.tup ha), B _ (by simp), rfl, fun z => Bool.noConfusion z⟩
  | ref n =>
    simp only [RV] at r
    obtain ⟨a, hn, rfl⟩ := r
    have hl : n < A.length := s.len ▸ (List.getElem?_eq_some_iff.mp hn).1
    have e : A[n]? = some A[n] := List.getElem?_eq_getElem hl
    have ro := s.at_ n a _ hn e
    simp only [insOf, e]
    generalize eo : A[n] = o at ro
    cases o with
    | lst ds => obtain ⟨vs, ha, _⟩ := ro; exact ⟨_, _, .base (.lst ha), B _ (by simp), rfl, fun z => Bool.noConfusion z⟩
    | frz ds => obtain ⟨o, vs, ha, _⟩ := ro; exact ⟨_, _, .base (.frz ha), B _ (by simp), rfl, fun z => Bool.noConfusion z⟩
    | dct ds => obtain ⟨vs, ha, _⟩ := ro; exact ⟨_, _, .base (.dK ha), B _ (by simp), rfl, fun z => Bool.noConfusion z⟩
    | ins c' fs =>
      obtain ⟨dx, ws, ha, _, hc'⟩ := ro
      have F := cf c' hc'
      exact ⟨_, _, .base (.ins ha F.cl F.ha F.hn F.htk F.hm), (icf c' c hc' hc).own, rfl, fun z => by rw [of_decide_eq_true z]⟩
    | iset is => simp [setOf, e, eo] at nb
theorem ty_all {x : D} {v : V} (cf : ∀ c, c < G.n → ClsF K (G.ca c)) (s : Sim G ρ A H) (r : RV ρ H x v) (nb : setOf x A = none) : ∃ t, TyX K H v t ∧ ∀ T : Ty, PySem.W.kitOne K t (.type (tyS T)) = some ((tyD x A).contains T) := by
  cases x with
  | non => cases rv_non r; exact ⟨_, .base .non, kit_non⟩
  | bl b => cases rv_bl r; exact ⟨_, .base (.bl b), kit_bl⟩
  | int b => cases rv_int r; exact ⟨_, .base (.int b), kit_int⟩
  | str b => cases rv_str r; exact ⟨_, .base (.str b), kit_str⟩
  | tup ds =>
    obtain ⟨a, ws, rfl, ha, ra⟩ := rv_tup r
    exact ⟨_, .base (.tup ha), kit_tup⟩
  | ref n =>
    simp only [RV] at r
    obtain ⟨a, hn, rfl⟩ := r
    have hl : n < A.length := s.len ▸ (List.getElem?_eq_some_iff.mp hn).1
    have e : A[n]? = some A[n] := List.getElem?_eq_getElem hl
    have ro := s.at_ n a _ hn e
    simp only [tyD, e]
    generalize eo : A[n] = o at ro
    cases o with
    | lst ds => obtain ⟨vs, ha, _⟩ := ro; exact ⟨_, .base (.lst ha), kit_lst⟩
    | frz ds => obtain ⟨o, vs, ha, _⟩ := ro; exact ⟨_, .base (.frz ha), kit_lst⟩
    | dct ds => obtain ⟨vs, ha, _⟩ := ro; exact ⟨_, .base (.dK ha), kit_dct⟩
    | ins c fs =>
      obtain ⟨dx, ws, ha, _, hc⟩ := ro
      have F := cf c hc
      exact ⟨_, .base (.ins ha F.cl F.ha F.hn F.htk F.hm), F.kit⟩
    | iset is => simp [setOf, e, eo] at nb
theorem ty_at {x : D} {v : V} (cf : ∀ c, c < G.n → ClsF K (G.ca c)) (s : Sim G ρ A H) (r : RV ρ H x v) (T : Ty) (nb : setOf x A = none) : ∃ t, TyX K H v t ∧ PySem.W.kitOne K t (.type (tyS T)) = some ((tyD x A).contains T) := by
  obtain ⟨t, h1, h2⟩ := ty_all (K := K) cf s r nb
  exact ⟨t, h1, h2 T⟩
theorem kit_any {t : Value} {g : Ty → Bool} (h : ∀ T : Ty, PySem.W.kitOne K t (.type (tyS T)) = some (g T)) : ∀ Ts : List Ty, PySem.W.kitAny K t (Ts.map fun T => .type (tyS T)) = some (Ts.any g)
  | [] => rfl
  | T :: Ts => by
    rw [List.map_cons, List.any_cons]
    unfold PySem.W.kitAny
    rw [h T]
    cases g T with
    | true => rfl
    | false => simpa using kit_any h Ts
end
end Kin
end
section
set_option linter.all false
set_option maxRecDepth 100000
/-! Kin 10: contexts; two in a row; lists of expressions. -/
namespace Kin
open PySem PySem.Spec PyProof.Rows L2

/-- a call, by the evaluator -/
def spOf (G : Gl) (F : Fns) (i : Nat) : Sp := fun vs H Q E => ∃ ρ A ds, Sim G ρ A H ∧ RVs ρ H ds vs ∧ OutR G RV (fun cls d _ H => E cls d H) [] ρ H Q (F.call i ds A)
/-- a def that may be called -/
def Cal (G : Gl) (F : Fns) (k : Nat) (X : Cx) (f : Addr) (i : Nat) : Prop := ∃ fd ps, PySem.W.keepIn X.K (.ref f) = true ∧ Binds X.K fd ps [] ∧ FnG X.prog X.w X.K X.mg X.base (L2.CX X.prog X.w) k f fd ps (spOf G F i)
/-- an own class -/
structure ClsT (P : CProg) (G : Gl) (F : Fns) (k : Nat) (X : Cx) (c : Nat) (cl : CCls) : Prop where
  meth : ∀ m i, cl.meths.lookup m = some i → ∃ f, Meth X.K (G.ca c) m f ∧ Cal G F k X f i
  noat : ∀ f, cl.flds.contains f = true → NoAttr X.K (G.ca c) f
/-- what stands around -/
structure Top (P : CProg) (G : Gl) (F : Fns) (C : Ctx) (k : Nat) (X : Cx) : Prop where
  cls : ∀ c, c < G.n → ClsF X.K (G.ca c)
  clsT : ∀ c cl, P.cls[c]? = some cl → c < G.n ∧ ClsT P G F k X c cl
  isc : ∀ c c', c < G.n → c' < G.n → IscF X.K (G.ca c) (G.ca c') (decide (c = c'))
  clsN : ∀ x c, C.clss.lookup x = some c → X.mg x = some (.ref (G.ca c)) ∧ c < G.n ∧ ∃ i f, initN P c = some i ∧ Mk X.K (G.ca c) f ∧ Cal G F k X f i
  w : G.w = X.w
  calm : X.calm = true
  room1 : Room (k + 1) X.A
  bare : Bare X.A
  cons : ∀ x d, C.cons.lookup x = some d → ∃ v u, X.mg x = some u ∧ RelV v u ∧ ∀ ρ H, RV ρ H d v
  blt : ∀ x, C.blts.contains x = true → X.mg x = none
  fun_ : ∀ x i, C.funs.lookup x = some i → ∃ f fd ps, X.mg x = some (.ref f) ∧ PySem.W.keepIn X.K (.ref f) = true ∧ Binds X.K fd ps [] ∧ FnG X.prog X.w X.K X.mg X.base (L2.CX X.prog X.w) k f fd ps (spOf G F i)
structure ScOk (C : Ctx) (X : Cx) : Prop where
  nd : X.N.Nodup
  kind : X.env.scope.kind = .function
  vis : ∀ x i, C.slot x = some i → Vis X.env.scope x ∧ X.N[i]? = some x ∧ okName x = true
  tgt : ∀ x i, C.tslot x = some i → L2.Loc X.env.scope x ∧ X.N[i]? = some x ∧ (X.fn x = true ∨ X.env.scope.names.lookup x = some .local)
  sc : X.env.scope = C.sc
  n : X.N = C.N
theorem okName_ok {x : Str} (h : okName x = true) : (x == ("__debug__" : Str)) = false ∧ (x == ("__classdict__" : Str)) = false ∧ x ≠ "__name__" := by
  unfold okName at h
  rw [Bool.and_eq_true, Bool.and_eq_true] at h
  obtain ⟨⟨a, b⟩, c⟩ := h
  refine ⟨by simpa using a, by simpa using b, fun e => ?_⟩
  rw [decide_eq_true e] at c
  exact absurd c (by decide)
theorem ScOk.glob {C : Ctx} {X : Cx} (s : ScOk C X) {x : Str} (h : C.glob x = true) : L2.Gl X x ∧ okName x = true := by
  unfold Ctx.glob at h
  rw [Bool.and_eq_true] at h
  obtain ⟨a, b⟩ := h
  refine ⟨?_, b⟩
  unfold L2.Gl Env.kindOf
  rw [s.sc]
  split at a
  · assumption
  · cases a
theorem ScOk.bltn {C : Ctx} {X : Cx} (s : ScOk C X) {x : Str} (h : C.bltn x = true) : L2.Gl X x ∧ okName x = true ∧ C.blts.contains x = true := by
  unfold Ctx.bltn at h
  rw [Bool.and_eq_true] at h
  exact ⟨(s.glob h.1).1, (s.glob h.1).2, h.2⟩
theorem Top.room {P : CProg} {G : Gl} {F : Fns} {C : Ctx} {k : Nat} {X : Cx} (t : Top P G F C k X) : Room k X.A := t.room1.mono (Nat.le_succ k)
theorem Top.units {P : CProg} {G : Gl} {F : Fns} {C : Ctx} {k : Nat} {X : Cx} (t : Top P G F C k X) : X.A.units + 64 < cLine := by
  have := t.room.un
  omega
theorem Top.units80 {P : CProg} {G : Gl} {F : Fns} {C : Ctx} {k : Nat} {X : Cx} (t : Top P G F C k X) : X.A.units + 80 < cLine := by
  have := t.room.un
  omega
section
variable {α β γ δ : Type} {G : Gl} {R : Rel α β} {R' : Rel γ δ} {W : WX} {σ : St} {H : Hp} {Q' : δ → Hp → Prop}
theorem tR_seq {m : Loc → AH → Res α} {k : Loc → α → AH → Res γ} (h : tR G R' W (fun L A => (m L A).bind fun x A => k L x A) σ H Q') :
    tR G R W m σ H fun v H1 => ∃ ρ1 A1 L x, Sim G ρ1 A1 H1 ∧ RL ρ1 H1 L σ ∧ R ρ1 H1 x v ∧ OutR G R' W σ ρ1 H1 Q' (k L x A1) := by
  obtain ⟨ρ, A, L, s, l, o⟩ := h
  exact ⟨ρ, A, L, s, l, o.bind.imp fun v H1 ⟨ρ1, A1, x, x1, s1, r1, o1⟩ => ⟨ρ1, A1, L, x, s1, l.mono x1, r1, o1⟩⟩
theorem tR.imp {m : Loc → AH → Res γ} {P : δ → Hp → Prop} (h : tR G R' W m σ H Q') (k : ∀ v H', Q' v H' → P v H') : tR G R' W m σ H P := by
  obtain ⟨ρ, A, L, s, l, o⟩ := h
  exact ⟨ρ, A, L, s, l, o.imp k⟩
end
section
variable {γ δ : Type} {G : Gl} {R' : Rel γ δ} {W : WX} {σ : St} {H : Hp} {Q' : δ → Hp → Prop}
theorem tR_two {ma mb : Loc → AH → Res D} {k : Loc → D → D → AH → Res γ} (h : tR G R' W (fun L A => (ma L A).bind fun x A => (mb L A).bind fun y A => k L x y A) σ H Q') :
    tR G RV W ma σ H fun v H1 => tR G RV W mb σ H1 fun u H2 => ∃ ρ A L x y, Sim G ρ A H2 ∧ RL ρ H2 L σ ∧ RV ρ H2 x v ∧ RV ρ H2 y u ∧ OutR G R' W σ ρ H2 Q' (k L x y A) :=
  (tR_seq (R := RV) (k := fun L x A => (mb L A).bind fun y A => k L x y A) h).imp fun v H1 ⟨ρ1, A1, L, x, s1, l1, r1, o1⟩ =>
    ⟨ρ1, A1, L, s1, l1, (OutR.bind (R := RV) o1).imp fun u H2 ⟨ρ2, A2, y, x2, s2, r2, o2⟩ => ⟨ρ2, A2, L, x, y, s2, l1.mono x2, RV.mono x2 _ _ r1, r2, o2⟩⟩
end
section
variable {G : Gl} {W : WX} {X : Cx} {P : CProg} {F : Fns} {σ : St} {H : Hp}
abbrev RE (G : Gl) (P : CProg) (F : Fns) (X : Cx) (W : WX) (e : Expr) (c : CE) : Prop := PE X e (tR G RV W (evE P F c))
def REq (α : Type) : Rel α α := fun _ _ a b => a = b
abbrev RT (G : Gl) (P : CProg) (F : Fns) (X : Cx) (W : WX) (e : Expr) (c : CE) : Prop := PT X e (tR G (REq Bool) W (evT P F c))
theorem re_bad {e : Expr} : RE G P F X W e .bad := ⟨fun pins s σ H Q I h => by
  obtain ⟨ρ, A, L, _, _, o⟩ := h
  simp only [evE, OutR] at o⟩
theorem rt_bad {e : Expr} : RT G P F X W e .bad := ⟨fun pins s σ H Q I h => by
  obtain ⟨ρ, A, L, _, _, o⟩ := h
  simp only [evT, evE, Res.bind, OutR] at o⟩
theorem starEach_cons {e : Expr} {es : List Expr} {env : Env} (h : isStar e = false) : starEach (e :: es) env = (false, eval e env) :: starEach es env := by
  cases e <;> first | rfl | (exact (Bool.false_ne_true h.symm).elim)
theorem starEach_plain : ∀ {es : List Expr} {env : Env} {pos : Pos}, es.any isStar = false → (backTo pos (starEach es env)).any (·.1) = false
  | [], _, _, _ => rfl
  | e :: es, env, pos, h => by
    rw [List.any_cons, Bool.or_eq_false_iff] at h
    rw [starEach_cons h.1]
    show (false || (backTo pos (starEach es env)).any (·.1)) = false
    rw [Bool.false_or]
    exact starEach_plain h.2
theorem pa_list {f : Expr → CE} (hf : ∀ e, RE G P F X W e (f e)) : ∀ (es : List Expr), es.any isStar = false → PA X es (tR G RVs W (evEs P F (es.map f)))
  | [], _ => pa_nil.imp fun σ H Q ⟨ρ, A, L, s, l, o⟩ => OutR.ok (R := RVs) (by simpa only [List.map_nil, evEs] using o) s (by simp only [RVs])
  | e :: es, h => by
    rw [List.any_cons, Bool.or_eq_false_iff] at h
    refine (pa_cons (hf e) (pa_list hf es h.2) (starEach_cons h.1)).imp fun σ H Q q => ?_
    have q' : tR G RVs W (fun L A => (evE P F (f e) L A).bind fun d A => (evEs P F (es.map f) L A).bind fun ds A => .ok (d :: ds) A) σ H Q := by
      obtain ⟨ρ, A, L, s, l, o⟩ := q
      refine ⟨ρ, A, L, s, l, ?_⟩
      simpa only [List.map_cons, evEs] using o
    refine (tR_seq (R := RV) q').imp fun v H1 ⟨ρ1, A1, L, x, s1, l1, r1, o1⟩ => ⟨ρ1, A1, L, s1, l1, (OutR.bind (R := RVs) o1).imp fun us H2 ⟨ρ2, A2, ys, x2, s2, r2, o2⟩ => ?_⟩
    refine OutR.ok (R := RVs) o2 s2 ?_
    simp only [RVs]
    exact ⟨v, us, rfl, RV.mono x2 _ _ r1, r2⟩
theorem starEach_star {e : Expr} {es : List Expr} {env : Env} {p : Pos} : starEach (.Starred e p :: es) env = (true, eval e env) :: starEach es env := rfl
theorem pa_stars {f : CEF} {C : Ctx} (hf : ∀ e, RE G P F X W e (f C e)) : ∀ (es : List Expr), PA X es (tR G RVs W (evStar P F (es.map (starF f C))))
  | [] => pa_nil.imp fun σ H Q ⟨ρ, A, L, s, l, o⟩ => OutR.ok (R := RVs) (by simpa only [List.map_nil, evStar] using o) s (by simp only [RVs])
  | e :: es => by
    by_cases hs : isStar e = true
    · cases e <;> first | (exact (Bool.false_ne_true hs).elim) | skip
      rename_i e p
      refine (StX.pa_star (hf e) (pa_stars hf es)).imp fun σ H Q q => ?_
      have q' : tR G RVs W (fun L A => (evE P F (f C e) L A).bind fun d A => (Res.of1 A (seqOf d A)).bind fun xs A => (evStar P F (es.map (starF f C)) L A).bind fun ds A => .ok (xs ++ ds) A) σ H Q := by
        obtain ⟨ρ, A, L, s, l, o⟩ := q
        refine ⟨ρ, A, L, s, l, ?_⟩
        simpa only [List.map_cons, starF, evStar, if_true] using o
      refine (tR_seq (R := RV) q').imp fun v H1 ⟨ρ1, A1, L, x, s1, l1, r1, o1⟩ => ?_
      cases e2 : seqOf x A1 with
      | none => rw [e2] at o1; exact (show False from o1).elim
      | some xs =>
        rw [e2] at o1
        obtain ⟨a, vs, rfl, ra, hq⟩ := seqOf_at (K := X.K) s1 r1 e2
        have o1 : OutR G RVs W σ ρ1 H1 Q ((evStar P F (es.map (starF f C)) L A1).bind fun ds A => .ok (xs ++ ds) A) := o1
        exact ⟨a, vs, rfl, hq.symm, ρ1, A1, L, s1, l1, (OutR.bind (R := RVs) o1).imp fun us H2 ⟨ρ2, A2, ys, x2, s2, r2, o2⟩ => OutR.ok (R := RVs) o2 s2 ((RVs.mono x2 _ _ ra).append r2)⟩
    · have hs : isStar e = false := by simpa using hs
      refine (pa_cons (hf e) (pa_stars hf es) (starEach_cons hs)).imp fun σ H Q q => ?_
      have hF : starF f C e = (false, f C e) := by cases e <;> first | rfl | (exact (Bool.false_ne_true hs.symm).elim)
      have q' : tR G RVs W (fun L A => (evE P F (f C e) L A).bind fun d A => (evStar P F (es.map (starF f C)) L A).bind fun ds A => .ok (d :: ds) A) σ H Q := by
        obtain ⟨ρ, A, L, s, l, o⟩ := q
        refine ⟨ρ, A, L, s, l, ?_⟩
        simpa only [List.map_cons, hF, evStar, Bool.false_eq_true, if_false] using o
      refine (tR_seq (R := RV) q').imp fun v H1 ⟨ρ1, A1, L, x, s1, l1, r1, o1⟩ => ⟨ρ1, A1, L, s1, l1, (OutR.bind (R := RVs) o1).imp fun us H2 ⟨ρ2, A2, ys, x2, s2, r2, o2⟩ => ?_⟩
      refine OutR.ok (R := RVs) o2 s2 ?_
      simp only [RVs]
      exact ⟨v, us, rfl, RV.mono x2 _ _ r1, r2⟩
theorem pa_listF {f : CEF} {C : Ctx} (hf : ∀ e, RE G P F X W e (f C e)) (es : List Expr) : PA X es (tR G RVs W (evEs P F (listF f C es))) := by
  unfold listF
  split
  · refine ⟨fun p pins s σ H Q I h => ?_⟩
    obtain ⟨ρ, A, L, _, _, o⟩ := h
    simp only [evEs, evE, Res.bind, OutR] at o
  · rename_i h
    exact pa_list hf es (by simpa using h)
end
end Kin
end
section
set_option linter.all false
set_option maxRecDepth 100000
/-! Kin 10b: own classes: their making, what their instances have, their methods, their ==. -/
namespace Kin
open PySem PySem.Spec PyProof.Rows L2
/-! ### instances as they lie -/
section
variable {ρ : List Addr} {H : Hp}
theorem RFs.lookup : ∀ {fs : Flds} {ws : List (Str × V)} (f : Str), RFs ρ H fs ws → (fs.lookup f = none ∧ ws.lookup f = none) ∨ ∃ d v, fs.lookup f = some d ∧ ws.lookup f = some v ∧ RV ρ H d v
  | [], ws, f, r => by
    simp only [RFs] at r
    subst r
    exact .inl ⟨rfl, rfl⟩
  | (g, d) :: fs, ws, f, r => by
    simp only [RFs] at r
    obtain ⟨v, t, rfl, rv, rt⟩ := r
    rw [List.lookup_cons, List.lookup_cons]
    cases e : f == g with
    | true => exact .inr ⟨d, v, rfl, rfl, rv⟩
    | false => exact RFs.lookup f rt
theorem RFs.length : ∀ {fs : Flds} {ws : List (Str × V)}, RFs ρ H fs ws → ws.length = fs.length
  | [], ws, r => by simp only [RFs] at r; subst r; rfl
  | (g, d) :: fs, ws, r => by
    simp only [RFs] at r
    obtain ⟨v, t, rfl, rv, rt⟩ := r
    rw [List.length_cons, List.length_cons, RFs.length rt]
theorem RFs.put {f : Str} {d : D} {v : V} (rv : RV ρ H d v) : ∀ {fs : Flds} {ws : List (Str × V)}, RFs ρ H fs ws → RFs ρ H (putA f d fs) (putF f v ws)
  | [], ws, r => by
    simp only [RFs] at r
    subst r
    simp only [putA, putF, RFs]
    exact ⟨v, [], rfl, rv, rfl⟩
  | (g, x) :: fs, ws, r => by
    simp only [RFs] at r
    obtain ⟨y, t, rfl, ry, rt⟩ := r
    simp only [putA, putF]
    split
    · simp only [RFs]
      exact ⟨v, t, rfl, rv, rt⟩
    · simp only [RFs]
      exact ⟨y, _, rfl, ry, RFs.put rv rt⟩
variable {A : AH}
theorem insOf_at {G : Gl} {d : D} {v : V} {c : Nat} {fs : Flds} (s : Sim G ρ A H) (r : RV ρ H d v) (h : insOf d A = some (c, fs)) : ∃ n a dx ws, d = .ref n ∧ A[n]? = some (.ins c fs) ∧ ρ[n]? = some a ∧ v = .ref a ∧ H a = some (.ins (G.ca c) dx ws) ∧ RFs ρ H fs ws ∧ c < G.n := by
  cases d with
  | ref n =>
    simp only [insOf] at h
    split at h
    · rename_i c' fs' e
      cases h
      obtain ⟨a, hn, rfl, dx, ws, ha, rf, hc⟩ := rv_ref s r e
      exact ⟨n, a, dx, ws, rfl, e, hn, rfl, ha, rf, hc⟩
    · cases h
  | _ => cases h
end
/-! ### == -/
theorem nf_of {K : PySem.W.Frag} {C : Addr} {t : Value} {b : Bool} (h : PySem.W.kitOne K t (.ref C) = some b) (hb : b = true → t = .ref C) : PySem.W.notFirst K C t = true := by
  unfold PySem.W.notFirst
  cases b with
  | true => rw [hb rfl]; simp
  | false =>
    unfold PySem.W.kitOne at h
    split at h
    · cases h
    · have h : (if ((PySem.W.clsIn K C).isSome && PySem.W.typeIn K (.ref C) == some (.type "type")) = true then PySem.W.subIn K t (.ref C) else none) = some false := h
      split at h
      · rw [h]; simp
      · cases h
section
variable {P : CProg} {G : Gl} {F : Fns} {C : Ctx} {k : Nat} {X : Cx}
/-- an instance by its own == -/
def rOwnEq (P : CProg) (G : Gl) (F : Fns) : R2 := fun v u H Q => ∃ ρ A n y c fs i, Sim G ρ A H ∧ RV ρ H (.ref n) v ∧ RV ρ H y u ∧ A[n]? = some (.ins c fs) ∧ methN P c "__eq__" = some i ∧ setOf y A = none ∧
  OutR G RV (fun _ _ _ _ => False) [] ρ H (fun z H' => ∃ b, z = .bl b ∧ Q (.bl b) H') (F.call i [.ref n, y] A)
theorem quietAt {σ : St} : PassesAt (L2.CX X.prog X.w) X σ (fun _ _ _ => False) := fun _ _ _ _ _ _ c => by
  obtain ⟨_, _, _, _, _, _, _, _, _, _, _, _, z⟩ := c
  exact z.elim
theorem meth_of {c : Nat} {m : Str} {i : Nat} (t : Top P G F C k X) (h : methN P c m = some i) : ∃ f, Meth X.K (G.ca c) m f ∧ Cal G F k X f i := by
  unfold methN at h
  split at h
  · rename_i cl e
    exact (t.clsT c cl e).2.meth m i h
  · cases h
theorem op_ownEq (t : Top P G F C k X) : OpR X (compareOp .Eq) (rOwnEq P G F) := by
  intro pins s σ H x y v u Q I rx ry ⟨ρ, A, n, d, c, fs, i, si, r1, r2, e1, hm, nb, o⟩
  obtain ⟨a, hn, rfl, dx, ws, ha, rf, hc⟩ := rv_ref si r1 e1
  cases rx
  obtain ⟨f, M, fd, ps, kp, hb, FG⟩ := meth_of t hm
  obtain ⟨T, bT, ty, kt, _, hT⟩ := isc_at (K := X.K) t.cls t.isc hc si r2 nb
  obtain ⟨Pk, KX, pk, _⟩ := kit_of I ry ty
  have look := KX.ty (model X.prog X.w) s.heap I.kIn pk
  obtain ⟨mA, J, _⟩ := ins_get I.hok ha
  obtain ⟨od, J, _⟩ := J.look
  obtain ⟨m, hF⟩ := I.fr
  have nf := nf_of kt hT
  refine PySem.W.cmp_K (op := .Eq) (tb := T) t.room.units0 hF I.ok.mod.kin J look nf M.at_ M.fn ?_
  have want : spOf G F i [.ref a, y] H (fun z H' => ∃ b, z = .bl b ∧ Q (.bl b) H') (fun _ _ _ => False) := ⟨ρ, A, [.ref n, d], si, by simp only [RVs]; exact ⟨_, _, rfl, r1, _, _, rfl, r2, rfl⟩, o⟩
  refine wpAny_mono (FG.called t.bare t.room hb (E := fun _ _ _ _ => False) (σ := σ) quietAt I (vs := [.ref a, y]) (us := [.ref a, u]) (.cons rfl (.cons ry .nil)) want) (fun r s' hq => ?_) fun _ _ e => e
  obtain ⟨z, H', I', rz, b, ez, q⟩ := hq
  subst ez
  cases (show r = .bool b from rz)
  exact ⟨.bl b, H', I', rfl, q⟩
end
end Kin
end
section
set_option linter.all false
set_option maxRecDepth 100000
/-! Kin 11: a rule for each expression. -/
namespace Kin
open PySem PySem.Spec PyProof.Rows L2
section
variable {G : Gl} {W : WX} {X : Cx} {P : CProg} {F : Fns} {pos : Pos} {C : Ctx} {k : Nat}
theorem re_cst {c : Const} {j : Nat} {d : D} (h : constD c = some d) : RE G P F X W (.Constant c j pos) (.cst d) := by
  cases c <;> simp only [constD, Option.some.injEq, reduceCtorEq] at h <;> subst h
  · exact pe_non.imp fun σ H Q ⟨ρ, A, L, s, l, o⟩ => out_non (by simpa only [evE] using o) s
  · exact pe_bl.imp fun σ H Q ⟨ρ, A, L, s, l, o⟩ => out_bl (by simpa only [evE] using o) s
  · exact pe_int.imp fun σ H Q ⟨ρ, A, L, s, l, o⟩ => out_int (by simpa only [evE] using o) s
  · exact pe_str.imp fun σ H Q ⟨ρ, A, L, s, l, o⟩ => out_str (by simpa only [evE] using o) s
theorem re_slot {i : Nat} {x : Str} (so : ScOk C X) (h : C.slot x = some i) : RE G P F X W (.Name x pos) (.slot i) := by
  obtain ⟨hv, hN, hn⟩ := so.vis x i h
  obtain ⟨d1, d2, _⟩ := okName_ok hn
  exact (pe_var hN hv d1 d2).imp fun σ H Q ⟨ρ, A, L, s, l, o⟩ => by
    simp only [evE] at o
    obtain ⟨d, e, o2⟩ := out_of1 o
    unfold getL at e
    split at e
    · rename_i d' e'
      cases e
      obtain ⟨v, q, r⟩ := l.2 i d e'
      exact ⟨v, q, OutR.ok o2 s r⟩
    · cases e
theorem re_con {x : Str} {d : D} (t : Top P G F C k X) (so : ScOk C X) (hg : C.glob x = true) (h : C.cons.lookup x = some d) : RE G P F X W (.Name x pos) (.cst d) := by
  obtain ⟨g, hn⟩ := so.glob hg
  obtain ⟨v, u, hm, r, rv⟩ := t.cons x d h
  exact (pe_glob g hm r (okName_ok hn).1).imp fun σ H Q ⟨ρ, A, L, s, l, o⟩ => OutR.ok (R := RV) (by simpa only [evE] using o) s (rv _ _)
theorem re_tup {es : List Expr} {cs : List CE} {j : Nat} (h : PA X es (tR G RVs W (evEs P F cs))) : RE G P F X W (.Tuple es j pos) (.tup cs) :=
  (pe_tup h).imp fun σ H Q q => by
    have q' : tR G RV W (fun L A => (evEs P F cs L A).bind fun ds A => if ds.length ≤ lim then .ok (.tup ds) A else .bad) σ H Q := by
      obtain ⟨ρ, A, L, s, l, o⟩ := q
      exact ⟨ρ, A, L, s, l, by simpa only [evE] using o⟩
    refine (tR_seq (R := RVs) q').imp fun vs H1 ⟨ρ1, A1, L, ds, s1, l1, r1, o1⟩ => ?_
    split at o1
    · rename_i hl
      exact ⟨by rw [r1.length, ← lim_eq]; exact hl, out_tup o1 s1 r1⟩
    · exact (show False from o1).elim
theorem re_lst {es : List Expr} {cs : List CE} (h : PA X es (tR G RVs W (evEs P F cs))) : RE G P F X W (.List es pos) (.lst cs) :=
  (pe_lst h).imp fun σ H Q q => by
    have q' : tR G RV W (fun L A => (evEs P F cs L A).bind fun ds A => if ds.length ≤ lim then Res.of (some (new A (.lst ds))) else .bad) σ H Q := by
      obtain ⟨ρ, A, L, s, l, o⟩ := q
      exact ⟨ρ, A, L, s, l, by simpa only [evE] using o⟩
    refine (tR_seq (R := RVs) q').imp fun vs H1 ⟨ρ1, A1, L, ds, s1, l1, r1, o1⟩ => ?_
    split at o1
    · rename_i hl
      exact ⟨by rw [r1.length, ← lim_eq]; exact hl, out_lst o1 s1 r1⟩
    · exact (show False from o1).elim
theorem re_lstS {es : List Expr} {f : CEF} (hf : ∀ e, RE G P F X W e (f C e)) : RE G P F X W (.List es pos) (.star false (es.map (starF f C))) :=
  (pe_lst (pa_stars hf es)).imp fun σ H Q q => by
    have q' : tR G RV W (fun L A => (evStar P F (es.map (starF f C)) L A).bind fun ds A => if ds.length ≤ lim then Res.of (some (new A (.lst ds))) else .bad) σ H Q := by
      obtain ⟨ρ, A, L, s, l, o⟩ := q
      exact ⟨ρ, A, L, s, l, by simpa only [evE, Bool.false_eq_true, if_false] using o⟩
    refine (tR_seq (R := RVs) q').imp fun vs H1 ⟨ρ1, A1, L, ds, s1, l1, r1, o1⟩ => ?_
    split at o1
    · rename_i hl
      exact ⟨by rw [r1.length, ← lim_eq]; exact hl, out_lst o1 s1 r1⟩
    · exact (show False from o1).elim
theorem re_tupS {es : List Expr} {f : CEF} {j : Nat} (hf : ∀ e, RE G P F X W e (f C e)) : RE G P F X W (.Tuple es j pos) (.star true (es.map (starF f C))) :=
  (pe_tup (pa_stars hf es)).imp fun σ H Q q => by
    have q' : tR G RV W (fun L A => (evStar P F (es.map (starF f C)) L A).bind fun ds A => if ds.length ≤ lim then .ok (.tup ds) A else .bad) σ H Q := by
      obtain ⟨ρ, A, L, s, l, o⟩ := q
      exact ⟨ρ, A, L, s, l, by simpa only [evE, if_true] using o⟩
    refine (tR_seq (R := RVs) q').imp fun vs H1 ⟨ρ1, A1, L, ds, s1, l1, r1, o1⟩ => ?_
    split at o1
    · rename_i hl
      exact ⟨by rw [r1.length, ← lim_eq]; exact hl, out_tup o1 s1 r1⟩
    · exact (show False from o1).elim
theorem re_bin {a b : Expr} {ca cb : CE} {op : Operator} {bop : BOp} (h : opOf op = some bop) (ha : RE G P F X W a ca) (hb : RE G P F X W b cb) : RE G P F X W (.BinOp a op b pos) (.bin bop ca cb) := by
  obtain ⟨r, ho, k⟩ := bin_ok (X := X) h
  refine (pe_op ho ha hb).imp fun σ H Q q => ?_
  have q' : tR G RV W (fun L A => (evE P F ca L A).bind fun x A => (evE P F cb L A).bind fun y A => Res.of (binD bop x y A)) σ H Q := by
    obtain ⟨ρ, A, L, s, l, o⟩ := q
    exact ⟨ρ, A, L, s, l, by simpa only [evE] using o⟩
  exact (tR_two q').imp fun v H1 q => q.imp fun u H2 ⟨ρ, A, L, x, y, s, l, rx, ry, o⟩ => k s rx ry o
theorem re_pow {i j : Int} {k1 k2 : Nat} {p1 p2 : Pos} (h : 0 ≤ j ∧ j ≤ 100 ∧ i.natAbs < 1000) : RE G P F X W (.BinOp (.Constant (.int i) k1 p1) .Pow (.Constant (.int j) k2 p2) pos) (.cst (.int (i ^ j.toNat))) :=
  (pe_op op_pow pe_int pe_int).imp fun σ H Q ⟨ρ, A, L, s, l, o⟩ => ⟨i, j, rfl, rfl, ⟨h.1, by omega, by omega⟩, out_int (by simpa only [evE] using o) s⟩
theorem re_neg {a : Expr} {ca : CE} (ha : RE G P F X W a ca) : RE G P F X W (.UnaryOp .USub a pos) (.neg ca) :=
  (pe_un un_neg ha).imp fun σ H Q q => by
    have q' : tR G RV W (fun L A => (evE P F ca L A).bind fun x A => Res.of1 A (negD x)) σ H Q := by
      obtain ⟨ρ, A, L, s, l, o⟩ := q
      exact ⟨ρ, A, L, s, l, by simpa only [evE] using o⟩
    refine (tR_seq (R := RV) q').imp fun v H1 ⟨ρ1, A1, L, x, s1, l1, r1, o1⟩ => ?_
    obtain ⟨d, e, o2⟩ := out_of1 o1
    cases x <;> simp only [negD, reduceCtorEq, Option.some.injEq] at e
    subst e
    exact ⟨_, rv_int r1, out_int o2 s1⟩
theorem re_cmp {a b : Expr} {ca cb : CE} {op : CmpOp} {c : COp} (t : Top P G F C k X) (h : cmpOf op = some c) (hs : isSet b = false) (ha : RE G P F X W a ca) (hb : RE G P F X W b cb) :
    RE G P F X W (.Compare a [op] [b] pos) (.cmp c ca cb) ∧ RT G P F X W (.Compare a [op] [b] pos) (.cmp c ca cb) := by
  obtain ⟨r, ho, k⟩ := cmp_ok (X := X) t.units t.units80 h
  have hm : behindInMarks op b = false := by cases b <;> first | rfl | (exact (Bool.false_ne_true hs.symm).elim)
  have ho2 : OpR X (compareOp op) (fun v u H Q => r v u H Q ∨ (op = .Eq ∧ rOwnEq P G F v u H Q)) := fun pins s σ H x y v u Q I rx ry q => by
    rcases q with q | ⟨e, q⟩
    · exact ho pins s σ H x y v u Q I rx ry q
    · subst e
      exact op_ownEq t pins s σ H x y v u Q I rx ry q
  have bls : ∀ {x y : D} {A : AH} {d : D} {A' : AH}, cmpE P F c x y A = .ok d A' → ∃ b, d = .bl b := by
    intro x y A d A' e
    unfold cmpE at e
    split at e
    · split at e
      · cases e
      · rename_i i _ _
        cases q : (F.call i [x, y] A).calm with
        | ok v A2 =>
          rw [q] at e
          cases v with
          | bl b => cases e; exact ⟨b, rfl⟩
          | _ => cases e
        | exc _ _ => rw [q] at e; cases e
        | bad => rw [q] at e; cases e
    · cases q : cmpD c x y A with
      | none => rw [q] at e; cases e
      | some b => rw [q] at e; cases e; exact ⟨b, rfl⟩
  have main : ∀ {σ : St} {ρ : List Addr} {H : Hp} {A : AH} {x y : D} {v u : V} {Q : VK}, Sim G ρ A H → RV ρ H x v → RV ρ H y u → OutR G RV W σ ρ H Q (cmpE P F c x y A) → r v u H Q ∨ (op = .Eq ∧ rOwnEq P G F v u H Q) := by
    intro σ ρ H A x y v u Q s rx ry o
    unfold cmpE at o
    split at o
    · rename_i i ei
      refine .inr ?_
      have hc : c = .eq := by cases c <;> first | rfl | (simp [ownEq] at ei)
      subst hc
      have hop : op = .Eq := by cases op <;> first | rfl | (simp [cmpOf] at h)
      subst hop
      refine ⟨rfl, ?_⟩
      simp only [ownEq] at ei
      cases ex : insOf x A with
      | none => rw [ex] at ei; cases ei
      | some p =>
        rw [ex] at ei
        obtain ⟨c', fs⟩ := p
        obtain ⟨n, a, dx, ws, rfl, en, hn, rfl, ha', rf, hc'⟩ := insOf_at s rx ex
        split at o
        · exact (show False from o).elim
        · rename_i nb
          have nb : setOf y A = none := by simpa using nb
          refine ⟨ρ, A, n, y, c', fs, i, s, rx, ry, en, ei, nb, ?_⟩
          cases q : F.call i [.ref n, y] A with
          | bad => rw [q] at o; exact (show False from o).elim
          | exc z A2 => rw [q] at o; exact (show False from o).elim
          | ok z A2 =>
            rw [q] at o
            cases z with
            | bl b =>
              intro ρ' H' w x' s' r'
              simp only [RV] at r'
              subst r'
              exact ⟨b, rfl, o ρ' H' (.bl b) x' s' (by simp only [RV])⟩
            | _ => exact (show False from o).elim
    · exact .inl (k (W := W) (G := G) (σ := σ) t.w s rx ry o)
  refine ⟨(pe_cmpR ho2 ha hb hm).imp fun σ H Q q => ?_, (pt_cmpR ho2 ha hb hm).imp fun σ H Q q => ?_⟩
  · have q' : tR G RV W (fun L A => (evE P F ca L A).bind fun x A => (evE P F cb L A).bind fun y A => cmpE P F c x y A) σ H Q := by
      obtain ⟨ρ, A, L, s, l, o⟩ := q
      exact ⟨ρ, A, L, s, l, by simpa only [evE] using o⟩
    exact (tR_two q').imp fun v H1 q => q.imp fun u H2 ⟨ρ, A, L, x, y, s, l, rx, ry, o⟩ => main s rx ry o
  · have q' : tR G (REq Bool) W (fun L A => (evE P F ca L A).bind fun x A => (evE P F cb L A).bind fun y A => (cmpE P F c x y A).bind fun x A => Res.of1 A (truthD x A)) σ H Q := by
      obtain ⟨ρ, A, L, s, l, o⟩ := q
      refine ⟨ρ, A, L, s, l, ?_⟩
      simp only [evT, evE] at o
      cases e1 : evE P F ca L A with
      | ok x A1 =>
        simp only [e1, Res.bind] at o ⊢
        cases e2 : evE P F cb L A1 with
        | ok y A2 => simpa only [e2, Res.bind] using o
        | exc y A2 => simpa only [e2, Res.bind] using o
        | bad => simpa only [e2, Res.bind] using o
      | exc y A2 => simpa only [e1, Res.bind] using o
      | bad => simpa only [e1, Res.bind] using o
    refine (tR_two q').imp fun v H1 q => q.imp fun u H2 ⟨ρ, A, L, x, y, s, l, rx, ry, o⟩ => ?_
    refine main (σ := σ) s rx ry ?_
    cases e : cmpE P F c x y A with
    | bad => rw [e] at o; exact o
    | exc z A2 => rw [e] at o; exact o
    | ok z A2 =>
      rw [e] at o
      obtain ⟨bb, rfl⟩ := bls e
      intro ρ' H' w x' s' r'
      simp only [RV] at r'
      subst r'
      exact ⟨bb, rfl, o ρ' H' bb x' s' rfl⟩
end
end Kin
end
section
set_option linter.all false
set_option maxRecDepth 100000
/-! Kin 12: more rules for expressions. -/
namespace Kin
open PySem PySem.Spec PyProof.Rows L2
section
variable {G : Gl} {W : WX} {X : Cx} {P : CProg} {F : Fns} {pos : Pos} {C : Ctx} {k : Nat}
/-- a test whose value alone counts -/
theorem rt_of {e : Expr} {c : CE} (h : RE G P F X W e c) (he : ∀ whole, PySem.isTrue e X.env whole = (do let v ← whole; standAt e.pos; holding [v] (truthy v))) : RT G P F X W e c :=
  (pt_truth h he).imp fun σ H Q q => (tR_seq (R := RV) (k := fun _ x A => Res.of1 A (truthD x A)) q).imp fun v H1 ⟨ρ1, A1, L, x, s1, l1, r1, o1⟩ => by
    obtain ⟨b, e, o⟩ := out_of1 o1
    exact ⟨b, pr_truth s1 r1 e, OutR.ok (R := REq Bool) o s1 rfl⟩
theorem res_bind {α β γ : Type} (r : Res α) (f : α → AH → Res β) (g : β → AH → Res γ) : (r.bind f).bind g = r.bind fun x A => (f x A).bind g := by cases r <;> rfl
theorem onB_bind {α β : Type} (o : Option Bool) (t f : Res α) (g : α → AH → Res β) : (onB o t f).bind g = onB o (t.bind g) (f.bind g) := by
  cases o with
  | none => rfl
  | some b => cases b <;> rfl
theorem onB_of {α β : Type} {R : Rel α β} {σ : St} {ρ : List Addr} {H : Hp} {Q : β → Hp → Prop} {o : Option Bool} {t f : Res α} (h : OutR G R W σ ρ H Q (onB o t f)) : ∃ b, o = some b ∧ OutR G R W σ ρ H Q (if b = true then t else f) := by
  cases o with
  | none => exact (show False from h).elim
  | some b => exact ⟨b, rfl, by cases b <;> exact h⟩
theorem evT_eq (c : CE) : evT P F c = fun L A => (evE P F c L A).bind fun x A => Res.of1 A (truthD x A) := rfl
theorem re_and {a b : Expr} {rest : List Expr} {ca cb : CE} (ha : RE G P F X W a ca) (hb : RE G P F X W (.BoolOp .And (b :: rest) pos) cb) : RE G P F X W (.BoolOp .And (a :: b :: rest) pos) (.and ca cb) :=
  (pe_andT ha hb).imp fun σ H Q q => by
    have q' : tR G RV W (fun L A => (evE P F ca L A).bind fun x A => onB (truthD x A) (evE P F cb L A) (.ok x A)) σ H Q := by
      obtain ⟨ρ, A, L, s, l, o⟩ := q
      exact ⟨ρ, A, L, s, l, by simpa only [evE] using o⟩
    refine (tR_seq (R := RV) q').imp fun v H1 ⟨ρ1, A1, L, x, s1, l1, r1, o1⟩ => ?_
    obtain ⟨b, e, o⟩ := onB_of o1
    refine ⟨b, pr_truth s1 r1 e, ?_⟩
    cases b
    · exact OutR.ok (R := RV) o s1 r1
    · exact ⟨ρ1, A1, L, s1, l1, o⟩
theorem re_or {a b : Expr} {rest : List Expr} {ca cb : CE} (ha : RE G P F X W a ca) (hb : RE G P F X W (.BoolOp .Or (b :: rest) pos) cb) : RE G P F X W (.BoolOp .Or (a :: b :: rest) pos) (.or ca cb) :=
  (pe_orT ha hb).imp fun σ H Q q => by
    have q' : tR G RV W (fun L A => (evE P F ca L A).bind fun x A => onB (truthD x A) (.ok x A) (evE P F cb L A)) σ H Q := by
      obtain ⟨ρ, A, L, s, l, o⟩ := q
      exact ⟨ρ, A, L, s, l, by simpa only [evE] using o⟩
    refine (tR_seq (R := RV) q').imp fun v H1 ⟨ρ1, A1, L, x, s1, l1, r1, o1⟩ => ?_
    obtain ⟨b, e, o⟩ := onB_of o1
    refine ⟨b, pr_truth s1 r1 e, ?_⟩
    cases b
    · exact ⟨ρ1, A1, L, s1, l1, o⟩
    · exact OutR.ok (R := RV) o s1 r1
theorem re_not {a : Expr} {ca : CE} (ha : RE G P F X W a ca) : RE G P F X W (.UnaryOp .Not a pos) (.not ca) :=
  (pe_notT ha).imp fun σ H Q q => by
    have q' : tR G RV W (fun L A => (evE P F ca L A).bind fun x A => Res.of1 A ((truthD x A).map fun b => .bl (!b))) σ H Q := by
      obtain ⟨ρ, A, L, s, l, o⟩ := q
      exact ⟨ρ, A, L, s, l, by simpa only [evE] using o⟩
    refine (tR_seq (R := RV) q').imp fun v H1 ⟨ρ1, A1, L, x, s1, l1, r1, o1⟩ => ?_
    obtain ⟨d, e, o⟩ := out_of1 o1
    cases q : truthD x A1 with
    | none => rw [q] at e; cases e
    | some b =>
      rw [q] at e
      cases e
      exact ⟨b, pr_truth s1 r1 q, out_bl o s1⟩
theorem rt_not {a : Expr} {ca : CE} (ha : RT G P F X W a ca) : RT G P F X W (.UnaryOp .Not a pos) (.not ca) :=
  (pt_not ha).imp fun σ H Q ⟨ρ, A, L, s, l, o⟩ => by
    refine ⟨ρ, A, L, s, l, ?_⟩
    simp only [evT, evE, res_bind] at o
    have o' : OutR G (REq Bool) W σ ρ H Q ((evT P F ca L A).bind fun b A => .ok (!b) A) := by
      simp only [evT, res_bind]
      refine cast (congrArg _ (congrArg _ (funext fun x => funext fun A => ?_))) o
      cases truthD x A <;> rfl
    exact (OutR.bind (R := REq Bool) o').imp fun c H1 ⟨ρ1, A1, b, x1, s1, r1, o1⟩ => by
      cases r1
      exact OutR.ok (R := REq Bool) o1 s1 rfl
theorem pw_of1 {op : BoolOp} {a : Expr} {ca : CE} (ha : RT G P F X W a ca) : PW X (.BoolOp op [a] pos) (tR G (REq Bool) W (evT P F ca)) := by
  cases op
  · exact pw_and1 ha
  · exact pw_or1 ha
theorem pw_and_ {a b : Expr} {rest : List Expr} {ca cb : CE} (ha : RT G P F X W a ca) (hb : PW X (.BoolOp .And (b :: rest) pos) (tR G (REq Bool) W (evT P F cb))) : PW X (.BoolOp .And (a :: b :: rest) pos) (tR G (REq Bool) W (evT P F (.and ca cb))) :=
  (pw_and ha hb).imp fun σ H Q ⟨ρ, A, L, s, l, o⟩ => by
    refine ⟨ρ, A, L, s, l, ?_⟩
    have o' : OutR G (REq Bool) W σ ρ H Q ((evT P F ca L A).bind fun b A => if b = true then evT P F cb L A else .ok false A) := by
      simp only [evT, evE, res_bind] at o ⊢
      refine cast (congrArg _ (congrArg _ (funext fun x => funext fun A => ?_))) o
      cases q : truthD x A with
      | none => rfl
      | some b => cases b <;> simp only [onB, Res.bind, Res.of1, q, if_true] <;> rfl
    exact (OutR.bind (R := REq Bool) o').imp fun c H1 ⟨ρ1, A1, b, x1, s1, r1, o1⟩ => by
      cases r1
      cases c
      · exact OutR.ok (R := REq Bool) o1 s1 rfl
      · exact ⟨ρ1, A1, L, s1, l.mono x1, o1⟩
theorem pw_or_ {a b : Expr} {rest : List Expr} {ca cb : CE} (ha : RT G P F X W a ca) (hb : PW X (.BoolOp .Or (b :: rest) pos) (tR G (REq Bool) W (evT P F cb))) : PW X (.BoolOp .Or (a :: b :: rest) pos) (tR G (REq Bool) W (evT P F (.or ca cb))) :=
  (pw_or ha hb).imp fun σ H Q ⟨ρ, A, L, s, l, o⟩ => by
    refine ⟨ρ, A, L, s, l, ?_⟩
    have o' : OutR G (REq Bool) W σ ρ H Q ((evT P F ca L A).bind fun b A => if b = true then .ok true A else evT P F cb L A) := by
      simp only [evT, evE, res_bind] at o ⊢
      refine cast (congrArg _ (congrArg _ (funext fun x => funext fun A => ?_))) o
      cases q : truthD x A with
      | none => rfl
      | some b => cases b <;> simp only [onB, Res.bind, Res.of1, q, if_true] <;> rfl
    exact (OutR.bind (R := REq Bool) o').imp fun c H1 ⟨ρ1, A1, b, x1, s1, r1, o1⟩ => by
      cases r1
      cases c
      · exact ⟨ρ1, A1, L, s1, l.mono x1, o1⟩
      · exact OutR.ok (R := REq Bool) o1 s1 rfl
/-- a row of conditions, as a value and as a test -/
theorem re_bools {op : BoolOp} {f : Expr → CE} (hf : ∀ e, RE G P F X W e (f e)) : ∀ es : List Expr, RE G P F X W (.BoolOp op es pos) (boolF op (es.map f))
  | [] => re_bad
  | [e] => pe_one (hf e)
  | a :: b :: es => by
    cases op
    · exact re_and (hf a) (re_bools hf (b :: es))
    · exact re_or (hf a) (re_bools hf (b :: es))
theorem rt_bools {op : BoolOp} {f : Expr → CE} (hf : ∀ e, RT G P F X W e (f e)) : ∀ es : List Expr, PW X (.BoolOp op es pos) (tR G (REq Bool) W (evT P F (boolF op (es.map f))))
  | [] => ⟨fun w pins s σ H Q I h => by
    obtain ⟨ρ, A, L, _, _, o⟩ := h
    simp only [List.map_nil, boolF, evT, evE, Res.bind, OutR] at o⟩
  | [e] => pw_of1 (hf e)
  | a :: b :: es => by
    cases op
    · exact pw_and_ (hf a) (rt_bools hf (b :: es))
    · exact pw_or_ (hf a) (rt_bools hf (b :: es))
/-! a if c else b -/
theorem re_ite {c a b : Expr} {cc ca cb : CE} (hc : RT G P F X W c cc) (ha : RE G P F X W a ca) (hb : RE G P F X W b cb) : RE G P F X W (.IfExp c a b pos) (.ite cc ca cb) :=
  (pe_ifExp hc ha hb).imp fun σ H Q ⟨ρ, A, L, s, l, o⟩ => by
    refine ⟨ρ, A, L, s, l, ?_⟩
    have o' : OutR G RV W σ ρ H Q ((evT P F cc L A).bind fun k A => if k = true then evE P F ca L A else evE P F cb L A) := by
      simp only [evT, evE, res_bind] at o ⊢
      refine cast (congrArg _ (congrArg _ (funext fun x => funext fun A => ?_))) o
      cases q : truthD x A with
      | none => rfl
      | some b => cases b <;> simp only [onB, Res.bind, Res.of1, if_true] <;> rfl
    exact (OutR.bind (R := REq Bool) o').imp fun c H1 ⟨ρ1, A1, b, x1, s1, r1, o1⟩ => by
      cases r1
      cases c <;> exact ⟨ρ1, A1, L, s1, l.mono x1, o1⟩
theorem rt_ite {c a b : Expr} {cc ca cb : CE} (hc : RT G P F X W c cc) (ha : RT G P F X W a ca) (hb : RT G P F X W b cb) : RT G P F X W (.IfExp c a b pos) (.ite cc ca cb) := by
  have h : PT X (.IfExp c a b pos) (fun σ H Q => tR G (REq Bool) W (evT P F cc) σ H fun k H1 => if k = true then tR G (REq Bool) W (evT P F ca) σ H1 Q else tR G (REq Bool) W (evT P F cb) σ H1 Q) := by
    refine ⟨fun pins s σ H Q I h => ?_⟩
    refine isTrue_IfExp (thn (hc.run pins s σ H _ I h) fun k s1 ⟨H1, I1, q1⟩ => ?_)
    cases k
    · exact hb.run pins s1 σ H1 _ I1 q1
    · exact ha.run pins s1 σ H1 _ I1 q1
  refine h.imp fun σ H Q ⟨ρ, A, L, s, l, o⟩ => ?_
  refine ⟨ρ, A, L, s, l, ?_⟩
  have o' : OutR G (REq Bool) W σ ρ H Q ((evT P F cc L A).bind fun k A => if k = true then evT P F ca L A else evT P F cb L A) := by
    simp only [evT, evE, res_bind, onB_bind] at o ⊢
    refine cast (congrArg _ (congrArg _ (funext fun x => funext fun A => ?_))) o
    cases q : truthD x A with
    | none => rfl
    | some b => cases b <;> simp only [onB, Res.bind, Res.of1, if_true] <;> rfl
  exact (OutR.bind (R := REq Bool) o').imp fun c H1 ⟨ρ1, A1, b, x1, s1, r1, o1⟩ => by
    cases r1
    cases c <;> exact ⟨ρ1, A1, L, s1, l.mono x1, o1⟩
/-! a op b op' c -/
theorem re_chain {a b c : Expr} {ca cb cc : CE} {op op' : CmpOp} {p p' : COp} (t : Top P G F C k X) (h : cmpOf op = some p) (h' : cmpOf op' = some p') (hs : isSet c = false) (ha : RE G P F X W a ca) (hb : RE G P F X W b cb) (hc : RE G P F X W c cc) :
    RE G P F X W (.Compare a [op, op'] [b, c] pos) (.chain p p' ca cb cc) ∧ RT G P F X W (.Compare a [op, op'] [b, c] pos) (.chain p p' ca cb cc) := by
  obtain ⟨r, ho, k⟩ := cmp_ok (X := X) t.units t.units80 h
  obtain ⟨r', ho', k'⟩ := cmp_ok (X := X) t.units t.units80 h'
  have hm : lastMarks [op, op'] [b, c] = false := by
    show behindInMarks op' c = false
    cases c <;> first | rfl | (exact (Bool.false_ne_true hs.symm).elim)
  have key : ∀ σ H Q, tR G RV W (evE P F (.chain p p' ca cb cc)) σ H Q → tChain r r' (tR G RV W (evE P F ca)) (tR G RV W (evE P F cb)) (tR G RV W (evE P F cc)) σ H Q := by
    intro σ H Q q
    have q' : tR G RV W (fun L A => (evE P F ca L A).bind fun x A => (evE P F cb L A).bind fun y A => onB (cmpD p x y A) ((evE P F cc L A).bind fun z A => Res.of1 A ((cmpD p' y z A).map .bl)) (.ok (.bl false) A)) σ H Q := by
      obtain ⟨ρ, A, L, s, l, o⟩ := q
      exact ⟨ρ, A, L, s, l, by simpa only [evE] using o⟩
    refine (tR_two q').imp fun v H1 q => q.imp fun u H2 ⟨ρ, A, L, x, y, s, l, rx, ry, o⟩ => ?_
    obtain ⟨b, e, o⟩ := onB_of o
    refine k (W := fun _ _ _ _ => False) (G := G) (σ := σ) t.w s rx ry ?_
    rw [e]
    intro ρ' H' w x' s' r''
    simp only [RV] at r''
    subst r''
    refine ⟨b, rfl, ?_⟩
    cases b
    · exact out_bl (OutR.mono x' o) s'
    · rw [if_pos rfl]
      rw [if_pos rfl] at o
      refine ⟨ρ', A, L, s', l.mono x', (OutR.bind (R := RV) (OutR.mono x' o)).imp fun w H4 ⟨ρ4, A4, z, x4, s4, r4, o4⟩ => ?_⟩
      exact k' t.w s4 (RV.mono (x'.trans x4) _ _ ry) r4 o4
  refine ⟨(pe_chain ho ho' ha hb hc hm).imp key, (pt_chain ho ho' ha hb hc hm).imp fun σ H Q q => key σ H _ ?_⟩
  obtain ⟨ρ, A, L, s, l, o⟩ := q
  refine ⟨ρ, A, L, s, l, ?_⟩
  have bl : ∀ d A2, evE P F (.chain p p' ca cb cc) L A = .ok d A2 → ∃ b, d = .bl b := by
    intro d A2 e
    simp only [evE] at e
    cases e1 : evE P F ca L A with
    | ok x A3 =>
      rw [e1] at e
      simp only [Res.bind] at e
      cases e2 : evE P F cb L A3 with
      | ok y A4 =>
        rw [e2] at e
        simp only at e
        cases e3 : cmpD p x y A4 with
        | none => rw [e3] at e; cases e
        | some b =>
          rw [e3] at e
          cases b
          · cases e; exact ⟨_, rfl⟩
          · simp only [onB] at e
            cases e4 : evE P F cc L A4 with
            | ok z A5 =>
              rw [e4] at e
              simp only at e
              cases e5 : cmpD p' y z A5 with
              | none => rw [e5] at e; cases e
              | some b => rw [e5] at e; cases e; exact ⟨_, rfl⟩
            | exc _ _ => rw [e4] at e; cases e
            | bad => rw [e4] at e; cases e
      | exc _ _ => rw [e2] at e; cases e
      | bad => rw [e2] at e; cases e
    | exc _ _ => rw [e1] at e; cases e
    | bad => rw [e1] at e; cases e
  simp only [evT] at o
  cases e : evE P F (.chain p p' ca cb cc) L A with
  | ok d A2 =>
    rw [e] at o
    obtain ⟨b, rfl⟩ := bl d A2 e
    intro ρ' H' v x' s' r'
    simp only [RV] at r'
    subst r'
    exact ⟨b, rfl, o ρ' H' b x' s' rfl⟩
  | exc _ _ => rw [e] at o; exact o
  | bad => rw [e] at o; exact o
end
end Kin
end
section
set_option linter.all false
set_option maxRecDepth 100000
/-! Kin 13: items, slices, calls, isinstance, dicts. -/
namespace Kin
open PySem PySem.Spec PyProof.Rows L2
section
variable {G : Gl} {W : WX} {X : Cx} {P : CProg} {F : Fns} {pos : Pos} {C : Ctx} {k : Nat}
theorem plain_ix {b : Expr} (h : isSlice b = false) : PlainIx b := fun o i => by
  cases b <;> first | rfl | (exact (Bool.false_ne_true h.symm).elim)
theorem re_idx {a b : Expr} {ca cb : CE} (t : Top P G F C k X) (hs : isSlice b = false) (ha : RE G P F X W a ca) (hb : RE G P F X W b cb) : RE G P F X W (.Subscript a b pos) (.idx ca cb) :=
  (pe_ix (ix_all (by have := t.units; omega)) ha hb (plain_ix hs)).imp fun σ H Q q => by
    have q' : tR G RV W (fun L A => (evE P F ca L A).bind fun x A => (evE P F cb L A).bind fun y A => Res.of1 A (idxD x y A)) σ H Q := by
      obtain ⟨ρ, A, L, s, l, o⟩ := q
      exact ⟨ρ, A, L, s, l, by simpa only [evE] using o⟩
    exact (tR_two q').imp fun v H1 q => q.imp fun u H2 ⟨ρ, A, L, x, y, s, l, rx, ry, o⟩ => pr_idx s rx ry o
theorem po_of {e : Option Expr} {f : Expr → CE} (hf : ∀ e, RE G P F X W e (f e)) : PO X e (tR G (REq (Option Int)) W (evO P F (e.map f))) := by
  cases e with
  | none => exact po_none.imp fun σ H Q ⟨ρ, A, L, s, l, o⟩ => OutR.ok (R := REq (Option Int)) (by simpa only [Option.map_none, evO] using o) s rfl
  | some e =>
    refine (po_some (hf e)).imp fun σ H Q q => ?_
    have q' : tR G (REq (Option Int)) W (fun L A => (evE P F (f e) L A).bind fun d A => Res.of1 A ((intOf d).map some)) σ H Q := by
      obtain ⟨ρ, A, L, s, l, o⟩ := q
      exact ⟨ρ, A, L, s, l, by simpa only [Option.map_some, evO] using o⟩
    refine (tR_seq (R := RV) q').imp fun v H1 ⟨ρ1, A1, L, x, s1, l1, r1, o1⟩ => ?_
    obtain ⟨d, e, o⟩ := out_of1 o1
    cases x <;> simp only [intOf, Option.map_none, Option.map_some, reduceCtorEq, Option.some.injEq] at e
    subst e
    exact ⟨_, rv_int r1, OutR.ok (R := REq (Option Int)) o s1 rfl⟩
theorem re_slc {a : Expr} {ca : CE} {lo hi : Option Expr} {f : Expr → CE} {p2 : Pos} (hf : ∀ e, RE G P F X W e (f e)) (ha : RE G P F X W a ca) : RE G P F X W (.Subscript a (.Slice lo hi none p2) pos) (.slc ca (lo.map f) (hi.map f)) :=
  (pe_slice sl_all ha (po_of hf) (po_of hf)).imp fun σ H Q q => by
    have q' : tR G RV W (fun L A => (evE P F ca L A).bind fun x A => (evO P F (lo.map f) L A).bind fun l A => (evO P F (hi.map f) L A).bind fun h A => Res.of (slcD x l h A)) σ H Q := by
      obtain ⟨ρ, A, L, s, l, o⟩ := q
      exact ⟨ρ, A, L, s, l, by simpa only [evE] using o⟩
    refine (tR_seq (R := RV) q').imp fun v H1 ⟨ρ1, A1, L, x, s1, l1, r1, o1⟩ => ⟨ρ1, A1, L, s1, l1, (OutR.bind (R := REq (Option Int)) o1).imp fun u H2 ⟨ρ2, A2, y, x2, s2, r2, o2⟩ => ?_⟩
    refine ⟨ρ2, A2, L, s2, l1.mono x2, (OutR.bind (R := REq (Option Int)) o2).imp fun w H3 ⟨ρ3, A3, z, x3, s3, r3, o3⟩ => ?_⟩
    cases r2
    cases r3
    exact pr_slc s3 (RV.mono (x2.trans x3) _ _ r1) o3
theorem rvs_rev {ρ : List Addr} {H : Hp} : ∀ {ds : List D} {vs : List V}, RVs ρ H ds vs → RVs ρ H ds.reverse vs.reverse
  | [], vs, h => by
    simp only [RVs] at h
    subst h
    simp only [List.reverse_nil, RVs]
  | d :: ds, vs, h => by
    simp only [RVs] at h
    obtain ⟨v, us, rfl, r, rs⟩ := h
    rw [List.reverse_cons, List.reverse_cons]
    exact (rvs_rev rs).append (by simp only [RVs]; exact ⟨v, [], rfl, r, rfl⟩)
theorem re_rev {a : Expr} {ca : CE} {j : Nat} {p1 p2 p3 : Pos} (ha : RE G P F X W a ca) : RE G P F X W (.Subscript a (.Slice none none (some (.UnaryOp .USub (.Constant (.int 1) j p1) p2)) p3) pos) (.rev ca) :=
  (pe_revT ha).imp fun σ H Q q => by
    have q' : tR G RV W (fun L A => (evE P F ca L A).bind fun x A => Res.of (revD x A)) σ H Q := by
      obtain ⟨ρ, A, L, s, l, o⟩ := q
      exact ⟨ρ, A, L, s, l, by simpa only [evE] using o⟩
    refine (tR_seq (R := RV) q').imp fun v H1 ⟨ρ1, A1, L, x, s1, l1, r1, o1⟩ => ?_
    cases x with
    | tup ds =>
      obtain ⟨a, vs, rfl, ha, ra⟩ := rv_tup r1
      exact ⟨a, vs, rfl, .of ha, out_tup o1 s1 (rvs_rev ra)⟩
    | _ => exact (show False from o1).elim
/-! calls -/
theorem re_call {x : Str} {e : Expr} {es : List Expr} {cs : List CE} {i : Nat} {p : Pos} (t : Top P G F C k X) (so : ScOk C X) (tk : Takes X W) (hg : C.glob x = true) (hf : C.funs.lookup x = some i) (hp : (e :: es).any isStar = false)
    (ha : PA X (e :: es) (tR G RVs W (evEs P F cs))) : RE G P F X W (.Call (.Name x p) (e :: es) [] pos) (.call i cs) := by
  obtain ⟨g, hn⟩ := so.glob hg
  obtain ⟨f, fd, ps, hm, hk, hb, FO⟩ := t.fun_ x i hf
  have hp' := hp
  rw [List.any_cons, Bool.or_eq_false_iff] at hp
  refine (pe_callG FO t.bare t.room g hm hk hb (fun σ => passAt tk σ) ha (okName_ok hn).1 (starEach_cons hp.1) (starEach_plain hp.2)).imp fun σ H Q q => ?_
  have q' : tR G RV W (fun L A => (evEs P F cs L A).bind fun ds A => F.call i ds A) σ H Q := by
    obtain ⟨ρ, A, L, s, l, o⟩ := q
    exact ⟨ρ, A, L, s, l, by simpa only [evE] using o⟩
  exact (tR_seq (R := RVs) q').imp fun vs H1 ⟨ρ1, A1, L, ds, s1, l1, r1, o1⟩ => ⟨ρ1, A1, ds, s1, r1, by
    cases h : F.call i ds A1 with
    | ok a A2 => rw [h] at o1; exact o1
    | exc a A2 => rw [h] at o1; exact o1
    | bad => rw [h] at o1; exact o1⟩
theorem re_blt {x : Str} {e : Expr} {es : List Expr} {cs : List CE} {b : Blt} {p : Pos} (t : Top P G F C k X) (so : ScOk C X) (hg : C.bltn x = true) (hb : bltOf x = some b ∨ btyOf x = some b) (hp : (e :: es).any isStar = false)
    (ha : PA X (e :: es) (tR G RVs W (evEs P F cs))) : RE G P F X W (.Call (.Name x p) (e :: es) [] pos) (.blt b cs) := by
  obtain ⟨g, hn, hc⟩ := so.bltn hg
  have hm := t.blt x hc
  obtain ⟨d1, _, d3⟩ := okName_ok hn
  have hp' := hp
  rw [List.any_cons, Bool.or_eq_false_iff] at hp
  have fin : ∀ {r : List V → Hp → VK → Prop}, PrB X.w b r → ∀ σ H Q, tR G RV W (evE P F (.blt b cs)) σ H Q → tCB r (tR G RVs W (evEs P F cs)) σ H Q := by
    intro r pr σ H Q q
    have q' : tR G RV W (fun L A => (evEs P F cs L A).bind fun ds A => Res.of (callB b ds A)) σ H Q := by
      obtain ⟨ρ, A, L, s, l, o⟩ := q
      exact ⟨ρ, A, L, s, l, by simpa only [evE] using o⟩
    exact (tR_seq (R := RVs) q').imp fun vs H1 ⟨ρ1, A1, L, ds, s1, l1, r1, o1⟩ => pr t.w s1 r1 o1
  rcases hb with hb | hb
  · obtain ⟨id, r, hv, cr, pr⟩ := fn_ok (X := X) t.calm t.bare t.units80 hb
    exact (pe_callB cr g hm hv ha d3 d1 (starEach_cons hp.1) (starEach_plain hp.2)).imp (fin pr)
  · obtain ⟨T, r, hv, cr, pr⟩ := ty_ok (X := X) t.calm hb
    exact (pe_callTy cr g hm hv ha d3 d1 (starEach_cons hp.1) (starEach_plain hp.2)).imp (fin pr)
theorem tyOf_at {T : Ty} {e : Expr} (t : Top P G F C k X) (so : ScOk C X) (h : tyOf C e = some T) : PE X e (tC (.ty (tyS T))) := by
  cases e with
  | Name x p =>
    simp only [tyOf] at h
    split at h
    · rename_i hb
      obtain ⟨g, hn, hc⟩ := so.bltn hb
      have hm := t.blt x hc
      obtain ⟨d1, _, d3⟩ := okName_ok hn
      have key : bootBuiltins x = some (.type (tyS T)) := by
        split at h
        · rename_i e; subst e; cases h; decide +kernel
        split at h
        · rename_i e; subst e; cases h; decide +kernel
        split at h
        · rename_i e; subst e; cases h; decide +kernel
        split at h
        · rename_i e; subst e; cases h; decide +kernel
        split at h
        · rename_i e; subst e; cases h; decide +kernel
        split at h
        · rename_i e; subst e; cases h; decide +kernel
        cases h
      exact pe_bltn (v := .ty (tyS T)) g hm key rfl d3 d1
    · cases h
  | _ => simp [tyOf] at h
theorem re_isi {a c : Expr} {ca : CE} {T : Ty} {x : Str} {p : Pos} (t : Top P G F C k X) (so : ScOk C X) (hg : C.bltn x = true) (hx : x = ("isinstance" : Str)) (hs : isStar a = false) (hc : tyOf C c = some T) (ha : RE G P F X W a ca) :
    RE G P F X W (.Call (.Name x p) [a, c] [] pos) (.isi ca [T]) := by
  obtain ⟨g, hn, hcc⟩ := so.bltn hg
  have hm := t.blt x hcc
  have sc : isStar c = false := by cases c <;> first | rfl | simp [tyOf] at hc
  obtain ⟨d1, _, d3⟩ := okName_ok hn
  have hv : bootBuiltins x = some (.builtin "isinstance") := by subst hx; decide +kernel
  refine (pe_callB call_isi g hm hv (pa_cons ha (pa_cons (tyOf_at t so hc) pa_nil (starEach_cons sc)) (starEach_cons hs)) d3 d1 (starEach_cons hs) (starEach_plain (by simp [sc]))).imp fun σ H Q q => ?_
  have q' : tR G RV W (fun L A => (evE P F ca L A).bind fun x A => Res.of1 A ((isiD x [T] A).map .bl)) σ H Q := by
    obtain ⟨ρ, A, L, s, l, o⟩ := q
    exact ⟨ρ, A, L, s, l, by simpa only [evE] using o⟩
  refine (tR_seq (R := RV) q').imp fun v H1 ⟨ρ1, A1, L, x, s1, l1, r1, o1⟩ => ?_
  cases nb : setOf x A1 with
  | some is => simp [isiD, nb, Res.of1, OutR] at o1
  | none =>
    obtain ⟨ty, h1, h2⟩ := ty_at (K := X.K) t.cls s1 r1 T nb
    refine ⟨v, .ty (tyS T), ty, _, _, rfl, .ty _, h1, h2, ?_⟩
    simp only [isiD, nb, Option.map_some, Res.of1] at o1
    have o2 := out_bl o1 s1
    simpa using o2
theorem paired_ty : ∀ Ts : List Ty, Paired ClsV (Ts.map fun T => V.ty (tyS T)) (Ts.map fun T => Value.type (tyS T))
  | [] => .nil
  | T :: Ts => .cons (.ty _) (paired_ty Ts)
theorem tysOf_at {W : WX} (t : Top P G F C k X) (so : ScOk C X) : ∀ {es : List Expr} {Ts : List Ty}, es.foldr (fun e r => (tyOf C e).bind fun T => r.map (T :: ·)) (some []) = some Ts → Ts.length = es.length ∧ es.any isStar = false ∧ PA X es (fun σ H Q => Q (Ts.map fun T => V.ty (tyS T)) H)
  | [], Ts, h => by
    simp only [List.foldr_nil, Option.some.injEq] at h
    subst h
    exact ⟨rfl, rfl, pa_nil⟩
  | e :: es, Ts, h => by
    rw [List.foldr_cons] at h
    cases e1 : tyOf C e with
    | none => rw [e1] at h; cases h
    | some T =>
      rw [e1] at h
      cases e2 : es.foldr (fun e r => (tyOf C e).bind fun T => r.map (T :: ·)) (some []) with
      | none => rw [e2] at h; cases h
      | some Ts' =>
        rw [e2] at h
        cases h
        obtain ⟨h0, h1, h2⟩ := tysOf_at (W := W) t so e2
        have sc : isStar e = false := by cases e <;> first | rfl | simp [tyOf] at e1
        refine ⟨by rw [List.length_cons, List.length_cons, h0], by rw [List.any_cons, sc, h1]; rfl, (pa_cons (tyOf_at t so e1) h2 (starEach_cons sc)).imp fun σ H Q q => q⟩
theorem re_isiT {a c : Expr} {ca : CE} {Ts : List Ty} {x : Str} {p : Pos} (t : Top P G F C k X) (so : ScOk C X) (hg : C.bltn x = true) (hx : x = ("isinstance" : Str)) (hs : isStar a = false) (hc : tysOf C c = some Ts) (ha : RE G P F X W a ca) :
    RE G P F X W (.Call (.Name x p) [a, c] [] pos) (.isi ca Ts) := by
  obtain ⟨g, hn, hcc⟩ := so.bltn hg
  have hm := t.blt x hcc
  obtain ⟨d1, _, d3⟩ := okName_ok hn
  have hv : bootBuiltins x = some (.builtin "isinstance") := by subst hx; decide +kernel
  unfold tysOf at hc
  split at hc
  case h_2 => cases hc
  rename_i es j q
  split at hc
  case isTrue => cases hc
  rename_i hne
  have hne : es.length ≤ 10 := by
    simp only [Bool.or_eq_true, decide_eq_true_eq, not_or] at hne
    omega
  obtain ⟨hl, hst, hpa⟩ := tysOf_at (W := W) t so hc
  refine (pe_callB call_isiT g hm hv (pa_cons ha (pa_cons (pe_tup hpa) pa_nil (starEach_cons rfl)) (starEach_cons hs)) d3 d1 (starEach_cons hs) (starEach_plain rfl)).imp fun σ H Q q => ?_
  have q' : tR G RV W (fun L A => (evE P F ca L A).bind fun x A => Res.of1 A ((isiD x Ts A).map .bl)) σ H Q := by
    obtain ⟨ρ, A, L, s, l, o⟩ := q
    exact ⟨ρ, A, L, s, l, by simpa only [evE] using o⟩
  refine (tR_seq (R := RV) q').imp fun v H1 ⟨ρ1, A1, L, x, s1, l1, r1, o1⟩ => ?_
  have hlen : (Ts.map fun T => V.ty (tyS T)).length ≤ sizeLine := by
    rw [List.length_map, hl, sizeLine_eq]
    omega
  refine ⟨hlen, fun tp htp => ?_⟩
  cases nb : setOf x A1 with
  | some is => simp [isiD, nb, Res.of1, OutR] at o1
  | none =>
    have s2 := s1.lay (o := .tup (Ts.map fun T => V.ty (tyS T))) htp
    have x2 := Ext.lay (ρ := ρ1) (o := .tup (Ts.map fun T => V.ty (tyS T))) htp
    have r2 := RV.mono x2 _ _ r1
    obtain ⟨ty, h1, h2⟩ := ty_all (K := X.K) t.cls s2 r2 nb
    refine ⟨v, tp, _, ty, Ts.map fun T => Value.type (tyS T), _, rfl, upd_same, ?_, h1, kit_any h2 Ts, ?_⟩
    · exact paired_ty Ts
    · simp only [isiD, nb, Option.map_some, Res.of1] at o1
      exact o1 ρ1 _ _ x2 s2 (by simp only [RV])
/-! methods -/
theorem base_plain {a : Expr} {m : Str} {env : Env} (h : plainBase a = true) : attributeBase a m env (eval a env) = eval a env := by
  cases a with
  | Call fe es ks p =>
    cases fe with
    | Name x q =>
      cases es with
      | nil =>
        cases ks with
        | nil => exact (Bool.false_ne_true h).elim
        | cons _ _ => rfl
      | cons _ _ => rfl
    | _ => rfl
  | _ => rfl
theorem few_of : ∀ {es : List Expr} {env : Env} {p : Pos}, es.any isStar = false → (backTo p (starEach es env)).all (fun x => !x.1) = true
  | [], _, _, _ => rfl
  | e :: es, env, p, h => by
    rw [List.any_cons, Bool.or_eq_false_iff] at h
    rw [starEach_cons h.1]
    show ((!false) && (backTo p (starEach es env)).all fun x => !x.1) = true
    rw [few_of h.2]
    rfl
theorem few_ok {es : List Expr} {env : Env} {p : Pos} (h : es.any isStar = false) (hl : es.length ≤ 2) :
    ((backTo p (starEach es env)).all (fun x => !x.1) && (backToKw p (keywordEach [] env)).all (fun x => x.1.isSome) && decide (es.length + ([] : List Keyword).length + (if ([] : List Keyword).isEmpty then 0 else 1) < 30)) = true := by
  rw [few_of h]
  simp only [Bool.true_and, Bool.and_eq_true, decide_eq_true_eq]
  refine ⟨rfl, ?_⟩
  simp only [List.length_nil, List.isEmpty_nil, if_true]
  omega
theorem lstOf_isList {d : D} {A : AH} (h : isList d A = true) : ∃ ds, lstOf d A = some ds := Option.isSome_iff_exists.mp h
theorem isD_of {ρ : List Addr} {A : AH} {H : Hp} {x : D} {v : V} (s : Sim G ρ A H) (r : RV ρ H x v) (h : (dctOf x A).isSome = true) : ∃ a, v = .ref a ∧ IsD H a := by
  obtain ⟨kvs, e⟩ := Option.isSome_iff_exists.mp h
  obtain ⟨n, a, ws, rfl, en, hn, rfl, ha, rk⟩ := dctOf_at s r e
  exact ⟨a, rfl, .inl ⟨ws, .inl ha⟩⟩
theorem tyList {ρ : List Addr} {A : AH} {H : Hp} {K : PySem.W.Frag} {x : D} {v : V} (s : Sim G ρ A H) (r : RV ρ H x v) (h : isList x A = true) : tyV K "list" v H := by
  obtain ⟨ds, e⟩ := lstOf_isList h
  obtain ⟨a, ws, rfl, ra, ha⟩ := lstOf_at s r e
  exact .inl ⟨rfl, ws, .of ha⟩
def bmName : Bm → Str
  | .append => "append" | .extend => "extend" | .get => "get" | .setd => "setdefault" | .pop => "pop" | .join => "join" | .split => "split"
theorem bm_name {m : Str} {b : Bm} (h : bmOf m = some b) : m = bmName b := by
  unfold bmOf at h
  split at h
  · cases h; assumption
  split at h
  · cases h; assumption
  split at h
  · cases h; assumption
  split at h
  · cases h; assumption
  split at h
  · cases h; assumption
  split at h
  · cases h; assumption
  split at h
  · cases h; assumption
  · cases h
theorem rvs_strs {ρ : List Addr} {H : Hp} : ∀ {ds : List D} {vs : List V} {ys : List Str}, RVs ρ H ds vs → strsD ds = some ys → vs = ys.map V.str
  | [], vs, ys, r, h => by
    simp only [strsD, Option.some.injEq] at h
    simp only [RVs] at r
    subst h r
    rfl
  | .str x :: ds, vs, ys, r, h => by
    simp only [strsD] at h
    cases e : strsD ds with
    | none => rw [e] at h; cases h
    | some zs =>
      rw [e] at h
      simp only [Option.map_some, Option.some.injEq] at h
      simp only [RVs, RV] at r
      obtain ⟨v, t, rfl, rfl, rt⟩ := r
      subst h
      rw [rvs_strs rt e]
      rfl
  | .non :: _, _, _, _, h => by simp [strsD] at h
  | .bl _ :: _, _, _, _, h => by simp [strsD] at h
  | .int _ :: _, _, _, _, h => by simp [strsD] at h
  | .tup _ :: _, _, _, _, h => by simp [strsD] at h
  | .ref _ :: _, _, _, _, h => by simp [strsD] at h
theorem strs_rvs {ρ : List Addr} {H : Hp} : ∀ ys : List Str, RVs ρ H (ys.map D.str) (ys.map V.str)
  | [] => by simp only [List.map_nil, RVs]
  | y :: ys => by
    simp only [List.map_cons, RVs, RV]
    exact ⟨_, _, rfl, rfl, strs_rvs ys⟩
theorem isStrD_at {ρ : List Addr} {H : Hp} {x : D} {v : V} (r : RV ρ H x v) (h : isStrD x = true) : ∃ z, x = .str z ∧ v = .str z := by
  cases x <;> first | (exact ⟨_, rfl, rv_str r⟩) | (exact (Bool.false_ne_true h).elim)
section
variable {σ : St} {ρ : List Addr} {A : AH} {H : Hp} {Q : VK} {x : D} {v : V} {ds : List D} {us : List V}
theorem put_lst {n : Nat} {a : Addr} {es : List D} {vs : List V} {d : D} {w : V} (s : Sim G ρ A H) (hn : ρ[n]? = some a) (r : RVs ρ H es vs) (rd : RV ρ H d w) (o : OutR G RV W σ ρ H Q (Res.of (some (d, A.set n (.lst es))))) : Q w (upd H a (.lst vs)) := by
  have x1 := Ext.put (ho := .lst vs) s (List.mem_of_getElem? hn)
  exact o ρ _ w x1 (s.put hn ⟨_, upd_same, RVs.mono x1 _ _ r⟩) (RV.mono x1 _ _ rd)
theorem pr_append (s : Sim G ρ A H) (rx : RV ρ H x v) (r : RVs ρ H ds us) (o : OutR G RV W σ ρ H Q (Res.of (methB .append x ds A))) : rAppend v us H Q := by
  obtain ⟨d, A', e, o2⟩ := out_of o
  clear o
  cases x with
  | ref n =>
    match ds, r, e with
    | [y], r, e =>
      simp only [methB] at e
      split at e
      · rename_i en
        split at e
        · rename_i hl
          cases e
          obtain ⟨a, hn, rfl, vs, ha, ra⟩ := rv_ref s rx en
          obtain ⟨w, rfl, rw'⟩ := rvs1 r
          exact ⟨a, vs, w, rfl, rfl, ha, by rw [ra.length, ← lim_eq]; exact hl, put_lst s hn (ra.append (.one rw')) (by simp only [RV]) o2⟩
        · cases e
      · cases e
    | [], _, e => simp [methB] at e
    | _ :: _ :: _, _, e => simp [methB] at e
  | _ => simp [methB] at e
theorem pr_extend (K : PySem.W.Frag) (s : Sim G ρ A H) (rx : RV ρ H x v) (r : RVs ρ H ds us) (o : OutR G RV W σ ρ H Q (Res.of (methB .extend x ds A))) : rExtend v us H Q ∨ rExtendT K v us H Q := by
  obtain ⟨d, A', e, o2⟩ := out_of o
  clear o
  cases x with
  | ref n =>
    match ds, r, e with
    | [.ref k], r, e =>
      simp only [methB] at e
      split at e
      · rename_i en em
        split at e
        · rename_i hl
          cases e
          obtain ⟨a, hn, rfl, vs, ha, ra⟩ := rv_ref s rx en
          obtain ⟨w, rfl, rw'⟩ := rvs1 r
          obtain ⟨b, hm, rfl, ws, hb, rb⟩ := rv_ref s rw' em
          exact .inl ⟨a, b, vs, ws, rfl, rfl, ha, hb, by rw [ra.length, rb.length, ← lim_eq]; exact hl, put_lst s hn (ra.append rb) (by simp only [RV]) o2⟩
        · cases e
      · cases e
    | [.tup es], r, e =>
      simp only [methB] at e
      split at e
      · rename_i en
        split at e
        · rename_i hl
          cases e
          obtain ⟨a, hn, rfl, vs, ha, ra⟩ := rv_ref s rx en
          obtain ⟨w, rfl, rw'⟩ := rvs1 r
          obtain ⟨b, ws, rfl, hb, rb⟩ := rv_tup rw'
          exact .inr ⟨a, b, vs, ws, rfl, rfl, ha, .of hb, by rw [ra.length, rb.length, ← lim_eq]; exact hl, put_lst s hn (ra.append rb) (by simp only [RV]) o2⟩
        · cases e
      · cases e
    | [], _, e => simp [methB] at e
    | [.non], _, e => simp [methB] at e
    | [.bl _], _, e => simp [methB] at e
    | [.int _], _, e => simp [methB] at e
    | [.str _], _, e => simp [methB] at e
    | _ :: _ :: _, _, e => simp [methB] at e
  | _ => simp [methB] at e
theorem pr_pop (s : Sim G ρ A H) (rx : RV ρ H x v) (o : OutR G RV W σ ρ H Q (Res.of (methB .pop x [] A))) : rPop v [] H Q := by
  obtain ⟨d, A', e, o2⟩ := out_of o
  clear o
  cases x with
  | ref n =>
    simp only [methB] at e
    split at e
    · rename_i ds en
      cases q : ds[ds.length - 1]? with
      | none => rw [q] at e; cases e
      | some d0 =>
        rw [q] at e
        cases e
        obtain ⟨a, hn, rfl, vs, ha, ra⟩ := rv_ref s rx en
        obtain ⟨w, hw, rw'⟩ := ra.get q
        exact ⟨a, vs, w, rfl, rfl, ha, by rw [ra.length]; exact hw, put_lst s hn ra.dropLast rw' o2⟩
    · cases e
  | _ => simp [methB] at e
end
theorem re_meth {a : Expr} {ca : CE} {m : Str} {p : Pos} {es : List Expr} {b : Bm} {f : Expr → CE} (t : Top P G F C k X) (hb : bmOf m = some b) (hn : bmArity b es.length = true) (hp : plainBase a = true) (hl : (p.endLine == pos.line) = true) (hs : es.any isStar = false)
    (ha : RE G P F X W a ca) (hf : ∀ e, RE G P F X W e (f e)) : RE G P F X W (.Call (.Attribute a m p) es [] pos) (.meth b ca (es.map f)) := by
  have base := base_plain (m := m) (env := X.env) hp
  have pre : ∀ (σ : St) (H : Hp) (Q : VK), tR G RV W (evE P F (.meth b ca (es.map f))) σ H Q → tR G RV W (evE P F ca) σ H fun v H1 => ∃ ρ1 A1 L x, Sim G ρ1 A1 H1 ∧ RL ρ1 H1 L σ ∧ RV ρ1 H1 x v ∧ baseB b x A1 = true ∧
      OutR G RV W σ ρ1 H1 Q ((evEs P F (es.map f) L A1).bind fun ds A => Res.of (methB b x ds A)) := by
    intro σ H Q q
    have q' : tR G RV W (fun L A => (evE P F ca L A).bind fun x A => if baseB b x A then (evEs P F (es.map f) L A).bind fun ds A => Res.of (methB b x ds A) else .bad) σ H Q := by
      obtain ⟨ρ, A, L, s, l, o⟩ := q
      exact ⟨ρ, A, L, s, l, by simpa only [evE] using o⟩
    refine (tR_seq (R := RV) q').imp fun v H1 ⟨ρ1, A1, L, x, s1, l1, r1, o1⟩ => ?_
    split at o1
    · rename_i hh
      exact ⟨ρ1, A1, L, x, s1, l1, r1, hh, o1⟩
    · exact (show False from o1).elim
  have hm := bm_name hb
  match b, es, hb, hn, hs, hm, pre with
  | .append, [e], hb, hn, hs, hm, pre =>
    have hm : m = bmName .append := hm
    simp only [bmName] at hm
    subst hm
    refine (pe_bm PySem.F.plainAttrs_list PySem.F.slot_list_append PySem.F.type_list_append mt_append ha (pa_list hf [e] hs) base (few_ok hs (by simp)) hl (by rw [starEach_cons (by simpa using hs)]) rfl).imp fun σ H Q q => ?_
    refine (pre _ _ _ q).imp fun v H1 ⟨ρ1, A1, L, x, s1, l1, r1, hh, o1⟩ => ⟨tyList s1 r1 hh, ρ1, A1, L, s1, l1, (OutR.bind (R := RVs) o1).imp fun us H2 ⟨ρ2, A2, ds, x2, s2, r2, o2⟩ => ?_⟩
    exact pr_append s2 (RV.mono x2 _ _ r1) r2 o2
  | .extend, [e], hb, hn, hs, hm, pre =>
    have hm : m = bmName .extend := hm
    simp only [bmName] at hm
    subst hm
    refine (pe_bm PySem.F.plainAttrs_list PySem.F.slot_list_extend PySem.F.type_list_extend (MtR.or mt_extend mt_extendT) ha (pa_list hf [e] hs) base (few_ok hs (by simp)) hl (by rw [starEach_cons (by simpa using hs)]) rfl).imp fun σ H Q q => ?_
    refine (pre _ _ _ q).imp fun v H1 ⟨ρ1, A1, L, x, s1, l1, r1, hh, o1⟩ => ⟨tyList s1 r1 hh, ρ1, A1, L, s1, l1, (OutR.bind (R := RVs) o1).imp fun us H2 ⟨ρ2, A2, ds, x2, s2, r2, o2⟩ => ?_⟩
    exact pr_extend X.K s2 (RV.mono x2 _ _ r1) r2 o2
  | .pop, [], hb, hn, hs, hm, pre =>
    have hm : m = bmName .pop := hm
    simp only [bmName] at hm
    subst hm
    refine (pe_bm0 PySem.F.plainAttrs_list PySem.F.slot_list_pop PySem.F.type_list_pop mt_pop ha base hl).imp fun σ H Q q => ?_
    refine (pre _ _ _ q).imp fun v H1 ⟨ρ1, A1, L, x, s1, l1, r1, hh, o1⟩ => ⟨tyList s1 r1 hh, ?_⟩
    simp only [List.map_nil, evEs, Res.bind] at o1
    exact pr_pop s1 r1 o1
  | .get, [e], hb, hn, hs, hm, pre =>
    have hm : m = bmName .get := hm
    simp only [bmName] at hm
    subst hm
    have he : isStar e = false := by simpa using hs
    refine (pe_dget1 (by have := t.units; omega) ha (hf e) ⟨base, few_ok hs (by simp), hl, by rw [starEach_cons he]; rfl⟩).imp fun σ H Q q => ?_
    refine (pre _ _ _ q).imp fun v H1 ⟨ρ1, A1, L, x, s1, l1, r1, hh, o1⟩ => ?_
    obtain ⟨a1, rfl, hd⟩ := isD_of s1 r1 hh
    refine ⟨a1, rfl, hd, ρ1, A1, L, s1, l1, ?_⟩
    simp only [List.map_cons, List.map_nil, evEs, res_bind] at o1
    refine (OutR.bind (R := RV) o1).imp fun u H2 ⟨ρ2, A2, y, x2, s2, r2, o2⟩ => ?_
    simp only [Res.bind, methB] at o2
    obtain ⟨d, A', e2, o3⟩ := out_of o2
    cases ed : dctOf x A2 with
    | none => rw [ed] at e2; cases e2
    | some kvs =>
      rw [ed] at e2
      cases ky : keyD y with
      | none => simp [ky] at e2
      | some key =>
        simp only [Option.bind_some, ky, Option.map_some, Option.some.injEq, Prod.mk.injEq] at e2
        obtain ⟨e3, e4⟩ := e2
        subst e3 e4
        obtain ⟨n, a2, ws, rfl, en, hn, ea, ha2, rk⟩ := dctOf_at s2 (RV.mono x2 _ _ r1) ed
        cases ea
        refine ⟨valV ws key, by rw [keyD_at r2 ky]; exact DGet.k ha2, ?_⟩
        cases g : kGet kvs key with
        | none => rw [rks_none rk g]; rw [g] at o3; exact OutR.ok (R := RV) o3 s2 (by simp only [Option.getD, RV])
        | some d0 =>
          obtain ⟨w, e5, rw5⟩ := rks_get rk g
          rw [e5]
          rw [g] at o3
          exact OutR.ok (R := RV) o3 s2 rw5
  | .get, [e, e'], hb, hn, hs, hm, pre =>
    have hm : m = bmName .get := hm
    simp only [bmName] at hm
    subst hm
    have he : isStar e = false ∧ isStar e' = false := by simpa using hs
    refine (pe_dget2 (by have := t.units; omega) ha (hf e) (hf e') ⟨base, few_ok hs (by simp), hl, by rw [starEach_cons he.1, starEach_cons he.2]; rfl⟩).imp fun σ H Q q => ?_
    refine (pre _ _ _ q).imp fun v H1 ⟨ρ1, A1, L, x, s1, l1, r1, hh, o1⟩ => ?_
    obtain ⟨a1, rfl, hd⟩ := isD_of s1 r1 hh
    refine ⟨a1, rfl, hd, ρ1, A1, L, s1, l1, ?_⟩
    simp only [List.map_cons, List.map_nil, evEs, res_bind] at o1
    refine (OutR.bind (R := RV) o1).imp fun u H2 ⟨ρ2, A2, y, x2, s2, r2, o2⟩ => ⟨ρ2, A2, L, s2, l1.mono x2, (OutR.bind (R := RV) o2).imp fun z H3 ⟨ρ3, A3, d, x3, s3, r3, o3⟩ => ?_⟩
    simp only [Res.bind, methB] at o3
    obtain ⟨d', A', e2, o4⟩ := out_of o3
    cases ed : dctOf x A3 with
    | none => rw [ed] at e2; cases e2
    | some kvs =>
      rw [ed] at e2
      cases ky : keyD y with
      | none => simp [ky] at e2
      | some key =>
        simp only [Option.bind_some, ky, Option.map_some, Option.some.injEq, Prod.mk.injEq] at e2
        obtain ⟨e3, e4⟩ := e2
        subst e3 e4
        obtain ⟨n, a2, ws, rfl, en, hn, ea, ha2, rk⟩ := dctOf_at s3 (RV.mono (x2.trans x3) _ _ r1) ed
        cases ea
        refine ⟨valV ws key, by rw [keyD_at (RV.mono x3 _ _ r2) ky]; exact DGet.k ha2, ?_⟩
        cases g : kGet kvs key with
        | none => rw [rks_none rk g]; rw [g] at o4; exact OutR.ok (R := RV) o4 s3 r3
        | some d0 =>
          obtain ⟨w, e5, rw5⟩ := rks_get rk g
          rw [e5]
          rw [g] at o4
          exact OutR.ok (R := RV) o4 s3 rw5
  | .join, [e], hb, hn, hs, hm, pre =>
    have hm : m = bmName .join := hm
    simp only [bmName] at hm
    subst hm
    have he : isStar e = false := by simpa using hs
    refine (pe_join ha (hf e) (by rw [starEach_cons he]; rfl) base hl).imp fun σ H Q q => ?_
    refine (pre _ _ _ q).imp fun v H1 ⟨ρ1, A1, L, x, s1, l1, r1, hh, o1⟩ => ?_
    obtain ⟨z, rfl, rfl⟩ := isStrD_at r1 hh
    refine ⟨⟨z, rfl⟩, ρ1, A1, L, s1, l1, ?_⟩
    simp only [List.map_cons, List.map_nil, evEs, res_bind] at o1
    refine (OutR.bind (R := RV) o1).imp fun u H2 ⟨ρ2, A2, y, x2, s2, r2, o2⟩ => ?_
    simp only [Res.bind] at o2
    obtain ⟨d', A', e2, o3⟩ := out_of o2
    simp only [methB] at e2
    cases e3 : seqOf y A2 with
    | none => rw [e3] at e2; cases e2
    | some ds =>
      rw [e3] at e2
      cases e4 : strsD ds with
      | none => simp only [Option.bind_some, e4] at e2; cases e2
      | some ys =>
        simp only [Option.bind_some, e4] at e2
        split at e2
        · rename_i hlen
          cases e2
          obtain ⟨b, vs, rfl, rs, hq⟩ := seqOf_at (K := X.K) s2 r2 e3
          rw [rvs_strs rs e4] at hq
          exact ⟨z, b, ys, rfl, rfl, hq, hlen, out_str o3 s2⟩
        · cases e2
  | .split, [e], hb, hn, hs, hm, pre =>
    have hm : m = bmName .split := hm
    simp only [bmName] at hm
    subst hm
    have he : isStar e = false := by simpa using hs
    refine (pe_split ha (hf e) (by rw [starEach_cons he]; rfl) base hl).imp fun σ H Q q => ?_
    refine (pre _ _ _ q).imp fun v H1 ⟨ρ1, A1, L, x, s1, l1, r1, hh, o1⟩ => ?_
    obtain ⟨z, rfl, rfl⟩ := isStrD_at r1 hh
    refine ⟨⟨z, rfl⟩, ρ1, A1, L, s1, l1, ?_⟩
    simp only [List.map_cons, List.map_nil, evEs, res_bind] at o1
    refine (OutR.bind (R := RV) o1).imp fun u H2 ⟨ρ2, A2, y, x2, s2, r2, o2⟩ => ?_
    simp only [Res.bind] at o2
    obtain ⟨d', A', e2, o3⟩ := out_of o2
    cases y <;> simp only [methB, reduceCtorEq] at e2
    rename_i y
    split at e2
    · rename_i hlen
      cases e2
      refine ⟨z, y, rfl, by rw [rv_str r2], ?_, by rw [← lim_eq]; exact hlen.2, out_lst o3 s2 (strs_rvs _)⟩
      simpa using hlen.1
    · cases e2
  | .setd, [e, e'], hb, hn, hs, hm, pre =>
    have hm : m = bmName .setd := hm
    simp only [bmName] at hm
    subst hm
    have he : isStar e = false ∧ isStar e' = false := by simpa using hs
    refine (pe_dsetd ha (hf e) (hf e') ⟨base, few_ok hs (by simp), hl, by rw [starEach_cons he.1, starEach_cons he.2]; rfl⟩).imp fun σ H Q q => ?_
    refine (pre _ _ _ q).imp fun v H1 ⟨ρ1, A1, L, x, s1, l1, r1, hh, o1⟩ => ?_
    obtain ⟨a1, rfl, hd⟩ := isD_of s1 r1 hh
    refine ⟨a1, rfl, hd, ρ1, A1, L, s1, l1, ?_⟩
    simp only [List.map_cons, List.map_nil, evEs, res_bind] at o1
    refine (OutR.bind (R := RV) o1).imp fun u H2 ⟨ρ2, A2, y, x2, s2, r2, o2⟩ => ⟨ρ2, A2, L, s2, l1.mono x2, (OutR.bind (R := RV) o2).imp fun z H3 ⟨ρ3, A3, d, x3, s3, r3, o3⟩ => ?_⟩
    simp only [Res.bind] at o3
    obtain ⟨d', A', e2, o4⟩ := out_of o3
    obtain ⟨kvs0, ed0⟩ := Option.isSome_iff_exists.mp hh
    obtain ⟨n, _, _, rfl, _⟩ := dctOf_at s1 r1 ed0
    simp only [methB] at e2
    cases ed : dctOf (.ref n) A3 with
    | none => rw [ed] at e2; cases e2
    | some kvs =>
      rw [ed] at e2
      cases ky : keyD y with
      | none => simp [ky] at e2
      | some key =>
        simp only [Option.bind_some, ky] at e2
        obtain ⟨n', a2, ws, en', en, hn, ea, ha2, rk⟩ := dctOf_at s3 (RV.mono (x2.trans x3) _ _ r1) ed
        cases ea
        cases en'
        split at e2
        case isFalse => cases e2
        rename_i hz
        refine ⟨ws, key, ha2, keyD_at (RV.mono x3 _ _ r2) ky, by rw [rk.length, ← lim_eq]; exact hz, fun w e => ?_, fun e => ?_⟩
        · cases g : kGet kvs key with
          | none => rw [rks_none rk g] at e; cases e
          | some d0 =>
            rw [g] at e2
            cases e2
            obtain ⟨w', e5, rw5⟩ := rks_get rk g
            rw [e] at e5
            cases e5
            exact OutR.ok (R := RV) o4 s3 rw5
        · cases g : kGet kvs key with
          | some d0 =>
            obtain ⟨w', e5, rw5⟩ := rks_get rk g
            rw [e] at e5
            cases e5
          | none =>
            rw [g] at e2
            cases e2
            have xx := Ext.put (ho := .dK (putK ws key z)) s3 (List.mem_of_getElem? hn)
            exact o4 _ _ _ xx (s3.put hn ⟨_, upd_same, RKs.mono xx _ _ (rks_put rk r3)⟩) (RV.mono xx _ _ r3)
/-! list(range(..)) -/
theorem rgV_at {ρ : List Addr} {H : Hp} (a b : Int) : RVs ρ H (rngItems a b) (rgV a b) := by
  refine RVs.of_get (by simp [rngItems, rgV]) fun i d v h1 h2 => ?_
  unfold rngItems at h1
  unfold rgV at h2
  rw [List.getElem?_map] at h1 h2
  cases e : (List.range (b - a).toNat)[i]? with
  | none => rw [e] at h1; cases h1
  | some j =>
    rw [e] at h1 h2
    cases h1
    cases h2
    simp only [RV]
theorem okR_ok {i j : Int} (h : okR i j = true) : -(2 ^ 62) ≤ i ∧ i < 2 ^ 62 ∧ -(2 ^ 62) ≤ j ∧ j < 2 ^ 62 := of_decide_eq_true h
theorem re_listR {e : Expr} {as : List Expr} {f : Expr → CE} {x : Str} {p : Pos} (t : Top P G F C k X) (so : ScOk C X) (hg : C.bltn x = true) (hx : x = ("list" : Str)) (he : rangeArgs C e = some as) (hf : ∀ e, RE G P F X W e (f e)) :
    RE G P F X W (.Call (.Name x p) [e] [] pos) (.listR (as.map f)) := by
  obtain ⟨g, hn, hcc⟩ := so.bltn hg
  have hm := t.blt x hcc
  subst hx
  cases e with
  | Call fe es kws pp =>
    cases fe with
    | Name y py =>
      cases kws with
      | cons _ _ => simp [rangeArgs] at he
      | nil =>
        simp only [rangeArgs] at he
        split at he
        · rename_i hc
          rw [Bool.and_eq_true, Bool.and_eq_true] at hc
          obtain ⟨⟨h1, h2⟩, h3⟩ := hc
          have h1' : y = ("range" : Str) := by simpa using h1
          subst h1'
          obtain ⟨g2, _, hc2⟩ := so.bltn h2
          have hm2 := t.blt _ hc2
          have h3' : es.any isStar = false := by simpa using h3
          match es, he, h3' with
          | [a], he, h3' =>
            cases he
            have sa : isStar a = false := by simpa using h3'
            refine (pe_listRg (e := .Call (.Name "range" py) [a] [] pp) t.calm g hm (prg_1 g2 hm2 (hf a) (starEach_cons sa)) rfl).imp fun σ H Q q => ?_
            have q' : tR G RV W (fun L A => (evE P F (f a) L A).bind fun d A => Res.of ((rngLst [d]).map fun l => new A (.lst l))) σ H Q := by
              obtain ⟨ρ, A, L, s, l, o⟩ := q
              refine ⟨ρ, A, L, s, l, ?_⟩
              simp only [evE, List.map_cons, List.map_nil, evEs, res_bind] at o
              simpa only [Res.bind] using o
            refine (tR_seq (R := RV) q').imp fun v H1 ⟨ρ1, A1, L, d, s1, l1, r1, o1⟩ => ?_
            obtain ⟨dd, A', e, o2⟩ := out_of o1
            cases d <;> simp only [rngLst, reduceCtorEq, Option.map_none] at e
            split at e
            · rename_i hl
              rw [Bool.and_eq_true] at hl
              obtain ⟨b1, b2, b3, b4⟩ := okR_ok hl.1
              have b5 := of_decide_eq_true hl.2
              cases e
              exact ⟨_, rv_int r1, ⟨b1, b2, b3, b4, by omega⟩, out_lst (G := G) (W := W) (σ := σ) o2 s1 (rgV_at _ _)⟩
            · cases e
          | [a, b], he, h3' =>
            cases he
            have sa : isStar a = false ∧ isStar b = false := by simpa using h3'
            refine (pe_listRg (e := .Call (.Name "range" py) [a, b] [] pp) t.calm g hm (prg_2 g2 hm2 (hf a) (hf b) (starEach_cons sa.1) (starEach_cons sa.2) (starEach_plain (by simp [sa.2]))) rfl).imp fun σ H Q q => ?_
            have q' : tR G RV W (fun L A => (evE P F (f a) L A).bind fun d A => (evE P F (f b) L A).bind fun d2 A => Res.of ((rngLst [d, d2]).map fun l => new A (.lst l))) σ H Q := by
              obtain ⟨ρ, A, L, s, l, o⟩ := q
              refine ⟨ρ, A, L, s, l, ?_⟩
              simp only [evE, List.map_cons, List.map_nil, evEs, res_bind] at o
              simpa only [Res.bind] using o
            refine (tR_two q').imp fun v H1 q => q.imp fun u H2 ⟨ρ, A, L, d, d2, s1, l, rx, ry, o⟩ => ?_
            obtain ⟨dd, A', e, o2⟩ := out_of o
            cases d <;> cases d2 <;> simp only [rngLst, reduceCtorEq, Option.map_none] at e
            split at e
            · rename_i hl
              rw [Bool.and_eq_true] at hl
              obtain ⟨b1, b2, b3, b4⟩ := okR_ok hl.1
              have b5 := of_decide_eq_true hl.2
              cases e
              exact ⟨_, _, rv_int rx, rv_int ry, ⟨b1, b2, b3, b4, b5⟩, out_lst (G := G) (W := W) (σ := σ) o2 s1 (rgV_at _ _)⟩
            · cases e
        · cases he
    | _ => simp [rangeArgs] at he
  | _ => simp [rangeArgs] at he
end
end Kin
end
section
set_option linter.all false
set_option maxRecDepth 100000
/-! Kin: sorted(set(..)) of integers, and of tuples of integers. -/
namespace Kin
open PySem PySem.Spec PyProof.Rows L2
/-! ### tuples of integers in order -/
theorem lex_irr : ∀ k : List Int, lexLt k k = false
  | [] => rfl
  | x :: r => by simp [lexLt, lex_irr r]
theorem lex_trans : ∀ {a b c : List Int}, lexLt a b = true → lexLt b c = true → lexLt a c = true
  | [], [], _, h, _ => by simp [lexLt] at h
  | [], _ :: _, [], _, h => by simp [lexLt] at h
  | [], _ :: _, _ :: _, _, _ => rfl
  | _ :: _, [], _, h, _ => by simp [lexLt] at h
  | _ :: _, _ :: _, [], _, h => by simp [lexLt] at h
  | x :: a, y :: b, z :: c, h, k => by
    simp only [lexLt, Bool.or_eq_true, Bool.and_eq_true, decide_eq_true_eq] at h k ⊢
    rcases h with h | ⟨h, h'⟩
    · rcases k with k | ⟨k, k'⟩
      · left; omega
      · left; omega
    · rcases k with k | ⟨k, k'⟩
      · left; omega
      · right; exact ⟨by omega, lex_trans h' k'⟩
theorem lex_tri : ∀ {a b : List Int}, lexLt a b = false → a ≠ b → lexLt b a = true
  | [], [], _, h => (h rfl).elim
  | [], _ :: _, h, _ => by simp [lexLt] at h
  | _ :: _, [], _, _ => rfl
  | x :: a, y :: b, h, n => by
    simp only [lexLt, Bool.or_eq_false_iff, Bool.and_eq_false_iff, decide_eq_false_iff_not, Bool.or_eq_true, Bool.and_eq_true, decide_eq_true_eq] at h ⊢
    by_cases e : x = y
    · subst e
      refine .inr ⟨rfl, lex_tri ?_ fun z => n (by rw [z])⟩
      rcases h.2 with q | q
      · exact (q rfl).elim
      · exact q
    · left; omega
abbrev AscT (l : List (List Int)) : Prop := l.Pairwise fun a b => lexLt a b = true
theorem mem_insT {k j : List Int} : ∀ {l : List (List Int)}, j ∈ insT k l ↔ j = k ∨ j ∈ l
  | [] => by simp [insT]
  | x :: r => by
    unfold insT
    split
    · simp
    · split
      · rename_i h; subst h; simp
      · rw [List.mem_cons, mem_insT, List.mem_cons]
        constructor <;> (intro h; rcases h with h | h | h <;> simp [h])
theorem insT_asc {k : List Int} : ∀ {l : List (List Int)}, AscT l → AscT (insT k l)
  | [], _ => by simp [insT, AscT]
  | x :: r, h => by
    have h' := List.pairwise_cons.mp h
    unfold insT
    split
    · rename_i q
      refine List.pairwise_cons.mpr ⟨fun j hj => ?_, h⟩
      rcases List.mem_cons.mp hj with e | e
      · rw [e]; exact q
      · exact lex_trans q (h'.1 j e)
    · rename_i q
      split
      · exact h
      · rename_i ne
        refine List.pairwise_cons.mpr ⟨fun j hj => ?_, insT_asc h'.2⟩
        rcases mem_insT.mp hj with e | e
        · rw [e]; exact lex_tri (by simpa using q) ne
        · exact h'.1 j e
theorem uniqT_go : ∀ (l a : List (List Int)), AscT a → AscT (l.foldl (fun a k => insT k a) a) ∧ ∀ j, j ∈ l.foldl (fun a k => insT k a) a ↔ j ∈ a ∨ j ∈ l
  | [], a, h => ⟨h, fun j => by simp⟩
  | k :: l, a, h => by
    obtain ⟨p, q⟩ := uniqT_go l (insT k a) (insT_asc h)
    refine ⟨p, fun j => ?_⟩
    rw [List.foldl_cons, q j, mem_insT, List.mem_cons]
    rw [or_comm (a := j = k), or_assoc]
theorem uniqT_asc (l : List (List Int)) : AscT (uniqT l) := (uniqT_go l [] List.Pairwise.nil).1
theorem mem_uniqT {l : List (List Int)} {j : List Int} : j ∈ uniqT l ↔ j ∈ l := by
  have := (uniqT_go l [] List.Pairwise.nil).2 j
  unfold uniqT
  rw [this]
  simp
theorem ascT_ext : ∀ {l m : List (List Int)}, AscT l → AscT m → (∀ j, j ∈ l ↔ j ∈ m) → l = m
  | [], [], _, _, _ => rfl
  | [], y :: m, _, _, h => by have := (h y).mpr (by simp); simp at this
  | x :: l, [], _, _, h => by have := (h x).mp (by simp); simp at this
  | x :: l, y :: m, hl, hm, h => by
    have hl' := List.pairwise_cons.mp hl
    have hm' := List.pairwise_cons.mp hm
    have no : ∀ {z : List Int}, lexLt z z = true → False := fun {z} q => by rw [lex_irr] at q; cases q
    have e : x = y := by
      rcases List.mem_cons.mp ((h x).mp (by simp)) with q | q
      · exact q
      · rcases List.mem_cons.mp ((h y).mpr (by simp)) with q2 | q2
        · exact q2.symm
        · exact (no (lex_trans (hm'.1 x q) (hl'.1 y q2))).elim
    subst e
    refine congrArg (x :: ·) (ascT_ext hl'.2 hm'.2 fun j => ⟨fun hj => ?_, fun hj => ?_⟩)
    · rcases List.mem_cons.mp ((h j).mp (by simp [hj])) with q | q
      · subst q; exact (no (hl'.1 _ hj)).elim
      · exact q
    · rcases List.mem_cons.mp ((h j).mpr (by simp [hj])) with q | q
      · subst q; exact (no (hm'.1 _ hj)).elim
      · exact q
theorem code_lexT {B : Int} : ∀ {a b : List Int}, a.length = b.length → TS.Bd B a → TS.Bd B b → TS.code B a ≤ TS.code B b → a = b ∨ lexLt a b = true
  | [], [], _, _, _, _ => .inl rfl
  | [], _ :: _, h, _, _, _ => by simp at h
  | _ :: _, [], h, _, _, _ => by simp at h
  | x :: a, y :: b, hl, ha, hb, h => by
    have hl' : a.length = b.length := by simpa using hl
    rcases Int.lt_trichotomy x y with q | q | q
    · right; simp [lexLt, q]
    · subst q
      have : ¬ TS.code B b < TS.code B a := fun z => by
        have := (TS.code_same (B := B) (d := x) hl'.symm).mpr z
        omega
      rcases code_lexT hl' ha.tail hb.tail (by omega) with e | e
      · left; rw [e]
      · right; simp [lexLt, e]
    · have := TS.code_lt hl'.symm hb.tail ha.tail q
      omega
theorem bd_one : ∀ k : List Int, (∀ i ∈ k, 0 ≤ i) → ∃ B : Int, 0 ≤ B ∧ TS.Bd B k
  | [], _ => ⟨0, Int.le_refl _, fun _ h => by simp at h⟩
  | x :: r, h => by
    obtain ⟨B, b0, hB⟩ := bd_one r fun i hi => h i (by simp [hi])
    refine ⟨B + x + 1, by have := h x (by simp); omega, fun m hm => ?_⟩
    have hx := h x (by simp)
    rcases List.mem_cons.mp hm with e | e
    · subst e; omega
    · have := hB m e; omega
theorem bd_all : ∀ ks : List (List Int), (∀ k ∈ ks, ∀ i ∈ k, 0 ≤ i) → ∃ B : Int, 0 ≤ B ∧ ∀ k ∈ ks, TS.Bd B k
  | [], _ => ⟨0, Int.le_refl _, fun _ h => by simp at h⟩
  | k :: ks, h => by
    obtain ⟨B, b0, hB⟩ := bd_all ks fun m hm => h m (by simp [hm])
    obtain ⟨C, c0, hC⟩ := bd_one k (h k (by simp))
    refine ⟨B + C, by omega, fun m hm i hi => ?_⟩
    rcases List.mem_cons.mp hm with e | e
    · subst e
      have := hC i hi; omega
    · have := hB m e i hi; omega
theorem alikeT_ok {ks : List (List Int)} (h : alikeT ks = true) : ∃ (d : Nat) (B : Int), 1 ≤ d ∧ ∀ k ∈ ks, k.length = d ∧ TS.Bd B k := by
  cases ks with
  | nil => exact ⟨1, 0, Nat.le_refl _, fun k h => by simp at h⟩
  | cons k r =>
    simp only [alikeT, Bool.and_eq_true, decide_eq_true_eq] at h
    obtain ⟨h1, h2⟩ := h
    have h2 := List.all_eq_true.mp h2
    obtain ⟨B, _, hB⟩ := bd_all (k :: r) fun m hm i hi => by
      have := h2 m hm
      rw [Bool.and_eq_true] at this
      exact of_decide_eq_true (List.all_eq_true.mp this.2 i hi)
    refine ⟨k.length, B, h1, fun m hm => ⟨?_, hB m hm⟩⟩
    have := h2 m hm
    rw [Bool.and_eq_true, decide_eq_true_eq] at this
    exact this.1
section
variable {ρ : List Addr} {H : Hp} {K : PySem.W.Frag}
/-- a list of tuples of integers, as it stands -/
theorem tups_at : ∀ {ds : List D} {vs : List V} {ks : List (List Int)}, RVs ρ H ds vs → tupsI ds = some ks → ∃ L : List (Addr × List Int), vs = L.map (fun p => V.ref p.1) ∧ L.map (·.2) = ks ∧ ∀ p ∈ L, H p.1 = some (.tup (p.2.map V.int))
  | [], vs, ks, r, h => by
    simp only [RVs] at r
    simp only [tupsI, Option.some.injEq] at h
    subst r h
    exact ⟨[], rfl, rfl, fun p h => by simp at h⟩
  | .tup ds :: r, vs, ks, rr, h => by
    simp only [RVs] at rr
    obtain ⟨v, t, rfl, rv, rt⟩ := rr
    obtain ⟨a, ws, rfl, ha, ra⟩ := rv_tup rv
    simp only [tupsI] at h
    cases e : intsD ds with
    | none => rw [e] at h; cases h
    | some k =>
      rw [e] at h
      cases e2 : tupsI r with
      | none => rw [e2] at h; cases h
      | some m =>
        rw [e2] at h
        simp only [Option.bind_some, Option.map_some, Option.some.injEq] at h
        subst h
        obtain ⟨L, h1, h2, h3⟩ := tups_at rt e2
        rw [rvs_ints ra e] at ha
        refine ⟨(a, k) :: L, by rw [h1]; rfl, by rw [List.map_cons, h2], fun p hp => ?_⟩
        rcases List.mem_cons.mp hp with z | z
        · subst z; exact ha
        · exact h3 p z
  | .non :: r, vs, ks, rr, h => by simp [tupsI] at h
  | .bl _ :: r, vs, ks, rr, h => by simp [tupsI] at h
  | .int _ :: r, vs, ks, rr, h => by simp [tupsI] at h
  | .str _ :: r, vs, ks, rr, h => by simp [tupsI] at h
  | .ref _ :: r, vs, ks, rr, h => by simp [tupsI] at h
theorem tups_rv : ∀ {L : List (Addr × List Int)}, (∀ p ∈ L, H p.1 = some (.tup (p.2.map V.int))) → RVs ρ H ((L.map (·.2)).map tupI) (L.map fun p => V.ref p.1)
  | [], _ => by simp only [List.map_nil, RVs]
  | p :: L, h => by
    simp only [List.map_cons, RVs]
    refine ⟨_, _, rfl, ?_, tups_rv fun q hq => h q (List.mem_cons_of_mem _ hq)⟩
    exact tup_rv (h p List.mem_cons_self) (isI_at p.2)
end
section
variable {G : Gl} {P : CProg} {F : Fns} {k : Nat} {X : Cx} {C : Ctx} {W : WX} {pos : Pos}
theorem setArg_is {x : Str} {es : List Expr} {e : Expr} (h : setArg C x es = some e) : ∃ y p p', es = [.Call (.Name y p) [e] [] p'] ∧ x = ("sorted" : Str) ∧ y = ("set" : Str) ∧ C.bltn y = true ∧ isStar e = false := by
  unfold setArg at h
  split at h
  · split at h
    · rename_i c
      cases h
      simp only [Bool.and_eq_true, decide_eq_true_eq, Bool.not_eq_true'] at c
      exact ⟨_, _, _, rfl, c.1.1.1, c.1.1.2, c.1.2, c.2⟩
    · cases h
  · cases h
theorem re_sset {x : Str} {e : Expr} {es : List Expr} {ce : CE} {p : Pos} (t : Top P G F C k X) (so : ScOk C X) (hg : C.bltn x = true) (h : setArg C x es = some e) (he : RE G P F X W e ce) : RE G P F X W (.Call (.Name x p) es [] pos) (.sset ce) := by
  obtain ⟨y, p1, p2, rfl, hx, hy, hgy, hs⟩ := setArg_is h
  obtain ⟨g, hn, hcc⟩ := so.bltn hg
  have hm := t.blt x hcc
  obtain ⟨d1, _, d3⟩ := okName_ok hn
  obtain ⟨g', hn', hcc'⟩ := so.bltn hgy
  have hm' := t.blt y hcc'
  obtain ⟨d1', _, d3'⟩ := okName_ok hn'
  have hv : bootBuiltins x = some (.builtin "sorted") := by subst hx; decide +kernel
  have hv' : bootBuiltins y = some (.type "set") := by subst hy; decide +kernel
  have cs := (cr_setI t.calm).or (cr_setOfT t.calm (X := X) (by have := t.units80; omega))
  have cq := (cr_sortedSet t.calm).or (cr_sortedT t.calm (X := X))
  refine (pe_callB cq g hm hv (pa_cons (pe_callTy cs g' hm' hv' (pa_cons he pa_nil (starEach_cons hs)) d3' d1' (starEach_cons hs) (starEach_plain rfl)) pa_nil (starEach_cons rfl)) d3 d1 (starEach_cons rfl) (starEach_plain rfl)).imp fun σ H Q q => ?_
  have q' : tR G RV W (fun L A => (evE P F ce L A).bind fun x A => Res.of (ssetD x A)) σ H Q := by
    obtain ⟨ρ, A, L, s, l, o⟩ := q
    exact ⟨ρ, A, L, s, l, by simpa only [evE] using o⟩
  refine (tR_seq (R := RV) q').imp fun v H1 ⟨ρ1, A1, L, x, s1, l1, r1, o1⟩ => ?_
  obtain ⟨d, A', e1, o2⟩ := out_of o1
  unfold ssetD at e1
  cases q1 : seqOf x A1 with
  | none => rw [q1] at e1; cases e1
  | some ds =>
    rw [q1] at e1
    simp only [Option.bind_some] at e1
    split at e1
    · rename_i is hi
      split at e1
      · rename_i hl
        cases e1
        obtain ⟨a, ws, rfl, ra, hq⟩ := seqOf_at (K := X.K) s1 r1 q1
        rw [rvs_ints ra hi] at hq
        refine .inl ⟨a, is, rfl, hq, by unfold scanBound; omega, fun b hb => .inl ⟨b, _, _, rfl, upd_same, hl.1, fun ns p h1 h2 h3 hp => ?_⟩⟩
        have e : ns = uniq is := asc_ext h1 (uniq_asc is) fun j => by rw [h2 j, decide_eq_true_eq]
        rw [e]
        exact out_lst (OutR.mono (Ext.lay hb) o2) (s1.lay hb) (isI_at (uniq is)) p hp
      · cases e1
    · cases q2 : lstOf x A1 with
      | none => rw [q2] at e1; cases e1
      | some ds' =>
        rw [q2] at e1
        simp only [Option.bind_some] at e1
        cases q3 : tupsI ds' with
        | none => rw [q3] at e1; cases e1
        | some ks =>
          rw [q3] at e1
          simp only [Option.bind_some] at e1
          split at e1
          · rename_i hl
            cases e1
            rw [Bool.and_eq_true, decide_eq_true_eq] at hl
            obtain ⟨a, ws, rfl, ra, ha⟩ := lstOf_at s1 r1 q2
            obtain ⟨L0, e0, e2, h0⟩ := tups_at ra q3
            subst e0
            obtain ⟨dd, B, hd, hB⟩ := alikeT_ok hl.2
            have hk : ∀ p ∈ L0, p.2 ∈ ks := fun p hp => by rw [← e2]; exact List.mem_map_of_mem hp
            refine .inr ⟨a, L0, rfl, .of ha, fun p hp => .of (h0 p hp), by rw [← e2, List.length_map] at hl; exact hl.1, fun b L1 hb hs1 hs2 => ?_⟩
            have h1 : ∀ p ∈ L1, upd H1 b (SetTO X.prog X.w b L1) p.1 = some (.tup (p.2.map V.int)) := fun p hp => by
              have := h0 p (hs1 p hp)
              rw [upd_ne (ne_of_none this hb)]
              exact this
            refine .inr ⟨b, L1, dd, B, rfl, upd_same, fun p hp => .of (h1 p hp), hd, fun p hp => hB _ (hk p (hs1 p hp)), fun L2 c pm nd few pw hc => ?_⟩
            have asc : AscT (L2.map (·.2)) := by
              refine List.pairwise_map.mpr ?_
              have nd' := List.pairwise_map.mp nd
              refine (List.Pairwise.and pw nd').imp_of_mem fun {q r} hq hr ⟨h3, h4⟩ => ?_
              have b1 := hB _ (hk q (hs1 q (pm.mem_iff.mp hq)))
              have b2 := hB _ (hk r (hs1 r (pm.mem_iff.mp hr)))
              rcases code_lexT (by rw [b1.1, b2.1]) b1.2 b2.2 h3 with e | e
              · exact (h4 e).elim
              · exact e
            have e : L2.map (·.2) = uniqT ks := ascT_ext asc (uniqT_asc ks) fun j => by
              rw [mem_uniqT, ← e2]
              constructor
              · intro hj
                obtain ⟨q, hq, rfl⟩ := List.mem_map.mp hj
                exact List.mem_map_of_mem (hs1 q (pm.mem_iff.mp hq))
              · intro hj
                obtain ⟨q, hq, rfl⟩ := List.mem_map.mp hj
                have := hs2 q hq
                exact (pm.map (·.2)).mem_iff.mpr this
            have rr : RVs ρ1 (upd H1 b (SetTO X.prog X.w b L1)) ((uniqT ks).map tupI) (L2.map fun q => V.ref q.1) := by
              rw [← e]
              exact tups_rv fun p hp => h1 p (pm.mem_iff.mp hp)
            have o3 : OutR G RV W σ ρ1 (upd H1 b (SetTO X.prog X.w b L1)) Q (Res.of (some (new A1 (.lst ((uniqT ks).map tupI))))) := OutR.mono (Ext.lay hb) o2
            exact out_lst o3 (s1.lay hb) rr c hc
          · cases e1
end
end Kin
end
section
set_option linter.all false
set_option maxRecDepth 100000
/-! Law 69, what is pure: a web's data, its text, the text read. -/
namespace Kin
open PySem L2
def hueD (hs : List Int) : D := .tup (hs.map .int)
def tieD (ts : List (List Int)) : D := .tup (ts.map tupI)
def parD (m : Int) (hs : List Int) (ts : List (List Int)) : D := .tup [.int m, hueD hs, tieD ts]
def TieOk (m : Int) (t : List Int) : Prop := ∃ k a b, t = [k, a, b] ∧ (0 ≤ k ∧ k < 4) ∧ (0 ≤ a ∧ a < m) ∧ (0 ≤ b ∧ b < m)
structure Ok3 (m : Int) (hs : List Int) (ts : List (List Int)) : Prop where
  m1 : 1 ≤ m
  m2 : m ≤ 40
  hl : hs.length = m.toNat
  hb : ∀ h ∈ hs, 0 ≤ h ∧ h < 10
  tl : ts.length ≤ 1600
  tb : ∀ t ∈ ts, TieOk m t
  asc : AscT ts
abbrev S (l : List Nat) : Str := SX.S l
/-! the text of a web -/
def numT (i : Int) : List Nat := TL.numL i.toNat
def wPlaces : List Nat := [112, 108, 97, 99, 101, 115]
def wHues : List Nat := [104, 117, 101, 115]
def wTie : List Nat := [116, 105, 101]
def lineT (w : List Nat) (is : List Int) : List Nat := TL.joinL [32] (w :: is.map numT)
def linesT (m : Int) (hs : List Int) (ts : List (List Int)) : List (List Nat) := lineT wPlaces [m] :: lineT wHues hs :: ts.map (lineT wTie)
def nl (l : List Nat) : List Nat := l ++ [10]
def webT (m : Int) (hs : List Int) (ts : List (List Int)) : List Nat := ((linesT m hs ts).map nl).flatten
theorem t_places : ("places" : Str) = S wPlaces := by decide +kernel
theorem t_hues : ("hues" : Str) = S wHues := by decide +kernel
theorem t_tie : ("tie" : Str) = S wTie := by decide +kernel
theorem t_sp : (" " : Str) = S [32] := by decide +kernel
theorem t_nl : ("\n" : Str) = S [10] := by decide +kernel
theorem t_none : ("" : Str) = S [] := by decide +kernel
theorem t_placesp : ("places " : Str) = S (wPlaces ++ [32]) := by decide +kernel
theorem joinL_nil : ∀ l : List (List Nat), TL.joinL [] l = l.flatten
  | [] => rfl
  | [p] => by simp [TL.joinL]
  | p :: q :: r => by
    have e : TL.joinL [] (p :: q :: r) = p ++ ([] ++ TL.joinL [] (q :: r)) := rfl
    rw [e, joinL_nil (q :: r)]
    simp
theorem joinL_ends (l : List (List Nat)) : TL.joinL [10] (l ++ [[]]) = (l.map nl).flatten := by
  induction l with
  | nil => rfl
  | cons p r ih =>
    cases r with
    | nil => simp [TL.joinL, nl]
    | cons q r =>
      have e : TL.joinL [10] (p :: q :: r ++ [[]]) = p ++ ([10] ++ TL.joinL [10] (q :: r ++ [[]])) := rfl
      rw [e, ih]
      simp [nl]
theorem numT_digits {i : Int} {c : Nat} (h : c ∈ numT i) : 48 ≤ c ∧ c ≤ 57 := by
  constructor
  · exact Nat.le_of_not_lt fun q => TL.numL_free (n := i.toNat) (s := c) (.inl q) h
  · exact Nat.le_of_not_lt fun q => TL.numL_free (n := i.toNat) (s := c) (.inr q) h
theorem joinL_mem {c : Nat} {s : List Nat} : ∀ {l : List (List Nat)}, c ∈ TL.joinL s l → c ∈ s ∨ ∃ p ∈ l, c ∈ p
  | [], h => by simp [TL.joinL] at h
  | [p], h => .inr ⟨p, by simp, h⟩
  | p :: q :: r, h => by
    have e : TL.joinL s (p :: q :: r) = p ++ (s ++ TL.joinL s (q :: r)) := rfl
    rw [e] at h
    rcases List.mem_append.mp h with h | h
    · exact .inr ⟨p, by simp, h⟩
    · rcases List.mem_append.mp h with h | h
      · exact .inl h
      · rcases joinL_mem h with h | ⟨x, hx, hc⟩
        · exact .inl h
        · exact .inr ⟨x, List.mem_cons_of_mem _ hx, hc⟩
def Word (w : List Nat) : Prop := ∀ c ∈ w, 97 ≤ c ∧ c ≤ 122
theorem word_places : Word wPlaces := by unfold Word; decide
theorem word_hues : Word wHues := by unfold Word; decide
theorem word_tie : Word wTie := by unfold Word; decide
theorem line_parts {w : List Nat} (hw : Word w) (is : List Int) : ∀ p ∈ w :: is.map numT, ∀ c ∈ p, 48 ≤ c := fun p hp c hc => by
  rcases List.mem_cons.mp hp with e | e
  · subst e
    have := (hw c hc).1
    omega
  · obtain ⟨i, _, rfl⟩ := List.mem_map.mp e
    exact (numT_digits hc).1
theorem line_spl {w : List Nat} (hw : Word w) (is : List Int) : TL.spl [32] 0 [] (lineT w is) = w :: is.map numT :=
  TL.spl_join (by simp) fun p hp hc => by
    have := line_parts hw is p hp 32 hc
    omega
theorem line_no10 {w : List Nat} (hw : Word w) (is : List Int) : 10 ∉ lineT w is := fun h => by
  rcases joinL_mem h with h | ⟨p, hp, hc⟩
  · simp at h
  · have := line_parts hw is p hp 10 hc
    omega
theorem lines_word {m : Int} {hs : List Int} {ts : List (List Int)} : ∀ l ∈ linesT m hs ts, ∃ w is, l = lineT w is ∧ Word w := fun l hl => by
  rcases List.mem_cons.mp hl with e | e
  · exact ⟨_, _, e, word_places⟩
  · rcases List.mem_cons.mp e with e | e
    · exact ⟨_, _, e, word_hues⟩
    · obtain ⟨t, _, rfl⟩ := List.mem_map.mp e
      exact ⟨_, _, rfl, word_tie⟩
theorem web_spl (m : Int) (hs : List Int) (ts : List (List Int)) : TL.spl [10] 0 [] (webT m hs ts) = linesT m hs ts ++ [[]] := by
  unfold webT
  rw [← joinL_ends]
  refine TL.spl_join (by simp) fun p hp h => ?_
  rcases List.mem_append.mp hp with hp | hp
  · obtain ⟨w, is, rfl, hw⟩ := lines_word p hp
    exact line_no10 hw is h
  · simp at hp
    subst hp
    simp at h
theorem numT_inj {i j : Int} (hi : 0 ≤ i) (hj : 0 ≤ j) (h : numT i = numT j) : i = j := by
  have := TL.numL_inj h
  omega
theorem nums_inj : ∀ {is js : List Int}, (∀ i ∈ is, 0 ≤ i) → (∀ j ∈ js, 0 ≤ j) → is.map numT = js.map numT → is = js
  | [], [], _, _, _ => rfl
  | [], _ :: _, _, _, h => by simp at h
  | _ :: _, [], _, _, h => by simp at h
  | i :: is, j :: js, hi, hj, h => by
    simp only [List.map_cons, List.cons.injEq] at h
    rw [numT_inj (hi i (by simp)) (hj j (by simp)) h.1, nums_inj (fun x hx => hi x (by simp [hx])) (fun x hx => hj x (by simp [hx])) h.2]
theorem line_inj {w : List Nat} (hw : Word w) {is js : List Int} (hi : ∀ i ∈ is, 0 ≤ i) (hj : ∀ j ∈ js, 0 ≤ j) (h : lineT w is = lineT w js) : is = js := by
  have e := congrArg (TL.spl [32] 0 []) h
  rw [line_spl hw, line_spl hw] at e
  exact nums_inj hi hj (List.cons.inj e).2
theorem TieOk.nn {m : Int} {t : List Int} (h : TieOk m t) : ∀ i ∈ t, 0 ≤ i := by
  obtain ⟨k, a, b, rfl, h1, h2, h3⟩ := h
  intro i hi
  simp only [List.mem_cons, List.not_mem_nil, or_false] at hi
  omega
theorem ties_inj {m m' : Int} : ∀ {ts us : List (List Int)}, (∀ t ∈ ts, TieOk m t) → (∀ t ∈ us, TieOk m' t) → ts.map (lineT wTie) = us.map (lineT wTie) → ts = us
  | [], [], _, _, _ => rfl
  | [], _ :: _, _, _, h => by simp at h
  | _ :: _, [], _, _, h => by simp at h
  | i :: is, j :: js, hi, hj, h => by
    simp only [List.map_cons, List.cons.injEq] at h
    rw [line_inj word_tie (hi i (by simp)).nn (hj j (by simp)).nn h.1, ties_inj (fun x hx => hi x (by simp [hx])) (fun x hx => hj x (by simp [hx])) h.2]
theorem web_inj {m m' : Int} {hs hs' : List Int} {ts ts' : List (List Int)} (h1 : Ok3 m hs ts) (h2 : Ok3 m' hs' ts') (h : webT m hs ts = webT m' hs' ts') : m = m' ∧ hs = hs' ∧ ts = ts' := by
  have e := congrArg (TL.spl [10] 0 []) h
  rw [web_spl, web_spl] at e
  have e := List.append_cancel_right e
  simp only [linesT, List.cons.injEq] at e
  obtain ⟨a, b, c⟩ := e
  have m1 := h1.m1
  have m2 := h2.m1
  have a' := line_inj word_places (is := [m]) (js := [m']) (fun i hi => by simp at hi; omega) (fun i hi => by simp at hi; omega) a
  exact ⟨by simpa using a', line_inj word_hues (fun i hi => (h1.hb i hi).1) (fun i hi => (h2.hb i hi).1) b, ties_inj h1.tb h2.tb c⟩
/-! numbers and texts -/
theorem str_num {i : Int} (h : 0 ≤ i) : ((toString i : String) : Str) = S (numT i) := by
  obtain ⟨n, rfl⟩ := Int.eq_ofNat_of_zero_le h
  exact SX.num_S n
theorem num_len {i : Int} (h0 : 0 ≤ i) (h1 : i < 100) : (numT i).length ≤ 2 := TL.numL_len (by omega) (by omega)
theorem num_ne (i : Int) : numT i ≠ [] := TL.numL_ne _
theorem int_back {i : Int} (h0 : 0 ≤ i) (h1 : i < 100) : intText? (S (numT i)) = some i := by
  obtain ⟨n, rfl⟩ := Int.eq_ofNat_of_zero_le h0
  have e := TL.int_num (n := n) (by have := num_len h0 h1; exact Nat.le_trans this (by omega))
  rw [SX.num_S] at e
  exact e
/-- no figure 0 at the head but the text "0" -/
theorem num_head {i : Int} (h0 : 0 ≤ i) (h1 : i < 100) : (numT i).length = 1 ∨ ∃ c r, numT i = c :: r ∧ c ≠ 48 := by
  have key : ∀ n : Fin 100, (TL.numL n.val).length = 1 ∨ ∃ c r, TL.numL n.val = c :: r ∧ c ≠ 48 := fun n => by
    have : ∀ n : Fin 100, (TL.numL n.val).length = 1 ∨ (TL.numL n.val).headD 48 ≠ 48 := by decide +kernel
    rcases this n with h | h
    · exact .inl h
    · right
      cases e : TL.numL n.val with
      | nil => rw [e] at h; exact (h rfl).elim
      | cons c r => rw [e] at h; exact ⟨c, r, rfl, h⟩
  exact key ⟨i.toNat, by omega⟩
end Kin
end
section
set_option linter.all false
set_option maxRecDepth 100000
namespace Kin
open PySem
local macro_rules | `(tactic| walk_at "go") => `(tactic| try simp only [wps_nil, wps_cons, wps_ex, wps_asg, wps_par, wps_ret, wps_cond, wps_loop, wps_brk, wps_cont, wps_pass, wp_ret, wp_slot, wp_cst, wp_tup, wp_lst, wp_bin, wp_neg, wp_cmp, wp_chain, wp_and, wp_or, wp_not, wp_ifx, wp_idx, wp_slc, wp_rev, wp_call, wp_meth, wp_blt, wp_listR, wp_isi, wp_new, wp_attr, wp_mcall, wp_isc, wp_sset, wps_sta, wp_of1m, cmpE_int, cmpE_str, cmpE_bl, cmpE_tup, cmpE_non, cmpE_ne, cmpE_lt, cmpE_le, cmpE_gt, cmpE_ge, cmpE_isn, cmpE_notn, cmpE_inn, cmpE_nin, wp_star, wp_comp, wp_dct, wp_nil, wp_cons, wp_knil, wp_kcons, wp_onone, wp_osome, wp_iseq, wp_irng, wp_ienum, wp_izip, wp_tslot, wp_ttup, wp_titem, wp_tnil, wp_tcons, wp_fnil, wp_fone, wp_ok, wp_of1, wp_of, wp_of1n, wp_ofn, wp_onB, wp_onBn, wp_calm, wp_bind, wp_ite, wp_exc, wp_bad,
  getL_0, getL_s, bin_add, bin_sub, bin_mul, bin_fdiv, bin_mod, bin_tup, bin_str, cmp_lt, cmp_le, cmp_gt, cmp_ge, cmp_eqI, cmp_eqS, cmp_neI, cmp_neS, cmp_eqB, in_str2, in_str3, truth_bl, truth_int, truth_tup, truth_non, neg_int, intOf_int, tupOf_tup, idx_tup, idx_ref, idxO_lst, atI_0, atI_1, atI_2, atI_3, atI_4, cut_from, cut_to, List.drop_succ_cons, List.drop_zero, List.take_succ_cons, List.take_zero, List.drop_nil, List.take_nil, Int.reduceLE, Int.reduceBEq, blsD_map, blsD_cons, blsD_nil, set_ref, setO_cons, isList_ref, Option.isSome_some, Int.reduceLE, Int.reduceLT, Int.cast_ofNat_Int, Int.reduceToNat, List.getElem?_cons_succ, List.getElem?_cons_zero, Int.reduceNeg, Int.reduceAdd, at_new, and_self, or_true, true_or, true_and, and_true, Int.reducePow, Int.reduceSub, Int.reduceMul, seq_ref, seqO_lst, seqO_frz, lst_ref, lstO_lst, len_ref, list_ref, lisO_lst, append_ref, enWk_tup, enWk_ref, split_str, base_join, base_split, str_int, str_str, int_str, len_str, seqWk_str, extend_tup', extend_ref, base_append, base_extend, base_get, get2_ref, dctO_dct, keyD_int, keyD_str,  tuple_ref, all_ref, any_ref, add_ref, slc_ref, len_tup, list_tup, int_int, int_bl, abs_int, max_int, max_ref, min_int, slc_tup, rev_tup, seqWk_tup, zipWk_tup, rng_one, rng_two, rng_three, wkEnum_items, Option.map_some, Option.bind_some, setAll,
  List.set_cons_zero, List.set_cons_succ, List.set_set, List.foldl_nil, List.foldl_cons, List.length_cons, List.length_nil, List.map_cons, List.map_nil, List.cons_append, List.nil_append, List.replicate_succ, List.replicate_zero, Nat.reduceAdd, Nat.reduceSub, Bool.not_true, Bool.not_false, if_true, if_false, Bool.false_eq_true, decide_eq_true_eq, Nat.reduceLeDiff, lim_lit, wipe, isiD_tup, isiD_str, isiD_int, isiD_bl, isiD_non, isi_tup, isi_str, isi_int, isi_bool, Bool.and_true, Bool.and_false, Bool.true_and, Bool.false_and, tpB_tup, tpB_str, tpB_bl, tpB_int, tpB_non, tpB_ref, isStr_tup, isStr_str, isStr_bl, isStr_int, isStr_non, isStr_ref, isBl_tup, isBl_str, isBl_bl, isBl_int, isBl_non, isBl_ref, isInt_tup, isInt_str, isInt_bl, isInt_int, isInt_non, isInt_ref])
local macro_rules | `(tactic| walk_at "goh") => `(tactic| try simp only [*, Int.reduceBEq, wps_nil, wps_cons, wps_ex, wps_asg, wps_par, wps_ret, wps_cond, wps_loop, wps_brk, wps_cont, wps_pass, wp_ret, wp_slot, wp_cst, wp_tup, wp_lst, wp_bin, wp_neg, wp_cmp, wp_chain, wp_and, wp_or, wp_not, wp_ifx, wp_idx, wp_slc, wp_rev, wp_call, wp_meth, wp_blt, wp_listR, wp_isi, wp_new, wp_attr, wp_mcall, wp_isc, wp_sset, wps_sta, wp_of1m, cmpE_int, cmpE_str, cmpE_bl, cmpE_tup, cmpE_non, cmpE_ne, cmpE_lt, cmpE_le, cmpE_gt, cmpE_ge, cmpE_isn, cmpE_notn, cmpE_inn, cmpE_nin, wp_star, wp_comp, wp_dct, wp_nil, wp_cons, wp_knil, wp_kcons, wp_onone, wp_osome, wp_iseq, wp_irng, wp_ienum, wp_izip, wp_tslot, wp_ttup, wp_titem, wp_tnil, wp_tcons, wp_fnil, wp_fone, wp_ok, wp_of1, wp_of, wp_of1n, wp_ofn, wp_onB, wp_onBn, wp_calm, wp_bind, wp_ite, wp_exc, wp_bad,
  getL_0, getL_s, bin_add, bin_sub, bin_mul, bin_fdiv, bin_mod, bin_tup, bin_str, cmp_lt, cmp_le, cmp_gt, cmp_ge, cmp_eqI, cmp_eqS, cmp_neI, cmp_neS, cmp_eqB, in_str2, in_str3, truth_bl, truth_int, truth_tup, truth_non, neg_int, intOf_int, tupOf_tup, idx_tup, idx_ref, idxO_lst, atI_0, atI_1, atI_2, atI_3, atI_4, cut_from, cut_to, List.drop_succ_cons, List.drop_zero, List.take_succ_cons, List.take_zero, List.drop_nil, List.take_nil, Int.reduceLE, blsD_map, blsD_cons, blsD_nil, set_ref, setO_cons, isList_ref, Option.isSome_some, Int.reduceLE, Int.reduceLT, Int.cast_ofNat_Int, Int.reduceToNat, List.getElem?_cons_succ, List.getElem?_cons_zero, Int.reduceNeg, Int.reduceAdd, at_new, and_self, or_true, true_or, true_and, and_true, Int.reducePow, Int.reduceSub, Int.reduceMul, seq_ref, seqO_lst, seqO_frz, lst_ref, lstO_lst, len_ref, list_ref, lisO_lst, append_ref, enWk_tup, enWk_ref, split_str, base_join, base_split, str_int, str_str, int_str, len_str, seqWk_str, extend_tup', extend_ref, base_append, base_extend, base_get, get2_ref, dctO_dct, keyD_int, keyD_str,  tuple_ref, all_ref, any_ref, add_ref, slc_ref, len_tup, list_tup, int_int, int_bl, abs_int, max_int, max_ref, min_int, slc_tup, rev_tup, seqWk_tup, zipWk_tup, rng_one, rng_two, rng_three, wkEnum_items, Option.map_some, Option.bind_some, setAll,
  List.set_cons_zero, List.set_cons_succ, List.set_set, List.foldl_nil, List.foldl_cons, List.length_cons, List.length_nil, List.map_cons, List.map_nil, List.cons_append, List.nil_append, List.replicate_succ, List.replicate_zero, Nat.reduceAdd, Nat.reduceSub, Bool.not_true, Bool.not_false, if_true, if_false, Bool.false_eq_true, decide_eq_true_eq, Nat.reduceLeDiff, lim_lit, wipe, isiD_tup, isiD_str, isiD_int, isiD_bl, isiD_non, isi_tup, isi_str, isi_int, isi_bool, Bool.and_true, Bool.and_false, Bool.true_and, Bool.false_and, tpB_tup, tpB_str, tpB_bl, tpB_int, tpB_non, tpB_ref, isStr_tup, isStr_str, isStr_bl, isStr_int, isStr_non, isStr_ref, isBl_tup, isBl_str, isBl_bl, isBl_int, isBl_non, isBl_ref, isInt_tup, isInt_str, isInt_bl, isInt_int, isInt_non, isInt_ref])
local macro_rules | `(tactic| walk_at "dr") => `(tactic| (refine draw_ok (by assumption) (by assumption) (by first | assumption | omega | decide) (by first | omega | decide) ?_; intro r A' r0 r1 hp f))
local macro_rules | `(tactic| walk_at "an") => `(tactic| (refine any_ok (by assumption) (by assumption) (Pot.snoc (by assumption) _) at_new (Nat.ne_of_gt (Pot.lt (by assumption))) (by simp) (by simp) ?_; intro d A' hm hp f))
local macro_rules | `(tactic| walk_at "fr") => `(tactic| repeat first | exact Fr.refl _ _ | assumption | refine Fr.snoc ?_ _ | refine Fr.trans ?_ (by assumption) | refine Fr.trans ?_ (Fr.nil (by assumption)))
local macro_rules | `(tactic| walk_at "g1") => `(tactic| try simp only [*, wps_nil, wps_ex, wps_asg, wps_par, wps_ret, wps_cond, wps_loop, wps_brk, wps_cont, wps_pass, wp_ret, wp_slot, wp_cst, wp_tup, wp_lst, wp_bin, wp_neg, wp_cmp, wp_chain, wp_and, wp_or, wp_not, wp_ifx, wp_idx, wp_slc, wp_rev, wp_call, wp_meth, wp_blt, wp_listR, wp_isi, wp_new, wp_attr, wp_mcall, wp_isc, wp_sset, wps_sta, wp_of1m, cmpE_int, cmpE_str, cmpE_bl, cmpE_tup, cmpE_non, cmpE_ne, cmpE_lt, cmpE_le, cmpE_gt, cmpE_ge, cmpE_isn, cmpE_notn, cmpE_inn, cmpE_nin, wp_star, wp_comp, wp_dct, wp_nil, wp_cons, wp_knil, wp_kcons, wp_onone, wp_osome, wp_iseq, wp_irng, wp_ienum, wp_izip, wp_tslot, wp_ttup, wp_titem, wp_tnil, wp_tcons, wp_fnil, wp_fone, wp_ok, wp_of1, wp_of, wp_of1n, wp_ofn, wp_onB, wp_onBn, wp_calm, wp_bind, wp_ite, wp_exc, wp_bad,
  getL_0, getL_s, bin_add, bin_sub, bin_mul, bin_fdiv, bin_mod, bin_tup, bin_str, cmp_lt, cmp_le, cmp_gt, cmp_ge, cmp_eqI, cmp_eqS, cmp_neI, cmp_neS, cmp_eqB, in_str2, in_str3, truth_bl, truth_int, truth_tup, truth_non, neg_int, intOf_int, tupOf_tup, idx_tup, idx_ref, idxO_lst, atI_0, atI_1, atI_2, atI_3, atI_4, cut_from, cut_to, List.drop_succ_cons, List.drop_zero, List.take_succ_cons, List.take_zero, List.drop_nil, List.take_nil, Int.reduceLE, Int.reduceBEq, blsD_map, blsD_cons, blsD_nil, set_ref, setO_cons, isList_ref, Option.isSome_some, Int.reduceLE, Int.reduceLT, Int.cast_ofNat_Int, Int.reduceToNat, List.getElem?_cons_succ, List.getElem?_cons_zero, Int.reduceNeg, Int.reduceAdd, at_new, and_self, or_true, true_or, true_and, and_true, Int.reducePow, Int.reduceSub, Int.reduceMul, seq_ref, seqO_lst, seqO_frz, lst_ref, lstO_lst, len_ref, list_ref, lisO_lst, append_ref, enWk_tup, enWk_ref, split_str, base_join, base_split, str_int, str_str, int_str, len_str, seqWk_str, extend_tup', extend_ref, base_append, base_extend, base_get, get2_ref, dctO_dct, keyD_int, keyD_str,  tuple_ref, all_ref, any_ref, add_ref, slc_ref, len_tup, list_tup, int_int, int_bl, abs_int, max_int, max_ref, min_int, slc_tup, rev_tup, seqWk_tup, zipWk_tup, rng_one, rng_two, rng_three, wkEnum_items, Option.map_some, Option.bind_some, setAll,
  List.set_cons_zero, List.set_cons_succ, List.set_set, List.foldl_nil, List.foldl_cons, List.length_cons, List.length_nil, List.map_cons, List.map_nil, List.cons_append, List.nil_append, List.replicate_succ, List.replicate_zero, Nat.reduceAdd, Nat.reduceSub, Bool.not_true, Bool.not_false, if_true, if_false, Bool.false_eq_true, decide_eq_true_eq, Nat.reduceLeDiff, lim_lit, wipe, isiD_tup, isiD_str, isiD_int, isiD_bl, isiD_non, isi_tup, isi_str, isi_int, isi_bool, Bool.and_true, Bool.and_false, Bool.true_and, Bool.false_and, tpB_tup, tpB_str, tpB_bl, tpB_int, tpB_non, tpB_ref, isStr_tup, isStr_str, isStr_bl, isStr_int, isStr_non, isStr_ref, isBl_tup, isBl_str, isBl_bl, isBl_int, isBl_non, isBl_ref, isInt_tup, isInt_str, isInt_bl, isInt_int, isInt_non, isInt_ref])
local macro_rules | `(tactic| walk_at "go1") => `(tactic| try simp only [wps_nil, wps_ex, wps_asg, wps_par, wps_ret, wps_cond, wps_loop, wps_brk, wps_cont, wps_pass, wp_ret, wp_slot, wp_cst, wp_tup, wp_lst, wp_bin, wp_neg, wp_cmp, wp_chain, wp_and, wp_or, wp_not, wp_ifx, wp_idx, wp_slc, wp_rev, wp_call, wp_meth, wp_blt, wp_listR, wp_isi, wp_new, wp_attr, wp_mcall, wp_isc, wp_sset, wps_sta, wp_of1m, cmpE_int, cmpE_str, cmpE_bl, cmpE_tup, cmpE_non, cmpE_ne, cmpE_lt, cmpE_le, cmpE_gt, cmpE_ge, cmpE_isn, cmpE_notn, cmpE_inn, cmpE_nin, wp_star, wp_comp, wp_dct, wp_nil, wp_cons, wp_knil, wp_kcons, wp_onone, wp_osome, wp_iseq, wp_irng, wp_ienum, wp_izip, wp_tslot, wp_ttup, wp_titem, wp_tnil, wp_tcons, wp_fnil, wp_fone, wp_ok, wp_of1, wp_of, wp_of1n, wp_ofn, wp_onB, wp_onBn, wp_calm, wp_bind, wp_ite, wp_exc, wp_bad,
  getL_0, getL_s, bin_add, bin_sub, bin_mul, bin_fdiv, bin_mod, bin_tup, bin_str, cmp_lt, cmp_le, cmp_gt, cmp_ge, cmp_eqI, cmp_eqS, cmp_neI, cmp_neS, cmp_eqB, in_str2, in_str3, truth_bl, truth_int, truth_tup, truth_non, neg_int, intOf_int, tupOf_tup, idx_tup, idx_ref, idxO_lst, atI_0, atI_1, atI_2, atI_3, atI_4, cut_from, cut_to, List.drop_succ_cons, List.drop_zero, List.take_succ_cons, List.take_zero, List.drop_nil, List.take_nil, Int.reduceLE, Int.reduceBEq, blsD_map, blsD_cons, blsD_nil, set_ref, setO_cons, isList_ref, Option.isSome_some, Int.reduceLE, Int.reduceLT, Int.cast_ofNat_Int, Int.reduceToNat, List.getElem?_cons_succ, List.getElem?_cons_zero, Int.reduceNeg, Int.reduceAdd, at_new, and_self, or_true, true_or, true_and, and_true, Int.reducePow, Int.reduceSub, Int.reduceMul, seq_ref, seqO_lst, seqO_frz, lst_ref, lstO_lst, len_ref, list_ref, lisO_lst, append_ref, enWk_tup, enWk_ref, split_str, base_join, base_split, str_int, str_str, int_str, len_str, seqWk_str, extend_tup', extend_ref, base_append, base_extend, base_get, get2_ref, dctO_dct, keyD_int, keyD_str,  tuple_ref, all_ref, any_ref, add_ref, slc_ref, len_tup, list_tup, int_int, int_bl, abs_int, max_int, max_ref, min_int, slc_tup, rev_tup, seqWk_tup, zipWk_tup, rng_one, rng_two, rng_three, wkEnum_items, Option.map_some, Option.bind_some, setAll,
  List.set_cons_zero, List.set_cons_succ, List.set_set, List.foldl_nil, List.foldl_cons, List.length_cons, List.length_nil, List.map_cons, List.map_nil, List.cons_append, List.nil_append, List.replicate_succ, List.replicate_zero, Nat.reduceAdd, Nat.reduceSub, Bool.not_true, Bool.not_false, if_true, if_false, Bool.false_eq_true, decide_eq_true_eq, Nat.reduceLeDiff, lim_lit, wipe, isiD_tup, isiD_str, isiD_int, isiD_bl, isiD_non, isi_tup, isi_str, isi_int, isi_bool, Bool.and_true, Bool.and_false, Bool.true_and, Bool.false_and, tpB_tup, tpB_str, tpB_bl, tpB_int, tpB_non, tpB_ref, isStr_tup, isStr_str, isStr_bl, isStr_int, isStr_non, isStr_ref, isBl_tup, isBl_str, isBl_bl, isBl_int, isBl_non, isBl_ref, isInt_tup, isInt_str, isInt_bl, isInt_int, isInt_non, isInt_ref])
/-! ### kit: lists that stand still -/
/-- a comprehension over a list that tells g of each item -/
theorem comp_mapL {n : Nat} {ds : List D} {f : D → List D → AH → Res (List D)} {g : D → D} {A : AH} {Q : List D → AH → Prop} {E : Ex → AH → Prop} (H : AH → Prop) (hH : ∀ A, H A → A[n]? = some (.lst ds)) (hl : ds.length < fuel) (h0 : H A)
    (step : ∀ d acc A', d ∈ ds → acc.length < 16777216 → H A' → Wp (f d acc A') (fun acc' A'' => acc' = acc ++ [g d] ∧ H A'') E)
    (go : ∀ A', H A' → Q (ds.map g) A') : Wp (overW (wkLive n) f fuel 0 [] A) Q E := by
  refine comp_live (fun i acc A' => acc = (ds.take i).map g ∧ H A') (fun i acc A' h => hH _ h.2) hl ⟨rfl, h0⟩ (fun i d acc A' hd ⟨e, h⟩ => ?_) fun acc A' ⟨e, h⟩ => ?_
  · have hi : i < ds.length := by
      by_cases c : i < ds.length
      · exact c
      · rw [List.getElem?_eq_none (by omega)] at hd; cases hd
    refine (step d acc A' (List.mem_of_getElem? hd) ?_ h).mono (fun acc' A'' ⟨e', h'⟩ => ⟨?_, h'⟩) fun _ _ e => e
    · rw [e, List.length_map, List.length_take]
      unfold fuel at hl
      omega
    · rw [e', e, List.take_add_one, hd, List.map_append]
      rfl
  · rw [e, List.take_length]
    exact go A' h
theorem all_true {α : Type} (l : List α) : blsD (l.map fun _ => D.bl true) = some (l.map fun _ => true) := by
  have := blsD_map (l.map fun _ => true)
  rw [List.map_map] at this
  exact this
theorem all_id_true {α : Type} (l : List α) : (l.map fun _ => true).all id = true := by simp
section
variable {P : CProg} {k : Nat} {A : AH} {Q : D → AH → Prop} {E : Ex → AH → Prop}
theorem whole0 (h : Is69 P) {i : Int} (q : Q (.bl true) A) : Wp ((fns P (k + 1)).call 0 [.int i] A) Q E := by
  rw [wp_def h.d0 rfl]; unfold b69_0
  walk_at "go"
  exact q
theorem number1 (h : Is69 P) {i : Int} (h0 : 0 ≤ i) (q : Q (.bl true) A) : Wp ((fns P (k + 2)).call 1 [.int i] A) Q E := by
  rw [wp_def h.d1 rfl]; unfold b69_1
  walk_at "go"
  refine whole0 h ?_
  walk_at "go"
  simpa [h0] using q
theorem below2 (h : Is69 P) {n i : Int} (h0 : 0 ≤ i) (h1 : i < n) (q : Q (.bl true) A) : Wp ((fns P (k + 3)).call 2 [.int n, .int i] A) Q E := by
  rw [wp_def h.d2 rfl]; unfold b69_2
  walk_at "go"
  refine number1 h h0 ?_
  walk_at "go"
  simpa [h1] using q
theorem hues4 (h : Is69 P) {m : Int} {hs : List Int} (m1 : 1 ≤ m) (m2 : m ≤ 40) (hl : hs.length = m.toNat) (hb : ∀ h ∈ hs, 0 ≤ h ∧ h < 10) (go : ∀ A', Fr [] A A' → Q (.bl true) A') : Wp ((fns P (k + 4)).call 4 [.int m, hueD hs] A) Q E := by
  rw [wp_def h.d4 rfl]; unfold b69_4 hueD
  have e : ((hs.map D.int).length : Int) = m := by rw [List.length_map, hl]; omega
  have b : (m == m) = true := by simp
  rw [wps_cons]
  walk_at "go"
  simp only [e, b, Bool.not_true, Bool.false_eq_true, if_false]
  walk_at "go"
  refine comp_map (g := fun _ => .bl true) (fun A' => A' = A) (by simp [fuel, hl]; omega) rfl (fun d acc A' hd ha hA => ?_) fun A' hA => ?_
  · obtain ⟨i, hi, rfl⟩ := List.mem_map.mp hd
    subst hA
    walk_at "go"
    refine below2 h (hb i hi).1 (hb i hi).2 ?_
    simp only [ha, if_true, wp_ok]
    exact ⟨trivial, trivial⟩
  · subst hA
    simp only [at_new, Option.bind_some, lstO_lst, all_true, Option.map_some, all_id_true, wp_of]
    exact go _ ((Fr.refl _ _).snoc _)
theorem tie5 (h : Is69 P) {m : Int} {t : List Int} (ht : TieOk m t) (q : Q (.bl true) A) : Wp ((fns P (k + 4)).call 5 [.int m, tupI t] A) Q E := by
  rw [wp_def h.d5 rfl]; unfold b69_5
  obtain ⟨c, a, b, rfl, h1, h2, h3⟩ := ht
  unfold tupI
  walk_at "go"
  refine below2 h h1.1 h1.2 ?_
  walk_at "go"
  refine below2 h h2.1 h2.2 ?_
  walk_at "go"
  refine below2 h h3.1 h3.2 ?_
  exact q
end
end Kin
end
section
set_option linter.all false
set_option maxRecDepth 100000
/-! Kin 33: tuples of integers: shown, compared, in order. -/
namespace Kin
open PySem
abbrev pyI (t : List Int) : PyData := .tuple (t.map .int)
theorem pyD_tupI {n : Nat} {A : AH} (t : List Int) : pyD (n + 2) A (tupI t) = some (pyI t) := by
  show (allS ((t.map D.int).map (pyD (n + 1) A))).map PyData.tuple = _
  rw [pyD_ints]
  rfl
theorem pyD_tups {n : Nat} {A : AH} (ts : List (List Int)) : allS ((ts.map tupI).map (pyD (n + 2) A)) = some (ts.map pyI) := by
  rw [← allS_some (ts.map pyI), List.map_map, List.map_map]
  congr 1
  exact List.map_congr_left fun t _ => pyD_tupI t
theorem toks_lex : ∀ xs ys : List Int, PyProof.Rows.lexLt PyProof.Rows.itemOrd (PySem.W.keyToksAll (xs.map PyData.int)) (PySem.W.keyToksAll (ys.map PyData.int)) = lexLt xs ys
  | [], [] => PyProof.Rows.lex_irrefl (O := PyProof.Rows.itemOrd) _
  | [], y :: ys => by
    rw [List.map_cons, PySem.W.toks_all_cons]
    exact PyProof.Rows.lex_diff (O := PyProof.Rows.itemOrd) (by simp)
  | x :: xs, [] => by
    rw [List.map_cons, PySem.W.toks_all_cons]
    exact PyProof.Rows.lex_diff (O := PyProof.Rows.itemOrd) (by simp)
  | x :: xs, y :: ys => by
    rw [List.map_cons, List.map_cons]
    by_cases e : x = y
    · subst e
      rw [PySem.W.dataLt_all_yes (by rfl) (by show (x == x) = true; simp), toks_lex xs ys]
      simp [lexLt]
    · rw [PySem.W.dataLt_all_no (by rfl) (by show (x == y) = false; simpa using e), PySem.W.dataLt_int]
      simp [lexLt, e]
theorem dataLt_pyI (a b : List Int) : PySem.W.dataLt (pyI a) (pyI b) = lexLt a b := by
  rw [PySem.W.dataLt_tuple]
  exact toks_lex a b
theorem alike_ints : ∀ a b : List Int, PySem.W.alikeAll (a.map PyData.int) (b.map PyData.int) = true
  | [], _ => by cases ‹List Int› <;> rfl
  | _ :: _, [] => rfl
  | x :: a, y :: b => by
    show (PySem.W.alike (.int x) (.int y) && PySem.W.alikeAll (a.map PyData.int) (b.map PyData.int)) = true
    rw [alike_ints a b]
    rfl
theorem alike_pyI (a b : List Int) : PySem.W.alike (pyI a) (pyI b) = true := alike_ints a b
theorem depth_ints : ∀ a : List Int, PyData.depthAll (a.map PyData.int) = 0
  | [] => rfl
  | x :: a => by
    show max (PyData.depth (.int x)) (PyData.depthAll (a.map PyData.int)) = 0
    rw [depth_ints a]
    rfl
theorem depth_pyI (a : List Int) : (pyI a).depth = 1 := by
  show PyData.depthAll (a.map PyData.int) + 1 = 1
  rw [depth_ints]
theorem cmp_leT {a b : List Int} {A : AH} : cmpD .le (tupI a) (tupI b) A = some (!lexLt b a) := by
  show ordP .le (tupI a) (tupI b) A = _
  unfold ordP
  rw [show deep = 58 + 2 from rfl, pyD_tupI, pyD_tupI]
  simp only [alike_pyI, depth_pyI, notNone, ordO, dataLt_pyI]
  rfl
theorem sortB_tups {ts : List (List Int)} (h : ∀ t ∈ ts, t ≠ []) : sortB (ts.map pyI) = true := by
  unfold sortB
  simp only [Bool.and_eq_true, Bool.or_eq_true, List.all_map, List.all_eq_true, Function.comp_apply]
  refine ⟨fun t ht => ⟨?_, fun j _ => alike_pyI _ _⟩, .inl fun t ht => ?_⟩
  · rw [depth_pyI]; decide
  · cases t with
    | nil => exact (h _ ht rfl).elim
    | cons x t => rfl
def lexLe (a b : List Int) : Bool := !lexLt b a
theorem lexLe_trans (a b c : List Int) (h1 : lexLe a b = true) (h2 : lexLe b c = true) : lexLe a c = true := by
  unfold lexLe at *
  simp only [Bool.not_eq_true'] at *
  cases e : lexLt c a with
  | false => rfl
  | true =>
    by_cases q : b = c
    · subst q; rw [e] at h1; cases h1
    · have := lex_tri h2 (fun z => q z.symm)
      have := lex_trans this e
      rw [this] at h1
      cases h1
theorem lexLe_total (a b : List Int) : (lexLe a b || lexLe b a) = true := by
  unfold lexLe
  cases e : lexLt b a with
  | false => rfl
  | true =>
    cases e2 : lexLt a b with
    | false => rfl
    | true =>
      have := lex_trans e e2
      rw [lex_irr] at this
      cases this
theorem sortP_tups (ts : List (List Int)) : sortP (ts.map tupI) (ts.map pyI) = (ts.mergeSort lexLe).map tupI := by
  unfold sortP
  have e : (ts.map tupI).zip (ts.map pyI) = ts.map fun t => (tupI t, pyI t) := by
    induction ts with
    | nil => rfl
    | cons i is ih => simp only [List.map_cons, List.zip_cons_cons, ih]
  rw [e, ← PySem.W.sort_maps (r := lexLe) (fun t => (tupI t, pyI t)) fun a _ b _ => ?_, List.map_map]
  · rfl
  · show lexLe a b = !PySem.W.dataLt (pyI b) (pyI a)
    rw [dataLt_pyI]
    rfl
theorem sortT_nodup {ts : List (List Int)} (h : ts.Nodup) : ts.mergeSort lexLe = uniqT ts := by
  have p := List.mergeSort_perm ts lexLe
  refine ascT_ext ?_ (uniqT_asc _) fun j => by rw [p.mem_iff, mem_uniqT]
  have s : (ts.mergeSort lexLe).Pairwise fun a b => lexLe a b = true := List.pairwise_mergeSort lexLe_trans lexLe_total ts
  have n : (ts.mergeSort lexLe).Nodup := p.nodup_iff.mpr h
  refine (s.and n).imp fun {a b} hh => ?_
  have h1 : lexLt b a = false := by simpa [lexLe] using hh.1
  exact lex_tri h1 fun z => hh.2 z.symm
theorem sortD_tups {A : AH} {ts : List (List Int)} (h : ts.Nodup) (hn : ∀ t ∈ ts, t ≠ []) (hl : ts.length ≤ lim) : sortD (ts.map tupI) A = some ((uniqT ts).map tupI) := by
  unfold sortD
  rw [show deep = 58 + 2 from rfl, pyD_tups]
  simp only [Option.bind_some, sortB_tups hn, Bool.true_and, List.length_map, hl, decide_true, if_true, sortP_tups, sortT_nodup h]
/-! the same, and other -/
theorem eqv_ints : ∀ a b : List Int, PyData.eqvAll (a.map PyData.int) (b.map PyData.int) = decide (a = b)
  | [], [] => rfl
  | [], _ :: _ => rfl
  | _ :: _, [] => rfl
  | x :: a, y :: b => by
    show ((x == y) && PyData.eqvAll (a.map PyData.int) (b.map PyData.int)) = _
    rw [eqv_ints a b]
    by_cases e : x = y <;> simp [e]
theorem eqv_tups : ∀ a b : List (List Int), PyData.eqvAll (a.map pyI) (b.map pyI) = decide (a = b)
  | [], [] => rfl
  | [], _ :: _ => rfl
  | _ :: _, [] => rfl
  | x :: a, y :: b => by
    show (PyData.eqvAll (x.map PyData.int) (y.map PyData.int) && PyData.eqvAll (a.map pyI) (b.map pyI)) = _
    rw [eqv_tups a b, eqv_ints x y]
    by_cases e : x = y <;> simp [e]
theorem lay_ints : ∀ a : List Int, PyData.canLayAll0 (a.map PyData.int) = true
  | [] => rfl
  | x :: a => by
    show (PyData.canLay0 (.int x) && PyData.canLayAll0 (a.map PyData.int)) = true
    rw [lay_ints a]
    rfl
theorem shaped_pyI (a : List Int) : SeqAt.shaped (pyI a) = true := by
  unfold SeqAt.shaped
  rw [depth_pyI, show (pyI a).canLay0 = true from lay_ints a]
  rfl
theorem lay_tups : ∀ a : List (List Int), PyData.canLayAll0 (a.map pyI) = true
  | [] => rfl
  | x :: a => by
    show (PyData.canLay0 (pyI x) && PyData.canLayAll0 (a.map pyI)) = true
    rw [lay_tups a, show (pyI x).canLay0 = true from lay_ints x]
    rfl
theorem depth_tups : ∀ a : List (List Int), PyData.depthAll (a.map pyI) ≤ 1
  | [] => Nat.zero_le _
  | x :: a => by
    show max (PyData.depth (pyI x)) (PyData.depthAll (a.map pyI)) ≤ 1
    rw [depth_pyI]
    exact Nat.max_le.mpr ⟨Nat.le_refl _, depth_tups a⟩
abbrev pyT (ts : List (List Int)) : PyData := .tuple (ts.map pyI)
theorem shaped_pyT (a : List (List Int)) : SeqAt.shaped (pyT a) = true := by
  unfold SeqAt.shaped
  rw [show (pyT a).canLay0 = true from lay_tups a, Bool.true_and]
  refine decide_eq_true ?_
  show PyData.depthAll (a.map pyI) + 1 ≤ 64
  have := depth_tups a
  omega
theorem pyD_tieT {n : Nat} {A : AH} (ts : List (List Int)) : pyD (n + 3) A (.tup (ts.map tupI)) = some (pyT ts) := by
  show (allS ((ts.map tupI).map (pyD (n + 2) A))).map PyData.tuple = _
  rw [pyD_tups]
  rfl
theorem cmp_eqT {a b : List Int} {A : AH} : cmpD .eq (tupI a) (tupI b) A = some (decide (a = b)) := by
  show eqP (tupI a) (tupI b) A = _
  unfold eqP
  rw [show deep = 58 + 2 from rfl, pyD_tupI, pyD_tupI]
  simp only [shaped_pyI, Bool.and_self, if_true]
  exact congrArg some (eqv_ints a b)
theorem cmp_eqTT {a b : List (List Int)} {A : AH} : cmpD .eq (.tup (a.map tupI)) (.tup (b.map tupI)) A = some (decide (a = b)) := by
  show eqP (.tup (a.map tupI)) (.tup (b.map tupI)) A = _
  unfold eqP
  rw [show deep = 57 + 3 from rfl, pyD_tieT, pyD_tieT]
  simp only [shaped_pyT, Bool.and_self, if_true]
  exact congrArg some (eqv_tups a b)
theorem ninT {t : List Int} {ts : List (List Int)} {A : AH} : cmpD .nin (tupI t) (.tup (ts.map tupI)) A = some (!decide (t ∈ ts)) := by
  show (inD (tupI t) (.tup (ts.map tupI)) A).map (!·) = _
  cases ts with
  | nil => rfl
  | cons u us =>
    have e0 : inD0 (tupI t) (.tup ((u :: us).map tupI)) A = none := rfl
    have e1 : inD1 (tupI t) (.tup ((u :: us).map tupI)) A = match pyD deep A (tupI t), pyD deep A (.tup ((u :: us).map tupI)) with
      | some p, some (.list ps) => if SeqAt.shaped p && SeqAt.shaped (.list ps) then some (ps.any fun z => PyData.eqv z p) else none
      | some p, some (.tuple ps) => if SeqAt.shaped p && SeqAt.shaped (.tuple ps) then some (ps.any fun z => PyData.eqv z p) else none
      | _, _ => none := rfl
    unfold inD
    rw [e0]
    simp only
    rw [e1, show deep = 57 + 3 from rfl, pyD_tieT, show (57 + 3 : Nat) = 58 + 2 from rfl, pyD_tupI]
    simp only [shaped_pyI, show SeqAt.shaped (.tuple ((u :: us).map pyI)) = true from shaped_pyT _, Bool.and_self, if_true, Option.map_some, Option.some.injEq]
    congr 1
    rw [List.any_map]
    have : ∀ l : List (List Int), (l.any ((fun z => z.eqv (pyI t)) ∘ pyI)) = decide (t ∈ l) := fun l => by
      induction l with
      | nil => rfl
      | cons x l ih =>
        rw [List.any_cons, ih]
        show (PyData.eqvAll (x.map PyData.int) (t.map PyData.int) || decide (t ∈ l)) = _
        rw [eqv_ints]
        by_cases e : x = t
        · simp [e]
        · simp [e, Ne.symm e]
    exact this _
theorem uniqT_len {ts : List (List Int)} (h : ts.Nodup) : (uniqT ts).length = ts.length := by
  rw [← sortT_nodup h]
  exact (List.mergeSort_perm ts lexLe).length_eq
theorem ascT_nodup {ts : List (List Int)} (h : AscT ts) : ts.Nodup := h.imp fun {a b} q e => by
  subst e
  rw [lex_irr] at q
  cases q
theorem uniqT_id {ts : List (List Int)} (h : AscT ts) : uniqT ts = ts := ascT_ext (uniqT_asc _) h fun j => mem_uniqT
end Kin
end
section
set_option linter.all false
set_option maxRecDepth 100000
namespace Kin
open PySem
local macro_rules | `(tactic| walk_at "go") => `(tactic| try simp only [wps_nil, wps_cons, wps_ex, wps_asg, wps_par, wps_ret, wps_cond, wps_loop, wps_brk, wps_cont, wps_pass, wp_ret, wp_slot, wp_cst, wp_tup, wp_lst, wp_bin, wp_neg, wp_cmp, wp_chain, wp_and, wp_or, wp_not, wp_ifx, wp_idx, wp_slc, wp_rev, wp_call, wp_meth, wp_blt, wp_listR, wp_isi, wp_new, wp_attr, wp_mcall, wp_isc, wp_sset, wps_sta, wp_of1m, cmpE_int, cmpE_str, cmpE_bl, cmpE_tup, cmpE_non, cmpE_ne, cmpE_lt, cmpE_le, cmpE_gt, cmpE_ge, cmpE_isn, cmpE_notn, cmpE_inn, cmpE_nin, wp_star, wp_comp, wp_dct, wp_nil, wp_cons, wp_knil, wp_kcons, wp_onone, wp_osome, wp_iseq, wp_irng, wp_ienum, wp_izip, wp_tslot, wp_ttup, wp_titem, wp_tnil, wp_tcons, wp_fnil, wp_fone, wp_ok, wp_of1, wp_of, wp_of1n, wp_ofn, wp_onB, wp_onBn, wp_calm, wp_bind, wp_ite, wp_exc, wp_bad,
  getL_0, getL_s, bin_add, bin_sub, bin_mul, bin_fdiv, bin_mod, bin_tup, bin_str, cmp_lt, cmp_le, cmp_gt, cmp_ge, cmp_eqI, cmp_eqS, cmp_neI, cmp_neS, cmp_eqB, in_str2, in_str3, truth_bl, truth_int, truth_tup, truth_non, neg_int, intOf_int, tupOf_tup, idx_tup, idx_ref, idxO_lst, atI_0, atI_1, atI_2, atI_3, atI_4, cut_from, cut_to, List.drop_succ_cons, List.drop_zero, List.take_succ_cons, List.take_zero, List.drop_nil, List.take_nil, Int.reduceLE, Int.reduceBEq, blsD_map, blsD_cons, blsD_nil, set_ref, setO_cons, isList_ref, Option.isSome_some, Int.reduceLE, Int.reduceLT, Int.cast_ofNat_Int, Int.reduceToNat, List.getElem?_cons_succ, List.getElem?_cons_zero, Int.reduceNeg, Int.reduceAdd, at_new, and_self, or_true, true_or, true_and, and_true, Int.reducePow, Int.reduceSub, Int.reduceMul, seq_ref, seqO_lst, seqO_frz, lst_ref, lstO_lst, len_ref, list_ref, lisO_lst, append_ref, enWk_tup, enWk_ref, split_str, base_join, base_split, str_int, str_str, int_str, len_str, seqWk_str, extend_tup', extend_ref, base_append, base_extend, base_get, get2_ref, dctO_dct, keyD_int, keyD_str,  tuple_ref, all_ref, any_ref, add_ref, slc_ref, len_tup, list_tup, int_int, int_bl, abs_int, max_int, max_ref, min_int, slc_tup, rev_tup, seqWk_tup, zipWk_tup, rng_one, rng_two, rng_three, wkEnum_items, Option.map_some, Option.bind_some, setAll,
  List.set_cons_zero, List.set_cons_succ, List.set_set, List.foldl_nil, List.foldl_cons, List.length_cons, List.length_nil, List.map_cons, List.map_nil, List.cons_append, List.nil_append, List.replicate_succ, List.replicate_zero, Nat.reduceAdd, Nat.reduceSub, Bool.not_true, Bool.not_false, if_true, if_false, Bool.false_eq_true, decide_eq_true_eq, Nat.reduceLeDiff, lim_lit, wipe, isiD_tup, isiD_str, isiD_int, isiD_bl, isiD_non, isi_tup, isi_str, isi_int, isi_bool, Bool.and_true, Bool.and_false, Bool.true_and, Bool.false_and, tpB_tup, tpB_str, tpB_bl, tpB_int, tpB_non, tpB_ref, isStr_tup, isStr_str, isStr_bl, isStr_int, isStr_non, isStr_ref, isBl_tup, isBl_str, isBl_bl, isBl_int, isBl_non, isBl_ref, isInt_tup, isInt_str, isInt_bl, isInt_int, isInt_non, isInt_ref])
local macro_rules | `(tactic| walk_at "goh") => `(tactic| try simp only [*, Int.reduceBEq, wps_nil, wps_cons, wps_ex, wps_asg, wps_par, wps_ret, wps_cond, wps_loop, wps_brk, wps_cont, wps_pass, wp_ret, wp_slot, wp_cst, wp_tup, wp_lst, wp_bin, wp_neg, wp_cmp, wp_chain, wp_and, wp_or, wp_not, wp_ifx, wp_idx, wp_slc, wp_rev, wp_call, wp_meth, wp_blt, wp_listR, wp_isi, wp_new, wp_attr, wp_mcall, wp_isc, wp_sset, wps_sta, wp_of1m, cmpE_int, cmpE_str, cmpE_bl, cmpE_tup, cmpE_non, cmpE_ne, cmpE_lt, cmpE_le, cmpE_gt, cmpE_ge, cmpE_isn, cmpE_notn, cmpE_inn, cmpE_nin, wp_star, wp_comp, wp_dct, wp_nil, wp_cons, wp_knil, wp_kcons, wp_onone, wp_osome, wp_iseq, wp_irng, wp_ienum, wp_izip, wp_tslot, wp_ttup, wp_titem, wp_tnil, wp_tcons, wp_fnil, wp_fone, wp_ok, wp_of1, wp_of, wp_of1n, wp_ofn, wp_onB, wp_onBn, wp_calm, wp_bind, wp_ite, wp_exc, wp_bad,
  getL_0, getL_s, bin_add, bin_sub, bin_mul, bin_fdiv, bin_mod, bin_tup, bin_str, cmp_lt, cmp_le, cmp_gt, cmp_ge, cmp_eqI, cmp_eqS, cmp_neI, cmp_neS, cmp_eqB, in_str2, in_str3, truth_bl, truth_int, truth_tup, truth_non, neg_int, intOf_int, tupOf_tup, idx_tup, idx_ref, idxO_lst, atI_0, atI_1, atI_2, atI_3, atI_4, cut_from, cut_to, List.drop_succ_cons, List.drop_zero, List.take_succ_cons, List.take_zero, List.drop_nil, List.take_nil, Int.reduceLE, blsD_map, blsD_cons, blsD_nil, set_ref, setO_cons, isList_ref, Option.isSome_some, Int.reduceLE, Int.reduceLT, Int.cast_ofNat_Int, Int.reduceToNat, List.getElem?_cons_succ, List.getElem?_cons_zero, Int.reduceNeg, Int.reduceAdd, at_new, and_self, or_true, true_or, true_and, and_true, Int.reducePow, Int.reduceSub, Int.reduceMul, seq_ref, seqO_lst, seqO_frz, lst_ref, lstO_lst, len_ref, list_ref, lisO_lst, append_ref, enWk_tup, enWk_ref, split_str, base_join, base_split, str_int, str_str, int_str, len_str, seqWk_str, extend_tup', extend_ref, base_append, base_extend, base_get, get2_ref, dctO_dct, keyD_int, keyD_str,  tuple_ref, all_ref, any_ref, add_ref, slc_ref, len_tup, list_tup, int_int, int_bl, abs_int, max_int, max_ref, min_int, slc_tup, rev_tup, seqWk_tup, zipWk_tup, rng_one, rng_two, rng_three, wkEnum_items, Option.map_some, Option.bind_some, setAll,
  List.set_cons_zero, List.set_cons_succ, List.set_set, List.foldl_nil, List.foldl_cons, List.length_cons, List.length_nil, List.map_cons, List.map_nil, List.cons_append, List.nil_append, List.replicate_succ, List.replicate_zero, Nat.reduceAdd, Nat.reduceSub, Bool.not_true, Bool.not_false, if_true, if_false, Bool.false_eq_true, decide_eq_true_eq, Nat.reduceLeDiff, lim_lit, wipe, isiD_tup, isiD_str, isiD_int, isiD_bl, isiD_non, isi_tup, isi_str, isi_int, isi_bool, Bool.and_true, Bool.and_false, Bool.true_and, Bool.false_and, tpB_tup, tpB_str, tpB_bl, tpB_int, tpB_non, tpB_ref, isStr_tup, isStr_str, isStr_bl, isStr_int, isStr_non, isStr_ref, isBl_tup, isBl_str, isBl_bl, isBl_int, isBl_non, isBl_ref, isInt_tup, isInt_str, isInt_bl, isInt_int, isInt_non, isInt_ref])
local macro_rules | `(tactic| walk_at "dr") => `(tactic| (refine draw_ok (by assumption) (by assumption) (by first | assumption | omega | decide) (by first | omega | decide) ?_; intro r A' r0 r1 hp f))
local macro_rules | `(tactic| walk_at "an") => `(tactic| (refine any_ok (by assumption) (by assumption) (Pot.snoc (by assumption) _) at_new (Nat.ne_of_gt (Pot.lt (by assumption))) (by simp) (by simp) ?_; intro d A' hm hp f))
local macro_rules | `(tactic| walk_at "fr") => `(tactic| repeat first | exact Fr.refl _ _ | assumption | refine Fr.snoc ?_ _ | refine Fr.trans ?_ (by assumption) | refine Fr.trans ?_ (Fr.nil (by assumption)))
local macro_rules | `(tactic| walk_at "g1") => `(tactic| try simp only [*, wps_nil, wps_ex, wps_asg, wps_par, wps_ret, wps_cond, wps_loop, wps_brk, wps_cont, wps_pass, wp_ret, wp_slot, wp_cst, wp_tup, wp_lst, wp_bin, wp_neg, wp_cmp, wp_chain, wp_and, wp_or, wp_not, wp_ifx, wp_idx, wp_slc, wp_rev, wp_call, wp_meth, wp_blt, wp_listR, wp_isi, wp_new, wp_attr, wp_mcall, wp_isc, wp_sset, wps_sta, wp_of1m, cmpE_int, cmpE_str, cmpE_bl, cmpE_tup, cmpE_non, cmpE_ne, cmpE_lt, cmpE_le, cmpE_gt, cmpE_ge, cmpE_isn, cmpE_notn, cmpE_inn, cmpE_nin, wp_star, wp_comp, wp_dct, wp_nil, wp_cons, wp_knil, wp_kcons, wp_onone, wp_osome, wp_iseq, wp_irng, wp_ienum, wp_izip, wp_tslot, wp_ttup, wp_titem, wp_tnil, wp_tcons, wp_fnil, wp_fone, wp_ok, wp_of1, wp_of, wp_of1n, wp_ofn, wp_onB, wp_onBn, wp_calm, wp_bind, wp_ite, wp_exc, wp_bad,
  getL_0, getL_s, bin_add, bin_sub, bin_mul, bin_fdiv, bin_mod, bin_tup, bin_str, cmp_lt, cmp_le, cmp_gt, cmp_ge, cmp_eqI, cmp_eqS, cmp_neI, cmp_neS, cmp_eqB, in_str2, in_str3, truth_bl, truth_int, truth_tup, truth_non, neg_int, intOf_int, tupOf_tup, idx_tup, idx_ref, idxO_lst, atI_0, atI_1, atI_2, atI_3, atI_4, cut_from, cut_to, List.drop_succ_cons, List.drop_zero, List.take_succ_cons, List.take_zero, List.drop_nil, List.take_nil, Int.reduceLE, Int.reduceBEq, blsD_map, blsD_cons, blsD_nil, set_ref, setO_cons, isList_ref, Option.isSome_some, Int.reduceLE, Int.reduceLT, Int.cast_ofNat_Int, Int.reduceToNat, List.getElem?_cons_succ, List.getElem?_cons_zero, Int.reduceNeg, Int.reduceAdd, at_new, and_self, or_true, true_or, true_and, and_true, Int.reducePow, Int.reduceSub, Int.reduceMul, seq_ref, seqO_lst, seqO_frz, lst_ref, lstO_lst, len_ref, list_ref, lisO_lst, append_ref, enWk_tup, enWk_ref, split_str, base_join, base_split, str_int, str_str, int_str, len_str, seqWk_str, extend_tup', extend_ref, base_append, base_extend, base_get, get2_ref, dctO_dct, keyD_int, keyD_str,  tuple_ref, all_ref, any_ref, add_ref, slc_ref, len_tup, list_tup, int_int, int_bl, abs_int, max_int, max_ref, min_int, slc_tup, rev_tup, seqWk_tup, zipWk_tup, rng_one, rng_two, rng_three, wkEnum_items, Option.map_some, Option.bind_some, setAll,
  List.set_cons_zero, List.set_cons_succ, List.set_set, List.foldl_nil, List.foldl_cons, List.length_cons, List.length_nil, List.map_cons, List.map_nil, List.cons_append, List.nil_append, List.replicate_succ, List.replicate_zero, Nat.reduceAdd, Nat.reduceSub, Bool.not_true, Bool.not_false, if_true, if_false, Bool.false_eq_true, decide_eq_true_eq, Nat.reduceLeDiff, lim_lit, wipe, isiD_tup, isiD_str, isiD_int, isiD_bl, isiD_non, isi_tup, isi_str, isi_int, isi_bool, Bool.and_true, Bool.and_false, Bool.true_and, Bool.false_and, tpB_tup, tpB_str, tpB_bl, tpB_int, tpB_non, tpB_ref, isStr_tup, isStr_str, isStr_bl, isStr_int, isStr_non, isStr_ref, isBl_tup, isBl_str, isBl_bl, isBl_int, isBl_non, isBl_ref, isInt_tup, isInt_str, isInt_bl, isInt_int, isInt_non, isInt_ref])
local macro_rules | `(tactic| walk_at "go1") => `(tactic| try simp only [wps_nil, wps_ex, wps_asg, wps_par, wps_ret, wps_cond, wps_loop, wps_brk, wps_cont, wps_pass, wp_ret, wp_slot, wp_cst, wp_tup, wp_lst, wp_bin, wp_neg, wp_cmp, wp_chain, wp_and, wp_or, wp_not, wp_ifx, wp_idx, wp_slc, wp_rev, wp_call, wp_meth, wp_blt, wp_listR, wp_isi, wp_new, wp_attr, wp_mcall, wp_isc, wp_sset, wps_sta, wp_of1m, cmpE_int, cmpE_str, cmpE_bl, cmpE_tup, cmpE_non, cmpE_ne, cmpE_lt, cmpE_le, cmpE_gt, cmpE_ge, cmpE_isn, cmpE_notn, cmpE_inn, cmpE_nin, wp_star, wp_comp, wp_dct, wp_nil, wp_cons, wp_knil, wp_kcons, wp_onone, wp_osome, wp_iseq, wp_irng, wp_ienum, wp_izip, wp_tslot, wp_ttup, wp_titem, wp_tnil, wp_tcons, wp_fnil, wp_fone, wp_ok, wp_of1, wp_of, wp_of1n, wp_ofn, wp_onB, wp_onBn, wp_calm, wp_bind, wp_ite, wp_exc, wp_bad,
  getL_0, getL_s, bin_add, bin_sub, bin_mul, bin_fdiv, bin_mod, bin_tup, bin_str, cmp_lt, cmp_le, cmp_gt, cmp_ge, cmp_eqI, cmp_eqS, cmp_neI, cmp_neS, cmp_eqB, in_str2, in_str3, truth_bl, truth_int, truth_tup, truth_non, neg_int, intOf_int, tupOf_tup, idx_tup, idx_ref, idxO_lst, atI_0, atI_1, atI_2, atI_3, atI_4, cut_from, cut_to, List.drop_succ_cons, List.drop_zero, List.take_succ_cons, List.take_zero, List.drop_nil, List.take_nil, Int.reduceLE, Int.reduceBEq, blsD_map, blsD_cons, blsD_nil, set_ref, setO_cons, isList_ref, Option.isSome_some, Int.reduceLE, Int.reduceLT, Int.cast_ofNat_Int, Int.reduceToNat, List.getElem?_cons_succ, List.getElem?_cons_zero, Int.reduceNeg, Int.reduceAdd, at_new, and_self, or_true, true_or, true_and, and_true, Int.reducePow, Int.reduceSub, Int.reduceMul, seq_ref, seqO_lst, seqO_frz, lst_ref, lstO_lst, len_ref, list_ref, lisO_lst, append_ref, enWk_tup, enWk_ref, split_str, base_join, base_split, str_int, str_str, int_str, len_str, seqWk_str, extend_tup', extend_ref, base_append, base_extend, base_get, get2_ref, dctO_dct, keyD_int, keyD_str,  tuple_ref, all_ref, any_ref, add_ref, slc_ref, len_tup, list_tup, int_int, int_bl, abs_int, max_int, max_ref, min_int, slc_tup, rev_tup, seqWk_tup, zipWk_tup, rng_one, rng_two, rng_three, wkEnum_items, Option.map_some, Option.bind_some, setAll,
  List.set_cons_zero, List.set_cons_succ, List.set_set, List.foldl_nil, List.foldl_cons, List.length_cons, List.length_nil, List.map_cons, List.map_nil, List.cons_append, List.nil_append, List.replicate_succ, List.replicate_zero, Nat.reduceAdd, Nat.reduceSub, Bool.not_true, Bool.not_false, if_true, if_false, Bool.false_eq_true, decide_eq_true_eq, Nat.reduceLeDiff, lim_lit, wipe, isiD_tup, isiD_str, isiD_int, isiD_bl, isiD_non, isi_tup, isi_str, isi_int, isi_bool, Bool.and_true, Bool.and_false, Bool.true_and, Bool.false_and, tpB_tup, tpB_str, tpB_bl, tpB_int, tpB_non, tpB_ref, isStr_tup, isStr_str, isStr_bl, isStr_int, isStr_non, isStr_ref, isBl_tup, isBl_str, isBl_bl, isBl_int, isBl_non, isBl_ref, isInt_tup, isInt_str, isInt_bl, isInt_int, isInt_non, isInt_ref])
theorem wd_hm : (("hues" : Str) == ("many" : Str)) = false := by decide +kernel
def webO (m : Int) (hs : List Int) (ts : List (List Int)) : AO := .ins 0 [("many", .int m), ("hues", hueD hs), ("ties", tieD ts)]
section
variable {P : CProg} {k : Nat} {A : AH} {Q : D → AH → Prop} {E : Ex → AH → Prop}
theorem fld_many (h : Is69 P) : fldB P 0 ("many" : Str) = true := by unfold fldB; rw [h.cls]; decide +kernel
theorem fld_hues (h : Is69 P) : fldB P 0 ("hues" : Str) = true := by unfold fldB; rw [h.cls]; decide +kernel
theorem fld_ties (h : Is69 P) : fldB P 0 ("ties" : Str) = true := by unfold fldB; rw [h.cls]; decide +kernel
theorem meth_eq (h : Is69 P) : methN P 0 ("__eq__" : Str) = some 21 := by unfold methN; rw [h.cls]; decide +kernel
theorem init_web (h : Is69 P) : initN P 0 = some 20 := by unfold initN; rw [h.cls]; rfl
theorem put_hues {a b : D} : putA ("hues" : Str) b [(("many" : Str), a)] = [(("many" : Str), a), (("hues" : Str), b)] := by
  unfold putA putA
  rw [if_neg (by decide +kernel)]
theorem put_ties {a b c : D} : putA ("ties" : Str) c [(("many" : Str), a), (("hues" : Str), b)] = [(("many" : Str), a), (("hues" : Str), b), (("ties" : Str), c)] := by
  unfold putA putA putA
  rw [if_neg (by decide +kernel), if_neg (by decide +kernel)]
theorem look_many {a b c : D} : ([(("many" : Str), a), (("hues" : Str), b), (("ties" : Str), c)] : Flds).lookup ("many" : Str) = some a := by
  have e : (("many" : Str) == ("many" : Str)) = true := by decide +kernel
  simp only [List.lookup, e]
theorem look_hues {a b c : D} : ([(("many" : Str), a), (("hues" : Str), b), (("ties" : Str), c)] : Flds).lookup ("hues" : Str) = some b := by
  have e : (("hues" : Str) == ("many" : Str)) = false := by decide +kernel
  have e2 : (("hues" : Str) == ("hues" : Str)) = true := by decide +kernel
  simp only [List.lookup, e, e2]
theorem look_ties {a b c : D} : ([(("many" : Str), a), (("hues" : Str), b), (("ties" : Str), c)] : Flds).lookup ("ties" : Str) = some c := by
  have e : (("ties" : Str) == ("many" : Str)) = false := by decide +kernel
  have e2 : (("ties" : Str) == ("hues" : Str)) = false := by decide +kernel
  have e3 : (("ties" : Str) == ("ties" : Str)) = true := by decide +kernel
  simp only [List.lookup, e, e2, e3]
theorem attr_many (h : Is69 P) {n : Nat} {m : Int} {hs : List Int} {ts : List (List Int)} (e : A[n]? = some (webO m hs ts)) : attrD P (.ref n) ("many" : Str) A = some (.int m) := by
  rw [attr_ins e (fld_many h)]; exact look_many
theorem attr_hues (h : Is69 P) {n : Nat} {m : Int} {hs : List Int} {ts : List (List Int)} (e : A[n]? = some (webO m hs ts)) : attrD P (.ref n) ("hues" : Str) A = some (hueD hs) := by
  rw [attr_ins e (fld_hues h)]; exact look_hues
theorem attr_ties (h : Is69 P) {n : Nat} {m : Int} {hs : List Int} {ts : List (List Int)} (e : A[n]? = some (webO m hs ts)) : attrD P (.ref n) ("ties" : Str) A = some (tieD ts) := by
  rw [attr_ins e (fld_ties h)]; exact look_ties
theorem init20 (h : Is69 P) {n : Nat} {m : Int} {hs : List Int} {ts : List (List Int)} (ok : Ok3 m hs ts) (hn : A[n]? = some (.ins 0 [])) (go : ∀ A', Fr [n] A A' → A'[n]? = some (webO m hs ts) → Q .non A') :
    Wp ((fns P (k + 5)).call 20 [.ref n, .int m, hueD hs, tieD ts] A) Q E := by
  rw [wp_def h.d20 rfl]; unfold b69_20
  have m1 := ok.m1
  have m2 := ok.m2
  rw [wps_cons]
  walk_at "go1"
  refine number1 h (by omega) ?_
  walk_at "go1"
  simp only [m1, m2, decide_true]
  walk_at "go1"
  rw [wps_cons]
  walk_at "go1"
  refine hues4 h m1 m2 ok.hl ok.hb fun A1 f1 => ?_
  walk_at "go1"
  have e0 : tieD ts = .tup (ts.map tupI) := rfl
  rw [e0]
  rw [wps_cons]
  have l1 : ¬ (((ts.map tupI).length : Nat) : Int) > 1600 := by rw [List.length_map]; have := ok.tl; omega
  walk_at "go1"
  simp only [show ¬ (1600 : Int) < (((ts.map tupI).length : Nat) : Int) by omega, decide_false, Bool.false_eq_true, if_false]
  walk_at "go1"
  rw [wps_cons]
  walk_at "go1"
  refine loop_items (fun i L B => B = A1 ∧ ∃ a b, L = [some (.ref n), some (.int m), some (hueD hs), some (.tup (ts.map tupI)), a, b]) (by simp [fuel]; have := ok.tl; omega) ⟨rfl, none, none, rfl⟩ (fun i d L B hd ⟨hB, a, b, hL⟩ => ?_) fun L B ⟨hB, a, b, hL⟩ => ?_
  · subst hB hL
    simp only [List.getElem?_map, List.getElem?_zipIdx, Option.map_map, Nat.zero_add] at hd
    cases et : ts[i]? with
    | none => rw [et] at hd; cases hd
    | some t =>
      rw [et] at hd
      simp only [Option.map_some, Function.comp_apply, Option.some.injEq] at hd
      subst hd
      simp only [wp_ofE]
      walk_at "go1"
      rw [wps_cons]
      walk_at "go1"
      refine tie5 h (ok.tb t (List.mem_of_getElem? et)) ?_
      walk_at "go1"
      by_cases i0 : i = 0
      · subst i0
        simp only [Int.natCast_zero, gt_iff_lt, Int.lt_irrefl, decide_false, Bool.false_eq_true, if_false]
        walk_at "go1"
        first | exact ⟨rfl, _, _, rfl⟩ | exact ⟨_, _, rfl⟩ | exact ⟨trivial, _, _, rfl⟩
      · have ip : (0 : Int) < (i : Int) := by omega
        simp only [ip, gt_iff_lt, decide_true, if_true]
        obtain ⟨j, rfl⟩ : ∃ j, i = j + 1 := ⟨i - 1, by omega⟩
        have li := (List.getElem?_eq_some_iff.mp et).1
        have ej : ts[j]? = some ts[j] := List.getElem?_eq_getElem (by omega)
        have e2 : L2.atI (ts.map tupI) (((j + 1 : Nat) : Int) - 1) = some (tupI ts[j]) := by
          rw [show ((j + 1 : Nat) : Int) - 1 = (j : Int) by omega]
          exact L2.atI_nat (by rw [List.getElem?_map, ej]; rfl)
        have lt : lexLt ts[j] t = true := by
          have := List.pairwise_iff_getElem.mp ok.asc j (j + 1) (by omega) li (by omega)
          rw [(List.getElem?_eq_some_iff.mp et).2] at this
          exact this
        walk_at "go1"
        simp only [e2]
        walk_at "go1"
        rw [cmp_leT, lt]
        walk_at "go1"
        first | exact ⟨rfl, _, _, rfl⟩ | exact ⟨_, _, rfl⟩ | exact ⟨trivial, _, _, rfl⟩
  · subst hB hL
    have en : B[n]? = some (.ins 0 []) := f1.get hn (by simp)
    have ln := lt_of_at en
    dsimp only
    rw [wps_cons]
    walk_at "go1"
    rw [sta_ins en (fld_many h) (by simp)]
    walk_at "go1"
    rw [wps_cons]
    walk_at "go1"
    rw [sta_ins (set_self ln) (fld_hues h) (by simp [putA])]
    walk_at "go1"
    rw [wps_cons]
    walk_at "go1"
    rw [sta_ins (set_self ln) (fld_ties h) (by rw [show putA ("many" : Str) (D.int m) [] = [(("many" : Str), D.int m)] from rfl, put_hues]; simp)]
    walk_at "go1"
    rw [show putA ("many" : Str) (D.int m) [] = [(("many" : Str), D.int m)] from rfl, put_hues, put_ties]
    refine go _ ?_ ?_
    · exact Fr.set (Fr.nil f1) _ (by simp)
    · exact set_self ln
theorem new0 (h : Is69 P) {m : Int} {hs : List Int} {ts : List (List Int)} (ok : Ok3 m hs ts) (go : ∀ A', Fr [] A A' → A'[A.length]? = some (webO m hs ts) → Q (.ref A.length) A') :
    Wp (Res.of1 A (initN P 0)) (fun i A => Wp ((fns P (k + 5)).call i [.ref A.length, .int m, hueD hs, tieD ts] (A ++ [.ins 0 []])) (fun v A' => Wp (newFin A.length v A') Q E) E) E := by
  rw [init_web h]
  show Wp ((fns P (k + 5)).call 20 [.ref A.length, .int m, hueD hs, tieD ts] (A ++ [.ins 0 []])) (fun v A' => Wp (newFin A.length v A') Q E) E
  refine init20 h ok at_new fun A' f e => ?_
  refine go A' ⟨?_, fun n hn _ => ?_⟩ e
  · have := f.le
    simp only [List.length_append, List.length_cons, List.length_nil] at this
    omega
  · rw [f.at_ n (by simp only [List.length_append]; omega) (by simp; omega)]
    exact List.getElem?_append_left hn
theorem eq21 (h : Is69 P) {a b : Nat} {m m' : Int} {hs hs' : List Int} {ts ts' : List (List Int)} (ha : A[a]? = some (webO m hs ts)) (hb : A[b]? = some (webO m' hs' ts')) (q : Q (.bl (decide (m = m' ∧ hs = hs' ∧ ts = ts'))) A) :
    Wp ((fns P (k + 1)).call 21 [.ref a, .ref b] A) Q E := by
  rw [wp_def h.d21 rfl]; unfold b69_21
  walk_at "go"
  rw [isc_ins hb]
  walk_at "go"
  rw [attr_many h ha]
  walk_at "go"
  rw [attr_many h hb]
  walk_at "go"
  by_cases e1 : m = m'
  · subst e1
    simp only [beq_self_eq_true, if_true]
    rw [attr_hues h ha]
    walk_at "go"
    rw [attr_hues h hb]
    walk_at "go"
    rw [show hueD hs = tupI hs from rfl, show hueD hs' = tupI hs' from rfl, cmpE_any rfl, cmp_eqT]
    walk_at "go"
    by_cases e2 : hs = hs'
    · subst e2
      simp only [decide_true, if_true]
      rw [attr_ties h ha]
      walk_at "go"
      rw [attr_ties h hb]
      walk_at "go"
      rw [show tieD ts = .tup (ts.map tupI) from rfl, show tieD ts' = .tup (ts'.map tupI) from rfl, cmpE_any rfl, cmp_eqTT]
      walk_at "go"
      simpa using q
    · simp only [e2, decide_false, Bool.false_eq_true, if_false]
      simpa [e2] using q
  · have : (m == m') = false := by simpa using e1
    simp only [this, Bool.false_eq_true, if_false]
    simpa [e1] using q
end
end Kin
end
section
set_option linter.all false
set_option maxRecDepth 100000
namespace Kin
open PySem
local macro_rules | `(tactic| walk_at "go") => `(tactic| try simp only [wps_nil, wps_cons, wps_ex, wps_asg, wps_par, wps_ret, wps_cond, wps_loop, wps_brk, wps_cont, wps_pass, wp_ret, wp_slot, wp_cst, wp_tup, wp_lst, wp_bin, wp_neg, wp_cmp, wp_chain, wp_and, wp_or, wp_not, wp_ifx, wp_idx, wp_slc, wp_rev, wp_call, wp_meth, wp_blt, wp_listR, wp_isi, wp_new, wp_attr, wp_mcall, wp_isc, wp_sset, wps_sta, wp_of1m, cmpE_int, cmpE_str, cmpE_bl, cmpE_tup, cmpE_non, cmpE_ne, cmpE_lt, cmpE_le, cmpE_gt, cmpE_ge, cmpE_isn, cmpE_notn, cmpE_inn, cmpE_nin, wp_star, wp_comp, wp_dct, wp_nil, wp_cons, wp_knil, wp_kcons, wp_onone, wp_osome, wp_iseq, wp_irng, wp_ienum, wp_izip, wp_tslot, wp_ttup, wp_titem, wp_tnil, wp_tcons, wp_fnil, wp_fone, wp_ok, wp_of1, wp_of, wp_of1n, wp_ofn, wp_onB, wp_onBn, wp_calm, wp_bind, wp_ite, wp_exc, wp_bad,
  getL_0, getL_s, bin_add, bin_sub, bin_mul, bin_fdiv, bin_mod, bin_tup, bin_str, cmp_lt, cmp_le, cmp_gt, cmp_ge, cmp_eqI, cmp_eqS, cmp_neI, cmp_neS, cmp_eqB, in_str2, in_str3, truth_bl, truth_int, truth_tup, truth_non, neg_int, intOf_int, tupOf_tup, idx_tup, idx_ref, idxO_lst, atI_0, atI_1, atI_2, atI_3, atI_4, cut_from, cut_to, List.drop_succ_cons, List.drop_zero, List.take_succ_cons, List.take_zero, List.drop_nil, List.take_nil, Int.reduceLE, Int.reduceBEq, blsD_map, blsD_cons, blsD_nil, set_ref, setO_cons, isList_ref, Option.isSome_some, Int.reduceLE, Int.reduceLT, Int.cast_ofNat_Int, Int.reduceToNat, List.getElem?_cons_succ, List.getElem?_cons_zero, Int.reduceNeg, Int.reduceAdd, at_new, and_self, or_true, true_or, true_and, and_true, Int.reducePow, Int.reduceSub, Int.reduceMul, seq_ref, seqO_lst, seqO_frz, lst_ref, lstO_lst, len_ref, list_ref, lisO_lst, append_ref, enWk_tup, enWk_ref, split_str, base_join, base_split, str_int, str_str, int_str, len_str, seqWk_str, extend_tup', extend_ref, base_append, base_extend, base_get, get2_ref, dctO_dct, keyD_int, keyD_str,  tuple_ref, all_ref, any_ref, add_ref, slc_ref, len_tup, list_tup, int_int, int_bl, abs_int, max_int, max_ref, min_int, slc_tup, rev_tup, seqWk_tup, zipWk_tup, rng_one, rng_two, rng_three, wkEnum_items, Option.map_some, Option.bind_some, setAll,
  List.set_cons_zero, List.set_cons_succ, List.set_set, List.foldl_nil, List.foldl_cons, List.length_cons, List.length_nil, List.map_cons, List.map_nil, List.cons_append, List.nil_append, List.replicate_succ, List.replicate_zero, Nat.reduceAdd, Nat.reduceSub, Bool.not_true, Bool.not_false, if_true, if_false, Bool.false_eq_true, decide_eq_true_eq, Nat.reduceLeDiff, lim_lit, wipe, isiD_tup, isiD_str, isiD_int, isiD_bl, isiD_non, isi_tup, isi_str, isi_int, isi_bool, Bool.and_true, Bool.and_false, Bool.true_and, Bool.false_and, tpB_tup, tpB_str, tpB_bl, tpB_int, tpB_non, tpB_ref, isStr_tup, isStr_str, isStr_bl, isStr_int, isStr_non, isStr_ref, isBl_tup, isBl_str, isBl_bl, isBl_int, isBl_non, isBl_ref, isInt_tup, isInt_str, isInt_bl, isInt_int, isInt_non, isInt_ref])
local macro_rules | `(tactic| walk_at "goh") => `(tactic| try simp only [*, Int.reduceBEq, wps_nil, wps_cons, wps_ex, wps_asg, wps_par, wps_ret, wps_cond, wps_loop, wps_brk, wps_cont, wps_pass, wp_ret, wp_slot, wp_cst, wp_tup, wp_lst, wp_bin, wp_neg, wp_cmp, wp_chain, wp_and, wp_or, wp_not, wp_ifx, wp_idx, wp_slc, wp_rev, wp_call, wp_meth, wp_blt, wp_listR, wp_isi, wp_new, wp_attr, wp_mcall, wp_isc, wp_sset, wps_sta, wp_of1m, cmpE_int, cmpE_str, cmpE_bl, cmpE_tup, cmpE_non, cmpE_ne, cmpE_lt, cmpE_le, cmpE_gt, cmpE_ge, cmpE_isn, cmpE_notn, cmpE_inn, cmpE_nin, wp_star, wp_comp, wp_dct, wp_nil, wp_cons, wp_knil, wp_kcons, wp_onone, wp_osome, wp_iseq, wp_irng, wp_ienum, wp_izip, wp_tslot, wp_ttup, wp_titem, wp_tnil, wp_tcons, wp_fnil, wp_fone, wp_ok, wp_of1, wp_of, wp_of1n, wp_ofn, wp_onB, wp_onBn, wp_calm, wp_bind, wp_ite, wp_exc, wp_bad,
  getL_0, getL_s, bin_add, bin_sub, bin_mul, bin_fdiv, bin_mod, bin_tup, bin_str, cmp_lt, cmp_le, cmp_gt, cmp_ge, cmp_eqI, cmp_eqS, cmp_neI, cmp_neS, cmp_eqB, in_str2, in_str3, truth_bl, truth_int, truth_tup, truth_non, neg_int, intOf_int, tupOf_tup, idx_tup, idx_ref, idxO_lst, atI_0, atI_1, atI_2, atI_3, atI_4, cut_from, cut_to, List.drop_succ_cons, List.drop_zero, List.take_succ_cons, List.take_zero, List.drop_nil, List.take_nil, Int.reduceLE, blsD_map, blsD_cons, blsD_nil, set_ref, setO_cons, isList_ref, Option.isSome_some, Int.reduceLE, Int.reduceLT, Int.cast_ofNat_Int, Int.reduceToNat, List.getElem?_cons_succ, List.getElem?_cons_zero, Int.reduceNeg, Int.reduceAdd, at_new, and_self, or_true, true_or, true_and, and_true, Int.reducePow, Int.reduceSub, Int.reduceMul, seq_ref, seqO_lst, seqO_frz, lst_ref, lstO_lst, len_ref, list_ref, lisO_lst, append_ref, enWk_tup, enWk_ref, split_str, base_join, base_split, str_int, str_str, int_str, len_str, seqWk_str, extend_tup', extend_ref, base_append, base_extend, base_get, get2_ref, dctO_dct, keyD_int, keyD_str,  tuple_ref, all_ref, any_ref, add_ref, slc_ref, len_tup, list_tup, int_int, int_bl, abs_int, max_int, max_ref, min_int, slc_tup, rev_tup, seqWk_tup, zipWk_tup, rng_one, rng_two, rng_three, wkEnum_items, Option.map_some, Option.bind_some, setAll,
  List.set_cons_zero, List.set_cons_succ, List.set_set, List.foldl_nil, List.foldl_cons, List.length_cons, List.length_nil, List.map_cons, List.map_nil, List.cons_append, List.nil_append, List.replicate_succ, List.replicate_zero, Nat.reduceAdd, Nat.reduceSub, Bool.not_true, Bool.not_false, if_true, if_false, Bool.false_eq_true, decide_eq_true_eq, Nat.reduceLeDiff, lim_lit, wipe, isiD_tup, isiD_str, isiD_int, isiD_bl, isiD_non, isi_tup, isi_str, isi_int, isi_bool, Bool.and_true, Bool.and_false, Bool.true_and, Bool.false_and, tpB_tup, tpB_str, tpB_bl, tpB_int, tpB_non, tpB_ref, isStr_tup, isStr_str, isStr_bl, isStr_int, isStr_non, isStr_ref, isBl_tup, isBl_str, isBl_bl, isBl_int, isBl_non, isBl_ref, isInt_tup, isInt_str, isInt_bl, isInt_int, isInt_non, isInt_ref])
local macro_rules | `(tactic| walk_at "dr") => `(tactic| (refine draw_ok (by assumption) (by assumption) (by first | assumption | omega | decide) (by first | omega | decide) ?_; intro r A' r0 r1 hp f))
local macro_rules | `(tactic| walk_at "an") => `(tactic| (refine any_ok (by assumption) (by assumption) (Pot.snoc (by assumption) _) at_new (Nat.ne_of_gt (Pot.lt (by assumption))) (by simp) (by simp) ?_; intro d A' hm hp f))
local macro_rules | `(tactic| walk_at "fr") => `(tactic| repeat first | exact Fr.refl _ _ | assumption | refine Fr.snoc ?_ _ | refine Fr.trans ?_ (by assumption) | refine Fr.trans ?_ (Fr.nil (by assumption)))
local macro_rules | `(tactic| walk_at "g1") => `(tactic| try simp only [*, wps_nil, wps_ex, wps_asg, wps_par, wps_ret, wps_cond, wps_loop, wps_brk, wps_cont, wps_pass, wp_ret, wp_slot, wp_cst, wp_tup, wp_lst, wp_bin, wp_neg, wp_cmp, wp_chain, wp_and, wp_or, wp_not, wp_ifx, wp_idx, wp_slc, wp_rev, wp_call, wp_meth, wp_blt, wp_listR, wp_isi, wp_new, wp_attr, wp_mcall, wp_isc, wp_sset, wps_sta, wp_of1m, cmpE_int, cmpE_str, cmpE_bl, cmpE_tup, cmpE_non, cmpE_ne, cmpE_lt, cmpE_le, cmpE_gt, cmpE_ge, cmpE_isn, cmpE_notn, cmpE_inn, cmpE_nin, wp_star, wp_comp, wp_dct, wp_nil, wp_cons, wp_knil, wp_kcons, wp_onone, wp_osome, wp_iseq, wp_irng, wp_ienum, wp_izip, wp_tslot, wp_ttup, wp_titem, wp_tnil, wp_tcons, wp_fnil, wp_fone, wp_ok, wp_of1, wp_of, wp_of1n, wp_ofn, wp_onB, wp_onBn, wp_calm, wp_bind, wp_ite, wp_exc, wp_bad,
  getL_0, getL_s, bin_add, bin_sub, bin_mul, bin_fdiv, bin_mod, bin_tup, bin_str, cmp_lt, cmp_le, cmp_gt, cmp_ge, cmp_eqI, cmp_eqS, cmp_neI, cmp_neS, cmp_eqB, in_str2, in_str3, truth_bl, truth_int, truth_tup, truth_non, neg_int, intOf_int, tupOf_tup, idx_tup, idx_ref, idxO_lst, atI_0, atI_1, atI_2, atI_3, atI_4, cut_from, cut_to, List.drop_succ_cons, List.drop_zero, List.take_succ_cons, List.take_zero, List.drop_nil, List.take_nil, Int.reduceLE, Int.reduceBEq, blsD_map, blsD_cons, blsD_nil, set_ref, setO_cons, isList_ref, Option.isSome_some, Int.reduceLE, Int.reduceLT, Int.cast_ofNat_Int, Int.reduceToNat, List.getElem?_cons_succ, List.getElem?_cons_zero, Int.reduceNeg, Int.reduceAdd, at_new, and_self, or_true, true_or, true_and, and_true, Int.reducePow, Int.reduceSub, Int.reduceMul, seq_ref, seqO_lst, seqO_frz, lst_ref, lstO_lst, len_ref, list_ref, lisO_lst, append_ref, enWk_tup, enWk_ref, split_str, base_join, base_split, str_int, str_str, int_str, len_str, seqWk_str, extend_tup', extend_ref, base_append, base_extend, base_get, get2_ref, dctO_dct, keyD_int, keyD_str,  tuple_ref, all_ref, any_ref, add_ref, slc_ref, len_tup, list_tup, int_int, int_bl, abs_int, max_int, max_ref, min_int, slc_tup, rev_tup, seqWk_tup, zipWk_tup, rng_one, rng_two, rng_three, wkEnum_items, Option.map_some, Option.bind_some, setAll,
  List.set_cons_zero, List.set_cons_succ, List.set_set, List.foldl_nil, List.foldl_cons, List.length_cons, List.length_nil, List.map_cons, List.map_nil, List.cons_append, List.nil_append, List.replicate_succ, List.replicate_zero, Nat.reduceAdd, Nat.reduceSub, Bool.not_true, Bool.not_false, if_true, if_false, Bool.false_eq_true, decide_eq_true_eq, Nat.reduceLeDiff, lim_lit, wipe, isiD_tup, isiD_str, isiD_int, isiD_bl, isiD_non, isi_tup, isi_str, isi_int, isi_bool, Bool.and_true, Bool.and_false, Bool.true_and, Bool.false_and, tpB_tup, tpB_str, tpB_bl, tpB_int, tpB_non, tpB_ref, isStr_tup, isStr_str, isStr_bl, isStr_int, isStr_non, isStr_ref, isBl_tup, isBl_str, isBl_bl, isBl_int, isBl_non, isBl_ref, isInt_tup, isInt_str, isInt_bl, isInt_int, isInt_non, isInt_ref])
local macro_rules | `(tactic| walk_at "go1") => `(tactic| try simp only [wps_nil, wps_ex, wps_asg, wps_par, wps_ret, wps_cond, wps_loop, wps_brk, wps_cont, wps_pass, wp_ret, wp_slot, wp_cst, wp_tup, wp_lst, wp_bin, wp_neg, wp_cmp, wp_chain, wp_and, wp_or, wp_not, wp_ifx, wp_idx, wp_slc, wp_rev, wp_call, wp_meth, wp_blt, wp_listR, wp_isi, wp_new, wp_attr, wp_mcall, wp_isc, wp_sset, wps_sta, wp_of1m, cmpE_int, cmpE_str, cmpE_bl, cmpE_tup, cmpE_non, cmpE_ne, cmpE_lt, cmpE_le, cmpE_gt, cmpE_ge, cmpE_isn, cmpE_notn, cmpE_inn, cmpE_nin, wp_star, wp_comp, wp_dct, wp_nil, wp_cons, wp_knil, wp_kcons, wp_onone, wp_osome, wp_iseq, wp_irng, wp_ienum, wp_izip, wp_tslot, wp_ttup, wp_titem, wp_tnil, wp_tcons, wp_fnil, wp_fone, wp_ok, wp_of1, wp_of, wp_of1n, wp_ofn, wp_onB, wp_onBn, wp_calm, wp_bind, wp_ite, wp_exc, wp_bad,
  getL_0, getL_s, bin_add, bin_sub, bin_mul, bin_fdiv, bin_mod, bin_tup, bin_str, cmp_lt, cmp_le, cmp_gt, cmp_ge, cmp_eqI, cmp_eqS, cmp_neI, cmp_neS, cmp_eqB, in_str2, in_str3, truth_bl, truth_int, truth_tup, truth_non, neg_int, intOf_int, tupOf_tup, idx_tup, idx_ref, idxO_lst, atI_0, atI_1, atI_2, atI_3, atI_4, cut_from, cut_to, List.drop_succ_cons, List.drop_zero, List.take_succ_cons, List.take_zero, List.drop_nil, List.take_nil, Int.reduceLE, Int.reduceBEq, blsD_map, blsD_cons, blsD_nil, set_ref, setO_cons, isList_ref, Option.isSome_some, Int.reduceLE, Int.reduceLT, Int.cast_ofNat_Int, Int.reduceToNat, List.getElem?_cons_succ, List.getElem?_cons_zero, Int.reduceNeg, Int.reduceAdd, at_new, and_self, or_true, true_or, true_and, and_true, Int.reducePow, Int.reduceSub, Int.reduceMul, seq_ref, seqO_lst, seqO_frz, lst_ref, lstO_lst, len_ref, list_ref, lisO_lst, append_ref, enWk_tup, enWk_ref, split_str, base_join, base_split, str_int, str_str, int_str, len_str, seqWk_str, extend_tup', extend_ref, base_append, base_extend, base_get, get2_ref, dctO_dct, keyD_int, keyD_str,  tuple_ref, all_ref, any_ref, add_ref, slc_ref, len_tup, list_tup, int_int, int_bl, abs_int, max_int, max_ref, min_int, slc_tup, rev_tup, seqWk_tup, zipWk_tup, rng_one, rng_two, rng_three, wkEnum_items, Option.map_some, Option.bind_some, setAll,
  List.set_cons_zero, List.set_cons_succ, List.set_set, List.foldl_nil, List.foldl_cons, List.length_cons, List.length_nil, List.map_cons, List.map_nil, List.cons_append, List.nil_append, List.replicate_succ, List.replicate_zero, Nat.reduceAdd, Nat.reduceSub, Bool.not_true, Bool.not_false, if_true, if_false, Bool.false_eq_true, decide_eq_true_eq, Nat.reduceLeDiff, lim_lit, wipe, isiD_tup, isiD_str, isiD_int, isiD_bl, isiD_non, isi_tup, isi_str, isi_int, isi_bool, Bool.and_true, Bool.and_false, Bool.true_and, Bool.false_and, tpB_tup, tpB_str, tpB_bl, tpB_int, tpB_non, tpB_ref, isStr_tup, isStr_str, isStr_bl, isStr_int, isStr_non, isStr_ref, isBl_tup, isBl_str, isBl_bl, isBl_int, isBl_non, isBl_ref, isInt_tup, isInt_str, isInt_bl, isInt_int, isInt_non, isInt_ref])
/-! ### lines -/
theorem joinL_len (s : List Nat) : ∀ l : List (List Nat), (TL.joinL s l).length ≤ (l.map (·.length)).sum + l.length * s.length
  | [] => by simp [TL.joinL]
  | [p] => by simp [TL.joinL]
  | p :: q :: r => by
    have e : TL.joinL s (p :: q :: r) = p ++ (s ++ TL.joinL s (q :: r)) := rfl
    have ih := joinL_len s (q :: r)
    rw [e]
    simp only [List.length_append, List.map_cons, List.sum_cons, List.length_cons, Nat.add_mul, Nat.one_mul] at ih ⊢
    omega
def Small (is : List Int) : Prop := is.length ≤ 40 ∧ ∀ i ∈ is, 0 ≤ i ∧ i < 100
theorem nums_len : ∀ {is : List Int}, (∀ i ∈ is, 0 ≤ i ∧ i < 100) → ((is.map numT).map (·.length)).sum ≤ 2 * is.length
  | [], _ => Nat.le_refl _
  | i :: is, h => by
    have a := num_len (h i (by simp)).1 (h i (by simp)).2
    have b := nums_len (is := is) fun x hx => h x (by simp [hx])
    simp only [List.map_cons, List.sum_cons, List.length_cons]
    omega
theorem sum_len {w : List Nat} (hw : w.length ≤ 10) {is : List Int} (hs : Small is) : ((w :: is.map numT).map (·.length)).sum ≤ 90 := by
  have := nums_len hs.2
  have := hs.1
  rw [List.map_cons, List.sum_cons]
  omega
theorem line_len {w : List Nat} (hw : w.length ≤ 10) {is : List Int} (hs : Small is) : (nl (lineT w is)).length ≤ 132 := by
  have a := joinL_len [32] (w :: is.map numT)
  have b := sum_len hw hs
  have c := hs.1
  unfold nl lineT
  simp only [List.length_append, List.length_cons, List.length_map, List.length_nil] at a ⊢
  omega
/-- what str(..) makes of it -/
def strG : D → D
  | .int i => .str (S (numT i))
  | d => d
theorem strG_line (w : List Nat) (is : List Int) : (D.str (S w) :: is.map D.int).map strG = ((w :: is.map numT).map S).map D.str := by
  simp only [List.map_cons, List.map_map]
  rfl
theorem strsD_strs : ∀ l : List Str, strsD (l.map D.str) = some l
  | [] => rfl
  | x :: l => by
    show (strsD (l.map D.str)).map (x :: ·) = _
    rw [strsD_strs l]
    rfl
theorem lens_S (l : List (List Nat)) : ((l.map S).map (·.length)) = l.map (·.length) := SX.lens l
theorem log_ok {i : Int} (h0 : 0 ≤ i) (h1 : i < 100) : i.natAbs.log2 < 1920 := by
  have : i.natAbs < 2 ^ 10 := by omega
  by_cases z : i.natAbs = 0
  · rw [z]; decide
  · have := (Nat.log2_lt z).mpr this
    omega
section
variable {P : CProg} {k : Nat} {A : AH} {Q : D → AH → Prop} {E : Ex → AH → Prop}
/-- a joined line, all there -/
theorem join_line {w : List Nat} (hw : w.length ≤ 10) {is : List Int} (hs : Small is) {n : Nat} (hn : A[n]? = some (.lst (((w :: is.map numT).map S).map D.str))) :
    methB .join (.str (S [32])) [.ref n] A = some (.str (S (lineT w is)), A) := by
  have b := sum_len hw hs
  have c := hs.1
  rw [join_ref, hn]
  simp only [Option.bind_some, seqO_lst, strsD_strs]
  rw [lens_S, if_pos]
  · rw [SX.join_S]; rfl
  · simp only [List.length_map, List.length_cons, SX.S_len, List.length_nil]
    omega
theorem join_all {ls : List (List Nat)} (h1 : ls.length ≤ 1700) (h2 : ∀ l ∈ ls, l.length ≤ 132) {n : Nat} (hn : A[n]? = some (.lst ((ls.map S).map D.str))) :
    methB .join (.str (S [])) [.ref n] A = some (.str (S ls.flatten), A) := by
  have key : ∀ ls : List (List Nat), (∀ l ∈ ls, l.length ≤ 132) → (ls.map (·.length)).sum ≤ 132 * ls.length := fun ls => by
    induction ls with
    | nil => intro _; exact Nat.le_refl _
    | cons l r ih =>
      intro h
      have a := h l (by simp)
      have b := ih fun x hx => h x (by simp [hx])
      simp only [List.map_cons, List.sum_cons, List.length_cons]
      omega
  have := key ls h2
  rw [join_ref, hn]
  simp only [Option.bind_some, seqO_lst, strsD_strs]
  rw [lens_S, if_pos]
  · rw [SX.join_S, joinL_nil]
  · simp only [List.length_map, SX.S_len, List.length_nil]
    omega
theorem line6 (h : Is69 P) {n : Nat} {w : List Nat} (hw : w.length ≤ 10) {is : List Int} (hs : Small is) (hn : A[n]? = some (.lst (.str (S w) :: is.map D.int))) (go : ∀ A', Fr [] A A' → Q (.str (S (nl (lineT w is)))) A') :
    Wp ((fns P (k + 1)).call 6 [.ref n] A) Q E := by
  rw [wp_def h.d6 rfl]; unfold b69_6
  rw [t_sp, t_nl]
  have c := hs.1
  rw [wps_cons]
  walk_at "go1"
  rw [seqWk_ref hn]
  walk_at "go1"
  refine comp_mapL (g := strG) (fun A' => A' = A) (fun A' e => by rw [e]; exact hn) (by simp [fuel]; omega) rfl (fun d acc A' hd ha hA => ?_) fun A' hA => ?_
  · subst hA
    rcases List.mem_cons.mp hd with e | e
    · subst e
      walk_at "go1"
      simp only [ha, if_true, wp_ok]
      first | exact ⟨rfl, rfl⟩ | exact ⟨trivial, trivial⟩ | exact ⟨rfl, trivial⟩ | rfl | trivial
    · obtain ⟨i, hi, rfl⟩ := List.mem_map.mp e
      have hb := hs.2 i hi
      walk_at "go1"
      simp only [log_ok hb.1 hb.2, if_true, wp_of, ha, wp_ok, str_num hb.1]
      first | exact ⟨rfl, rfl⟩ | exact ⟨trivial, trivial⟩ | exact ⟨rfl, trivial⟩ | rfl | trivial
  · subst hA
    rw [strG_line]
    rw [join_line hw hs at_new]
    walk_at "go1"
    have l := line_len hw hs
    unfold nl at l
    rw [SX.S_len, SX.S_len, if_pos (by rw [List.length_append] at l; omega), SX.S_cat]
    exact go _ ((Fr.refl _ _).snoc _)
end
end Kin
end
section
set_option linter.all false
set_option maxRecDepth 100000
namespace Kin
open PySem
local macro_rules | `(tactic| walk_at "go") => `(tactic| try simp only [wps_nil, wps_cons, wps_ex, wps_asg, wps_par, wps_ret, wps_cond, wps_loop, wps_brk, wps_cont, wps_pass, wp_ret, wp_slot, wp_cst, wp_tup, wp_lst, wp_bin, wp_neg, wp_cmp, wp_chain, wp_and, wp_or, wp_not, wp_ifx, wp_idx, wp_slc, wp_rev, wp_call, wp_meth, wp_blt, wp_listR, wp_isi, wp_new, wp_attr, wp_mcall, wp_isc, wp_sset, wps_sta, wp_of1m, cmpE_int, cmpE_str, cmpE_bl, cmpE_tup, cmpE_non, cmpE_ne, cmpE_lt, cmpE_le, cmpE_gt, cmpE_ge, cmpE_isn, cmpE_notn, cmpE_inn, cmpE_nin, wp_star, wp_comp, wp_dct, wp_nil, wp_cons, wp_knil, wp_kcons, wp_onone, wp_osome, wp_iseq, wp_irng, wp_ienum, wp_izip, wp_tslot, wp_ttup, wp_titem, wp_tnil, wp_tcons, wp_fnil, wp_fone, wp_ok, wp_of1, wp_of, wp_of1n, wp_ofn, wp_onB, wp_onBn, wp_calm, wp_bind, wp_ite, wp_exc, wp_bad,
  getL_0, getL_s, bin_add, bin_sub, bin_mul, bin_fdiv, bin_mod, bin_tup, bin_str, cmp_lt, cmp_le, cmp_gt, cmp_ge, cmp_eqI, cmp_eqS, cmp_neI, cmp_neS, cmp_eqB, in_str2, in_str3, truth_bl, truth_int, truth_tup, truth_non, neg_int, intOf_int, tupOf_tup, idx_tup, idx_ref, idxO_lst, atI_0, atI_1, atI_2, atI_3, atI_4, cut_from, cut_to, List.drop_succ_cons, List.drop_zero, List.take_succ_cons, List.take_zero, List.drop_nil, List.take_nil, Int.reduceLE, Int.reduceBEq, blsD_map, blsD_cons, blsD_nil, set_ref, setO_cons, isList_ref, Option.isSome_some, Int.reduceLE, Int.reduceLT, Int.cast_ofNat_Int, Int.reduceToNat, List.getElem?_cons_succ, List.getElem?_cons_zero, Int.reduceNeg, Int.reduceAdd, at_new, and_self, or_true, true_or, true_and, and_true, Int.reducePow, Int.reduceSub, Int.reduceMul, seq_ref, seqO_lst, seqO_frz, lst_ref, lstO_lst, len_ref, list_ref, lisO_lst, append_ref, enWk_tup, enWk_ref, split_str, base_join, base_split, str_int, str_str, int_str, len_str, seqWk_str, extend_tup', extend_ref, base_append, base_extend, base_get, get2_ref, dctO_dct, keyD_int, keyD_str,  tuple_ref, all_ref, any_ref, add_ref, slc_ref, len_tup, list_tup, int_int, int_bl, abs_int, max_int, max_ref, min_int, slc_tup, rev_tup, seqWk_tup, zipWk_tup, rng_one, rng_two, rng_three, wkEnum_items, Option.map_some, Option.bind_some, setAll,
  List.set_cons_zero, List.set_cons_succ, List.set_set, List.foldl_nil, List.foldl_cons, List.length_cons, List.length_nil, List.map_cons, List.map_nil, List.cons_append, List.nil_append, List.replicate_succ, List.replicate_zero, Nat.reduceAdd, Nat.reduceSub, Bool.not_true, Bool.not_false, if_true, if_false, Bool.false_eq_true, decide_eq_true_eq, Nat.reduceLeDiff, lim_lit, wipe, isiD_tup, isiD_str, isiD_int, isiD_bl, isiD_non, isi_tup, isi_str, isi_int, isi_bool, Bool.and_true, Bool.and_false, Bool.true_and, Bool.false_and, tpB_tup, tpB_str, tpB_bl, tpB_int, tpB_non, tpB_ref, isStr_tup, isStr_str, isStr_bl, isStr_int, isStr_non, isStr_ref, isBl_tup, isBl_str, isBl_bl, isBl_int, isBl_non, isBl_ref, isInt_tup, isInt_str, isInt_bl, isInt_int, isInt_non, isInt_ref])
local macro_rules | `(tactic| walk_at "goh") => `(tactic| try simp only [*, Int.reduceBEq, wps_nil, wps_cons, wps_ex, wps_asg, wps_par, wps_ret, wps_cond, wps_loop, wps_brk, wps_cont, wps_pass, wp_ret, wp_slot, wp_cst, wp_tup, wp_lst, wp_bin, wp_neg, wp_cmp, wp_chain, wp_and, wp_or, wp_not, wp_ifx, wp_idx, wp_slc, wp_rev, wp_call, wp_meth, wp_blt, wp_listR, wp_isi, wp_new, wp_attr, wp_mcall, wp_isc, wp_sset, wps_sta, wp_of1m, cmpE_int, cmpE_str, cmpE_bl, cmpE_tup, cmpE_non, cmpE_ne, cmpE_lt, cmpE_le, cmpE_gt, cmpE_ge, cmpE_isn, cmpE_notn, cmpE_inn, cmpE_nin, wp_star, wp_comp, wp_dct, wp_nil, wp_cons, wp_knil, wp_kcons, wp_onone, wp_osome, wp_iseq, wp_irng, wp_ienum, wp_izip, wp_tslot, wp_ttup, wp_titem, wp_tnil, wp_tcons, wp_fnil, wp_fone, wp_ok, wp_of1, wp_of, wp_of1n, wp_ofn, wp_onB, wp_onBn, wp_calm, wp_bind, wp_ite, wp_exc, wp_bad,
  getL_0, getL_s, bin_add, bin_sub, bin_mul, bin_fdiv, bin_mod, bin_tup, bin_str, cmp_lt, cmp_le, cmp_gt, cmp_ge, cmp_eqI, cmp_eqS, cmp_neI, cmp_neS, cmp_eqB, in_str2, in_str3, truth_bl, truth_int, truth_tup, truth_non, neg_int, intOf_int, tupOf_tup, idx_tup, idx_ref, idxO_lst, atI_0, atI_1, atI_2, atI_3, atI_4, cut_from, cut_to, List.drop_succ_cons, List.drop_zero, List.take_succ_cons, List.take_zero, List.drop_nil, List.take_nil, Int.reduceLE, blsD_map, blsD_cons, blsD_nil, set_ref, setO_cons, isList_ref, Option.isSome_some, Int.reduceLE, Int.reduceLT, Int.cast_ofNat_Int, Int.reduceToNat, List.getElem?_cons_succ, List.getElem?_cons_zero, Int.reduceNeg, Int.reduceAdd, at_new, and_self, or_true, true_or, true_and, and_true, Int.reducePow, Int.reduceSub, Int.reduceMul, seq_ref, seqO_lst, seqO_frz, lst_ref, lstO_lst, len_ref, list_ref, lisO_lst, append_ref, enWk_tup, enWk_ref, split_str, base_join, base_split, str_int, str_str, int_str, len_str, seqWk_str, extend_tup', extend_ref, base_append, base_extend, base_get, get2_ref, dctO_dct, keyD_int, keyD_str,  tuple_ref, all_ref, any_ref, add_ref, slc_ref, len_tup, list_tup, int_int, int_bl, abs_int, max_int, max_ref, min_int, slc_tup, rev_tup, seqWk_tup, zipWk_tup, rng_one, rng_two, rng_three, wkEnum_items, Option.map_some, Option.bind_some, setAll,
  List.set_cons_zero, List.set_cons_succ, List.set_set, List.foldl_nil, List.foldl_cons, List.length_cons, List.length_nil, List.map_cons, List.map_nil, List.cons_append, List.nil_append, List.replicate_succ, List.replicate_zero, Nat.reduceAdd, Nat.reduceSub, Bool.not_true, Bool.not_false, if_true, if_false, Bool.false_eq_true, decide_eq_true_eq, Nat.reduceLeDiff, lim_lit, wipe, isiD_tup, isiD_str, isiD_int, isiD_bl, isiD_non, isi_tup, isi_str, isi_int, isi_bool, Bool.and_true, Bool.and_false, Bool.true_and, Bool.false_and, tpB_tup, tpB_str, tpB_bl, tpB_int, tpB_non, tpB_ref, isStr_tup, isStr_str, isStr_bl, isStr_int, isStr_non, isStr_ref, isBl_tup, isBl_str, isBl_bl, isBl_int, isBl_non, isBl_ref, isInt_tup, isInt_str, isInt_bl, isInt_int, isInt_non, isInt_ref])
local macro_rules | `(tactic| walk_at "dr") => `(tactic| (refine draw_ok (by assumption) (by assumption) (by first | assumption | omega | decide) (by first | omega | decide) ?_; intro r A' r0 r1 hp f))
local macro_rules | `(tactic| walk_at "an") => `(tactic| (refine any_ok (by assumption) (by assumption) (Pot.snoc (by assumption) _) at_new (Nat.ne_of_gt (Pot.lt (by assumption))) (by simp) (by simp) ?_; intro d A' hm hp f))
local macro_rules | `(tactic| walk_at "fr") => `(tactic| repeat first | exact Fr.refl _ _ | assumption | refine Fr.snoc ?_ _ | refine Fr.trans ?_ (by assumption) | refine Fr.trans ?_ (Fr.nil (by assumption)))
local macro_rules | `(tactic| walk_at "g1") => `(tactic| try simp only [*, wps_nil, wps_ex, wps_asg, wps_par, wps_ret, wps_cond, wps_loop, wps_brk, wps_cont, wps_pass, wp_ret, wp_slot, wp_cst, wp_tup, wp_lst, wp_bin, wp_neg, wp_cmp, wp_chain, wp_and, wp_or, wp_not, wp_ifx, wp_idx, wp_slc, wp_rev, wp_call, wp_meth, wp_blt, wp_listR, wp_isi, wp_new, wp_attr, wp_mcall, wp_isc, wp_sset, wps_sta, wp_of1m, cmpE_int, cmpE_str, cmpE_bl, cmpE_tup, cmpE_non, cmpE_ne, cmpE_lt, cmpE_le, cmpE_gt, cmpE_ge, cmpE_isn, cmpE_notn, cmpE_inn, cmpE_nin, wp_star, wp_comp, wp_dct, wp_nil, wp_cons, wp_knil, wp_kcons, wp_onone, wp_osome, wp_iseq, wp_irng, wp_ienum, wp_izip, wp_tslot, wp_ttup, wp_titem, wp_tnil, wp_tcons, wp_fnil, wp_fone, wp_ok, wp_of1, wp_of, wp_of1n, wp_ofn, wp_onB, wp_onBn, wp_calm, wp_bind, wp_ite, wp_exc, wp_bad,
  getL_0, getL_s, bin_add, bin_sub, bin_mul, bin_fdiv, bin_mod, bin_tup, bin_str, cmp_lt, cmp_le, cmp_gt, cmp_ge, cmp_eqI, cmp_eqS, cmp_neI, cmp_neS, cmp_eqB, in_str2, in_str3, truth_bl, truth_int, truth_tup, truth_non, neg_int, intOf_int, tupOf_tup, idx_tup, idx_ref, idxO_lst, atI_0, atI_1, atI_2, atI_3, atI_4, cut_from, cut_to, List.drop_succ_cons, List.drop_zero, List.take_succ_cons, List.take_zero, List.drop_nil, List.take_nil, Int.reduceLE, Int.reduceBEq, blsD_map, blsD_cons, blsD_nil, set_ref, setO_cons, isList_ref, Option.isSome_some, Int.reduceLE, Int.reduceLT, Int.cast_ofNat_Int, Int.reduceToNat, List.getElem?_cons_succ, List.getElem?_cons_zero, Int.reduceNeg, Int.reduceAdd, at_new, and_self, or_true, true_or, true_and, and_true, Int.reducePow, Int.reduceSub, Int.reduceMul, seq_ref, seqO_lst, seqO_frz, lst_ref, lstO_lst, len_ref, list_ref, lisO_lst, append_ref, enWk_tup, enWk_ref, split_str, base_join, base_split, str_int, str_str, int_str, len_str, seqWk_str, extend_tup', extend_ref, base_append, base_extend, base_get, get2_ref, dctO_dct, keyD_int, keyD_str,  tuple_ref, all_ref, any_ref, add_ref, slc_ref, len_tup, list_tup, int_int, int_bl, abs_int, max_int, max_ref, min_int, slc_tup, rev_tup, seqWk_tup, zipWk_tup, rng_one, rng_two, rng_three, wkEnum_items, Option.map_some, Option.bind_some, setAll,
  List.set_cons_zero, List.set_cons_succ, List.set_set, List.foldl_nil, List.foldl_cons, List.length_cons, List.length_nil, List.map_cons, List.map_nil, List.cons_append, List.nil_append, List.replicate_succ, List.replicate_zero, Nat.reduceAdd, Nat.reduceSub, Bool.not_true, Bool.not_false, if_true, if_false, Bool.false_eq_true, decide_eq_true_eq, Nat.reduceLeDiff, lim_lit, wipe, isiD_tup, isiD_str, isiD_int, isiD_bl, isiD_non, isi_tup, isi_str, isi_int, isi_bool, Bool.and_true, Bool.and_false, Bool.true_and, Bool.false_and, tpB_tup, tpB_str, tpB_bl, tpB_int, tpB_non, tpB_ref, isStr_tup, isStr_str, isStr_bl, isStr_int, isStr_non, isStr_ref, isBl_tup, isBl_str, isBl_bl, isBl_int, isBl_non, isBl_ref, isInt_tup, isInt_str, isInt_bl, isInt_int, isInt_non, isInt_ref])
local macro_rules | `(tactic| walk_at "go1") => `(tactic| try simp only [wps_nil, wps_ex, wps_asg, wps_par, wps_ret, wps_cond, wps_loop, wps_brk, wps_cont, wps_pass, wp_ret, wp_slot, wp_cst, wp_tup, wp_lst, wp_bin, wp_neg, wp_cmp, wp_chain, wp_and, wp_or, wp_not, wp_ifx, wp_idx, wp_slc, wp_rev, wp_call, wp_meth, wp_blt, wp_listR, wp_isi, wp_new, wp_attr, wp_mcall, wp_isc, wp_sset, wps_sta, wp_of1m, cmpE_int, cmpE_str, cmpE_bl, cmpE_tup, cmpE_non, cmpE_ne, cmpE_lt, cmpE_le, cmpE_gt, cmpE_ge, cmpE_isn, cmpE_notn, cmpE_inn, cmpE_nin, wp_star, wp_comp, wp_dct, wp_nil, wp_cons, wp_knil, wp_kcons, wp_onone, wp_osome, wp_iseq, wp_irng, wp_ienum, wp_izip, wp_tslot, wp_ttup, wp_titem, wp_tnil, wp_tcons, wp_fnil, wp_fone, wp_ok, wp_of1, wp_of, wp_of1n, wp_ofn, wp_onB, wp_onBn, wp_calm, wp_bind, wp_ite, wp_exc, wp_bad,
  getL_0, getL_s, bin_add, bin_sub, bin_mul, bin_fdiv, bin_mod, bin_tup, bin_str, cmp_lt, cmp_le, cmp_gt, cmp_ge, cmp_eqI, cmp_eqS, cmp_neI, cmp_neS, cmp_eqB, in_str2, in_str3, truth_bl, truth_int, truth_tup, truth_non, neg_int, intOf_int, tupOf_tup, idx_tup, idx_ref, idxO_lst, atI_0, atI_1, atI_2, atI_3, atI_4, cut_from, cut_to, List.drop_succ_cons, List.drop_zero, List.take_succ_cons, List.take_zero, List.drop_nil, List.take_nil, Int.reduceLE, Int.reduceBEq, blsD_map, blsD_cons, blsD_nil, set_ref, setO_cons, isList_ref, Option.isSome_some, Int.reduceLE, Int.reduceLT, Int.cast_ofNat_Int, Int.reduceToNat, List.getElem?_cons_succ, List.getElem?_cons_zero, Int.reduceNeg, Int.reduceAdd, at_new, and_self, or_true, true_or, true_and, and_true, Int.reducePow, Int.reduceSub, Int.reduceMul, seq_ref, seqO_lst, seqO_frz, lst_ref, lstO_lst, len_ref, list_ref, lisO_lst, append_ref, enWk_tup, enWk_ref, split_str, base_join, base_split, str_int, str_str, int_str, len_str, seqWk_str, extend_tup', extend_ref, base_append, base_extend, base_get, get2_ref, dctO_dct, keyD_int, keyD_str,  tuple_ref, all_ref, any_ref, add_ref, slc_ref, len_tup, list_tup, int_int, int_bl, abs_int, max_int, max_ref, min_int, slc_tup, rev_tup, seqWk_tup, zipWk_tup, rng_one, rng_two, rng_three, wkEnum_items, Option.map_some, Option.bind_some, setAll,
  List.set_cons_zero, List.set_cons_succ, List.set_set, List.foldl_nil, List.foldl_cons, List.length_cons, List.length_nil, List.map_cons, List.map_nil, List.cons_append, List.nil_append, List.replicate_succ, List.replicate_zero, Nat.reduceAdd, Nat.reduceSub, Bool.not_true, Bool.not_false, if_true, if_false, Bool.false_eq_true, decide_eq_true_eq, Nat.reduceLeDiff, lim_lit, wipe, isiD_tup, isiD_str, isiD_int, isiD_bl, isiD_non, isi_tup, isi_str, isi_int, isi_bool, Bool.and_true, Bool.and_false, Bool.true_and, Bool.false_and, tpB_tup, tpB_str, tpB_bl, tpB_int, tpB_non, tpB_ref, isStr_tup, isStr_str, isStr_bl, isStr_int, isStr_non, isStr_ref, isBl_tup, isBl_str, isBl_bl, isBl_int, isBl_non, isBl_ref, isInt_tup, isInt_str, isInt_bl, isInt_int, isInt_non, isInt_ref])
theorem Ok3.small1 {m : Int} {hs : List Int} {ts : List (List Int)} (ok : Ok3 m hs ts) : Small [m] := by
  have := ok.m1
  have := ok.m2
  exact ⟨by simp, fun i hi => by simp at hi; omega⟩
theorem Ok3.small2 {m : Int} {hs : List Int} {ts : List (List Int)} (ok : Ok3 m hs ts) : Small hs := by
  have := ok.m2
  exact ⟨by rw [ok.hl]; omega, fun i hi => by have := ok.hb i hi; omega⟩
theorem TieOk.small {m : Int} {t : List Int} (h : TieOk m t) (hm : m ≤ 40) : Small t := by
  obtain ⟨k, a, b, rfl, h1, h2, h3⟩ := h
  exact ⟨by simp, fun i hi => by simp only [List.mem_cons, List.not_mem_nil, or_false] at hi; omega⟩
def tieG (w : List Nat) (f : List Nat → List Nat) : D → D
  | .tup ds => .str (S (f (lineT w ((intsD ds).getD []))))
  | d => d
theorem tieG_tup (w : List Nat) (f : List Nat → List Nat) (t : List Int) : tieG w f (tupI t) = .str (S (f (lineT w t))) := by
  show D.str (S (f (lineT w ((intsD (t.map D.int)).getD [])))) = _
  rw [intsD_ints]
  rfl
theorem tieG_all (w : List Nat) (f : List Nat → List Nat) (ts : List (List Int)) : (ts.map tupI).map (tieG w f) = ((ts.map fun t => f (lineT w t)).map S).map D.str := by
  simp only [List.map_map]
  exact List.map_congr_left fun t _ => tieG_tup w f t
theorem lens_web {m : Int} {hs : List Int} {ts : List (List Int)} (ok : Ok3 m hs ts) : ∀ l ∈ (linesT m hs ts).map nl, l.length ≤ 132 := fun l hl => by
  obtain ⟨x, hx, rfl⟩ := List.mem_map.mp hl
  rcases List.mem_cons.mp hx with e | e
  · rw [e]; exact line_len (by decide) ok.small1
  · rcases List.mem_cons.mp e with e | e
    · rw [e]; exact line_len (by decide) ok.small2
    · obtain ⟨t, ht, rfl⟩ := List.mem_map.mp e
      exact line_len (by decide) ((ok.tb t ht).small ok.m2)
section
variable {P : CProg} {k : Nat} {A : AH} {Q : D → AH → Prop} {E : Ex → AH → Prop}
theorem wp_lst1 {F : Fns} {L : Loc} {e : CE} : Wp (evE P F (.lst [e]) L A) Q E ↔ Wp (evE P F e L A) (fun d A => Q (.ref A.length) (A ++ [.lst [d]])) E := by
  rw [wp_lst, wp_cons]
  simp only [wp_nil]
  have : ([default] : List D).length ≤ lim := by rw [lim_lit]; decide
  simp only [List.length_cons, List.length_nil, Nat.zero_add, show (1 : Nat) ≤ lim by rw [lim_lit]; decide, if_true]
theorem web7 (h : Is69 P) {n : Nat} {m : Int} {hs : List Int} {ts : List (List Int)} (ok : Ok3 m hs ts) (hn : A[n]? = some (webO m hs ts)) (go : ∀ A', Fr [] A A' → Q (.str (S (webT m hs ts))) A') :
    Wp ((fns P (k + 2)).call 7 [.ref n] A) Q E := by
  rw [wp_def h.d7 rfl]; unfold b69_7
  rw [t_places, t_hues, t_tie, t_none]
  have c := ok.small2.1
  rw [wps_cons]
  walk_at "go1"
  rw [attr_many h hn]
  walk_at "go1"
  refine line6 h (w := wPlaces) (is := [m]) (by decide) ok.small1 at_new fun A1 f1 => ?_
  have f1' : Fr [] A A1 := ((Fr.refl _ _).snoc _).trans f1
  have h1 := f1'.get hn (by simp)
  simp only [wp_scons, wp_sstar, wp_snil]
  walk_at "go1"
  have ah := attr_hues h h1
  rw [t_hues] at ah
  rw [ah]
  walk_at "go1"
  simp only [hueD, seqOf]
  walk_at "go1"
  simp only [List.append_nil, List.length_map, show hs.length ≤ 16777215 by omega, if_true]
  refine line6 h (w := wHues) (is := hs) (by decide) ok.small2 at_new fun A2 f2 => ?_
  have f2' : Fr [] A A2 := (f1'.snoc _).trans f2
  generalize eA3 : A2 ++ [AO.lst [D.str (S (nl (lineT wPlaces [m]))), D.str (S (nl (lineT wHues hs)))]] = A3
  have e3 : A3[A2.length]? = some (.lst [D.str (S (nl (lineT wPlaces [m]))), D.str (S (nl (lineT wHues hs)))]) := by rw [← eA3]; exact at_new
  have f3 : Fr [] A A3 := by rw [← eA3]; exact f2'.snoc _
  have al := f2'.le
  generalize A2.length = l at e3 al ⊢
  rw [wps_cons]
  walk_at "go1"
  simp only [e3]
  walk_at "go1"
  rw [attr_ties h (f3.get hn (by simp))]
  walk_at "go1"
  simp only [tieD]
  walk_at "go1"
  refine comp_map (g := tieG wTie nl) (fun A' => Fr [] A3 A') (by simp [fuel]; have := ok.tl; omega) (Fr.refl _ _) (fun d acc A' hd ha hA => ?_) fun A' hA => ?_
  · obtain ⟨t, ht, rfl⟩ := List.mem_map.mp hd
    have st := (ok.tb t ht).small ok.m2
    have := st.1
    walk_at "go1"
    simp only [wp_scons, wp_sstar, wp_snil]
    walk_at "go1"
    simp only [tupI, seqOf]
    walk_at "go1"
    simp only [List.append_nil, List.length_map, show t.length ≤ 16777215 by omega, if_true]
    refine line6 h (w := wTie) (is := t) (by decide) st at_new fun A4 f4 => ?_
    simp only [ha, if_true, wp_ok]
    exact ⟨by rw [show D.tup (t.map D.int) = tupI t from rfl, tieG_tup], (hA.snoc _).trans f4⟩
  · rw [tieG_all]
    have e4 := at_snoc (o' := AO.lst (((ts.map fun t => nl (lineT wTie t)).map S).map D.str)) (hA.get e3 (by simp))
    have l4 : l < A'.length := lt_of_at (hA.get e3 (by simp))
    rw [e4]
    simp only [Option.bind_some, lstO_lst]
    rw [if_pos (by have := ok.tl; simp only [List.length_cons, List.length_nil, List.length_map]; omega)]
    walk_at "go1"
    generalize eA5 : (A' ++ [AO.lst (((ts.map fun t => nl (lineT wTie t)).map S).map D.str)]).set l _ = A5
    have e5 : A5[l]? = some (.lst ((((linesT m hs ts).map nl).map S).map D.str)) := by
      rw [← eA5, set_self (by rw [List.length_append]; omega)]
      simp only [linesT, List.map_cons, List.map_map, List.cons_append, List.nil_append]
      rfl
    have f5 : Fr [l] A3 A5 := by
      rw [← eA5]
      exact Fr.set (Fr.nil (hA.snoc _)) _ (by simp)
    rw [wps_cons]
    walk_at "go1"
    rw [join_all (by have := ok.tl; simp [linesT]; omega) (lens_web ok) e5]
    walk_at "go1"
    refine go _ ⟨Nat.le_trans f3.le f5.le, fun j hj _ => ?_⟩
    rw [f5.at_ j (Nat.lt_of_lt_of_le hj f3.le) ?_, f3.at_ j hj (by simp)]
    simp only [List.mem_singleton]
    omega
end
end Kin
end
section
set_option linter.all false
set_option maxRecDepth 100000
namespace Kin
open PySem
local macro_rules | `(tactic| walk_at "go") => `(tactic| try simp only [wps_nil, wps_cons, wps_ex, wps_asg, wps_par, wps_ret, wps_cond, wps_loop, wps_brk, wps_cont, wps_pass, wp_ret, wp_slot, wp_cst, wp_tup, wp_lst, wp_bin, wp_neg, wp_cmp, wp_chain, wp_and, wp_or, wp_not, wp_ifx, wp_idx, wp_slc, wp_rev, wp_call, wp_meth, wp_blt, wp_listR, wp_isi, wp_new, wp_attr, wp_mcall, wp_isc, wp_sset, wps_sta, wp_of1m, cmpE_int, cmpE_str, cmpE_bl, cmpE_tup, cmpE_non, cmpE_ne, cmpE_lt, cmpE_le, cmpE_gt, cmpE_ge, cmpE_isn, cmpE_notn, cmpE_inn, cmpE_nin, wp_star, wp_comp, wp_dct, wp_nil, wp_cons, wp_knil, wp_kcons, wp_onone, wp_osome, wp_iseq, wp_irng, wp_ienum, wp_izip, wp_tslot, wp_ttup, wp_titem, wp_tnil, wp_tcons, wp_fnil, wp_fone, wp_ok, wp_of1, wp_of, wp_of1n, wp_ofn, wp_onB, wp_onBn, wp_calm, wp_bind, wp_ite, wp_exc, wp_bad,
  getL_0, getL_s, bin_add, bin_sub, bin_mul, bin_fdiv, bin_mod, bin_tup, bin_str, cmp_lt, cmp_le, cmp_gt, cmp_ge, cmp_eqI, cmp_eqS, cmp_neI, cmp_neS, cmp_eqB, in_str2, in_str3, truth_bl, truth_int, truth_tup, truth_non, neg_int, intOf_int, tupOf_tup, idx_tup, idx_ref, idxO_lst, atI_0, atI_1, atI_2, atI_3, atI_4, cut_from, cut_to, List.drop_succ_cons, List.drop_zero, List.take_succ_cons, List.take_zero, List.drop_nil, List.take_nil, Int.reduceLE, Int.reduceBEq, blsD_map, blsD_cons, blsD_nil, set_ref, setO_cons, isList_ref, Option.isSome_some, Int.reduceLE, Int.reduceLT, Int.cast_ofNat_Int, Int.reduceToNat, List.getElem?_cons_succ, List.getElem?_cons_zero, Int.reduceNeg, Int.reduceAdd, at_new, and_self, or_true, true_or, true_and, and_true, Int.reducePow, Int.reduceSub, Int.reduceMul, seq_ref, seqO_lst, seqO_frz, lst_ref, lstO_lst, len_ref, list_ref, lisO_lst, append_ref, enWk_tup, enWk_ref, split_str, base_join, base_split, str_int, str_str, int_str, len_str, seqWk_str, extend_tup', extend_ref, base_append, base_extend, base_get, get2_ref, dctO_dct, keyD_int, keyD_str,  tuple_ref, all_ref, any_ref, add_ref, slc_ref, len_tup, list_tup, int_int, int_bl, abs_int, max_int, max_ref, min_int, slc_tup, rev_tup, seqWk_tup, zipWk_tup, rng_one, rng_two, rng_three, wkEnum_items, Option.map_some, Option.bind_some, setAll,
  List.set_cons_zero, List.set_cons_succ, List.set_set, List.foldl_nil, List.foldl_cons, List.length_cons, List.length_nil, List.map_cons, List.map_nil, List.cons_append, List.nil_append, List.replicate_succ, List.replicate_zero, Nat.reduceAdd, Nat.reduceSub, Bool.not_true, Bool.not_false, if_true, if_false, Bool.false_eq_true, decide_eq_true_eq, Nat.reduceLeDiff, lim_lit, wipe, isiD_tup, isiD_str, isiD_int, isiD_bl, isiD_non, isi_tup, isi_str, isi_int, isi_bool, Bool.and_true, Bool.and_false, Bool.true_and, Bool.false_and, tpB_tup, tpB_str, tpB_bl, tpB_int, tpB_non, tpB_ref, isStr_tup, isStr_str, isStr_bl, isStr_int, isStr_non, isStr_ref, isBl_tup, isBl_str, isBl_bl, isBl_int, isBl_non, isBl_ref, isInt_tup, isInt_str, isInt_bl, isInt_int, isInt_non, isInt_ref])
local macro_rules | `(tactic| walk_at "goh") => `(tactic| try simp only [*, Int.reduceBEq, wps_nil, wps_cons, wps_ex, wps_asg, wps_par, wps_ret, wps_cond, wps_loop, wps_brk, wps_cont, wps_pass, wp_ret, wp_slot, wp_cst, wp_tup, wp_lst, wp_bin, wp_neg, wp_cmp, wp_chain, wp_and, wp_or, wp_not, wp_ifx, wp_idx, wp_slc, wp_rev, wp_call, wp_meth, wp_blt, wp_listR, wp_isi, wp_new, wp_attr, wp_mcall, wp_isc, wp_sset, wps_sta, wp_of1m, cmpE_int, cmpE_str, cmpE_bl, cmpE_tup, cmpE_non, cmpE_ne, cmpE_lt, cmpE_le, cmpE_gt, cmpE_ge, cmpE_isn, cmpE_notn, cmpE_inn, cmpE_nin, wp_star, wp_comp, wp_dct, wp_nil, wp_cons, wp_knil, wp_kcons, wp_onone, wp_osome, wp_iseq, wp_irng, wp_ienum, wp_izip, wp_tslot, wp_ttup, wp_titem, wp_tnil, wp_tcons, wp_fnil, wp_fone, wp_ok, wp_of1, wp_of, wp_of1n, wp_ofn, wp_onB, wp_onBn, wp_calm, wp_bind, wp_ite, wp_exc, wp_bad,
  getL_0, getL_s, bin_add, bin_sub, bin_mul, bin_fdiv, bin_mod, bin_tup, bin_str, cmp_lt, cmp_le, cmp_gt, cmp_ge, cmp_eqI, cmp_eqS, cmp_neI, cmp_neS, cmp_eqB, in_str2, in_str3, truth_bl, truth_int, truth_tup, truth_non, neg_int, intOf_int, tupOf_tup, idx_tup, idx_ref, idxO_lst, atI_0, atI_1, atI_2, atI_3, atI_4, cut_from, cut_to, List.drop_succ_cons, List.drop_zero, List.take_succ_cons, List.take_zero, List.drop_nil, List.take_nil, Int.reduceLE, blsD_map, blsD_cons, blsD_nil, set_ref, setO_cons, isList_ref, Option.isSome_some, Int.reduceLE, Int.reduceLT, Int.cast_ofNat_Int, Int.reduceToNat, List.getElem?_cons_succ, List.getElem?_cons_zero, Int.reduceNeg, Int.reduceAdd, at_new, and_self, or_true, true_or, true_and, and_true, Int.reducePow, Int.reduceSub, Int.reduceMul, seq_ref, seqO_lst, seqO_frz, lst_ref, lstO_lst, len_ref, list_ref, lisO_lst, append_ref, enWk_tup, enWk_ref, split_str, base_join, base_split, str_int, str_str, int_str, len_str, seqWk_str, extend_tup', extend_ref, base_append, base_extend, base_get, get2_ref, dctO_dct, keyD_int, keyD_str,  tuple_ref, all_ref, any_ref, add_ref, slc_ref, len_tup, list_tup, int_int, int_bl, abs_int, max_int, max_ref, min_int, slc_tup, rev_tup, seqWk_tup, zipWk_tup, rng_one, rng_two, rng_three, wkEnum_items, Option.map_some, Option.bind_some, setAll,
  List.set_cons_zero, List.set_cons_succ, List.set_set, List.foldl_nil, List.foldl_cons, List.length_cons, List.length_nil, List.map_cons, List.map_nil, List.cons_append, List.nil_append, List.replicate_succ, List.replicate_zero, Nat.reduceAdd, Nat.reduceSub, Bool.not_true, Bool.not_false, if_true, if_false, Bool.false_eq_true, decide_eq_true_eq, Nat.reduceLeDiff, lim_lit, wipe, isiD_tup, isiD_str, isiD_int, isiD_bl, isiD_non, isi_tup, isi_str, isi_int, isi_bool, Bool.and_true, Bool.and_false, Bool.true_and, Bool.false_and, tpB_tup, tpB_str, tpB_bl, tpB_int, tpB_non, tpB_ref, isStr_tup, isStr_str, isStr_bl, isStr_int, isStr_non, isStr_ref, isBl_tup, isBl_str, isBl_bl, isBl_int, isBl_non, isBl_ref, isInt_tup, isInt_str, isInt_bl, isInt_int, isInt_non, isInt_ref])
local macro_rules | `(tactic| walk_at "dr") => `(tactic| (refine draw_ok (by assumption) (by assumption) (by first | assumption | omega | decide) (by first | omega | decide) ?_; intro r A' r0 r1 hp f))
local macro_rules | `(tactic| walk_at "an") => `(tactic| (refine any_ok (by assumption) (by assumption) (Pot.snoc (by assumption) _) at_new (Nat.ne_of_gt (Pot.lt (by assumption))) (by simp) (by simp) ?_; intro d A' hm hp f))
local macro_rules | `(tactic| walk_at "fr") => `(tactic| repeat first | exact Fr.refl _ _ | assumption | refine Fr.snoc ?_ _ | refine Fr.trans ?_ (by assumption) | refine Fr.trans ?_ (Fr.nil (by assumption)))
local macro_rules | `(tactic| walk_at "g1") => `(tactic| try simp only [*, wps_nil, wps_ex, wps_asg, wps_par, wps_ret, wps_cond, wps_loop, wps_brk, wps_cont, wps_pass, wp_ret, wp_slot, wp_cst, wp_tup, wp_lst, wp_bin, wp_neg, wp_cmp, wp_chain, wp_and, wp_or, wp_not, wp_ifx, wp_idx, wp_slc, wp_rev, wp_call, wp_meth, wp_blt, wp_listR, wp_isi, wp_new, wp_attr, wp_mcall, wp_isc, wp_sset, wps_sta, wp_of1m, cmpE_int, cmpE_str, cmpE_bl, cmpE_tup, cmpE_non, cmpE_ne, cmpE_lt, cmpE_le, cmpE_gt, cmpE_ge, cmpE_isn, cmpE_notn, cmpE_inn, cmpE_nin, wp_star, wp_comp, wp_dct, wp_nil, wp_cons, wp_knil, wp_kcons, wp_onone, wp_osome, wp_iseq, wp_irng, wp_ienum, wp_izip, wp_tslot, wp_ttup, wp_titem, wp_tnil, wp_tcons, wp_fnil, wp_fone, wp_ok, wp_of1, wp_of, wp_of1n, wp_ofn, wp_onB, wp_onBn, wp_calm, wp_bind, wp_ite, wp_exc, wp_bad,
  getL_0, getL_s, bin_add, bin_sub, bin_mul, bin_fdiv, bin_mod, bin_tup, bin_str, cmp_lt, cmp_le, cmp_gt, cmp_ge, cmp_eqI, cmp_eqS, cmp_neI, cmp_neS, cmp_eqB, in_str2, in_str3, truth_bl, truth_int, truth_tup, truth_non, neg_int, intOf_int, tupOf_tup, idx_tup, idx_ref, idxO_lst, atI_0, atI_1, atI_2, atI_3, atI_4, cut_from, cut_to, List.drop_succ_cons, List.drop_zero, List.take_succ_cons, List.take_zero, List.drop_nil, List.take_nil, Int.reduceLE, Int.reduceBEq, blsD_map, blsD_cons, blsD_nil, set_ref, setO_cons, isList_ref, Option.isSome_some, Int.reduceLE, Int.reduceLT, Int.cast_ofNat_Int, Int.reduceToNat, List.getElem?_cons_succ, List.getElem?_cons_zero, Int.reduceNeg, Int.reduceAdd, at_new, and_self, or_true, true_or, true_and, and_true, Int.reducePow, Int.reduceSub, Int.reduceMul, seq_ref, seqO_lst, seqO_frz, lst_ref, lstO_lst, len_ref, list_ref, lisO_lst, append_ref, enWk_tup, enWk_ref, split_str, base_join, base_split, str_int, str_str, int_str, len_str, seqWk_str, extend_tup', extend_ref, base_append, base_extend, base_get, get2_ref, dctO_dct, keyD_int, keyD_str,  tuple_ref, all_ref, any_ref, add_ref, slc_ref, len_tup, list_tup, int_int, int_bl, abs_int, max_int, max_ref, min_int, slc_tup, rev_tup, seqWk_tup, zipWk_tup, rng_one, rng_two, rng_three, wkEnum_items, Option.map_some, Option.bind_some, setAll,
  List.set_cons_zero, List.set_cons_succ, List.set_set, List.foldl_nil, List.foldl_cons, List.length_cons, List.length_nil, List.map_cons, List.map_nil, List.cons_append, List.nil_append, List.replicate_succ, List.replicate_zero, Nat.reduceAdd, Nat.reduceSub, Bool.not_true, Bool.not_false, if_true, if_false, Bool.false_eq_true, decide_eq_true_eq, Nat.reduceLeDiff, lim_lit, wipe, isiD_tup, isiD_str, isiD_int, isiD_bl, isiD_non, isi_tup, isi_str, isi_int, isi_bool, Bool.and_true, Bool.and_false, Bool.true_and, Bool.false_and, tpB_tup, tpB_str, tpB_bl, tpB_int, tpB_non, tpB_ref, isStr_tup, isStr_str, isStr_bl, isStr_int, isStr_non, isStr_ref, isBl_tup, isBl_str, isBl_bl, isBl_int, isBl_non, isBl_ref, isInt_tup, isInt_str, isInt_bl, isInt_int, isInt_non, isInt_ref])
local macro_rules | `(tactic| walk_at "go1") => `(tactic| try simp only [wps_nil, wps_ex, wps_asg, wps_par, wps_ret, wps_cond, wps_loop, wps_brk, wps_cont, wps_pass, wp_ret, wp_slot, wp_cst, wp_tup, wp_lst, wp_bin, wp_neg, wp_cmp, wp_chain, wp_and, wp_or, wp_not, wp_ifx, wp_idx, wp_slc, wp_rev, wp_call, wp_meth, wp_blt, wp_listR, wp_isi, wp_new, wp_attr, wp_mcall, wp_isc, wp_sset, wps_sta, wp_of1m, cmpE_int, cmpE_str, cmpE_bl, cmpE_tup, cmpE_non, cmpE_ne, cmpE_lt, cmpE_le, cmpE_gt, cmpE_ge, cmpE_isn, cmpE_notn, cmpE_inn, cmpE_nin, wp_star, wp_comp, wp_dct, wp_nil, wp_cons, wp_knil, wp_kcons, wp_onone, wp_osome, wp_iseq, wp_irng, wp_ienum, wp_izip, wp_tslot, wp_ttup, wp_titem, wp_tnil, wp_tcons, wp_fnil, wp_fone, wp_ok, wp_of1, wp_of, wp_of1n, wp_ofn, wp_onB, wp_onBn, wp_calm, wp_bind, wp_ite, wp_exc, wp_bad,
  getL_0, getL_s, bin_add, bin_sub, bin_mul, bin_fdiv, bin_mod, bin_tup, bin_str, cmp_lt, cmp_le, cmp_gt, cmp_ge, cmp_eqI, cmp_eqS, cmp_neI, cmp_neS, cmp_eqB, in_str2, in_str3, truth_bl, truth_int, truth_tup, truth_non, neg_int, intOf_int, tupOf_tup, idx_tup, idx_ref, idxO_lst, atI_0, atI_1, atI_2, atI_3, atI_4, cut_from, cut_to, List.drop_succ_cons, List.drop_zero, List.take_succ_cons, List.take_zero, List.drop_nil, List.take_nil, Int.reduceLE, Int.reduceBEq, blsD_map, blsD_cons, blsD_nil, set_ref, setO_cons, isList_ref, Option.isSome_some, Int.reduceLE, Int.reduceLT, Int.cast_ofNat_Int, Int.reduceToNat, List.getElem?_cons_succ, List.getElem?_cons_zero, Int.reduceNeg, Int.reduceAdd, at_new, and_self, or_true, true_or, true_and, and_true, Int.reducePow, Int.reduceSub, Int.reduceMul, seq_ref, seqO_lst, seqO_frz, lst_ref, lstO_lst, len_ref, list_ref, lisO_lst, append_ref, enWk_tup, enWk_ref, split_str, base_join, base_split, str_int, str_str, int_str, len_str, seqWk_str, extend_tup', extend_ref, base_append, base_extend, base_get, get2_ref, dctO_dct, keyD_int, keyD_str,  tuple_ref, all_ref, any_ref, add_ref, slc_ref, len_tup, list_tup, int_int, int_bl, abs_int, max_int, max_ref, min_int, slc_tup, rev_tup, seqWk_tup, zipWk_tup, rng_one, rng_two, rng_three, wkEnum_items, Option.map_some, Option.bind_some, setAll,
  List.set_cons_zero, List.set_cons_succ, List.set_set, List.foldl_nil, List.foldl_cons, List.length_cons, List.length_nil, List.map_cons, List.map_nil, List.cons_append, List.nil_append, List.replicate_succ, List.replicate_zero, Nat.reduceAdd, Nat.reduceSub, Bool.not_true, Bool.not_false, if_true, if_false, Bool.false_eq_true, decide_eq_true_eq, Nat.reduceLeDiff, lim_lit, wipe, isiD_tup, isiD_str, isiD_int, isiD_bl, isiD_non, isi_tup, isi_str, isi_int, isi_bool, Bool.and_true, Bool.and_false, Bool.true_and, Bool.false_and, tpB_tup, tpB_str, tpB_bl, tpB_int, tpB_non, tpB_ref, isStr_tup, isStr_str, isStr_bl, isStr_int, isStr_non, isStr_ref, isBl_tup, isBl_str, isBl_bl, isBl_int, isBl_non, isBl_ref, isInt_tup, isInt_str, isInt_bl, isInt_int, isInt_non, isInt_ref])
def nlG : D → D
  | .str x => .str (x ++ S [10])
  | d => d
theorem nlG_all (ls : List (List Nat)) : ((ls.map S).map D.str).map nlG = ((ls.map nl).map S).map D.str := by
  simp only [List.map_map]
  refine List.map_congr_left fun l _ => ?_
  show D.str (S l ++ S [10]) = D.str (S (nl l))
  rw [SX.S_cat]
  rfl
section
variable {P : CProg} {k : Nat} {A : AH} {Q : D → AH → Prop} {E : Ex → AH → Prop}
theorem small_len {w : List Nat} (hw : w.length ≤ 10) {is : List Int} (hs : Small is) : (lineT w is).length ≤ 131 := by
  have := line_len hw hs
  unfold nl at this
  rw [List.length_append] at this
  simp only [List.length_cons, List.length_nil] at this
  omega
theorem getL_set {L : Loc} {i : Nat} {d : D} (h : i < L.length) : getL (L.set i (some d)) i = some d := by
  unfold getL
  rw [List.getElem?_set_self h]
theorem join_lineC {w : List Nat} (hw : w.length ≤ 10) {is : List Int} (hs : Small is) {n : Nat} (hn : A[n]? = some (.lst (.str (S w) :: ((is.map numT).map S).map D.str))) :
    methB .join (.str (S [32])) [.ref n] A = some (.str (S (lineT w is)), A) := join_line hw hs hn
theorem strG_ints (is : List Int) : (is.map D.int).map strG = ((is.map numT).map S).map D.str := by
  simp only [List.map_map]
  rfl
/-- a word and the figures of a row of numbers, joined -/
theorem row_text {F : Fns} {L : Loc} {w : List Nat} (hw : w.length ≤ 10) {is : List Int} (hs : Small is) {i : Nat} {e : CE} (hi : i < L.length)
    (he : ∀ (A : AH) (Q : D → AH → Prop), Q (.tup (is.map .int)) A → Wp (evE P F e L A) Q E) (go : ∀ A', Fr [] A A' → Q (.str (S (lineT w is))) A') :
    Wp (evE P F (.meth .join (.cst (.str (S [32]))) [.bin .add (.lst [.cst (.str (S w))]) (.comp (.blt .str [.slot i]) (.slot i) (.seq e) [] [i])]) L A) Q E := by
  have c := hs.1
  walk_at "go1"
  refine he _ _ ?_
  walk_at "go1"
  refine comp_map (g := strG) (fun A' => A' = A ++ [.lst [.str (S w)]]) (by simp [fuel]; omega) rfl (fun d acc A' hd ha hA => ?_) fun A' hA => ?_
  · subst hA
    obtain ⟨j, hj, rfl⟩ := List.mem_map.mp hd
    have hb := hs.2 j hj
    walk_at "go1"
    rw [getL_set hi]
    walk_at "go1"
    simp only [log_ok hb.1 hb.2, if_true, wp_of, ha, wp_ok, str_num hb.1]
    first | exact ⟨rfl, rfl⟩ | exact ⟨trivial, trivial⟩ | exact ⟨rfl, trivial⟩ | rfl | trivial
  · subst hA
    rw [strG_ints]
    have a1 : ((A ++ [AO.lst [D.str (S w)]]) ++ [AO.lst (((is.map numT).map S).map D.str)])[A.length]? = some (.lst [D.str (S w)]) := at_snoc at_new
    rw [a1]
    walk_at "go1"
    rw [if_pos (by simp only [List.length_map]; omega)]
    walk_at "go1"
    rw [join_lineC hw hs at_new]
    walk_at "go1"
    exact go _ ((((Fr.refl _ _).snoc _).snoc _).snoc _)
theorem text15 (h : Is69 P) {m : Int} {hs : List Int} {ts : List (List Int)} (ok : Ok3 m hs ts) (go : ∀ A', Fr [] A A' → Q (.str (S (webT m hs ts))) A') :
    Wp ((fns P (k + 1)).call 15 [parD m hs ts] A) Q E := by
  rw [wp_def h.d15 rfl]; unfold b69_15 parD
  rw [t_placesp, t_sp, t_hues, t_tie, t_none, t_nl]
  have m1 := ok.m1
  have m2 := ok.m2
  have lm := num_len (i := m) (by omega) (by omega)
  have lt := ok.tl
  generalize e2 : CE.meth Bm.join (.cst (.str (S [32]))) [.bin .add (.lst [.cst (.str (S wHues))]) _] = c2
  rw [wps_cons]
  walk_at "go1"
  simp only [log_ok (i := m) (by omega) (by omega), if_true, wp_of, str_num (i := m) (by omega)]
  walk_at "go1"
  rw [if_pos (by simp only [SX.S_len, List.length_append, wPlaces, List.length_cons, List.length_nil]; omega), SX.S_cat]
  walk_at "go1"
  subst e2
  refine row_text (w := wHues) (is := hs) (by decide) ok.small2 (by simp) (fun A Q q => by walk_at "go1"; exact q) fun A1 f1 => ?_
  walk_at "go1"
  have eL : wPlaces ++ [32] ++ numT m = lineT wPlaces [m] := by
    show _ = wPlaces ++ ([32] ++ numT m)
    rw [List.append_assoc]
  rw [eL]
  generalize e3 : A1 ++ [AO.lst [D.str (S (lineT wPlaces [m])), D.str (S (lineT wHues hs))]] = A2
  have h2 : A2[A1.length]? = some (.lst [D.str (S (lineT wPlaces [m])), D.str (S (lineT wHues hs))]) := by rw [← e3]; exact at_new
  have f2 : Fr [] A A2 := by rw [← e3]; exact f1.snoc _
  generalize A1.length = l at h2 ⊢
  rw [wps_cons]
  generalize e4 : CE.meth Bm.join (.cst (.str (S [32]))) [.bin .add (.lst [.cst (.str (S wTie))]) _] = c4
  walk_at "go1"
  simp only [tieD]
  walk_at "go1"
  refine comp_map (g := tieG wTie id) (fun A' => Fr [] A2 A') (by simp [fuel]; omega) (Fr.refl _ _) (fun d acc A' hd ha hA => ?_) fun A' hA => ?_
  · obtain ⟨t, ht, rfl⟩ := List.mem_map.mp hd
    have st := (ok.tb t ht).small ok.m2
    simp only [wp_calm, wp_bind]
    walk_at "go1"
    subst e4
    refine row_text (w := wTie) (is := t) (by decide) st (by simp [wipe]) (fun A Q q => by walk_at "go1"; exact q) fun A4 f4 => ?_
    simp only [ha, if_true, wp_ok]
    exact ⟨by rw [tieG_tup]; rfl, hA.trans f4⟩
  · rw [tieG_all]
    have h3 := at_snoc (o' := AO.lst (((ts.map fun t => id (lineT wTie t)).map S).map D.str)) (hA.get h2 (by simp))
    rw [h3]
    walk_at "go1"
    rw [if_pos (by simp only [List.length_map, List.length_cons, List.length_nil]; omega)]
    walk_at "go1"
    have f3 : Fr [] A (A' ++ [AO.lst (((ts.map fun t => id (lineT wTie t)).map S).map D.str)]) := (f2.trans hA).snoc _
    generalize A' ++ [AO.lst (((ts.map fun t => id (lineT wTie t)).map S).map D.str)] = A3 at f3 ⊢
    have eR : (D.str (S (lineT wPlaces [m])) :: D.str (S (lineT wHues hs)) :: ((ts.map fun t => id (lineT wTie t)).map S).map D.str) = ((linesT m hs ts).map S).map D.str := by
      simp only [linesT, List.map_cons, List.map_map]
      rfl
    rw [eR]
    rw [wps_cons]
    walk_at "go1"
    rw [seqWk_ref at_new]
    walk_at "go1"
    refine comp_mapL (g := nlG) (fun B => B = A3 ++ [AO.lst (((linesT m hs ts).map S).map D.str)]) (fun B e => by rw [e]; exact at_new) (by simp [fuel, linesT]; omega) rfl (fun d acc B hd ha hB => ?_) fun B hB => ?_
    · subst hB
      obtain ⟨x, hx, rfl⟩ := List.mem_map.mp hd
      obtain ⟨l, hl, rfl⟩ := List.mem_map.mp hx
      have b := lens_web ok (nl l) (List.mem_map_of_mem hl)
      unfold nl at b
      rw [List.length_append] at b
      walk_at "go1"
      rw [if_pos (by simp only [SX.S_len]; simp only [List.length_cons, List.length_nil] at b ⊢; omega)]
      walk_at "go1"
      simp only [ha, if_true, wp_ok]
      first | exact ⟨rfl, trivial⟩ | rfl | trivial
    · subst hB
      rw [nlG_all, join_all (by simp [linesT]; omega) (lens_web ok) at_new]
      walk_at "go1"
      exact go _ ((f3.snoc _).snoc _)
end
end Kin
end
section
set_option linter.all false
set_option maxRecDepth 100000
namespace Kin
open PySem
local macro_rules | `(tactic| walk_at "go") => `(tactic| try simp only [wps_nil, wps_cons, wps_ex, wps_asg, wps_par, wps_ret, wps_cond, wps_loop, wps_brk, wps_cont, wps_pass, wp_ret, wp_slot, wp_cst, wp_tup, wp_lst, wp_bin, wp_neg, wp_cmp, wp_chain, wp_and, wp_or, wp_not, wp_ifx, wp_idx, wp_slc, wp_rev, wp_call, wp_meth, wp_blt, wp_listR, wp_isi, wp_new, wp_attr, wp_mcall, wp_isc, wp_sset, wps_sta, wp_of1m, cmpE_int, cmpE_str, cmpE_bl, cmpE_tup, cmpE_non, cmpE_ne, cmpE_lt, cmpE_le, cmpE_gt, cmpE_ge, cmpE_isn, cmpE_notn, cmpE_inn, cmpE_nin, wp_star, wp_comp, wp_dct, wp_nil, wp_cons, wp_knil, wp_kcons, wp_onone, wp_osome, wp_iseq, wp_irng, wp_ienum, wp_izip, wp_tslot, wp_ttup, wp_titem, wp_tnil, wp_tcons, wp_fnil, wp_fone, wp_ok, wp_of1, wp_of, wp_of1n, wp_ofn, wp_onB, wp_onBn, wp_calm, wp_bind, wp_ite, wp_exc, wp_bad,
  getL_0, getL_s, bin_add, bin_sub, bin_mul, bin_fdiv, bin_mod, bin_tup, bin_str, cmp_lt, cmp_le, cmp_gt, cmp_ge, cmp_eqI, cmp_eqS, cmp_neI, cmp_neS, cmp_eqB, in_str2, in_str3, truth_bl, truth_int, truth_tup, truth_non, neg_int, intOf_int, tupOf_tup, idx_tup, idx_ref, idxO_lst, atI_0, atI_1, atI_2, atI_3, atI_4, cut_from, cut_to, List.drop_succ_cons, List.drop_zero, List.take_succ_cons, List.take_zero, List.drop_nil, List.take_nil, Int.reduceLE, Int.reduceBEq, blsD_map, blsD_cons, blsD_nil, set_ref, setO_cons, isList_ref, Option.isSome_some, Int.reduceLE, Int.reduceLT, Int.cast_ofNat_Int, Int.reduceToNat, List.getElem?_cons_succ, List.getElem?_cons_zero, Int.reduceNeg, Int.reduceAdd, at_new, and_self, or_true, true_or, true_and, and_true, Int.reducePow, Int.reduceSub, Int.reduceMul, seq_ref, seqO_lst, seqO_frz, lst_ref, lstO_lst, len_ref, list_ref, lisO_lst, append_ref, enWk_tup, enWk_ref, split_str, base_join, base_split, str_int, str_str, int_str, len_str, seqWk_str, extend_tup', extend_ref, base_append, base_extend, base_get, get2_ref, dctO_dct, keyD_int, keyD_str,  tuple_ref, all_ref, any_ref, add_ref, slc_ref, len_tup, list_tup, int_int, int_bl, abs_int, max_int, max_ref, min_int, slc_tup, rev_tup, seqWk_tup, zipWk_tup, rng_one, rng_two, rng_three, wkEnum_items, Option.map_some, Option.bind_some, setAll,
  List.set_cons_zero, List.set_cons_succ, List.set_set, List.foldl_nil, List.foldl_cons, List.length_cons, List.length_nil, List.map_cons, List.map_nil, List.cons_append, List.nil_append, List.replicate_succ, List.replicate_zero, Nat.reduceAdd, Nat.reduceSub, Bool.not_true, Bool.not_false, if_true, if_false, Bool.false_eq_true, decide_eq_true_eq, Nat.reduceLeDiff, lim_lit, wipe, isiD_tup, isiD_str, isiD_int, isiD_bl, isiD_non, isi_tup, isi_str, isi_int, isi_bool, Bool.and_true, Bool.and_false, Bool.true_and, Bool.false_and, tpB_tup, tpB_str, tpB_bl, tpB_int, tpB_non, tpB_ref, isStr_tup, isStr_str, isStr_bl, isStr_int, isStr_non, isStr_ref, isBl_tup, isBl_str, isBl_bl, isBl_int, isBl_non, isBl_ref, isInt_tup, isInt_str, isInt_bl, isInt_int, isInt_non, isInt_ref])
local macro_rules | `(tactic| walk_at "goh") => `(tactic| try simp only [*, Int.reduceBEq, wps_nil, wps_cons, wps_ex, wps_asg, wps_par, wps_ret, wps_cond, wps_loop, wps_brk, wps_cont, wps_pass, wp_ret, wp_slot, wp_cst, wp_tup, wp_lst, wp_bin, wp_neg, wp_cmp, wp_chain, wp_and, wp_or, wp_not, wp_ifx, wp_idx, wp_slc, wp_rev, wp_call, wp_meth, wp_blt, wp_listR, wp_isi, wp_new, wp_attr, wp_mcall, wp_isc, wp_sset, wps_sta, wp_of1m, cmpE_int, cmpE_str, cmpE_bl, cmpE_tup, cmpE_non, cmpE_ne, cmpE_lt, cmpE_le, cmpE_gt, cmpE_ge, cmpE_isn, cmpE_notn, cmpE_inn, cmpE_nin, wp_star, wp_comp, wp_dct, wp_nil, wp_cons, wp_knil, wp_kcons, wp_onone, wp_osome, wp_iseq, wp_irng, wp_ienum, wp_izip, wp_tslot, wp_ttup, wp_titem, wp_tnil, wp_tcons, wp_fnil, wp_fone, wp_ok, wp_of1, wp_of, wp_of1n, wp_ofn, wp_onB, wp_onBn, wp_calm, wp_bind, wp_ite, wp_exc, wp_bad,
  getL_0, getL_s, bin_add, bin_sub, bin_mul, bin_fdiv, bin_mod, bin_tup, bin_str, cmp_lt, cmp_le, cmp_gt, cmp_ge, cmp_eqI, cmp_eqS, cmp_neI, cmp_neS, cmp_eqB, in_str2, in_str3, truth_bl, truth_int, truth_tup, truth_non, neg_int, intOf_int, tupOf_tup, idx_tup, idx_ref, idxO_lst, atI_0, atI_1, atI_2, atI_3, atI_4, cut_from, cut_to, List.drop_succ_cons, List.drop_zero, List.take_succ_cons, List.take_zero, List.drop_nil, List.take_nil, Int.reduceLE, blsD_map, blsD_cons, blsD_nil, set_ref, setO_cons, isList_ref, Option.isSome_some, Int.reduceLE, Int.reduceLT, Int.cast_ofNat_Int, Int.reduceToNat, List.getElem?_cons_succ, List.getElem?_cons_zero, Int.reduceNeg, Int.reduceAdd, at_new, and_self, or_true, true_or, true_and, and_true, Int.reducePow, Int.reduceSub, Int.reduceMul, seq_ref, seqO_lst, seqO_frz, lst_ref, lstO_lst, len_ref, list_ref, lisO_lst, append_ref, enWk_tup, enWk_ref, split_str, base_join, base_split, str_int, str_str, int_str, len_str, seqWk_str, extend_tup', extend_ref, base_append, base_extend, base_get, get2_ref, dctO_dct, keyD_int, keyD_str,  tuple_ref, all_ref, any_ref, add_ref, slc_ref, len_tup, list_tup, int_int, int_bl, abs_int, max_int, max_ref, min_int, slc_tup, rev_tup, seqWk_tup, zipWk_tup, rng_one, rng_two, rng_three, wkEnum_items, Option.map_some, Option.bind_some, setAll,
  List.set_cons_zero, List.set_cons_succ, List.set_set, List.foldl_nil, List.foldl_cons, List.length_cons, List.length_nil, List.map_cons, List.map_nil, List.cons_append, List.nil_append, List.replicate_succ, List.replicate_zero, Nat.reduceAdd, Nat.reduceSub, Bool.not_true, Bool.not_false, if_true, if_false, Bool.false_eq_true, decide_eq_true_eq, Nat.reduceLeDiff, lim_lit, wipe, isiD_tup, isiD_str, isiD_int, isiD_bl, isiD_non, isi_tup, isi_str, isi_int, isi_bool, Bool.and_true, Bool.and_false, Bool.true_and, Bool.false_and, tpB_tup, tpB_str, tpB_bl, tpB_int, tpB_non, tpB_ref, isStr_tup, isStr_str, isStr_bl, isStr_int, isStr_non, isStr_ref, isBl_tup, isBl_str, isBl_bl, isBl_int, isBl_non, isBl_ref, isInt_tup, isInt_str, isInt_bl, isInt_int, isInt_non, isInt_ref])
local macro_rules | `(tactic| walk_at "dr") => `(tactic| (refine draw_ok (by assumption) (by assumption) (by first | assumption | omega | decide) (by first | omega | decide) ?_; intro r A' r0 r1 hp f))
local macro_rules | `(tactic| walk_at "an") => `(tactic| (refine any_ok (by assumption) (by assumption) (Pot.snoc (by assumption) _) at_new (Nat.ne_of_gt (Pot.lt (by assumption))) (by simp) (by simp) ?_; intro d A' hm hp f))
local macro_rules | `(tactic| walk_at "fr") => `(tactic| repeat first | exact Fr.refl _ _ | assumption | refine Fr.snoc ?_ _ | refine Fr.trans ?_ (by assumption) | refine Fr.trans ?_ (Fr.nil (by assumption)))
local macro_rules | `(tactic| walk_at "g1") => `(tactic| try simp only [*, wps_nil, wps_ex, wps_asg, wps_par, wps_ret, wps_cond, wps_loop, wps_brk, wps_cont, wps_pass, wp_ret, wp_slot, wp_cst, wp_tup, wp_lst, wp_bin, wp_neg, wp_cmp, wp_chain, wp_and, wp_or, wp_not, wp_ifx, wp_idx, wp_slc, wp_rev, wp_call, wp_meth, wp_blt, wp_listR, wp_isi, wp_new, wp_attr, wp_mcall, wp_isc, wp_sset, wps_sta, wp_of1m, cmpE_int, cmpE_str, cmpE_bl, cmpE_tup, cmpE_non, cmpE_ne, cmpE_lt, cmpE_le, cmpE_gt, cmpE_ge, cmpE_isn, cmpE_notn, cmpE_inn, cmpE_nin, wp_star, wp_comp, wp_dct, wp_nil, wp_cons, wp_knil, wp_kcons, wp_onone, wp_osome, wp_iseq, wp_irng, wp_ienum, wp_izip, wp_tslot, wp_ttup, wp_titem, wp_tnil, wp_tcons, wp_fnil, wp_fone, wp_ok, wp_of1, wp_of, wp_of1n, wp_ofn, wp_onB, wp_onBn, wp_calm, wp_bind, wp_ite, wp_exc, wp_bad,
  getL_0, getL_s, bin_add, bin_sub, bin_mul, bin_fdiv, bin_mod, bin_tup, bin_str, cmp_lt, cmp_le, cmp_gt, cmp_ge, cmp_eqI, cmp_eqS, cmp_neI, cmp_neS, cmp_eqB, in_str2, in_str3, truth_bl, truth_int, truth_tup, truth_non, neg_int, intOf_int, tupOf_tup, idx_tup, idx_ref, idxO_lst, atI_0, atI_1, atI_2, atI_3, atI_4, cut_from, cut_to, List.drop_succ_cons, List.drop_zero, List.take_succ_cons, List.take_zero, List.drop_nil, List.take_nil, Int.reduceLE, Int.reduceBEq, blsD_map, blsD_cons, blsD_nil, set_ref, setO_cons, isList_ref, Option.isSome_some, Int.reduceLE, Int.reduceLT, Int.cast_ofNat_Int, Int.reduceToNat, List.getElem?_cons_succ, List.getElem?_cons_zero, Int.reduceNeg, Int.reduceAdd, at_new, and_self, or_true, true_or, true_and, and_true, Int.reducePow, Int.reduceSub, Int.reduceMul, seq_ref, seqO_lst, seqO_frz, lst_ref, lstO_lst, len_ref, list_ref, lisO_lst, append_ref, enWk_tup, enWk_ref, split_str, base_join, base_split, str_int, str_str, int_str, len_str, seqWk_str, extend_tup', extend_ref, base_append, base_extend, base_get, get2_ref, dctO_dct, keyD_int, keyD_str,  tuple_ref, all_ref, any_ref, add_ref, slc_ref, len_tup, list_tup, int_int, int_bl, abs_int, max_int, max_ref, min_int, slc_tup, rev_tup, seqWk_tup, zipWk_tup, rng_one, rng_two, rng_three, wkEnum_items, Option.map_some, Option.bind_some, setAll,
  List.set_cons_zero, List.set_cons_succ, List.set_set, List.foldl_nil, List.foldl_cons, List.length_cons, List.length_nil, List.map_cons, List.map_nil, List.cons_append, List.nil_append, List.replicate_succ, List.replicate_zero, Nat.reduceAdd, Nat.reduceSub, Bool.not_true, Bool.not_false, if_true, if_false, Bool.false_eq_true, decide_eq_true_eq, Nat.reduceLeDiff, lim_lit, wipe, isiD_tup, isiD_str, isiD_int, isiD_bl, isiD_non, isi_tup, isi_str, isi_int, isi_bool, Bool.and_true, Bool.and_false, Bool.true_and, Bool.false_and, tpB_tup, tpB_str, tpB_bl, tpB_int, tpB_non, tpB_ref, isStr_tup, isStr_str, isStr_bl, isStr_int, isStr_non, isStr_ref, isBl_tup, isBl_str, isBl_bl, isBl_int, isBl_non, isBl_ref, isInt_tup, isInt_str, isInt_bl, isInt_int, isInt_non, isInt_ref])
local macro_rules | `(tactic| walk_at "go1") => `(tactic| try simp only [wps_nil, wps_ex, wps_asg, wps_par, wps_ret, wps_cond, wps_loop, wps_brk, wps_cont, wps_pass, wp_ret, wp_slot, wp_cst, wp_tup, wp_lst, wp_bin, wp_neg, wp_cmp, wp_chain, wp_and, wp_or, wp_not, wp_ifx, wp_idx, wp_slc, wp_rev, wp_call, wp_meth, wp_blt, wp_listR, wp_isi, wp_new, wp_attr, wp_mcall, wp_isc, wp_sset, wps_sta, wp_of1m, cmpE_int, cmpE_str, cmpE_bl, cmpE_tup, cmpE_non, cmpE_ne, cmpE_lt, cmpE_le, cmpE_gt, cmpE_ge, cmpE_isn, cmpE_notn, cmpE_inn, cmpE_nin, wp_star, wp_comp, wp_dct, wp_nil, wp_cons, wp_knil, wp_kcons, wp_onone, wp_osome, wp_iseq, wp_irng, wp_ienum, wp_izip, wp_tslot, wp_ttup, wp_titem, wp_tnil, wp_tcons, wp_fnil, wp_fone, wp_ok, wp_of1, wp_of, wp_of1n, wp_ofn, wp_onB, wp_onBn, wp_calm, wp_bind, wp_ite, wp_exc, wp_bad,
  getL_0, getL_s, bin_add, bin_sub, bin_mul, bin_fdiv, bin_mod, bin_tup, bin_str, cmp_lt, cmp_le, cmp_gt, cmp_ge, cmp_eqI, cmp_eqS, cmp_neI, cmp_neS, cmp_eqB, in_str2, in_str3, truth_bl, truth_int, truth_tup, truth_non, neg_int, intOf_int, tupOf_tup, idx_tup, idx_ref, idxO_lst, atI_0, atI_1, atI_2, atI_3, atI_4, cut_from, cut_to, List.drop_succ_cons, List.drop_zero, List.take_succ_cons, List.take_zero, List.drop_nil, List.take_nil, Int.reduceLE, Int.reduceBEq, blsD_map, blsD_cons, blsD_nil, set_ref, setO_cons, isList_ref, Option.isSome_some, Int.reduceLE, Int.reduceLT, Int.cast_ofNat_Int, Int.reduceToNat, List.getElem?_cons_succ, List.getElem?_cons_zero, Int.reduceNeg, Int.reduceAdd, at_new, and_self, or_true, true_or, true_and, and_true, Int.reducePow, Int.reduceSub, Int.reduceMul, seq_ref, seqO_lst, seqO_frz, lst_ref, lstO_lst, len_ref, list_ref, lisO_lst, append_ref, enWk_tup, enWk_ref, split_str, base_join, base_split, str_int, str_str, int_str, len_str, seqWk_str, extend_tup', extend_ref, base_append, base_extend, base_get, get2_ref, dctO_dct, keyD_int, keyD_str,  tuple_ref, all_ref, any_ref, add_ref, slc_ref, len_tup, list_tup, int_int, int_bl, abs_int, max_int, max_ref, min_int, slc_tup, rev_tup, seqWk_tup, zipWk_tup, rng_one, rng_two, rng_three, wkEnum_items, Option.map_some, Option.bind_some, setAll,
  List.set_cons_zero, List.set_cons_succ, List.set_set, List.foldl_nil, List.foldl_cons, List.length_cons, List.length_nil, List.map_cons, List.map_nil, List.cons_append, List.nil_append, List.replicate_succ, List.replicate_zero, Nat.reduceAdd, Nat.reduceSub, Bool.not_true, Bool.not_false, if_true, if_false, Bool.false_eq_true, decide_eq_true_eq, Nat.reduceLeDiff, lim_lit, wipe, isiD_tup, isiD_str, isiD_int, isiD_bl, isiD_non, isi_tup, isi_str, isi_int, isi_bool, Bool.and_true, Bool.and_false, Bool.true_and, Bool.false_and, tpB_tup, tpB_str, tpB_bl, tpB_int, tpB_non, tpB_ref, isStr_tup, isStr_str, isStr_bl, isStr_int, isStr_non, isStr_ref, isBl_tup, isBl_str, isBl_bl, isBl_int, isBl_non, isBl_ref, isInt_tup, isInt_str, isInt_bl, isInt_int, isInt_non, isInt_ref])
theorem zip_self_mem {α : Type} : ∀ {ds : List α} {p : α × α}, p ∈ ds.zip ds → p.1 = p.2 ∧ p.1 ∈ ds
  | [], _, h => by simp at h
  | x :: r, p, h => by
    rw [List.zip_cons_cons] at h
    rcases List.mem_cons.mp h with e | e
    · subst e; exact ⟨rfl, List.mem_cons_self⟩
    · obtain ⟨a, b⟩ := zip_self_mem e
      exact ⟨a, List.mem_cons_of_mem _ b⟩
theorem setOf_int {i : Int} {A : AH} : setOf (.int i) A = none := rfl
section
variable {P : CProg} {k : Nat} {A : AH} {Q : D → AH → Prop} {E : Ex → AH → Prop}
theorem isiD_tl {ds : List D} : ([Ty.tuple, Ty.list].any fun c => (tyD (.tup ds) A).contains c) = true := rfl
theorem isiD_il {i : Int} : ([Ty.tuple, Ty.list].any fun c => (tyD (.int i) A).contains c) = false := rfl
theorem isiD_sl {i : Str} : ([Ty.tuple, Ty.list].any fun c => (tyD (.str i) A).contains c) = false := rfl
theorem same_int (h : Is69 P) {i : Int} (q : Q (.bl true) A) : Wp ((fns P (k + 1)).call 13 [.int i, .int i] A) Q E := by
  rw [wp_def h.d13 rfl]; unfold b69_13
  rw [wps_cons]
  walk_at "go1"
  rw [isiD_il]
  walk_at "go1"
  rw [wps_cons]
  walk_at "go1"
  simpa using q
theorem same_str (h : Is69 P) {x y : Str} (q : Q (.bl (x == y)) A) : Wp ((fns P (k + 1)).call 13 [.str x, .str y] A) Q E := by
  rw [wp_def h.d13 rfl]; unfold b69_13
  rw [wps_cons]
  walk_at "go1"
  rw [isiD_sl]
  walk_at "go1"
  rw [wps_cons]
  walk_at "go1"
  simpa using q
theorem same_tup (h : Is69 P) {ds : List D} (hl : ds.length < 100000) (hd : ∀ d ∈ ds, ∀ (A : AH) (Q : D → AH → Prop) (E : Ex → AH → Prop), (∀ A', Fr [] A A' → Q (.bl true) A') → Wp ((fns P (k + 1)).call 13 [d, d] A) Q E) (go : ∀ A', Fr [] A A' → Q (.bl true) A') :
    Wp ((fns P (k + 2)).call 13 [.tup ds, .tup ds] A) Q E := by
  rw [wp_def h.d13 rfl]; unfold b69_13
  rw [wps_cons]
  walk_at "go1"
  rw [isiD_tl]
  walk_at "go1"
  rw [wps_cons]
  walk_at "go1"
  rw [show cmpD .ne (.bl true) (.bl true) A = some false from rfl]
  walk_at "go1"
  rw [isiD_tl]
  walk_at "go1"
  rw [wps_cons]
  walk_at "go1"
  simp only [beq_self_eq_true, if_true]
  refine comp_map (g := fun _ => .bl true) (fun A' => Fr [] A A') (by simp [fuel]; omega) (Fr.refl _ _) (fun d acc A' hdm ha hA => ?_) fun A' hA => ?_
  · obtain ⟨p, hp, rfl⟩ := List.mem_map.mp hdm
    have e : p.1 = p.2 ∧ p.1 ∈ ds := zip_self_mem hp
    obtain ⟨x, y⟩ := p
    obtain ⟨e1, e2⟩ := e
    dsimp only at e1 e2
    subst e1
    walk_at "go1"
    refine hd x e2 _ _ _ fun A2 f2 => ?_
    simp only [ha, if_true, wp_ok]
    exact ⟨by trivial, hA.trans f2⟩
  · simp only [at_new, Option.bind_some, lstO_lst, all_true, Option.map_some, all_id_true, wp_of]
    exact go _ (hA.snoc _)
theorem same_par (h : Is69 P) {m : Int} {hs : List Int} {ts : List (List Int)} (ok : Ok3 m hs ts) (go : ∀ A', Fr [] A A' → Q (.bl true) A') : Wp ((fns P (k + 4)).call 13 [parD m hs ts, parD m hs ts] A) Q E := by
  have c := ok.small2.1
  have c2 := ok.tl
  have hin : ∀ (is : List Int) (k : Nat), is.length ≤ 40 → ∀ (A : AH) (Q : D → AH → Prop) (E : Ex → AH → Prop), (∀ A', Fr [] A A' → Q (.bl true) A') → Wp ((fns P (k + 2)).call 13 [.tup (is.map .int), .tup (is.map .int)] A) Q E := fun is k hl A Q E go =>
    same_tup h (by rw [List.length_map]; omega) (fun d hd A Q E go => by
      obtain ⟨i, _, rfl⟩ := List.mem_map.mp hd
      exact same_int h (go _ (Fr.refl _ _))) go
  refine same_tup h (k := k + 2) (by simp) (fun d hd A Q E go => ?_) go
  simp only [List.mem_cons, List.not_mem_nil, or_false] at hd
  rcases hd with e | e | e
  · subst e; exact same_int h (go _ (Fr.refl _ _))
  · subst e; exact hin hs (k + 1) c A Q E go
  · subst e
    refine same_tup h (k := k + 1) (by rw [List.length_map]; omega) (fun d hd A Q E go => ?_) go
    obtain ⟨t, ht, rfl⟩ := List.mem_map.mp hd
    exact hin t k ((ok.tb t ht).small ok.m2).1 A Q E go
/-! ### figures -/
theorem t_figs : ("0123456789" : Str) = S [48, 49, 50, 51, 52, 53, 54, 55, 56, 57] := by decide +kernel
theorem t_zero : ("0" : Str) = S [48] := by decide +kernel
theorem signs_S (l : List Nat) : signsD (S l) = l.map fun c => .str (S [c]) := rfl
theorem in_sign {c : Nat} {l : List Nat} : cmpD .inn (.str (S [c])) (.str (S l)) A = some (decide (c ∈ l)) := rfl
theorem figs3 (h : Is69 P) {i : Int} (h0 : 0 ≤ i) (h1 : i < 100) (go : ∀ A', Fr [] A A' → Q (.bl true) A') : Wp ((fns P (k + 1)).call 3 [.str (S (numT i))] A) Q E := by
  rw [wp_def h.d3 rfl]; unfold b69_3
  rw [t_figs, t_zero]
  have l2 := num_len h0 h1
  have l1 : 1 ≤ (numT i).length := by
    cases e : numT i with
    | nil => exact (num_ne i e).elim
    | cons c r => simp
  rw [wps_cons]
  walk_at "go1"
  simp only [SX.S_len, show (numT i).length ≤ 16777216 by omega, if_true]
  walk_at "go1"
  simp only [show (1 : Int) ≤ ((numT i).length : Nat) by omega, show (((numT i).length : Nat) : Int) ≤ 9 by omega, decide_true, if_true, Bool.not_true, Bool.false_eq_true, if_false]
  walk_at "go1"
  rw [signs_S]
  refine comp_map (g := fun _ => .bl true) (fun A' => A' = A) (by simp [fuel]; omega) rfl (fun d acc A' hd ha hA => ?_) fun A' hA => ?_
  · subst hA
    obtain ⟨c, hc, rfl⟩ := List.mem_map.mp hd
    have b := numT_digits hc
    walk_at "go1"
    rw [in_sign]
    walk_at "go1"
    have e : c ∈ [48, 49, 50, 51, 52, 53, 54, 55, 56, 57] := by
      simp only [List.mem_cons, List.not_mem_nil, or_false]
      omega
    simp only [ha, if_true, wp_ok, e, decide_true]
    all_goals first | exact ⟨rfl, trivial⟩ | exact ⟨trivial, trivial⟩ | rfl | trivial
  · subst hA
    simp only [at_new, Option.bind_some, lstO_lst, all_true, Option.map_some, all_id_true, wp_of]
    walk_at "go1"
    rw [wps_cons]
    walk_at "go1"
    simp only [SX.S_len, show (numT i).length ≤ 16777216 by omega, if_true]
    walk_at "go1"
    by_cases e1 : (numT i).length = 1
    · simp only [e1]
      walk_at "go1"
      exact go _ ((Fr.refl _ _).snoc _)
    · have e2 : ((((numT i).length : Nat) : Int) == 1) = false := by simpa using (by omega : ¬ (((numT i).length : Nat) : Int) = 1)
      simp only [e2, Bool.false_eq_true, if_false]
      rcases num_head h0 h1 with z | ⟨c, r, ec, hc⟩
      · exact (e1 z).elim
      · walk_at "go1"
        have ix : idxD (.str (S (numT i))) (.int 0) (A' ++ [AO.lst ((numT i).map fun _ => D.bl true)]) = some (.str (S [c])) := by
          simp only [idxD, SX.S_len, lim_lit, show (numT i).length ≤ 16777216 by omega, if_true]
          rw [ec, atI_0]
          rfl
        simp only [List.map_map, Function.comp_def] at *
        rw [ix]
        walk_at "go1"
        rw [SX.S_beq_eq]
        simp only [List.cons.injEq, hc, false_and, decide_false, Bool.not_false]
        exact go _ ((Fr.refl _ _).snoc _)
end
end Kin
end
section
set_option linter.all false
set_option maxRecDepth 100000
namespace Kin
open PySem
local macro_rules | `(tactic| walk_at "go") => `(tactic| try simp only [wps_nil, wps_cons, wps_ex, wps_asg, wps_par, wps_ret, wps_cond, wps_loop, wps_brk, wps_cont, wps_pass, wp_ret, wp_slot, wp_cst, wp_tup, wp_lst, wp_bin, wp_neg, wp_cmp, wp_chain, wp_and, wp_or, wp_not, wp_ifx, wp_idx, wp_slc, wp_rev, wp_call, wp_meth, wp_blt, wp_listR, wp_isi, wp_new, wp_attr, wp_mcall, wp_isc, wp_sset, wps_sta, wp_of1m, cmpE_int, cmpE_str, cmpE_bl, cmpE_tup, cmpE_non, cmpE_ne, cmpE_lt, cmpE_le, cmpE_gt, cmpE_ge, cmpE_isn, cmpE_notn, cmpE_inn, cmpE_nin, wp_star, wp_comp, wp_dct, wp_nil, wp_cons, wp_knil, wp_kcons, wp_onone, wp_osome, wp_iseq, wp_irng, wp_ienum, wp_izip, wp_tslot, wp_ttup, wp_titem, wp_tnil, wp_tcons, wp_fnil, wp_fone, wp_ok, wp_of1, wp_of, wp_of1n, wp_ofn, wp_onB, wp_onBn, wp_calm, wp_bind, wp_ite, wp_exc, wp_bad,
  getL_0, getL_s, bin_add, bin_sub, bin_mul, bin_fdiv, bin_mod, bin_tup, bin_str, cmp_lt, cmp_le, cmp_gt, cmp_ge, cmp_eqI, cmp_eqS, cmp_neI, cmp_neS, cmp_eqB, in_str2, in_str3, truth_bl, truth_int, truth_tup, truth_non, neg_int, intOf_int, tupOf_tup, idx_tup, idx_ref, idxO_lst, atI_0, atI_1, atI_2, atI_3, atI_4, cut_from, cut_to, List.drop_succ_cons, List.drop_zero, List.take_succ_cons, List.take_zero, List.drop_nil, List.take_nil, Int.reduceLE, Int.reduceBEq, blsD_map, blsD_cons, blsD_nil, set_ref, setO_cons, isList_ref, Option.isSome_some, Int.reduceLE, Int.reduceLT, Int.cast_ofNat_Int, Int.reduceToNat, List.getElem?_cons_succ, List.getElem?_cons_zero, Int.reduceNeg, Int.reduceAdd, at_new, and_self, or_true, true_or, true_and, and_true, Int.reducePow, Int.reduceSub, Int.reduceMul, seq_ref, seqO_lst, seqO_frz, lst_ref, lstO_lst, len_ref, list_ref, lisO_lst, append_ref, enWk_tup, enWk_ref, split_str, base_join, base_split, str_int, str_str, int_str, len_str, seqWk_str, extend_tup', extend_ref, base_append, base_extend, base_get, get2_ref, dctO_dct, keyD_int, keyD_str,  tuple_ref, all_ref, any_ref, add_ref, slc_ref, len_tup, list_tup, int_int, int_bl, abs_int, max_int, max_ref, min_int, slc_tup, rev_tup, seqWk_tup, zipWk_tup, rng_one, rng_two, rng_three, wkEnum_items, Option.map_some, Option.bind_some, setAll,
  List.set_cons_zero, List.set_cons_succ, List.set_set, List.foldl_nil, List.foldl_cons, List.length_cons, List.length_nil, List.map_cons, List.map_nil, List.cons_append, List.nil_append, List.replicate_succ, List.replicate_zero, Nat.reduceAdd, Nat.reduceSub, Bool.not_true, Bool.not_false, if_true, if_false, Bool.false_eq_true, decide_eq_true_eq, Nat.reduceLeDiff, lim_lit, wipe, isiD_tup, isiD_str, isiD_int, isiD_bl, isiD_non, isi_tup, isi_str, isi_int, isi_bool, Bool.and_true, Bool.and_false, Bool.true_and, Bool.false_and, tpB_tup, tpB_str, tpB_bl, tpB_int, tpB_non, tpB_ref, isStr_tup, isStr_str, isStr_bl, isStr_int, isStr_non, isStr_ref, isBl_tup, isBl_str, isBl_bl, isBl_int, isBl_non, isBl_ref, isInt_tup, isInt_str, isInt_bl, isInt_int, isInt_non, isInt_ref])
local macro_rules | `(tactic| walk_at "goh") => `(tactic| try simp only [*, Int.reduceBEq, wps_nil, wps_cons, wps_ex, wps_asg, wps_par, wps_ret, wps_cond, wps_loop, wps_brk, wps_cont, wps_pass, wp_ret, wp_slot, wp_cst, wp_tup, wp_lst, wp_bin, wp_neg, wp_cmp, wp_chain, wp_and, wp_or, wp_not, wp_ifx, wp_idx, wp_slc, wp_rev, wp_call, wp_meth, wp_blt, wp_listR, wp_isi, wp_new, wp_attr, wp_mcall, wp_isc, wp_sset, wps_sta, wp_of1m, cmpE_int, cmpE_str, cmpE_bl, cmpE_tup, cmpE_non, cmpE_ne, cmpE_lt, cmpE_le, cmpE_gt, cmpE_ge, cmpE_isn, cmpE_notn, cmpE_inn, cmpE_nin, wp_star, wp_comp, wp_dct, wp_nil, wp_cons, wp_knil, wp_kcons, wp_onone, wp_osome, wp_iseq, wp_irng, wp_ienum, wp_izip, wp_tslot, wp_ttup, wp_titem, wp_tnil, wp_tcons, wp_fnil, wp_fone, wp_ok, wp_of1, wp_of, wp_of1n, wp_ofn, wp_onB, wp_onBn, wp_calm, wp_bind, wp_ite, wp_exc, wp_bad,
  getL_0, getL_s, bin_add, bin_sub, bin_mul, bin_fdiv, bin_mod, bin_tup, bin_str, cmp_lt, cmp_le, cmp_gt, cmp_ge, cmp_eqI, cmp_eqS, cmp_neI, cmp_neS, cmp_eqB, in_str2, in_str3, truth_bl, truth_int, truth_tup, truth_non, neg_int, intOf_int, tupOf_tup, idx_tup, idx_ref, idxO_lst, atI_0, atI_1, atI_2, atI_3, atI_4, cut_from, cut_to, List.drop_succ_cons, List.drop_zero, List.take_succ_cons, List.take_zero, List.drop_nil, List.take_nil, Int.reduceLE, blsD_map, blsD_cons, blsD_nil, set_ref, setO_cons, isList_ref, Option.isSome_some, Int.reduceLE, Int.reduceLT, Int.cast_ofNat_Int, Int.reduceToNat, List.getElem?_cons_succ, List.getElem?_cons_zero, Int.reduceNeg, Int.reduceAdd, at_new, and_self, or_true, true_or, true_and, and_true, Int.reducePow, Int.reduceSub, Int.reduceMul, seq_ref, seqO_lst, seqO_frz, lst_ref, lstO_lst, len_ref, list_ref, lisO_lst, append_ref, enWk_tup, enWk_ref, split_str, base_join, base_split, str_int, str_str, int_str, len_str, seqWk_str, extend_tup', extend_ref, base_append, base_extend, base_get, get2_ref, dctO_dct, keyD_int, keyD_str,  tuple_ref, all_ref, any_ref, add_ref, slc_ref, len_tup, list_tup, int_int, int_bl, abs_int, max_int, max_ref, min_int, slc_tup, rev_tup, seqWk_tup, zipWk_tup, rng_one, rng_two, rng_three, wkEnum_items, Option.map_some, Option.bind_some, setAll,
  List.set_cons_zero, List.set_cons_succ, List.set_set, List.foldl_nil, List.foldl_cons, List.length_cons, List.length_nil, List.map_cons, List.map_nil, List.cons_append, List.nil_append, List.replicate_succ, List.replicate_zero, Nat.reduceAdd, Nat.reduceSub, Bool.not_true, Bool.not_false, if_true, if_false, Bool.false_eq_true, decide_eq_true_eq, Nat.reduceLeDiff, lim_lit, wipe, isiD_tup, isiD_str, isiD_int, isiD_bl, isiD_non, isi_tup, isi_str, isi_int, isi_bool, Bool.and_true, Bool.and_false, Bool.true_and, Bool.false_and, tpB_tup, tpB_str, tpB_bl, tpB_int, tpB_non, tpB_ref, isStr_tup, isStr_str, isStr_bl, isStr_int, isStr_non, isStr_ref, isBl_tup, isBl_str, isBl_bl, isBl_int, isBl_non, isBl_ref, isInt_tup, isInt_str, isInt_bl, isInt_int, isInt_non, isInt_ref])
local macro_rules | `(tactic| walk_at "dr") => `(tactic| (refine draw_ok (by assumption) (by assumption) (by first | assumption | omega | decide) (by first | omega | decide) ?_; intro r A' r0 r1 hp f))
local macro_rules | `(tactic| walk_at "an") => `(tactic| (refine any_ok (by assumption) (by assumption) (Pot.snoc (by assumption) _) at_new (Nat.ne_of_gt (Pot.lt (by assumption))) (by simp) (by simp) ?_; intro d A' hm hp f))
local macro_rules | `(tactic| walk_at "fr") => `(tactic| repeat first | exact Fr.refl _ _ | assumption | refine Fr.snoc ?_ _ | refine Fr.trans ?_ (by assumption) | refine Fr.trans ?_ (Fr.nil (by assumption)))
local macro_rules | `(tactic| walk_at "g1") => `(tactic| try simp only [*, wps_nil, wps_ex, wps_asg, wps_par, wps_ret, wps_cond, wps_loop, wps_brk, wps_cont, wps_pass, wp_ret, wp_slot, wp_cst, wp_tup, wp_lst, wp_bin, wp_neg, wp_cmp, wp_chain, wp_and, wp_or, wp_not, wp_ifx, wp_idx, wp_slc, wp_rev, wp_call, wp_meth, wp_blt, wp_listR, wp_isi, wp_new, wp_attr, wp_mcall, wp_isc, wp_sset, wps_sta, wp_of1m, cmpE_int, cmpE_str, cmpE_bl, cmpE_tup, cmpE_non, cmpE_ne, cmpE_lt, cmpE_le, cmpE_gt, cmpE_ge, cmpE_isn, cmpE_notn, cmpE_inn, cmpE_nin, wp_star, wp_comp, wp_dct, wp_nil, wp_cons, wp_knil, wp_kcons, wp_onone, wp_osome, wp_iseq, wp_irng, wp_ienum, wp_izip, wp_tslot, wp_ttup, wp_titem, wp_tnil, wp_tcons, wp_fnil, wp_fone, wp_ok, wp_of1, wp_of, wp_of1n, wp_ofn, wp_onB, wp_onBn, wp_calm, wp_bind, wp_ite, wp_exc, wp_bad,
  getL_0, getL_s, bin_add, bin_sub, bin_mul, bin_fdiv, bin_mod, bin_tup, bin_str, cmp_lt, cmp_le, cmp_gt, cmp_ge, cmp_eqI, cmp_eqS, cmp_neI, cmp_neS, cmp_eqB, in_str2, in_str3, truth_bl, truth_int, truth_tup, truth_non, neg_int, intOf_int, tupOf_tup, idx_tup, idx_ref, idxO_lst, atI_0, atI_1, atI_2, atI_3, atI_4, cut_from, cut_to, List.drop_succ_cons, List.drop_zero, List.take_succ_cons, List.take_zero, List.drop_nil, List.take_nil, Int.reduceLE, Int.reduceBEq, blsD_map, blsD_cons, blsD_nil, set_ref, setO_cons, isList_ref, Option.isSome_some, Int.reduceLE, Int.reduceLT, Int.cast_ofNat_Int, Int.reduceToNat, List.getElem?_cons_succ, List.getElem?_cons_zero, Int.reduceNeg, Int.reduceAdd, at_new, and_self, or_true, true_or, true_and, and_true, Int.reducePow, Int.reduceSub, Int.reduceMul, seq_ref, seqO_lst, seqO_frz, lst_ref, lstO_lst, len_ref, list_ref, lisO_lst, append_ref, enWk_tup, enWk_ref, split_str, base_join, base_split, str_int, str_str, int_str, len_str, seqWk_str, extend_tup', extend_ref, base_append, base_extend, base_get, get2_ref, dctO_dct, keyD_int, keyD_str,  tuple_ref, all_ref, any_ref, add_ref, slc_ref, len_tup, list_tup, int_int, int_bl, abs_int, max_int, max_ref, min_int, slc_tup, rev_tup, seqWk_tup, zipWk_tup, rng_one, rng_two, rng_three, wkEnum_items, Option.map_some, Option.bind_some, setAll,
  List.set_cons_zero, List.set_cons_succ, List.set_set, List.foldl_nil, List.foldl_cons, List.length_cons, List.length_nil, List.map_cons, List.map_nil, List.cons_append, List.nil_append, List.replicate_succ, List.replicate_zero, Nat.reduceAdd, Nat.reduceSub, Bool.not_true, Bool.not_false, if_true, if_false, Bool.false_eq_true, decide_eq_true_eq, Nat.reduceLeDiff, lim_lit, wipe, isiD_tup, isiD_str, isiD_int, isiD_bl, isiD_non, isi_tup, isi_str, isi_int, isi_bool, Bool.and_true, Bool.and_false, Bool.true_and, Bool.false_and, tpB_tup, tpB_str, tpB_bl, tpB_int, tpB_non, tpB_ref, isStr_tup, isStr_str, isStr_bl, isStr_int, isStr_non, isStr_ref, isBl_tup, isBl_str, isBl_bl, isBl_int, isBl_non, isBl_ref, isInt_tup, isInt_str, isInt_bl, isInt_int, isInt_non, isInt_ref])
local macro_rules | `(tactic| walk_at "go1") => `(tactic| try simp only [wps_nil, wps_ex, wps_asg, wps_par, wps_ret, wps_cond, wps_loop, wps_brk, wps_cont, wps_pass, wp_ret, wp_slot, wp_cst, wp_tup, wp_lst, wp_bin, wp_neg, wp_cmp, wp_chain, wp_and, wp_or, wp_not, wp_ifx, wp_idx, wp_slc, wp_rev, wp_call, wp_meth, wp_blt, wp_listR, wp_isi, wp_new, wp_attr, wp_mcall, wp_isc, wp_sset, wps_sta, wp_of1m, cmpE_int, cmpE_str, cmpE_bl, cmpE_tup, cmpE_non, cmpE_ne, cmpE_lt, cmpE_le, cmpE_gt, cmpE_ge, cmpE_isn, cmpE_notn, cmpE_inn, cmpE_nin, wp_star, wp_comp, wp_dct, wp_nil, wp_cons, wp_knil, wp_kcons, wp_onone, wp_osome, wp_iseq, wp_irng, wp_ienum, wp_izip, wp_tslot, wp_ttup, wp_titem, wp_tnil, wp_tcons, wp_fnil, wp_fone, wp_ok, wp_of1, wp_of, wp_of1n, wp_ofn, wp_onB, wp_onBn, wp_calm, wp_bind, wp_ite, wp_exc, wp_bad,
  getL_0, getL_s, bin_add, bin_sub, bin_mul, bin_fdiv, bin_mod, bin_tup, bin_str, cmp_lt, cmp_le, cmp_gt, cmp_ge, cmp_eqI, cmp_eqS, cmp_neI, cmp_neS, cmp_eqB, in_str2, in_str3, truth_bl, truth_int, truth_tup, truth_non, neg_int, intOf_int, tupOf_tup, idx_tup, idx_ref, idxO_lst, atI_0, atI_1, atI_2, atI_3, atI_4, cut_from, cut_to, List.drop_succ_cons, List.drop_zero, List.take_succ_cons, List.take_zero, List.drop_nil, List.take_nil, Int.reduceLE, Int.reduceBEq, blsD_map, blsD_cons, blsD_nil, set_ref, setO_cons, isList_ref, Option.isSome_some, Int.reduceLE, Int.reduceLT, Int.cast_ofNat_Int, Int.reduceToNat, List.getElem?_cons_succ, List.getElem?_cons_zero, Int.reduceNeg, Int.reduceAdd, at_new, and_self, or_true, true_or, true_and, and_true, Int.reducePow, Int.reduceSub, Int.reduceMul, seq_ref, seqO_lst, seqO_frz, lst_ref, lstO_lst, len_ref, list_ref, lisO_lst, append_ref, enWk_tup, enWk_ref, split_str, base_join, base_split, str_int, str_str, int_str, len_str, seqWk_str, extend_tup', extend_ref, base_append, base_extend, base_get, get2_ref, dctO_dct, keyD_int, keyD_str,  tuple_ref, all_ref, any_ref, add_ref, slc_ref, len_tup, list_tup, int_int, int_bl, abs_int, max_int, max_ref, min_int, slc_tup, rev_tup, seqWk_tup, zipWk_tup, rng_one, rng_two, rng_three, wkEnum_items, Option.map_some, Option.bind_some, setAll,
  List.set_cons_zero, List.set_cons_succ, List.set_set, List.foldl_nil, List.foldl_cons, List.length_cons, List.length_nil, List.map_cons, List.map_nil, List.cons_append, List.nil_append, List.replicate_succ, List.replicate_zero, Nat.reduceAdd, Nat.reduceSub, Bool.not_true, Bool.not_false, if_true, if_false, Bool.false_eq_true, decide_eq_true_eq, Nat.reduceLeDiff, lim_lit, wipe, isiD_tup, isiD_str, isiD_int, isiD_bl, isiD_non, isi_tup, isi_str, isi_int, isi_bool, Bool.and_true, Bool.and_false, Bool.true_and, Bool.false_and, tpB_tup, tpB_str, tpB_bl, tpB_int, tpB_non, tpB_ref, isStr_tup, isStr_str, isStr_bl, isStr_int, isStr_non, isStr_ref, isBl_tup, isBl_str, isBl_bl, isBl_int, isBl_non, isBl_ref, isInt_tup, isInt_str, isInt_bl, isInt_int, isInt_non, isInt_ref])
/-! ### lists of lists -/
def RowsAt {α : Type} (A : AH) (rs : List Nat) (g : α → List D) (xs : List α) : Prop := rs.length = xs.length ∧ ∀ (j r : Nat) (x : α), rs[j]? = some r → xs[j]? = some x → A[r]? = some (.lst (g x))
theorem RowsAt.fr {α : Type} {A B : AH} {rs : List Nat} {g : α → List D} {xs : List α} (h : RowsAt A rs g xs) (f : Fr [] A B) : RowsAt B rs g xs := ⟨h.1, fun j r x a b => f.get (h.2 j r x a b) (by simp)⟩
/-- a comprehension that tells a new list of each item -/
theorem comp_rows {α : Type} {n : Nat} {ds : List D} {xs : List α} {g : α → List D} {f : D → List D → AH → Res (List D)} {A : AH} {Q : List D → AH → Prop} {E : Ex → AH → Prop} (hn : A[n]? = some (.lst ds)) (hx : xs.length = ds.length) (hl : ds.length < fuel)
    (step : ∀ (j : Nat) (d : D) (x : α) (acc : List D) (A' : AH), ds[j]? = some d → xs[j]? = some x → acc.length < 16777216 → Fr [] A A' → Wp (f d acc A') (fun acc' A'' => ∃ r, acc' = acc ++ [.ref r] ∧ Fr [] A' A'' ∧ A''[r]? = some (.lst (g x))) E)
    (go : ∀ rs A', Fr [] A A' → RowsAt A' rs g xs → Q (rs.map .ref) A') : Wp (overW (wkLive n) f fuel 0 [] A) Q E := by
  refine comp_live (ds := ds) (fun i acc A' => Fr [] A A' ∧ ∃ rs : List Nat, acc = rs.map D.ref ∧ RowsAt A' rs g (xs.take i)) (fun i acc A' h => h.1.get hn (by simp)) hl ⟨Fr.refl _ _, [], rfl, rfl, fun j r x a b => by simp at a⟩ (fun i d acc A' hd ⟨hf, rs, e, hr⟩ => ?_) fun acc A' ⟨hf, rs, e, hr⟩ => ?_
  · have hi := (List.getElem?_eq_some_iff.mp hd).1
    have ex : xs[i]? = some xs[i] := List.getElem?_eq_getElem (by omega)
    have lr : rs.length = i := by rw [hr.1, List.length_take]; omega
    refine (step i d _ acc A' hd ex (by rw [e, List.length_map, lr]; unfold fuel at hl; omega) hf).mono (fun acc' A'' ⟨r, e', f', hr'⟩ => ⟨hf.trans f', rs ++ [r], by rw [e', e, List.map_append]; rfl, ?_, fun j q x a b => ?_⟩) fun _ _ e => e
    · rw [List.length_append, lr, List.length_take]
      simp only [List.length_cons, List.length_nil]
      omega
    · by_cases c : j < rs.length
      · rw [List.getElem?_append_left c] at a
        refine f'.get (hr.2 j q x a ?_) (by simp)
        rw [List.getElem?_take] at b ⊢
        rw [if_pos (by omega)] at b ⊢
        exact b
      · rw [List.getElem?_append_right (by omega)] at a
        have z : j - rs.length = 0 := by
          by_cases z : j - rs.length = 0
          · exact z
          · rw [List.getElem?_eq_none (by simp; omega)] at a; cases a
        rw [z] at a
        cases a
        rw [List.getElem?_take, if_pos (by omega), show j = i by omega, ex] at b
        cases b
        exact hr'
  · subst e
    rw [← hx, List.take_length] at hr
    exact go rs A' hf hr
theorem turns_liveE {n : Nat} {ds : List D} {f : D → Loc → AH → SRes} {Q : SQ} (I : Nat → Loc → AH → Prop) (hI : ∀ i L A, I i L A → A[n]? = some (.lst ds))
    (step : ∀ i d L A, ds[i]? = some d → I i L A → WpS (f (.tup [.int (i : Nat), d]) L A) ⟨I (i + 1), Q.rt, Q.nx, I (i + 1), Q.ex⟩) (fin : ∀ L A, I ds.length L A → Q.nx L A) :
    ∀ (k i : Nat) (L : Loc) (A : AH), ds.length < k + i → i ≤ ds.length → I i L A → WpS (turnsW (wkEnum (wkLive n)) f k i L A) Q
  | 0, i, L, A, hk, hi, _ => by omega
  | k + 1, i, L, A, hk, hi, h => by
    simp only [turnsW, wkEnum, wkLive, hI i L A h, Option.map_some]
    cases e : ds[i]? with
    | none =>
      have : ds.length ≤ i := by simpa using e
      have : i = ds.length := by omega
      subst this
      exact fin _ _ h
    | some d =>
      have hl : i < ds.length := by
        by_cases hl : i < ds.length
        · exact hl
        · rw [List.getElem?_eq_none (by omega)] at e; cases e
      have s := step i d L A e h
      simp only [Option.map_some]
      revert s
      cases f (.tup [.int (i : Nat), d]) L A with
      | nx L A => exact fun s => turns_liveE I hI step fin k (i + 1) L A (by omega) hl s
      | ct L A => exact fun s => turns_liveE I hI step fin k (i + 1) L A (by omega) hl s
      | bk L A => exact fun s => s
      | rt L A => exact fun s => s
      | exc x L A => exact fun s => s
      | bad => exact fun s => s
theorem loop_liveE {n : Nat} {L : Loc} {A : AH} {ds : List D} {f : D → Loc → AH → SRes} {Q : SQ} (I : Nat → Loc → AH → Prop) (hI : ∀ i L A, I i L A → A[n]? = some (.lst ds)) (hl : ds.length < fuel) (h0 : I 0 L A)
    (step : ∀ i d L A, ds[i]? = some d → I i L A → WpS (f (.tup [.int (i : Nat), d]) L A) ⟨I (i + 1), Q.rt, Q.nx, I (i + 1), Q.ex⟩) (fin : ∀ L A, I ds.length L A → Q.nx L A) : WpS (turnsW (wkEnum (wkLive n)) f fuel 0 L A) Q :=
  turns_liveE I hI step fin fuel 0 L A hl (Nat.zero_le _) h0
/-! ### rows of words -/
def rowD (r : List Nat × List Int) : List D := .str (S r.1) :: ((r.2.map numT).map S).map D.str
def rowsT (m : Int) (hs : List Int) (ts : List (List Int)) : List (List Nat × List Int) := (wPlaces, [m]) :: (wHues, hs) :: ts.map fun t => (wTie, t)
theorem lines_rows (m : Int) (hs : List Int) (ts : List (List Int)) : linesT m hs ts = (rowsT m hs ts).map fun r => lineT r.1 r.2 := by
  simp only [linesT, rowsT, List.map_cons, List.map_map]
  rfl
theorem rows_len (m : Int) (hs : List Int) (ts : List (List Int)) : (rowsT m hs ts).length = ts.length + 2 := by simp [rowsT]
def FormOk (at_ : Nat) (r : List Nat × List Int) : Prop := (at_ = 0 ∧ r.1 = wPlaces ∧ r.2.length = 1) ∨ (at_ = 1 ∧ r.1 = wHues) ∨ (2 ≤ at_ ∧ r.1 = wTie ∧ r.2.length = 3)
theorem rows_ok {m : Int} {hs : List Int} {ts : List (List Int)} (ok : Ok3 m hs ts) {j : Nat} {r : List Nat × List Int} (h : (rowsT m hs ts)[j]? = some r) : FormOk j r ∧ Small r.2 ∧ Word r.1 ∧ r.1.length ≤ 10 := by
  match j, h with
  | 0, h => simp only [rowsT, List.getElem?_cons_zero, Option.some.injEq] at h; subst h; exact ⟨.inl ⟨rfl, rfl, rfl⟩, ok.small1, word_places, show wPlaces.length ≤ 10 by decide⟩
  | 1, h => simp only [rowsT, List.getElem?_cons_succ, List.getElem?_cons_zero, Option.some.injEq] at h; subst h; exact ⟨.inr (.inl ⟨rfl, rfl⟩), ok.small2, word_hues, show wHues.length ≤ 10 by decide⟩
  | j + 2, h =>
    simp only [rowsT, List.getElem?_cons_succ, List.getElem?_map] at h
    cases e : ts[j]? with
    | none => rw [e] at h; cases h
    | some t =>
      rw [e] at h
      cases h
      have ht := ok.tb t (List.mem_of_getElem? e)
      have st := ht.small ok.m2
      obtain ⟨c, a, b, rfl, _⟩ := ht
      exact ⟨.inr (.inr ⟨by omega, rfl, rfl⟩), st, word_tie, show wTie.length ≤ 10 by decide⟩
section
variable {P : CProg} {k : Nat} {A : AH} {Q : D → AH → Prop} {E : Ex → AH → Prop}
theorem row_get {r : List Nat × List Int} : L2.atI (rowD r) 0 = some (.str (S r.1)) := atI_0
theorem row_drop {r : List Nat × List Int} : cut (rowD r) (some 1) none = ((r.2.map numT).map S).map D.str := by
  rw [cut_from (by omega)]
  rfl
theorem form8 (h : Is69 P) {j n : Nat} {r : List Nat × List Int} (fo : FormOk j r) (st : Small r.2) (hn : A[n]? = some (.lst (rowD r))) (go : ∀ A', Fr [] A A' → Q (.bl true) A') : Wp ((fns P (k + 2)).call 8 [.int (j : Nat), .ref n] A) Q E := by
  rw [wp_def h.d8 rfl]; unfold b69_8
  rw [t_places, t_hues, t_tie]
  have c := st.1
  rw [wps_cons]
  walk_at "go1"
  rw [hn]
  simp only [Option.bind_some, seqO_lst, Option.map_some, row_drop]
  walk_at "go1"
  rw [seqWk_ref at_new]
  walk_at "go1"
  refine comp_mapL (g := fun _ => .bl true) (fun B => Fr [] (A ++ [.lst (((r.2.map numT).map S).map D.str)]) B) (fun B f => f.get at_new (by simp)) (by simp [fuel]; omega) (Fr.refl _ _) (fun d acc B hd ha hB => ?_) fun B hB => ?_
  · obtain ⟨x, hx, rfl⟩ := List.mem_map.mp hd
    obtain ⟨y, hy, rfl⟩ := List.mem_map.mp hx
    obtain ⟨i, hi, rfl⟩ := List.mem_map.mp hy
    have b := st.2 i hi
    walk_at "go1"
    refine figs3 h b.1 b.2 fun B2 f2 => ?_
    simp only [ha, if_true, wp_ok]
    exact ⟨by trivial, hB.trans f2⟩
  · have f0 : Fr [] A B := ((Fr.refl _ _).snoc _).trans hB
    simp only [at_new, Option.bind_some, lstO_lst, all_true, Option.map_some, all_id_true, wp_of]
    walk_at "go1"
    have f1 := f0.snoc (AO.lst ((((r.2.map numT).map S).map D.str).map fun _ => D.bl true))
    generalize B ++ [AO.lst ((((r.2.map numT).map S).map D.str).map fun _ => D.bl true)] = B1 at f1 ⊢
    have e1 := f1.get hn (by simp)
    rcases fo with ⟨z, e2, e3⟩ | ⟨z, e2⟩ | ⟨z, e2, e3⟩
    · subst z
      rw [wps_cons]
      walk_at "go1"
      rw [wps_cons]
      walk_at "go1"
      rw [e1]
      simp only [Option.bind_some, idxO_lst, row_get, e2]
      walk_at "go1"
      simp only [beq_self_eq_true, if_true]
      rw [e1]
      simp only [Option.bind_some, seqO_lst, Option.map_some, rowD, List.length_cons, List.length_map, e3]
      walk_at "go1"
      exact go _ f1
    · subst z
      rw [wps_cons]
      walk_at "go1"
      rw [wps_cons]
      walk_at "go1"
      rw [wps_cons]
      walk_at "go1"
      rw [e1]
      simp only [Option.bind_some, idxO_lst, row_get, e2]
      walk_at "go1"
      simp only [beq_self_eq_true]
      exact go _ f1
    · rw [wps_cons]
      walk_at "go1"
      rw [if_neg (by simp only [beq_iff_eq]; omega)]
      walk_at "go1"
      rw [wps_cons]
      walk_at "go1"
      rw [if_neg (by simp only [beq_iff_eq]; omega)]
      walk_at "go1"
      rw [wps_cons]
      walk_at "go1"
      rw [e1]
      simp only [Option.bind_some, idxO_lst, row_get, e2]
      walk_at "go1"
      simp only [beq_self_eq_true, if_true]
      rw [e1]
      simp only [Option.bind_some, seqO_lst, Option.map_some, rowD, List.length_cons, List.length_map, e3]
      walk_at "go1"
      exact go _ f1
end
end Kin
end
section
set_option linter.all false
set_option maxRecDepth 100000
namespace Kin
open PySem
local macro_rules | `(tactic| walk_at "go") => `(tactic| try simp only [wps_nil, wps_cons, wps_ex, wps_asg, wps_par, wps_ret, wps_cond, wps_loop, wps_brk, wps_cont, wps_pass, wp_ret, wp_slot, wp_cst, wp_tup, wp_lst, wp_bin, wp_neg, wp_cmp, wp_chain, wp_and, wp_or, wp_not, wp_ifx, wp_idx, wp_slc, wp_rev, wp_call, wp_meth, wp_blt, wp_listR, wp_isi, wp_new, wp_attr, wp_mcall, wp_isc, wp_sset, wps_sta, wp_of1m, cmpE_int, cmpE_str, cmpE_bl, cmpE_tup, cmpE_non, cmpE_ne, cmpE_lt, cmpE_le, cmpE_gt, cmpE_ge, cmpE_isn, cmpE_notn, cmpE_inn, cmpE_nin, wp_star, wp_comp, wp_dct, wp_nil, wp_cons, wp_knil, wp_kcons, wp_onone, wp_osome, wp_iseq, wp_irng, wp_ienum, wp_izip, wp_tslot, wp_ttup, wp_titem, wp_tnil, wp_tcons, wp_fnil, wp_fone, wp_ok, wp_of1, wp_of, wp_of1n, wp_ofn, wp_onB, wp_onBn, wp_calm, wp_bind, wp_ite, wp_exc, wp_bad,
  getL_0, getL_s, bin_add, bin_sub, bin_mul, bin_fdiv, bin_mod, bin_tup, bin_str, cmp_lt, cmp_le, cmp_gt, cmp_ge, cmp_eqI, cmp_eqS, cmp_neI, cmp_neS, cmp_eqB, in_str2, in_str3, truth_bl, truth_int, truth_tup, truth_non, neg_int, intOf_int, tupOf_tup, idx_tup, idx_ref, idxO_lst, atI_0, atI_1, atI_2, atI_3, atI_4, cut_from, cut_to, List.drop_succ_cons, List.drop_zero, List.take_succ_cons, List.take_zero, List.drop_nil, List.take_nil, Int.reduceLE, Int.reduceBEq, blsD_map, blsD_cons, blsD_nil, set_ref, setO_cons, isList_ref, Option.isSome_some, Int.reduceLE, Int.reduceLT, Int.cast_ofNat_Int, Int.reduceToNat, List.getElem?_cons_succ, List.getElem?_cons_zero, Int.reduceNeg, Int.reduceAdd, at_new, and_self, or_true, true_or, true_and, and_true, Int.reducePow, Int.reduceSub, Int.reduceMul, seq_ref, seqO_lst, seqO_frz, lst_ref, lstO_lst, len_ref, list_ref, lisO_lst, append_ref, enWk_tup, enWk_ref, split_str, base_join, base_split, str_int, str_str, int_str, len_str, seqWk_str, extend_tup', extend_ref, base_append, base_extend, base_get, get2_ref, dctO_dct, keyD_int, keyD_str,  tuple_ref, all_ref, any_ref, add_ref, slc_ref, len_tup, list_tup, int_int, int_bl, abs_int, max_int, max_ref, min_int, slc_tup, rev_tup, seqWk_tup, zipWk_tup, rng_one, rng_two, rng_three, wkEnum_items, Option.map_some, Option.bind_some, setAll,
  List.set_cons_zero, List.set_cons_succ, List.set_set, List.foldl_nil, List.foldl_cons, List.length_cons, List.length_nil, List.map_cons, List.map_nil, List.cons_append, List.nil_append, List.replicate_succ, List.replicate_zero, Nat.reduceAdd, Nat.reduceSub, Bool.not_true, Bool.not_false, if_true, if_false, Bool.false_eq_true, decide_eq_true_eq, Nat.reduceLeDiff, lim_lit, wipe, isiD_tup, isiD_str, isiD_int, isiD_bl, isiD_non, isi_tup, isi_str, isi_int, isi_bool, Bool.and_true, Bool.and_false, Bool.true_and, Bool.false_and, tpB_tup, tpB_str, tpB_bl, tpB_int, tpB_non, tpB_ref, isStr_tup, isStr_str, isStr_bl, isStr_int, isStr_non, isStr_ref, isBl_tup, isBl_str, isBl_bl, isBl_int, isBl_non, isBl_ref, isInt_tup, isInt_str, isInt_bl, isInt_int, isInt_non, isInt_ref])
local macro_rules | `(tactic| walk_at "goh") => `(tactic| try simp only [*, Int.reduceBEq, wps_nil, wps_cons, wps_ex, wps_asg, wps_par, wps_ret, wps_cond, wps_loop, wps_brk, wps_cont, wps_pass, wp_ret, wp_slot, wp_cst, wp_tup, wp_lst, wp_bin, wp_neg, wp_cmp, wp_chain, wp_and, wp_or, wp_not, wp_ifx, wp_idx, wp_slc, wp_rev, wp_call, wp_meth, wp_blt, wp_listR, wp_isi, wp_new, wp_attr, wp_mcall, wp_isc, wp_sset, wps_sta, wp_of1m, cmpE_int, cmpE_str, cmpE_bl, cmpE_tup, cmpE_non, cmpE_ne, cmpE_lt, cmpE_le, cmpE_gt, cmpE_ge, cmpE_isn, cmpE_notn, cmpE_inn, cmpE_nin, wp_star, wp_comp, wp_dct, wp_nil, wp_cons, wp_knil, wp_kcons, wp_onone, wp_osome, wp_iseq, wp_irng, wp_ienum, wp_izip, wp_tslot, wp_ttup, wp_titem, wp_tnil, wp_tcons, wp_fnil, wp_fone, wp_ok, wp_of1, wp_of, wp_of1n, wp_ofn, wp_onB, wp_onBn, wp_calm, wp_bind, wp_ite, wp_exc, wp_bad,
  getL_0, getL_s, bin_add, bin_sub, bin_mul, bin_fdiv, bin_mod, bin_tup, bin_str, cmp_lt, cmp_le, cmp_gt, cmp_ge, cmp_eqI, cmp_eqS, cmp_neI, cmp_neS, cmp_eqB, in_str2, in_str3, truth_bl, truth_int, truth_tup, truth_non, neg_int, intOf_int, tupOf_tup, idx_tup, idx_ref, idxO_lst, atI_0, atI_1, atI_2, atI_3, atI_4, cut_from, cut_to, List.drop_succ_cons, List.drop_zero, List.take_succ_cons, List.take_zero, List.drop_nil, List.take_nil, Int.reduceLE, blsD_map, blsD_cons, blsD_nil, set_ref, setO_cons, isList_ref, Option.isSome_some, Int.reduceLE, Int.reduceLT, Int.cast_ofNat_Int, Int.reduceToNat, List.getElem?_cons_succ, List.getElem?_cons_zero, Int.reduceNeg, Int.reduceAdd, at_new, and_self, or_true, true_or, true_and, and_true, Int.reducePow, Int.reduceSub, Int.reduceMul, seq_ref, seqO_lst, seqO_frz, lst_ref, lstO_lst, len_ref, list_ref, lisO_lst, append_ref, enWk_tup, enWk_ref, split_str, base_join, base_split, str_int, str_str, int_str, len_str, seqWk_str, extend_tup', extend_ref, base_append, base_extend, base_get, get2_ref, dctO_dct, keyD_int, keyD_str,  tuple_ref, all_ref, any_ref, add_ref, slc_ref, len_tup, list_tup, int_int, int_bl, abs_int, max_int, max_ref, min_int, slc_tup, rev_tup, seqWk_tup, zipWk_tup, rng_one, rng_two, rng_three, wkEnum_items, Option.map_some, Option.bind_some, setAll,
  List.set_cons_zero, List.set_cons_succ, List.set_set, List.foldl_nil, List.foldl_cons, List.length_cons, List.length_nil, List.map_cons, List.map_nil, List.cons_append, List.nil_append, List.replicate_succ, List.replicate_zero, Nat.reduceAdd, Nat.reduceSub, Bool.not_true, Bool.not_false, if_true, if_false, Bool.false_eq_true, decide_eq_true_eq, Nat.reduceLeDiff, lim_lit, wipe, isiD_tup, isiD_str, isiD_int, isiD_bl, isiD_non, isi_tup, isi_str, isi_int, isi_bool, Bool.and_true, Bool.and_false, Bool.true_and, Bool.false_and, tpB_tup, tpB_str, tpB_bl, tpB_int, tpB_non, tpB_ref, isStr_tup, isStr_str, isStr_bl, isStr_int, isStr_non, isStr_ref, isBl_tup, isBl_str, isBl_bl, isBl_int, isBl_non, isBl_ref, isInt_tup, isInt_str, isInt_bl, isInt_int, isInt_non, isInt_ref])
local macro_rules | `(tactic| walk_at "dr") => `(tactic| (refine draw_ok (by assumption) (by assumption) (by first | assumption | omega | decide) (by first | omega | decide) ?_; intro r A' r0 r1 hp f))
local macro_rules | `(tactic| walk_at "an") => `(tactic| (refine any_ok (by assumption) (by assumption) (Pot.snoc (by assumption) _) at_new (Nat.ne_of_gt (Pot.lt (by assumption))) (by simp) (by simp) ?_; intro d A' hm hp f))
local macro_rules | `(tactic| walk_at "fr") => `(tactic| repeat first | exact Fr.refl _ _ | assumption | refine Fr.snoc ?_ _ | refine Fr.trans ?_ (by assumption) | refine Fr.trans ?_ (Fr.nil (by assumption)))
local macro_rules | `(tactic| walk_at "g1") => `(tactic| try simp only [*, wps_nil, wps_ex, wps_asg, wps_par, wps_ret, wps_cond, wps_loop, wps_brk, wps_cont, wps_pass, wp_ret, wp_slot, wp_cst, wp_tup, wp_lst, wp_bin, wp_neg, wp_cmp, wp_chain, wp_and, wp_or, wp_not, wp_ifx, wp_idx, wp_slc, wp_rev, wp_call, wp_meth, wp_blt, wp_listR, wp_isi, wp_new, wp_attr, wp_mcall, wp_isc, wp_sset, wps_sta, wp_of1m, cmpE_int, cmpE_str, cmpE_bl, cmpE_tup, cmpE_non, cmpE_ne, cmpE_lt, cmpE_le, cmpE_gt, cmpE_ge, cmpE_isn, cmpE_notn, cmpE_inn, cmpE_nin, wp_star, wp_comp, wp_dct, wp_nil, wp_cons, wp_knil, wp_kcons, wp_onone, wp_osome, wp_iseq, wp_irng, wp_ienum, wp_izip, wp_tslot, wp_ttup, wp_titem, wp_tnil, wp_tcons, wp_fnil, wp_fone, wp_ok, wp_of1, wp_of, wp_of1n, wp_ofn, wp_onB, wp_onBn, wp_calm, wp_bind, wp_ite, wp_exc, wp_bad,
  getL_0, getL_s, bin_add, bin_sub, bin_mul, bin_fdiv, bin_mod, bin_tup, bin_str, cmp_lt, cmp_le, cmp_gt, cmp_ge, cmp_eqI, cmp_eqS, cmp_neI, cmp_neS, cmp_eqB, in_str2, in_str3, truth_bl, truth_int, truth_tup, truth_non, neg_int, intOf_int, tupOf_tup, idx_tup, idx_ref, idxO_lst, atI_0, atI_1, atI_2, atI_3, atI_4, cut_from, cut_to, List.drop_succ_cons, List.drop_zero, List.take_succ_cons, List.take_zero, List.drop_nil, List.take_nil, Int.reduceLE, Int.reduceBEq, blsD_map, blsD_cons, blsD_nil, set_ref, setO_cons, isList_ref, Option.isSome_some, Int.reduceLE, Int.reduceLT, Int.cast_ofNat_Int, Int.reduceToNat, List.getElem?_cons_succ, List.getElem?_cons_zero, Int.reduceNeg, Int.reduceAdd, at_new, and_self, or_true, true_or, true_and, and_true, Int.reducePow, Int.reduceSub, Int.reduceMul, seq_ref, seqO_lst, seqO_frz, lst_ref, lstO_lst, len_ref, list_ref, lisO_lst, append_ref, enWk_tup, enWk_ref, split_str, base_join, base_split, str_int, str_str, int_str, len_str, seqWk_str, extend_tup', extend_ref, base_append, base_extend, base_get, get2_ref, dctO_dct, keyD_int, keyD_str,  tuple_ref, all_ref, any_ref, add_ref, slc_ref, len_tup, list_tup, int_int, int_bl, abs_int, max_int, max_ref, min_int, slc_tup, rev_tup, seqWk_tup, zipWk_tup, rng_one, rng_two, rng_three, wkEnum_items, Option.map_some, Option.bind_some, setAll,
  List.set_cons_zero, List.set_cons_succ, List.set_set, List.foldl_nil, List.foldl_cons, List.length_cons, List.length_nil, List.map_cons, List.map_nil, List.cons_append, List.nil_append, List.replicate_succ, List.replicate_zero, Nat.reduceAdd, Nat.reduceSub, Bool.not_true, Bool.not_false, if_true, if_false, Bool.false_eq_true, decide_eq_true_eq, Nat.reduceLeDiff, lim_lit, wipe, isiD_tup, isiD_str, isiD_int, isiD_bl, isiD_non, isi_tup, isi_str, isi_int, isi_bool, Bool.and_true, Bool.and_false, Bool.true_and, Bool.false_and, tpB_tup, tpB_str, tpB_bl, tpB_int, tpB_non, tpB_ref, isStr_tup, isStr_str, isStr_bl, isStr_int, isStr_non, isStr_ref, isBl_tup, isBl_str, isBl_bl, isBl_int, isBl_non, isBl_ref, isInt_tup, isInt_str, isInt_bl, isInt_int, isInt_non, isInt_ref])
local macro_rules | `(tactic| walk_at "go1") => `(tactic| try simp only [wps_nil, wps_ex, wps_asg, wps_par, wps_ret, wps_cond, wps_loop, wps_brk, wps_cont, wps_pass, wp_ret, wp_slot, wp_cst, wp_tup, wp_lst, wp_bin, wp_neg, wp_cmp, wp_chain, wp_and, wp_or, wp_not, wp_ifx, wp_idx, wp_slc, wp_rev, wp_call, wp_meth, wp_blt, wp_listR, wp_isi, wp_new, wp_attr, wp_mcall, wp_isc, wp_sset, wps_sta, wp_of1m, cmpE_int, cmpE_str, cmpE_bl, cmpE_tup, cmpE_non, cmpE_ne, cmpE_lt, cmpE_le, cmpE_gt, cmpE_ge, cmpE_isn, cmpE_notn, cmpE_inn, cmpE_nin, wp_star, wp_comp, wp_dct, wp_nil, wp_cons, wp_knil, wp_kcons, wp_onone, wp_osome, wp_iseq, wp_irng, wp_ienum, wp_izip, wp_tslot, wp_ttup, wp_titem, wp_tnil, wp_tcons, wp_fnil, wp_fone, wp_ok, wp_of1, wp_of, wp_of1n, wp_ofn, wp_onB, wp_onBn, wp_calm, wp_bind, wp_ite, wp_exc, wp_bad,
  getL_0, getL_s, bin_add, bin_sub, bin_mul, bin_fdiv, bin_mod, bin_tup, bin_str, cmp_lt, cmp_le, cmp_gt, cmp_ge, cmp_eqI, cmp_eqS, cmp_neI, cmp_neS, cmp_eqB, in_str2, in_str3, truth_bl, truth_int, truth_tup, truth_non, neg_int, intOf_int, tupOf_tup, idx_tup, idx_ref, idxO_lst, atI_0, atI_1, atI_2, atI_3, atI_4, cut_from, cut_to, List.drop_succ_cons, List.drop_zero, List.take_succ_cons, List.take_zero, List.drop_nil, List.take_nil, Int.reduceLE, Int.reduceBEq, blsD_map, blsD_cons, blsD_nil, set_ref, setO_cons, isList_ref, Option.isSome_some, Int.reduceLE, Int.reduceLT, Int.cast_ofNat_Int, Int.reduceToNat, List.getElem?_cons_succ, List.getElem?_cons_zero, Int.reduceNeg, Int.reduceAdd, at_new, and_self, or_true, true_or, true_and, and_true, Int.reducePow, Int.reduceSub, Int.reduceMul, seq_ref, seqO_lst, seqO_frz, lst_ref, lstO_lst, len_ref, list_ref, lisO_lst, append_ref, enWk_tup, enWk_ref, split_str, base_join, base_split, str_int, str_str, int_str, len_str, seqWk_str, extend_tup', extend_ref, base_append, base_extend, base_get, get2_ref, dctO_dct, keyD_int, keyD_str,  tuple_ref, all_ref, any_ref, add_ref, slc_ref, len_tup, list_tup, int_int, int_bl, abs_int, max_int, max_ref, min_int, slc_tup, rev_tup, seqWk_tup, zipWk_tup, rng_one, rng_two, rng_three, wkEnum_items, Option.map_some, Option.bind_some, setAll,
  List.set_cons_zero, List.set_cons_succ, List.set_set, List.foldl_nil, List.foldl_cons, List.length_cons, List.length_nil, List.map_cons, List.map_nil, List.cons_append, List.nil_append, List.replicate_succ, List.replicate_zero, Nat.reduceAdd, Nat.reduceSub, Bool.not_true, Bool.not_false, if_true, if_false, Bool.false_eq_true, decide_eq_true_eq, Nat.reduceLeDiff, lim_lit, wipe, isiD_tup, isiD_str, isiD_int, isiD_bl, isiD_non, isi_tup, isi_str, isi_int, isi_bool, Bool.and_true, Bool.and_false, Bool.true_and, Bool.false_and, tpB_tup, tpB_str, tpB_bl, tpB_int, tpB_non, tpB_ref, isStr_tup, isStr_str, isStr_bl, isStr_int, isStr_non, isStr_ref, isBl_tup, isBl_str, isBl_bl, isBl_int, isBl_non, isBl_ref, isInt_tup, isInt_str, isInt_bl, isInt_int, isInt_non, isInt_ref])
theorem cut_last {α : Type} (xs : List α) : cut xs none (some (-1)) = xs.dropLast := by
  unfold cut HT.sIx
  rw [List.dropLast_eq_take]
  simp only [show ((-1 : Int) < 0) from by omega, if_true]
  rw [List.drop_zero, Nat.sub_zero, show ((-1 : Int) + (xs.length : Int)).toNat = xs.length - 1 by omega]
theorem flat_len : ∀ (ls : List (List Nat)), (∀ l ∈ ls, l.length ≤ 132) → ls.flatten.length ≤ 132 * ls.length
  | [], _ => Nat.le_refl _
  | l :: r, h => by
    have a := h l (by simp)
    have b := flat_len r fun x hx => h x (by simp [hx])
    rw [List.flatten_cons, List.length_append, List.length_cons]
    omega
theorem web_len {m : Int} {hs : List Int} {ts : List (List Int)} (ok : Ok3 m hs ts) : (webT m hs ts).length ≤ 250000 := by
  have a := flat_len _ (lens_web ok)
  have b := ok.tl
  unfold webT
  rw [List.length_map] at a
  have : (linesT m hs ts).length = ts.length + 2 := by simp [linesT]
  omega
theorem split_web {m : Int} {hs : List Int} {ts : List (List Int)} : Txt.split (S (webT m hs ts)) (S [10]) = (linesT m hs ts ++ [[]]).map S := by
  rw [SX.split_S (by simp) (by decide), web_spl]
theorem split_row {w : List Nat} (hw : Word w) (is : List Int) : (Txt.split (S (lineT w is)) (S [32])).map D.str = rowD (w, is) := by
  rw [SX.split_S (by simp) (by decide), line_spl hw]
  rfl
def tupG (A : AH) : D → D
  | .ref r => (match A[r]? with
    | some (.lst ds) => .tup ds
    | _ => .non)
  | d => d
def intG : D → D
  | .str x => .int ((intText? x).getD 0)
  | d => d
theorem intG_nums {is : List Int} (hs : ∀ i ∈ is, 0 ≤ i ∧ i < 100) : (((is.map numT).map S).map D.str).map intG = is.map D.int := by
  simp only [List.map_map]
  refine List.map_congr_left fun i hi => ?_
  show D.int ((intText? (S (numT i))).getD 0) = _
  rw [int_back (hs i hi).1 (hs i hi).2]
  rfl
section
variable {P : CProg} {k : Nat} {A : AH} {Q : D → AH → Prop} {E : Ex → AH → Prop}
theorem rows_at {α : Type} {rs : List Nat} {g : α → List D} {xs : List α} (h : RowsAt A rs g xs) {j : Nat} {x : α} (e : xs[j]? = some x) : ∃ r, rs[j]? = some r ∧ A[r]? = some (.lst (g x)) := by
  have hj := (List.getElem?_eq_some_iff.mp e).1
  have hr : j < rs.length := by rw [h.1]; exact hj
  have e2 : rs[j]? = some rs[j] := List.getElem?_eq_getElem hr
  exact ⟨_, e2, h.2 j _ x e2 e⟩
theorem read9 (h : Is69 P) {m : Int} {hs : List Int} {ts : List (List Int)} (ok : Ok3 m hs ts) (go : ∀ n A', Fr [] A A' → A'[n]? = some (webO m hs ts) → Q (.ref n) A') : Wp ((fns P (k + 6)).call 9 [.str (S (webT m hs ts))] A) Q E := by
  rw [wp_def h.d9 rfl]; unfold b69_9
  rw [t_nl, t_sp]
  have c := ok.tl
  have wl := web_len ok
  have ln : (linesT m hs ts).length = ts.length + 2 := by simp [linesT]
  have rl := rows_len m hs ts
  rw [wps_cons]
  walk_at "go1"
  rw [wps_cons]
  walk_at "go1"
  rw [split_web]
  simp only [SX.S_len, List.length_cons, List.length_nil, show (webT m hs ts).length ≤ 16777214 by omega, ne_eq, Nat.add_one_ne_zero, not_false_eq_true, and_self, if_true]
  walk_at "go1"
  generalize eA1 : A ++ [AO.lst (((linesT m hs ts ++ [[]]).map S).map D.str)] = A1
  have h1 : A1[A.length]? = some (.lst (((linesT m hs ts ++ [[]]).map S).map D.str)) := by rw [← eA1]; exact at_new
  have f1 : Fr [] A A1 := by rw [← eA1]; exact (Fr.refl _ _).snoc _
  generalize A.length = l1 at h1 ⊢
  rw [wps_cons]
  walk_at "go1"
  rw [h1]
  simp only [Option.bind_some, seqO_lst, Option.map_some, cut_last]
  walk_at "go1"
  have ed : (((linesT m hs ts ++ [[]]).map S).map D.str).dropLast = ((linesT m hs ts).map S).map D.str := by
    rw [List.map_append, List.map_append]
    exact List.dropLast_concat
  rw [ed, seqWk_ref at_new]
  walk_at "go1"
  refine comp_rows (xs := rowsT m hs ts) (g := rowD) at_new (by simp [rl, ln]) (by simp [fuel, ln]; omega) (fun j d x acc A' hd hx ha hA => ?_) fun rs A2 f2 r2 => ?_
  · obtain ⟨fo, st, wo, w10⟩ := rows_ok ok hx
    have e : d = .str (S (lineT x.1 x.2)) := by
      rw [lines_rows, List.map_map, List.map_map, List.getElem?_map, hx] at hd
      cases hd
      rfl
    subst e
    have ll := small_len w10 st
    walk_at "go1"
    simp only [SX.S_len, List.length_cons, List.length_nil, show (lineT x.1 x.2).length ≤ 16777214 by omega, ne_eq, Nat.add_one_ne_zero, not_false_eq_true, and_self, if_true, split_row wo]
    walk_at "go1"
    simp only [ha, if_true, wp_ok]
    exact ⟨_, rfl, (Fr.refl _ _).snoc _, at_new⟩
  · have f2' : Fr [] A1 A2 := ((Fr.refl _ _).snoc _).trans f2
    generalize eA3 : A2 ++ [AO.lst (rs.map D.ref)] = A3
    have h3 : A3[A2.length]? = some (.lst (rs.map D.ref)) := by rw [← eA3]; exact at_new
    have f3 : Fr [] A1 A3 := by rw [← eA3]; exact f2'.snoc _
    have r3 : RowsAt A3 rs rowD (rowsT m hs ts) := r2.fr (by rw [← eA3]; exact (Fr.refl _ _).snoc _)
    generalize A2.length = l2 at h3 ⊢
    have lr : rs.length = ts.length + 2 := by rw [r3.1, rl]
    rw [wps_cons]
    walk_at "go1"
    rw [seqWk_ref h3]
    walk_at "go1"
    refine loop_liveE (fun i L B => Fr [] A3 B ∧ ∃ a b, L = [some (.str (S (webT m hs ts))), some (.ref l1), some (.ref l2), a, b, none, none, none, none]) (fun i L B hB => hB.1.get h3 (by simp)) (by simp [fuel]; omega) ⟨Fr.refl _ _, none, none, rfl⟩ (fun i d L B hd ⟨hB, a, b, hL⟩ => ?_) fun L A4 ⟨f4, a, b, hL⟩ => ?_
    · subst hL
      have hi : i < (rowsT m hs ts).length := by
        have := (List.getElem?_eq_some_iff.mp hd).1
        rw [List.length_map] at this
        omega
      have ex : (rowsT m hs ts)[i]? = some (rowsT m hs ts)[i] := List.getElem?_eq_getElem hi
      obtain ⟨r, er, hr⟩ := rows_at r3 ex
      have e : d = .ref r := by
        rw [List.getElem?_map, er] at hd
        cases hd
        rfl
      subst e
      obtain ⟨fo, st, wo, w10⟩ := rows_ok ok ex
      simp only [wp_ofE]
      walk_at "go1"
      rw [wps_cons]
      walk_at "go1"
      refine form8 h fo st (hB.get hr (by simp)) fun B2 g2 => ?_
      walk_at "go1"
      exact ⟨hB.trans g2, _, _, rfl⟩
    · subst hL
      dsimp only
      have h4 := f4.get h3 (by simp)
      have h14 := (f3.trans f4).get h1 (by simp)
      have r4 := r3.fr f4
      rw [wps_cons]
      walk_at "go1"
      rw [h4]
      simp only [Option.bind_some, seqO_lst, Option.map_some, List.length_map]
      walk_at "go1"
      simp only [show ¬ ((rs.length : Nat) : Int) < 2 by omega, decide_false, Bool.false_eq_true, if_false]
      walk_at "go1"
      rw [h14]
      have el : L2.atI (((linesT m hs ts ++ [[]]).map S).map D.str) (-1) = some (.str (S [])) := by
        rw [List.map_append, List.map_append]
        exact atI_last
      simp only [Option.bind_some, idxO_lst, el]
      walk_at "go1"
      rw [show truthD (.str (S [])) A4 = some false from rfl]
      walk_at "go1"
      rw [wps_cons]
      walk_at "go1"
      rw [seqWk_ref h4]
      walk_at "go1"
      refine comp_rows (xs := rowsT m hs ts) (g := fun r => r.2.map D.int) h4 (by rw [List.length_map, lr, rl]) (by simp [fuel]; omega) (fun j d x acc A' hd hx ha hA => ?_) fun rs5 A5 f5 r5 => ?_
      · obtain ⟨fo, st, wo, w10⟩ := rows_ok ok hx
        obtain ⟨r, er, hr⟩ := rows_at r4 hx
        have e : d = .ref r := by
          rw [List.getElem?_map, er] at hd
          cases hd
          rfl
        subst e
        have sl := st.1
        walk_at "go1"
        rw [hA.get hr (by simp)]
        simp only [Option.bind_some, seqO_lst, Option.map_some, row_drop]
        walk_at "go1"
        rw [seqWk_ref at_new]
        walk_at "go1"
        refine comp_mapL (g := intG) (fun B => B = A' ++ [AO.lst (((x.2.map numT).map S).map D.str)]) (fun B e => by rw [e]; exact at_new) (by simp [fuel]; omega) rfl (fun d acc B hd ha hB => ?_) fun B hB => ?_
        · subst hB
          obtain ⟨y, hy, rfl⟩ := List.mem_map.mp hd
          obtain ⟨z, hz, rfl⟩ := List.mem_map.mp hy
          obtain ⟨i, hi, rfl⟩ := List.mem_map.mp hz
          have b := st.2 i hi
          have nb := num_len b.1 b.2
          walk_at "go1"
          simp only [int_back b.1 b.2, Option.bind_some, SX.S_len, show (numT i).length ≤ 640 by omega, if_true]
          walk_at "go1"
          simp only [ha, if_true, wp_ok]
          first
            | exact ⟨by simp only [intG, int_back b.1 b.2, Option.getD_some], by trivial⟩
            | simp only [intG, int_back b.1 b.2, Option.getD_some]
        · subst hB
          rw [intG_nums st.2]
          walk_at "go1"
          simp only [ha, if_true, wp_ok]
          exact ⟨_, rfl, ((Fr.refl _ _).snoc _).snoc _, at_new⟩
      · generalize eA6 : A5 ++ [AO.lst (rs5.map D.ref)] = A6
        have h6 : A6[A5.length]? = some (.lst (rs5.map D.ref)) := by rw [← eA6]; exact at_new
        have g6 : Fr [] A5 A6 := by rw [← eA6]; exact (Fr.refl _ _).snoc _
        have r6 := r5.fr g6
        have f6 : Fr [] A A6 := ((f1.trans f3).trans f4).trans (f5.trans g6)
        generalize A5.length = l5 at h6 ⊢
        obtain ⟨a0, e0, p0⟩ := rows_at r6 (j := 0) (x := (wPlaces, [m])) rfl
        obtain ⟨a1, e1, p1⟩ := rows_at r6 (j := 1) (x := (wHues, hs)) rfl
        obtain ⟨rest, er⟩ : ∃ rest, rs5 = a0 :: a1 :: rest := by
          match rs5, e0, e1 with
          | x :: y :: rest, e0, e1 =>
            simp only [List.getElem?_cons_zero, List.getElem?_cons_succ, Option.some.injEq] at e0 e1
            exact ⟨rest, by rw [e0, e1]⟩
        subst er
        rw [wps_cons]
        walk_at "go1"
        rw [h6]
        simp only [Option.bind_some, idxO_lst, List.map_cons, atI_0, atI_1, wp_of1, idx_ref, p0]
        walk_at "go1"
        rw [h6]
        simp only [Option.bind_some, idxO_lst, List.map_cons, atI_1]
        walk_at "go1"
        rw [p1]
        simp only [Option.bind_some, seqO_lst, Option.map_some]
        walk_at "go1"
        rw [h6]
        simp only [Option.bind_some, seqO_lst, Option.map_some, List.map_cons, List.drop_succ_cons, List.drop_zero]
        walk_at "go1"
        rw [seqWk_ref at_new]
        walk_at "go1"
        have lt : rest.length = ts.length := by
          have := r6.1
          rw [rl] at this
          simp only [List.length_cons] at this
          omega
        have q6 : ∀ (j : Nat) (r : Nat) (t : List Int), rest[j]? = some r → ts[j]? = some t → (A6 ++ [AO.lst (rest.map D.ref)])[r]? = some (.lst (t.map D.int)) := fun j r t e1 e2 => by
          refine at_snoc (r6.2 (j + 2) r (wTie, t) e1 ?_)
          simp only [rowsT, List.getElem?_cons_succ, List.getElem?_map, e2]
          rfl
        generalize eA7 : A6 ++ [AO.lst (rest.map D.ref)] = A7 at q6
        have g7 : Fr [] A6 A7 := by rw [← eA7]; exact (Fr.refl _ _).snoc _
        have h7 : A7[A6.length]? = some (.lst (rest.map D.ref)) := by rw [← eA7]; exact at_new
        refine comp_mapL (g := tupG A7) (fun B => B = A7) (fun B e => by rw [e]; exact h7) (by simp [fuel]; omega) rfl (fun d acc B hd ha hB => ?_) fun B hB => ?_
        · subst hB
          obtain ⟨r, hr, rfl⟩ := List.mem_map.mp hd
          obtain ⟨j, hj, er⟩ := List.mem_iff_getElem.mp hr
          have e1 : rest[j]? = some r := by rw [List.getElem?_eq_getElem hj, er]
          have e2 : ts[j]? = some ts[j] := List.getElem?_eq_getElem (by omega)
          have q := q6 j r _ e1 e2
          walk_at "go1"
          rw [q]
          simp only [Option.bind_some, seqO_lst, Option.map_some]
          walk_at "go1"
          simp only [ha, if_true, wp_ok]
          first
            | exact ⟨by simp only [tupG, q], by trivial⟩
            | simp only [tupG, q]
        · subst hB
          have et : (rest.map D.ref).map (tupG B) = ts.map tupI := by
            refine List.ext_getElem? fun j => ?_
            rw [List.map_map, List.getElem?_map, List.getElem?_map]
            by_cases hj : j < ts.length
            · have hj2 : j < rest.length := by omega
              rw [List.getElem?_eq_getElem hj, List.getElem?_eq_getElem hj2]
              have q := q6 j _ _ (List.getElem?_eq_getElem hj2) (List.getElem?_eq_getElem hj)
              simp only [Option.map_some, Function.comp_apply, tupG, q]
              rfl
            · rw [List.getElem?_eq_none (by omega), List.getElem?_eq_none (by omega)]
              rfl
          rw [et]
          walk_at "go1"
          refine new0 h ok fun A8 f8 e8 => ?_
          exact go _ _ (((f6.trans g7).snoc _).trans f8) e8
end
end Kin
end
section
set_option linter.all false
set_option maxRecDepth 100000
namespace Kin
open PySem
local macro_rules | `(tactic| walk_at "go") => `(tactic| try simp only [wps_nil, wps_cons, wps_ex, wps_asg, wps_par, wps_ret, wps_cond, wps_loop, wps_brk, wps_cont, wps_pass, wp_ret, wp_slot, wp_cst, wp_tup, wp_lst, wp_bin, wp_neg, wp_cmp, wp_chain, wp_and, wp_or, wp_not, wp_ifx, wp_idx, wp_slc, wp_rev, wp_call, wp_meth, wp_blt, wp_listR, wp_isi, wp_new, wp_attr, wp_mcall, wp_isc, wp_sset, wps_sta, wp_of1m, cmpE_int, cmpE_str, cmpE_bl, cmpE_tup, cmpE_non, cmpE_ne, cmpE_lt, cmpE_le, cmpE_gt, cmpE_ge, cmpE_isn, cmpE_notn, cmpE_inn, cmpE_nin, wp_star, wp_comp, wp_dct, wp_nil, wp_cons, wp_knil, wp_kcons, wp_onone, wp_osome, wp_iseq, wp_irng, wp_ienum, wp_izip, wp_tslot, wp_ttup, wp_titem, wp_tnil, wp_tcons, wp_fnil, wp_fone, wp_ok, wp_of1, wp_of, wp_of1n, wp_ofn, wp_onB, wp_onBn, wp_calm, wp_bind, wp_ite, wp_exc, wp_bad,
  getL_0, getL_s, bin_add, bin_sub, bin_mul, bin_fdiv, bin_mod, bin_tup, bin_str, cmp_lt, cmp_le, cmp_gt, cmp_ge, cmp_eqI, cmp_eqS, cmp_neI, cmp_neS, cmp_eqB, in_str2, in_str3, truth_bl, truth_int, truth_tup, truth_non, neg_int, intOf_int, tupOf_tup, idx_tup, idx_ref, idxO_lst, atI_0, atI_1, atI_2, atI_3, atI_4, cut_from, cut_to, List.drop_succ_cons, List.drop_zero, List.take_succ_cons, List.take_zero, List.drop_nil, List.take_nil, Int.reduceLE, Int.reduceBEq, blsD_map, blsD_cons, blsD_nil, set_ref, setO_cons, isList_ref, Option.isSome_some, Int.reduceLE, Int.reduceLT, Int.cast_ofNat_Int, Int.reduceToNat, List.getElem?_cons_succ, List.getElem?_cons_zero, Int.reduceNeg, Int.reduceAdd, at_new, and_self, or_true, true_or, true_and, and_true, Int.reducePow, Int.reduceSub, Int.reduceMul, seq_ref, seqO_lst, seqO_frz, lst_ref, lstO_lst, len_ref, list_ref, lisO_lst, append_ref, enWk_tup, enWk_ref, split_str, base_join, base_split, str_int, str_str, int_str, len_str, seqWk_str, extend_tup', extend_ref, base_append, base_extend, base_get, get2_ref, dctO_dct, keyD_int, keyD_str,  tuple_ref, all_ref, any_ref, add_ref, slc_ref, len_tup, list_tup, int_int, int_bl, abs_int, max_int, max_ref, min_int, slc_tup, rev_tup, seqWk_tup, zipWk_tup, rng_one, rng_two, rng_three, wkEnum_items, Option.map_some, Option.bind_some, setAll,
  List.set_cons_zero, List.set_cons_succ, List.set_set, List.foldl_nil, List.foldl_cons, List.length_cons, List.length_nil, List.map_cons, List.map_nil, List.cons_append, List.nil_append, List.replicate_succ, List.replicate_zero, Nat.reduceAdd, Nat.reduceSub, Bool.not_true, Bool.not_false, if_true, if_false, Bool.false_eq_true, decide_eq_true_eq, Nat.reduceLeDiff, lim_lit, wipe, isiD_tup, isiD_str, isiD_int, isiD_bl, isiD_non, isi_tup, isi_str, isi_int, isi_bool, Bool.and_true, Bool.and_false, Bool.true_and, Bool.false_and, tpB_tup, tpB_str, tpB_bl, tpB_int, tpB_non, tpB_ref, isStr_tup, isStr_str, isStr_bl, isStr_int, isStr_non, isStr_ref, isBl_tup, isBl_str, isBl_bl, isBl_int, isBl_non, isBl_ref, isInt_tup, isInt_str, isInt_bl, isInt_int, isInt_non, isInt_ref])
local macro_rules | `(tactic| walk_at "goh") => `(tactic| try simp only [*, Int.reduceBEq, wps_nil, wps_cons, wps_ex, wps_asg, wps_par, wps_ret, wps_cond, wps_loop, wps_brk, wps_cont, wps_pass, wp_ret, wp_slot, wp_cst, wp_tup, wp_lst, wp_bin, wp_neg, wp_cmp, wp_chain, wp_and, wp_or, wp_not, wp_ifx, wp_idx, wp_slc, wp_rev, wp_call, wp_meth, wp_blt, wp_listR, wp_isi, wp_new, wp_attr, wp_mcall, wp_isc, wp_sset, wps_sta, wp_of1m, cmpE_int, cmpE_str, cmpE_bl, cmpE_tup, cmpE_non, cmpE_ne, cmpE_lt, cmpE_le, cmpE_gt, cmpE_ge, cmpE_isn, cmpE_notn, cmpE_inn, cmpE_nin, wp_star, wp_comp, wp_dct, wp_nil, wp_cons, wp_knil, wp_kcons, wp_onone, wp_osome, wp_iseq, wp_irng, wp_ienum, wp_izip, wp_tslot, wp_ttup, wp_titem, wp_tnil, wp_tcons, wp_fnil, wp_fone, wp_ok, wp_of1, wp_of, wp_of1n, wp_ofn, wp_onB, wp_onBn, wp_calm, wp_bind, wp_ite, wp_exc, wp_bad,
  getL_0, getL_s, bin_add, bin_sub, bin_mul, bin_fdiv, bin_mod, bin_tup, bin_str, cmp_lt, cmp_le, cmp_gt, cmp_ge, cmp_eqI, cmp_eqS, cmp_neI, cmp_neS, cmp_eqB, in_str2, in_str3, truth_bl, truth_int, truth_tup, truth_non, neg_int, intOf_int, tupOf_tup, idx_tup, idx_ref, idxO_lst, atI_0, atI_1, atI_2, atI_3, atI_4, cut_from, cut_to, List.drop_succ_cons, List.drop_zero, List.take_succ_cons, List.take_zero, List.drop_nil, List.take_nil, Int.reduceLE, blsD_map, blsD_cons, blsD_nil, set_ref, setO_cons, isList_ref, Option.isSome_some, Int.reduceLE, Int.reduceLT, Int.cast_ofNat_Int, Int.reduceToNat, List.getElem?_cons_succ, List.getElem?_cons_zero, Int.reduceNeg, Int.reduceAdd, at_new, and_self, or_true, true_or, true_and, and_true, Int.reducePow, Int.reduceSub, Int.reduceMul, seq_ref, seqO_lst, seqO_frz, lst_ref, lstO_lst, len_ref, list_ref, lisO_lst, append_ref, enWk_tup, enWk_ref, split_str, base_join, base_split, str_int, str_str, int_str, len_str, seqWk_str, extend_tup', extend_ref, base_append, base_extend, base_get, get2_ref, dctO_dct, keyD_int, keyD_str,  tuple_ref, all_ref, any_ref, add_ref, slc_ref, len_tup, list_tup, int_int, int_bl, abs_int, max_int, max_ref, min_int, slc_tup, rev_tup, seqWk_tup, zipWk_tup, rng_one, rng_two, rng_three, wkEnum_items, Option.map_some, Option.bind_some, setAll,
  List.set_cons_zero, List.set_cons_succ, List.set_set, List.foldl_nil, List.foldl_cons, List.length_cons, List.length_nil, List.map_cons, List.map_nil, List.cons_append, List.nil_append, List.replicate_succ, List.replicate_zero, Nat.reduceAdd, Nat.reduceSub, Bool.not_true, Bool.not_false, if_true, if_false, Bool.false_eq_true, decide_eq_true_eq, Nat.reduceLeDiff, lim_lit, wipe, isiD_tup, isiD_str, isiD_int, isiD_bl, isiD_non, isi_tup, isi_str, isi_int, isi_bool, Bool.and_true, Bool.and_false, Bool.true_and, Bool.false_and, tpB_tup, tpB_str, tpB_bl, tpB_int, tpB_non, tpB_ref, isStr_tup, isStr_str, isStr_bl, isStr_int, isStr_non, isStr_ref, isBl_tup, isBl_str, isBl_bl, isBl_int, isBl_non, isBl_ref, isInt_tup, isInt_str, isInt_bl, isInt_int, isInt_non, isInt_ref])
local macro_rules | `(tactic| walk_at "dr") => `(tactic| (refine draw_ok (by assumption) (by assumption) (by first | assumption | omega | decide) (by first | omega | decide) ?_; intro r A' r0 r1 hp f))
local macro_rules | `(tactic| walk_at "an") => `(tactic| (refine any_ok (by assumption) (by assumption) (Pot.snoc (by assumption) _) at_new (Nat.ne_of_gt (Pot.lt (by assumption))) (by simp) (by simp) ?_; intro d A' hm hp f))
local macro_rules | `(tactic| walk_at "fr") => `(tactic| repeat first | exact Fr.refl _ _ | assumption | refine Fr.snoc ?_ _ | refine Fr.trans ?_ (by assumption) | refine Fr.trans ?_ (Fr.nil (by assumption)))
local macro_rules | `(tactic| walk_at "g1") => `(tactic| try simp only [*, wps_nil, wps_ex, wps_asg, wps_par, wps_ret, wps_cond, wps_loop, wps_brk, wps_cont, wps_pass, wp_ret, wp_slot, wp_cst, wp_tup, wp_lst, wp_bin, wp_neg, wp_cmp, wp_chain, wp_and, wp_or, wp_not, wp_ifx, wp_idx, wp_slc, wp_rev, wp_call, wp_meth, wp_blt, wp_listR, wp_isi, wp_new, wp_attr, wp_mcall, wp_isc, wp_sset, wps_sta, wp_of1m, cmpE_int, cmpE_str, cmpE_bl, cmpE_tup, cmpE_non, cmpE_ne, cmpE_lt, cmpE_le, cmpE_gt, cmpE_ge, cmpE_isn, cmpE_notn, cmpE_inn, cmpE_nin, wp_star, wp_comp, wp_dct, wp_nil, wp_cons, wp_knil, wp_kcons, wp_onone, wp_osome, wp_iseq, wp_irng, wp_ienum, wp_izip, wp_tslot, wp_ttup, wp_titem, wp_tnil, wp_tcons, wp_fnil, wp_fone, wp_ok, wp_of1, wp_of, wp_of1n, wp_ofn, wp_onB, wp_onBn, wp_calm, wp_bind, wp_ite, wp_exc, wp_bad,
  getL_0, getL_s, bin_add, bin_sub, bin_mul, bin_fdiv, bin_mod, bin_tup, bin_str, cmp_lt, cmp_le, cmp_gt, cmp_ge, cmp_eqI, cmp_eqS, cmp_neI, cmp_neS, cmp_eqB, in_str2, in_str3, truth_bl, truth_int, truth_tup, truth_non, neg_int, intOf_int, tupOf_tup, idx_tup, idx_ref, idxO_lst, atI_0, atI_1, atI_2, atI_3, atI_4, cut_from, cut_to, List.drop_succ_cons, List.drop_zero, List.take_succ_cons, List.take_zero, List.drop_nil, List.take_nil, Int.reduceLE, Int.reduceBEq, blsD_map, blsD_cons, blsD_nil, set_ref, setO_cons, isList_ref, Option.isSome_some, Int.reduceLE, Int.reduceLT, Int.cast_ofNat_Int, Int.reduceToNat, List.getElem?_cons_succ, List.getElem?_cons_zero, Int.reduceNeg, Int.reduceAdd, at_new, and_self, or_true, true_or, true_and, and_true, Int.reducePow, Int.reduceSub, Int.reduceMul, seq_ref, seqO_lst, seqO_frz, lst_ref, lstO_lst, len_ref, list_ref, lisO_lst, append_ref, enWk_tup, enWk_ref, split_str, base_join, base_split, str_int, str_str, int_str, len_str, seqWk_str, extend_tup', extend_ref, base_append, base_extend, base_get, get2_ref, dctO_dct, keyD_int, keyD_str,  tuple_ref, all_ref, any_ref, add_ref, slc_ref, len_tup, list_tup, int_int, int_bl, abs_int, max_int, max_ref, min_int, slc_tup, rev_tup, seqWk_tup, zipWk_tup, rng_one, rng_two, rng_three, wkEnum_items, Option.map_some, Option.bind_some, setAll,
  List.set_cons_zero, List.set_cons_succ, List.set_set, List.foldl_nil, List.foldl_cons, List.length_cons, List.length_nil, List.map_cons, List.map_nil, List.cons_append, List.nil_append, List.replicate_succ, List.replicate_zero, Nat.reduceAdd, Nat.reduceSub, Bool.not_true, Bool.not_false, if_true, if_false, Bool.false_eq_true, decide_eq_true_eq, Nat.reduceLeDiff, lim_lit, wipe, isiD_tup, isiD_str, isiD_int, isiD_bl, isiD_non, isi_tup, isi_str, isi_int, isi_bool, Bool.and_true, Bool.and_false, Bool.true_and, Bool.false_and, tpB_tup, tpB_str, tpB_bl, tpB_int, tpB_non, tpB_ref, isStr_tup, isStr_str, isStr_bl, isStr_int, isStr_non, isStr_ref, isBl_tup, isBl_str, isBl_bl, isBl_int, isBl_non, isBl_ref, isInt_tup, isInt_str, isInt_bl, isInt_int, isInt_non, isInt_ref])
local macro_rules | `(tactic| walk_at "go1") => `(tactic| try simp only [wps_nil, wps_ex, wps_asg, wps_par, wps_ret, wps_cond, wps_loop, wps_brk, wps_cont, wps_pass, wp_ret, wp_slot, wp_cst, wp_tup, wp_lst, wp_bin, wp_neg, wp_cmp, wp_chain, wp_and, wp_or, wp_not, wp_ifx, wp_idx, wp_slc, wp_rev, wp_call, wp_meth, wp_blt, wp_listR, wp_isi, wp_new, wp_attr, wp_mcall, wp_isc, wp_sset, wps_sta, wp_of1m, cmpE_int, cmpE_str, cmpE_bl, cmpE_tup, cmpE_non, cmpE_ne, cmpE_lt, cmpE_le, cmpE_gt, cmpE_ge, cmpE_isn, cmpE_notn, cmpE_inn, cmpE_nin, wp_star, wp_comp, wp_dct, wp_nil, wp_cons, wp_knil, wp_kcons, wp_onone, wp_osome, wp_iseq, wp_irng, wp_ienum, wp_izip, wp_tslot, wp_ttup, wp_titem, wp_tnil, wp_tcons, wp_fnil, wp_fone, wp_ok, wp_of1, wp_of, wp_of1n, wp_ofn, wp_onB, wp_onBn, wp_calm, wp_bind, wp_ite, wp_exc, wp_bad,
  getL_0, getL_s, bin_add, bin_sub, bin_mul, bin_fdiv, bin_mod, bin_tup, bin_str, cmp_lt, cmp_le, cmp_gt, cmp_ge, cmp_eqI, cmp_eqS, cmp_neI, cmp_neS, cmp_eqB, in_str2, in_str3, truth_bl, truth_int, truth_tup, truth_non, neg_int, intOf_int, tupOf_tup, idx_tup, idx_ref, idxO_lst, atI_0, atI_1, atI_2, atI_3, atI_4, cut_from, cut_to, List.drop_succ_cons, List.drop_zero, List.take_succ_cons, List.take_zero, List.drop_nil, List.take_nil, Int.reduceLE, Int.reduceBEq, blsD_map, blsD_cons, blsD_nil, set_ref, setO_cons, isList_ref, Option.isSome_some, Int.reduceLE, Int.reduceLT, Int.cast_ofNat_Int, Int.reduceToNat, List.getElem?_cons_succ, List.getElem?_cons_zero, Int.reduceNeg, Int.reduceAdd, at_new, and_self, or_true, true_or, true_and, and_true, Int.reducePow, Int.reduceSub, Int.reduceMul, seq_ref, seqO_lst, seqO_frz, lst_ref, lstO_lst, len_ref, list_ref, lisO_lst, append_ref, enWk_tup, enWk_ref, split_str, base_join, base_split, str_int, str_str, int_str, len_str, seqWk_str, extend_tup', extend_ref, base_append, base_extend, base_get, get2_ref, dctO_dct, keyD_int, keyD_str,  tuple_ref, all_ref, any_ref, add_ref, slc_ref, len_tup, list_tup, int_int, int_bl, abs_int, max_int, max_ref, min_int, slc_tup, rev_tup, seqWk_tup, zipWk_tup, rng_one, rng_two, rng_three, wkEnum_items, Option.map_some, Option.bind_some, setAll,
  List.set_cons_zero, List.set_cons_succ, List.set_set, List.foldl_nil, List.foldl_cons, List.length_cons, List.length_nil, List.map_cons, List.map_nil, List.cons_append, List.nil_append, List.replicate_succ, List.replicate_zero, Nat.reduceAdd, Nat.reduceSub, Bool.not_true, Bool.not_false, if_true, if_false, Bool.false_eq_true, decide_eq_true_eq, Nat.reduceLeDiff, lim_lit, wipe, isiD_tup, isiD_str, isiD_int, isiD_bl, isiD_non, isi_tup, isi_str, isi_int, isi_bool, Bool.and_true, Bool.and_false, Bool.true_and, Bool.false_and, tpB_tup, tpB_str, tpB_bl, tpB_int, tpB_non, tpB_ref, isStr_tup, isStr_str, isStr_bl, isStr_int, isStr_non, isStr_ref, isBl_tup, isBl_str, isBl_bl, isBl_int, isBl_non, isBl_ref, isInt_tup, isInt_str, isInt_bl, isInt_int, isInt_non, isInt_ref])
/-! ### the pot, its cells named -/
def PotC (c p : Nat) (A : AH) : Prop := ∃ (cells : List Int) (i b s k : Int), A[p]? = some (.lst [.ref c, .int i, .int b, .int s, .int k]) ∧ c ≠ p ∧ A[c]? = some (.lst (cells.map D.int)) ∧ 0 ≤ i ∧ 0 ≤ b ∧ 0 ≤ s ∧ 0 ≤ k ∧ ∀ x ∈ cells, 0 ≤ x
section
variable {P : CProg} {k' f p c : Nat} {m : Int} {A B : AH} {Q : D → AH → Prop} {E : Ex → AH → Prop}
theorem Pot.named (h : Pot p A) : ∃ c, PotC c p A := by
  obtain ⟨c, r⟩ := h
  exact ⟨c, r⟩
theorem PotC.pot (h : PotC c p A) : Pot p A := ⟨c, h⟩
theorem PotC.lt (h : PotC c p A) : p < A.length ∧ c < A.length := by
  obtain ⟨cells, i, b, s, k, h, _, e, _⟩ := h
  exact ⟨lt_of_at h, lt_of_at e⟩
theorem PotC.fr (h : PotC c p A) (f : Fr [] A B) : PotC c p B := by
  obtain ⟨cells, i, b, s, k, hA, hcp, hC, r⟩ := h
  exact ⟨cells, i, b, s, k, f.get hA (by simp), hcp, f.get hC (by simp), r⟩
theorem PotC.set (h : PotC c p A) {n : Nat} {o : AO} (h1 : n ≠ p) (h2 : n ≠ c) : PotC c p (A.set n o) := by
  obtain ⟨cells, i, b, s, k, hA, hcp, hC, r⟩ := h
  exact ⟨cells, i, b, s, k, by rw [List.getElem?_set_ne h1, hA], hcp, by rw [List.getElem?_set_ne h2, hC], r⟩
theorem drawTC_ok {F : Fns} {cells : List Int} {i b s k : Int} {l2 l3 l4 : Option D} {Q : SQ} (hA : A[p]? = some (.lst [.ref c, .int i, .int b, .int s, .int k])) (hcp : c ≠ p) (hC : A[c]? = some (.lst (cells.map D.int)))
    (i0 : 0 ≤ i) (b0 : 0 ≤ b) (s0 : 0 ≤ s) (k0 : 0 ≤ k) (pos : ∀ x ∈ cells, 0 ≤ x) (h0 : 0 < m) (h1 : m < 1073741824) (go : ∀ r A', 0 ≤ r → r < m → PotC c p A' → Fr [p] A A' → Q.rt (.int r) A') :
    WpS (evSs P F bDrawT [some (.ref p), some (.int m), l2, l3, l4] A) Q := by
  have hlt : p < A.length := lt_of_at hA
  have hset : ∀ o, (A.set p o)[p]? = some o := fun o => set_self hlt
  unfold bDrawT
  walk_at "goh"
  split
  · refine go _ _ (Int.emod_nonneg _ (by omega)) (Int.emod_lt_of_pos _ h0) ⟨cells, i, b / m, s, k, hset _, hcp, ?_, i0, Int.ediv_nonneg b0 (by omega), s0, k0, pos⟩ ((Fr.refl _ _).set _ (by simp))
    rw [List.getElem?_set_ne (Ne.symm hcp)]
    exact hC
  · have e1 : ∀ x : Int, -18446744073709551616 < x % 2147483647 ∧ x % 2147483647 < 18446744073709551616 := fun x => by
      have := Int.emod_nonneg x (b := 2147483647) (by omega)
      have := Int.emod_lt_of_pos x (b := 2147483647) (by omega)
      omega
    simp only [e1]
    walk_at "goh"
    refine go _ _ (Int.emod_nonneg _ (by omega)) (Int.emod_lt_of_pos _ h0) ⟨cells, i, b, s, k + 1, hset _, hcp, ?_, i0, b0, s0, by omega, pos⟩ ((Fr.refl _ _).set _ (by simp))
    rw [List.getElem?_set_ne (Ne.symm hcp)]
    exact hC
theorem drawC_ok (hd : Def P f 2 5 bDraw) (hp : PotC c p A) (h0 : 0 < m) (h1 : m < 1073741824) (go : ∀ r A', 0 ≤ r → r < m → PotC c p A' → Fr [p] A A' → Q (.int r) A') : Wp ((fns P (k' + 1)).call f [.ref p, .int m] A) Q E := by
  obtain ⟨cells, i, b, s, k, hA, hcp, hC, i0, b0, s0, k0, pos⟩ := hp
  have hlt : p < A.length := lt_of_at hA
  rw [wp_def hd rfl]
  unfold bDraw
  have hset : ∀ o, (A.set p o)[p]? = some o := fun o => set_self hlt
  have hset2 : ∀ o o', ((A.set p o).set p o')[p]? = some o' := fun o o' => set_self (by rw [List.length_set]; exact hlt)
  rw [wps_cons]
  walk_at "goh"
  split
  · split
    · rename_i h2
      obtain ⟨d, hd, hm, _⟩ := atI_of (ds := cells.map D.int) i0 (by simpa using h2)
      obtain ⟨x, hx, rfl⟩ := List.mem_map.mp hm
      walk_at "goh"
      have fin : ∀ b' s', 0 ≤ b' → 0 ≤ s' → WpS (evSs P (fns P k') bDrawT [some (.ref p), some (.int m), some (.int x), none, none] (A.set p (.lst [.ref c, .int (i + 1), .int b', .int s', .int k]))) ⟨fun _ A => Q .non A, Q, fun _ _ => False, fun _ _ => False, E⟩ := fun b' s' b1 s1 =>
        drawTC_ok (hset _) hcp (by rw [List.getElem?_set_ne (Ne.symm hcp)]; exact hC) (by omega) b1 s1 k0 pos h0 h1 fun r A' r0 r1 hp hf => go r A' r0 r1 hp (((Fr.refl _ _).set _ (by simp)).trans hf)
      have s1 : 0 ≤ (s * 69621 + x + 11) % 2147483629 := Int.emod_nonneg _ (by omega)
      split
      · exact fin _ _ (pos _ hx) s1
      · exact fin _ _ b0 s1
    · refine drawTC_ok hA hcp hC i0 b0 s0 k0 pos h0 h1 go
  · refine drawTC_ok hA hcp hC i0 b0 s0 k0 pos h0 h1 go
end
/-! ### drawn hues and ties -/
theorem insT_len (k : List Int) : ∀ l : List (List Int), (insT k l).length ≤ l.length + 1
  | [] => Nat.le_refl _
  | x :: r => by
    unfold insT
    split
    · simp
    · split
      · simp
      · have := insT_len k r
        simp only [List.length_cons]
        omega
theorem uniqT_le (l : List (List Int)) : (uniqT l).length ≤ l.length := by
  have key : ∀ (l a : List (List Int)), (l.foldl (fun a k => insT k a) a).length ≤ a.length + l.length := fun l => by
    induction l with
    | nil => intro a; exact Nat.le_refl _
    | cons x l ih =>
      intro a
      have h1 := ih (insT x a)
      have h2 := insT_len x a
      simp only [List.foldl_cons, List.length_cons]
      omega
  have := key l []
  simpa [uniqT] using this
theorem TieOk.len {m : Int} {t : List Int} (h : TieOk m t) : t.length = 3 := by
  obtain ⟨_, _, _, rfl, _⟩ := h
  rfl
theorem tupsI_tups : ∀ ts : List (List Int), tupsI (ts.map tupI) = some ts
  | [] => rfl
  | t :: ts => by
    show (intsD (t.map D.int)).bind (fun k => (tupsI (ts.map tupI)).map (k :: ·)) = _
    rw [intsD_ints, tupsI_tups ts]
    rfl
theorem sset_tups {A : AH} {n : Nat} {m : Int} {fs : List (List Int)} (hn : A[n]? = some (.lst (fs.map tupI))) (hl : fs.length < 64) (hf : ∀ t ∈ fs, TieOk m t) : ssetD (.ref n) A = some (.ref A.length, A ++ [.lst ((uniqT fs).map tupI)]) := by
  unfold ssetD
  simp only [seq_ref, lst_ref, hn, Option.bind_some, seqO_lst, lstO_lst, tupsI_tups]
  cases fs with
  | nil => rfl
  | cons t r =>
    have e : intsD ((t :: r).map tupI) = none := rfl
    rw [e]
    have al : alikeT (t :: r) = true := by
      have ht := hf t (by simp)
      simp only [alikeT, ht.len, Bool.and_eq_true, decide_eq_true_eq]
      refine ⟨by omega, List.all_eq_true.mpr fun x hx => ?_⟩
      have hx' := hf x hx
      rw [Bool.and_eq_true, decide_eq_true_eq]
      exact ⟨hx'.len, List.all_eq_true.mpr fun i hi => decide_eq_true (hx'.nn i hi)⟩
    simp only [hl, al, decide_true, Bool.and_self, if_true]
    rfl
end Kin
end
section
set_option linter.all false
set_option maxRecDepth 100000
namespace Kin
open PySem
local macro_rules | `(tactic| walk_at "go") => `(tactic| try simp only [wps_nil, wps_cons, wps_ex, wps_asg, wps_par, wps_ret, wps_cond, wps_loop, wps_brk, wps_cont, wps_pass, wp_ret, wp_slot, wp_cst, wp_tup, wp_lst, wp_bin, wp_neg, wp_cmp, wp_chain, wp_and, wp_or, wp_not, wp_ifx, wp_idx, wp_slc, wp_rev, wp_call, wp_meth, wp_blt, wp_listR, wp_isi, wp_new, wp_attr, wp_mcall, wp_isc, wp_sset, wps_sta, wp_of1m, cmpE_int, cmpE_str, cmpE_bl, cmpE_tup, cmpE_non, cmpE_ne, cmpE_lt, cmpE_le, cmpE_gt, cmpE_ge, cmpE_isn, cmpE_notn, cmpE_inn, cmpE_nin, wp_star, wp_comp, wp_dct, wp_nil, wp_cons, wp_knil, wp_kcons, wp_onone, wp_osome, wp_iseq, wp_irng, wp_ienum, wp_izip, wp_tslot, wp_ttup, wp_titem, wp_tnil, wp_tcons, wp_fnil, wp_fone, wp_ok, wp_of1, wp_of, wp_of1n, wp_ofn, wp_onB, wp_onBn, wp_calm, wp_bind, wp_ite, wp_exc, wp_bad,
  getL_0, getL_s, bin_add, bin_sub, bin_mul, bin_fdiv, bin_mod, bin_tup, bin_str, cmp_lt, cmp_le, cmp_gt, cmp_ge, cmp_eqI, cmp_eqS, cmp_neI, cmp_neS, cmp_eqB, in_str2, in_str3, truth_bl, truth_int, truth_tup, truth_non, neg_int, intOf_int, tupOf_tup, idx_tup, idx_ref, idxO_lst, atI_0, atI_1, atI_2, atI_3, atI_4, cut_from, cut_to, List.drop_succ_cons, List.drop_zero, List.take_succ_cons, List.take_zero, List.drop_nil, List.take_nil, Int.reduceLE, Int.reduceBEq, blsD_map, blsD_cons, blsD_nil, set_ref, setO_cons, isList_ref, Option.isSome_some, Int.reduceLE, Int.reduceLT, Int.cast_ofNat_Int, Int.reduceToNat, List.getElem?_cons_succ, List.getElem?_cons_zero, Int.reduceNeg, Int.reduceAdd, at_new, and_self, or_true, true_or, true_and, and_true, Int.reducePow, Int.reduceSub, Int.reduceMul, seq_ref, seqO_lst, seqO_frz, lst_ref, lstO_lst, len_ref, list_ref, lisO_lst, append_ref, enWk_tup, enWk_ref, split_str, base_join, base_split, str_int, str_str, int_str, len_str, seqWk_str, extend_tup', extend_ref, base_append, base_extend, base_get, get2_ref, dctO_dct, keyD_int, keyD_str,  tuple_ref, all_ref, any_ref, add_ref, slc_ref, len_tup, list_tup, int_int, int_bl, abs_int, max_int, max_ref, min_int, slc_tup, rev_tup, seqWk_tup, zipWk_tup, rng_one, rng_two, rng_three, wkEnum_items, Option.map_some, Option.bind_some, setAll,
  List.set_cons_zero, List.set_cons_succ, List.set_set, List.foldl_nil, List.foldl_cons, List.length_cons, List.length_nil, List.map_cons, List.map_nil, List.cons_append, List.nil_append, List.replicate_succ, List.replicate_zero, Nat.reduceAdd, Nat.reduceSub, Bool.not_true, Bool.not_false, if_true, if_false, Bool.false_eq_true, decide_eq_true_eq, Nat.reduceLeDiff, lim_lit, wipe, isiD_tup, isiD_str, isiD_int, isiD_bl, isiD_non, isi_tup, isi_str, isi_int, isi_bool, Bool.and_true, Bool.and_false, Bool.true_and, Bool.false_and, tpB_tup, tpB_str, tpB_bl, tpB_int, tpB_non, tpB_ref, isStr_tup, isStr_str, isStr_bl, isStr_int, isStr_non, isStr_ref, isBl_tup, isBl_str, isBl_bl, isBl_int, isBl_non, isBl_ref, isInt_tup, isInt_str, isInt_bl, isInt_int, isInt_non, isInt_ref])
local macro_rules | `(tactic| walk_at "goh") => `(tactic| try simp only [*, Int.reduceBEq, wps_nil, wps_cons, wps_ex, wps_asg, wps_par, wps_ret, wps_cond, wps_loop, wps_brk, wps_cont, wps_pass, wp_ret, wp_slot, wp_cst, wp_tup, wp_lst, wp_bin, wp_neg, wp_cmp, wp_chain, wp_and, wp_or, wp_not, wp_ifx, wp_idx, wp_slc, wp_rev, wp_call, wp_meth, wp_blt, wp_listR, wp_isi, wp_new, wp_attr, wp_mcall, wp_isc, wp_sset, wps_sta, wp_of1m, cmpE_int, cmpE_str, cmpE_bl, cmpE_tup, cmpE_non, cmpE_ne, cmpE_lt, cmpE_le, cmpE_gt, cmpE_ge, cmpE_isn, cmpE_notn, cmpE_inn, cmpE_nin, wp_star, wp_comp, wp_dct, wp_nil, wp_cons, wp_knil, wp_kcons, wp_onone, wp_osome, wp_iseq, wp_irng, wp_ienum, wp_izip, wp_tslot, wp_ttup, wp_titem, wp_tnil, wp_tcons, wp_fnil, wp_fone, wp_ok, wp_of1, wp_of, wp_of1n, wp_ofn, wp_onB, wp_onBn, wp_calm, wp_bind, wp_ite, wp_exc, wp_bad,
  getL_0, getL_s, bin_add, bin_sub, bin_mul, bin_fdiv, bin_mod, bin_tup, bin_str, cmp_lt, cmp_le, cmp_gt, cmp_ge, cmp_eqI, cmp_eqS, cmp_neI, cmp_neS, cmp_eqB, in_str2, in_str3, truth_bl, truth_int, truth_tup, truth_non, neg_int, intOf_int, tupOf_tup, idx_tup, idx_ref, idxO_lst, atI_0, atI_1, atI_2, atI_3, atI_4, cut_from, cut_to, List.drop_succ_cons, List.drop_zero, List.take_succ_cons, List.take_zero, List.drop_nil, List.take_nil, Int.reduceLE, blsD_map, blsD_cons, blsD_nil, set_ref, setO_cons, isList_ref, Option.isSome_some, Int.reduceLE, Int.reduceLT, Int.cast_ofNat_Int, Int.reduceToNat, List.getElem?_cons_succ, List.getElem?_cons_zero, Int.reduceNeg, Int.reduceAdd, at_new, and_self, or_true, true_or, true_and, and_true, Int.reducePow, Int.reduceSub, Int.reduceMul, seq_ref, seqO_lst, seqO_frz, lst_ref, lstO_lst, len_ref, list_ref, lisO_lst, append_ref, enWk_tup, enWk_ref, split_str, base_join, base_split, str_int, str_str, int_str, len_str, seqWk_str, extend_tup', extend_ref, base_append, base_extend, base_get, get2_ref, dctO_dct, keyD_int, keyD_str,  tuple_ref, all_ref, any_ref, add_ref, slc_ref, len_tup, list_tup, int_int, int_bl, abs_int, max_int, max_ref, min_int, slc_tup, rev_tup, seqWk_tup, zipWk_tup, rng_one, rng_two, rng_three, wkEnum_items, Option.map_some, Option.bind_some, setAll,
  List.set_cons_zero, List.set_cons_succ, List.set_set, List.foldl_nil, List.foldl_cons, List.length_cons, List.length_nil, List.map_cons, List.map_nil, List.cons_append, List.nil_append, List.replicate_succ, List.replicate_zero, Nat.reduceAdd, Nat.reduceSub, Bool.not_true, Bool.not_false, if_true, if_false, Bool.false_eq_true, decide_eq_true_eq, Nat.reduceLeDiff, lim_lit, wipe, isiD_tup, isiD_str, isiD_int, isiD_bl, isiD_non, isi_tup, isi_str, isi_int, isi_bool, Bool.and_true, Bool.and_false, Bool.true_and, Bool.false_and, tpB_tup, tpB_str, tpB_bl, tpB_int, tpB_non, tpB_ref, isStr_tup, isStr_str, isStr_bl, isStr_int, isStr_non, isStr_ref, isBl_tup, isBl_str, isBl_bl, isBl_int, isBl_non, isBl_ref, isInt_tup, isInt_str, isInt_bl, isInt_int, isInt_non, isInt_ref])
local macro_rules | `(tactic| walk_at "dr") => `(tactic| (refine draw_ok (by assumption) (by assumption) (by first | assumption | omega | decide) (by first | omega | decide) ?_; intro r A' r0 r1 hp f))
local macro_rules | `(tactic| walk_at "an") => `(tactic| (refine any_ok (by assumption) (by assumption) (Pot.snoc (by assumption) _) at_new (Nat.ne_of_gt (Pot.lt (by assumption))) (by simp) (by simp) ?_; intro d A' hm hp f))
local macro_rules | `(tactic| walk_at "fr") => `(tactic| repeat first | exact Fr.refl _ _ | assumption | refine Fr.snoc ?_ _ | refine Fr.trans ?_ (by assumption) | refine Fr.trans ?_ (Fr.nil (by assumption)))
local macro_rules | `(tactic| walk_at "g1") => `(tactic| try simp only [*, wps_nil, wps_ex, wps_asg, wps_par, wps_ret, wps_cond, wps_loop, wps_brk, wps_cont, wps_pass, wp_ret, wp_slot, wp_cst, wp_tup, wp_lst, wp_bin, wp_neg, wp_cmp, wp_chain, wp_and, wp_or, wp_not, wp_ifx, wp_idx, wp_slc, wp_rev, wp_call, wp_meth, wp_blt, wp_listR, wp_isi, wp_new, wp_attr, wp_mcall, wp_isc, wp_sset, wps_sta, wp_of1m, cmpE_int, cmpE_str, cmpE_bl, cmpE_tup, cmpE_non, cmpE_ne, cmpE_lt, cmpE_le, cmpE_gt, cmpE_ge, cmpE_isn, cmpE_notn, cmpE_inn, cmpE_nin, wp_star, wp_comp, wp_dct, wp_nil, wp_cons, wp_knil, wp_kcons, wp_onone, wp_osome, wp_iseq, wp_irng, wp_ienum, wp_izip, wp_tslot, wp_ttup, wp_titem, wp_tnil, wp_tcons, wp_fnil, wp_fone, wp_ok, wp_of1, wp_of, wp_of1n, wp_ofn, wp_onB, wp_onBn, wp_calm, wp_bind, wp_ite, wp_exc, wp_bad,
  getL_0, getL_s, bin_add, bin_sub, bin_mul, bin_fdiv, bin_mod, bin_tup, bin_str, cmp_lt, cmp_le, cmp_gt, cmp_ge, cmp_eqI, cmp_eqS, cmp_neI, cmp_neS, cmp_eqB, in_str2, in_str3, truth_bl, truth_int, truth_tup, truth_non, neg_int, intOf_int, tupOf_tup, idx_tup, idx_ref, idxO_lst, atI_0, atI_1, atI_2, atI_3, atI_4, cut_from, cut_to, List.drop_succ_cons, List.drop_zero, List.take_succ_cons, List.take_zero, List.drop_nil, List.take_nil, Int.reduceLE, Int.reduceBEq, blsD_map, blsD_cons, blsD_nil, set_ref, setO_cons, isList_ref, Option.isSome_some, Int.reduceLE, Int.reduceLT, Int.cast_ofNat_Int, Int.reduceToNat, List.getElem?_cons_succ, List.getElem?_cons_zero, Int.reduceNeg, Int.reduceAdd, at_new, and_self, or_true, true_or, true_and, and_true, Int.reducePow, Int.reduceSub, Int.reduceMul, seq_ref, seqO_lst, seqO_frz, lst_ref, lstO_lst, len_ref, list_ref, lisO_lst, append_ref, enWk_tup, enWk_ref, split_str, base_join, base_split, str_int, str_str, int_str, len_str, seqWk_str, extend_tup', extend_ref, base_append, base_extend, base_get, get2_ref, dctO_dct, keyD_int, keyD_str,  tuple_ref, all_ref, any_ref, add_ref, slc_ref, len_tup, list_tup, int_int, int_bl, abs_int, max_int, max_ref, min_int, slc_tup, rev_tup, seqWk_tup, zipWk_tup, rng_one, rng_two, rng_three, wkEnum_items, Option.map_some, Option.bind_some, setAll,
  List.set_cons_zero, List.set_cons_succ, List.set_set, List.foldl_nil, List.foldl_cons, List.length_cons, List.length_nil, List.map_cons, List.map_nil, List.cons_append, List.nil_append, List.replicate_succ, List.replicate_zero, Nat.reduceAdd, Nat.reduceSub, Bool.not_true, Bool.not_false, if_true, if_false, Bool.false_eq_true, decide_eq_true_eq, Nat.reduceLeDiff, lim_lit, wipe, isiD_tup, isiD_str, isiD_int, isiD_bl, isiD_non, isi_tup, isi_str, isi_int, isi_bool, Bool.and_true, Bool.and_false, Bool.true_and, Bool.false_and, tpB_tup, tpB_str, tpB_bl, tpB_int, tpB_non, tpB_ref, isStr_tup, isStr_str, isStr_bl, isStr_int, isStr_non, isStr_ref, isBl_tup, isBl_str, isBl_bl, isBl_int, isBl_non, isBl_ref, isInt_tup, isInt_str, isInt_bl, isInt_int, isInt_non, isInt_ref])
local macro_rules | `(tactic| walk_at "go1") => `(tactic| try simp only [wps_nil, wps_ex, wps_asg, wps_par, wps_ret, wps_cond, wps_loop, wps_brk, wps_cont, wps_pass, wp_ret, wp_slot, wp_cst, wp_tup, wp_lst, wp_bin, wp_neg, wp_cmp, wp_chain, wp_and, wp_or, wp_not, wp_ifx, wp_idx, wp_slc, wp_rev, wp_call, wp_meth, wp_blt, wp_listR, wp_isi, wp_new, wp_attr, wp_mcall, wp_isc, wp_sset, wps_sta, wp_of1m, cmpE_int, cmpE_str, cmpE_bl, cmpE_tup, cmpE_non, cmpE_ne, cmpE_lt, cmpE_le, cmpE_gt, cmpE_ge, cmpE_isn, cmpE_notn, cmpE_inn, cmpE_nin, wp_star, wp_comp, wp_dct, wp_nil, wp_cons, wp_knil, wp_kcons, wp_onone, wp_osome, wp_iseq, wp_irng, wp_ienum, wp_izip, wp_tslot, wp_ttup, wp_titem, wp_tnil, wp_tcons, wp_fnil, wp_fone, wp_ok, wp_of1, wp_of, wp_of1n, wp_ofn, wp_onB, wp_onBn, wp_calm, wp_bind, wp_ite, wp_exc, wp_bad,
  getL_0, getL_s, bin_add, bin_sub, bin_mul, bin_fdiv, bin_mod, bin_tup, bin_str, cmp_lt, cmp_le, cmp_gt, cmp_ge, cmp_eqI, cmp_eqS, cmp_neI, cmp_neS, cmp_eqB, in_str2, in_str3, truth_bl, truth_int, truth_tup, truth_non, neg_int, intOf_int, tupOf_tup, idx_tup, idx_ref, idxO_lst, atI_0, atI_1, atI_2, atI_3, atI_4, cut_from, cut_to, List.drop_succ_cons, List.drop_zero, List.take_succ_cons, List.take_zero, List.drop_nil, List.take_nil, Int.reduceLE, Int.reduceBEq, blsD_map, blsD_cons, blsD_nil, set_ref, setO_cons, isList_ref, Option.isSome_some, Int.reduceLE, Int.reduceLT, Int.cast_ofNat_Int, Int.reduceToNat, List.getElem?_cons_succ, List.getElem?_cons_zero, Int.reduceNeg, Int.reduceAdd, at_new, and_self, or_true, true_or, true_and, and_true, Int.reducePow, Int.reduceSub, Int.reduceMul, seq_ref, seqO_lst, seqO_frz, lst_ref, lstO_lst, len_ref, list_ref, lisO_lst, append_ref, enWk_tup, enWk_ref, split_str, base_join, base_split, str_int, str_str, int_str, len_str, seqWk_str, extend_tup', extend_ref, base_append, base_extend, base_get, get2_ref, dctO_dct, keyD_int, keyD_str,  tuple_ref, all_ref, any_ref, add_ref, slc_ref, len_tup, list_tup, int_int, int_bl, abs_int, max_int, max_ref, min_int, slc_tup, rev_tup, seqWk_tup, zipWk_tup, rng_one, rng_two, rng_three, wkEnum_items, Option.map_some, Option.bind_some, setAll,
  List.set_cons_zero, List.set_cons_succ, List.set_set, List.foldl_nil, List.foldl_cons, List.length_cons, List.length_nil, List.map_cons, List.map_nil, List.cons_append, List.nil_append, List.replicate_succ, List.replicate_zero, Nat.reduceAdd, Nat.reduceSub, Bool.not_true, Bool.not_false, if_true, if_false, Bool.false_eq_true, decide_eq_true_eq, Nat.reduceLeDiff, lim_lit, wipe, isiD_tup, isiD_str, isiD_int, isiD_bl, isiD_non, isi_tup, isi_str, isi_int, isi_bool, Bool.and_true, Bool.and_false, Bool.true_and, Bool.false_and, tpB_tup, tpB_str, tpB_bl, tpB_int, tpB_non, tpB_ref, isStr_tup, isStr_str, isStr_bl, isStr_int, isStr_non, isStr_ref, isBl_tup, isBl_str, isBl_bl, isBl_int, isBl_non, isBl_ref, isInt_tup, isInt_str, isInt_bl, isInt_int, isInt_non, isInt_ref])
section
variable {P : CProg} {k p c : Nat} {A : AH} {Q : D → AH → Prop} {E : Ex → AH → Prop}
theorem Fr.hide {A A1 B : AH} {S : List Nat} {n : Nat} (h : Fr S A A1) (g : Fr (n :: S) A1 B) (hn : A.length ≤ n) : Fr S A B :=
  ⟨Nat.le_trans h.le g.le, fun j hj hS => by
    rw [g.at_ j (Nat.lt_of_lt_of_le hj h.le) (by simp only [List.mem_cons, not_or]; exact ⟨by omega, hS⟩)]
    exact h.at_ j hj hS⟩
/-- numbers drawn one behind the other -/
theorem comp_draws {ds : List D} {b : Int} {f : D → List D → AH → Res (List D)} {Q : List D → AH → Prop} (hp : PotC c p A) (hl : ds.length < fuel)
    (step : ∀ d acc A', acc.length < 16777216 → PotC c p A' → Wp (f d acc A') (fun acc' A'' => ∃ r, acc' = acc ++ [.int r] ∧ (0 ≤ r ∧ r < b) ∧ PotC c p A'' ∧ Fr [p] A' A'') E)
    (go : ∀ (hs : List Int) A', hs.length = ds.length → (∀ h ∈ hs, 0 ≤ h ∧ h < b) → PotC c p A' → Fr [p] A A' → Q (hs.map .int) A') : Wp (overW (wkItems ds) f fuel 0 [] A) Q E := by
  refine comp_items (fun i acc A' => ∃ hs : List Int, acc = hs.map D.int ∧ hs.length = i ∧ (∀ h ∈ hs, 0 ≤ h ∧ h < b) ∧ PotC c p A' ∧ Fr [p] A A') hl ⟨[], rfl, rfl, by simp, hp, Fr.refl _ _⟩ (fun i d acc A' hd ⟨hs, e, hn, hb, hp, hf⟩ => ?_) fun acc A' ⟨hs, e, hn, hb, hp, hf⟩ => ?_
  · have hi := (List.getElem?_eq_some_iff.mp hd).1
    refine (step d acc A' (by rw [e, List.length_map, hn]; unfold fuel at hl; omega) hp).mono (fun acc' A'' ⟨r, e', hr, hp', hf'⟩ => ⟨hs ++ [r], by rw [e', e, List.map_append]; rfl, by rw [List.length_append, hn]; rfl, fun x hx => ?_, hp', hf.trans hf'⟩) fun _ _ e => e
    rcases List.mem_append.mp hx with hx | hx
    · exact hb x hx
    · rw [List.mem_singleton.mp hx]; exact hr
  · rw [e]
    exact go hs A' hn hb hp hf
theorem parts14 (h : Is69 P) {a b : Int} (ha : 1 ≤ a ∧ a ≤ 40) (hb : 0 ≤ b ∧ b ≤ 60) (hp : PotC c p A) (go : ∀ m hs ts A', Ok3 m hs ts → PotC c p A' → Fr [p] A A' → Q (parD m hs ts) A') :
    Wp ((fns P (k + 2)).call 14 [.ref p, .int a, .int 4, .int 10, .int b] A) Q E := by
  rw [wp_def h.d14 rfl]; unfold b69_14
  rw [wps_cons]
  walk_at "go1"
  refine drawC_ok h.d11 hp (by omega) (by omega) fun r A1 r0 r1 hp1 f1 => ?_
  walk_at "go1"
  rw [wps_cons]
  walk_at "go1"
  have hp2 := hp1.fr ((Fr.refl _ _).snoc (AO.lst []))
  have al := f1.le
  have ln := hp1.lt
  generalize eA2 : A1 ++ [AO.lst []] = A2 at hp2 ⊢
  have h2 : A2[A1.length]? = some (.lst []) := by rw [← eA2]; exact at_new
  have f2 : Fr [p] A A2 := by rw [← eA2]; exact f1.snoc _
  generalize A1.length = n at h2 al ln ⊢
  have m1 : 1 ≤ 1 + r := by omega
  have m2 : 1 + r ≤ 40 := by omega
  generalize 1 + r = m at m1 m2 ⊢
  rw [wps_cons]
  walk_at "go1"
  refine drawC_ok h.d11 hp2 (by omega) (by omega) fun q A3 q0 q1 hp3 f3 => ?_
  walk_at "go1"
  rw [okR_of (by omega) (by omega) (by omega) (by omega)]
  simp only [if_true, wp_of1]
  have h3 := f3.get h2 (by simp; omega)
  refine loop_items (fun i L B => ∃ fs s, L = [some (.ref p), some (.int a), some (.int 4), some (.int 10), some (.int b), some (.int m), some (.ref n), s, none] ∧ B[n]? = some (.lst (fs.map tupI)) ∧ fs.length = i ∧ (∀ t ∈ fs, TieOk m t) ∧ PotC c p B ∧ Fr [n, p] A3 B) (by rw [rngItems_len]; simp [fuel]; omega)
    ⟨[], none, rfl, h3, rfl, by simp, hp3, Fr.refl _ _⟩ (fun i d L B hd ⟨fs, s, hL, hn, hl, hf, hpB, fB⟩ => ?_) fun L B ⟨fs, s, hL, hn, hl, hf, hpB, fB⟩ => ?_
  · subst hL
    have hi := (List.getElem?_eq_some_iff.mp hd).1
    rw [rngItems_len] at hi
    simp only [wp_ofE]
    walk_at "go1"
    rw [wps_cons]
    walk_at "go1"
    rw [hn]
    walk_at "go1"
    refine drawC_ok h.d11 hpB (by omega) (by omega) fun x B1 x0 x1 hp4 f4 => ?_
    walk_at "go1"
    refine drawC_ok h.d11 hp4 (by omega) (by omega) fun y B2 y0 y1 hp5 f5 => ?_
    walk_at "go1"
    refine drawC_ok h.d11 hp5 (by omega) (by omega) fun z B3 z0 z1 hp6 f6 => ?_
    walk_at "go1"
    have f46 := (f4.trans f5).trans f6
    have hn3 := f46.get hn (by simp; omega)
    rw [hn3]
    simp only [Option.bind_some, lstO_lst, List.length_map, hl]
    rw [if_pos (by omega)]
    walk_at "go1"
    refine ⟨fs ++ [[x, y, z]], _, rfl, ?_, by rw [List.length_append, hl]; rfl, fun t ht => ?_, hp6.set (by omega) (by omega), ?_⟩
    · rw [set_self (lt_of_at hn3), List.map_append]
      rfl
    · rcases List.mem_append.mp ht with ht | ht
      · exact hf t ht
      · rw [List.mem_singleton.mp ht]
        exact ⟨x, y, z, rfl, ⟨x0, x1⟩, ⟨y0, y1⟩, z0, z1⟩
    · exact (fB.trans (f46.sub (by simp))).set _ (by simp)
  · subst hL
    dsimp only
    rw [rngItems_len] at hl
    have fAB : Fr [p] A B := Fr.hide (f2.trans f3) fB al
    rw [wps_cons]
    walk_at "go1"
    rw [okR_of (by omega) (by omega) (by omega) (by omega)]
    simp only [if_true, wp_of1]
    refine comp_draws (b := 10) hpB (by rw [rngItems_len]; simp [fuel]; omega) (fun d acc A' hacc hpA => ?_) fun hs B2 hl2 hb2 hpB2 f2B => ?_
    · walk_at "go1"
      refine drawC_ok h.d11 hpA (by omega) (by omega) fun x B1 x0 x1 hp4 f4 => ?_
      simp only [hacc, if_true, wp_ok]
      exact ⟨x, rfl, ⟨x0, x1⟩, hp4, f4⟩
    · walk_at "go1"
      have h4 := at_snoc (o' := AO.lst (hs.map D.int)) (f2B.get hn (by simp; omega))
      rw [sset_tups h4 (by omega) hf]
      walk_at "go1"
      rw [rngItems_len] at hl2
      refine go m hs (uniqT fs) _ ⟨m1, m2, by rw [hl2]; omega, hb2, by have := uniqT_le fs; omega, fun t ht => hf t (mem_uniqT.mp ht), uniqT_asc fs⟩ ?_ ?_
      · exact hpB2.fr (((Fr.refl _ _).snoc _).snoc _)
      · exact ((fAB.trans f2B).snoc _).snoc _
end
end Kin
end
section
set_option linter.all false
set_option maxRecDepth 100000
namespace Kin
open PySem
local macro_rules | `(tactic| walk_at "go") => `(tactic| try simp only [wps_nil, wps_cons, wps_ex, wps_asg, wps_par, wps_ret, wps_cond, wps_loop, wps_brk, wps_cont, wps_pass, wp_ret, wp_slot, wp_cst, wp_tup, wp_lst, wp_bin, wp_neg, wp_cmp, wp_chain, wp_and, wp_or, wp_not, wp_ifx, wp_idx, wp_slc, wp_rev, wp_call, wp_meth, wp_blt, wp_listR, wp_isi, wp_new, wp_attr, wp_mcall, wp_isc, wp_sset, wps_sta, wp_of1m, cmpE_int, cmpE_str, cmpE_bl, cmpE_tup, cmpE_non, cmpE_ne, cmpE_lt, cmpE_le, cmpE_gt, cmpE_ge, cmpE_isn, cmpE_notn, cmpE_inn, cmpE_nin, wp_star, wp_comp, wp_dct, wp_nil, wp_cons, wp_knil, wp_kcons, wp_onone, wp_osome, wp_iseq, wp_irng, wp_ienum, wp_izip, wp_tslot, wp_ttup, wp_titem, wp_tnil, wp_tcons, wp_fnil, wp_fone, wp_ok, wp_of1, wp_of, wp_of1n, wp_ofn, wp_onB, wp_onBn, wp_calm, wp_bind, wp_ite, wp_exc, wp_bad,
  getL_0, getL_s, bin_add, bin_sub, bin_mul, bin_fdiv, bin_mod, bin_tup, bin_str, cmp_lt, cmp_le, cmp_gt, cmp_ge, cmp_eqI, cmp_eqS, cmp_neI, cmp_neS, cmp_eqB, in_str2, in_str3, truth_bl, truth_int, truth_tup, truth_non, neg_int, intOf_int, tupOf_tup, idx_tup, idx_ref, idxO_lst, atI_0, atI_1, atI_2, atI_3, atI_4, cut_from, cut_to, List.drop_succ_cons, List.drop_zero, List.take_succ_cons, List.take_zero, List.drop_nil, List.take_nil, Int.reduceLE, Int.reduceBEq, blsD_map, blsD_cons, blsD_nil, set_ref, setO_cons, isList_ref, Option.isSome_some, Int.reduceLE, Int.reduceLT, Int.cast_ofNat_Int, Int.reduceToNat, List.getElem?_cons_succ, List.getElem?_cons_zero, Int.reduceNeg, Int.reduceAdd, at_new, and_self, or_true, true_or, true_and, and_true, Int.reducePow, Int.reduceSub, Int.reduceMul, seq_ref, seqO_lst, seqO_frz, lst_ref, lstO_lst, len_ref, list_ref, lisO_lst, append_ref, enWk_tup, enWk_ref, split_str, base_join, base_split, str_int, str_str, int_str, len_str, seqWk_str, extend_tup', extend_ref, base_append, base_extend, base_get, get2_ref, dctO_dct, keyD_int, keyD_str,  tuple_ref, all_ref, any_ref, add_ref, slc_ref, len_tup, list_tup, int_int, int_bl, abs_int, max_int, max_ref, min_int, slc_tup, rev_tup, seqWk_tup, zipWk_tup, rng_one, rng_two, rng_three, wkEnum_items, Option.map_some, Option.bind_some, setAll,
  List.set_cons_zero, List.set_cons_succ, List.set_set, List.foldl_nil, List.foldl_cons, List.length_cons, List.length_nil, List.map_cons, List.map_nil, List.cons_append, List.nil_append, List.replicate_succ, List.replicate_zero, Nat.reduceAdd, Nat.reduceSub, Bool.not_true, Bool.not_false, if_true, if_false, Bool.false_eq_true, decide_eq_true_eq, Nat.reduceLeDiff, lim_lit, wipe, isiD_tup, isiD_str, isiD_int, isiD_bl, isiD_non, isi_tup, isi_str, isi_int, isi_bool, Bool.and_true, Bool.and_false, Bool.true_and, Bool.false_and, tpB_tup, tpB_str, tpB_bl, tpB_int, tpB_non, tpB_ref, isStr_tup, isStr_str, isStr_bl, isStr_int, isStr_non, isStr_ref, isBl_tup, isBl_str, isBl_bl, isBl_int, isBl_non, isBl_ref, isInt_tup, isInt_str, isInt_bl, isInt_int, isInt_non, isInt_ref])
local macro_rules | `(tactic| walk_at "goh") => `(tactic| try simp only [*, Int.reduceBEq, wps_nil, wps_cons, wps_ex, wps_asg, wps_par, wps_ret, wps_cond, wps_loop, wps_brk, wps_cont, wps_pass, wp_ret, wp_slot, wp_cst, wp_tup, wp_lst, wp_bin, wp_neg, wp_cmp, wp_chain, wp_and, wp_or, wp_not, wp_ifx, wp_idx, wp_slc, wp_rev, wp_call, wp_meth, wp_blt, wp_listR, wp_isi, wp_new, wp_attr, wp_mcall, wp_isc, wp_sset, wps_sta, wp_of1m, cmpE_int, cmpE_str, cmpE_bl, cmpE_tup, cmpE_non, cmpE_ne, cmpE_lt, cmpE_le, cmpE_gt, cmpE_ge, cmpE_isn, cmpE_notn, cmpE_inn, cmpE_nin, wp_star, wp_comp, wp_dct, wp_nil, wp_cons, wp_knil, wp_kcons, wp_onone, wp_osome, wp_iseq, wp_irng, wp_ienum, wp_izip, wp_tslot, wp_ttup, wp_titem, wp_tnil, wp_tcons, wp_fnil, wp_fone, wp_ok, wp_of1, wp_of, wp_of1n, wp_ofn, wp_onB, wp_onBn, wp_calm, wp_bind, wp_ite, wp_exc, wp_bad,
  getL_0, getL_s, bin_add, bin_sub, bin_mul, bin_fdiv, bin_mod, bin_tup, bin_str, cmp_lt, cmp_le, cmp_gt, cmp_ge, cmp_eqI, cmp_eqS, cmp_neI, cmp_neS, cmp_eqB, in_str2, in_str3, truth_bl, truth_int, truth_tup, truth_non, neg_int, intOf_int, tupOf_tup, idx_tup, idx_ref, idxO_lst, atI_0, atI_1, atI_2, atI_3, atI_4, cut_from, cut_to, List.drop_succ_cons, List.drop_zero, List.take_succ_cons, List.take_zero, List.drop_nil, List.take_nil, Int.reduceLE, blsD_map, blsD_cons, blsD_nil, set_ref, setO_cons, isList_ref, Option.isSome_some, Int.reduceLE, Int.reduceLT, Int.cast_ofNat_Int, Int.reduceToNat, List.getElem?_cons_succ, List.getElem?_cons_zero, Int.reduceNeg, Int.reduceAdd, at_new, and_self, or_true, true_or, true_and, and_true, Int.reducePow, Int.reduceSub, Int.reduceMul, seq_ref, seqO_lst, seqO_frz, lst_ref, lstO_lst, len_ref, list_ref, lisO_lst, append_ref, enWk_tup, enWk_ref, split_str, base_join, base_split, str_int, str_str, int_str, len_str, seqWk_str, extend_tup', extend_ref, base_append, base_extend, base_get, get2_ref, dctO_dct, keyD_int, keyD_str,  tuple_ref, all_ref, any_ref, add_ref, slc_ref, len_tup, list_tup, int_int, int_bl, abs_int, max_int, max_ref, min_int, slc_tup, rev_tup, seqWk_tup, zipWk_tup, rng_one, rng_two, rng_three, wkEnum_items, Option.map_some, Option.bind_some, setAll,
  List.set_cons_zero, List.set_cons_succ, List.set_set, List.foldl_nil, List.foldl_cons, List.length_cons, List.length_nil, List.map_cons, List.map_nil, List.cons_append, List.nil_append, List.replicate_succ, List.replicate_zero, Nat.reduceAdd, Nat.reduceSub, Bool.not_true, Bool.not_false, if_true, if_false, Bool.false_eq_true, decide_eq_true_eq, Nat.reduceLeDiff, lim_lit, wipe, isiD_tup, isiD_str, isiD_int, isiD_bl, isiD_non, isi_tup, isi_str, isi_int, isi_bool, Bool.and_true, Bool.and_false, Bool.true_and, Bool.false_and, tpB_tup, tpB_str, tpB_bl, tpB_int, tpB_non, tpB_ref, isStr_tup, isStr_str, isStr_bl, isStr_int, isStr_non, isStr_ref, isBl_tup, isBl_str, isBl_bl, isBl_int, isBl_non, isBl_ref, isInt_tup, isInt_str, isInt_bl, isInt_int, isInt_non, isInt_ref])
local macro_rules | `(tactic| walk_at "dr") => `(tactic| (refine draw_ok (by assumption) (by assumption) (by first | assumption | omega | decide) (by first | omega | decide) ?_; intro r A' r0 r1 hp f))
local macro_rules | `(tactic| walk_at "an") => `(tactic| (refine any_ok (by assumption) (by assumption) (Pot.snoc (by assumption) _) at_new (Nat.ne_of_gt (Pot.lt (by assumption))) (by simp) (by simp) ?_; intro d A' hm hp f))
local macro_rules | `(tactic| walk_at "fr") => `(tactic| repeat first | exact Fr.refl _ _ | assumption | refine Fr.snoc ?_ _ | refine Fr.trans ?_ (by assumption) | refine Fr.trans ?_ (Fr.nil (by assumption)))
local macro_rules | `(tactic| walk_at "g1") => `(tactic| try simp only [*, wps_nil, wps_ex, wps_asg, wps_par, wps_ret, wps_cond, wps_loop, wps_brk, wps_cont, wps_pass, wp_ret, wp_slot, wp_cst, wp_tup, wp_lst, wp_bin, wp_neg, wp_cmp, wp_chain, wp_and, wp_or, wp_not, wp_ifx, wp_idx, wp_slc, wp_rev, wp_call, wp_meth, wp_blt, wp_listR, wp_isi, wp_new, wp_attr, wp_mcall, wp_isc, wp_sset, wps_sta, wp_of1m, cmpE_int, cmpE_str, cmpE_bl, cmpE_tup, cmpE_non, cmpE_ne, cmpE_lt, cmpE_le, cmpE_gt, cmpE_ge, cmpE_isn, cmpE_notn, cmpE_inn, cmpE_nin, wp_star, wp_comp, wp_dct, wp_nil, wp_cons, wp_knil, wp_kcons, wp_onone, wp_osome, wp_iseq, wp_irng, wp_ienum, wp_izip, wp_tslot, wp_ttup, wp_titem, wp_tnil, wp_tcons, wp_fnil, wp_fone, wp_ok, wp_of1, wp_of, wp_of1n, wp_ofn, wp_onB, wp_onBn, wp_calm, wp_bind, wp_ite, wp_exc, wp_bad,
  getL_0, getL_s, bin_add, bin_sub, bin_mul, bin_fdiv, bin_mod, bin_tup, bin_str, cmp_lt, cmp_le, cmp_gt, cmp_ge, cmp_eqI, cmp_eqS, cmp_neI, cmp_neS, cmp_eqB, in_str2, in_str3, truth_bl, truth_int, truth_tup, truth_non, neg_int, intOf_int, tupOf_tup, idx_tup, idx_ref, idxO_lst, atI_0, atI_1, atI_2, atI_3, atI_4, cut_from, cut_to, List.drop_succ_cons, List.drop_zero, List.take_succ_cons, List.take_zero, List.drop_nil, List.take_nil, Int.reduceLE, Int.reduceBEq, blsD_map, blsD_cons, blsD_nil, set_ref, setO_cons, isList_ref, Option.isSome_some, Int.reduceLE, Int.reduceLT, Int.cast_ofNat_Int, Int.reduceToNat, List.getElem?_cons_succ, List.getElem?_cons_zero, Int.reduceNeg, Int.reduceAdd, at_new, and_self, or_true, true_or, true_and, and_true, Int.reducePow, Int.reduceSub, Int.reduceMul, seq_ref, seqO_lst, seqO_frz, lst_ref, lstO_lst, len_ref, list_ref, lisO_lst, append_ref, enWk_tup, enWk_ref, split_str, base_join, base_split, str_int, str_str, int_str, len_str, seqWk_str, extend_tup', extend_ref, base_append, base_extend, base_get, get2_ref, dctO_dct, keyD_int, keyD_str,  tuple_ref, all_ref, any_ref, add_ref, slc_ref, len_tup, list_tup, int_int, int_bl, abs_int, max_int, max_ref, min_int, slc_tup, rev_tup, seqWk_tup, zipWk_tup, rng_one, rng_two, rng_three, wkEnum_items, Option.map_some, Option.bind_some, setAll,
  List.set_cons_zero, List.set_cons_succ, List.set_set, List.foldl_nil, List.foldl_cons, List.length_cons, List.length_nil, List.map_cons, List.map_nil, List.cons_append, List.nil_append, List.replicate_succ, List.replicate_zero, Nat.reduceAdd, Nat.reduceSub, Bool.not_true, Bool.not_false, if_true, if_false, Bool.false_eq_true, decide_eq_true_eq, Nat.reduceLeDiff, lim_lit, wipe, isiD_tup, isiD_str, isiD_int, isiD_bl, isiD_non, isi_tup, isi_str, isi_int, isi_bool, Bool.and_true, Bool.and_false, Bool.true_and, Bool.false_and, tpB_tup, tpB_str, tpB_bl, tpB_int, tpB_non, tpB_ref, isStr_tup, isStr_str, isStr_bl, isStr_int, isStr_non, isStr_ref, isBl_tup, isBl_str, isBl_bl, isBl_int, isBl_non, isBl_ref, isInt_tup, isInt_str, isInt_bl, isInt_int, isInt_non, isInt_ref])
local macro_rules | `(tactic| walk_at "go1") => `(tactic| try simp only [wps_nil, wps_ex, wps_asg, wps_par, wps_ret, wps_cond, wps_loop, wps_brk, wps_cont, wps_pass, wp_ret, wp_slot, wp_cst, wp_tup, wp_lst, wp_bin, wp_neg, wp_cmp, wp_chain, wp_and, wp_or, wp_not, wp_ifx, wp_idx, wp_slc, wp_rev, wp_call, wp_meth, wp_blt, wp_listR, wp_isi, wp_new, wp_attr, wp_mcall, wp_isc, wp_sset, wps_sta, wp_of1m, cmpE_int, cmpE_str, cmpE_bl, cmpE_tup, cmpE_non, cmpE_ne, cmpE_lt, cmpE_le, cmpE_gt, cmpE_ge, cmpE_isn, cmpE_notn, cmpE_inn, cmpE_nin, wp_star, wp_comp, wp_dct, wp_nil, wp_cons, wp_knil, wp_kcons, wp_onone, wp_osome, wp_iseq, wp_irng, wp_ienum, wp_izip, wp_tslot, wp_ttup, wp_titem, wp_tnil, wp_tcons, wp_fnil, wp_fone, wp_ok, wp_of1, wp_of, wp_of1n, wp_ofn, wp_onB, wp_onBn, wp_calm, wp_bind, wp_ite, wp_exc, wp_bad,
  getL_0, getL_s, bin_add, bin_sub, bin_mul, bin_fdiv, bin_mod, bin_tup, bin_str, cmp_lt, cmp_le, cmp_gt, cmp_ge, cmp_eqI, cmp_eqS, cmp_neI, cmp_neS, cmp_eqB, in_str2, in_str3, truth_bl, truth_int, truth_tup, truth_non, neg_int, intOf_int, tupOf_tup, idx_tup, idx_ref, idxO_lst, atI_0, atI_1, atI_2, atI_3, atI_4, cut_from, cut_to, List.drop_succ_cons, List.drop_zero, List.take_succ_cons, List.take_zero, List.drop_nil, List.take_nil, Int.reduceLE, Int.reduceBEq, blsD_map, blsD_cons, blsD_nil, set_ref, setO_cons, isList_ref, Option.isSome_some, Int.reduceLE, Int.reduceLT, Int.cast_ofNat_Int, Int.reduceToNat, List.getElem?_cons_succ, List.getElem?_cons_zero, Int.reduceNeg, Int.reduceAdd, at_new, and_self, or_true, true_or, true_and, and_true, Int.reducePow, Int.reduceSub, Int.reduceMul, seq_ref, seqO_lst, seqO_frz, lst_ref, lstO_lst, len_ref, list_ref, lisO_lst, append_ref, enWk_tup, enWk_ref, split_str, base_join, base_split, str_int, str_str, int_str, len_str, seqWk_str, extend_tup', extend_ref, base_append, base_extend, base_get, get2_ref, dctO_dct, keyD_int, keyD_str,  tuple_ref, all_ref, any_ref, add_ref, slc_ref, len_tup, list_tup, int_int, int_bl, abs_int, max_int, max_ref, min_int, slc_tup, rev_tup, seqWk_tup, zipWk_tup, rng_one, rng_two, rng_three, wkEnum_items, Option.map_some, Option.bind_some, setAll,
  List.set_cons_zero, List.set_cons_succ, List.set_set, List.foldl_nil, List.foldl_cons, List.length_cons, List.length_nil, List.map_cons, List.map_nil, List.cons_append, List.nil_append, List.replicate_succ, List.replicate_zero, Nat.reduceAdd, Nat.reduceSub, Bool.not_true, Bool.not_false, if_true, if_false, Bool.false_eq_true, decide_eq_true_eq, Nat.reduceLeDiff, lim_lit, wipe, isiD_tup, isiD_str, isiD_int, isiD_bl, isiD_non, isi_tup, isi_str, isi_int, isi_bool, Bool.and_true, Bool.and_false, Bool.true_and, Bool.false_and, tpB_tup, tpB_str, tpB_bl, tpB_int, tpB_non, tpB_ref, isStr_tup, isStr_str, isStr_bl, isStr_int, isStr_non, isStr_ref, isBl_tup, isBl_str, isBl_bl, isBl_int, isBl_non, isBl_ref, isInt_tup, isInt_str, isInt_bl, isInt_int, isInt_non, isInt_ref])
theorem sorted_tups {A : AH} {n : Nat} {fs : List (List Int)} (hn : A[n]? = some (.lst (fs.map tupI))) (nd : fs.Nodup) (ne : ∀ t ∈ fs, t ≠ []) (hl : fs.length ≤ lim) : callB .sorted [.ref n] A = some (.ref A.length, A ++ [.lst ((uniqT fs).map tupI)]) := by
  simp only [callB, setOf, seqOf, hn, Option.bind_some, sortD_tups nd ne hl, Option.map_some]
  rfl
theorem sorted_tupT {A : AH} {fs : List (List Int)} (nd : fs.Nodup) (ne : ∀ t ∈ fs, t ≠ []) (hl : fs.length ≤ lim) : callB .sorted [.tup (fs.map tupI)] A = some (.ref A.length, A ++ [.lst ((uniqT fs).map tupI)]) := by
  simp only [callB, setOf, seqOf, Option.bind_some, sortD_tups nd ne hl, Option.map_some]
  rfl
theorem TieOk.ne {m : Int} {t : List Int} (h : TieOk m t) : t ≠ [] := by
  obtain ⟨_, _, _, rfl, _⟩ := h
  simp
section
variable {P : CProg} {k p c : Nat} {A : AH} {Q : D → AH → Prop} {E : Ex → AH → Prop}
def Grid (fs : List (List Int)) : Prop := ∀ (j : Nat) (t : List Int), fs[j]? = some t → ∃ x : Int, (0 ≤ x ∧ x < 4) ∧ t = [x, ((j / 40 : Nat) : Int), ((j % 40 : Nat) : Int)]
theorem Grid.nodup {fs : List (List Int)} (h : Grid fs) : fs.Nodup := by
  refine List.pairwise_iff_getElem.mpr fun i j hi hj lt e => ?_
  obtain ⟨x, _, a⟩ := h i _ (List.getElem?_eq_getElem hi)
  obtain ⟨y, _, b⟩ := h j _ (List.getElem?_eq_getElem hj)
  rw [a, b] at e
  simp only [List.cons.injEq, and_true] at e
  omega
theorem Grid.ok {fs : List (List Int)} (h : Grid fs) (hl : fs.length = 1600) : ∀ t ∈ fs, TieOk 40 t := fun t ht => by
  obtain ⟨j, hj, e⟩ := List.mem_iff_getElem.mp ht
  obtain ⟨x, hx, a⟩ := h j t (by rw [List.getElem?_eq_getElem hj, e])
  exact ⟨x, _, _, a, hx, by omega, by omega⟩
theorem Grid.snoc {fs : List (List Int)} (h : Grid fs) {x : Int} (hx : 0 ≤ x ∧ x < 4) {i j : Nat} (hj : j < 40) (hl : fs.length = 40 * i + j) : Grid (fs ++ [[x, (i : Int), (j : Int)]]) := fun q t e => by
  by_cases l : q < fs.length
  · rw [List.getElem?_append_left l] at e
    exact h q t e
  · rw [List.getElem?_append_right (by omega)] at e
    have z : q - fs.length = 0 := by
      by_cases z : q - fs.length = 0
      · exact z
      · rw [List.getElem?_eq_none (by simp; omega)] at e; cases e
    rw [z] at e
    cases e
    refine ⟨x, hx, ?_⟩
    rw [show q / 40 = i by omega, show q % 40 = j by omega]
theorem great16 (h : Is69 P) (hp : PotC c p A) (go : ∀ m hs ts A', Ok3 m hs ts → PotC c p A' → Fr [p] A A' → Q (parD m hs ts) A') : Wp ((fns P (k + 2)).call 16 [.ref p] A) Q E := by
  rw [wp_def h.d16 rfl]; unfold b69_16
  rw [wps_cons]
  walk_at "go1"
  have hp2 := hp.fr ((Fr.refl _ _).snoc (AO.lst []))
  have al := Nat.le_refl A.length
  have ln := hp.lt
  generalize eA2 : A ++ [AO.lst []] = A2 at hp2 ⊢
  have h2 : A2[A.length]? = some (.lst []) := by rw [← eA2]; exact at_new
  have f2 : Fr [p] A A2 := by rw [← eA2]; exact (Fr.refl _ _).snoc _
  generalize eN : A.length = n at h2 al ln ⊢
  rw [wps_cons]
  walk_at "go1"
  rw [okR_of (by omega) (by omega) (by omega) (by omega)]
  simp only [if_true, wp_of1]
  refine loop_items (fun i L B => ∃ fs s t, L = [some (.ref p), some (.ref n), s, t, none] ∧ B[n]? = some (.lst (fs.map tupI)) ∧ fs.length = 40 * i ∧ Grid fs ∧ PotC c p B ∧ Fr [n, p] A2 B) (by rw [rngItems_len]; simp [fuel])
    ⟨[], none, none, rfl, h2, rfl, fun j t e => by simp at e, hp2, Fr.refl _ _⟩ (fun i d L B hd ⟨fs, s, t, hL, hn, hl, hf, hpB, fB⟩ => ?_) fun L B ⟨fs, s, t, hL, hn, hl, hf, hpB, fB⟩ => ?_
  · subst hL
    obtain ⟨ed, hi⟩ := rngItems_at hd
    subst ed
    rw [Int.zero_add]
    simp only [wp_ofE]
    walk_at "go1"
    rw [wps_cons]
    walk_at "go1"
    rw [okR_of (by omega) (by omega) (by omega) (by omega)]
    simp only [if_true, wp_of1]
    refine loop_items (fun j L B => ∃ fs s, L = [some (.ref p), some (.ref n), some (.int (i : Nat)), s, none] ∧ B[n]? = some (.lst (fs.map tupI)) ∧ fs.length = 40 * i + j ∧ Grid fs ∧ PotC c p B ∧ Fr [n, p] A2 B) (by rw [rngItems_len]; simp [fuel])
      ⟨fs, t, rfl, hn, hl, hf, hpB, fB⟩ (fun j d L B hd ⟨fs, s, hL, hn, hl, hf, hpB, fB⟩ => ?_) fun L B ⟨fs, s, hL, hn, hl, hf, hpB, fB⟩ => ?_
    · subst hL
      obtain ⟨ed, hj⟩ := rngItems_at hd
      subst ed
      rw [Int.zero_add]
      simp only [wp_ofE]
      walk_at "go1"
      rw [wps_cons]
      walk_at "go1"
      rw [hn]
      walk_at "go1"
      refine drawC_ok h.d11 hpB (by omega) (by omega) fun x B1 x0 x1 hp4 f4 => ?_
      walk_at "go1"
      have hn3 := f4.get hn (by simp; omega)
      rw [hn3]
      simp only [Option.bind_some, lstO_lst, List.length_map, hl]
      rw [if_pos (by omega)]
      walk_at "go1"
      refine ⟨fs ++ [[x, (i : Nat), (j : Nat)]], _, rfl, ?_, by rw [List.length_append, hl]; rfl, hf.snoc ⟨x0, x1⟩ (by omega) hl, hp4.set (by omega) (by omega), ?_⟩
      · rw [set_self (lt_of_at hn3), List.map_append]
        rfl
      · exact (fB.trans (f4.sub (by simp))).set _ (by simp)
    · subst hL
      dsimp only
      walk_at "go1"
      rw [rngItems_len] at hl
      exact ⟨fs, _, _, rfl, hn, by omega, hf, hpB, fB⟩
  · subst hL
    dsimp only
    rw [rngItems_len] at hl
    have hl : fs.length = 1600 := by omega
    have fAB : Fr [p] A B := Fr.hide f2 fB (by omega)
    rw [wps_cons]
    walk_at "go1"
    rw [okR_of (by omega) (by omega) (by omega) (by omega)]
    simp only [if_true, wp_of1]
    refine comp_draws (b := 10) hpB (by rw [rngItems_len]; simp [fuel]) (fun d acc A' hacc hpA => ?_) fun hs B2 hl2 hb2 hpB2 f2B => ?_
    · walk_at "go1"
      refine drawC_ok h.d11 hpA (by omega) (by omega) fun x B1 x0 x1 hp4 f4 => ?_
      simp only [hacc, if_true, wp_ok]
      exact ⟨x, rfl, ⟨x0, x1⟩, hp4, f4⟩
    · walk_at "go1"
      have h4 := at_snoc (o' := AO.lst (hs.map D.int)) (f2B.get hn (by simp; omega))
      have ok4 := hf.ok hl
      rw [sorted_tups h4 hf.nodup (fun t ht => (ok4 t ht).ne) (by rw [lim_lit]; omega)]
      walk_at "go1"
      rw [rngItems_len] at hl2
      refine go 40 hs (uniqT fs) _ ⟨by omega, by omega, by rw [hl2]; omega, hb2, by have := uniqT_le fs; omega, fun t ht => ok4 t (mem_uniqT.mp ht), uniqT_asc fs⟩ ?_ ?_
      · exact hpB2.fr (((Fr.refl _ _).snoc _).snoc _)
      · exact ((fAB.trans f2B).snoc _).snoc _
end
end Kin
end
section
set_option linter.all false
set_option maxRecDepth 100000
namespace Kin
open PySem
local macro_rules | `(tactic| walk_at "go") => `(tactic| try simp only [wps_nil, wps_cons, wps_ex, wps_asg, wps_par, wps_ret, wps_cond, wps_loop, wps_brk, wps_cont, wps_pass, wp_ret, wp_slot, wp_cst, wp_tup, wp_lst, wp_bin, wp_neg, wp_cmp, wp_chain, wp_and, wp_or, wp_not, wp_ifx, wp_idx, wp_slc, wp_rev, wp_call, wp_meth, wp_blt, wp_listR, wp_isi, wp_new, wp_attr, wp_mcall, wp_isc, wp_sset, wps_sta, wp_of1m, cmpE_int, cmpE_str, cmpE_bl, cmpE_tup, cmpE_non, cmpE_ne, cmpE_lt, cmpE_le, cmpE_gt, cmpE_ge, cmpE_isn, cmpE_notn, cmpE_inn, cmpE_nin, wp_star, wp_comp, wp_dct, wp_nil, wp_cons, wp_knil, wp_kcons, wp_onone, wp_osome, wp_iseq, wp_irng, wp_ienum, wp_izip, wp_tslot, wp_ttup, wp_titem, wp_tnil, wp_tcons, wp_fnil, wp_fone, wp_ok, wp_of1, wp_of, wp_of1n, wp_ofn, wp_onB, wp_onBn, wp_calm, wp_bind, wp_ite, wp_exc, wp_bad,
  getL_0, getL_s, bin_add, bin_sub, bin_mul, bin_fdiv, bin_mod, bin_tup, bin_str, cmp_lt, cmp_le, cmp_gt, cmp_ge, cmp_eqI, cmp_eqS, cmp_neI, cmp_neS, cmp_eqB, in_str2, in_str3, truth_bl, truth_int, truth_tup, truth_non, neg_int, intOf_int, tupOf_tup, idx_tup, idx_ref, idxO_lst, atI_0, atI_1, atI_2, atI_3, atI_4, cut_from, cut_to, List.drop_succ_cons, List.drop_zero, List.take_succ_cons, List.take_zero, List.drop_nil, List.take_nil, Int.reduceLE, Int.reduceBEq, blsD_map, blsD_cons, blsD_nil, set_ref, setO_cons, isList_ref, Option.isSome_some, Int.reduceLE, Int.reduceLT, Int.cast_ofNat_Int, Int.reduceToNat, List.getElem?_cons_succ, List.getElem?_cons_zero, Int.reduceNeg, Int.reduceAdd, at_new, and_self, or_true, true_or, true_and, and_true, Int.reducePow, Int.reduceSub, Int.reduceMul, seq_ref, seqO_lst, seqO_frz, lst_ref, lstO_lst, len_ref, list_ref, lisO_lst, append_ref, enWk_tup, enWk_ref, split_str, base_join, base_split, str_int, str_str, int_str, len_str, seqWk_str, extend_tup', extend_ref, base_append, base_extend, base_get, get2_ref, dctO_dct, keyD_int, keyD_str,  tuple_ref, all_ref, any_ref, add_ref, slc_ref, len_tup, list_tup, int_int, int_bl, abs_int, max_int, max_ref, min_int, slc_tup, rev_tup, seqWk_tup, zipWk_tup, rng_one, rng_two, rng_three, wkEnum_items, Option.map_some, Option.bind_some, setAll,
  List.set_cons_zero, List.set_cons_succ, List.set_set, List.foldl_nil, List.foldl_cons, List.length_cons, List.length_nil, List.map_cons, List.map_nil, List.cons_append, List.nil_append, List.replicate_succ, List.replicate_zero, Nat.reduceAdd, Nat.reduceSub, Bool.not_true, Bool.not_false, if_true, if_false, Bool.false_eq_true, decide_eq_true_eq, Nat.reduceLeDiff, lim_lit, wipe, isiD_tup, isiD_str, isiD_int, isiD_bl, isiD_non, isi_tup, isi_str, isi_int, isi_bool, Bool.and_true, Bool.and_false, Bool.true_and, Bool.false_and, tpB_tup, tpB_str, tpB_bl, tpB_int, tpB_non, tpB_ref, isStr_tup, isStr_str, isStr_bl, isStr_int, isStr_non, isStr_ref, isBl_tup, isBl_str, isBl_bl, isBl_int, isBl_non, isBl_ref, isInt_tup, isInt_str, isInt_bl, isInt_int, isInt_non, isInt_ref])
local macro_rules | `(tactic| walk_at "goh") => `(tactic| try simp only [*, Int.reduceBEq, wps_nil, wps_cons, wps_ex, wps_asg, wps_par, wps_ret, wps_cond, wps_loop, wps_brk, wps_cont, wps_pass, wp_ret, wp_slot, wp_cst, wp_tup, wp_lst, wp_bin, wp_neg, wp_cmp, wp_chain, wp_and, wp_or, wp_not, wp_ifx, wp_idx, wp_slc, wp_rev, wp_call, wp_meth, wp_blt, wp_listR, wp_isi, wp_new, wp_attr, wp_mcall, wp_isc, wp_sset, wps_sta, wp_of1m, cmpE_int, cmpE_str, cmpE_bl, cmpE_tup, cmpE_non, cmpE_ne, cmpE_lt, cmpE_le, cmpE_gt, cmpE_ge, cmpE_isn, cmpE_notn, cmpE_inn, cmpE_nin, wp_star, wp_comp, wp_dct, wp_nil, wp_cons, wp_knil, wp_kcons, wp_onone, wp_osome, wp_iseq, wp_irng, wp_ienum, wp_izip, wp_tslot, wp_ttup, wp_titem, wp_tnil, wp_tcons, wp_fnil, wp_fone, wp_ok, wp_of1, wp_of, wp_of1n, wp_ofn, wp_onB, wp_onBn, wp_calm, wp_bind, wp_ite, wp_exc, wp_bad,
  getL_0, getL_s, bin_add, bin_sub, bin_mul, bin_fdiv, bin_mod, bin_tup, bin_str, cmp_lt, cmp_le, cmp_gt, cmp_ge, cmp_eqI, cmp_eqS, cmp_neI, cmp_neS, cmp_eqB, in_str2, in_str3, truth_bl, truth_int, truth_tup, truth_non, neg_int, intOf_int, tupOf_tup, idx_tup, idx_ref, idxO_lst, atI_0, atI_1, atI_2, atI_3, atI_4, cut_from, cut_to, List.drop_succ_cons, List.drop_zero, List.take_succ_cons, List.take_zero, List.drop_nil, List.take_nil, Int.reduceLE, blsD_map, blsD_cons, blsD_nil, set_ref, setO_cons, isList_ref, Option.isSome_some, Int.reduceLE, Int.reduceLT, Int.cast_ofNat_Int, Int.reduceToNat, List.getElem?_cons_succ, List.getElem?_cons_zero, Int.reduceNeg, Int.reduceAdd, at_new, and_self, or_true, true_or, true_and, and_true, Int.reducePow, Int.reduceSub, Int.reduceMul, seq_ref, seqO_lst, seqO_frz, lst_ref, lstO_lst, len_ref, list_ref, lisO_lst, append_ref, enWk_tup, enWk_ref, split_str, base_join, base_split, str_int, str_str, int_str, len_str, seqWk_str, extend_tup', extend_ref, base_append, base_extend, base_get, get2_ref, dctO_dct, keyD_int, keyD_str,  tuple_ref, all_ref, any_ref, add_ref, slc_ref, len_tup, list_tup, int_int, int_bl, abs_int, max_int, max_ref, min_int, slc_tup, rev_tup, seqWk_tup, zipWk_tup, rng_one, rng_two, rng_three, wkEnum_items, Option.map_some, Option.bind_some, setAll,
  List.set_cons_zero, List.set_cons_succ, List.set_set, List.foldl_nil, List.foldl_cons, List.length_cons, List.length_nil, List.map_cons, List.map_nil, List.cons_append, List.nil_append, List.replicate_succ, List.replicate_zero, Nat.reduceAdd, Nat.reduceSub, Bool.not_true, Bool.not_false, if_true, if_false, Bool.false_eq_true, decide_eq_true_eq, Nat.reduceLeDiff, lim_lit, wipe, isiD_tup, isiD_str, isiD_int, isiD_bl, isiD_non, isi_tup, isi_str, isi_int, isi_bool, Bool.and_true, Bool.and_false, Bool.true_and, Bool.false_and, tpB_tup, tpB_str, tpB_bl, tpB_int, tpB_non, tpB_ref, isStr_tup, isStr_str, isStr_bl, isStr_int, isStr_non, isStr_ref, isBl_tup, isBl_str, isBl_bl, isBl_int, isBl_non, isBl_ref, isInt_tup, isInt_str, isInt_bl, isInt_int, isInt_non, isInt_ref])
local macro_rules | `(tactic| walk_at "dr") => `(tactic| (refine draw_ok (by assumption) (by assumption) (by first | assumption | omega | decide) (by first | omega | decide) ?_; intro r A' r0 r1 hp f))
local macro_rules | `(tactic| walk_at "an") => `(tactic| (refine any_ok (by assumption) (by assumption) (Pot.snoc (by assumption) _) at_new (Nat.ne_of_gt (Pot.lt (by assumption))) (by simp) (by simp) ?_; intro d A' hm hp f))
local macro_rules | `(tactic| walk_at "fr") => `(tactic| repeat first | exact Fr.refl _ _ | assumption | refine Fr.snoc ?_ _ | refine Fr.trans ?_ (by assumption) | refine Fr.trans ?_ (Fr.nil (by assumption)))
local macro_rules | `(tactic| walk_at "g1") => `(tactic| try simp only [*, wps_nil, wps_ex, wps_asg, wps_par, wps_ret, wps_cond, wps_loop, wps_brk, wps_cont, wps_pass, wp_ret, wp_slot, wp_cst, wp_tup, wp_lst, wp_bin, wp_neg, wp_cmp, wp_chain, wp_and, wp_or, wp_not, wp_ifx, wp_idx, wp_slc, wp_rev, wp_call, wp_meth, wp_blt, wp_listR, wp_isi, wp_new, wp_attr, wp_mcall, wp_isc, wp_sset, wps_sta, wp_of1m, cmpE_int, cmpE_str, cmpE_bl, cmpE_tup, cmpE_non, cmpE_ne, cmpE_lt, cmpE_le, cmpE_gt, cmpE_ge, cmpE_isn, cmpE_notn, cmpE_inn, cmpE_nin, wp_star, wp_comp, wp_dct, wp_nil, wp_cons, wp_knil, wp_kcons, wp_onone, wp_osome, wp_iseq, wp_irng, wp_ienum, wp_izip, wp_tslot, wp_ttup, wp_titem, wp_tnil, wp_tcons, wp_fnil, wp_fone, wp_ok, wp_of1, wp_of, wp_of1n, wp_ofn, wp_onB, wp_onBn, wp_calm, wp_bind, wp_ite, wp_exc, wp_bad,
  getL_0, getL_s, bin_add, bin_sub, bin_mul, bin_fdiv, bin_mod, bin_tup, bin_str, cmp_lt, cmp_le, cmp_gt, cmp_ge, cmp_eqI, cmp_eqS, cmp_neI, cmp_neS, cmp_eqB, in_str2, in_str3, truth_bl, truth_int, truth_tup, truth_non, neg_int, intOf_int, tupOf_tup, idx_tup, idx_ref, idxO_lst, atI_0, atI_1, atI_2, atI_3, atI_4, cut_from, cut_to, List.drop_succ_cons, List.drop_zero, List.take_succ_cons, List.take_zero, List.drop_nil, List.take_nil, Int.reduceLE, Int.reduceBEq, blsD_map, blsD_cons, blsD_nil, set_ref, setO_cons, isList_ref, Option.isSome_some, Int.reduceLE, Int.reduceLT, Int.cast_ofNat_Int, Int.reduceToNat, List.getElem?_cons_succ, List.getElem?_cons_zero, Int.reduceNeg, Int.reduceAdd, at_new, and_self, or_true, true_or, true_and, and_true, Int.reducePow, Int.reduceSub, Int.reduceMul, seq_ref, seqO_lst, seqO_frz, lst_ref, lstO_lst, len_ref, list_ref, lisO_lst, append_ref, enWk_tup, enWk_ref, split_str, base_join, base_split, str_int, str_str, int_str, len_str, seqWk_str, extend_tup', extend_ref, base_append, base_extend, base_get, get2_ref, dctO_dct, keyD_int, keyD_str,  tuple_ref, all_ref, any_ref, add_ref, slc_ref, len_tup, list_tup, int_int, int_bl, abs_int, max_int, max_ref, min_int, slc_tup, rev_tup, seqWk_tup, zipWk_tup, rng_one, rng_two, rng_three, wkEnum_items, Option.map_some, Option.bind_some, setAll,
  List.set_cons_zero, List.set_cons_succ, List.set_set, List.foldl_nil, List.foldl_cons, List.length_cons, List.length_nil, List.map_cons, List.map_nil, List.cons_append, List.nil_append, List.replicate_succ, List.replicate_zero, Nat.reduceAdd, Nat.reduceSub, Bool.not_true, Bool.not_false, if_true, if_false, Bool.false_eq_true, decide_eq_true_eq, Nat.reduceLeDiff, lim_lit, wipe, isiD_tup, isiD_str, isiD_int, isiD_bl, isiD_non, isi_tup, isi_str, isi_int, isi_bool, Bool.and_true, Bool.and_false, Bool.true_and, Bool.false_and, tpB_tup, tpB_str, tpB_bl, tpB_int, tpB_non, tpB_ref, isStr_tup, isStr_str, isStr_bl, isStr_int, isStr_non, isStr_ref, isBl_tup, isBl_str, isBl_bl, isBl_int, isBl_non, isBl_ref, isInt_tup, isInt_str, isInt_bl, isInt_int, isInt_non, isInt_ref])
local macro_rules | `(tactic| walk_at "go1") => `(tactic| try simp only [wps_nil, wps_ex, wps_asg, wps_par, wps_ret, wps_cond, wps_loop, wps_brk, wps_cont, wps_pass, wp_ret, wp_slot, wp_cst, wp_tup, wp_lst, wp_bin, wp_neg, wp_cmp, wp_chain, wp_and, wp_or, wp_not, wp_ifx, wp_idx, wp_slc, wp_rev, wp_call, wp_meth, wp_blt, wp_listR, wp_isi, wp_new, wp_attr, wp_mcall, wp_isc, wp_sset, wps_sta, wp_of1m, cmpE_int, cmpE_str, cmpE_bl, cmpE_tup, cmpE_non, cmpE_ne, cmpE_lt, cmpE_le, cmpE_gt, cmpE_ge, cmpE_isn, cmpE_notn, cmpE_inn, cmpE_nin, wp_star, wp_comp, wp_dct, wp_nil, wp_cons, wp_knil, wp_kcons, wp_onone, wp_osome, wp_iseq, wp_irng, wp_ienum, wp_izip, wp_tslot, wp_ttup, wp_titem, wp_tnil, wp_tcons, wp_fnil, wp_fone, wp_ok, wp_of1, wp_of, wp_of1n, wp_ofn, wp_onB, wp_onBn, wp_calm, wp_bind, wp_ite, wp_exc, wp_bad,
  getL_0, getL_s, bin_add, bin_sub, bin_mul, bin_fdiv, bin_mod, bin_tup, bin_str, cmp_lt, cmp_le, cmp_gt, cmp_ge, cmp_eqI, cmp_eqS, cmp_neI, cmp_neS, cmp_eqB, in_str2, in_str3, truth_bl, truth_int, truth_tup, truth_non, neg_int, intOf_int, tupOf_tup, idx_tup, idx_ref, idxO_lst, atI_0, atI_1, atI_2, atI_3, atI_4, cut_from, cut_to, List.drop_succ_cons, List.drop_zero, List.take_succ_cons, List.take_zero, List.drop_nil, List.take_nil, Int.reduceLE, Int.reduceBEq, blsD_map, blsD_cons, blsD_nil, set_ref, setO_cons, isList_ref, Option.isSome_some, Int.reduceLE, Int.reduceLT, Int.cast_ofNat_Int, Int.reduceToNat, List.getElem?_cons_succ, List.getElem?_cons_zero, Int.reduceNeg, Int.reduceAdd, at_new, and_self, or_true, true_or, true_and, and_true, Int.reducePow, Int.reduceSub, Int.reduceMul, seq_ref, seqO_lst, seqO_frz, lst_ref, lstO_lst, len_ref, list_ref, lisO_lst, append_ref, enWk_tup, enWk_ref, split_str, base_join, base_split, str_int, str_str, int_str, len_str, seqWk_str, extend_tup', extend_ref, base_append, base_extend, base_get, get2_ref, dctO_dct, keyD_int, keyD_str,  tuple_ref, all_ref, any_ref, add_ref, slc_ref, len_tup, list_tup, int_int, int_bl, abs_int, max_int, max_ref, min_int, slc_tup, rev_tup, seqWk_tup, zipWk_tup, rng_one, rng_two, rng_three, wkEnum_items, Option.map_some, Option.bind_some, setAll,
  List.set_cons_zero, List.set_cons_succ, List.set_set, List.foldl_nil, List.foldl_cons, List.length_cons, List.length_nil, List.map_cons, List.map_nil, List.cons_append, List.nil_append, List.replicate_succ, List.replicate_zero, Nat.reduceAdd, Nat.reduceSub, Bool.not_true, Bool.not_false, if_true, if_false, Bool.false_eq_true, decide_eq_true_eq, Nat.reduceLeDiff, lim_lit, wipe, isiD_tup, isiD_str, isiD_int, isiD_bl, isiD_non, isi_tup, isi_str, isi_int, isi_bool, Bool.and_true, Bool.and_false, Bool.true_and, Bool.false_and, tpB_tup, tpB_str, tpB_bl, tpB_int, tpB_non, tpB_ref, isStr_tup, isStr_str, isStr_bl, isStr_int, isStr_non, isStr_ref, isBl_tup, isBl_str, isBl_bl, isBl_int, isBl_non, isBl_ref, isInt_tup, isInt_str, isInt_bl, isInt_int, isInt_non, isInt_ref])
section
variable {P : CProg} {k p c : Nat} {A : AH} {Q : D → AH → Prop} {E : Ex → AH → Prop}
abbrev endQ (Q : D → AH → Prop) (E : Ex → AH → Prop) : SQ := ⟨fun _ A => Q .non A, Q, fun _ _ => False, fun _ _ => False, E⟩
abbrev Diff (m : Int) (hs : List Int) (ts : List (List Int)) (m' : Int) (hs' : List Int) (ts' : List (List Int)) : Prop := ¬ (m = m' ∧ hs = hs' ∧ ts = ts')
/-- a hue is another -/
theorem other_hue (h : Is69 P) {m : Int} {hs : List Int} {ts : List (List Int)} (ok : Ok3 m hs ts) (hp : PotC c p A) {q : Int} (q0 : 0 ≤ q) (q1 : q < m) {l1 l6 l7 l8 : Option D}
    (go : ∀ m' hs' ts' A', Ok3 m' hs' ts' → Diff m hs ts m' hs' ts' → PotC c p A' → Fr [p] A A' → Q (parD m' hs' ts') A') :
    WpS (evSs P (fns P (k + 1)) (b69_17.drop 6) [some (.ref p), l1, some (.int m), some (hueD hs), some (tieD ts), some (.int q), l6, l7, l8] A) (endQ Q E) := by
  unfold b69_17
  simp only [List.drop_succ_cons, List.drop_zero]
  have m2 := ok.m2
  have hl := ok.hl
  have hq : q.toNat < hs.length := by omega
  have hb := ok.hb _ (List.getElem_mem hq)
  rw [wps_cons]
  simp only [hueD]
  walk_at "go1"
  rw [cut_to q0]
  walk_at "go1"
  have ix : L2.atI (hs.map D.int) q = some (.int hs[q.toNat]) := by
    have := L2.atI_nat (xs := hs.map D.int) (j := q.toNat) (v := .int hs[q.toNat]) (by rw [List.getElem?_map, List.getElem?_eq_getElem hq]; rfl)
    rw [show ((q.toNat : Nat) : Int) = q by omega] at this
    exact this
  rw [ix]
  walk_at "go1"
  refine drawC_ok h.d11 hp (by omega) (by omega) fun x A1 x0 x1 hp1 f1 => ?_
  walk_at "go1"
  rw [if_pos (by simp only [List.length_take, List.length_map, List.length_cons, List.length_nil]; omega)]
  walk_at "go1"
  rw [cut_from (by omega)]
  walk_at "go1"
  rw [if_pos (by simp only [List.length_append, List.length_drop, List.length_take, List.length_map, List.length_cons, List.length_nil]; omega)]
  walk_at "go1"
  generalize ev : (hs[q.toNat] + 1 + x) % 10 = v
  have eq : (hs.map D.int).take q.toNat ++ [D.int v] ++ (hs.map D.int).drop (q + 1).toNat = (hs.set q.toNat v).map D.int := by
    rw [List.set_eq_take_append_cons_drop, if_pos hq, List.map_append, List.map_cons, List.map_take, List.map_drop, show (q + 1).toNat = q.toNat + 1 by omega]
    simp
  rw [eq]
  refine go m (hs.set q.toNat v) ts A1 ⟨ok.m1, ok.m2, by rw [List.length_set]; exact hl, fun y hy => ?_, ok.tl, ok.tb, ok.asc⟩ (fun e => ?_) hp1 f1
  · rcases List.mem_or_eq_of_mem_set hy with z | z
    · exact ok.hb y z
    · rw [z, ← ev]
      omega
  · have e2 : hs[q.toNat] = v := by
      have := congrArg (fun l : List Int => l[q.toNat]?) e.2.1
      simp only [List.getElem?_set_self hq, List.getElem?_eq_getElem hq, Option.some.injEq] at this
      exact this
    omega
/-- one tie more, or another hue -/
theorem other_more (h : Is69 P) {m : Int} {hs : List Int} {ts : List (List Int)} (ok : Ok3 m hs ts) (hp : PotC c p A) {q kd : Int} (q0 : 0 ≤ q) (q1 : q < m) {l1 l7 : Option D}
    (go : ∀ m' hs' ts' A', Ok3 m' hs' ts' → Diff m hs ts m' hs' ts' → PotC c p A' → Fr [p] A A' → Q (parD m' hs' ts') A') :
    WpS (evSs P (fns P (k + 1)) (b69_17.drop 4) [some (.ref p), l1, some (.int m), some (hueD hs), some (tieD ts), some (.int q), some (.int kd), l7, none] A) (endQ Q E) := by
  have e6 : b69_17.drop 6 = b69_17.drop 6 := rfl
  have m2 := ok.m2
  have m1 := ok.m1
  have tl := ok.tl
  have last : ∀ (A1 : AH) (l8 : Option D), PotC c p A1 → Fr [p] A A1 → WpS (evSs P (fns P (k + 1)) (b69_17.drop 6) [some (.ref p), l1, some (.int m), some (hueD hs), some (tieD ts), some (.int q), some (.int kd), l7, l8] A1) (endQ Q E) := fun A1 l8 hp1 f1 =>
    other_hue h ok hp1 q0 q1 fun m' hs' ts' A' o' d' p' f' => go m' hs' ts' A' o' d' p' (f1.trans f')
  generalize el : b69_17.drop 6 = rest6 at last
  have e4 : b69_17.drop 4 = [.asg (.slot 8) (.tup [(.call 11 [(.slot 0), (.cst (.int 4))]), (.slot 5), (.call 11 [(.slot 0), (.slot 2)])]),
    .cond (.and (.cmp .eq (.slot 6) (.cst (.int 2))) (.and (.cmp .lt (.blt .len [(.slot 4)]) (.cst (.int 1600))) (.cmp .nin (.slot 8) (.slot 4))))
      [.ret (.tup [(.slot 2), (.slot 3), (.blt .tuple [(.blt .sorted [(.bin .add (.slot 4) (.tup [(.slot 8)]))])])])] []] ++ rest6 := by rw [← el]; rfl
  rw [e4]
  simp only [List.cons_append, List.nil_append]
  rw [wps_cons]
  walk_at "go1"
  refine drawC_ok h.d11 hp (by omega) (by omega) fun x A1 x0 x1 hp1 f1 => ?_
  walk_at "go1"
  refine drawC_ok h.d11 hp1 (by omega) (by omega) fun y A2 y0 y1 hp2 f2 => ?_
  walk_at "go1"
  have f12 := f1.trans f2
  have tk : TieOk m [x, q, y] := ⟨x, q, y, rfl, ⟨x0, x1⟩, ⟨q0, q1⟩, y0, y1⟩
  rw [show ([D.int x, D.int q, D.int y] : List D) = [x, q, y].map D.int from rfl, show D.tup ([x, q, y].map D.int) = tupI [x, q, y] from rfl]
  generalize [x, q, y] = t at tk ⊢
  rw [wps_cons]
  walk_at "go1"
  by_cases c0 : kd = 2
  · subst c0
    walk_at "go1"
    simp only [tieD]
    walk_at "go1"
    by_cases c1 : ((ts.length : Nat) : Int) < 1600
    · simp only [List.length_map, c1, decide_true, if_true]
      rw [ninT]
      walk_at "go1"
      by_cases c2 : t ∈ ts
      · simp only [c2, decide_true, Bool.not_true, Bool.false_eq_true, if_false]
        walk_at "go1"
        exact last A2 _ hp2 f12
      · simp only [c2, decide_false, Bool.not_false, if_true]
        rw [wps_cons]
        walk_at "go1"
        rw [if_pos (by simp only [List.length_map]; omega)]
        walk_at "go1"
        rw [show ts.map tupI ++ [tupI t] = (ts ++ [t]).map tupI by rw [List.map_append]; rfl]
        have nd : (ts ++ [t]).Nodup := by
          rw [List.nodup_append]
          exact ⟨ascT_nodup ok.asc, by simp, fun a ha b hb => by rw [List.mem_singleton.mp hb]; intro e; exact c2 (e ▸ ha)⟩
        have to : ∀ u ∈ ts ++ [t], TieOk m u := fun u hu => by
          rcases List.mem_append.mp hu with hu | hu
          · exact ok.tb u hu
          · rw [List.mem_singleton.mp hu]; exact tk
        rw [sorted_tupT nd (fun u hu => (to u hu).ne) (by rw [lim_lit]; simp only [List.length_append, List.length_cons, List.length_nil]; omega)]
        walk_at "go1"
        have ul : (uniqT (ts ++ [t])).length = ts.length + 1 := by rw [uniqT_len nd, List.length_append]; rfl
        refine go m hs (uniqT (ts ++ [t])) _ ⟨m1, m2, ok.hl, ok.hb, by omega, fun u hu => to u (mem_uniqT.mp hu), uniqT_asc _⟩ (fun e => ?_) (hp2.fr ((Fr.refl _ _).snoc _)) (f12.snoc _)
        have := congrArg List.length e.2.2
        omega
    · simp only [List.length_map, c1, decide_false, Bool.false_eq_true, if_false]
      walk_at "go1"
      exact last A2 _ hp2 f12
  · rw [if_neg (by simpa using c0)]
    walk_at "go1"
    rw [if_neg (by simpa using c0)]
    exact last A2 _ hp2 f12
theorem other17 (h : Is69 P) {m : Int} {hs : List Int} {ts : List (List Int)} (ok : Ok3 m hs ts) (hp : PotC c p A)
    (go : ∀ m' hs' ts' A', Ok3 m' hs' ts' → Diff m hs ts m' hs' ts' → PotC c p A' → Fr [p] A A' → Q (parD m' hs' ts') A') : Wp ((fns P (k + 2)).call 17 [.ref p, parD m hs ts] A) Q E := by
  rw [wp_def h.d17 rfl]
  have m1 := ok.m1
  have m2 := ok.m2
  have hl := ok.hl
  have tl := ok.tl
  have last : ∀ (A1 : AH) (q kd : Int) (l1 : Option D), 0 ≤ q → q < m → PotC c p A1 → Fr [p] A A1 → WpS (evSs P (fns P (k + 1)) (b69_17.drop 4) [some (.ref p), l1, some (.int m), some (hueD hs), some (tieD ts), some (.int q), some (.int kd), none, none] A1) (endQ Q E) := fun A1 q kd l1 q0 q1 hp1 f1 =>
    other_more h ok hp1 q0 q1 fun m' hs' ts' A' o' d' p' f' => go m' hs' ts' A' o' d' p' (f1.trans f')
  generalize el : b69_17.drop 4 = rest4 at last
  have e3 : b69_17 = [.asg (.tup [(.slot 2), (.slot 3), (.slot 4)]) (.slot 1),
    .par [5, 6] [(.call 11 [(.slot 0), (.slot 2)]), (.call 11 [(.slot 0), (.cst (.int 4))])],
    .cond (.and (.cmp .eq (.slot 6) (.cst (.int 0))) (.cmp .gt (.blt .len [(.slot 4)]) (.cst (.int 0))))
      [.asg (.slot 7) (.call 11 [(.slot 0), (.blt .len [(.slot 4)])]),
      .ret (.tup [(.slot 2), (.slot 3), (.bin .add (.slc (.slot 4) none (some (.slot 7))) (.slc (.slot 4) (some (.bin .add (.slot 7) (.cst (.int 1)))) none))])]
      [],
    .cond (.and (.cmp .eq (.slot 6) (.cst (.int 1))) (.cmp .lt (.slot 2) (.cst (.int 40))))
      [.ret (.tup [(.bin .add (.slot 2) (.cst (.int 1))), (.bin .add (.slot 3) (.tup [(.call 11 [(.slot 0), (.cst (.int 10))])])), (.slot 4)])]
      []] ++ rest4 := by rw [← el]; rfl
  rw [e3]
  simp only [List.cons_append, List.nil_append]
  unfold parD
  rw [wps_cons]
  walk_at "go1"
  rw [wps_cons]
  walk_at "go1"
  refine drawC_ok h.d11 hp (by omega) (by omega) fun q A1 q0 q1 hp1 f1 => ?_
  walk_at "go1"
  refine drawC_ok h.d11 hp1 (by omega) (by omega) fun kd A2 k0 k1 hp2 f2 => ?_
  walk_at "go1"
  have f12 := f1.trans f2
  /- behind the first question -/
  have step2 : WpS (evSs P (fns P (k + 1)) (.cond (.and (.cmp .eq (.slot 6) (.cst (.int 1))) (.cmp .lt (.slot 2) (.cst (.int 40))))
      [.ret (.tup [(.bin .add (.slot 2) (.cst (.int 1))), (.bin .add (.slot 3) (.tup [(.call 11 [(.slot 0), (.cst (.int 10))])])), (.slot 4)])]
      [] :: rest4) [some (.ref p), some (.tup [.int m, hueD hs, tieD ts]), some (.int m), some (hueD hs), some (tieD ts), some (.int q), some (.int kd), none, none] A2) (endQ Q E) := by
    rw [wps_cons]
    walk_at "go1"
    by_cases c0 : kd = 1
    · subst c0
      walk_at "go1"
      by_cases c1 : m < 40
      · simp only [c1, decide_true, if_true]
        rw [wps_cons]
        walk_at "go1"
        refine drawC_ok h.d11 hp2 (by omega) (by omega) fun x A3 x0 x1 hp3 f3 => ?_
        simp only [hueD]
        walk_at "go1"
        rw [if_pos (by simp only [List.length_map]; omega)]
        walk_at "go1"
        rw [show hs.map D.int ++ [D.int x] = (hs ++ [x]).map D.int by rw [List.map_append]; rfl]
        refine go (m + 1) (hs ++ [x]) ts A3 ⟨by omega, by omega, by rw [List.length_append, hl]; simp only [List.length_cons, List.length_nil]; omega, fun y hy => ?_, tl, fun t ht => ?_, ok.asc⟩ (fun e => by omega) hp3 (f12.trans f3)
        · rcases List.mem_append.mp hy with z | z
          · exact ok.hb y z
          · rw [List.mem_singleton.mp z]; exact ⟨x0, x1⟩
        · obtain ⟨a, b, d, e, e1, e2, e3⟩ := ok.tb t ht
          exact ⟨a, b, d, e, e1, by omega, by omega⟩
      · simp only [c1, decide_false, Bool.false_eq_true, if_false]
        walk_at "go1"
        exact last A2 q 1 _ q0 q1 hp2 f12
    · rw [if_neg (by simpa using c0)]
      walk_at "go1"
      rw [if_neg (by simpa using c0)]
      exact last A2 q kd _ q0 q1 hp2 f12
  rw [wps_cons]
  walk_at "go1"
  by_cases c0 : kd = 0
  · subst c0
    walk_at "go1"
    simp only [tieD]
    walk_at "go1"
    by_cases c1 : 0 < ts.length
    · simp only [List.length_map, gt_iff_lt, show (0 : Int) < ((ts.length : Nat) : Int) by omega, decide_true, if_true]
      rw [wps_cons]
      walk_at "go1"
      refine drawC_ok h.d11 hp2 (by simp only [List.length_map]; omega) (by simp only [List.length_map]; omega) fun x A3 x0 x1 hp3 f3 => ?_
      rw [List.length_map] at x1
      walk_at "go1"
      rw [wps_cons]
      walk_at "go1"
      rw [cut_to x0]
      walk_at "go1"
      rw [cut_from (by omega)]
      walk_at "go1"
      rw [if_pos (by simp only [List.length_drop, List.length_take, List.length_map]; omega)]
      walk_at "go1"
      rw [show (ts.map tupI).take x.toNat ++ (ts.map tupI).drop (x + 1).toNat = (ts.eraseIdx x.toNat).map tupI by rw [List.eraseIdx_eq_take_drop_succ, List.map_append, List.map_take, List.map_drop, show (x + 1).toNat = x.toNat + 1 by omega]]
      have sub := List.eraseIdx_sublist ts x.toNat
      have le : (ts.eraseIdx x.toNat).length + 1 = ts.length := by rw [List.length_eraseIdx, if_pos (by omega)]; omega
      refine go m hs (ts.eraseIdx x.toNat) A3 ⟨m1, m2, hl, ok.hb, by omega, fun t ht => ok.tb t (sub.subset ht), ok.asc.sublist sub⟩ (fun e => ?_) hp3 (f12.trans f3)
      have := congrArg List.length e.2.2
      omega
    · simp only [List.length_map, gt_iff_lt, show ¬ (0 : Int) < ((ts.length : Nat) : Int) by omega, decide_false, Bool.false_eq_true, if_false]
      walk_at "go1"
      exact step2
  · rw [if_neg (by simpa using c0)]
    walk_at "go1"
    rw [if_neg (by simpa using c0)]
    exact step2
end
end Kin
end
section
set_option linter.all false
set_option maxRecDepth 100000
namespace Kin
open PySem
local macro_rules | `(tactic| walk_at "go") => `(tactic| try simp only [wps_nil, wps_cons, wps_ex, wps_asg, wps_par, wps_ret, wps_cond, wps_loop, wps_brk, wps_cont, wps_pass, wp_ret, wp_slot, wp_cst, wp_tup, wp_lst, wp_bin, wp_neg, wp_cmp, wp_chain, wp_and, wp_or, wp_not, wp_ifx, wp_idx, wp_slc, wp_rev, wp_call, wp_meth, wp_blt, wp_listR, wp_isi, wp_new, wp_attr, wp_mcall, wp_isc, wp_sset, wps_sta, wp_of1m, cmpE_int, cmpE_str, cmpE_bl, cmpE_tup, cmpE_non, cmpE_ne, cmpE_lt, cmpE_le, cmpE_gt, cmpE_ge, cmpE_isn, cmpE_notn, cmpE_inn, cmpE_nin, wp_star, wp_comp, wp_dct, wp_nil, wp_cons, wp_knil, wp_kcons, wp_onone, wp_osome, wp_iseq, wp_irng, wp_ienum, wp_izip, wp_tslot, wp_ttup, wp_titem, wp_tnil, wp_tcons, wp_fnil, wp_fone, wp_ok, wp_of1, wp_of, wp_of1n, wp_ofn, wp_onB, wp_onBn, wp_calm, wp_bind, wp_ite, wp_exc, wp_bad,
  getL_0, getL_s, bin_add, bin_sub, bin_mul, bin_fdiv, bin_mod, bin_tup, bin_str, cmp_lt, cmp_le, cmp_gt, cmp_ge, cmp_eqI, cmp_eqS, cmp_neI, cmp_neS, cmp_eqB, in_str2, in_str3, truth_bl, truth_int, truth_tup, truth_non, neg_int, intOf_int, tupOf_tup, idx_tup, idx_ref, idxO_lst, atI_0, atI_1, atI_2, atI_3, atI_4, cut_from, cut_to, List.drop_succ_cons, List.drop_zero, List.take_succ_cons, List.take_zero, List.drop_nil, List.take_nil, Int.reduceLE, Int.reduceBEq, blsD_map, blsD_cons, blsD_nil, set_ref, setO_cons, isList_ref, Option.isSome_some, Int.reduceLE, Int.reduceLT, Int.cast_ofNat_Int, Int.reduceToNat, List.getElem?_cons_succ, List.getElem?_cons_zero, Int.reduceNeg, Int.reduceAdd, at_new, and_self, or_true, true_or, true_and, and_true, Int.reducePow, Int.reduceSub, Int.reduceMul, seq_ref, seqO_lst, seqO_frz, lst_ref, lstO_lst, len_ref, list_ref, lisO_lst, append_ref, enWk_tup, enWk_ref, split_str, base_join, base_split, str_int, str_str, int_str, len_str, seqWk_str, extend_tup', extend_ref, base_append, base_extend, base_get, get2_ref, dctO_dct, keyD_int, keyD_str,  tuple_ref, all_ref, any_ref, add_ref, slc_ref, len_tup, list_tup, int_int, int_bl, abs_int, max_int, max_ref, min_int, slc_tup, rev_tup, seqWk_tup, zipWk_tup, rng_one, rng_two, rng_three, wkEnum_items, Option.map_some, Option.bind_some, setAll,
  List.set_cons_zero, List.set_cons_succ, List.set_set, List.foldl_nil, List.foldl_cons, List.length_cons, List.length_nil, List.map_cons, List.map_nil, List.cons_append, List.nil_append, List.replicate_succ, List.replicate_zero, Nat.reduceAdd, Nat.reduceSub, Bool.not_true, Bool.not_false, if_true, if_false, Bool.false_eq_true, decide_eq_true_eq, Nat.reduceLeDiff, lim_lit, wipe, isiD_tup, isiD_str, isiD_int, isiD_bl, isiD_non, isi_tup, isi_str, isi_int, isi_bool, Bool.and_true, Bool.and_false, Bool.true_and, Bool.false_and, tpB_tup, tpB_str, tpB_bl, tpB_int, tpB_non, tpB_ref, isStr_tup, isStr_str, isStr_bl, isStr_int, isStr_non, isStr_ref, isBl_tup, isBl_str, isBl_bl, isBl_int, isBl_non, isBl_ref, isInt_tup, isInt_str, isInt_bl, isInt_int, isInt_non, isInt_ref])
local macro_rules | `(tactic| walk_at "goh") => `(tactic| try simp only [*, Int.reduceBEq, wps_nil, wps_cons, wps_ex, wps_asg, wps_par, wps_ret, wps_cond, wps_loop, wps_brk, wps_cont, wps_pass, wp_ret, wp_slot, wp_cst, wp_tup, wp_lst, wp_bin, wp_neg, wp_cmp, wp_chain, wp_and, wp_or, wp_not, wp_ifx, wp_idx, wp_slc, wp_rev, wp_call, wp_meth, wp_blt, wp_listR, wp_isi, wp_new, wp_attr, wp_mcall, wp_isc, wp_sset, wps_sta, wp_of1m, cmpE_int, cmpE_str, cmpE_bl, cmpE_tup, cmpE_non, cmpE_ne, cmpE_lt, cmpE_le, cmpE_gt, cmpE_ge, cmpE_isn, cmpE_notn, cmpE_inn, cmpE_nin, wp_star, wp_comp, wp_dct, wp_nil, wp_cons, wp_knil, wp_kcons, wp_onone, wp_osome, wp_iseq, wp_irng, wp_ienum, wp_izip, wp_tslot, wp_ttup, wp_titem, wp_tnil, wp_tcons, wp_fnil, wp_fone, wp_ok, wp_of1, wp_of, wp_of1n, wp_ofn, wp_onB, wp_onBn, wp_calm, wp_bind, wp_ite, wp_exc, wp_bad,
  getL_0, getL_s, bin_add, bin_sub, bin_mul, bin_fdiv, bin_mod, bin_tup, bin_str, cmp_lt, cmp_le, cmp_gt, cmp_ge, cmp_eqI, cmp_eqS, cmp_neI, cmp_neS, cmp_eqB, in_str2, in_str3, truth_bl, truth_int, truth_tup, truth_non, neg_int, intOf_int, tupOf_tup, idx_tup, idx_ref, idxO_lst, atI_0, atI_1, atI_2, atI_3, atI_4, cut_from, cut_to, List.drop_succ_cons, List.drop_zero, List.take_succ_cons, List.take_zero, List.drop_nil, List.take_nil, Int.reduceLE, blsD_map, blsD_cons, blsD_nil, set_ref, setO_cons, isList_ref, Option.isSome_some, Int.reduceLE, Int.reduceLT, Int.cast_ofNat_Int, Int.reduceToNat, List.getElem?_cons_succ, List.getElem?_cons_zero, Int.reduceNeg, Int.reduceAdd, at_new, and_self, or_true, true_or, true_and, and_true, Int.reducePow, Int.reduceSub, Int.reduceMul, seq_ref, seqO_lst, seqO_frz, lst_ref, lstO_lst, len_ref, list_ref, lisO_lst, append_ref, enWk_tup, enWk_ref, split_str, base_join, base_split, str_int, str_str, int_str, len_str, seqWk_str, extend_tup', extend_ref, base_append, base_extend, base_get, get2_ref, dctO_dct, keyD_int, keyD_str,  tuple_ref, all_ref, any_ref, add_ref, slc_ref, len_tup, list_tup, int_int, int_bl, abs_int, max_int, max_ref, min_int, slc_tup, rev_tup, seqWk_tup, zipWk_tup, rng_one, rng_two, rng_three, wkEnum_items, Option.map_some, Option.bind_some, setAll,
  List.set_cons_zero, List.set_cons_succ, List.set_set, List.foldl_nil, List.foldl_cons, List.length_cons, List.length_nil, List.map_cons, List.map_nil, List.cons_append, List.nil_append, List.replicate_succ, List.replicate_zero, Nat.reduceAdd, Nat.reduceSub, Bool.not_true, Bool.not_false, if_true, if_false, Bool.false_eq_true, decide_eq_true_eq, Nat.reduceLeDiff, lim_lit, wipe, isiD_tup, isiD_str, isiD_int, isiD_bl, isiD_non, isi_tup, isi_str, isi_int, isi_bool, Bool.and_true, Bool.and_false, Bool.true_and, Bool.false_and, tpB_tup, tpB_str, tpB_bl, tpB_int, tpB_non, tpB_ref, isStr_tup, isStr_str, isStr_bl, isStr_int, isStr_non, isStr_ref, isBl_tup, isBl_str, isBl_bl, isBl_int, isBl_non, isBl_ref, isInt_tup, isInt_str, isInt_bl, isInt_int, isInt_non, isInt_ref])
local macro_rules | `(tactic| walk_at "dr") => `(tactic| (refine draw_ok (by assumption) (by assumption) (by first | assumption | omega | decide) (by first | omega | decide) ?_; intro r A' r0 r1 hp f))
local macro_rules | `(tactic| walk_at "an") => `(tactic| (refine any_ok (by assumption) (by assumption) (Pot.snoc (by assumption) _) at_new (Nat.ne_of_gt (Pot.lt (by assumption))) (by simp) (by simp) ?_; intro d A' hm hp f))
local macro_rules | `(tactic| walk_at "fr") => `(tactic| repeat first | exact Fr.refl _ _ | assumption | refine Fr.snoc ?_ _ | refine Fr.trans ?_ (by assumption) | refine Fr.trans ?_ (Fr.nil (by assumption)))
local macro_rules | `(tactic| walk_at "g1") => `(tactic| try simp only [*, wps_nil, wps_ex, wps_asg, wps_par, wps_ret, wps_cond, wps_loop, wps_brk, wps_cont, wps_pass, wp_ret, wp_slot, wp_cst, wp_tup, wp_lst, wp_bin, wp_neg, wp_cmp, wp_chain, wp_and, wp_or, wp_not, wp_ifx, wp_idx, wp_slc, wp_rev, wp_call, wp_meth, wp_blt, wp_listR, wp_isi, wp_new, wp_attr, wp_mcall, wp_isc, wp_sset, wps_sta, wp_of1m, cmpE_int, cmpE_str, cmpE_bl, cmpE_tup, cmpE_non, cmpE_ne, cmpE_lt, cmpE_le, cmpE_gt, cmpE_ge, cmpE_isn, cmpE_notn, cmpE_inn, cmpE_nin, wp_star, wp_comp, wp_dct, wp_nil, wp_cons, wp_knil, wp_kcons, wp_onone, wp_osome, wp_iseq, wp_irng, wp_ienum, wp_izip, wp_tslot, wp_ttup, wp_titem, wp_tnil, wp_tcons, wp_fnil, wp_fone, wp_ok, wp_of1, wp_of, wp_of1n, wp_ofn, wp_onB, wp_onBn, wp_calm, wp_bind, wp_ite, wp_exc, wp_bad,
  getL_0, getL_s, bin_add, bin_sub, bin_mul, bin_fdiv, bin_mod, bin_tup, bin_str, cmp_lt, cmp_le, cmp_gt, cmp_ge, cmp_eqI, cmp_eqS, cmp_neI, cmp_neS, cmp_eqB, in_str2, in_str3, truth_bl, truth_int, truth_tup, truth_non, neg_int, intOf_int, tupOf_tup, idx_tup, idx_ref, idxO_lst, atI_0, atI_1, atI_2, atI_3, atI_4, cut_from, cut_to, List.drop_succ_cons, List.drop_zero, List.take_succ_cons, List.take_zero, List.drop_nil, List.take_nil, Int.reduceLE, Int.reduceBEq, blsD_map, blsD_cons, blsD_nil, set_ref, setO_cons, isList_ref, Option.isSome_some, Int.reduceLE, Int.reduceLT, Int.cast_ofNat_Int, Int.reduceToNat, List.getElem?_cons_succ, List.getElem?_cons_zero, Int.reduceNeg, Int.reduceAdd, at_new, and_self, or_true, true_or, true_and, and_true, Int.reducePow, Int.reduceSub, Int.reduceMul, seq_ref, seqO_lst, seqO_frz, lst_ref, lstO_lst, len_ref, list_ref, lisO_lst, append_ref, enWk_tup, enWk_ref, split_str, base_join, base_split, str_int, str_str, int_str, len_str, seqWk_str, extend_tup', extend_ref, base_append, base_extend, base_get, get2_ref, dctO_dct, keyD_int, keyD_str,  tuple_ref, all_ref, any_ref, add_ref, slc_ref, len_tup, list_tup, int_int, int_bl, abs_int, max_int, max_ref, min_int, slc_tup, rev_tup, seqWk_tup, zipWk_tup, rng_one, rng_two, rng_three, wkEnum_items, Option.map_some, Option.bind_some, setAll,
  List.set_cons_zero, List.set_cons_succ, List.set_set, List.foldl_nil, List.foldl_cons, List.length_cons, List.length_nil, List.map_cons, List.map_nil, List.cons_append, List.nil_append, List.replicate_succ, List.replicate_zero, Nat.reduceAdd, Nat.reduceSub, Bool.not_true, Bool.not_false, if_true, if_false, Bool.false_eq_true, decide_eq_true_eq, Nat.reduceLeDiff, lim_lit, wipe, isiD_tup, isiD_str, isiD_int, isiD_bl, isiD_non, isi_tup, isi_str, isi_int, isi_bool, Bool.and_true, Bool.and_false, Bool.true_and, Bool.false_and, tpB_tup, tpB_str, tpB_bl, tpB_int, tpB_non, tpB_ref, isStr_tup, isStr_str, isStr_bl, isStr_int, isStr_non, isStr_ref, isBl_tup, isBl_str, isBl_bl, isBl_int, isBl_non, isBl_ref, isInt_tup, isInt_str, isInt_bl, isInt_int, isInt_non, isInt_ref])
local macro_rules | `(tactic| walk_at "go1") => `(tactic| try simp only [wps_nil, wps_ex, wps_asg, wps_par, wps_ret, wps_cond, wps_loop, wps_brk, wps_cont, wps_pass, wp_ret, wp_slot, wp_cst, wp_tup, wp_lst, wp_bin, wp_neg, wp_cmp, wp_chain, wp_and, wp_or, wp_not, wp_ifx, wp_idx, wp_slc, wp_rev, wp_call, wp_meth, wp_blt, wp_listR, wp_isi, wp_new, wp_attr, wp_mcall, wp_isc, wp_sset, wps_sta, wp_of1m, cmpE_int, cmpE_str, cmpE_bl, cmpE_tup, cmpE_non, cmpE_ne, cmpE_lt, cmpE_le, cmpE_gt, cmpE_ge, cmpE_isn, cmpE_notn, cmpE_inn, cmpE_nin, wp_star, wp_comp, wp_dct, wp_nil, wp_cons, wp_knil, wp_kcons, wp_onone, wp_osome, wp_iseq, wp_irng, wp_ienum, wp_izip, wp_tslot, wp_ttup, wp_titem, wp_tnil, wp_tcons, wp_fnil, wp_fone, wp_ok, wp_of1, wp_of, wp_of1n, wp_ofn, wp_onB, wp_onBn, wp_calm, wp_bind, wp_ite, wp_exc, wp_bad,
  getL_0, getL_s, bin_add, bin_sub, bin_mul, bin_fdiv, bin_mod, bin_tup, bin_str, cmp_lt, cmp_le, cmp_gt, cmp_ge, cmp_eqI, cmp_eqS, cmp_neI, cmp_neS, cmp_eqB, in_str2, in_str3, truth_bl, truth_int, truth_tup, truth_non, neg_int, intOf_int, tupOf_tup, idx_tup, idx_ref, idxO_lst, atI_0, atI_1, atI_2, atI_3, atI_4, cut_from, cut_to, List.drop_succ_cons, List.drop_zero, List.take_succ_cons, List.take_zero, List.drop_nil, List.take_nil, Int.reduceLE, Int.reduceBEq, blsD_map, blsD_cons, blsD_nil, set_ref, setO_cons, isList_ref, Option.isSome_some, Int.reduceLE, Int.reduceLT, Int.cast_ofNat_Int, Int.reduceToNat, List.getElem?_cons_succ, List.getElem?_cons_zero, Int.reduceNeg, Int.reduceAdd, at_new, and_self, or_true, true_or, true_and, and_true, Int.reducePow, Int.reduceSub, Int.reduceMul, seq_ref, seqO_lst, seqO_frz, lst_ref, lstO_lst, len_ref, list_ref, lisO_lst, append_ref, enWk_tup, enWk_ref, split_str, base_join, base_split, str_int, str_str, int_str, len_str, seqWk_str, extend_tup', extend_ref, base_append, base_extend, base_get, get2_ref, dctO_dct, keyD_int, keyD_str,  tuple_ref, all_ref, any_ref, add_ref, slc_ref, len_tup, list_tup, int_int, int_bl, abs_int, max_int, max_ref, min_int, slc_tup, rev_tup, seqWk_tup, zipWk_tup, rng_one, rng_two, rng_three, wkEnum_items, Option.map_some, Option.bind_some, setAll,
  List.set_cons_zero, List.set_cons_succ, List.set_set, List.foldl_nil, List.foldl_cons, List.length_cons, List.length_nil, List.map_cons, List.map_nil, List.cons_append, List.nil_append, List.replicate_succ, List.replicate_zero, Nat.reduceAdd, Nat.reduceSub, Bool.not_true, Bool.not_false, if_true, if_false, Bool.false_eq_true, decide_eq_true_eq, Nat.reduceLeDiff, lim_lit, wipe, isiD_tup, isiD_str, isiD_int, isiD_bl, isiD_non, isi_tup, isi_str, isi_int, isi_bool, Bool.and_true, Bool.and_false, Bool.true_and, Bool.false_and, tpB_tup, tpB_str, tpB_bl, tpB_int, tpB_non, tpB_ref, isStr_tup, isStr_str, isStr_bl, isStr_int, isStr_non, isStr_ref, isBl_tup, isBl_str, isBl_bl, isBl_int, isBl_non, isBl_ref, isInt_tup, isInt_str, isInt_bl, isInt_int, isInt_non, isInt_ref])
section
variable {P : CProg} {k p : Nat} {A : AH} {Q : D → AH → Prop} {E : Ex → AH → Prop}
theorem par0 {m : Int} {hs : List Int} {ts : List (List Int)} : idxD (parD m hs ts) (.int 0) A = some (.int m) := atI_0
theorem par1 {m : Int} {hs : List Int} {ts : List (List Int)} : idxD (parD m hs ts) (.int 1) A = some (hueD hs) := atI_1
theorem par2 {m : Int} {hs : List Int} {ts : List (List Int)} : idxD (parD m hs ts) (.int 2) A = some (tieD ts) := atI_2
theorem noset {n : Nat} {m : Int} {hs : List Int} {ts : List (List Int)} (h : A[n]? = some (webO m hs ts)) : setOf (.ref n) A = none := by simp only [setOf, h, webO]
/-- web == web -/
theorem eq_webs (h : Is69 P) {a b : Nat} {m m' : Int} {hs hs' : List Int} {ts ts' : List (List Int)} (ha : A[a]? = some (webO m hs ts)) (hb : A[b]? = some (webO m' hs' ts')) (q : Q (.bl (decide (m = m' ∧ hs = hs' ∧ ts = ts'))) A) :
    Wp (cmpE P (fns P (k + 1)) .eq (.ref a) (.ref b) A) Q E := by
  rw [wp_own ha (meth_eq h) (noset hb)]
  exact eq21 h ha hb q
theorem read18 (h : Is69 P) {m : Int} {hs : List Int} {ts : List (List Int)} (ok : Ok3 m hs ts) {w : Nat} (hw : A[w]? = some (webO m hs ts)) (go : ∀ A', Fr [] A A' → Q (.bl true) A') :
    Wp ((fns P (k + 7)).call 18 [.str (S (webT m hs ts)), parD m hs ts, .ref w] A) Q E := by
  rw [wp_def h.d18 rfl]; unfold b69_18
  rw [wps_cons]
  walk_at "go1"
  refine read9 h ok fun n A1 f1 h1 => ?_
  walk_at "go1"
  rw [wps_cons]
  walk_at "go1"
  rw [isc_ins h1]
  walk_at "go1"
  rw [attr_many h h1]
  walk_at "go1"
  rw [attr_hues h h1]
  walk_at "go1"
  rw [attr_ties h h1]
  walk_at "go1"
  refine same_par (k := k + 2) h ok fun A2 f2 => ?_
  walk_at "go1"
  rw [wps_cons]
  walk_at "go1"
  have g1 := f2.get h1 (by simp)
  have gw := (f1.trans f2).get hw (by simp)
  refine eq_webs (k := k + 5) h g1 gw ?_
  simp only [and_self, decide_true]
  walk_at "go1"
  refine eq_webs (k := k + 5) h gw g1 ?_
  simp only [and_self, decide_true]
  walk_at "go1"
  refine web7 (k := k + 4) h ok g1 fun A3 f3 => ?_
  walk_at "go1"
  rw [SX.S_beq_eq]
  simp only [decide_true]
  exact go _ ((f1.trans f2).trans f3)
end
end Kin
end
section
set_option linter.all false
set_option maxRecDepth 100000
namespace Kin
open PySem
local macro_rules | `(tactic| walk_at "go") => `(tactic| try simp only [wps_nil, wps_cons, wps_ex, wps_asg, wps_par, wps_ret, wps_cond, wps_loop, wps_brk, wps_cont, wps_pass, wp_ret, wp_slot, wp_cst, wp_tup, wp_lst, wp_bin, wp_neg, wp_cmp, wp_chain, wp_and, wp_or, wp_not, wp_ifx, wp_idx, wp_slc, wp_rev, wp_call, wp_meth, wp_blt, wp_listR, wp_isi, wp_new, wp_attr, wp_mcall, wp_isc, wp_sset, wps_sta, wp_of1m, cmpE_int, cmpE_str, cmpE_bl, cmpE_tup, cmpE_non, cmpE_ne, cmpE_lt, cmpE_le, cmpE_gt, cmpE_ge, cmpE_isn, cmpE_notn, cmpE_inn, cmpE_nin, wp_star, wp_comp, wp_dct, wp_nil, wp_cons, wp_knil, wp_kcons, wp_onone, wp_osome, wp_iseq, wp_irng, wp_ienum, wp_izip, wp_tslot, wp_ttup, wp_titem, wp_tnil, wp_tcons, wp_fnil, wp_fone, wp_ok, wp_of1, wp_of, wp_of1n, wp_ofn, wp_onB, wp_onBn, wp_calm, wp_bind, wp_ite, wp_exc, wp_bad,
  getL_0, getL_s, bin_add, bin_sub, bin_mul, bin_fdiv, bin_mod, bin_tup, bin_str, cmp_lt, cmp_le, cmp_gt, cmp_ge, cmp_eqI, cmp_eqS, cmp_neI, cmp_neS, cmp_eqB, in_str2, in_str3, truth_bl, truth_int, truth_tup, truth_non, neg_int, intOf_int, tupOf_tup, idx_tup, idx_ref, idxO_lst, atI_0, atI_1, atI_2, atI_3, atI_4, cut_from, cut_to, List.drop_succ_cons, List.drop_zero, List.take_succ_cons, List.take_zero, List.drop_nil, List.take_nil, Int.reduceLE, Int.reduceBEq, blsD_map, blsD_cons, blsD_nil, set_ref, setO_cons, isList_ref, Option.isSome_some, Int.reduceLE, Int.reduceLT, Int.cast_ofNat_Int, Int.reduceToNat, List.getElem?_cons_succ, List.getElem?_cons_zero, Int.reduceNeg, Int.reduceAdd, at_new, and_self, or_true, true_or, true_and, and_true, Int.reducePow, Int.reduceSub, Int.reduceMul, seq_ref, seqO_lst, seqO_frz, lst_ref, lstO_lst, len_ref, list_ref, lisO_lst, append_ref, enWk_tup, enWk_ref, split_str, base_join, base_split, str_int, str_str, int_str, len_str, seqWk_str, extend_tup', extend_ref, base_append, base_extend, base_get, get2_ref, dctO_dct, keyD_int, keyD_str,  tuple_ref, all_ref, any_ref, add_ref, slc_ref, len_tup, list_tup, int_int, int_bl, abs_int, max_int, max_ref, min_int, slc_tup, rev_tup, seqWk_tup, zipWk_tup, rng_one, rng_two, rng_three, wkEnum_items, Option.map_some, Option.bind_some, setAll,
  List.set_cons_zero, List.set_cons_succ, List.set_set, List.foldl_nil, List.foldl_cons, List.length_cons, List.length_nil, List.map_cons, List.map_nil, List.cons_append, List.nil_append, List.replicate_succ, List.replicate_zero, Nat.reduceAdd, Nat.reduceSub, Bool.not_true, Bool.not_false, if_true, if_false, Bool.false_eq_true, decide_eq_true_eq, Nat.reduceLeDiff, lim_lit, wipe, isiD_tup, isiD_str, isiD_int, isiD_bl, isiD_non, isi_tup, isi_str, isi_int, isi_bool, Bool.and_true, Bool.and_false, Bool.true_and, Bool.false_and, tpB_tup, tpB_str, tpB_bl, tpB_int, tpB_non, tpB_ref, isStr_tup, isStr_str, isStr_bl, isStr_int, isStr_non, isStr_ref, isBl_tup, isBl_str, isBl_bl, isBl_int, isBl_non, isBl_ref, isInt_tup, isInt_str, isInt_bl, isInt_int, isInt_non, isInt_ref])
local macro_rules | `(tactic| walk_at "goh") => `(tactic| try simp only [*, Int.reduceBEq, wps_nil, wps_cons, wps_ex, wps_asg, wps_par, wps_ret, wps_cond, wps_loop, wps_brk, wps_cont, wps_pass, wp_ret, wp_slot, wp_cst, wp_tup, wp_lst, wp_bin, wp_neg, wp_cmp, wp_chain, wp_and, wp_or, wp_not, wp_ifx, wp_idx, wp_slc, wp_rev, wp_call, wp_meth, wp_blt, wp_listR, wp_isi, wp_new, wp_attr, wp_mcall, wp_isc, wp_sset, wps_sta, wp_of1m, cmpE_int, cmpE_str, cmpE_bl, cmpE_tup, cmpE_non, cmpE_ne, cmpE_lt, cmpE_le, cmpE_gt, cmpE_ge, cmpE_isn, cmpE_notn, cmpE_inn, cmpE_nin, wp_star, wp_comp, wp_dct, wp_nil, wp_cons, wp_knil, wp_kcons, wp_onone, wp_osome, wp_iseq, wp_irng, wp_ienum, wp_izip, wp_tslot, wp_ttup, wp_titem, wp_tnil, wp_tcons, wp_fnil, wp_fone, wp_ok, wp_of1, wp_of, wp_of1n, wp_ofn, wp_onB, wp_onBn, wp_calm, wp_bind, wp_ite, wp_exc, wp_bad,
  getL_0, getL_s, bin_add, bin_sub, bin_mul, bin_fdiv, bin_mod, bin_tup, bin_str, cmp_lt, cmp_le, cmp_gt, cmp_ge, cmp_eqI, cmp_eqS, cmp_neI, cmp_neS, cmp_eqB, in_str2, in_str3, truth_bl, truth_int, truth_tup, truth_non, neg_int, intOf_int, tupOf_tup, idx_tup, idx_ref, idxO_lst, atI_0, atI_1, atI_2, atI_3, atI_4, cut_from, cut_to, List.drop_succ_cons, List.drop_zero, List.take_succ_cons, List.take_zero, List.drop_nil, List.take_nil, Int.reduceLE, blsD_map, blsD_cons, blsD_nil, set_ref, setO_cons, isList_ref, Option.isSome_some, Int.reduceLE, Int.reduceLT, Int.cast_ofNat_Int, Int.reduceToNat, List.getElem?_cons_succ, List.getElem?_cons_zero, Int.reduceNeg, Int.reduceAdd, at_new, and_self, or_true, true_or, true_and, and_true, Int.reducePow, Int.reduceSub, Int.reduceMul, seq_ref, seqO_lst, seqO_frz, lst_ref, lstO_lst, len_ref, list_ref, lisO_lst, append_ref, enWk_tup, enWk_ref, split_str, base_join, base_split, str_int, str_str, int_str, len_str, seqWk_str, extend_tup', extend_ref, base_append, base_extend, base_get, get2_ref, dctO_dct, keyD_int, keyD_str,  tuple_ref, all_ref, any_ref, add_ref, slc_ref, len_tup, list_tup, int_int, int_bl, abs_int, max_int, max_ref, min_int, slc_tup, rev_tup, seqWk_tup, zipWk_tup, rng_one, rng_two, rng_three, wkEnum_items, Option.map_some, Option.bind_some, setAll,
  List.set_cons_zero, List.set_cons_succ, List.set_set, List.foldl_nil, List.foldl_cons, List.length_cons, List.length_nil, List.map_cons, List.map_nil, List.cons_append, List.nil_append, List.replicate_succ, List.replicate_zero, Nat.reduceAdd, Nat.reduceSub, Bool.not_true, Bool.not_false, if_true, if_false, Bool.false_eq_true, decide_eq_true_eq, Nat.reduceLeDiff, lim_lit, wipe, isiD_tup, isiD_str, isiD_int, isiD_bl, isiD_non, isi_tup, isi_str, isi_int, isi_bool, Bool.and_true, Bool.and_false, Bool.true_and, Bool.false_and, tpB_tup, tpB_str, tpB_bl, tpB_int, tpB_non, tpB_ref, isStr_tup, isStr_str, isStr_bl, isStr_int, isStr_non, isStr_ref, isBl_tup, isBl_str, isBl_bl, isBl_int, isBl_non, isBl_ref, isInt_tup, isInt_str, isInt_bl, isInt_int, isInt_non, isInt_ref])
local macro_rules | `(tactic| walk_at "dr") => `(tactic| (refine draw_ok (by assumption) (by assumption) (by first | assumption | omega | decide) (by first | omega | decide) ?_; intro r A' r0 r1 hp f))
local macro_rules | `(tactic| walk_at "an") => `(tactic| (refine any_ok (by assumption) (by assumption) (Pot.snoc (by assumption) _) at_new (Nat.ne_of_gt (Pot.lt (by assumption))) (by simp) (by simp) ?_; intro d A' hm hp f))
local macro_rules | `(tactic| walk_at "fr") => `(tactic| repeat first | exact Fr.refl _ _ | assumption | refine Fr.snoc ?_ _ | refine Fr.trans ?_ (by assumption) | refine Fr.trans ?_ (Fr.nil (by assumption)))
local macro_rules | `(tactic| walk_at "g1") => `(tactic| try simp only [*, wps_nil, wps_ex, wps_asg, wps_par, wps_ret, wps_cond, wps_loop, wps_brk, wps_cont, wps_pass, wp_ret, wp_slot, wp_cst, wp_tup, wp_lst, wp_bin, wp_neg, wp_cmp, wp_chain, wp_and, wp_or, wp_not, wp_ifx, wp_idx, wp_slc, wp_rev, wp_call, wp_meth, wp_blt, wp_listR, wp_isi, wp_new, wp_attr, wp_mcall, wp_isc, wp_sset, wps_sta, wp_of1m, cmpE_int, cmpE_str, cmpE_bl, cmpE_tup, cmpE_non, cmpE_ne, cmpE_lt, cmpE_le, cmpE_gt, cmpE_ge, cmpE_isn, cmpE_notn, cmpE_inn, cmpE_nin, wp_star, wp_comp, wp_dct, wp_nil, wp_cons, wp_knil, wp_kcons, wp_onone, wp_osome, wp_iseq, wp_irng, wp_ienum, wp_izip, wp_tslot, wp_ttup, wp_titem, wp_tnil, wp_tcons, wp_fnil, wp_fone, wp_ok, wp_of1, wp_of, wp_of1n, wp_ofn, wp_onB, wp_onBn, wp_calm, wp_bind, wp_ite, wp_exc, wp_bad,
  getL_0, getL_s, bin_add, bin_sub, bin_mul, bin_fdiv, bin_mod, bin_tup, bin_str, cmp_lt, cmp_le, cmp_gt, cmp_ge, cmp_eqI, cmp_eqS, cmp_neI, cmp_neS, cmp_eqB, in_str2, in_str3, truth_bl, truth_int, truth_tup, truth_non, neg_int, intOf_int, tupOf_tup, idx_tup, idx_ref, idxO_lst, atI_0, atI_1, atI_2, atI_3, atI_4, cut_from, cut_to, List.drop_succ_cons, List.drop_zero, List.take_succ_cons, List.take_zero, List.drop_nil, List.take_nil, Int.reduceLE, Int.reduceBEq, blsD_map, blsD_cons, blsD_nil, set_ref, setO_cons, isList_ref, Option.isSome_some, Int.reduceLE, Int.reduceLT, Int.cast_ofNat_Int, Int.reduceToNat, List.getElem?_cons_succ, List.getElem?_cons_zero, Int.reduceNeg, Int.reduceAdd, at_new, and_self, or_true, true_or, true_and, and_true, Int.reducePow, Int.reduceSub, Int.reduceMul, seq_ref, seqO_lst, seqO_frz, lst_ref, lstO_lst, len_ref, list_ref, lisO_lst, append_ref, enWk_tup, enWk_ref, split_str, base_join, base_split, str_int, str_str, int_str, len_str, seqWk_str, extend_tup', extend_ref, base_append, base_extend, base_get, get2_ref, dctO_dct, keyD_int, keyD_str,  tuple_ref, all_ref, any_ref, add_ref, slc_ref, len_tup, list_tup, int_int, int_bl, abs_int, max_int, max_ref, min_int, slc_tup, rev_tup, seqWk_tup, zipWk_tup, rng_one, rng_two, rng_three, wkEnum_items, Option.map_some, Option.bind_some, setAll,
  List.set_cons_zero, List.set_cons_succ, List.set_set, List.foldl_nil, List.foldl_cons, List.length_cons, List.length_nil, List.map_cons, List.map_nil, List.cons_append, List.nil_append, List.replicate_succ, List.replicate_zero, Nat.reduceAdd, Nat.reduceSub, Bool.not_true, Bool.not_false, if_true, if_false, Bool.false_eq_true, decide_eq_true_eq, Nat.reduceLeDiff, lim_lit, wipe, isiD_tup, isiD_str, isiD_int, isiD_bl, isiD_non, isi_tup, isi_str, isi_int, isi_bool, Bool.and_true, Bool.and_false, Bool.true_and, Bool.false_and, tpB_tup, tpB_str, tpB_bl, tpB_int, tpB_non, tpB_ref, isStr_tup, isStr_str, isStr_bl, isStr_int, isStr_non, isStr_ref, isBl_tup, isBl_str, isBl_bl, isBl_int, isBl_non, isBl_ref, isInt_tup, isInt_str, isInt_bl, isInt_int, isInt_non, isInt_ref])
local macro_rules | `(tactic| walk_at "go1") => `(tactic| try simp only [wps_nil, wps_ex, wps_asg, wps_par, wps_ret, wps_cond, wps_loop, wps_brk, wps_cont, wps_pass, wp_ret, wp_slot, wp_cst, wp_tup, wp_lst, wp_bin, wp_neg, wp_cmp, wp_chain, wp_and, wp_or, wp_not, wp_ifx, wp_idx, wp_slc, wp_rev, wp_call, wp_meth, wp_blt, wp_listR, wp_isi, wp_new, wp_attr, wp_mcall, wp_isc, wp_sset, wps_sta, wp_of1m, cmpE_int, cmpE_str, cmpE_bl, cmpE_tup, cmpE_non, cmpE_ne, cmpE_lt, cmpE_le, cmpE_gt, cmpE_ge, cmpE_isn, cmpE_notn, cmpE_inn, cmpE_nin, wp_star, wp_comp, wp_dct, wp_nil, wp_cons, wp_knil, wp_kcons, wp_onone, wp_osome, wp_iseq, wp_irng, wp_ienum, wp_izip, wp_tslot, wp_ttup, wp_titem, wp_tnil, wp_tcons, wp_fnil, wp_fone, wp_ok, wp_of1, wp_of, wp_of1n, wp_ofn, wp_onB, wp_onBn, wp_calm, wp_bind, wp_ite, wp_exc, wp_bad,
  getL_0, getL_s, bin_add, bin_sub, bin_mul, bin_fdiv, bin_mod, bin_tup, bin_str, cmp_lt, cmp_le, cmp_gt, cmp_ge, cmp_eqI, cmp_eqS, cmp_neI, cmp_neS, cmp_eqB, in_str2, in_str3, truth_bl, truth_int, truth_tup, truth_non, neg_int, intOf_int, tupOf_tup, idx_tup, idx_ref, idxO_lst, atI_0, atI_1, atI_2, atI_3, atI_4, cut_from, cut_to, List.drop_succ_cons, List.drop_zero, List.take_succ_cons, List.take_zero, List.drop_nil, List.take_nil, Int.reduceLE, Int.reduceBEq, blsD_map, blsD_cons, blsD_nil, set_ref, setO_cons, isList_ref, Option.isSome_some, Int.reduceLE, Int.reduceLT, Int.cast_ofNat_Int, Int.reduceToNat, List.getElem?_cons_succ, List.getElem?_cons_zero, Int.reduceNeg, Int.reduceAdd, at_new, and_self, or_true, true_or, true_and, and_true, Int.reducePow, Int.reduceSub, Int.reduceMul, seq_ref, seqO_lst, seqO_frz, lst_ref, lstO_lst, len_ref, list_ref, lisO_lst, append_ref, enWk_tup, enWk_ref, split_str, base_join, base_split, str_int, str_str, int_str, len_str, seqWk_str, extend_tup', extend_ref, base_append, base_extend, base_get, get2_ref, dctO_dct, keyD_int, keyD_str,  tuple_ref, all_ref, any_ref, add_ref, slc_ref, len_tup, list_tup, int_int, int_bl, abs_int, max_int, max_ref, min_int, slc_tup, rev_tup, seqWk_tup, zipWk_tup, rng_one, rng_two, rng_three, wkEnum_items, Option.map_some, Option.bind_some, setAll,
  List.set_cons_zero, List.set_cons_succ, List.set_set, List.foldl_nil, List.foldl_cons, List.length_cons, List.length_nil, List.map_cons, List.map_nil, List.cons_append, List.nil_append, List.replicate_succ, List.replicate_zero, Nat.reduceAdd, Nat.reduceSub, Bool.not_true, Bool.not_false, if_true, if_false, Bool.false_eq_true, decide_eq_true_eq, Nat.reduceLeDiff, lim_lit, wipe, isiD_tup, isiD_str, isiD_int, isiD_bl, isiD_non, isi_tup, isi_str, isi_int, isi_bool, Bool.and_true, Bool.and_false, Bool.true_and, Bool.false_and, tpB_tup, tpB_str, tpB_bl, tpB_int, tpB_non, tpB_ref, isStr_tup, isStr_str, isStr_bl, isStr_int, isStr_non, isStr_ref, isBl_tup, isBl_str, isBl_bl, isBl_int, isBl_non, isBl_ref, isInt_tup, isInt_str, isInt_bl, isInt_int, isInt_non, isInt_ref])
def turnR : List CS :=
  [.asg (.slot 4) (.call 17 [(.slot 1), (.slot 3)]),
  .par [5, 6] [(.new 0 [(.idx (.slot 3) (.cst (.int 0))), (.idx (.slot 3) (.cst (.int 1))), (.idx (.slot 3) (.cst (.int 2)))]), (.new 0 [(.idx (.slot 4) (.cst (.int 0))), (.idx (.slot 4) (.cst (.int 1))), (.idx (.slot 4) (.cst (.int 2)))])],
  .par [7, 8] [(.call 15 [(.slot 3)]), (.call 15 [(.slot 4)])],
  .cond (.or (.not (.call 13 [(.call 7 [(.slot 5)]), (.slot 7)])) (.or (.not (.call 13 [(.call 7 [(.slot 6)]), (.slot 8)])) (.cmp .eq (.slot 7) (.slot 8))))
 [.ret (.cst (.bl false))]
 [],
  .cond (.or (.not (.call 18 [(.slot 7), (.slot 3), (.slot 5)])) (.or (.not (.call 18 [(.slot 8), (.slot 4), (.slot 6)])) (.cmp .eq (.slot 5) (.slot 6))))
 [.ret (.cst (.bl false))]
 [],
  .cond (.or (.cmp .ne (.call 7 [(.slot 5)]) (.slot 7)) (.not (.call 13 [(.tup [(.attr (.slot 5) ("many" : Str)), (.attr (.slot 5) ("hues" : Str)), (.attr (.slot 5) ("ties" : Str))]), (.slot 3)])))
 [.ret (.cst (.bl false))]
 []]
section
variable {P : CProg} {k p : Nat} {A : AH}
theorem turn_rest (h : Is69 P) {m : Int} {hs : List Int} {ts : List (List Int)} (ok : Ok3 m hs ts) (hp : Pot p A) {l0 l2 l4 l5 l6 l7 l8 : Option D} {Q : SQ}
    (go : ∀ l3 l4 l5 l6 l7 l8 A', Pot p A' → Q.nx [l0, some (.ref p), l2, l3, l4, l5, l6, l7, l8] A') :
    WpS (evSs P (fns P (k + 8)) turnR [l0, some (.ref p), l2, some (parD m hs ts), l4, l5, l6, l7, l8] A) Q := by
  unfold turnR
  obtain ⟨c, hp⟩ := hp.named
  rw [wps_cons]
  walk_at "go1"
  refine other17 (k := k + 6) h ok hp fun m' hs' ts' A1 ok' df hp1 f1 => ?_
  walk_at "go1"
  rw [wps_cons]
  walk_at "go1"
  simp only [par0, par1, par2]
  walk_at "go1"
  refine new0 (k := k + 3) h ok fun A2 f2 w2 => ?_
  walk_at "go1"
  refine new0 (k := k + 3) h ok' fun A3 f3 w3 => ?_
  generalize A1.length = n1 at w2 ⊢
  generalize A2.length = n2 at w3 ⊢
  walk_at "go1"
  rw [wps_cons]
  walk_at "go1"
  refine text15 (k := k + 7) h ok fun A4 f4 => ?_
  walk_at "go1"
  refine text15 (k := k + 7) h ok' fun A5 f5 => ?_
  walk_at "go1"
  have g5 := f4.trans f5
  have w5 := (f3.trans g5).get w2 (by simp)
  have v5 := g5.get w3 (by simp)
  have hp5 : Pot p A5 := (hp1.fr ((f2.trans f3).trans g5)).pot
  have ne : webT m hs ts ≠ webT m' hs' ts' := fun e => df (web_inj ok ok' e)
  rw [wps_cons]
  walk_at "go1"
  refine web7 (k := k + 6) h ok w5 fun A6 f6 => ?_
  walk_at "go1"
  refine same_str (k := k + 7) h ?_
  walk_at "go1"
  simp only [SX.S_beq_eq, decide_true, Bool.not_true, Bool.false_eq_true, if_false]
  walk_at "go1"
  refine web7 (k := k + 6) h ok' (f6.get v5 (by simp)) fun A7 f7 => ?_
  walk_at "go1"
  refine same_str (k := k + 7) h ?_
  walk_at "go1"
  simp only [SX.S_beq_eq, decide_true, Bool.not_true, Bool.false_eq_true, if_false]
  walk_at "go1"
  simp only [SX.S_beq_eq, ne, decide_false, Bool.false_eq_true, if_false]
  walk_at "go1"
  have f67 := f6.trans f7
  have w7 := f67.get w5 (by simp)
  have v7 := f67.get v5 (by simp)
  rw [wps_cons]
  walk_at "go1"
  refine read18 (k := k + 1) h ok w7 fun A8 f8 => ?_
  walk_at "go1"
  refine read18 (k := k + 1) h ok' (f8.get v7 (by simp)) fun A9 f9 => ?_
  walk_at "go1"
  have f89 := f8.trans f9
  have w9 := f89.get w7 (by simp)
  have v9 := f89.get v7 (by simp)
  refine eq_webs (k := k + 7) h w9 v9 ?_
  rw [show decide (m = m' ∧ hs = hs' ∧ ts = ts') = false from decide_eq_false df]
  walk_at "go1"
  rw [wps_cons]
  walk_at "go1"
  refine web7 (k := k + 6) h ok w9 fun A10 f10 => ?_
  walk_at "go1"
  simp only [SX.S_beq_eq, decide_true, Bool.not_true, Bool.false_eq_true, if_false]
  walk_at "go1"
  have w10 := f10.get w9 (by simp)
  rw [attr_many h w10]
  walk_at "go1"
  rw [attr_hues h w10]
  walk_at "go1"
  rw [attr_ties h w10]
  walk_at "go1"
  refine same_par (k := k + 4) h ok fun A11 f11 => ?_
  walk_at "go1"
  exact go _ _ _ _ _ _ _ (hp5.fr ((f67.trans f89).trans (f10.trans f11)))
theorem law19 (h : Is69 P) {ns : List Int} (hl : ns.length ≤ 63) : Wp ((fns P (k + 9)).call 19 [.ref 0] [.frz (ns.map D.int)]) (fun d _ => d = .bl true) (fun _ _ => False) := by
  rw [wp_def h.d19 rfl]
  have e : b69_19 = [.asg (.slot 1) (.call 10 [(.slot 0)]),
    .loop (.slot 2) (.rng [(.cst (.int 4))])
      (.asg (.slot 3) (.call 14 [(.slot 1), (.call 12 [(.slot 1), (.lst [(.cst (.int 1)), (.cst (.int 4)), (.cst (.int 12)), (.cst (.int 40))])]), (.cst (.int 4)), (.cst (.int 10)), (.call 12 [(.slot 1), (.lst [(.cst (.int 0)), (.cst (.int 3)), (.cst (.int 12)), (.cst (.int 60))])])]) ::
       .cond (.and (.cmp .eq (.slot 2) (.cst (.int 3))) (.cmp .eq (.call 11 [(.slot 1), (.cst (.int 24))]) (.cst (.int 0)))) [.asg (.slot 3) (.call 16 [(.slot 1)])] [] :: turnR),
    .ret (.cst (.bl true))] := rfl
  rw [e]
  generalize eT : turnR = T
  rw [wps_cons]
  walk_at "go1"
  refine pot_ok (k' := k + 7) h.d10 rfl hl fun p A1 hp f1 al => ?_
  walk_at "go1"
  rw [wps_cons]
  walk_at "go1"
  rw [okR_of (by omega) (by omega) (by omega) (by omega)]
  simp only [if_true, wp_of1]
  refine loop_items (fun i L B => ∃ l2 l3 l4 l5 l6 l7 l8, L = [some (.ref 0), some (.ref p), l2, l3, l4, l5, l6, l7, l8] ∧ Pot p B) (by rw [rngItems_len]; simp [fuel]) ⟨_, _, _, _, _, _, _, rfl, hp⟩ (fun i d L B hd ⟨l2, l3, l4, l5, l6, l7, l8, hL, hpB⟩ => ?_) fun L B ⟨l2, l3, l4, l5, l6, l7, l8, hL, hpB⟩ => ?_
  · subst hL
    obtain ⟨ed, hi⟩ := rngItems_at hd
    subst ed
    simp only [wp_ofE]
    walk_at "go1"
    rw [wps_cons]
    walk_at "go1"
    refine any_ok (k' := k + 6) h.d11 h.d12 (hpB.snoc _) at_new (Nat.ne_of_gt hpB.lt) (by simp) (by simp) fun d1 A2 hd1 hp2 f2 => ?_
    walk_at "go1"
    refine any_ok (k' := k + 6) h.d11 h.d12 (hp2.snoc _) at_new (Nat.ne_of_gt hp2.lt) (by simp) (by simp) fun d2 A3 hd2 hp3 f3 => ?_
    walk_at "go1"
    obtain ⟨a, ea, ha⟩ : ∃ a : Int, d1 = .int a ∧ 1 ≤ a ∧ a ≤ 40 := by
      simp only [List.mem_cons, List.not_mem_nil, or_false] at hd1
      rcases hd1 with e | e | e | e
      · exact ⟨_, e, by omega, by omega⟩
      · exact ⟨_, e, by omega, by omega⟩
      · exact ⟨_, e, by omega, by omega⟩
      · exact ⟨_, e, by omega, by omega⟩
    obtain ⟨b, eb, hb⟩ : ∃ a : Int, d2 = .int a ∧ 0 ≤ a ∧ a ≤ 60 := by
      simp only [List.mem_cons, List.not_mem_nil, or_false] at hd2
      rcases hd2 with e | e | e | e
      · exact ⟨_, e, by omega, by omega⟩
      · exact ⟨_, e, by omega, by omega⟩
      · exact ⟨_, e, by omega, by omega⟩
      · exact ⟨_, e, by omega, by omega⟩
    subst ea eb
    obtain ⟨c, hc⟩ := hp3.named
    refine parts14 (k := k + 6) h ha hb hc fun m hs ts A4 ok hc4 f4 => ?_
    walk_at "go1"
    have fin : ∀ {m : Int} {hs : List Int} {ts : List (List Int)} {B : AH} {Q' : SQ}, Ok3 m hs ts → Pot p B → (∀ l3 l4 l5 l6 l7 l8 A', Pot p A' → Q'.nx [some (.ref 0), some (.ref p), some (.int (0 + (i : Nat))), l3, l4, l5, l6, l7, l8] A') →
        WpS (evSs P (fns P (k + 8)) T [some (.ref 0), some (.ref p), some (.int (0 + (i : Nat))), some (parD m hs ts), l4, l5, l6, l7, l8] B) Q' := fun {m hs ts B Q'} ok hp go => by
      subst eT
      exact turn_rest h ok hp go
    have done : ∀ l3 l4 l5 l6 l7 l8 (A' : AH), Pot p A' → ∃ m2 m3 m4 m5 m6 m7 m8, ([some (.ref 0), some (.ref p), some (.int (0 + (i : Nat))), l3, l4, l5, l6, l7, l8] : Loc) = [some (.ref 0), some (.ref p), m2, m3, m4, m5, m6, m7, m8] ∧ Pot p A' := fun l3 l4 l5 l6 l7 l8 A' hp' => ⟨_, _, _, _, _, _, _, rfl, hp'⟩
    rw [wps_cons]
    walk_at "go1"
    by_cases c3 : (0 + (i : Int) == 3) = true
    · rw [if_pos c3]
      walk_at "go1"
      refine drawC_ok h.d11 hc4 (by omega) (by omega) fun x A5 x0 x1 hc5 f5 => ?_
      walk_at "go1"
      by_cases c4 : (x == 0) = true
      · rw [if_pos c4]
        rw [wps_cons]
        walk_at "go1"
        refine great16 (k := k + 6) h hc5 fun m hs ts A6 ok hc6 f6 => ?_
        walk_at "go1"
        exact fin ok hc6.pot done
      · rw [if_neg c4]
        walk_at "go1"
        exact fin ok hc5.pot done
    · rw [if_neg c3]
      walk_at "go1"
      try rw [if_neg c3]
      exact fin ok hc4.pot done
  · subst hL
    dsimp only
    rw [wps_cons]
    walk_at "go1"
end
end Kin
end
section
set_option linter.all false
set_option maxRecDepth 100000
/-! Kin 14: {k: v, ..}. -/
namespace Kin
open PySem PySem.Spec PyProof.Rows L2
section
variable {G : Gl} {W : WX} {X : Cx} {P : CProg} {F : Fns} {pos : Pos} {C : Ctx} {k : Nat}
def RKP : Rel (List (Key × D)) (List (V × V)) := fun ρ H ds ps => ∃ ws, RKs ρ H ds ws ∧ ps = ws.map fun p => (kV p.1, p.2)
def trsOf (G : Gl) (P : CProg) (F : Fns) (W : WX) (f : Expr → CE) : List (Option Expr) → List Expr → List (TE × TE)
  | k :: ks, v :: vs => (tR G RV W (evE P F (optF f k)), tR G RV W (evE P F (f v))) :: trsOf G P F W f ks vs
  | _, _ => []
theorem pps_of {f : Expr → CE} (hf : ∀ e, RE G P F X W e (f e)) : ∀ (ks : List (Option Expr)) (vs : List Expr), ks.length = vs.length → ks.all (·.isSome) = true → PPs X pos ks vs (trsOf G P F W f ks vs)
  | [], [], _, _ => pps_nil
  | [], _ :: _, h, _ => by simp at h
  | _ :: _, [], h, _ => by simp at h
  | some k :: ks, v :: vs, h, a => pps_cons (hf k) (hf v) (pps_of hf ks vs (by simpa using h) (by simpa using a))
  | none :: ks, v :: vs, h, a => by simp at a
theorem pairs_ok {f : Expr → CE} {σ : St} : ∀ (ks : List (Option Expr)) (vs : List Expr), ks.length = vs.length → ∀ (H : Hp) (Q : List (V × V) → Hp → Prop), tR G RKP W (evKVs P F ((ks.map (optF f)).zip (vs.map f))) σ H Q → tPairs (trsOf G P F W f ks vs) σ H Q
  | [], [], _, H, Q, ⟨ρ, A, L, s, l, o⟩ => OutR.ok (R := RKP) (by simpa only [List.map_nil, List.zip_nil_left, evKVs] using o) s ⟨[], by simp only [RKs], rfl⟩
  | [], _ :: _, h, _, _, _ => by simp at h
  | _ :: _, [], h, _, _, _ => by simp at h
  | kk :: ks, v :: vs, h, H, Q, q => by
    have q' : tR G RKP W (fun L A => (evE P F (optF f kk) L A).bind fun d A => (evE P F (f v) L A).bind fun w A => (Res.of1 A (keyD d)).bind fun d A => (evKVs P F ((ks.map (optF f)).zip (vs.map f)) L A).bind fun ds A => .ok ((d, w) :: ds) A) σ H Q := by
      obtain ⟨ρ, A, L, s, l, o⟩ := q
      exact ⟨ρ, A, L, s, l, by simpa only [List.map_cons, List.zip_cons_cons, evKVs] using o⟩
    show tR G RV W (evE P F (optF f kk)) σ H _
    refine (tR_two q').imp fun v1 H1 q => q.imp fun u H2 ⟨ρ, A, L, x, y, s, l, rx, ry, o⟩ => ?_
    refine pairs_ok ks vs (by simpa using h) H2 _ ⟨ρ, A, L, s, l, ?_⟩
    cases e : keyD x with
    | none => rw [e] at o; exact (show False from o).elim
    | some key =>
      rw [e] at o
      refine (OutR.bind (R := RKP) o).imp fun ps H3 ⟨ρ3, A3, ds, x3, s3, ⟨ws, rk, ep⟩, o3⟩ => ?_
      refine OutR.ok (R := RKP) o3 s3 ⟨(key, u) :: ws, ?_, ?_⟩
      · simp only [RKs]
        exact ⟨u, ws, rfl, RV.mono x3 _ _ ry, rk⟩
      · rw [ep, List.map_cons, keyD_at rx e]
theorem rks_merge {ρ : List Addr} {H : Hp} : ∀ {more : List (Key × D)} {ms : List (Key × V)} {kvs : List (Key × D)} {ws : List (Key × V)}, RKs ρ H more ms → RKs ρ H kvs ws → RKs ρ H (more.foldl (fun acc p => kPut acc p.1 p.2) kvs) (mergeK ws ms)
  | [], ms, _, _, h, r => by
    simp only [RKs] at h
    subst h
    exact r
  | (k, d) :: more, ms, kvs, ws, h, r => by
    simp only [RKs] at h
    obtain ⟨v, t, rfl, rv, rt⟩ := h
    show RKs ρ H (more.foldl (fun acc p => kPut acc p.1 p.2) (kPut kvs k d)) (mergeK (putK ws k v) t)
    exact rks_merge rt (rks_put r rv)
theorem re_dct {f : Expr → CE} (hf : ∀ e, RE G P F X W e (f e)) {ks : List (Option Expr)} {vs : List Expr} (hl : ks.length = vs.length) (ha : ks.all (·.isSome) = true) (h0 : ks ≠ []) (h15 : ks.length ≤ 15) :
    RE G P F X W (.Dict ks vs pos) (.dct ((ks.map (optF f)).zip (vs.map f))) :=
  (pe_disp (pps_of hf ks vs hl ha) ha hl h0 h15).imp fun σ H Q q => by
    intro p hp
    obtain ⟨ρ, A, L, s, l, o⟩ := q
    simp only [evE] at o
    refine pairs_ok ks vs hl _ _ ⟨ρ, A, L, s.lay hp, l.mono (Ext.lay hp), ?_⟩
    refine (OutR.bind0 (R := RKP) (Ext.lay (o := .dK []) hp) o).imp fun ps H2 ⟨ρ2, A2, ds, x2, s2, ⟨ws, rk, ep⟩, o2⟩ => ?_
    have hρ : p ∉ ρ := s.not_mem hp
    have h2 : H2 p = some (.dK []) := x2.keep p _ hρ upd_same
    have hρ2 : p ∉ ρ2 := x2.new_not hρ
    split at o2
    · rename_i hz
      refine ⟨h2, ws, ep, by rw [rk.length]; exact hz, ?_⟩
      have ns : ¬ Still (.dK []) := id
      exact o2 _ _ _ (x2.fin hp) ((s2.own hρ2 h2 ns).reg hρ2 ⟨_, upd_same, rks_merge (RKs.mono2 (upd_ex h2 ns) _ _ rk) (by simp only [RKs])⟩) (ref_new s2)
    · exact (show False from o2).elim
theorem re_dct0 : RE G P F X W (.Dict [] [] pos) (.dct []) :=
  pe_dnewK.imp fun σ H Q ⟨ρ, A, L, s, l, o⟩ p hp => by
    simp only [evE, evKVs, Res.bind] at o
    exact o _ _ _ ((Ext.lay hp).reg hp) (s.new_ hp ⟨[], upd_same, by simp only [List.foldl_nil, RKs]⟩) (ref_new s)
end
end Kin
end
section
set_option linter.all false
set_option maxRecDepth 100000
/-! Kin 15: enumerate over a tuple. -/
namespace KinEnm
open PySem
open Sem (wp)
set_option maxHeartbeats 1000000 in
theorem meets_enum1 {v : Value} {o : Obj} {H : Heap → Prop} (B : Begins v o H) :
    Meets (Builtin.«enumerate.__new__» ⟨[.type "enumerate", v], []⟩) (fun _ R s => H s.heap ∧
      R (.ok (.ret (.ref (s.heap.push o).objs.size))) { s with heap := (s.heap.push o).push { cls := .type "enumerate", data := .fields #[.none, .bool false, .ref s.heap.objs.size, rawInt 0, .none, .none] } }) :=
  .of_wp fun prog w A R s h => by
    obtain ⟨hp, g, d, tk, os⟩ := s
    obtain ⟨h1, h⟩ := h
    have hsub := sub_enumerate
    have q1 : ∀ {A' : Around} {E : Value → Shared → Prop} {Q : Value → Shared → Prop}, Q (.ref hp.objs.size) ⟨hp.push o, g, d, tk, os⟩ → wpAny (model prog w) A' (pyIter v) Q E ⟨hp, g, d, tk, os⟩ :=
      fun q => B.iter prog w _ _ ⟨hp, g, d, tk, os⟩ _ h1 q
    wp_walk using q1
    refine wpAny_stack_any fun st => wpAny_pure ?_
    split
    · rename_i c _ _ _ _ _
      cases (c == Value.type "enumerate") <;> (wp_walk using q1; exact ⟨_, rfl, h⟩)
    · wp_walk using q1
      exact ⟨_, rfl, h⟩
section
variable {prog : Program} {w : World} {A : Around} {E : Value → Shared → Prop} {s : Shared}
theorem call_enum1 {v : Value} {o : Obj} {H : Heap → Prop} {Q : Value → Shared → Prop} (B : Begins v o H) (h1 : H s.heap)
    (h : ∀ h', IsEnum h' (s.heap.objs.size + 1) s.heap.objs.size 0 .none → h'.get? s.heap.objs.size = some o → h'.objs.size = s.heap.objs.size + 2 →
      (∀ b o, s.heap.get? b = some o → h'.get? b = some o) → Q (.ref (s.heap.objs.size + 1)) { s with heap := h' }) :
    wpAny (model prog w) A (call (.type "enumerate") [v]) Q E s := by
  refine callType_new F.called_enumerate (by decide) (F.typeCall_enumerate_1 _) (F.newCall_enumerate_1 _) (fun obj => F.args_object_init_2 obj _) F.entry_enumerate_new
    (meets_enum1 B) ⟨h1, ?_⟩
  have hz : (s.heap.push o).objs.size = s.heap.objs.size + 1 := Heap.size_push ..
  show _ ∧ _
  rw [hz]
  have he : IsEnum ((s.heap.push o).push { cls := .type "enumerate", data := .fields #[.none, .bool false, .ref s.heap.objs.size, rawInt 0, .none, .none] }) (s.heap.objs.size + 1) s.heap.objs.size 0 .none := by
    have := Heap.get?_push_size (s.heap.push o) (o := { cls := .type "enumerate", data := .fields #[.none, .bool false, .ref s.heap.objs.size, rawInt 0, .none, .none] }) rfl
    rw [hz] at this
    exact this
  refine ⟨⟨_, he, rfl⟩, h _ he (Heap.get?_push_of_some _ (Heap.get?_push_size _ B.free)) (by rw [Heap.size_push, hz]) fun b o x => Heap.get?_push_of_some _ (Heap.get?_push_of_some _ x)⟩
theorem next_enumT_end {e it t : Addr} {i : Nat} {items : Array Value} {old : Value} {Q : Option Value → Shared → Prop} (hh : A.handled = none)
    (he : IsEnum s.heap e it i old) (hit : s.heap.IsTupleIter it t i) (ht : s.heap.IsTuple t items) (hx : items[i]? = none)
    (hQ : ∀ h', Heap.ExtBut it s.heap h' → Q none { s with heap := h' }) : wpAny (model prog w) A (pyNext (.ref e)) Q E s := by
  have hT : s.TypeIs (.ref e) "enumerate" := ⟨_, he, rfl⟩
  unfold pyNext
  refine wpAny_bind (wpAny_attempt (wpAny_callSpecial?_slot (name := Str.ofString "__next__") hT F.slot_enumerate_next (wpAny_call_entry F.slot_enumerate_next hT F.entry_enumerate_next ?_ (F.args_enumerate_next_1 _))))
  show wpAny _ _ (field (.ref e) 2 >>= _) _ _ _
  refine wpAny_bind (wpAny_field he rfl (x := .ref it) rfl ?_)
  refine wpAny_bind (wpAny_nextOf_tuple_end (A := A.in1) hh hit ht hx fun h' x he' hx' => ?_)
  obtain ⟨o, ho, hc⟩ := hx'
  refine wpAny_bind (wpAny_isInstance (T := "StopIteration") (b := true) ⟨o, ho, hc⟩ isSubtype_stop ?_)
  exact wpAny_pure (hQ _ he')
end
end KinEnm
namespace Kin
open PySem PySem.Spec PyProof.Rows L2
/-- the tuple at a, each item in a new pair -/
def IteT (K : PySem.W.Frag) (a : Addr) : It :=
  ⟨fun i H => ∃ (xs : List V) (x : V), SqT K H a xs ∧ xs[i]? = some x, fun i H v H' => ∃ T x, v = .ref T ∧ H T = none ∧ H' = upd H T (.tup [.int (i : Nat), x]) ∧ ∀ xs, SqT K H a xs → xs[i]? = some x, fun i H => ∃ xs : List V, SqT K H a xs ∧ xs.length ≤ i⟩
theorem turn_enumT {P : Program} {w : World} {K : PySem.W.Frag} {elts : List Expr} {kk : Nat} {tpos : Pos} (a e it : Addr) (hai : a ≠ it) (hae : a ≠ e) :
    Turn P w K (.Tuple elts kk tpos) (IteT K a) [e, it] e (fun i h => (∃ old, IsEnum h e it ((i : Nat) : Int) old) ∧ h.IsTupleIter it a i ∧ e ≠ it) where
  mem := by simp
  obj := fun i h st b hb => by
    obtain ⟨⟨old, he⟩, ⟨o, ho, hc, hd⟩, _⟩ := st
    have e' : b = e ∨ b = it := by simpa using hb
    rcases e' with z | z
    · rw [z]; exact ⟨_, he, fun v q => nomatch q⟩
    · rw [z]; exact ⟨o, ho, fun v q => by rw [hd] at q; cases q⟩
  keep := fun i h h' st k => by
    obtain ⟨⟨old, he⟩, hi, hne⟩ := st
    exact ⟨⟨old, k e (by simp) _ he⟩, hi.at fun o q => k it (by simp) o q, hne⟩
  item := by
    intro X hP hw hK hc i pins s σ H E I hf st hg
    subst hP hw hK
    obtain ⟨⟨old, he⟩, hit, hne⟩ := st
    obtain ⟨xs, x, hq, hx⟩ := hg
    obtain ⟨its, rv, p, hz⟩ := I.tuple hq
    obtain ⟨u, hu, ru⟩ := rv.get hx
    have hlt : i < its.toArray.size := by
      have := (List.getElem?_eq_some_iff.mp hu).1
      simpa using this
    have hel : e < s.heap.objs.size := Heap.lt_size he
    have hil : it < s.heap.objs.size := by obtain ⟨_, q, _⟩ := hit; exact Heap.lt_size q
    refine wpAny_pyNext_enum_itemD (fp := [it, a]) (Draws.tuple (A := X.A.in1) (I.ok.hd hc) it a hai its.toArray) he ⟨hit, p⟩ hlt hne (by simp [hne, hae.symm]) fun y h' tk hy ho st' hT hsz hk => ?_
    have ey : y = u := by
      have : its.toArray[i]? = some u := by simpa using hu
      rw [this] at hy
      exact (Option.some.inj hy).symm
    subst ey
    refine ⟨_, rfl, wpAny_letOwnedTupleGo_enum (s := { s with heap := h', toks := tk + 1 }) ho fun h'' he' sb => ?_⟩
    have hT2 : h''.get? s.heap.objs.size = some { cls := .type "tuple", data := .seq #[.int i tk, y] } := (sb.2 _ (Nat.ne_of_gt hel)).trans hT
    have new : ObjOk X.prog X.w (upd H s.heap.objs.size (.tup [.int (i : Nat), x])) h'' s.heap.objs.size (.tup [.int (i : Nat), x]) :=
      ⟨by show 2 ≤ sizeLine; decide, [.int i tk, y], .cons ⟨_, rfl⟩ (.cons ru .nil), ⟨_, hT2, rfl, _, rfl⟩⟩
    have I1 : Inv X pins σ (upd H s.heap.objs.size (.tup [.int (i : Nat), x])) { s with heap := h'', toks := tk + 1 } :=
      I.turnedNew (ch := [e, it]) (fun b ob hb q => (sb.2 b (fun z => hb (by simp [z]))).trans (hk b ob (fun z => hb (by simp [z])) (fun z => hb (by simp [z])) q)) hf (Nat.le_refl _) new
    refine ⟨.ref s.heap.objs.size, _, I1, rfl, ⟨_, x, rfl, I.hok.fresh (Nat.le_refl _), rfl, fun ys hy => by rw [I.tuple_inj hy hq]; exact hx⟩, ⟨⟨y, ?_⟩, st'.1.at fun o q => (sb.2 it (Ne.symm hne)).trans q, hne⟩, fun b hb => ?_⟩
    · have e1 : ((i + 1 : Nat) : Int) = (i : Int) + 1 := by omega
      rw [e1]
      exact he'
    · have hb' : b < s.heap.objs.size := by
        have e' : b = e ∨ b = it := by simpa using hb
        rcases e' with z | z
        · rw [z]; exact hel
        · rw [z]; exact hil
      rw [upd_ne (Nat.ne_of_lt hb')]
      exact (hf b hb).1
  done := by
    intro X hP hw hK hc i pins s σ H E I hf st hg
    subst hP hw hK
    obtain ⟨⟨old, he⟩, hit, hne⟩ := st
    obtain ⟨xs, hq, hx⟩ := hg
    obtain ⟨its, rv, p, hz⟩ := I.tuple hq
    obtain ⟨f0, f1, f2, f3, f4, f5⟩ := hf it (by simp)
    have hl := rv.length
    exact KinEnm.next_enumT_end (I.ok.hd hc) he hit p (by simp; omega) fun h' eb => ⟨rfl, I.turned (t' := s.toks) (fun b o hb q => eb b o hb q) f0 f1 f3 f4 f5⟩
  self := fun A i s Q E st h => by
    obtain ⟨⟨_, he⟩, _⟩ := st
    exact wpAny_pyIter_enum he h
section
variable {X : Cx}
/-- enumerate over a list or a tuple -/
def iEnumA (K : PySem.W.Frag) (ta : TA) : TI := fun σ H R => ta σ H fun vs H1 => ∃ a xs, vs = [.ref a] ∧ ((SqL K H1 a xs ∧ R (Ite K a) H1) ∨ (SqT K H1 a xs ∧ R (IteT K a) H1))
theorem pi_enumA {e : Expr} {ta : TA} {p pos tpos : Pos} {elts : List Expr} {kk : Nat} (hg : L2.Gl X "enumerate") (hm : X.mg "enumerate" = none) (ha : PA X [e] ta) (hs : starEach [e] X.env = [(false, eval e X.env)]) :
    PI X (.Tuple elts kk tpos) (.Call (.Name "enumerate" p) [e] [] pos) (iEnumA X.K ta) := by
  refine ⟨fun pins s σ H R I h => ?_⟩
  refine Call_ (ld_blt I hg hm boot_enumerate (PyProof.Rows.callWith_type1 (thn (ha.run pos pins s σ H _ I h) fun us s1 ⟨vs, H1, I1, r1, q1⟩ => ?_) hs rfl))
  obtain ⟨a, xs, ex, q1⟩ := q1
  subst ex
  cases r1 with
  | cons r rr =>
    cases rr
    cases r
    have fr : ∀ b ∈ [s1.heap.objs.size + 1, s1.heap.objs.size], FpOk X pins H1 b := fun b hb => by
      have e' : b = s1.heap.objs.size + 1 ∨ b = s1.heap.objs.size := by simpa using hb
      have hle : s1.heap.objs.size ≤ b := by
        rcases e' with z | z
        · rw [z]; exact Nat.le_add_right _ _
        · rw [z]; exact Nat.le_refl _
      exact I1.fpOk hle (I1.hok.fresh hle)
    rcases q1 with ⟨hq, q⟩ | ⟨hq, q⟩
    · obtain ⟨its, rv, p', hz⟩ := I1.list hq
      refine call_enumerate_list p'.isList fun h' he hit hsz hk => wpAny_pyIter_enum he ?_
      have I2 : Inv X pins σ H1 { s1 with heap := h' } := I1.kept (t' := s1.toks) hk
      exact ⟨s1.heap.objs.size + 1, [s1.heap.objs.size + 1, s1.heap.objs.size], _, _, H1, rfl, I2, turn_enum a (s1.heap.objs.size + 1) s1.heap.objs.size, ⟨⟨.none, he⟩, hit, Nat.succ_ne_self _⟩, fr, q⟩
    · obtain ⟨its, rv, p', hz⟩ := I1.tuple hq
      obtain ⟨o1, ho1, _⟩ := id p'
      have hla : a < s1.heap.objs.size := Heap.lt_size ho1
      refine KinEnm.call_enum1 (begins_tuple a its.toArray) p' fun h' he hit hsz hk => wpAny_pyIter_enum he ?_
      have I2 : Inv X pins σ H1 { s1 with heap := h' } := I1.kept (t' := s1.toks) hk
      exact ⟨s1.heap.objs.size + 1, [s1.heap.objs.size + 1, s1.heap.objs.size], _, _, H1, rfl, I2, turn_enumT a (s1.heap.objs.size + 1) s1.heap.objs.size (Nat.ne_of_lt hla) (Nat.ne_of_lt (Nat.lt_succ_of_lt hla)), ⟨⟨.none, he⟩, ⟨_, hit, rfl, rfl⟩, Nat.succ_ne_self _⟩, fr, q⟩
end
end Kin
end
section
set_option linter.all false
set_option maxRecDepth 100000
/-! Kin 16: walks, targets. -/
namespace Kin
open PySem PySem.Spec PyProof.Rows L2
/-- the walk J goes as w tells -/
def JOk (G : Gl) : Rel Wk It := fun ρ0 H0 w J => ∀ (i : Nat) (ρ : List Addr) (A : AH) (H : Hp), Ex2 ρ0 H0 ρ H → Sim G ρ A H →
  (w i A = some none → J.stop i H) ∧ ∀ d, w i A = some (some d) → J.go i H ∧ ∀ x H', J.yld i H x H' → Ext ρ H ρ H' ∧ Sim G ρ A H' ∧ RV ρ H' d x
section
variable {ρ : List Addr} {H : Hp} {A : AH} {K : PySem.W.Frag}
theorem tup_sq {a : Addr} {vs xs : List V} (h : H a = some (.tup vs)) (q : SqT K H a xs) (hk : ∀ a o, H a = some o → K.lookup a = none) : xs = vs := by
  rcases q with (q | ⟨o, q⟩) | ⟨o, its, n, q, _⟩
  · rw [h] at q; cases q; rfl
  · rw [h] at q; cases q
  · rw [hk a _ h] at q; cases q
theorem get_eq {ds : List D} {vs : List V} {i : Nat} {d : D} (r : RVs ρ H ds vs) (h : ds[i]? = some d) {x : V} (hx : vs[i]? = some x) : RV ρ H d x := by
  obtain ⟨v, a, b⟩ := r.get h
  rw [hx] at a
  cases a
  exact b
theorem len_le {ds : List D} {vs : List V} {i : Nat} (r : RVs ρ H ds vs) (h : ds[i]? = none) : vs.length ≤ i := by
  rw [r.length]
  exact List.getElem?_eq_none_iff.mp h
theorem j_tup {a : Addr} {ds : List D} {vs : List V} (h : H a = some (.tup vs)) (r : RVs ρ H ds vs) : JOk G ρ H (wkItems ds) (Itt K a) := by
  intro i ρ1 A1 H1 x1 s1
  have h1 : H1 a = some (.tup vs) := x1.still _ _ trivial h
  have r1 := RVs.mono2 x1 _ _ r
  refine ⟨fun e => ⟨vs, .of h1, len_le r1 (Option.some.inj e)⟩, fun d e => ?_⟩
  obtain ⟨v, hv, rv⟩ := r1.get (Option.some.inj e)
  refine ⟨⟨vs, v, .of h1, hv⟩, fun x H' y => ?_⟩
  obtain ⟨rfl, y⟩ := y
  exact ⟨.refl, s1, get_eq r1 (Option.some.inj e) (y vs (.of h1))⟩
theorem rng_get {lo hi : Int} {i : Nat} {d : D} (h : (rngItems lo hi)[i]? = some d) : i < (hi - lo).toNat ∧ d = .int (lo + (i : Nat)) := by
  unfold rngItems at h
  rw [List.getElem?_map] at h
  cases e : (List.range (hi - lo).toNat)[i]? with
  | none => rw [e] at h; cases h
  | some j =>
    rw [e] at h
    cases h
    obtain ⟨h1, h2⟩ := List.getElem?_eq_some_iff.mp e
    rw [List.getElem_range] at h2
    subst h2
    exact ⟨by simpa using h1, rfl⟩
theorem rng_none {lo hi : Int} {i : Nat} (h : (rngItems lo hi)[i]? = none) : (hi - lo).toNat ≤ i := by
  have := List.getElem?_eq_none_iff.mp h
  simpa [rngItems] using this
theorem j_rng {lo hi : Int} : JOk G ρ H (wkItems (rngItems lo hi)) (Itr lo (hi - lo).toNat) := by
  intro i ρ1 A1 H1 x1 s1
  refine ⟨fun e => rng_none (Option.some.inj e), fun d e => ?_⟩
  obtain ⟨h1, rfl⟩ := rng_get (Option.some.inj e)
  refine ⟨h1, fun x H' y => ?_⟩
  obtain ⟨rfl, rfl⟩ := y
  exact ⟨.refl, s1, by simp only [RV]⟩
theorem dn_get {hi lo : Int} {i : Nat} {d : D} (h : (dnItems hi lo)[i]? = some d) : i < (hi - lo).toNat ∧ d = .int (hi + (i : Nat) * -1) := by
  unfold dnItems at h
  rw [List.getElem?_map] at h
  cases e : (List.range (hi - lo).toNat)[i]? with
  | none => rw [e] at h; cases h
  | some j =>
    rw [e] at h
    obtain ⟨a, b⟩ := List.getElem?_eq_some_iff.mp e
    rw [List.length_range] at a
    rw [List.getElem_range] at b
    subst b
    cases h
    exact ⟨a, congrArg D.int (by omega)⟩
theorem j_dn {hi lo : Int} : JOk G ρ H (wkItems (dnItems hi lo)) (Itc hi (-1) (hi - lo).toNat) := by
  intro i ρ1 A1 H1 x1 s1
  refine ⟨fun e => ?_, fun d e => ?_⟩
  · have := List.getElem?_eq_none_iff.mp (Option.some.inj e)
    show (hi - lo).toNat ≤ i
    simpa [dnItems] using this
  obtain ⟨h1, rfl⟩ := dn_get (Option.some.inj e)
  refine ⟨h1, fun x H' y => ?_⟩
  obtain ⟨rfl, rfl⟩ := y
  exact ⟨.refl, s1, by simp only [RV]⟩
theorem j_live {n : Nat} {a : Addr} (h : ρ[n]? = some a) : JOk G ρ H (wkLive n) (Itl K a) := by
  intro i ρ1 A1 H1 x1 s1
  have h1 := x1.at_ _ _ h
  unfold wkLive
  refine ⟨fun e => ?_, fun d e => ?_⟩
  · split at e
    · rename_i ds en
      obtain ⟨vs, ha, r⟩ := s1.at_ _ _ _ h1 en
      exact ⟨vs, .of ha, len_le r (Option.some.inj e)⟩
    · cases e
  · split at e
    · rename_i ds en
      obtain ⟨vs, ha, r⟩ := s1.at_ _ _ _ h1 en
      obtain ⟨v, hv, rv⟩ := r.get (Option.some.inj e)
      refine ⟨⟨vs, v, .of ha, hv⟩, fun x H' y => ?_⟩
      obtain ⟨rfl, y⟩ := y
      exact ⟨.refl, s1, get_eq r (Option.some.inj e) (y vs (.of ha))⟩
    · cases e
theorem pair_new {T : Addr} {x : V} {d : D} {i : Nat} (s : Sim G ρ A H) (hT : H T = none) (r : RV ρ H d x) : Ext ρ H ρ (upd H T (.tup [.int (i : Nat), x])) ∧ Sim G ρ A (upd H T (.tup [.int (i : Nat), x])) ∧ RV ρ (upd H T (.tup [.int (i : Nat), x])) (.tup [.int (i : Nat), d]) (.ref T) := by
  refine ⟨Ext.lay hT, s.lay hT, tup_rv upd_same ?_⟩
  simp only [RVs]
  exact ⟨_, _, rfl, by simp only [RV], x, [], rfl, RV.mono (Ext.lay hT) _ _ r, rfl⟩
theorem pair_new2 {T : Addr} {x y : V} {d e : D} (s : Sim G ρ A H) (hT : H T = none) (r : RV ρ H d x) (r2 : RV ρ H e y) : Ext ρ H ρ (upd H T (.tup [x, y])) ∧ Sim G ρ A (upd H T (.tup [x, y])) ∧ RV ρ (upd H T (.tup [x, y])) (.tup [d, e]) (.ref T) := by
  refine ⟨Ext.lay hT, s.lay hT, tup_rv upd_same ?_⟩
  simp only [RVs]
  exact ⟨_, _, rfl, RV.mono (Ext.lay hT) _ _ r, y, [], rfl, RV.mono (Ext.lay hT) _ _ r2, rfl⟩
theorem enum_get {w : Wk} {i : Nat} {d : D} (h : wkEnum w i A = some (some d)) : ∃ e, w i A = some (some e) ∧ d = .tup [.int (i : Nat), e] := by
  unfold wkEnum at h
  cases q : w i A with
  | none => rw [q] at h; cases h
  | some o =>
    rw [q] at h
    cases o with
    | none => cases h
    | some e => cases h; exact ⟨e, rfl, rfl⟩
theorem enum_none {w : Wk} {i : Nat} (h : wkEnum w i A = some none) : w i A = some none := by
  unfold wkEnum at h
  cases q : w i A with
  | none => rw [q] at h; cases h
  | some o =>
    rw [q] at h
    cases o with
    | none => rfl
    | some e => cases h
theorem j_enumT {a : Addr} {ds : List D} {vs : List V} (h : H a = some (.tup vs)) (r : RVs ρ H ds vs) : JOk G ρ H (wkEnum (wkItems ds)) (IteT K a) := by
  intro i ρ1 A1 H1 x1 s1
  have h1 : H1 a = some (.tup vs) := x1.still _ _ trivial h
  have r1 := RVs.mono2 x1 _ _ r
  refine ⟨fun e => ⟨vs, .of h1, len_le r1 (Option.some.inj (enum_none e))⟩, fun d e => ?_⟩
  obtain ⟨d', e', rfl⟩ := enum_get e
  obtain ⟨v, hv, rv⟩ := r1.get (Option.some.inj e')
  refine ⟨⟨vs, v, .of h1, hv⟩, fun x H' y => ?_⟩
  obtain ⟨T, x', rfl, hT, rfl, y⟩ := y
  exact pair_new s1 hT (get_eq r1 (Option.some.inj e') (y vs (.of h1)))
theorem j_enumL {n : Nat} {a : Addr} (h : ρ[n]? = some a) : JOk G ρ H (wkEnum (wkLive n)) (Ite K a) := by
  intro i ρ1 A1 H1 x1 s1
  have h1 := x1.at_ _ _ h
  refine ⟨fun e => ?_, fun d e => ?_⟩
  · have e := enum_none e
    unfold wkLive at e
    split at e
    · rename_i ds en
      obtain ⟨vs, ha, r⟩ := s1.at_ _ _ _ h1 en
      exact ⟨vs, .of ha, len_le r (Option.some.inj e)⟩
    · cases e
  · obtain ⟨d', e2, rfl⟩ := enum_get e
    clear e
    unfold wkLive at e2
    split at e2
    · rename_i ds en
      obtain ⟨vs, ha, r⟩ := s1.at_ _ _ _ h1 en
      obtain ⟨v, hv, rv⟩ := r.get (Option.some.inj e2)
      refine ⟨⟨vs, v, .of ha, hv⟩, fun x H' y => ?_⟩
      obtain ⟨T, x', rfl, hT, rfl, y⟩ := y
      exact pair_new s1 hT (get_eq r (Option.some.inj e2) (y vs (.of ha)))
    · cases e2
theorem j_zip {a b : Addr} {ds es : List D} {vs us : List V} (h : H a = some (.tup vs)) (r : RVs ρ H ds vs) (h' : H b = some (.tup us)) (r' : RVs ρ H es us) :
    JOk G ρ H (wkItems ((ds.zip es).map fun p => D.tup [p.1, p.2])) (RZ.ItzT K a b) := by
  intro i ρ1 A1 H1 x1 s1
  have h1 : H1 a = some (.tup vs) := x1.still _ _ trivial h
  have h1' : H1 b = some (.tup us) := x1.still _ _ trivial h'
  have r1 := RVs.mono2 x1 _ _ r
  have r1' := RVs.mono2 x1 _ _ r'
  refine ⟨fun e => ?_, fun d e => ?_⟩
  · have e := List.getElem?_eq_none_iff.mp (Option.some.inj e)
    rw [List.length_map, List.length_zip] at e
    refine ⟨vs, us, .of h1, .of h1', ?_⟩
    rw [r1.length, r1'.length]
    omega
  · have e := Option.some.inj e
    rw [List.getElem?_map] at e
    cases q : (ds.zip es)[i]? with
    | none => rw [q] at e; cases e
    | some p =>
      rw [q] at e
      cases e
      obtain ⟨e1, e2⟩ := List.getElem?_zip_eq_some.mp q
      obtain ⟨v, hv, rv⟩ := r1.get e1
      obtain ⟨u, hu, ru⟩ := r1'.get e2
      refine ⟨⟨vs, us, v, u, .of h1, .of h1', hv, hu⟩, fun x H' y => ?_⟩
      obtain ⟨T, x', y', rfl, hT, rfl, f1, f2⟩ := y
      exact pair_new2 s1 hT (get_eq r1 e1 (f1 vs (.of h1))) (get_eq r1' e2 (f2 us (.of h1')))
end
section
variable {G : Gl} {W : WX} {X : Cx} {P : CProg} {F : Fns} {pos : Pos} {C : Ctx} {k : Nat} {tg : Expr}
abbrev RI (G : Gl) (P : CProg) (F : Fns) (X : Cx) (W : WX) (tg e : Expr) (c : CI) : Prop := PI X tg e (tR G (JOk G) W (evI P F c))
theorem ri_bad {e : Expr} : RI G P F X W tg e .bad := ⟨fun pins s σ H Q I h => by
  obtain ⟨ρ, A, L, _, _, o⟩ := h
  simp only [evI, OutR] at o⟩
def iSeq (K : PySem.W.Frag) (tl : TE) : TI := fun σ H R => tl σ H fun x H1 => (∃ a, x = .ref a ∧ (((∃ xs, SqL K H1 a xs) ∧ R (Itl K a) H1) ∨ ((∃ xs, SqT K H1 a xs) ∧ R (Itt K a) H1))) ∨ ∃ y, x = .str y ∧ R (Its y) H1
theorem pi_seq {l : Expr} {tl : TE} (hl : PE X l tl) : PI X tg l (iSeq X.K tl) := by
  refine ⟨fun pins s σ H R I h => ?_⟩
  refine thn (hl.run pins s σ H _ I h) fun v s1 ⟨x, H1, I1, r1, q1⟩ => ?_
  rcases q1 with ⟨a, e, q1⟩ | ⟨y, e, q1⟩
  rotate_left
  · subst e
    obtain ⟨t, rfl⟩ := r1
    cases ha : y.cps.all (· < 128)
    · exact wpAny_pyIter_wide ha (pi_one (tk := s1.toks) I1 _ (turn_str _ y t "str_iterator" (.inr rfl)) ⟨_, Heap.get?_push_size _ rfl, rfl, rfl⟩ q1)
    · exact wpAny_pyIter_ascii ha (pi_one (tk := s1.toks) I1 _ (turn_str _ y t "str_ascii_iterator" (.inl rfl)) ⟨_, Heap.get?_push_size _ rfl, rfl, rfl⟩ q1)
  subst e
  cases r1
  have fr : ∀ b ∈ [s1.heap.objs.size], FpOk X pins H1 b := fun b hb => by
    have e : b = s1.heap.objs.size := by simpa using hb
    subst e
    exact I1.fpOk (Nat.le_refl _) (I1.hok.fresh (Nat.le_refl _))
  rcases q1 with ⟨⟨xs, hq⟩, q⟩ | ⟨⟨xs, hq⟩, q⟩
  · obtain ⟨its, rv, p, hz⟩ := I1.list hq
    refine wpAny_pyIter_list p.isList ?_
    exact ⟨s1.heap.objs.size, [s1.heap.objs.size], _, _, H1, rfl, I1.kept (t' := s1.toks) fun b o e => Heap.get?_push_of_some _ e, turn_list a _, ⟨_, Heap.get?_push_size _ rfl, rfl, rfl⟩, fr, q⟩
  · obtain ⟨its, rv, p, hz⟩ := I1.tuple hq
    refine wpAny_pyIter_tuple (show s1.heap.IsTuple a its.toArray from p) ?_
    exact ⟨s1.heap.objs.size, [s1.heap.objs.size], _, _, H1, rfl, I1.kept (t' := s1.toks) fun b o e => Heap.get?_push_of_some _ e, turn_tuple a _, ⟨_, Heap.get?_push_size _ rfl, rfl, rfl⟩, fr, q⟩
theorem seqWk_cases {ρ : List Addr} {H : Hp} {A : AH} {d : D} {w : Wk} {v : V} (s : Sim G ρ A H) (r : RV ρ H d v) (h : seqWk d A = some w) :
    (∃ a ds vs, v = .ref a ∧ d = .tup ds ∧ w = wkItems ds ∧ H a = some (.tup vs) ∧ RVs ρ H ds vs) ∨ (∃ a n vs, v = .ref a ∧ d = .ref n ∧ w = wkLive n ∧ ρ[n]? = some a ∧ H a = some (.lst vs)) ∨ ∃ y, v = .str y ∧ d = .str y ∧ w = wkItems (signsD y) := by
  cases d with
  | tup ds =>
    simp only [seqWk, Option.some.injEq] at h
    obtain ⟨a, vs, rfl, ha, ra⟩ := rv_tup r
    exact .inl ⟨a, ds, vs, rfl, rfl, h.symm, ha, ra⟩
  | ref n =>
    simp only [seqWk] at h
    split at h
    · rename_i ds en
      cases h
      obtain ⟨a, hn, rfl, vs, ha, ra⟩ := rv_ref s r en
      exact .inr (.inl ⟨a, n, vs, rfl, rfl, rfl, hn, ha⟩)
    · cases h
  | str y =>
    simp only [seqWk, Option.some.injEq] at h
    exact .inr (.inr ⟨y, rv_str r, rfl, h.symm⟩)
  | _ => simp [seqWk] at h
theorem j_str {K : PySem.W.Frag} {ρ : List Addr} {H : Hp} {y : Str} : JOk G ρ H (wkItems (signsD y)) (Its y) := by
  intro i ρ1 A1 H1 x1 s1
  have e0 : ∀ i, (signsD y)[i]? = (y.cps[i]?).map fun c => D.str ⟨#[c]⟩ := fun i => by
    unfold signsD
    rw [List.getElem?_map, Array.getElem?_toList]
  refine ⟨fun e => ?_, fun d e => ?_⟩
  · have e := Option.some.inj e
    rw [e0] at e
    cases q : y.cps[i]? with
    | none => exact Array.getElem?_eq_none_iff.mp q
    | some c => rw [q] at e; cases e
  · have e := Option.some.inj e
    rw [e0] at e
    cases q : y.cps[i]? with
    | none => rw [q] at e; cases e
    | some c =>
      rw [q] at e
      cases e
      refine ⟨?_, fun x H' z => ?_⟩
      · exact (Array.getElem?_eq_some_iff.mp q).1
      · obtain ⟨rfl, c', hc', rfl⟩ := z
        rw [q] at hc'
        cases hc'
        exact ⟨.refl, s1, by simp only [RV]⟩
theorem ri_seq {e : Expr} {c : CE} (h : RE G P F X W e c) : RI G P F X W tg e (.seq c) :=
  (pi_seq h).imp fun σ H R q => by
    have q' : tR G (JOk G) W (fun L A => (evE P F c L A).bind fun d A => Res.of1 A (seqWk d A)) σ H R := by
      obtain ⟨ρ, A, L, s, l, o⟩ := q
      exact ⟨ρ, A, L, s, l, by simpa only [evI] using o⟩
    refine (tR_seq (R := RV) q').imp fun v H1 ⟨ρ1, A1, L, x, s1, l1, r1, o1⟩ => ?_
    obtain ⟨w, e, o2⟩ := out_of1 o1
    rcases seqWk_cases s1 r1 e with ⟨a, ds, vs, rfl, rfl, rfl, ha, ra⟩ | ⟨a, n, vs, rfl, rfl, rfl, hn, ha⟩ | ⟨y, rfl, rfl, rfl⟩
    · exact .inl ⟨a, rfl, .inr ⟨⟨vs, .of ha⟩, OutR.ok (R := JOk G) o2 s1 (j_tup ha ra)⟩⟩
    · exact .inl ⟨a, rfl, .inl ⟨⟨vs, .of ha⟩, OutR.ok (R := JOk G) o2 s1 (j_live hn)⟩⟩
    · exact .inr ⟨y, rfl, OutR.ok (R := JOk G) o2 s1 (j_str (K := X.K))⟩
theorem ri_range {e : Expr} {as : List Expr} {f : Expr → CE} (t : Top P G F C k X) (so : ScOk C X) (he : rangeArgs C e = some as) (hf : ∀ e, RE G P F X W e (f e)) : RI G P F X W tg e (.rng (as.map f)) := by
  cases e with
  | Call fe es kws pp =>
    cases fe with
    | Name y py =>
      cases kws with
      | cons _ _ => simp [rangeArgs] at he
      | nil =>
        simp only [rangeArgs] at he
        split at he
        · rename_i hc
          rw [Bool.and_eq_true, Bool.and_eq_true] at hc
          obtain ⟨⟨h1, h2⟩, h3⟩ := hc
          have h1' : y = ("range" : Str) := by simpa using h1
          subst h1'
          obtain ⟨g2, _, hc2⟩ := so.bltn h2
          have hm2 := t.blt _ hc2
          have h3' : es.any isStar = false := by simpa using h3
          match es, he, h3' with
          | [a], he, h3' =>
            cases he
            have sa : isStar a = false := by simpa using h3'
            refine (pi_range1 g2 hm2 (pa_cons (hf a) pa_nil (starEach_cons sa)) (starEach_cons sa)).imp fun σ H R q => ?_
            have q' : tR G (JOk G) W (fun L A => (evE P F (f a) L A).bind fun d A => Res.of1 A (rngWk [d])) σ H R := by
              obtain ⟨ρ, A, L, s, l, o⟩ := q
              refine ⟨ρ, A, L, s, l, ?_⟩
              simp only [evI, List.map_cons, List.map_nil, evEs, res_bind] at o
              simpa only [Res.bind] using o
            refine (tR_seq (R := RV) q').imp fun v H1 ⟨ρ1, A1, L, d, s1, l1, r1, o1⟩ => ?_
            obtain ⟨w, e, o2⟩ := out_of1 o1
            cases d <;> simp only [rngWk, reduceCtorEq] at e
            rename_i j
            split at e
            · rename_i ho
              cases e
              obtain ⟨b1, b2, b3, b4⟩ := okR_ok ho
              have jo := j_rng (G := G) (ρ := ρ1) (H := H1) (lo := 0) (hi := j)
              rw [Int.sub_zero] at jo
              exact ⟨j, by rw [rv_int r1], b3, b4, OutR.ok (R := JOk G) o2 s1 jo⟩
            · cases e
          | [a, b], he, h3' =>
            cases he
            have sa : isStar a = false ∧ isStar b = false := by simpa using h3'
            refine (pi_range2 g2 hm2 (pa_cons (hf a) (pa_cons (hf b) pa_nil (starEach_cons sa.2)) (starEach_cons sa.1)) (by rw [starEach_cons sa.1, starEach_cons sa.2]; rfl) (starEach_cons sa.2)).imp fun σ H R q => ?_
            have q' : tR G (JOk G) W (fun L A => (evE P F (f a) L A).bind fun d A => (evE P F (f b) L A).bind fun d2 A => Res.of1 A (rngWk [d, d2])) σ H R := by
              obtain ⟨ρ, A, L, s, l, o⟩ := q
              refine ⟨ρ, A, L, s, l, ?_⟩
              simp only [evI, List.map_cons, List.map_nil, evEs, res_bind] at o
              simpa only [Res.bind] using o
            refine (tR_two q').imp fun v H1 q => q.imp fun u H2 ⟨ρ, A, L, d, d2, s1, l, rx, ry, o⟩ => ?_
            obtain ⟨w, e, o2⟩ := out_of1 o
            cases d <;> cases d2 <;> simp only [rngWk, reduceCtorEq] at e
            split at e
            · rename_i ho
              cases e
              exact ⟨_, _, by rw [rv_int rx, rv_int ry], okR_ok ho, OutR.ok (R := JOk G) o2 s1 j_rng⟩
            · cases e
        · cases he
    | _ => simp [rangeArgs] at he
  | _ => simp [rangeArgs] at he
theorem ri_range3 {e : Expr} {as : List Expr} {f : Expr → CE} (t : Top P G F C k X) (so : ScOk C X) (he : rangeArgs3 C e = some as) (hf : ∀ e, RE G P F X W e (f e)) : RI G P F X W tg e (.rng (as.map f)) := by
  unfold rangeArgs3 at he
  split at he
  case h_2 => cases he
  rename_i y py a b c pp
  split at he
  case isFalse => cases he
  rename_i hc
  cases he
  rw [Bool.and_eq_true, Bool.and_eq_true] at hc
  obtain ⟨⟨h1, h2⟩, h3⟩ := hc
  have h1' : y = ("range" : Str) := by simpa using h1
  subst h1'
  obtain ⟨g2, _, hc2⟩ := so.bltn h2
  have hm2 := t.blt _ hc2
  have sa : isStar a = false ∧ isStar b = false ∧ isStar c = false := by simpa using h3
  refine (pi_range3 g2 hm2 (pa_cons (hf a) (pa_cons (hf b) (pa_cons (hf c) pa_nil (starEach_cons sa.2.2)) (starEach_cons sa.2.1)) (starEach_cons sa.1)) (starEach_cons sa.1) (starEach_plain (by simp [sa.2.1, sa.2.2]))).imp fun σ H R q => ?_
  have q' : tR G (JOk G) W (fun L A => (evE P F (f a) L A).bind fun d A => (evE P F (f b) L A).bind fun d2 A => (evE P F (f c) L A).bind fun d3 A => Res.of1 A (rngWk [d, d2, d3])) σ H R := by
    obtain ⟨ρ, A, L, s, l, o⟩ := q
    refine ⟨ρ, A, L, s, l, ?_⟩
    simp only [evI, List.map_cons, List.map_nil, evEs, res_bind] at o
    simpa only [Res.bind] using o
  refine (tR_seq (R := RV) (k := fun L d A => (evE P F (f b) L A).bind fun d2 A => (evE P F (f c) L A).bind fun d3 A => Res.of1 A (rngWk [d, d2, d3])) q').imp fun v H1 ⟨ρ1, A1, L, d, s1, l1, r1, o1⟩ => ⟨ρ1, A1, L, s1, l1, (OutR.bind (R := RV) o1).imp fun u H2 ⟨ρ2, A2, d2, x2, s2, r2, o2⟩ => ?_⟩
  refine ⟨ρ2, A2, L, s2, l1.mono x2, (OutR.bind (R := RV) o2).imp fun z H3 ⟨ρ3, A3, d3, x3, s3, r3, o3⟩ => ?_⟩
  obtain ⟨w, e, o4⟩ := out_of1 o3
  cases d <;> cases d2 <;> cases d3 <;> simp only [rngWk, reduceCtorEq] at e
  split at e
  · rename_i ho
    cases e
    rw [Bool.and_eq_true, decide_eq_true_eq] at ho
    obtain ⟨ho, rfl⟩ := ho
    obtain ⟨b1, b2, b3, b4⟩ := okR_ok ho
    exact ⟨_, _, _, _, by rw [rv_int r1, rv_int r2, rv_int r3], RgC.neg b1 b2 b3 b4, OutR.ok (R := JOk G) o4 s3 j_dn⟩
  · cases e
theorem ri_enum {x : Str} {a : Expr} {c : CE} {p tpos : Pos} {elts : List Expr} {kk : Nat} (t : Top P G F C k X) (so : ScOk C X) (hx : x = ("enumerate" : Str)) (hg : C.bltn x = true) (hs : isStar a = false) (h : RE G P F X W a c) :
    RI G P F X W (.Tuple elts kk tpos) (.Call (.Name x p) [a] [] pos) (.enum c) := by
  subst hx
  obtain ⟨g, _, hc⟩ := so.bltn hg
  refine (pi_enumA g (t.blt _ hc) (pa_cons h pa_nil (starEach_cons hs)) (starEach_cons hs)).imp fun σ H R q => ?_
  have q' : tR G (JOk G) W (fun L A => (evE P F c L A).bind fun d A => Res.of1 A (enWk d A)) σ H R := by
    obtain ⟨ρ, A, L, s, l, o⟩ := q
    exact ⟨ρ, A, L, s, l, by simpa only [evI] using o⟩
  refine (tR_seq (R := RV) q').imp fun v H1 ⟨ρ1, A1, L, x, s1, l1, r1, o1⟩ => ?_
  obtain ⟨w, e, o2⟩ := out_of1 o1
  unfold enWk at e
  split at e
  · cases e
  rename_i hns
  cases q : seqWk x A1 with
  | none => rw [q] at e; cases e
  | some w0 =>
    rw [q] at e
    cases e
    rcases seqWk_cases s1 r1 q with ⟨a, ds, vs, rfl, rfl, rfl, ha, ra⟩ | ⟨a, n, vs, rfl, rfl, rfl, hn, ha⟩ | ⟨y, rfl, rfl, rfl⟩
    rotate_left
    rotate_left
    · exact (hns rfl).elim
    · exact ⟨a, vs, rfl, .inr ⟨.of ha, OutR.ok (R := JOk G) o2 s1 (j_enumT ha ra)⟩⟩
    · exact ⟨a, vs, rfl, .inl ⟨.of ha, OutR.ok (R := JOk G) o2 s1 (j_enumL hn)⟩⟩
theorem ri_zip {x : Str} {a b : Expr} {ca cb : CE} {p tpos : Pos} {elts : List Expr} {kk : Nat} (t : Top P G F C k X) (so : ScOk C X) (hx : x = ("zip" : Str)) (hg : C.bltn x = true) (hs : isStar a = false) (hs2 : isStar b = false) (ha : RE G P F X W a ca) (hb : RE G P F X W b cb) :
    RI G P F X W (.Tuple elts kk tpos) (.Call (.Name x p) [a, b] [] pos) (.zip ca cb) := by
  subst hx
  obtain ⟨g, _, hc⟩ := so.bltn hg
  refine (RZ.pi_zipA g (t.blt _ hc) (pa_cons ha (pa_cons hb pa_nil (starEach_cons hs2)) (starEach_cons hs)) (starEach_cons hs) (starEach_plain (by simp [hs2]))).imp fun σ H R q => ?_
  have q' : tR G (JOk G) W (fun L A => (evE P F ca L A).bind fun x A => (evE P F cb L A).bind fun y A => Res.of1 A (zipWk x y)) σ H R := by
    obtain ⟨ρ, A, L, s, l, o⟩ := q
    exact ⟨ρ, A, L, s, l, by simpa only [evI] using o⟩
  refine (tR_two q').imp fun v H1 q => q.imp fun u H2 ⟨ρ, A, L, x, y, s, l, rx, ry, o⟩ => ?_
  obtain ⟨w, e, o2⟩ := out_of1 o
  cases x <;> cases y <;> simp only [zipWk, reduceCtorEq, Option.some.injEq] at e
  obtain ⟨a, vs, rfl, h1, r1⟩ := rv_tup rx
  obtain ⟨b, us, rfl, h2, r2⟩ := rv_tup ry
  subst e
  exact ⟨a, b, vs, us, rfl, .inr ⟨.of h1, .of h2, OutR.ok (R := JOk G) o2 s (j_zip h1 r1 h2 r2)⟩⟩
end
end Kin
end
section
set_option linter.all false
set_option maxRecDepth 100000
/-! Kin 17: targets, comprehensions. -/
namespace Kin
open PySem PySem.Spec PyProof.Rows L2
/-! ### slots -/
theorem wipe_set (σ : St) (i : Nat) (x : Option V) : ∀ vs : List Nat, L2.wipe (σ.set i x) vs = if i ∈ vs then L2.wipe σ vs else (L2.wipe σ vs).set i x
  | [] => by simp [L2.wipe]
  | v :: r => by
    simp only [L2.wipe]
    rw [wipe_set σ i x r]
    by_cases h : i ∈ r
    · simp [h]
    · by_cases q : i = v
      · subst q
        simp [h, List.set_set]
      · simp only [h, if_false, List.mem_cons, q, or_self]
        exact List.set_comm _ _ q
theorem wipe_wipe (σ : St) (vs : List Nat) : ∀ us : List Nat, (∀ u ∈ us, u ∈ vs) → L2.wipe (L2.wipe σ us) vs = L2.wipe σ vs
  | [], _ => rfl
  | u :: us, h => by
    simp only [L2.wipe]
    rw [wipe_set, if_pos (h u (by simp))]
    exact wipe_wipe σ vs us fun v hv => h v (by simp [hv])
section
variable {ρ : List Addr} {H : Hp}
theorem rl_set {L : Loc} {σ : St} {i : Nat} {d : D} {v : V} (l : RL ρ H L σ) (r : RV ρ H d v) : RL ρ H (L.set i (some d)) (σ.set i (some v)) := by
  refine ⟨by simp [l.1], fun j e h => ?_⟩
  rw [List.getElem?_set] at h ⊢
  split at h
  · rename_i q
    rw [if_pos q]
    split at h
    · rename_i hl
      rw [if_pos (by rw [← l.1]; exact hl)]
      cases h
      exact ⟨v, rfl, r⟩
    · cases h
  · rename_i q
    rw [if_neg q]
    exact l.2 j e h
theorem rl_none {L : Loc} {σ : St} {i : Nat} (l : RL ρ H L σ) : RL ρ H (L.set i none) (σ.set i none) := by
  refine ⟨by simp [l.1], fun j e h => ?_⟩
  rw [List.getElem?_set] at h ⊢
  split at h
  · split at h <;> cases h
  · rename_i q
    rw [if_neg q]
    exact l.2 j e h
theorem rl_wipe {L : Loc} {σ : St} (l : RL ρ H L σ) : ∀ vs : List Nat, RL ρ H (Kin.wipe L vs) (L2.wipe σ vs)
  | [] => l
  | v :: vs => rl_none (rl_wipe l vs)
end
/-- the names behind a target -/
def RLo (ss : List Nat) (σ0 : St) : Rel Loc St := fun ρ H L σ => RL ρ H L σ ∧ ∀ vs, (∀ i ∈ ss, i ∈ vs) → L2.wipe σ vs = L2.wipe σ0 vs
def tG (G : Gl) (W : WX) (ss : List Nat) (f : D → Loc → AH → Res Loc) : TG := fun v σ H Q => ∃ ρ A L d, Sim G ρ A H ∧ RL ρ H L σ ∧ RV ρ H d v ∧ OutR G (RLo ss σ) W σ ρ H Q (f d L A)
def tGs (G : Gl) (W : WX) (ss : List Nat) (f : List D → Loc → AH → Res Loc) : TGs := fun vs σ H Q => ∃ ρ A L ds, Sim G ρ A H ∧ RL ρ H L σ ∧ RVs ρ H ds vs ∧ OutR G (RLo ss σ) W σ ρ H Q (f ds L A)
section
variable {G : Gl} {W : WX} {X : Cx} {P : CProg} {F : Fns} {pos : Pos} {C : Ctx} {k : Nat}
/-- a target that cannot fail with an error of its own -/
abbrev RG (G : Gl) (P : CProg) (F : Fns) (X : Cx) (W : WX) (e : Expr) (c : CT) : Prop := PG X e (tG G W (slotsT c) (asT P F c))
abbrev RGs (G : Gl) (P : CProg) (F : Fns) (X : Cx) (W : WX) (es : List Expr) (cs : List CT) : Prop := PGs X es (tGs G W (slotsTs cs) (asTs P F cs))
theorem rg_bad {e : Expr} : RG G P F X W e .bad := ⟨fun pins s σ H v u Q I r h => by
  obtain ⟨ρ, A, L, d, _, _, _, o⟩ := h
  simp only [asT, OutR] at o⟩
theorem rg_slot {x : Str} {i : Nat} (so : ScOk C X) (h : C.tslot x = some i) : RG G P F X W (.Name x pos) (.slot i) := by
  obtain ⟨hx, hi, hf⟩ := so.tgt x i h
  exact (pg_name so.nd hi hx hf).imp fun v σ H Q ⟨ρ, A, L, d, s, l, r, o⟩ => by
    simp only [asT] at o
    refine OutR.ok o s ⟨rl_set l r, fun vs hv => ?_⟩
    rw [wipe_set, if_pos (hv i (by simp [slotsT]))]
theorem assignEach_cons {e : Expr} {es : List Expr} {env : Env} (h : isStar e = false) : assignEach (e :: es) env = (false, assign e env) :: assignEach es env := by
  cases e <;> first | rfl | (exact (Bool.false_ne_true h.symm).elim)
theorem assignEach_len : ∀ {es : List Expr} {env : Env}, es.any isStar = false → (assignEach es env).length = es.length ∧ (assignEach es env).findIdx? (·.1) = none
  | [], _, _ => ⟨rfl, rfl⟩
  | e :: es, env, h => by
    rw [List.any_cons, Bool.or_eq_false_iff] at h
    obtain ⟨a, b⟩ := assignEach_len (env := env) h.2
    rw [assignEach_cons h.1]
    refine ⟨by simp [a], ?_⟩
    rw [List.findIdx?_cons]
    simp [b]
theorem rgs_list {f : Expr → CT} (hf : ∀ e, RG G P F X W e (f e)) : ∀ es : List Expr, es.any isStar = false → RGs G P F X W es (es.map f)
  | [], _ => pgs_nil.imp fun vs σ H Q ⟨ρ, A, L, ds, s, l, r, o⟩ => by
    cases ds with
    | nil =>
      simp only [List.map_nil, asTs] at o
      simp only [RVs] at r
      exact ⟨r, OutR.ok o s ⟨l, fun _ _ => rfl⟩⟩
    | cons d ds => simp only [List.map_nil, asTs, OutR] at o
  | e :: es, h => by
    rw [List.any_cons, Bool.or_eq_false_iff] at h
    refine (pgs_cons (hf e) (rgs_list hf es h.2) (by rw [assignEach_cons h.1]; rfl)).imp fun vs σ H Q ⟨ρ, A, L, ds, s, l, r, o⟩ => ?_
    cases ds with
    | nil => simp only [List.map_cons, asTs, OutR] at o
    | cons d ds =>
      simp only [List.map_cons, asTs] at o
      simp only [RVs] at r
      obtain ⟨v, rr, rfl, rv, rt⟩ := r
      refine ⟨v, rr, rfl, ρ, A, L, d, s, l, rv, (OutR.bind (R := RLo (slotsT (f e)) σ) o).imp fun σ' H' ⟨ρ1, A1, L1, x1, s1, ⟨l1, w1⟩, o1⟩ => ?_⟩
      refine ⟨ρ1, A1, L1, ds, s1, l1, RVs.mono x1 _ _ rt, ?_⟩
      cases q : asTs P F (es.map f) ds L1 A1 with
      | ok L2' A2 =>
        rw [q] at o1
        intro ρ' H2 σ2 x2 s2 ⟨l2, w2⟩
        refine o1 ρ' H2 σ2 x2 s2 ⟨l2, fun vs hv => ?_⟩
        simp only [slotsTs, List.mem_append] at hv
        exact (w2 vs fun i hi => hv i (.inr hi)).trans (w1 vs fun i hi => hv i (.inl hi))
      | exc y A2 =>
        rw [q] at o1
        exact (show False from o1).elim
      | bad => rw [q] at o1; exact o1
theorem rg_tup {es : List Expr} {f : Expr → CT} {j : Nat} (t : Top P G F C k X) (hf : ∀ e, RG G P F X W e (f e)) (hp : es.any isStar = false) : RG G P F X W (.Tuple es j pos) (.tup (es.map f)) := by
  obtain ⟨a, b⟩ := assignEach_len (env := X.env) hp
  refine (pg_tup t.calm (rgs_list hf es hp) a b).imp fun v σ H Q ⟨ρ, A, L, d, s, l, r, o⟩ => ?_
  simp only [asT] at o
  cases e : tupOf d with
  | none => rw [e] at o; exact (show False from o).elim
  | some ds =>
    rw [e] at o
    cases d <;> simp only [tupOf, reduceCtorEq, Option.some.injEq] at e
    subst e
    obtain ⟨a, vs, rfl, ha, ra⟩ := rv_tup r
    simp only [Res.of1, Res.bind] at o
    split at o
    · rename_i hl
      exact ⟨a, vs, rfl, .of ha, by rw [ra.length, hl, List.length_map], ρ, A, L, _, s, l, ra, o⟩
    · exact (show False from o).elim
theorem rg_item {a i : Expr} {ca ci : CE} (t : Top P G F C k X) (hs : isSlice i = false) (ha : RE G P F X W a ca) (hi : RE G P F X W i ci) : RG G P F X W (.Subscript a i pos) (.item ca ci) := by
  refine (pg_sub ha hi (PSet.or set_list (set_dict (by have := t.units; omega))) (fun v => ?_)).imp fun v σ H Q ⟨ρ, A, L, d, s, l, r, o⟩ => ?_
  · cases i <;> first | rfl | (exact (Bool.false_ne_true hs.symm).elim)
  · simp only [asT] at o
    refine ⟨ρ, A, L, s, l, (OutR.bind (R := RV) o).imp fun u H1 ⟨ρ1, A1, x, x1, s1, r1, o1⟩ => ⟨ρ1, A1, L, s1, l.mono x1, (OutR.bind (R := RV) o1).imp fun w H2 ⟨ρ2, A2, y, x2, s2, r2, o2⟩ => ?_⟩⟩
    obtain ⟨L', A', e, o3⟩ := out_of o2
    cases q : setIdx x y d A2 with
    | none => rw [q] at e; cases e
    | some A3 =>
      rw [q] at e
      cases e
      exact pr_set s2 (RV.mono x2 _ _ r1) r2 (RV.mono (x1.trans x2) _ _ r) q fun H' x3 s3 => o3 ρ2 H' σ x3 s3 ⟨(l.mono (x1.trans x2)).mono x3, fun _ _ => rfl⟩
end
/-! ### comprehensions -/
section
variable {α β γ δ : Type} {G : Gl} {R : Rel α β} {R' : Rel γ δ} {W W' : WX} {σ σ' : St} {ρ0 ρ : List Addr} {H0 H : Hp} {Q' : δ → Hp → Prop}
theorem calm0 {ε : Type} {r : Res α} {k : α → AH → Res ε} {k2 : ε → AH → Res γ} (h : OutR G R' W σ ρ0 H0 Q' ((r.bind k).calm.bind k2)) :
    OutR G R W' σ' ρ H (fun v H1 => ∃ ρ2 A2 x, Ext ρ H ρ2 H1 ∧ Sim G ρ2 A2 H1 ∧ R ρ2 H1 x v ∧ OutR G R' W σ ρ0 H0 Q' ((k x A2).calm.bind k2)) r := by
  cases r with
  | ok x A => exact fun ρ' H' v e s r => ⟨ρ', A, x, e, s, r, h⟩
  | exc x A => exact (show False from h).elim
  | bad => exact h
theorem Ext.over {p : Addr} {o : HO} (x : Ext ρ0 H0 ρ H) (hp : H0 p = none) : Ext ρ0 H0 ρ (upd H p o) := by
  obtain ⟨pr, s, k, d⟩ := x
  refine ⟨pr, fun a u st h => ?_, fun a u n h => ?_, fun a h => ?_⟩
  · rw [upd_ne (ne_of_none h hp)]; exact s a u st h
  · rw [upd_ne (ne_of_none h hp)]; exact k a u n h
  · by_cases q : a = p
    · rw [q]; exact hp
    · rw [upd_ne q] at h; exact d a h
theorem Ext.not_new {p : Addr} {o : HO} (x : Ext ρ0 H0 ρ H) (hp : p ∉ ρ0) (h : H0 p = some o) : p ∉ ρ := fun hm => by
  obtain ⟨t, et, ft⟩ := x.pre
  rw [et] at hm
  rcases List.mem_append.mp hm with hm | hm
  · exact hp hm
  · have := ft p hm
    rw [h] at this
    cases this
end
abbrev WF : WX := fun _ _ _ _ => False
section
variable {G : Gl} {W : WX} {X : Cx} {P : CProg} {F : Fns} {pos : Pos} {C : Ctx} {k : Nat}
abbrev RIf (G : Gl) (P : CProg) (F : Fns) (X : Cx) (W : WX) (es : List Expr) (cs : List CE) : Prop := PTs X es (tR G (REq Bool) W (evIfs P F cs))
theorem _root_.L2.PTs.imp {X : Cx} {e : List Expr} {t t' : TT} (h : PTs X e t) (k : ∀ σ H Q, t' σ H Q → t σ H Q) : PTs X e t' := ⟨fun pins s σ H Q I q => h.run pins s σ H Q I (k σ H Q q)⟩
theorem rif_of {f : Expr → CE} (hf : ∀ e, RT G P F X W e (f e)) : ∀ es : List Expr, RIf G P F X W es (es.map f)
  | [] => pts_nil.imp fun σ H Q ⟨ρ, A, L, s, l, o⟩ => OutR.ok (R := REq Bool) (by simpa only [List.map_nil, evIfs] using o) s rfl
  | [e] => (pts_one (hf e)).imp fun σ H Q ⟨ρ, A, L, s, l, o⟩ => ⟨ρ, A, L, s, l, by simpa only [List.map_cons, List.map_nil, evIfs, evT] using o⟩
  | a :: b :: es => ⟨fun pins s σ H Q I h => by
    obtain ⟨ρ, A, L, _, _, o⟩ := h
    simp only [List.map_cons, evIfs, OutR] at o⟩
theorem comp_lc {own : List (Str × Nat)} {ce : CE} {ct : CT} {ci : CI} {cs : List CE} (hw : ∀ i ∈ slotsT ct, i ∈ own.map (·.2)) {σ : St} {H : Hp} {Q : VK} (q : tR G RV W (evE P F (.comp ce ct ci cs (own.map (·.2)))) σ H Q) :
    tLc (tR G (JOk G) W (evI P F ci)) (tG G WF (slotsT ct) (asT P F ct)) (tR G (REq Bool) WF (evIfs P F cs)) (tR G RV WF (evE P F ce)) (own.map (·.2)) σ H Q := by
  obtain ⟨ρ, A, L, s, l, o⟩ := q
  simp only [evE] at o
  refine ⟨ρ, A, L, s, l, (OutR.bind (R := JOk G) o).imp fun J H1 ⟨ρ1, A1, w, x1, s1, jo, o1⟩ => ?_⟩
  intro Da hDa
  have l1 := l.mono x1
  generalize hf : (fun (d : D) (acc : List D) (A : AH) => ((asT P F ct d (Kin.wipe L (own.map (·.2))) A).bind fun L A => (evIfs P F cs L A).bind fun b A =>
      if b then (evE P F ce L A).bind fun v A => if acc.length < lim then .ok (acc ++ [v]) A else .bad else .ok acc A).calm) = f at o1
  let Wp : Nat → Nat → Hp → Prop := fun i m H => ∃ ρ A acc vs, Sim G ρ A H ∧ Ext ρ1 H1 ρ H ∧ Da ∉ ρ ∧ H Da = some (.lst vs) ∧ RVs ρ H acc vs ∧
    OutR G RV W σ ρ1 H1 Q ((overW w f m i acc A).bind fun ds A => Res.of (some (new A (.lst ds))))
  refine ⟨Wp, ⟨fuel, ρ1, A1, [], [], s1.lay hDa, Ext.lay hDa, s1.not_mem hDa, upd_same, by simp only [RVs], o1⟩, ?_⟩
  rintro i m H2 ⟨ρ2, A2, acc, vs, s2, x2, n2, h2, r2, o2⟩
  cases m with
  | zero => exact (show False from o2).elim
  | succ m =>
    simp only [overW] at o2
    have jj := jo i ρ2 A2 H2 x2.ex s2
    split at o2
    · exact (show False from o2).elim
    · rename_i e
      exact .inl ⟨jj.1 e, o2 _ _ _ (x2.reg hDa) (s2.reg n2 ⟨vs, h2, r2⟩) (ref_new s2)⟩
    · rename_i d e
      obtain ⟨go, yl⟩ := jj.2 d e
      refine .inr ⟨go, fun H' => Wp (i + 1) m H', fun H' q => ⟨m, Nat.lt_succ_self m, q⟩, fun x H' y => ?_⟩
      obtain ⟨x3, s3, r3⟩ := yl x H' y
      have h3 : H' Da = some (.lst vs) := x3.keep _ _ n2 h2
      subst hf
      rw [res_bind] at o2
      refine ⟨ρ2, A2, _, d, s3, rl_wipe ((l1.mono x2).mono x3) _, r3, (calm0 (R := RLo (slotsT ct) (L2.wipe σ (own.map (·.2)))) o2).imp fun σ4 H4 ⟨ρ4, A4, L4, x4, s4, ⟨l4, w4⟩, o4⟩ => ?_⟩
      refine ⟨?_, ρ4, A4, L4, s4, l4, (calm0 (R := REq Bool) o4).imp fun b H5 ⟨ρ5, A5, b', x5, s5, eb, o5⟩ => ?_⟩
      · rw [w4 _ hw]
        exact wipe_wipe σ _ _ fun _ h => h
      · cases eb
        have h5 : H5 Da = some (.lst vs) := (x4.trans x5).keep _ _ n2 h3
        have n5 : Da ∉ ρ5 := (x4.trans x5).not_new n2 h3
        cases b
        · exact ⟨ρ5, A5, acc, vs, s5, ((x2.trans x3).trans x4).trans x5, n5, h5, RVs.mono (x3.trans (x4.trans x5)) _ _ r2, o5⟩
        · refine ⟨ρ5, A5, L4, s5, l4.mono x5, (calm0 (R := RV) o5).imp fun v H6 ⟨ρ6, A6, d6, x6, s6, r6, o6⟩ => ?_⟩
          have h6 : H6 Da = some (.lst vs) := x6.keep _ _ n5 h5
          have n6 : Da ∉ ρ6 := x6.not_new n5 h5
          split at o6
          · rename_i hl
            have ra := RVs.mono ((x3.trans (x4.trans x5)).trans x6) _ _ r2
            have ns : ¬ Still (.lst vs) := id
            refine ⟨vs, h6, by rw [ra.length, ← lim_eq]; exact hl, ρ6, A6, acc ++ [d6], vs ++ [v], s6.own n6 h6 ns, ((((x2.trans x3).trans x4).trans x5).trans x6).over hDa, n6, upd_same, RVs.mono2 (upd_ex h6 ns) _ _ (ra.append (RVs.one r6)), o6⟩
          · exact (show False from o6).elim
theorem re_comp {elt tg iter : Expr} {ifs : List Expr} {scope : Scope} {own : List (Str × Nat)} {ce : CE} {ct : CT} {ci : CI} {cs : List CE} (t : Top P G F C k X) (hN : X.N.Nodup) (hi : RI G P F X W tg iter ci) (ok : BlkOk X.N X.env.scope scope own)
    (hw : ∀ i ∈ slotsT ct, i ∈ own.map (·.2))
    (hg : ∀ s H C cl fp, RG G P F (X.blk s H scope (compEnvC scope cl C X.env) fp) WF tg ct) (ht : ∀ s H C cl fp, RIf G P F (X.blk s H scope (compEnvC scope cl C X.env) fp) WF ifs cs)
    (he : ∀ s H C cl fp, RE G P F (X.blk s H scope (compEnvC scope cl C X.env) fp) WF elt ce) (hs : ∀ x, foldedSetIterable iter X.env x = pure x) :
    RE G P F X W (.ListComp elt [⟨tg, iter, ifs, 0⟩] scope pos) (.comp ce ct ci cs (own.map (·.2))) := by
  exact (pe_lc t.calm hN hi ok hg ht he hs).imp fun σ H Q q => comp_lc hw q
theorem calm_calm {α β : Type} {r : Res α} {g : α → AH → Res β} : (r.calm.bind g).calm = (r.bind g).calm := by cases r <;> rfl
theorem intsD_map : ∀ is : List Int, intsD (is.map D.int) = some is
  | [] => rfl
  | i :: is => by
    show (intsD (is.map D.int)).map (i :: ·) = _
    rw [intsD_map is]
    rfl
theorem comp_lc2 {own : List (Str × Nat)} {ce : CE} {ct ct1 : CT} {ci ci1 : CI} {cs cs1 : List CE} (hw : ∀ i ∈ slotsT ct, i ∈ own.map (·.2)) {vs1 : List Nat} (hw1 : ∀ i ∈ slotsT ct1, i ∈ vs1) {σ : St} {H : Hp} {Q : VK}
    (q : tR G RV W (evE P F (.comp2 false ce ct ci cs ct1 ci1 cs1 (own.map (·.2)) vs1)) σ H Q) :
    tLc2 (tR G (JOk G) W (evI P F ci)) (tG G WF (slotsT ct) (asT P F ct)) (tR G (REq Bool) WF (evIfs P F cs)) (tR G (JOk G) WF (evI P F ci1)) (tG G WF (slotsT ct1) (asT P F ct1)) (tR G (REq Bool) WF (evIfs P F cs1)) (tR G RV WF (evE P F ce)) (own.map (·.2)) vs1 σ H Q := by
  obtain ⟨ρ, A, L, s, l, o⟩ := q
  simp only [evE] at o
  refine ⟨ρ, A, L, s, l, (OutR.bind (R := JOk G) o).imp fun J H1 ⟨ρ1, A1, w, x1, s1, jo, o1⟩ => ?_⟩
  intro Da hDa
  have l1 := l.mono x1
  generalize hf : (fun (d : D) (acc : List D) (A : AH) => ((asT P F ct d (Kin.wipe L (own.map (·.2))) A).bind fun L1 A => (evIfs P F cs L1 A).bind fun b A =>
      if b then (evI P F ci1 L1 A).bind fun w1 A => overW w1 (fun d1 acc A => ((asT P F ct1 d1 (Kin.wipe L1 vs1) A).bind fun L2 A => (evIfs P F cs1 L2 A).bind fun b A =>
        if b then (evE P F ce L2 A).bind fun v A => Res.of1 A (addA false acc v) else .ok acc A).calm) fuel 0 acc A
      else .ok acc A).calm) = f at o1
  let Ih : List Addr → AH → List D → Hp → Prop := fun ρ A acc H => Sim G ρ A H ∧ Ext ρ1 H1 ρ H ∧ Da ∉ ρ ∧ ∃ vs, H Da = some (.lst vs) ∧ RVs ρ H acc vs
  have ihs : ∀ {ρ A acc H ρ' A' H'}, Ih ρ A acc H → Ext ρ H ρ' H' → Sim G ρ' A' H' → Ih ρ' A' acc H' := fun {ρ A acc H ρ' A' H'} ⟨_, x, n, vs, h, r⟩ e s => ⟨s, x.trans e, e.not_new n h, vs, e.keep _ _ n h, RVs.mono e _ _ r⟩
  let Wp : Nat → Nat → Hp → Prop := fun i m H => ∃ ρ A acc, Ih ρ A acc H ∧ OutR G RV W σ ρ1 H1 Q ((overW w f m i acc A).bind fun ds A => Res.of (newA false ds A))
  refine ⟨Wp, ⟨fuel, ρ1, A1, [], ⟨s1.lay hDa, Ext.lay hDa, s1.not_mem hDa, ⟨[], upd_same, by simp only [RVs]⟩⟩, o1⟩, ?_⟩
  rintro i m H2 ⟨ρ2, A2, acc, ih, o2⟩
  cases m with
  | zero => exact (show False from o2).elim
  | succ m =>
    simp only [overW] at o2
    have jj := jo i ρ2 A2 H2 ih.2.1.ex ih.1
    split at o2
    · exact (show False from o2).elim
    · rename_i e
      refine .inl ⟨jj.1 e, ?_⟩
      obtain ⟨s2, x2, n2, rep⟩ := ih
      obtain ⟨vs, h2, r2⟩ := rep
      exact o2 _ _ _ (x2.reg hDa) (s2.reg n2 ⟨vs, h2, r2⟩) (ref_new s2)
    · rename_i d e
      obtain ⟨go, yl⟩ := jj.2 d e
      refine .inr ⟨go, fun H' => Wp (i + 1) m H', fun H' q => ⟨m, Nat.lt_succ_self m, q⟩, fun x H' y => ?_⟩
      obtain ⟨x3, s3, r3⟩ := yl x H' y
      have ih3 := ihs ih x3 s3
      rw [res_bind] at o2
      generalize hK : (fun (acc : List D) (A : AH) => (overW w f m (i + 1) acc A).bind fun ds A => Res.of (newA false ds A)) = K at o2
      have hKo : ∀ {ρ A acc H}, Ih ρ A acc H → OutR G RV W σ ρ1 H1 Q (K acc A) → Wp (i + 1) m H := fun {ρ A acc H} a b => ⟨ρ, A, acc, a, by rw [← hK] at b; exact b⟩
      clear hK
      rw [← hf] at o2
      dsimp only at o2
      refine ⟨ρ2, A2, _, d, s3, rl_wipe ((l1.mono ih.2.1).mono x3) _, r3, (calm0 (R := RLo (slotsT ct) (L2.wipe σ (own.map (·.2)))) o2).imp fun σ4 H4 ⟨ρ4, A4, L4, x4, s4, ⟨l4, w4⟩, o4⟩ => ?_⟩
      refine ⟨?_, ρ4, A4, L4, s4, l4, (calm0 (R := REq Bool) o4).imp fun b H5 ⟨ρ5, A5, b', x5, s5, eb, o5⟩ => ?_⟩
      · rw [w4 _ hw]
        exact wipe_wipe σ _ _ fun _ h => h
      cases eb
      have ih5 := ihs (ihs ih3 x4 s4) x5 s5
      cases b
      · exact hKo ih5 o5
      refine ⟨ρ5, A5, L4, s5, l4.mono x5, (calm0 (R := JOk G) o5).imp fun J1 H6 ⟨ρ6, A6, w1, x6, s6, jo1, o6⟩ => ?_⟩
      have ih6 := ihs ih5 x6 s6
      have l6 := (l4.mono x5).mono x6
      generalize hf1 : (fun (d1 : D) (acc : List D) (A : AH) => ((asT P F ct1 d1 (Kin.wipe L4 vs1) A).bind fun L2 A => (evIfs P F cs1 L2 A).bind fun b A =>
        if b then (evE P F ce L2 A).bind fun v A => Res.of1 A (addA false acc v) else .ok acc A).calm) = f1 at o6
      let W1 : Nat → Nat → Hp → Prop := fun j k H => ∃ ρ A acc, Ih ρ A acc H ∧ Ex2 ρ6 H6 ρ H ∧ OutR G RV W σ ρ1 H1 Q ((overW w1 f1 k j acc A).calm.bind K)
      refine ⟨W1, ⟨fuel, ρ6, A6, acc, ih6, Ext.refl.ex, o6⟩, ?_⟩
      rintro j k H7 ⟨ρ7, A7, acc7, i7, x7, o7⟩
      cases k with
      | zero => exact (show False from o7).elim
      | succ k =>
        simp only [overW] at o7
        have jj1 := jo1 j ρ7 A7 H7 x7 i7.1
        split at o7
        · exact (show False from o7).elim
        · rename_i e1
          exact .inl ⟨jj1.1 e1, hKo i7 o7⟩
        · rename_i d1 e1
          obtain ⟨go1, yl1⟩ := jj1.2 d1 e1
          refine .inr ⟨go1, fun H' => W1 (j + 1) k H', fun H' q => ⟨k, Nat.lt_succ_self k, q⟩, fun x H' y => ?_⟩
          obtain ⟨x8, s8, r8⟩ := yl1 x H' y
          have i8 := ihs i7 x8 s8
          generalize hg : (fun (acc : List D) (A : AH) => overW w1 f1 k (j + 1) acc A) = gg at o7
          have hgo : ∀ {ρ A acc H}, Ih ρ A acc H → Ex2 ρ6 H6 ρ H → OutR G RV W σ ρ1 H1 Q ((gg acc A).calm.bind K) → W1 (j + 1) k H := fun {ρ A acc H} a b c => ⟨ρ, A, acc, a, b, by rw [← hg] at c; exact c⟩
          clear hg
          rw [← hf1] at o7
          dsimp only at o7
          rw [calm_calm, res_bind] at o7
          refine ⟨ρ7, A7, _, d1, s8, rl_wipe ((l6.mono2 x7).mono x8) _, r8, (calm0 (R := RLo (slotsT ct1) (L2.wipe σ4 vs1)) o7).imp fun σ9 H9 ⟨ρ9, A9, L9, x9, s9, ⟨l9, w9⟩, o9⟩ => ?_⟩
          rw [res_bind] at o9
          refine ⟨?_, ρ9, A9, L9, s9, l9, (calm0 (R := REq Bool) o9).imp fun b1 H10 ⟨ρ10, A10, b1', x10, s10, eb1, o10⟩ => ?_⟩
          · rw [w9 _ hw1]
            exact wipe_wipe σ4 _ _ fun _ h => h
          cases eb1
          have i10 := ihs (ihs i8 x9 s9) x10 s10
          have x10' := x7.trans ((x8.trans x9).trans x10).ex
          cases b1
          · exact hgo i10 x10' o10
          simp only [if_true] at o10
          rw [res_bind] at o10
          refine ⟨ρ10, A10, L9, s10, l9.mono x10, (calm0 (R := RV) o10).imp fun v H11 ⟨ρ11, A11, dv, x11, s11, rv, o11⟩ => ?_⟩
          have i11 := ihs i10 x11 s11
          have xx := x10'.trans x11.ex
          obtain ⟨_, y11, n11, vs, h11, r11⟩ := i11
          by_cases hz : acc7.length < lim
          case neg =>
            simp only [addA, hz, if_false] at o11
            exact (show False from o11).elim
          simp only [addA, hz, if_true] at o11
          have ns : ¬ Still (.lst vs) := id
          exact ⟨vs, h11, by rw [r11.length, ← lim_eq]; exact hz, hgo (acc := acc7 ++ [dv]) ⟨s11.own n11 h11 ns, y11.over hDa, n11, vs ++ [v], upd_same, RVs.mono2 (upd_ex h11 ns) _ _ (r11.append (RVs.one rv))⟩ (xx.trans (upd_ex h11 ns)) o11⟩
theorem comp_sc2 {own : List (Str × Nat)} {ce : CE} {ct ct1 : CT} {ci ci1 : CI} {cs cs1 : List CE} (hw : ∀ i ∈ slotsT ct, i ∈ own.map (·.2)) {vs1 : List Nat} (hw1 : ∀ i ∈ slotsT ct1, i ∈ vs1) (hGw : G.w = X.w) {σ : St} {H : Hp} {Q : VK}
    (q : tR G RV W (evE P F (.comp2 true ce ct ci cs ct1 ci1 cs1 (own.map (·.2)) vs1)) σ H Q) :
    tSc2 X.w (tR G (JOk G) W (evI P F ci)) (tG G WF (slotsT ct) (asT P F ct)) (tR G (REq Bool) WF (evIfs P F cs)) (tR G (JOk G) WF (evI P F ci1)) (tG G WF (slotsT ct1) (asT P F ct1)) (tR G (REq Bool) WF (evIfs P F cs1)) (tR G RV WF (evE P F ce)) (own.map (·.2)) vs1 σ H Q := by
  obtain ⟨ρ, A, L, s, l, o⟩ := q
  simp only [evE] at o
  refine ⟨ρ, A, L, s, l, (OutR.bind (R := JOk G) o).imp fun J H1 ⟨ρ1, A1, w, x1, s1, jo, o1⟩ => ?_⟩
  intro Da hDa
  have l1 := l.mono x1
  generalize hf : (fun (d : D) (acc : List D) (A : AH) => ((asT P F ct d (Kin.wipe L (own.map (·.2))) A).bind fun L1 A => (evIfs P F cs L1 A).bind fun b A =>
      if b then (evI P F ci1 L1 A).bind fun w1 A => overW w1 (fun d1 acc A => ((asT P F ct1 d1 (Kin.wipe L1 vs1) A).bind fun L2 A => (evIfs P F cs1 L2 A).bind fun b A =>
        if b then (evE P F ce L2 A).bind fun v A => Res.of1 A (addA true acc v) else .ok acc A).calm) fuel 0 acc A
      else .ok acc A).calm) = f at o1
  let Ih : List Addr → AH → List D → Hp → Prop := fun ρ A acc H => Sim G ρ A H ∧ Ext ρ1 H1 ρ H ∧ Da ∉ ρ ∧ ∃ is, acc = is.map D.int ∧ Asc is ∧ H Da = some (ISet X.w Da is)
  have ihs : ∀ {ρ A acc H ρ' A' H'}, Ih ρ A acc H → Ext ρ H ρ' H' → Sim G ρ' A' H' → Ih ρ' A' acc H' := fun {ρ A acc H ρ' A' H'} ⟨_, x, n, is, e1, e2, h⟩ e s => ⟨s, x.trans e, e.not_new n h, is, e1, e2, e.keep _ _ n h⟩
  let Wp : Nat → Nat → Hp → Prop := fun i m H => ∃ ρ A acc, Ih ρ A acc H ∧ OutR G RV W σ ρ1 H1 Q ((overW w f m i acc A).bind fun ds A => Res.of (newA true ds A))
  refine ⟨Wp, ⟨fuel, ρ1, A1, [], ⟨s1.lay hDa, Ext.lay hDa, s1.not_mem hDa, ⟨[], rfl, List.Pairwise.nil, upd_same⟩⟩, o1⟩, ?_⟩
  rintro i m H2 ⟨ρ2, A2, acc, ih, o2⟩
  cases m with
  | zero => exact (show False from o2).elim
  | succ m =>
    simp only [overW] at o2
    have jj := jo i ρ2 A2 H2 ih.2.1.ex ih.1
    split at o2
    · exact (show False from o2).elim
    · rename_i e
      refine .inl ⟨jj.1 e, ?_⟩
      obtain ⟨s2, x2, n2, rep⟩ := ih
      obtain ⟨is, rfl, asc, h2⟩ := rep
      simp only [Res.bind, newA, intsD_map, Option.map_some] at o2
      exact o2 _ _ _ (x2.reg hDa) (s2.reg n2 ⟨by rw [hGw]; exact h2, asc⟩) (ref_new s2)
    · rename_i d e
      obtain ⟨go, yl⟩ := jj.2 d e
      refine .inr ⟨go, fun H' => Wp (i + 1) m H', fun H' q => ⟨m, Nat.lt_succ_self m, q⟩, fun x H' y => ?_⟩
      obtain ⟨x3, s3, r3⟩ := yl x H' y
      have ih3 := ihs ih x3 s3
      rw [res_bind] at o2
      generalize hK : (fun (acc : List D) (A : AH) => (overW w f m (i + 1) acc A).bind fun ds A => Res.of (newA true ds A)) = K at o2
      have hKo : ∀ {ρ A acc H}, Ih ρ A acc H → OutR G RV W σ ρ1 H1 Q (K acc A) → Wp (i + 1) m H := fun {ρ A acc H} a b => ⟨ρ, A, acc, a, by rw [← hK] at b; exact b⟩
      clear hK
      rw [← hf] at o2
      dsimp only at o2
      refine ⟨ρ2, A2, _, d, s3, rl_wipe ((l1.mono ih.2.1).mono x3) _, r3, (calm0 (R := RLo (slotsT ct) (L2.wipe σ (own.map (·.2)))) o2).imp fun σ4 H4 ⟨ρ4, A4, L4, x4, s4, ⟨l4, w4⟩, o4⟩ => ?_⟩
      refine ⟨?_, ρ4, A4, L4, s4, l4, (calm0 (R := REq Bool) o4).imp fun b H5 ⟨ρ5, A5, b', x5, s5, eb, o5⟩ => ?_⟩
      · rw [w4 _ hw]
        exact wipe_wipe σ _ _ fun _ h => h
      cases eb
      have ih5 := ihs (ihs ih3 x4 s4) x5 s5
      cases b
      · exact hKo ih5 o5
      refine ⟨ρ5, A5, L4, s5, l4.mono x5, (calm0 (R := JOk G) o5).imp fun J1 H6 ⟨ρ6, A6, w1, x6, s6, jo1, o6⟩ => ?_⟩
      have ih6 := ihs ih5 x6 s6
      have l6 := (l4.mono x5).mono x6
      generalize hf1 : (fun (d1 : D) (acc : List D) (A : AH) => ((asT P F ct1 d1 (Kin.wipe L4 vs1) A).bind fun L2 A => (evIfs P F cs1 L2 A).bind fun b A =>
        if b then (evE P F ce L2 A).bind fun v A => Res.of1 A (addA true acc v) else .ok acc A).calm) = f1 at o6
      let W1 : Nat → Nat → Hp → Prop := fun j k H => ∃ ρ A acc, Ih ρ A acc H ∧ Ex2 ρ6 H6 ρ H ∧ OutR G RV W σ ρ1 H1 Q ((overW w1 f1 k j acc A).calm.bind K)
      refine ⟨W1, ⟨fuel, ρ6, A6, acc, ih6, Ext.refl.ex, o6⟩, ?_⟩
      rintro j k H7 ⟨ρ7, A7, acc7, i7, x7, o7⟩
      cases k with
      | zero => exact (show False from o7).elim
      | succ k =>
        simp only [overW] at o7
        have jj1 := jo1 j ρ7 A7 H7 x7 i7.1
        split at o7
        · exact (show False from o7).elim
        · rename_i e1
          exact .inl ⟨jj1.1 e1, hKo i7 o7⟩
        · rename_i d1 e1
          obtain ⟨go1, yl1⟩ := jj1.2 d1 e1
          refine .inr ⟨go1, fun H' => W1 (j + 1) k H', fun H' q => ⟨k, Nat.lt_succ_self k, q⟩, fun x H' y => ?_⟩
          obtain ⟨x8, s8, r8⟩ := yl1 x H' y
          have i8 := ihs i7 x8 s8
          generalize hg : (fun (acc : List D) (A : AH) => overW w1 f1 k (j + 1) acc A) = gg at o7
          have hgo : ∀ {ρ A acc H}, Ih ρ A acc H → Ex2 ρ6 H6 ρ H → OutR G RV W σ ρ1 H1 Q ((gg acc A).calm.bind K) → W1 (j + 1) k H := fun {ρ A acc H} a b c => ⟨ρ, A, acc, a, b, by rw [← hg] at c; exact c⟩
          clear hg
          rw [← hf1] at o7
          dsimp only at o7
          rw [calm_calm, res_bind] at o7
          refine ⟨ρ7, A7, _, d1, s8, rl_wipe ((l6.mono2 x7).mono x8) _, r8, (calm0 (R := RLo (slotsT ct1) (L2.wipe σ4 vs1)) o7).imp fun σ9 H9 ⟨ρ9, A9, L9, x9, s9, ⟨l9, w9⟩, o9⟩ => ?_⟩
          rw [res_bind] at o9
          refine ⟨?_, ρ9, A9, L9, s9, l9, (calm0 (R := REq Bool) o9).imp fun b1 H10 ⟨ρ10, A10, b1', x10, s10, eb1, o10⟩ => ?_⟩
          · rw [w9 _ hw1]
            exact wipe_wipe σ4 _ _ fun _ h => h
          cases eb1
          have i10 := ihs (ihs i8 x9 s9) x10 s10
          have x10' := x7.trans ((x8.trans x9).trans x10).ex
          cases b1
          · exact hgo i10 x10' o10
          simp only [if_true] at o10
          rw [res_bind] at o10
          refine ⟨ρ10, A10, L9, s10, l9.mono x10, (calm0 (R := RV) o10).imp fun v H11 ⟨ρ11, A11, dv, x11, s11, rv, o11⟩ => ?_⟩
          have i11 := ihs i10 x11 s11
          have xx := x10'.trans x11.ex
          obtain ⟨_, y11, n11, is, rfl, asc, h11⟩ := i11
          cases dv with
          | int c =>
            simp only [addA, intsD_map] at o11
            by_cases hz : is.length < 4094
            case neg =>
              simp only [hz, if_false] at o11
              exact (show False from o11).elim
            simp only [hz, if_true] at o11
            have ns : ¬ Still (ISet X.w Da is) := id
            exact ⟨c, is, rv_int rv, h11, asc, by unfold scanBound; omega, hgo (acc := (insI c is).map D.int) ⟨s11.own n11 h11 ns, y11.over hDa, n11, _, rfl, insI_asc asc, upd_same⟩ (xx.trans (upd_ex h11 ns)) o11⟩
          | _ => exact (show False from o11).elim
theorem re_comp2 {elt tg iter tg1 iter1 : Expr} {ifs ifs1 : List Expr} {scope : Scope} {own : List (Str × Nat)} {ce : CE} {ct ct1 : CT} {ci ci1 : CI} {cs cs1 : List CE} (t : Top P G F C k X) (hN : X.N.Nodup) (hi : RI G P F X W tg iter ci) (ok : BlkOk X.N X.env.scope scope own)
    (hw : ∀ i ∈ slotsT ct, i ∈ own.map (·.2)) (hw1 : ∀ i ∈ slotsT ct1, i ∈ own.map (·.2))
    (hg : ∀ s H C cl fp, RG G P F (X.blk s H scope (compEnvC scope cl C X.env) fp) WF tg ct) (ht : ∀ s H C cl fp, RIf G P F (X.blk s H scope (compEnvC scope cl C X.env) fp) WF ifs cs)
    (hi1 : ∀ s H C cl fp, RI G P F (X.blk s H scope (compEnvC scope cl C X.env) fp) WF tg1 iter1 ci1) (hg1 : ∀ s H C cl fp, RG G P F (X.blk s H scope (compEnvC scope cl C X.env) fp) WF tg1 ct1)
    (ht1 : ∀ s H C cl fp, RIf G P F (X.blk s H scope (compEnvC scope cl C X.env) fp) WF ifs1 cs1)
    (he : ∀ s H C cl fp, RE G P F (X.blk s H scope (compEnvC scope cl C X.env) fp) WF elt ce) (hs : ∀ x, foldedSetIterable iter X.env x = pure x) (hs1 : ∀ env x, foldedSetIterable iter1 env x = pure x) :
    RE G P F X W (.ListComp elt [⟨tg, iter, ifs, 0⟩, ⟨tg1, iter1, ifs1, 0⟩] scope pos) (.comp2 false ce ct ci cs ct1 ci1 cs1 (own.map (·.2)) (slotsT ct1)) ∧
    RE G P F X W (.SetComp elt [⟨tg, iter, ifs, 0⟩, ⟨tg1, iter1, ifs1, 0⟩] scope pos) (.comp2 true ce ct ci cs ct1 ci1 cs1 (own.map (·.2)) (slotsT ct1)) :=
  ⟨(pe_lc2 t.calm hN hi ok hw1 hg ht hi1 hg1 ht1 he hs hs1).imp fun σ H Q q => comp_lc2 hw (fun _ h => h) q,
   (pe_sc2 t.calm hN hi ok hw1 hg ht hi1 hg1 ht1 he hs hs1).imp fun σ H Q q => comp_sc2 hw (fun _ h => h) t.w q⟩
end
end Kin
end
section
set_option linter.all false
set_option maxRecDepth 100000
/-! Kin 18: the compiler's expressions. -/
namespace Kin
open PySem PySem.Spec PyProof.Rows L2
theorem ix_at {x : Str} {l : List Str} {i : Nat} (h : ix x l = some i) : l[i]? = some x := by
  unfold ix List.idxOf? at h
  obtain ⟨hi, e, _⟩ := List.findIdx?_eq_some_iff_getElem.mp h
  rw [List.getElem?_eq_getElem hi]
  exact congrArg some (eq_of_beq e)
theorem visB_ok {sc : Scope} {x : Str} (h : visB sc x = true) : Vis sc x := by
  unfold visB at h
  split at h
  · rename_i e; exact .inl e
  · rename_i e; exact .inr (.inl e)
  · rename_i e; exact .inr (.inr e)
  · cases h
theorem locB_ok {sc : Scope} {x : Str} (h : locB sc x = true) : L2.Loc sc x := by
  unfold locB at h
  split at h
  · rename_i e; exact .inl e
  · rename_i e; exact .inr e
  · cases h
/-- from what is seen -/
theorem ScOk.mk' {C : Ctx} {X : Cx} (nd : X.N.Nodup) (kind : X.env.scope.kind = .function) (sc : X.env.scope = C.sc) (n : X.N = C.N)
    (fn : ∀ x, wrB C.wr x = true → L2.Loc X.env.scope x → X.fn x = true ∨ X.env.scope.names.lookup x = some .local) : ScOk C X where
  nd := nd
  kind := kind
  sc := sc
  n := n
  vis := fun x i h => by
    unfold Ctx.slot at h
    split at h
    · rename_i e
      rw [Bool.and_eq_true] at e
      exact ⟨by rw [sc]; exact visB_ok e.1, by rw [n]; exact ix_at h, e.2⟩
    · cases h
  tgt := fun x i h => by
    unfold Ctx.tslot at h
    split at h
    · rename_i e
      rw [Bool.and_eq_true, Bool.and_eq_true] at e
      have l : L2.Loc X.env.scope x := by rw [sc]; exact locB_ok e.1.1
      exact ⟨l, by rw [n]; exact ix_at h, fn x e.2 l⟩
    · cases h
theorem own_ix {scope : Scope} {C : Ctx} : ∀ p ∈ ownOf scope C, C.N[p.2]? = some p.1 := by
  intro p hp
  unfold ownOf at hp
  obtain ⟨y, hy, e⟩ := List.mem_filterMap.mp hp
  have key : ∀ q : Option Nat, (q.map fun i => (y.1, i)) = some p → q = some p.2 ∧ p.1 = y.1 := by
    intro q h
    cases q with
    | none => cases h
    | some i => cases h; exact ⟨rfl, rfl⟩
  split at e
  · obtain ⟨a, b⟩ := key _ e; rw [b]; exact ix_at a
  · obtain ⟨a, b⟩ := key _ e; rw [b]; exact ix_at a
  · cases e
theorem blk_ok {scope : Scope} {C : Ctx} (h : blkB scope C = true) : BlkOk C.N C.sc scope (ownOf scope C) := by
  unfold blkB at h
  rw [Bool.and_eq_true] at h
  obtain ⟨h1, h2⟩ := h
  have h2 := List.all_eq_true.mp h2
  have own : ∀ y : Str, ((ownOf scope C).any (fun p => decide (p.1 = y)) || !C.N.contains y) = true → y ∈ (ownOf scope C).map (·.1) ∨ y ∉ C.N := by
    intro y hy
    rw [Bool.or_eq_true] at hy
    rcases hy with hy | hy
    · obtain ⟨p, hp, e⟩ := List.any_eq_true.mp hy
      exact .inl (List.mem_map.mpr ⟨p, hp, of_decide_eq_true e⟩)
    · exact .inr fun hm => by simp [hm] at hy
  refine ⟨by simpa using h1, fun y hy => ?_, own_ix, fun y hy e => ?_, fun y hy e => ?_⟩
  · have := h2 y hy
    rw [Bool.and_eq_true] at this
    exact of_decide_eq_true this.1
  · have := h2 y hy
    rw [Bool.and_eq_true, e] at this
    have := this.2
    simp only at this
    split at this
    · rename_i q; exact .inl q
    · rename_i q; exact .inr q
    · cases this
  · have := h2 y hy
    rw [Bool.and_eq_true] at this
    have := this.2
    rcases e with e | e
    · rw [e] at this
      exact own _ this
    · rw [e] at this
      exact own _ this
section
variable {G : Gl} {P : CProg} {F : Fns} {k : Nat} {C : Ctx} {X : Cx}
theorem Top.blk (t : Top P G F C k X) {s : Shared} {H : Hp} {scope : Scope} {env : Env} {fp : List Addr} : Top P G F (relC scope C) k (X.blk s H scope env fp) := ⟨t.cls, fun c cl h => ⟨(t.clsT c cl h).1, ⟨(t.clsT c cl h).2.meth, (t.clsT c cl h).2.noat⟩⟩, t.isc, t.clsN, t.w, t.calm, t.room1, t.bare, t.cons, t.blt, t.fun_⟩
theorem ScOk.blk (so : ScOk C X) {s : Shared} {H : Hp} {scope : Scope} {C' : Addr} {cl : List (Str × Addr)} {fp : List Addr} (hb : blkB scope C = true) : ScOk (relC scope C) (X.blk s H scope (compEnvC scope cl C' X.env) fp) := by
  have hsc : (compEnvC scope cl C' X.env).scope = relS scope C.sc := by rw [← so.sc]; rfl
  refine ScOk.mk' so.nd ?_ hsc so.n fun x h l => ?_
  · show (compEnvC scope cl C' X.env).scope.kind = .function
    rw [hsc]
    exact (blk_ok hb).kind
  · have h' : locB scope x = true := h
    rcases locB_ok h' with e | e
    · refine .inr ?_
      show (compEnvC scope cl C' X.env).scope.names.lookup x = some .local
      rw [hsc]
      exact lookup_relS_keep (by simp) e
    · refine .inl ?_
      show (scope.names.lookup x == some .cell) = true
      rw [e]
      rfl
theorem lookup_mem {x : Str} {k : NameKind} : ∀ {l : List (Str × NameKind)}, l.lookup x = some k → (x, k) ∈ l
  | [], h => by simp at h
  | (y, j) :: r, h => by
    rw [List.lookup_cons] at h
    by_cases q : x = y
    · subst q
      simp at h
      subst h
      simp
    · have : (x == y) = false := by simpa using q
      rw [this] at h
      exact List.mem_cons_of_mem _ (lookup_mem h)
/-- the slots of a comprehension's target are its own -/
theorem slots_in {f : CEF} {scope : Scope} {C : Ctx} (hN : C.N.Nodup) : ∀ (m : Nat) (e : Expr), ∀ i ∈ slotsT (tgtF f m (relC scope C) e), i ∈ (ownOf scope C).map (·.2)
  | 0, e, i, h => by simp [tgtF, slotsT] at h
  | m + 1, e, i, h => by
    cases e with
    | Name x p =>
      simp only [tgtF] at h
      split at h
      · rename_i j ej
        simp only [slotsT, List.mem_singleton] at h
        subst h
        unfold Ctx.tslot at ej
        split at ej
        · rename_i hc
          rw [Bool.and_eq_true, Bool.and_eq_true] at hc
          have hw : locB scope x = true := hc.2
          refine List.mem_map.mpr ⟨(x, i), ?_, rfl⟩
          unfold ownOf
          rcases locB_ok hw with e | e
          · refine List.mem_filterMap.mpr ⟨(x, .local), lookup_mem e, ?_⟩
            show (ix x C.N).map _ = _
            rw [show ix x C.N = some i from ej]
            rfl
          · refine List.mem_filterMap.mpr ⟨(x, .cell), lookup_mem e, ?_⟩
            show (ix x C.N).map _ = _
            rw [show ix x C.N = some i from ej]
            rfl
        · cases ej
      · simp [slotsT] at h
    | Tuple es j p =>
      simp only [tgtF] at h
      split at h
      · simp [slotsT] at h
      · simp only [slotsT] at h
        have key : ∀ es : List Expr, i ∈ slotsTs (es.map (tgtF f m (relC scope C))) → i ∈ (ownOf scope C).map (·.2) := by
          intro es
          induction es with
          | nil => intro h; simp [slotsTs] at h
          | cons e es ih =>
            intro h
            simp only [List.map_cons, slotsTs, List.mem_append] at h
            rcases h with h | h
            · exact slots_in hN m e i h
            · exact ih h
        exact key es h
    | Subscript a b p =>
      simp only [tgtF] at h
      split at h <;> simp [slotsT] at h
    | _ => simp [tgtF, slotsT] at h
theorem tgt_ok {W : WX} {f : CEF} (t : Top P G F C k X) (so : ScOk C X) (hf : ∀ e, RE G P F X W e (f C e)) : ∀ (m : Nat) (e : Expr), RG G P F X W e (tgtF f m C e)
  | 0, e => rg_bad
  | m + 1, e => by
    cases e with
    | Name x p =>
      simp only [tgtF]
      split
      · rename_i j ej
        exact rg_slot so ej
      · exact rg_bad
    | Tuple es j p =>
      simp only [tgtF]
      split
      · exact rg_bad
      · rename_i h
        exact rg_tup t (fun e => tgt_ok t so hf m e) (by simpa using h)
    | Subscript a b p =>
      simp only [tgtF]
      split
      · exact rg_bad
      · rename_i h
        exact rg_item t (by simpa using h) (hf a) (hf b)
    | _ => exact rg_bad
theorem iter_ok {W : WX} {f : CEF} (t : Top P G F C k X) (so : ScOk C X) (hf : ∀ e, RE G P F X W e (f C e)) (tg e : Expr) : RI G P F X W tg e (iterF f C (isTup tg) e) := by
  unfold iterF
  split
  · rename_i as h
    exact ri_range t so h hf
  · split
    · rename_i as h
      exact ri_range3 t so h hf
    split
    · rename_i g p es q _
      split
      · rename_i h
        rw [Bool.and_eq_true, Bool.and_eq_true] at h
        split
        · rename_i a _
          split
          · exact ri_bad
          · rename_i hs
            cases tg <;> first | (exact (Bool.false_ne_true h.2).elim) | exact ri_enum t so (by simpa using h.1.1) h.1.2 (by simpa using hs) (hf a)
        · exact ri_bad
      · split
        · rename_i h
          rw [Bool.and_eq_true, Bool.and_eq_true] at h
          split
          · rename_i a b _
            split
            · exact ri_bad
            · rename_i hs
              have hs : isStar a = false ∧ isStar b = false := by simpa using hs
              cases tg <;> first | (exact (Bool.false_ne_true h.2).elim) | exact ri_zip t so (by simpa using h.1.1) h.1.2 hs.1 hs.2 (hf a) (hf b)
          · exact ri_bad
        · split
          · exact ri_bad
          · exact ri_seq (hf _)
    · split
      · exact ri_bad
      · exact ri_seq (hf _)
theorem folded_ok {W : WX} {f : CEF} (tg e : Expr) (env : Env) (h : iterF f C (isTup tg) e ≠ .bad) : ∀ x, foldedSetIterable e env x = pure x := by
  intro x
  cases e with
  | Set a b c => exact absurd (by simp [iterF, rangeArgs, rangeArgs3, isSet]) h
  | _ => rfl
end
end Kin
end
section
set_option linter.all false
set_option maxRecDepth 100000
/-! Kin 14b: own classes: new instances, what they have, methods. -/
namespace Kin
open PySem PySem.Spec PyProof.Rows L2
/-! ### calls without arguments, new instances, methods -/
section
variable {X : Cx} {CX : CXT} {k : Nat} {f : Addr} {fd : FuncData} {ps : List Str} {sp : Sp} {E : St → XK} {x m : Str} {p pos apos : Pos} {e o : Expr} {es : List Expr} {t : TA} {ta : TE} {cl : Addr}
theorem pe_callG0 (FG : FnG X.prog X.w X.K X.mg X.base CX k f fd ps sp) (bare : Bare X.A) (room : Room k X.A) (hg : L2.Gl X x) (hm : X.mg x = some (.ref f)) (hk : PySem.W.keepIn X.K (.ref f) = true)
    (hb : Binds X.K fd ps []) (hx : ∀ σ, PassesAt CX X σ (E σ)) (hd : (x == ("__debug__" : Str)) = false) : PE X (.Call (.Name x p) [] [] pos) (fun σ H Q => sp [] H Q (E σ)) := by
  constructor
  intro pins s σ H Q I h
  apply wpAny_Call_Name_kw (ld_glob I hg hm _ hd)
  exact PySem.W.callWith_K0 I.kIn hk (FG.called (us := []) (vs := []) bare room hb (hx σ) I .nil h)
theorem Bare.make {A : Around} (b : Bare A) (C : Addr) (us : List Value) (kw : List (Str × Value)) : Bare (A.under (.builtin "type.__call__" ⟨.ref C :: us, kw⟩)) := by
  unfold Bare at b ⊢
  first | exact b | (simp [Around.under, Code.isGuard, guardIds, b]; done) | (simp [Around.under, b])
/-- a new instance is made, its __init__ runs -/
theorem FnG.makes (FG : FnG X.prog X.w X.K X.mg X.base CX k f fd ps sp) (M : Mk X.K cl f) (bare : Bare X.A) (room : Room (k + 1) X.A) (hb : Binds X.K fd ps []) {σ : St} (hx : PassesAt CX X σ (E σ)) {pins : List (Addr × Obj)} {H : Hp} {s : Shared} {Q : VK} {us : List Value} {vs : List V}
    (I : Inv X pins σ H s) (r : Vals vs us)
    (want : ∀ y dx, H y = none → H dx = none → dx ≠ y → sp (.ref y :: vs) (upd (upd H dx (.own y)) y (.ins cl dx [])) (fun v H2 => v = .non ∧ Q (.ref y) H2) (E σ)) :
    wpAny (model X.prog X.w) X.A (call (.ref cl) us) (EP X pins σ Q) X.xe s := by
  have hq := want (s.heap.objs.size + 1) s.heap.objs.size (I.hok.fresh (Nat.le_succ _)) (I.hok.fresh (Nat.le_refl _)) (Nat.ne_of_lt (Nat.lt_succ_self _))
  have I2 := Inv.made (C := cl) I
  have r2 : Vals (V.ref (s.heap.objs.size + 1) :: vs) (Value.ref (s.heap.objs.size + 1) :: us) := .cons rfl r
  have n : (Value.ref (s.heap.objs.size + 1) :: us).length = ps.length := r2.length ▸ FG.arity _ _ _ _ hq
  have bound := hb _ (Value.ref (s.heap.objs.size + 1) :: us) I2.kIn (by simpa using n)
  rw [List.append_nil] at bound
  apply wpAny_call
  refine make_map (f := f) I.kIn M.makes M.init (beq_iff_eq.mp M.fn) (codeAny_mono (FG.does (bare.make cl us []) (room.make cl us []) (I2.env0.make cl us []) bound r2 hq) ?_)
  intro res s' h
  match res, h with
  | .error e, h => exact hx pins _ _ e s' I2 h
  | .ok (.ret u), h =>
    obtain ⟨v, H', I3, rv, ev, q3⟩ := I2.after h
    subst ev
    exact ⟨rv, ⟨V.ref (s.heap.objs.size + 1), H', I3, rfl, q3⟩⟩
abbrev tMk (cl : Addr) (sp : Sp) (E : St → XK) (t : TA) : TE := fun σ H Q => t σ H fun vs H1 => ∀ y dx, H1 y = none → H1 dx = none → dx ≠ y → sp (.ref y :: vs) (upd (upd H1 dx (.own y)) y (.ins cl dx [])) (fun v H2 => v = .non ∧ Q (.ref y) H2) (E σ)
theorem pe_makeG (FG : FnG X.prog X.w X.K X.mg X.base CX k f fd ps sp) (M : Mk X.K cl f) (bare : Bare X.A) (room : Room (k + 1) X.A) (hg : L2.Gl X x) (hm : X.mg x = some (.ref cl)) (hb : Binds X.K fd ps []) (hx : ∀ σ, PassesAt CX X σ (E σ))
    (ha : PA X (e :: es) t) (hd : (x == ("__debug__" : Str)) = false) (hs : starEach (e :: es) X.env = (false, eval e X.env) :: starEach es X.env) (hp : (backTo pos (starEach es X.env)).any (·.1) = false) :
    PE X (.Call (.Name x p) (e :: es) [] pos) (tMk cl sp E t) := by
  constructor
  intro pins s σ H Q I h
  apply wpAny_Call_Name_kw (ld_glob I hg hm _ hd)
  apply PySem.W.callWith_K (h₀ := X.base) I.ok.mod.kin M.kp _ hs hp
  refine thn (ha.run pos pins s σ H _ I h) ?_
  rintro us s1 ⟨vs, H1, I1, r, q⟩
  exact ⟨I1.kIn, FG.makes M bare room hb (hx σ) I1 r q⟩
theorem pe_makeG0 (FG : FnG X.prog X.w X.K X.mg X.base CX k f fd ps sp) (M : Mk X.K cl f) (bare : Bare X.A) (room : Room (k + 1) X.A) (hg : L2.Gl X x) (hm : X.mg x = some (.ref cl)) (hb : Binds X.K fd ps []) (hx : ∀ σ, PassesAt CX X σ (E σ))
    (hd : (x == ("__debug__" : Str)) = false) : PE X (.Call (.Name x p) [] [] pos) (tMk cl sp E tNil) := by
  constructor
  intro pins s σ H Q I h
  apply wpAny_Call_Name_kw (ld_glob I hg hm _ hd)
  exact PySem.W.callWith_K0 I.kIn M.kp (FG.makes (us := []) (vs := []) M bare room hb (hx σ) I .nil h)
theorem few_any {es : List Expr} {env : Env} {p : Pos} (h : es.any isStar = false) (hl : es.length < 30) : methodCallForm (es.length + ([] : List Keyword).length) (backTo p (starEach es env)) (backToKw p (keywordEach [] env)) = true := by
  have e : ((backTo p (starEach es env)).all (fun x => !x.1) && (backToKw p (keywordEach [] env)).all (fun x => x.1.isSome) && decide (es.length + ([] : List Keyword).length + (if ([] : List Keyword).isEmpty then 0 else 1) < 30)) = true := by
    rw [few_of h]
    simp only [Bool.true_and, Bool.and_eq_true, decide_eq_true_eq]
    refine ⟨rfl, ?_⟩
    simp only [List.length_nil, List.isEmpty_nil, if_true]
    omega
  exact e
/-- an instance and its method, as they lie -/
def MethAt (X : Cx) (CX : CXT) (k : Nat) (m : Str) (v : V) (H : Hp) (q : Addr → Sp → Prop) : Prop := ∃ a C dx fs g fd ps sp, v = .ref a ∧ H a = some (.ins C dx fs) ∧ Cls X.K C ∧ Meth X.K C m g ∧ fs.lookup m = none ∧ Binds X.K fd ps [] ∧ FnG X.prog X.w X.K X.mg X.base CX k g fd ps sp ∧ q a sp
/-- o.m(..) of an instance -/
theorem pe_methG (he : PE X o ta) (ha : PA X (e :: es) t) (hbase : attributeBase o m X.env (eval o X.env) = eval o X.env) (hline : (apos.endLine == pos.line) = true) (hn : (e :: es).length < 30) (hst : (e :: es).any isStar = false) (bare : Bare X.A) (room : Room k X.A)
    (hx : ∀ σ, PassesAt CX X σ (E σ)) :
    PE X (.Call (.Attribute o m apos) (e :: es) [] pos) (fun σ H Q => ta σ H fun v H1 => MethAt X CX k m v H1 fun a sp => t σ H1 fun vs H2 => sp (.ref a :: vs) H2 Q (E σ)) := by
  constructor
  intro pins s σ H Q I h
  rw [arm_eval_Call, hbase]
  refine wpAny_bind (thn (he.run pins s σ H _ I h) ?_)
  rintro u s1 ⟨v, H1, I1, rv, a, C, dx, fs, g, fd, ps, sp, rfl, ha1, hc, hm, hl, hb, FG, q⟩
  cases (show u = Value.ref a from rv)
  refine wpAny_bind (wpAny_standAt ?_)
  have hform := few_any (env := X.env) (p := pos) hst hn
  have hpos : methodCallPos true o X.env apos pos = pure pos := by unfold methodCallPos; simp [hline]
  unfold methodCall
  rw [hform]
  refine wpAny_bind (wpAny_holding (getmeth_ok I1 ha1 hc hm hl ?_))
  refine wpAny_bind (wpAny_of_eq hpos ?_)
  rw [List.any_cons, Bool.or_eq_false_iff] at hst
  refine PySem.W.callWith_K (first := [.ref a]) (h₀ := X.base) I.ok.mod.kin hm.kp (thn (ha.run pos pins s1 σ H1 _ I1 q) ?_) (starEach_cons hst.1) (starEach_plain hst.2)
  rintro us s2 ⟨vs, H2, I2, r, q2⟩
  exact ⟨I2.kIn, FG.called (us := .ref a :: us) (vs := .ref a :: vs) bare room hb (hx σ) I2 (.cons rfl r) q2⟩
theorem pe_methG0 (he : PE X o ta) (hbase : attributeBase o m X.env (eval o X.env) = eval o X.env) (hline : (apos.endLine == pos.line) = true) (bare : Bare X.A) (room : Room k X.A) (hx : ∀ σ, PassesAt CX X σ (E σ)) :
    PE X (.Call (.Attribute o m apos) [] [] pos) (fun σ H Q => ta σ H fun v H1 => MethAt X CX k m v H1 fun a sp => sp [.ref a] H1 Q (E σ)) := by
  constructor
  intro pins s σ H Q I h
  rw [arm_eval_Call, hbase]
  refine wpAny_bind (thn (he.run pins s σ H _ I h) ?_)
  rintro u s1 ⟨v, H1, I1, rv, a, C, dx, fs, g, fd, ps, sp, rfl, ha1, hc, hm, hl, hb, FG, q⟩
  cases (show u = Value.ref a from rv)
  refine wpAny_bind (wpAny_standAt ?_)
  have hform := few_any (es := []) (env := X.env) (p := pos) rfl (by simp)
  have hpos : methodCallPos true o X.env apos pos = pure pos := by unfold methodCallPos; simp [hline]
  unfold methodCall
  rw [hform]
  refine wpAny_bind (wpAny_holding (getmeth_ok I1 ha1 hc hm hl ?_))
  refine wpAny_bind (wpAny_of_eq hpos ?_)
  exact PySem.W.callWith_K0 (first := [.ref a]) I1.kIn hm.kp (FG.called (us := [.ref a]) (vs := [.ref a]) bare room hb (hx σ) I1 (.cons rfl .nil) q)
end
/-! ### readings -/
section
variable {P : CProg} {G : Gl} {W : WX} {F : Fns} {C : Ctx} {k : Nat} {X : Cx} {pos : Pos}
theorem rvs_cons {ρ : List Addr} {H : Hp} {d : D} {ds : List D} {v : V} {vs : List V} (h : RV ρ H d v) (t : RVs ρ H ds vs) : RVs ρ H (d :: ds) (v :: vs) := by
  simp only [RVs]
  exact ⟨v, vs, rfl, h, t⟩
theorem out_call {σ : St} {ρ : List Addr} {H : Hp} {Q : VK} {r : Res D} (o : OutR G RV W σ ρ H Q r) : OutR G RV (fun cls d _ H => W cls d σ H) [] ρ H Q r := by
  cases r with
  | ok a A => exact o
  | exc a A => exact o
  | bad => exact o
theorem re_call0 {x : Str} {i : Nat} {p : Pos} (t : Top P G F C k X) (so : ScOk C X) (tk : Takes X W) (hg : C.glob x = true) (hf : C.funs.lookup x = some i) : RE G P F X W (.Call (.Name x p) [] [] pos) (.call i []) := by
  obtain ⟨g, hn⟩ := so.glob hg
  obtain ⟨f, fd, ps, hm, hk, hb, FO⟩ := t.fun_ x i hf
  refine (pe_callG0 FO t.bare t.room g hm hk hb (fun σ => passAt tk σ) (okName_ok hn).1).imp fun σ H Q ⟨ρ, A, L, s, l, o⟩ => ?_
  simp only [evE, evEs, Res.bind] at o
  exact ⟨ρ, A, [], s, by simp only [RVs], out_call o⟩
/-- a new instance stands there -/
theorem sim_new {ρ : List Addr} {H : Hp} {A : AH} {c : Nat} {y dx : Addr} (s : Sim G ρ A H) (hc : c < G.n) (hy : H y = none) (hd : H dx = none) (ne : dx ≠ y) :
    Ext ρ H (ρ ++ [y]) (upd (upd H dx (.own y)) y (.ins (G.ca c) dx [])) ∧ Sim G (ρ ++ [y]) (A ++ [.ins c []]) (upd (upd H dx (.own y)) y (.ins (G.ca c) dx [])) := by
  have h1 : upd H dx (.own y) y = none := by rw [upd_ne (Ne.symm ne)]; exact hy
  refine ⟨((Ext.lay hd).trans (Ext.lay h1)).reg hy, (s.lay hd).new_ h1 ⟨dx, [], upd_same, by simp only [RFs], hc⟩⟩
theorem out_new {σ : St} {ρ : List Addr} {H : Hp} {A : AH} {c i : Nat} {ds : List D} {vs : List V} {Q : VK} (s : Sim G ρ A H) (hc : c < G.n) (r : RVs ρ H ds vs)
    (o : OutR G RV W σ ρ H Q ((F.call i (.ref A.length :: ds) (A ++ [.ins c []])).bind (newFin A.length))) :
    ∀ y dx, H y = none → H dx = none → dx ≠ y → spOf G F i (.ref y :: vs) (upd (upd H dx (.own y)) y (.ins (G.ca c) dx [])) (fun v H2 => v = .non ∧ Q (.ref y) H2) (WE W σ) := by
  intro y dx hy hd ne
  obtain ⟨x, s2⟩ := sim_new s hc hy hd ne
  have hn : (ρ ++ [y])[A.length]? = some y := by rw [← s.len, List.getElem?_append_right (Nat.le_refl _), Nat.sub_self]; rfl
  refine ⟨_, _, .ref A.length :: ds, s2, rvs_cons (by simp only [RV]; exact ⟨y, hn, rfl⟩) (RVs.mono x _ _ r), ?_⟩
  cases e : F.call i (.ref A.length :: ds) (A ++ [.ins c []]) with
  | bad => rw [e] at o; exact o
  | exc z A2 => rw [e] at o; exact fun ρ' H' cls dd x' s' r' => o ρ' H' cls dd (x.trans x') s' r'
  | ok z A2 =>
    rw [e] at o
    cases z with
    | non =>
      intro ρ' H' v x' s' r'
      refine ⟨rv_non r', ?_⟩
      exact o ρ' H' (.ref y) (x.trans x') s' (by simp only [RV]; exact ⟨y, x'.at hn, rfl⟩)
    | _ => exact (show False from o).elim
theorem re_new {x : Str} {e : Expr} {es : List Expr} {cs : List CE} {c : Nat} {p : Pos} (t : Top P G F C k X) (so : ScOk C X) (tk : Takes X W) (hg : C.glob x = true) (hf : C.clss.lookup x = some c) (hp : (e :: es).any isStar = false)
    (ha : PA X (e :: es) (tR G RVs W (evEs P F cs))) : RE G P F X W (.Call (.Name x p) (e :: es) [] pos) (.new c cs) := by
  obtain ⟨g, hn⟩ := so.glob hg
  obtain ⟨hm, hc, i, f, hi, M, fd, ps, kp, hb, FG⟩ := t.clsN x c hf
  rw [List.any_cons, Bool.or_eq_false_iff] at hp
  refine (pe_makeG FG M t.bare t.room1 g hm hb (fun σ => passAt tk σ) ha (okName_ok hn).1 (starEach_cons hp.1) (starEach_plain hp.2)).imp fun σ H Q q => ?_
  have q' : tR G RV W (fun L A => (evEs P F cs L A).bind fun ds A => (F.call i (.ref A.length :: ds) (A ++ [.ins c []])).bind (newFin A.length)) σ H Q := by
    obtain ⟨ρ, A, L, s, l, o⟩ := q
    refine ⟨ρ, A, L, s, l, ?_⟩
    simpa only [evE, hi, Res.of1, Res.bind] using o
  exact (tR_seq (R := RVs) q').imp fun vs H1 ⟨ρ1, A1, L, ds, s1, l1, r1, o1⟩ => out_new s1 hc r1 o1
theorem re_new0 {x : Str} {c : Nat} {p : Pos} (t : Top P G F C k X) (so : ScOk C X) (tk : Takes X W) (hg : C.glob x = true) (hf : C.clss.lookup x = some c) : RE G P F X W (.Call (.Name x p) [] [] pos) (.new c []) := by
  obtain ⟨g, hn⟩ := so.glob hg
  obtain ⟨hm, hc, i, f, hi, M, fd, ps, kp, hb, FG⟩ := t.clsN x c hf
  refine (pe_makeG0 FG M t.bare t.room1 g hm hb (fun σ => passAt tk σ) (okName_ok hn).1).imp fun σ H Q ⟨ρ, A, L, s, l, o⟩ => ?_
  have o' : OutR G RV W σ ρ H Q ((F.call i (.ref A.length :: []) (A ++ [.ins c []])).bind (newFin A.length)) := by
    simpa only [evE, evEs, hi, Res.of1, Res.bind] using o
  exact out_new s hc (by simp only [RVs]) o'
theorem re_attr {a : Expr} {ca : CE} {f : Str} (t : Top P G F C k X) (hp : plainBase a = true) (ha : RE G P F X W a ca) : RE G P F X W (.Attribute a f pos) (.attr ca f) :=
  (pe_fld ha (base_plain (m := f) (env := X.env) hp)).imp fun σ H Q q => by
    have q' : tR G RV W (fun L A => (evE P F ca L A).bind fun x A => Res.of1 A (attrD P x f A)) σ H Q := by
      obtain ⟨ρ, A, L, s, l, o⟩ := q
      exact ⟨ρ, A, L, s, l, by simpa only [evE] using o⟩
    refine (tR_seq (R := RV) q').imp fun v H1 ⟨ρ1, A1, L, x, s1, l1, r1, o1⟩ => ?_
    obtain ⟨d, e, o2⟩ := out_of1 o1
    unfold attrD at e
    cases ex : insOf x A1 with
    | none => rw [ex] at e; cases e
    | some p =>
      rw [ex] at e
      obtain ⟨c, fs⟩ := p
      obtain ⟨n, a', dx, ws, rfl, en, hn, rfl, ha', rf, hc⟩ := insOf_at s1 r1 ex
      simp only [Option.bind_some] at e
      split at e
      · rename_i hfb
        unfold fldB at hfb
        cases ec : P.cls[c]? with
        | none => rw [ec] at hfb; cases hfb
        | some cl =>
          rw [ec] at hfb
          rcases RFs.lookup f rf with ⟨h1, _⟩ | ⟨d', v', h1, h2, rv⟩
          · rw [h1] at e; cases e
          · rw [h1] at e
            cases e
            exact ⟨a', _, dx, ws, v', rfl, ha', (t.cls c hc).cl, (t.clsT c cl ec).2.noat f hfb, h2, OutR.ok o2 s1 rv⟩
      · cases e
/-- a method, as it lies -/
theorem methAt_of {m : Str} {x : D} {v : V} {ρ : List Addr} {H : Hp} {A : AH} {i : Nat} {q : Addr → Sp → Prop} (t : Top P G F C k X) (s : Sim G ρ A H) (r : RV ρ H x v) (h : methOf P x m A = some i) (hq : ∀ a, v = .ref a → q a (spOf G F i)) : MethAt X (L2.CX X.prog X.w) k m v H q := by
  unfold methOf at h
  cases ex : insOf x A with
  | none => rw [ex] at h; cases h
  | some p =>
    rw [ex] at h
    obtain ⟨c, fs⟩ := p
    obtain ⟨n, a, dx, ws, rfl, en, hn, rfl, ha, rf, hc⟩ := insOf_at s r ex
    simp only [Option.bind_some] at h
    split at h
    · rename_i hnone
      obtain ⟨g, M, fd, ps, kp, hb, FG⟩ := meth_of t h
      rcases RFs.lookup m rf with ⟨_, h2⟩ | ⟨d', v', h1, _, _⟩
      · exact ⟨a, _, dx, ws, g, fd, ps, _, rfl, ha, (t.cls c hc).cl, M, h2, hb, FG, hq a rfl⟩
      · rw [h1] at hnone
        cases hnone
    · cases h
theorem re_mcall {a e : Expr} {ca : CE} {m : Str} {p : Pos} {es : List Expr} {cs : List CE} (t : Top P G F C k X) (tk : Takes X W) (hp : plainBase a = true) (hl : (p.endLine == pos.line) = true) (hn : (e :: es).length < 30) (hs : (e :: es).any isStar = false)
    (ha : RE G P F X W a ca) (he : PA X (e :: es) (tR G RVs W (evEs P F cs))) : RE G P F X W (.Call (.Attribute a m p) (e :: es) [] pos) (.mcall ca m cs) :=
  (pe_methG ha he (base_plain (m := m) (env := X.env) hp) hl hn hs t.bare t.room (fun σ => passAt tk σ)).imp fun σ H Q q => by
    have q' : tR G RV W (fun L A => (evE P F ca L A).bind fun x A => (Res.of1 A (methOf P x m A)).bind fun i A => (evEs P F cs L A).bind fun ds A => F.call i (x :: ds) A) σ H Q := by
      obtain ⟨ρ, A, L, s, l, o⟩ := q
      exact ⟨ρ, A, L, s, l, by simpa only [evE] using o⟩
    refine (tR_seq (R := RV) q').imp fun v H1 ⟨ρ1, A1, L, x, s1, l1, r1, o1⟩ => ?_
    cases hi : methOf P x m A1 with
    | none => rw [hi] at o1; exact (show False from o1).elim
    | some i =>
      rw [hi] at o1
      have o1 : OutR G RV W σ ρ1 H1 Q ((evEs P F cs L A1).bind fun ds A => F.call i (x :: ds) A) := o1
      refine methAt_of t s1 r1 hi fun b hb => ?_
      subst hb
      refine ⟨ρ1, A1, L, s1, l1, (OutR.bind (R := RVs) o1).imp fun us H2 ⟨ρ2, A2, ds, x2, s2, r2, o2⟩ => ?_⟩
      exact ⟨ρ2, A2, x :: ds, s2, rvs_cons (RV.mono x2 _ _ r1) r2, out_call o2⟩
theorem re_mcall0 {a : Expr} {ca : CE} {m : Str} {p : Pos} (t : Top P G F C k X) (tk : Takes X W) (hp : plainBase a = true) (hl : (p.endLine == pos.line) = true) (ha : RE G P F X W a ca) : RE G P F X W (.Call (.Attribute a m p) [] [] pos) (.mcall ca m []) :=
  (pe_methG0 ha (base_plain (m := m) (env := X.env) hp) hl t.bare t.room (fun σ => passAt tk σ)).imp fun σ H Q q => by
    have q' : tR G RV W (fun L A => (evE P F ca L A).bind fun x A => (Res.of1 A (methOf P x m A)).bind fun i A => F.call i (x :: []) A) σ H Q := by
      obtain ⟨ρ, A, L, s, l, o⟩ := q
      exact ⟨ρ, A, L, s, l, by simpa only [evE, evEs, Res.bind] using o⟩
    refine (tR_seq (R := RV) q').imp fun v H1 ⟨ρ1, A1, L, x, s1, l1, r1, o1⟩ => ?_
    cases hi : methOf P x m A1 with
    | none => rw [hi] at o1; exact (show False from o1).elim
    | some i =>
      rw [hi] at o1
      refine methAt_of t s1 r1 hi fun b hb => ?_
      subst hb
      exact ⟨ρ1, A1, [x], s1, rvs_cons r1 (by simp only [RVs]), out_call o1⟩
theorem re_isc {a c : Expr} {ca : CE} {n : Nat} {x : Str} {p : Pos} (t : Top P G F C k X) (so : ScOk C X) (hg : C.bltn x = true) (hx : x = ("isinstance" : Str)) (hs : isStar a = false) (hc : clsOf C c = some n) (ha : RE G P F X W a ca) :
    RE G P F X W (.Call (.Name x p) [a, c] [] pos) (.isc ca n) := by
  obtain ⟨g, hn, hcc⟩ := so.bltn hg
  have hm := t.blt x hcc
  obtain ⟨d1, _, d3⟩ := okName_ok hn
  have hv : bootBuiltins x = some (.builtin "isinstance") := by subst hx; decide +kernel
  unfold clsOf at hc
  split at hc
  case h_2 => cases hc
  rename_i y q
  split at hc
  case isFalse => cases hc
  rename_i hgy
  obtain ⟨gy, hny⟩ := so.glob hgy
  obtain ⟨hmy, hcn, _⟩ := t.clsN y n hc
  have hcls : PE X (.Name y q) (tC (.ref (G.ca n))) := pe_glob gy hmy (show RelV (.ref (G.ca n)) (.ref (G.ca n)) from rfl) (okName_ok hny).1
  refine (pe_callB call_isi g hm hv (pa_cons ha (pa_cons hcls pa_nil (starEach_cons rfl)) (starEach_cons hs)) d3 d1 (starEach_cons hs) (starEach_plain rfl)).imp fun σ H Q q => ?_
  have q' : tR G RV W (fun L A => (evE P F ca L A).bind fun x A => Res.of1 A ((iscD x n A).map .bl)) σ H Q := by
    obtain ⟨ρ, A, L, s, l, o⟩ := q
    exact ⟨ρ, A, L, s, l, by simpa only [evE] using o⟩
  refine (tR_seq (R := RV) q').imp fun v H1 ⟨ρ1, A1, L, x, s1, l1, r1, o1⟩ => ?_
  cases nb : setOf x A1 with
  | some is => simp [iscD, nb, Res.of1, OutR] at o1
  | none =>
    obtain ⟨ty, b, h1, h2, h3, _⟩ := isc_at (K := X.K) t.cls t.isc hcn s1 r1 nb
    refine ⟨v, .ref (G.ca n), ty, _, b, rfl, .own _, h1, h2, ?_⟩
    simp only [iscD, nb, Option.map_some, Res.of1] at o1
    rw [h3]
    exact out_bl o1 s1
end
end Kin
end
section
set_option linter.all false
set_option maxRecDepth 100000
/-! Kin 19: every expression that the compiler reads. -/
namespace Kin
open PySem PySem.Spec PyProof.Rows L2
section
variable {G : Gl} {P : CProg} {F : Fns} {k : Nat}
theorem takes_wf {X : Cx} : Takes X WF := fun _ _ h => by
  obtain ⟨_, _, _, _, _, _, _, _, _, _, _, _, _, _, _, _, w⟩ := h
  exact w.elim
theorem plain_of {C : Ctx} {as : List Expr} {e : Expr} (h : rangeArgs C e = some as) : isStar e = false := by
  cases e <;> first | rfl | simp [rangeArgs] at h
theorem callF_ok {X : Cx} {C : Ctx} {W : WX} {f : CEF} {x : Str} {es : List Expr} {p pos : Pos} (t : Top P G F C k X) (so : ScOk C X) (tk : Takes X W) (hf : ∀ e, RE G P F X W e (f C e)) :
    RE G P F X W (.Call (.Name x p) es [] pos) (callF f C x es) := by
  unfold callF
  split
  · rename_i i hi
    split
    · rename_i hg
      cases es with
      | nil => exact re_call0 t so tk hg hi
      | cons e es =>
        by_cases hp : (e :: es).any isStar = true
        · refine ⟨fun pins s σ H Q I h => ?_⟩
          obtain ⟨ρ, A, L, _, _, o⟩ := h
          simp only [listF, hp, if_true, evE, evEs, Res.bind, OutR] at o
        · have hp : (e :: es).any isStar = false := by simpa using hp
          exact re_call t so tk hg hi hp (pa_listF hf _)
    · exact re_bad
  · split
    · rename_i c hc
      split
      · rename_i hg
        cases es with
        | nil => exact re_new0 t so tk hg hc
        | cons e es =>
          by_cases hp : (e :: es).any isStar = true
          · refine ⟨fun pins s σ H Q I h => ?_⟩
            obtain ⟨ρ, A, L, _, _, o⟩ := h
            simp only [listF, hp, if_true, evE, evEs, Res.bind, OutR] at o
          · have hp : (e :: es).any isStar = false := by simpa using hp
            exact re_new t so tk hg hc hp (pa_listF hf _)
      · exact re_bad
    split
    · rename_i hb
      split
      · rename_i hx
        split
        · rename_i a tt
          split
          · exact re_bad
          · rename_i hs
            split
            · rename_i T hT
              exact re_isi t so hb hx (by simpa using hs) hT (hf a)
            · split
              · rename_i c hc
                exact re_isc t so hb hx (by simpa using hs) hc (hf a)
              · split
                · rename_i Ts hTs
                  exact re_isiT t so hb hx (by simpa using hs) hTs (hf a)
                · exact re_bad
        · exact re_bad
      · have blt : ∀ {b : Blt} {e : Expr} {es : List Expr}, (bltOf x = some b ∨ btyOf x = some b) → RE G P F X W (.Call (.Name x p) (e :: es) [] pos) (.blt b (listF f C (e :: es))) := by
          intro b e es h
          by_cases hp : (e :: es).any isStar = true
          · refine ⟨fun pins s σ H Q I h => ?_⟩
            obtain ⟨ρ, A, L, _, _, o⟩ := h
            simp only [listF, hp, if_true, evE, evEs, Res.bind, OutR] at o
          · have hp : (e :: es).any isStar = false := by simpa using hp
            exact re_blt t so hb h hp (pa_listF hf _)
        split
        · rename_i e h
          exact re_sset t so hb h (hf e)
        rename_i noset
        clear noset
        split
        · exact blt (.inl (by assumption))
        · rename_i b e h1 h
          split
          · rename_i hx
            split
            · rename_i as ha
              exact re_listR t so hb hx ha hf
            · exact blt (.inr h)
          · exact blt (.inr h)
        · exact re_bad
    · exact re_bad
theorem methF_ok {X : Cx} {C : Ctx} {W : WX} {f : CEF} {a : Expr} {m : Str} {p pos : Pos} {es : List Expr} (t : Top P G F C k X) (tk : Takes X W) (hf : ∀ e, RE G P F X W e (f C e)) : RE G P F X W (.Call (.Attribute a m p) es [] pos) (methF f C a m p pos es) := by
  unfold methF
  split
  · split
    · rename_i h
      simp only [Bool.and_eq_true, Bool.not_eq_true', decide_eq_true_eq] at h
      cases es with
      | nil => exact re_mcall0 t tk h.1.1.1 h.1.1.2 (hf a)
      | cons e es => exact re_mcall t tk h.1.1.1 h.1.1.2 h.1.2 h.2 (hf a) (pa_list hf _ h.2)
    · exact re_bad
  split
  · rename_i b hb
    split
    · rename_i h
      simp only [Bool.and_eq_true, Bool.not_eq_true'] at h
      exact re_meth t hb h.1.1.1 h.1.1.2 h.1.2 h.2 (hf a) hf
    · exact re_bad
  · exact re_bad
theorem subF_ok {X : Cx} {C : Ctx} {W : WX} {f : CEF} {a i : Expr} {pos : Pos} (t : Top P G F C k X) (hf : ∀ e, RE G P F X W e (f C e)) : RE G P F X W (.Subscript a i pos) (subF f C a i) := by
  unfold subF
  split
  · exact re_rev (hf a)
  · exact re_slc hf (hf a)
  · exact re_bad
  · rename_i h1 h2 h3
    refine re_idx t ?_ (hf a) (hf i)
    cases i <;> first | rfl | exact (h3 _ _ _ _ rfl).elim
theorem badI_ok {c : CI} (h : badI c = false) : c ≠ .bad := fun e => by
  subst e
  exact Bool.false_ne_true h.symm
theorem comp2F_ok {X : Cx} {C : Ctx} {W : WX} {f : CEF} {elt tg it tg1 it1 : Expr} {ifs ifs1 : List Expr} {scope : Scope} {pos : Pos} (t : Top P G F C k X) (so : ScOk C X) (tk : Takes X W) (hf : ∀ e, RE G P F X W e (f C e))
    (hb : ∀ {X' : Cx}, Top P G F (relC scope C) k X' → ScOk (relC scope C) X' → ∀ e, RE G P F X' WF e (f (relC scope C) e) ∧ RT G P F X' WF e (f (relC scope C) e)) :
    RE G P F X W (.ListComp elt [⟨tg, it, ifs, 0⟩, ⟨tg1, it1, ifs1, 0⟩] scope pos) (comp2F f C false elt tg it ifs tg1 it1 ifs1 scope) ∧ RE G P F X W (.SetComp elt [⟨tg, it, ifs, 0⟩, ⟨tg1, it1, ifs1, 0⟩] scope pos) (comp2F f C true elt tg it ifs tg1 it1 ifs1 scope) := by
  unfold comp2F
  dsimp only
  by_cases hc : (blkB scope C && !badI (iterF f C (isTup tg) it) && !badI (iterF f (relC scope C) (isTup tg1) it1)) = true
  case neg =>
    rw [if_neg hc, if_neg hc]
    exact ⟨re_bad, re_bad⟩
  rw [if_pos hc, if_pos hc]
  simp only [Bool.and_eq_true, Bool.not_eq_true'] at hc
  obtain ⟨⟨hB, b0⟩, b1⟩ := hc
  exact re_comp2 t so.nd (iter_ok t so hf tg it) (by rw [so.n, so.sc]; exact blk_ok hB) (slots_in (so.n ▸ so.nd) 6 tg) (slots_in (so.n ▸ so.nd) 6 tg1)
    (fun s H C' cl fp => tgt_ok t.blk (so.blk hB) (fun e => (hb t.blk (so.blk hB) e).1) 6 tg) (fun s H C' cl fp => rif_of (fun e => (hb t.blk (so.blk hB) e).2) ifs)
    (fun s H C' cl fp => iter_ok t.blk (so.blk hB) (fun e => (hb t.blk (so.blk hB) e).1) tg1 it1) (fun s H C' cl fp => tgt_ok t.blk (so.blk hB) (fun e => (hb t.blk (so.blk hB) e).1) 6 tg1)
    (fun s H C' cl fp => rif_of (fun e => (hb t.blk (so.blk hB) e).2) ifs1) (fun s H C' cl fp => (hb t.blk (so.blk hB) elt).1) (folded_ok (W := W) tg it X.env (badI_ok b0)) (fun env => folded_ok (W := W) tg1 it1 env (badI_ok b1))
theorem exp_ok : ∀ (n : Nat) {X : Cx} {C : Ctx} {W : WX}, Top P G F C k X → ScOk C X → Takes X W → ∀ e, RE G P F X W e (compE n C e) ∧ RT G P F X W e (compE n C e)
  | 0, _, _, _, _, _, _, e => ⟨re_bad, rt_bad⟩
  | n + 1, X, C, W, t, so, tk, e => by
    have IH := fun e => exp_ok n t so tk e
    have hE := fun e => (IH e).1
    have hT := fun e => (IH e).2
    have plain : ∀ {e : Expr} {c : CE}, (∀ whole, PySem.isTrue e X.env whole = (do let v ← whole; standAt e.pos; holding [v] (truthy v))) → RE G P F X W e c → RE G P F X W e c ∧ RT G P F X W e c := fun he h => ⟨h, rt_of h he⟩
    have bb : ∀ {e : Expr}, RE G P F X W e .bad ∧ RT G P F X W e .bad := ⟨re_bad, rt_bad⟩
    cases e with
    | Constant c j p =>
      simp only [compE]
      split
      · rename_i d h
        exact plain (fun _ => rfl) (re_cst h)
      · exact bb
    | Name x p =>
      simp only [compE]
      split
      · rename_i i h
        exact plain (fun _ => rfl) (re_slot so h)
      · split
        · rename_i hg
          split
          · rename_i d h
            exact plain (fun _ => rfl) (re_con t so hg h)
          · exact bb
        · exact bb
    | Tuple es j p =>
      simp only [compE]
      split
      · exact plain (fun _ => rfl) (re_tupS hE)
      · exact plain (fun _ => rfl) (re_tup (pa_listF hE es))
    | List es p =>
      simp only [compE]
      split
      · exact plain (fun _ => rfl) (re_lstS hE)
      · exact plain (fun _ => rfl) (re_lst (pa_listF hE es))
    | Dict ks vs p =>
      simp only [compE]
      split
      · rename_i h
        rw [Bool.and_eq_true, Bool.and_eq_true, Bool.and_eq_true] at h
        obtain ⟨⟨⟨h1, h2⟩, h3⟩, h4⟩ := h
        exact plain (fun _ => rfl) (re_dct hE (of_decide_eq_true h2) h1 (fun e => by subst e; simp at h3) (of_decide_eq_true h4))
      · split
        · rename_i h
          rw [Bool.and_eq_true] at h
          have e1 : ks = [] := by simpa using h.1
          have e2 : vs = [] := by simpa using h.2
          subst e1 e2
          exact plain (fun _ => rfl) re_dct0
        · exact bb
    | BinOp a op b p =>
      simp only [compE]
      split
      · split
        · rename_i h
          exact plain (fun _ => rfl) (re_pow h)
        · exact bb
      · split
        · rename_i o h
          exact plain (fun _ => rfl) (re_bin h (hE a) (hE b))
        · exact bb
    | UnaryOp op a p =>
      cases op with
      | USub => exact plain (fun _ => rfl) (re_neg (hE a))
      | Not => exact ⟨re_not (hE a), rt_not (hT a)⟩
      | _ => exact bb
    | BoolOp op es p => exact ⟨re_bools hE es, (rt_bools hT es).pt⟩
    | IfExp c a b p => exact ⟨re_ite (hT c) (hE a) (hE b), rt_ite (hT c) (hT a) (hT b)⟩
    | Compare a ops bs p =>
      match ops, bs with
      | [op], [b] =>
        simp only [compE]
        split
        · rename_i o h
          split
          · exact bb
          · rename_i hs
            exact re_cmp t h (by simpa using hs) (hE a) (hE b)
        · exact bb
      | [op, op'], [b, c] =>
        simp only [compE]
        split
        · rename_i o o' h h'
          split
          · exact bb
          · rename_i hs
            exact re_chain t h h' (by simpa using hs) (hE a) (hE b) (hE c)
        · exact bb
      | [], _ => exact bb
      | [_], [] => exact bb
      | [_], _ :: _ :: _ => exact bb
      | [_, _], [] => exact bb
      | [_, _], [_] => exact bb
      | [_, _], _ :: _ :: _ :: _ => exact bb
      | _ :: _ :: _ :: _, _ => exact bb
    | Subscript a i p => exact plain (fun _ => rfl) (subF_ok t hE)
    | Attribute a m p =>
      simp only [compE]
      split
      · rename_i h
        exact plain (fun _ => rfl) (re_attr t h (hE a))
      · exact bb
    | Call fe es kws p =>
      cases fe with
      | Name x q =>
        cases kws with
        | nil => exact plain (fun _ => rfl) (callF_ok t so tk hE)
        | cons _ _ => exact bb
      | Attribute a m q =>
        cases kws with
        | nil => exact plain (fun _ => rfl) (methF_ok t tk hE)
        | cons _ _ => exact bb
      | _ => exact bb
    | ListComp elt gs scope p =>
      match gs with
      | [⟨tg, it, ifs, as⟩] =>
        by_cases h0 : as = 0
        case neg =>
          have e : compE (n + 1) C (.ListComp elt [⟨tg, it, ifs, as⟩] scope p) = .bad := by
            unfold compE
            split <;> first | rfl | (simp_all)
          rw [e]
          exact bb
        subst h0
        simp only [compE]
        split
        · rename_i hb
          have ok := blk_ok hb
          by_cases hbad : iterF (compE n) C (isTup tg) it = .bad
          · rw [hbad]
            refine plain (fun _ => rfl) ⟨fun pins s σ H Q I h => ?_⟩
            obtain ⟨ρ, A, L, _, _, o⟩ := h
            simp only [evE, evI, Res.bind, OutR] at o
          · refine plain (fun _ => rfl) (re_comp t so.nd (iter_ok t so hE tg it) (by rw [so.n, so.sc]; exact ok) (slots_in (so.n ▸ so.nd) 6 tg) (fun s H C' cl fp => ?_) (fun s H C' cl fp => ?_) (fun s H C' cl fp => ?_) (folded_ok (W := W) tg it X.env hbad))
            · exact tgt_ok t.blk (so.blk hb) (fun e => (exp_ok n t.blk (so.blk hb) takes_wf e).1) 6 tg
            · exact rif_of (fun e => (exp_ok n t.blk (so.blk hb) takes_wf e).2) ifs
            · exact (exp_ok n t.blk (so.blk hb) takes_wf elt).1
        · exact bb
      | [] => exact bb
      | [⟨tg, it, ifs, as⟩, ⟨tg1, it1, ifs1, as1⟩] =>
        by_cases h0 : as = 0 ∧ as1 = 0
        case neg =>
          have e : compE (n + 1) C (.ListComp elt [⟨tg, it, ifs, as⟩, ⟨tg1, it1, ifs1, as1⟩] scope p) = .bad := by
            unfold compE
            split <;> first | rfl | (simp_all)
          rw [e]
          exact bb
        obtain ⟨rfl, rfl⟩ := h0
        simp only [compE]
        exact plain (fun _ => rfl) (comp2F_ok t so tk hE (fun t' so' e => exp_ok n t' so' takes_wf e)).1
      | g1 :: g2 :: g3 :: gs =>
        have e : compE (n + 1) C (.ListComp elt (g1 :: g2 :: g3 :: gs) scope p) = .bad := by
          unfold compE
          split <;> first | rfl | (simp_all)
        rw [e]
        exact bb
    | SetComp elt gs scope p =>
      match gs with
      | [] => exact bb
      | [g1] => 
        have e : compE (n + 1) C (.SetComp elt [g1] scope p) = .bad := by
          unfold compE
          split <;> first | rfl | (simp_all)
        rw [e]
        exact bb
      | [⟨tg, it, ifs, as⟩, ⟨tg1, it1, ifs1, as1⟩] =>
        by_cases h0 : as = 0 ∧ as1 = 0
        case neg =>
          have e : compE (n + 1) C (.SetComp elt [⟨tg, it, ifs, as⟩, ⟨tg1, it1, ifs1, as1⟩] scope p) = .bad := by
            unfold compE
            split <;> first | rfl | (simp_all)
          rw [e]
          exact bb
        obtain ⟨rfl, rfl⟩ := h0
        simp only [compE]
        exact plain (fun _ => rfl) (comp2F_ok t so tk hE (fun t' so' e => exp_ok n t' so' takes_wf e)).2
      | g1 :: g2 :: g3 :: gs =>
        have e : compE (n + 1) C (.SetComp elt (g1 :: g2 :: g3 :: gs) scope p) = .bad := by
          unfold compE
          split <;> first | rfl | (simp_all)
        rw [e]
        exact bb
    | _ => exact bb
end
end Kin
end
section
set_option linter.all false
set_option maxRecDepth 100000
/-! Kin 20: statements. -/
namespace Kin
open PySem PySem.Spec PyProof.Rows L2
def OutS (G : Gl) (W : WX) (ρ : List Addr) (H : Hp) (D : Ends) : SRes → Prop
  | .nx L A => ∀ ρ' H' σ', Ext ρ H ρ' H' → Sim G ρ' A H' → RL ρ' H' L σ' → D.nx σ' H'
  | .rt d A => ∀ ρ' H' v, Ext ρ H ρ' H' → Sim G ρ' A H' → RV ρ' H' d v → D.rt v H'
  | .bk L A => ∀ ρ' H' σ', Ext ρ H ρ' H' → Sim G ρ' A H' → RL ρ' H' L σ' → D.bk σ' H'
  | .ct L A => ∀ ρ' H' σ', Ext ρ H ρ' H' → Sim G ρ' A H' → RL ρ' H' L σ' → D.ct σ' H'
  | .exc x L A => ∀ ρ' H' σ' cls dx, Ext ρ H ρ' H' → Sim G ρ' A H' → RL ρ' H' L σ' → RX G ρ' H' x cls dx → W cls dx σ' H'
  | .bad => False
def tS (G : Gl) (W : WX) (m : Loc → AH → SRes) : TS := fun D σ H => ∃ ρ A L, Sim G ρ A H ∧ RL ρ H L σ ∧ OutS G W ρ H D (m L A)
section
variable {G : Gl} {W : WX} {ρ ρ1 : List Addr} {H H1 : Hp} {D D' : Ends} {σ : St}
theorem OutS.mono (x : Ext ρ H ρ1 H1) : ∀ {r : SRes}, OutS G W ρ H D r → OutS G W ρ1 H1 D r
  | .nx _ _, h => fun ρ' H' v e s r => h ρ' H' v (x.trans e) s r
  | .rt _ _, h => fun ρ' H' v e s r => h ρ' H' v (x.trans e) s r
  | .bk _ _, h => fun ρ' H' v e s r => h ρ' H' v (x.trans e) s r
  | .ct _ _, h => fun ρ' H' v e s r => h ρ' H' v (x.trans e) s r
  | .exc _ _ _, h => fun ρ' H' v c d e s r => h ρ' H' v c d (x.trans e) s r
  | .bad, h => h
theorem OutS.nx {L : Kin.Loc} {A : AH} (h : OutS G W ρ H D (.nx L A)) (s : Sim G ρ A H) (l : RL ρ H L σ) : D.nx σ H := h ρ H σ .refl s l
theorem OutS.ofE {α β : Type} {R : Rel α β} {L : Kin.Loc} {r : Res α} {f : α → AH → SRes} (l : RL ρ H L σ) (h : OutS G W ρ H D (SRes.ofE L r f)) :
    OutR G R W σ ρ H (fun v H1 => ∃ ρ1 A1 x, Ext ρ H ρ1 H1 ∧ Sim G ρ1 A1 H1 ∧ R ρ1 H1 x v ∧ OutS G W ρ1 H1 D (f x A1)) r := by
  cases r with
  | ok x A => exact fun ρ' H' v e s r => ⟨ρ', A, x, e, s, r, OutS.mono e h⟩
  | exc x A => exact fun ρ' H' c d e s r => h ρ' H' σ c d e s (l.mono e) r
  | bad => exact h
end
section
variable {G : Gl} {W : WX} {X : Cx} {P : CProg} {F : Fns} {pos : Pos} {C : Ctx} {k : Nat}
abbrev RS (G : Gl) (P : CProg) (F : Fns) (X : Cx) (W : WX) (st : Stmt) (c : CS) : Prop := PS X st (tS G W (evS P F c))
abbrev RSs (G : Gl) (P : CProg) (F : Fns) (X : Cx) (W : WX) (st : List Stmt) (cs : List CS) : Prop := PSs X st (tS G W (evSs P F cs))
theorem rs_bad {st : Stmt} : RS G P F X W st .bad := ⟨fun pins s σ H D I h => by
  obtain ⟨ρ, A, L, _, _, o⟩ := h
  simp only [evS, OutS] at o⟩
theorem rss_list {f : Stmt → CS} (hf : ∀ s, RS G P F X W s (f s)) : ∀ ss : List Stmt, RSs G P F X W ss (ss.map f)
  | [] => pss_nil.imp fun D σ H ⟨ρ, A, L, s, l, o⟩ => OutS.nx (by simpa only [List.map_nil, evSs] using o) s l
  | s :: ss => (pss_cons (hf s) (rss_list hf ss)).imp fun D σ H ⟨ρ, A, L, si, l, o⟩ => by
    refine ⟨ρ, A, L, si, l, ?_⟩
    simp only [List.map_cons, evSs] at o
    cases e : evS P F (f s) L A with
    | nx L1 A1 =>
      rw [e] at o
      exact fun ρ' H' σ' x s' l' => ⟨ρ', A1, L1, s', l', OutS.mono x o⟩
    | rt d A1 => rw [e] at o; exact o
    | bk L1 A1 => rw [e] at o; exact o
    | ct L1 A1 => rw [e] at o; exact o
    | exc x L1 A1 => rw [e] at o; exact o
    | bad => rw [e] at o; exact o
theorem swaps_plain {e : Expr} {t : Option Expr} {l : Nat} {env : Env} (h : isComp e = false) : swapsWith e t l env = pure false := by
  cases e <;> first | rfl | (exact (Bool.false_ne_true h.symm).elim)
theorem rs_ex {e : Expr} {c : CE} (hc : isComp e = false) (he : RE G P F X W e c) : RS G P F X W (.Expr e pos) (.ex c) :=
  (ps_expr he (swaps_plain hc)).imp fun D σ H ⟨ρ, A, L, s, l, o⟩ => by
    simp only [evS] at o
    exact ⟨ρ, A, L, s, l, (OutS.ofE (R := RV) l o).imp fun v H1 ⟨ρ1, A1, x, x1, s1, r1, o1⟩ => OutS.nx o1 s1 (l.mono x1)⟩
theorem rs_ret {e : Expr} {c : CE} (he : RE G P F X W e c) : RS G P F X W (.Return (some e) pos) (.ret c) :=
  (ps_ret he).imp fun D σ H ⟨ρ, A, L, s, l, o⟩ => by
    simp only [evS] at o
    exact ⟨ρ, A, L, s, l, (OutS.ofE (R := RV) l o).imp fun v H1 ⟨ρ1, A1, x, x1, s1, r1, o1⟩ => o1 ρ1 H1 v .refl s1 r1⟩
theorem rs_retN : RS G P F X W (.Return none pos) (.ret (.cst .non)) :=
  ps_retN.imp fun D σ H ⟨ρ, A, L, s, l, o⟩ => by
    simp only [evS, evE, SRes.ofE] at o
    exact o ρ H .non .refl s (by simp only [RV])
theorem rs_cond {c : Expr} {cc : CE} {a b : List Stmt} {ca cb : List CS} (hc : RT G P F X W c cc) (ha : RSs G P F X W a ca) (hb : RSs G P F X W b cb) : RS G P F X W (.If c a b pos) (.cond cc ca cb) :=
  (ps_if hc ha hb).imp fun D σ H ⟨ρ, A, L, s, l, o⟩ => by
    simp only [evS] at o
    refine ⟨ρ, A, L, s, l, (OutS.ofE (R := REq Bool) l o).imp fun v H1 ⟨ρ1, A1, x, x1, s1, r1, o1⟩ => ?_⟩
    cases r1
    cases v
    · exact ⟨ρ1, A1, L, s1, l.mono x1, o1⟩
    · exact ⟨ρ1, A1, L, s1, l.mono x1, o1⟩
/-- target = value -/
theorem asg_imp {te : TE} {g : TG} {ct : CT} {ce : CE} (h1 : ∀ {σ H Q}, tR G RV W (evE P F ce) σ H Q → te σ H Q) (h2 : ∀ {v σ H Q}, tG G W (slotsT ct) (asT P F ct) v σ H Q → g v σ H Q) {D : Ends} {σ : St} {H : Hp}
    (q : tS G W (evS P F (.asg ct ce)) D σ H) : tAsg te g D σ H := by
  obtain ⟨ρ, A, L, s, l, o⟩ := q
  simp only [evS] at o
  refine h1 ⟨ρ, A, L, s, l, (OutS.ofE (R := RV) l o).imp fun v H1 ⟨ρ1, A1, x, x1, s1, r1, o1⟩ => ?_⟩
  refine h2 ⟨ρ1, A1, L, x, s1, l.mono x1, r1, ?_⟩
  exact (OutS.ofE (R := RLo (slotsT ct) σ) (l.mono x1) o1).imp fun σ2 H2 ⟨ρ2, A2, L2, x2, s2, ⟨l2, _⟩, o2⟩ => OutS.nx o2 s2 l2
theorem rs_asg {tg e : Expr} {ct : CT} {ce : CE} (hg : RG G P F X W tg ct) (he : RE G P F X W e ce) (hs : swapsWith e (some tg) pos.line X.env = pure false) (hw : swappedStores [tg] e X.env = pure none) (hst : isStar tg = false) :
    RS G P F X W (.Assign [tg] e pos) (.asg ct ce) :=
  (ps_asg he hg hs hw (by rw [assignEach_cons hst]; rfl)).imp fun D σ H q => asg_imp (fun h => h) (fun h => h) q
theorem swaps_attr {e a : Expr} {f : Str} {p : Pos} {l : Nat} {env : Env} : swapsWith e (some (.Attribute a f p)) l env = pure false := by cases e <;> rfl
/-- a.f = value -/
theorem rs_sta {a e : Expr} {ca ce : CE} {f : Str} {p : Pos} (t : Top P G F C k X) (ha : RE G P F X W a ca) (he : RE G P F X W e ce) : RS G P F X W (.Assign [.Attribute a f p] e pos) (.sta ca f ce) :=
  (ps_fld ha he swaps_attr).imp fun D σ H ⟨ρ, A, L, s, l, o⟩ => by
    simp only [evS] at o
    refine ⟨ρ, A, L, s, l, (OutS.ofE (R := RV) l o).imp fun v H1 ⟨ρ1, A1, x, x1, s1, r1, o1⟩ => ?_⟩
    have l1 := l.mono x1
    refine ⟨ρ1, A1, L, s1, l1, (OutS.ofE (R := RV) l1 o1).imp fun u H2 ⟨ρ2, A2, y, x2, s2, r2, o2⟩ => ?_⟩
    cases ey : staD P y f x A2 with
    | none => rw [ey] at o2; exact (show False from o2).elim
    | some A3 =>
      rw [ey] at o2
      have o2 : OutS G W ρ2 H2 D (.nx L A3) := o2
      unfold staD at ey
      cases y with
      | ref n =>
        dsimp only at ey
        split at ey
        · rename_i c fs en
          split at ey
          · rename_i hc
            rw [Bool.and_eq_true, decide_eq_true_eq] at hc
            cases ey
            obtain ⟨b, hn, rfl, dx, ws, hb, rf, hcn⟩ := rv_ref s2 r2 en
            have hfb := hc.1
            unfold fldB at hfb
            cases ec : P.cls[c]? with
            | none => rw [ec] at hfb; cases hfb
            | some cl =>
              rw [ec] at hfb
              refine ⟨b, _, dx, ws, rfl, hb, (t.cls c hcn).cl, (t.clsT c cl ec).2.noat f hfb, by rw [rf.length]; exact hc.2, ?_⟩
              have xe : Ext ρ2 H2 ρ2 (upd H2 b (.ins (G.ca c) dx (putF f v ws))) := Ext.put s2 (List.mem_of_getElem? hn)
              refine o2 ρ2 _ σ xe (s2.put hn ⟨dx, _, upd_same, ?_, hcn⟩) ((l1.mono x2).mono xe)
              exact RFs.mono xe _ _ (rf.put (RV.mono x2 _ _ r1))
          · cases ey
        · cases ey
      | _ => cases ey
/-! loops -/
theorem rs_loop {tg it : Expr} {b : List Stmt} {ct : CT} {ci : CI} {cb : List CS} (t : Top P G F C k X) (hp : PassesOwn (model X.prog X.w) X.A X.env X.xe) (hi : RI G P F X W tg it ci) (hg : RG G P F X W tg ct) (hb : RSs G P F X W b cb)
    (hs : ∀ x, foldedSetIterable it X.env x = pure x) : RS G P F X W (.For tg it b [] pos) (.loop ct ci cb) :=
  (ps_for hp t.calm hi hg hb hs).imp fun Dn σ H ⟨ρ, A, L, s, l, o⟩ => by
    simp only [evS] at o
    refine ⟨ρ, A, L, s, l, (OutS.ofE (R := JOk G) l o).imp fun J H1 ⟨ρ1, A1, w, x1, s1, jo, o1⟩ => ?_⟩
    have l1 := l.mono x1
    generalize hf : (fun (d : Kin.D) (L : Kin.Loc) (A : AH) => SRes.ofE L (asT P F ct d L A) fun L A => evSs P F cb L A) = f at o1
    let Wp : Nat → Nat → St → Hp → Prop := fun i m σ H => ∃ ρ A L, Sim G ρ A H ∧ Ext ρ1 H1 ρ H ∧ RL ρ H L σ ∧ OutS G W ρ H Dn (turnsW w f m i L A)
    refine ⟨Wp, ⟨fuel, ρ1, A1, L, s1, .refl, l1, o1⟩, ?_⟩
    rintro i m σ2 H2 ⟨ρ2, A2, L2, s2, x2, l2, o2⟩
    cases m with
    | zero => exact (show False from o2).elim
    | succ m =>
      simp only [turnsW] at o2
      have jj := jo i ρ2 A2 H2 x2.ex s2
      split at o2
      · exact (show False from o2).elim
      · rename_i e
        exact .inl ⟨jj.1 e, OutS.nx o2 s2 l2⟩
      · rename_i d e
        obtain ⟨go, yl⟩ := jj.2 d e
        refine .inr ⟨go, fun σ' H' => Wp (i + 1) m σ' H', fun σ' H' q => ⟨m, Nat.lt_succ_self m, q⟩, fun x H' y => ?_⟩
        obtain ⟨x3, s3, r3⟩ := yl x H' y
        have o3 : OutS G W ρ2 H' { Dn with nx := fun σ' H' => Wp (i + 1) m σ' H', ct := fun σ' H' => Wp (i + 1) m σ' H', bk := Dn.nx } (f d L2 A2) := by
          cases q : f d L2 A2 with
          | nx L4 A4 =>
            rw [q] at o2
            exact fun ρ' H4 σ' x4 s4 l4 => ⟨ρ', A4, L4, s4, (x2.trans x3).trans x4, l4, OutS.mono (x3.trans x4) o2⟩
          | ct L4 A4 =>
            rw [q] at o2
            exact fun ρ' H4 σ' x4 s4 l4 => ⟨ρ', A4, L4, s4, (x2.trans x3).trans x4, l4, OutS.mono (x3.trans x4) o2⟩
          | bk L4 A4 => rw [q] at o2; exact fun ρ' H4 σ' x4 s4 l4 => o2 ρ' H4 σ' (x3.trans x4) s4 l4
          | rt d4 A4 => rw [q] at o2; exact fun ρ' H4 v x4 s4 r4 => o2 ρ' H4 v (x3.trans x4) s4 r4
          | exc y L4 A4 => rw [q] at o2; exact fun ρ' H4 σ' c dx x4 s4 l4 r4 => o2 ρ' H4 σ' c dx (x3.trans x4) s4 l4 r4
          | bad => rw [q] at o2; exact o2
        subst hf
        refine ⟨ρ2, A2, L2, d, s3, l2.mono x3, r3, (OutS.ofE (R := RLo (slotsT ct) σ2) (l2.mono x3) o3).imp fun σ4 H4 ⟨ρ4, A4, L4, x4, s4, ⟨l4, _⟩, o4⟩ => ⟨ρ4, A4, L4, s4, l4, o4⟩⟩
theorem rs_while {c : Expr} {cc : CE} {b : List Stmt} {cb : List CS} (hp : PassesOwn (model X.prog X.w) X.A X.env X.xe) (hc : RT G P F X W c cc) (hb : RSs G P F X W b cb) : RS G P F X W (.While c b [] pos) (.while cc cb) :=
  (ps_while hp hc hb).imp fun D σ H ⟨ρ, A, L, s, l, o⟩ => by
    simp only [evS] at o
    let Wp : Nat → St → Hp → Prop := fun m σ H => ∃ ρ A L, Sim G ρ A H ∧ RL ρ H L σ ∧ OutS G W ρ H D (whileN (evT P F cc) (fun L A => evSs P F cb L A) m L A)
    refine ⟨Wp, ⟨fuel, ρ, A, L, s, l, o⟩, ?_⟩
    rintro m σ2 H2 ⟨ρ2, A2, L2, s2, l2, o2⟩
    cases m with
    | zero => exact (show False from o2).elim
    | succ m =>
      simp only [whileN] at o2
      refine ⟨ρ2, A2, L2, s2, l2, ?_⟩
      cases q : evT P F cc L2 A2 with
      | exc y A3 => rw [q] at o2; exact fun ρ' H' c dx x s r => o2 ρ' H' σ2 c dx x s (l2.mono x) r
      | bad => rw [q] at o2; exact o2
      | ok k A3 =>
        rw [q] at o2
        intro ρ3 H3 v x3 s3 r3
        cases r3
        cases k
        · exact o2 ρ3 H3 σ2 x3 s3 (l2.mono x3)
        · refine ⟨fun σ' H' => Wp m σ' H', fun σ' H' q => ⟨m, Nat.lt_succ_self m, q⟩, ρ3, A3, L2, s3, l2.mono x3, ?_⟩
          cases q2 : evSs P F cb L2 A3 with
          | nx L4 A4 => simp only [q2] at o2; exact fun ρ' H4 σ' x4 s4 l4 => ⟨ρ', A4, L4, s4, l4, OutS.mono (x3.trans x4) o2⟩
          | ct L4 A4 => simp only [q2] at o2; exact fun ρ' H4 σ' x4 s4 l4 => ⟨ρ', A4, L4, s4, l4, OutS.mono (x3.trans x4) o2⟩
          | bk L4 A4 => simp only [q2] at o2; exact fun ρ' H4 σ' x4 s4 l4 => o2 ρ' H4 σ' (x3.trans x4) s4 l4
          | rt d4 A4 => simp only [q2] at o2; exact fun ρ' H4 v x4 s4 r4 => o2 ρ' H4 v (x3.trans x4) s4 r4
          | exc y L4 A4 => simp only [q2] at o2; exact fun ρ' H4 σ' c dx x4 s4 l4 r4 => o2 ρ' H4 σ' c dx (x3.trans x4) s4 l4 r4
          | bad => simp only [q2] at o2; exact o2
end
end Kin
end
section
set_option linter.all false
set_option maxRecDepth 100000
/-! Kin 21: every statement that the compiler reads. -/
namespace Kin
open PySem PySem.Spec PyProof.Rows L2
section
variable {G : Gl} {W : WX} {X : Cx} {P : CProg} {F : Fns} {pos : Pos} {C : Ctx} {k : Nat}
def isLst : Expr → Bool
  | .List _ _ => true
  | _ => false
theorem stores_none {tg e : Expr} {env : Env} (h : isTup tg = false ∨ isTup e = false) (h2 : isLst tg = false) : swappedStores [tg] e env = pure none := by
  cases tg <;> first
    | rfl
    | (exact (Bool.false_ne_true h2.symm).elim)
    | (rcases h with h | h
       · exact (Bool.false_ne_true h.symm).elim
       · cases e <;> first | rfl | (exact (Bool.false_ne_true h.symm).elim))
theorem set_all2 {i j : Nat} {L : Kin.Loc} {ds : List Kin.D} {L' : Kin.Loc} (h : setAll [i, j] ds L = some L') : ∃ d e, ds = [d, e] ∧ L' = (L.set i (some d)).set j (some e) := by
  match ds, h with
  | [], h => simp [setAll] at h
  | [d], h => simp [setAll] at h
  | [d, e], h => simp only [setAll, Option.some.injEq] at h; exact ⟨d, e, rfl, h.symm⟩
  | _ :: _ :: _ :: _, h => simp [setAll] at h
theorem set_all3 {i j l : Nat} {L : Kin.Loc} {ds : List Kin.D} {L' : Kin.Loc} (h : setAll [i, j, l] ds L = some L') : ∃ d e f, ds = [d, e, f] ∧ L' = ((L.set i (some d)).set j (some e)).set l (some f) := by
  match ds, h with
  | [], h => simp [setAll] at h
  | [d], h => simp [setAll] at h
  | [d, e], h => simp [setAll] at h
  | [d, e, f], h => simp only [setAll, Option.some.injEq] at h; exact ⟨d, e, f, rfl, h.symm⟩
  | _ :: _ :: _ :: _ :: _, h => simp [setAll] at h
theorem blockKind_ok (so : ScOk C X) : X.env.blockKind = .function := by
  unfold Env.blockKind
  rw [so.kind]
  rfl
theorem dedup2 {x y : Str} (h : x ≠ y) : [x, y].eraseDups = [x, y] := by
  have : (x == y) = false := by simpa using h
  have h2 : (y == x) = false := by simpa using h.symm
  simp [List.eraseDups, List.eraseDupsBy, List.eraseDupsBy.loop, this, h2]
theorem dedup3 {x y z : Str} (h : x ≠ y) (h2 : x ≠ z) (h3 : y ≠ z) : [x, y, z].eraseDups = [x, y, z] := by
  have a : (x == y) = false := by simpa using h
  have a' : (y == x) = false := by simpa using h.symm
  have b : (x == z) = false := by simpa using h2
  have b' : (z == x) = false := by simpa using h2.symm
  have c : (y == z) = false := by simpa using h3
  have c' : (z == y) = false := by simpa using h3.symm
  simp [List.eraseDups, List.eraseDupsBy, List.eraseDupsBy.loop, a, a', b, b', c, c']
theorem no_star {es : List Expr} {f : Expr → Bool} (hs : es.any isStar = false) (h : es.any f = true) (hf : ∀ e, f e = true → isStar e = true := by intro e h; cases e <;> first | rfl | cases h) : False := by
  obtain ⟨e, he, q⟩ := List.any_eq_true.mp h
  have := List.any_eq_true.mpr ⟨e, he, hf e q⟩
  rw [hs] at this
  cases this
theorem stores2 {x y : Str} {px py pt pt2 : Pos} {kt k2 : Nat} {a b : Expr} (so : ScOk C X) (hx : C.sc.names.lookup x = some .local) (hy : C.sc.names.lookup y = some .local) (hxy : x ≠ y) (hl : (py.line == px.line) = true)
    (hs : [a, b].any isStar = false) (hf : [a, b].all (foldedForSure 8) = false) (hc : [a, b].all (constantsAlone 8) = false) :
    swappedStores [.Tuple [.Name x px, .Name y py] kt pt] (.Tuple [a, b] k2 pt2) X.env = pure (some [x, y]) := by
  have e1 : X.env.kindOf x = some .local := by unfold Env.kindOf; rw [so.sc]; exact hx
  have e2 : X.env.kindOf y = some .local := by unfold Env.kindOf; rw [so.sc]; exact hy
  unfold swappedStores
  simp only [List.length_cons, List.length_nil, blockKind_ok so, hf, hc, List.filterMap_cons, List.filterMap_nil, List.head?_cons, Option.map_some, Option.getD_some, Expr.pos, e1, e2, hl, beq_self_eq_true, Bool.and_self, if_true, dedup2 hxy]
  rw [if_neg (by decide), if_neg (fun hh => no_star hs hh), if_neg (by decide), if_neg (by decide), if_neg (by decide)]
theorem stores3 {x y z : Str} {px py pz pt pt2 : Pos} {kt k2 : Nat} {a b c : Expr} (so : ScOk C X) (hx : C.sc.names.lookup x = some .local) (hy : C.sc.names.lookup y = some .local) (hz : C.sc.names.lookup z = some .local) (hxy : x ≠ y) (hxz : x ≠ z) (hyz : y ≠ z)
    (hl : (py.line == px.line) = true) (hl2 : (pz.line == px.line) = true)
    (hs : [a, b, c].any isStar = false) (hf : [a, b, c].all (foldedForSure 8) = false) (hc : [a, b, c].all (constantsAlone 8) = false) :
    swappedStores [.Tuple [.Name x px, .Name y py, .Name z pz] kt pt] (.Tuple [a, b, c] k2 pt2) X.env = pure (some [x, y, z]) := by
  have e1 : X.env.kindOf x = some .local := by unfold Env.kindOf; rw [so.sc]; exact hx
  have e2 : X.env.kindOf y = some .local := by unfold Env.kindOf; rw [so.sc]; exact hy
  have e3 : X.env.kindOf z = some .local := by unfold Env.kindOf; rw [so.sc]; exact hz
  unfold swappedStores
  simp only [List.length_cons, List.length_nil, blockKind_ok so, hf, hc, List.filterMap_cons, List.filterMap_nil, List.head?_cons, Option.map_some, Option.getD_some, Expr.pos, e1, e2, e3, hl, hl2, beq_self_eq_true, Bool.and_self, if_true, dedup3 hxy hxz hyz]
  rw [if_neg (by decide), if_neg (fun hh => no_star hs hh), if_neg (by decide), if_neg (by decide), if_neg (by decide)]
end
end Kin
end
section
set_option linter.all false
set_option maxRecDepth 100000
/-! Kin 22: a, b = x, y; every statement. -/
namespace Kin
open PySem PySem.Spec PyProof.Rows L2
section
variable {G : Gl} {P : CProg} {F : Fns} {k : Nat}
theorem tslot_inj {C : Ctx} {x y : Str} {i j : Nat} (hx : C.tslot x = some i) (hy : C.tslot y = some j) (h : i ≠ j) : x ≠ y := by
  intro e
  subst e
  rw [hx] at hy
  cases hy
  exact h rfl
theorem par_cons {C : Ctx} {line : Nat} {e : Expr} {r : List Expr} {is : List Nat} (h : parNames C line (e :: r) = some is) :
    ∃ x pos i is', e = .Name x pos ∧ (pos.line == line) = true ∧ C.sc.names.lookup x = some .local ∧ C.tslot x = some i ∧ parNames C line r = some is' ∧ is = i :: is' := by
  cases e with
  | Name x pos =>
    simp only [parNames] at h
    split at h
    · rename_i hc
      rw [Bool.and_eq_true] at hc
      cases ex : C.tslot x with
      | none => rw [ex] at h; cases h
      | some i =>
        rw [ex] at h
        cases er : parNames C line r with
        | none => rw [er] at h; cases h
        | some is' =>
          rw [er] at h
          cases h
          exact ⟨x, pos, i, is', rfl, hc.1, of_decide_eq_true hc.2, ex, rfl, rfl⟩
    · cases h
  | _ => simp [parNames] at h
theorem filterMap_lt {α β : Type} {f : α → Option β} : ∀ {l : List α}, (l.any fun a => (f a).isNone) = true → (l.filterMap f).length < l.length
  | [], h => by simp at h
  | a :: l, h => by
    rw [List.any_cons, Bool.or_eq_true] at h
    rw [List.filterMap_cons]
    have le : (l.filterMap f).length ≤ l.length := List.length_filterMap_le _ _
    cases e : f a with
    | none => simp only [List.length_cons]; omega
    | some b =>
      rw [e] at h
      rcases h with h | h
      · cases h
      · have := filterMap_lt h
        simp only [List.length_cons]
        omega
theorem swap_none {ts vs : List Expr} {k k2 : Nat} {p p2 : Pos} {env : Env} (h : (ts.any fun t => match t with
    | .Name x _ => !decide (env.scope.names.lookup x = some .local)
    | _ => true) = true) : swappedStores [.Tuple ts k p] (.Tuple vs k2 p2) env = pure none := by
  unfold swappedStores
  dsimp only
  split
  · rfl
  · split
    · rfl
    · rw [if_pos]
      rw [Bool.or_eq_true]
      left
      have lt := filterMap_lt (l := ts) (f := fun x => match x with
        | .Name id pos => if env.kindOf id == some .local && pos.line == (ts.head?.map (·.pos.line)).getD 0 then some id else none
        | _ => none) (by
          obtain ⟨t, ht, e⟩ := List.any_eq_true.mp h
          refine List.any_eq_true.mpr ⟨t, ht, ?_⟩
          cases t with
          | Name x q =>
            have hx : ¬ env.scope.names.lookup x = some .local := by simpa using e
            have hk : (env.kindOf x == some .local) = false := by
              unfold Env.kindOf
              simpa using hx
            simp only [hk, Bool.false_and, Bool.false_eq_true, if_false, Option.isNone_none]
          | _ => rfl)
      exact bne_iff_ne.mpr (Nat.ne_of_lt lt)
theorem parF_ok {X : Cx} {C : Ctx} {W : WX} {f : CEF} {ts vs : List Expr} {kt k2 : Nat} {pt pt2 pos : Pos} (t : Top P G F C k X) (so : ScOk C X) (hf : ∀ e, RE G P F X W e (f C e)) :
    RS G P F X W (.Assign [.Tuple ts kt pt] (.Tuple vs k2 pt2) pos) (parF f C ts vs (.Tuple ts kt pt) (.Tuple vs k2 pt2)) := by
  unfold parF
  split
  · rename_i ho
    exact rs_asg (tgt_ok t so hf 6 _) (hf _) (swaps_plain rfl) (swap_none (by rw [so.sc]; exact ho)) rfl
  split
  · rename_i hc
    simp only [Bool.and_eq_true, Bool.not_eq_true'] at hc
    obtain ⟨⟨⟨⟨h1, h2⟩, h3⟩, h4⟩, h5⟩ := hc
    split
    · rename_i is hp
      split
      · rename_i nd
        have nd := of_decide_eq_true nd
        cases ts with
        | nil => simp at h1
        | cons t1 ts =>
        obtain ⟨x, px, i, is1, e1, _, hxl, ex, hp1, e2⟩ := par_cons hp
        subst e1 e2
        clear hp
        simp only [List.head?_cons, Option.map_some, Option.getD_some, Expr.pos] at hp1
        cases ts with
        | nil => simp at h1
        | cons t2 ts =>
        obtain ⟨y, py, j, is2, e1, ly, hyl, ey, hp2, e2⟩ := par_cons hp1
        subst e1 e2
        clear hp1
        cases ts with
        | nil =>
          simp only [parNames, Option.some.injEq] at hp2
          subst hp2
          match vs, h2, h3, h4, h5 with
          | [a, b], h2, h3, h4, h5 =>
            have hij : i ≠ j := by simpa using nd
            obtain ⟨_, hi, _⟩ := so.tgt x i ex
            obtain ⟨_, hj, _⟩ := so.tgt y j ey
            refine (ps_par t.calm so.nd hi hj hij (by rw [so.sc]; exact hxl) (by rw [so.sc]; exact hyl) (pa_list hf [a, b] h3) (stores2 so hxl hyl (tslot_inj ex ey hij) ly h3 h4 h5) rfl).imp fun D σ H ⟨ρ, A, L, s, l, o⟩ => ?_
            simp only [evS] at o
            refine ⟨ρ, A, L, s, l, (OutS.ofE (R := RVs) l o).imp fun us H1 ⟨ρ1, A1, ds, x1, s1, r1, o1⟩ => ?_⟩
            cases q : setAll [i, j] ds L with
            | none => rw [q] at o1; exact (show False from o1).elim
            | some L' =>
              rw [q] at o1
              obtain ⟨d, e, rfl, rfl⟩ := set_all2 q
              obtain ⟨v, u, rfl, rv, ru⟩ := rvs2 r1
              exact ⟨v, u, rfl, OutS.nx o1 s1 (rl_set (rl_set (l.mono x1) rv) ru)⟩
          | [], h2, _, _, _ => simp at h2
          | [_], h2, _, _, _ => simp at h2
          | _ :: _ :: _ :: _, h2, _, _, _ => simp at h2
        | cons t3 ts =>
        obtain ⟨z, pz, m, is3, e1, lz, hzl, ez, hp3, e2⟩ := par_cons hp2
        subst e1 e2
        clear hp2
        cases ts with
        | nil =>
          simp only [parNames, Option.some.injEq] at hp3
          subst hp3
          match vs, h2, h3, h4, h5 with
          | [a, b, c], h2, h3, h4, h5 =>
            have hij : i ≠ j ∧ i ≠ m ∧ j ≠ m := by
              simp only [List.nodup_cons, List.mem_cons, List.not_mem_nil, not_or, or_false] at nd
              exact ⟨nd.1.1, nd.1.2, nd.2.1⟩
            obtain ⟨h12, h13, h23⟩ := hij
            obtain ⟨_, hi, _⟩ := so.tgt x i ex
            obtain ⟨_, hj, _⟩ := so.tgt y j ey
            obtain ⟨_, hm, _⟩ := so.tgt z m ez
            refine (ps_par3 t.calm so.nd hi hj hm h12 h13 h23 (by rw [so.sc]; exact hxl) (by rw [so.sc]; exact hyl) (by rw [so.sc]; exact hzl) (pa_list hf [a, b, c] h3)
              (stores3 so hxl hyl hzl (tslot_inj ex ey h12) (tslot_inj ex ez h13) (tslot_inj ey ez h23) ly lz h3 h4 h5) rfl).imp fun D σ H ⟨ρ, A, L, s, l, o⟩ => ?_
            simp only [evS] at o
            refine ⟨ρ, A, L, s, l, (OutS.ofE (R := RVs) l o).imp fun us H1 ⟨ρ1, A1, ds, x1, s1, r1, o1⟩ => ?_⟩
            cases q : setAll [i, j, m] ds L with
            | none => rw [q] at o1; exact (show False from o1).elim
            | some L' =>
              rw [q] at o1
              obtain ⟨d, e, g, rfl, rfl⟩ := set_all3 q
              simp only [RVs] at r1
              obtain ⟨v1, _, rfl, rv1, v2, _, rfl, rv2, v3, _, rfl, rv3, rfl⟩ := r1
              exact ⟨v1, v2, v3, rfl, OutS.nx o1 s1 (rl_set (rl_set (rl_set (l.mono x1) rv1) rv2) rv3)⟩
          | [], h2, _, _, _ => simp at h2
          | [_], h2, _, _, _ => simp at h2
          | [_, _], h2, _, _, _ => simp at h2
          | _ :: _ :: _ :: _ :: _, h2, _, _, _ => simp at h2
        | cons t4 ts => simp at h1
      · exact rs_bad
    · exact rs_bad
  · exact rs_bad
/-- name = [.. for ..] -/
def swB (X : Cx) (x : Str) (q p : Pos) (scope : Scope) : Bool := X.env.blockKind == .function && X.env.kindOf x == some .local && q.line == p.line && !(scope.names.any fun (n, k) => n == x && (k == .local || k == .cell))
theorem sw_eq {X : Cx} {x : Str} {q p : Pos} {scope : Scope} {elt : Expr} {gs : List Comprehension} {l : Nat} : swapsWith (.ListComp elt gs scope p) (some (.Name x q)) l X.env = pure (swB X x q p scope) := rfl
theorem rs_lc {X : Cx} {C : Ctx} {W : WX} {x : Str} {q p pos : Pos} {elt : Expr} {gs : List Comprehension} {scope : Scope} {i : Nat} (t : Top P G F C k X) (so : ScOk C X) (tk : Takes X W) (ex : C.tslot x = some i) (n : Nat) :
    RS G P F X W (.Assign [.Name x q] (.ListComp elt gs scope p) pos) (.asg (.slot i) (compE n C (.ListComp elt gs scope p))) := by
  have hE := (exp_ok (P := P) n t so tk (.ListComp elt gs scope p)).1
  have bad : ∀ {c : CE}, c = .bad → RS G P F X W (.Assign [.Name x q] (.ListComp elt gs scope p) pos) (.asg (.slot i) c) := by
    intro c hc
    subst hc
    refine ⟨fun pins s σ H D I h => ?_⟩
    obtain ⟨ρ, A, L, _, _, o⟩ := h
    simp only [evS, evE, SRes.ofE, OutS] at o
  cases hb : swB X x q p scope with
  | false => exact rs_asg (rg_slot so ex) hE (by rw [sw_eq, hb]) (stores_none (.inl rfl) rfl) rfl
  | true =>
    have hsw : swapsWith (.ListComp elt gs scope p) (some (.Name x q)) pos.line X.env = pure true := by rw [sw_eq, hb]
    have hl : X.env.scope.names.lookup x = some .local := by
      unfold swB at hb
      simp only [Bool.and_eq_true] at hb
      have := hb.1.1.2
      unfold Env.kindOf at this
      exact eq_of_beq this
    obtain ⟨_, hi, _⟩ := so.tgt x i ex
    cases n with
    | zero => exact bad rfl
    | succ n =>
      match gs with
      | [] => exact bad (by unfold compE; split <;> first | rfl | (simp_all))
      | g1 :: g2 :: g3 :: gs => exact bad (by unfold compE; split <;> first | rfl | (simp_all))
      | [⟨tg, it, ifs, as⟩, ⟨tg1, it1, ifs1, as1⟩] =>
        by_cases h0 : as = 0 ∧ as1 = 0
        case neg => exact bad (by unfold compE; split <;> first | rfl | (simp_all))
        obtain ⟨rfl, rfl⟩ := h0
        have IH := fun e => (exp_ok (P := P) n t so tk e).1
        simp only [compE]
        unfold comp2F
        dsimp only
        by_cases hc : (blkB scope C && !badI (iterF (compE n) C (isTup tg) it) && !badI (iterF (compE n) (relC scope C) (isTup tg1) it1)) = true
        case neg =>
          rw [if_neg hc]
          exact bad rfl
        rw [if_pos hc]
        simp only [Bool.and_eq_true, Bool.not_eq_true'] at hc
        obtain ⟨⟨hB, b0⟩, b1⟩ := hc
        have hb : ∀ {X' : Cx}, Top P G F (relC scope C) k X' → ScOk (relC scope C) X' → ∀ e, RE G P F X' WF e (compE n (relC scope C) e) ∧ RT G P F X' WF e (compE n (relC scope C) e) := fun t' so' e => exp_ok n t' so' takes_wf e
        have hw := slots_in (f := compE n) (scope := scope) (C := C) (so.n ▸ so.nd) 6 tg
        refine (ps_setLc2 t.calm so.nd hi hl hsw (iter_ok t so IH tg it) (by rw [so.n, so.sc]; exact blk_ok hB) (slots_in (f := compE n) (scope := scope) (C := C) (so.n ▸ so.nd) 6 tg1)
          (fun s H C' cl fp => tgt_ok t.blk (so.blk hB) (fun e => (hb t.blk (so.blk hB) e).1) 6 tg) (fun s H C' cl fp => rif_of (fun e => (hb t.blk (so.blk hB) e).2) ifs)
          (fun s H C' cl fp => iter_ok t.blk (so.blk hB) (fun e => (hb t.blk (so.blk hB) e).1) tg1 it1) (fun s H C' cl fp => tgt_ok t.blk (so.blk hB) (fun e => (hb t.blk (so.blk hB) e).1) 6 tg1)
          (fun s H C' cl fp => rif_of (fun e => (hb t.blk (so.blk hB) e).2) ifs1) (fun s H C' cl fp => (hb t.blk (so.blk hB) elt).1) (folded_ok (W := W) tg it X.env (badI_ok b0)) (fun env => folded_ok (W := W) tg1 it1 env (badI_ok b1))).imp fun D σ H qq => ?_
        exact asg_imp (fun h => comp_lc2 hw (fun _ h => h) h) (fun {v σ H Q} ⟨ρ, A, L, d, s, l, r, o⟩ => by
          simp only [asT] at o
          exact OutR.ok o s ⟨rl_set l r, fun vs hv => by rw [wipe_set, if_pos (hv i (by simp [slotsT]))]⟩) qq
      | [⟨tg, it, ifs, as⟩] =>
        by_cases h0 : as = 0
        case neg => exact bad (by unfold compE; split <;> first | rfl | (simp_all))
        subst h0
        by_cases hB : blkB scope C = true
        case neg => exact bad (by simp only [compE]; rw [if_neg hB])
        by_cases hbad : iterF (compE n) C (isTup tg) it = .bad
        · have ec : compE (n + 1) C (.ListComp elt [⟨tg, it, ifs, 0⟩] scope p) = .comp (compE n (relC scope C) elt) (tgtF (compE n) 6 (relC scope C) tg) .bad (ifs.map (compE n (relC scope C))) ((ownOf scope C).map (·.2)) := by
            simp only [compE]
            rw [if_pos hB, hbad]
          rw [ec]
          refine ⟨fun pins s σ H D I h => ?_⟩
          obtain ⟨ρ, A, L, _, _, o⟩ := h
          simp only [evS, evE, evI, Res.bind, SRes.ofE, OutS] at o
        · have ec : compE (n + 1) C (.ListComp elt [⟨tg, it, ifs, 0⟩] scope p) = .comp (compE n (relC scope C) elt) (tgtF (compE n) 6 (relC scope C) tg) (iterF (compE n) C (isTup tg) it) (ifs.map (compE n (relC scope C))) ((ownOf scope C).map (·.2)) := by
            simp only [compE]
            rw [if_pos hB]
          rw [ec]
          have IH := fun e => (exp_ok (P := P) n t so tk e).1
          have hw := slots_in (f := compE n) (scope := scope) (C := C) (so.n ▸ so.nd) 6 tg
          refine (ps_setLc t.calm so.nd hi hl hsw (iter_ok t so IH tg it) (by rw [so.n, so.sc]; exact blk_ok hB) (fun s H C' cl fp => tgt_ok t.blk (so.blk hB) (fun e => (exp_ok (P := P) n t.blk (so.blk hB) takes_wf e).1) 6 tg)
            (fun s H C' cl fp => rif_of (fun e => (exp_ok (P := P) n t.blk (so.blk hB) takes_wf e).2) ifs) (fun s H C' cl fp => (exp_ok (P := P) n t.blk (so.blk hB) takes_wf elt).1) (folded_ok (W := W) tg it X.env hbad)).imp fun D σ H qq => ?_
          exact asg_imp (fun h => comp_lc hw h) (fun {v σ H Q} ⟨ρ, A, L, d, s, l, r, o⟩ => by
            simp only [asT] at o
            exact OutR.ok o s ⟨rl_set l r, fun vs hv => by rw [wipe_set, if_pos (hv i (by simp [slotsT]))]⟩) qq
/-- every statement -/
theorem stm_ok {X : Cx} {C : Ctx} {W : WX} (t : Top P G F C k X) (so : ScOk C X) (tk : Takes X W) (hp : PassesOwn (model X.prog X.w) X.A X.env X.xe) : ∀ (n : Nat) (st : Stmt), RS G P F X W st (compS n C st)
  | 0, st => rs_bad
  | n + 1, st => by
    have hE := fun e => (exp_ok (P := P) n t so tk e).1
    have hT := fun e => (exp_ok (P := P) n t so tk e).2
    have hS := rss_list (stm_ok t so tk hp n)
    cases st with
    | Expr e p =>
      simp only [compS]
      split
      · exact rs_bad
      · rename_i h
        exact rs_ex (by simpa using h) (hE e)
    | Assign ts e p =>
      match ts with
      | [tg] =>
        simp only [compS]
        split
        · exact parF_ok t so hE
        · exact rs_bad
        · exact rs_bad
        · split
          · exact rs_sta t (hE _) (hE _)
          · exact rs_bad
        · exact rs_bad
        · split
          · rename_i i ex
            exact rs_lc t so tk ex n
          · exact rs_bad
        · rename_i h1 h2 h3 h6 h4 h5
          have hst : isStar tg = false := by cases tg <;> first | rfl | (exfalso; first | (apply h6 <;> rfl) | (apply h1 <;> rfl) | (apply h2 <;> rfl) | (apply h3 <;> rfl) | (apply h4 <;> rfl) | (apply h5 <;> rfl))
          have hls : isLst tg = false := by cases tg <;> first | rfl | (exfalso; first | (apply h6 <;> rfl) | (apply h1 <;> rfl) | (apply h2 <;> rfl) | (apply h3 <;> rfl) | (apply h4 <;> rfl) | (apply h5 <;> rfl))
          have htp : isTup tg = false ∨ isTup e = false := by
            cases tg <;> first | exact .inl rfl | (cases e <;> first | exact .inr rfl | (exfalso; first | (apply h6 <;> rfl) | (apply h1 <;> rfl) | (apply h2 <;> rfl) | (apply h3 <;> rfl) | (apply h4 <;> rfl) | (apply h5 <;> rfl)))
          by_cases hc : isComp e = true
          · have bad : compE n C e = .bad → RS G P F X W (.Assign [tg] e p) (.asg (tgtF (compE n) 6 C tg) (compE n C e)) := fun h => by
              rw [h]
              refine ⟨fun pins s σ H D I h => ?_⟩
              obtain ⟨ρ, A, L, _, _, o⟩ := h
              simp only [evS, evE, SRes.ofE, OutS] at o
            cases e with
            | ListComp elt gs scope q =>
              refine rs_asg (tgt_ok t so hE 6 tg) (hE _) ?_ (stores_none htp hls) hst
              cases tg <;> first | rfl | (exfalso; first | (apply h6 <;> rfl) | (apply h1 <;> rfl) | (apply h2 <;> rfl) | (apply h3 <;> rfl) | (apply h4 <;> rfl) | (apply h5 <;> rfl))
            | SetComp _ _ _ _ => exact (by first | (exfalso; exact h4 _ _ _ _ rfl) | (exfalso; exact h5 _ _ _ _ rfl) | (exfalso; exact h6 _ _ _ _ rfl))
            | DictComp _ _ _ _ _ => exact bad (by cases n <;> rfl)
            | _ => exact (Bool.false_ne_true hc).elim
          · exact rs_asg (tgt_ok t so hE 6 tg) (hE e) (swaps_plain (by simpa using hc)) (stores_none htp hls) hst
      | [] => exact rs_bad
      | _ :: _ :: _ => exact rs_bad
    | Return v p =>
      cases v with
      | none => exact rs_retN
      | some e => exact rs_ret (hE e)
    | If c a b p => exact rs_cond (hT c) (hS a) (hS b)
    | For tg it b els p =>
      cases els with
      | cons _ _ => exact rs_bad
      | nil =>
        simp only [compS]
        by_cases hbad : iterF (compE n) C (isTup tg) it = .bad
        · rw [hbad]
          refine ⟨fun pins s σ H D I h => ?_⟩
          obtain ⟨ρ, A, L, _, _, o⟩ := h
          simp only [evS, evI, SRes.ofE, OutS] at o
        · exact rs_loop t hp (iter_ok t so hE tg it) (tgt_ok t so hE 6 tg) (hS b) (folded_ok (W := W) tg it X.env hbad)
    | While c b els p =>
      cases els with
      | cons _ _ => exact rs_bad
      | nil => exact rs_while hp (hT c) (hS b)
    | Break p => exact ps_break.imp fun D σ H ⟨ρ, A, L, s, l, o⟩ => by simp only [compS, evS] at o; exact o ρ H σ .refl s l
    | Continue p => exact ps_continue.imp fun D σ H ⟨ρ, A, L, s, l, o⟩ => by simp only [compS, evS] at o; exact o ρ H σ .refl s l
    | Pass p => exact ps_pass.imp fun D σ H ⟨ρ, A, L, s, l, o⟩ => by simp only [compS, evS] at o; exact o ρ H σ .refl s l
    | _ => exact rs_bad
end
end Kin
end
section
set_option linter.all false
set_option maxRecDepth 100000
/-! Kin 23: a call's arguments are bound in order. -/
namespace Kin
open PySem PySem.Spec PyProof.Rows L2
theorem lookup_zip {α : Type} : ∀ {ps : List Str} {us : List α}, ps.Nodup → us.length = ps.length → ∀ (acc : List (Str × α)), (∀ p ∈ ps, acc.lookup p = none) → ps.filterMap (fun n => ((acc ++ ps.zip us).lookup n).map fun v => (n, v)) = ps.zip us
  | [], [], _, _, _, _ => rfl
  | p :: ps, u :: us, nd, hl, acc, ha => by
    have e1 : (acc ++ (p :: ps).zip (u :: us)).lookup p = some u := by
      rw [List.lookup_append, ha p List.mem_cons_self]
      simp [List.zip_cons_cons, List.lookup_cons]
    rw [List.filterMap_cons, e1]
    simp only [Option.map_some, List.zip_cons_cons]
    congr 1
    have e2 : acc ++ (p, u) :: ps.zip us = (acc ++ [(p, u)]) ++ ps.zip us := by simp
    rw [e2]
    refine lookup_zip (List.nodup_cons.mp nd).2 (by simpa using hl) (acc ++ [(p, u)]) fun q hq => ?_
    rw [List.lookup_append, ha q (List.mem_cons_of_mem _ hq)]
    have : q ≠ p := fun e => (List.nodup_cons.mp nd).1 (e ▸ hq)
    have e3 : (q == p) = false := by simpa using this
    simp only [List.lookup_cons, e3, List.lookup_nil, Option.or_none]
theorem zip_some {α : Type} : ∀ {ps : List Str} {us : List α}, us.length = ps.length → ∀ p ∈ ps, ((ps.zip us).lookup p).isNone = false
  | [], [], _, p, h => nomatch h
  | q :: ps, u :: us, hl, p, h => by
    rw [List.zip_cons_cons, List.lookup_cons]
    cases e : p == q with
    | true => rfl
    | false =>
      rcases List.mem_cons.mp h with rfl | h
      · simp at e
      · exact zip_some (by simpa using hl) p h
theorem bind_plain {fd : FuncData} {us : List Value} (h1 : fd.params.posonlyargs = []) (h2 : fd.params.kwonlyargs = []) (h3 : fd.params.vararg = none) (h4 : fd.params.kwarg = none) (hd : fd.defaults = .none)
    (nd : (fd.params.args.map (·.arg)).Nodup) (hl : us.length = (fd.params.args.map (·.arg)).length) : bindArgs fd ⟨us, []⟩ = pure ((fd.params.args.map (·.arg)).zip us) := by
  obtain ⟨n1, n2, ⟨po, as, va, ko, kd, kw, df⟩, n4, n5, n6, n7, n8, n9, n10, n11, n12, n13, n14, n15⟩ := fd
  dsimp only at h1 h2 h3 h4 hd nd hl ⊢
  subst h1 h2 h3 h4 hd
  have e0 : seqItems? (.none : Value) = pure none := rfl
  have e1 := lookup_zip nd hl [] (fun _ _ => rfl)
  simp only [List.nil_append] at e1
  have e2 : ((as.map (·.arg)).filter fun n => (((as.map (·.arg)).zip us).lookup n).isNone) = [] := by
    rw [List.filter_eq_nil_iff]
    intro p hp
    rw [zip_some hl p hp]
    simp
  have e3 : decide (us.length > (as.map (·.arg)).length) = false := by rw [hl]; simp
  unfold bindArgs
  dsimp only
  simp only [List.map_nil, List.nil_append, List.append_nil, List.forIn_nil, pure_bind, e0, Option.getD_none, List.drop_nil, List.length_nil, Nat.sub_zero, List.zip_nil_right, e3, Option.isNone_none, Bool.and_true, List.take_length, e2, e1, List.isEmpty_nil]
  rfl
end Kin
end
section
set_option linter.all false
set_option maxRecDepth 100000
/-! Kin 24: every def of the module, by levels. -/
namespace Kin
open PySem PySem.Spec PyProof.Rows L2
structure Arr (a : Arguments) (sc : Scope) (b : List Stmt) : Prop where
  po : a.posonlyargs = []
  ko : a.kwonlyargs = []
  va : a.vararg = none
  kw : a.kwarg = none
  sc : FnScope (namesOf a sc b) (paramsOf a) sc
theorem arrB_ok {a : Arguments} {sc : Scope} {b : List Stmt} (h : arrB a sc b = true) : Arr a sc b := by
  unfold arrB at h
  simp only [Bool.and_eq_true, Bool.not_eq_true', decide_eq_true_eq, List.isEmpty_iff, Option.isNone_iff_eq_none, List.all_eq_true] at h
  obtain ⟨⟨⟨⟨⟨⟨⟨⟨⟨⟨⟨h1, h2⟩, h3⟩, h4⟩, h5⟩, h6⟩, h7⟩, h8⟩, h9⟩, h10⟩, h11⟩, h12⟩ := h
  exact ⟨h1, h2, h3, h4, ⟨h6, h7, h8, h9, h10, h11, h12⟩⟩
/-- where a def stands -/
def Item.at_ (it : Item) : Str × Option Str := match it.own with
  | none => (it.name, none)
  | some c => (c, some it.name)
/-- what the head tells of the module -/
structure Facts (T : Tab) (K : PySem.W.Frag) (mg : Str → Option Value) : Prop where
  good : ∀ it ∈ T.items, arrB it.args it.sc it.body = true
  top : ∀ it ∈ T.defs, it.own = none ∧ mg it.name = some (.ref (He.ga K it.name))
  fd : ∀ it ∈ T.items, ∃ fd, FunD K it.name it.qual it.args it.body it.sc [] [] (He.fAd K it.at_) fd
  cons : ∀ x d, T.cons.lookup x = some d → ∃ v u, mg x = some u ∧ RelV v u ∧ ∀ ρ H, RV ρ H d v
  blt : ∀ x, allBlts.contains x = true → mg x = none
  nd : (T.clss.map (·.1)).Nodup
  cls : ∀ p ∈ T.clss, mg p.1 = some (.ref (He.ga K p.1)) ∧ ClsF K (He.ga K p.1) ∧ ∀ f ∈ p.2, NoAttr K (He.ga K p.1) f
  isc : ∀ p ∈ T.clss, ∀ q ∈ T.clss, IscF K (He.ga K p.1) (He.ga K q.1) (decide (p.1 = q.1))
  meth : ∀ it ∈ T.items, ∀ c, it.own = some c → Meth K (He.ga K c) it.name (He.fAd K it.at_)
  mkr : ∀ it ∈ T.items, ∀ c, isInit c it = true → Mk K (He.ga K c) (He.fAd K it.at_)
/-- where the classes stand -/
def caT (T : Tab) (K : PySem.W.Frag) (c : Nat) : Addr := match T.clss[c]? with
  | some p => He.ga K p.1
  | none => 0
theorem lookup_in {α β : Type} [BEq α] [LawfulBEq α] {x : α} {y : β} : ∀ {l : List (α × β)}, l.lookup x = some y → (x, y) ∈ l
  | [], h => nomatch h
  | (a, b) :: l, h => by
    rw [List.lookup_cons] at h
    cases e : x == a with
    | true =>
      rw [e] at h
      cases h
      rw [eq_of_beq e]
      exact List.mem_cons_self
    | false =>
      rw [e] at h
      exact List.mem_cons_of_mem _ (lookup_in h)
theorem lookup_zipIdx {x : Str} {i : Nat} : ∀ {l : List Str} {k : Nat}, (l.zipIdx k).lookup x = some i → k ≤ i ∧ l[i - k]? = some x
  | [], k, h => nomatch h
  | y :: l, k, h => by
    rw [List.zipIdx_cons, List.lookup_cons] at h
    cases e : x == y with
    | true =>
      rw [e] at h
      cases h
      refine ⟨Nat.le_refl _, ?_⟩
      rw [Nat.sub_self]
      simp only [List.getElem?_cons_zero]
      rw [eq_of_beq e]
    | false =>
      rw [e] at h
      obtain ⟨h1, h2⟩ := lookup_zipIdx (l := l) h
      refine ⟨by omega, ?_⟩
      rw [show i - k = (i - (k + 1)) + 1 by omega, List.getElem?_cons_succ]
      exact h2
theorem RVs.len {ρ : List Addr} {H : Hp} : ∀ {ds : List D} {vs : List V}, RVs ρ H ds vs → ds.length = vs.length
  | [], vs, h => by
    simp only [RVs] at h
    rw [h] <;> rfl
  | d :: ds, vs, h => by
    simp only [RVs] at h
    obtain ⟨v, us, rfl, _, r⟩ := h
    rw [List.length_cons, List.length_cons, RVs.len r]
theorem ret_ok {G : Gl} {E : XK} {ρ : List Addr} {H : Hp} {Q : VK} : ∀ {r : SRes}, OutR G RV (fun cls d _ H => E cls d H) [] ρ H Q r.ret → OutS G (fun cls d _ H => E cls d H) ρ H { nx := fun _ H' => Q .non H', rt := Q } r
  | .nx L A, h => fun ρ' H' σ' x s l => h ρ' H' .non x s (by simp only [RV])
  | .rt d A, h => h
  | .bk L A, h => (show False from h).elim
  | .ct L A, h => (show False from h).elim
  | .exc y L A, h => fun ρ' H' σ' c d x s l r => h ρ' H' c d x s r
  | .bad, h => h
/-- the names at the entry -/
theorem RL.start {ρ : List Addr} {H : Hp} {ds : List D} {vs : List V} {N : List Str} (r : RVs ρ H ds vs) : RL ρ H (ds.map some ++ List.replicate (N.length - ds.length) none) (L2.start N vs) := by
  have el := r.len
  refine ⟨by simp [L2.start, el], fun i d h => ?_⟩
  have hi : i < ds.length := by
    by_cases hi : i < ds.length
    · exact hi
    · rw [List.getElem?_append_right (by simpa using hi), List.getElem?_replicate] at h
      split at h <;> cases h
  rw [List.getElem?_append_left (by simpa using hi), List.getElem?_map] at h
  have hd : ds[i]? = some d := by
    cases e : ds[i]? with
    | none => rw [e] at h; cases h
    | some y => rw [e] at h; cases h; rfl
  obtain ⟨v, hv, rv⟩ := r.get hd
  refine ⟨v, ?_, rv⟩
  unfold L2.start
  rw [List.getElem?_append_left (by simpa using el ▸ hi), List.getElem?_map, hv]
  rfl
section
variable {T : Tab} {K : PySem.W.Frag} {mg : Str → Option Value} {base : Heap} {P : Program} {w : World}
theorem cls_at (f : Facts T K mg) {c : Nat} (hc : c < T.clss.length) : ∃ p, T.clss[c]? = some p ∧ p ∈ T.clss ∧ caT T K c = He.ga K p.1 := by
  refine ⟨T.clss[c], List.getElem?_eq_getElem hc, List.getElem_mem hc, ?_⟩
  unfold caT
  rw [List.getElem?_eq_getElem hc]
theorem cls_eq (f : Facts T K mg) {c c' : Nat} {p p' : Str × List Str} (h : T.clss[c]? = some p) (h' : T.clss[c']? = some p') : decide (c = c') = decide (p.1 = p'.1) := by
  obtain ⟨l, e⟩ := List.getElem?_eq_some_iff.mp h
  obtain ⟨l', e'⟩ := List.getElem?_eq_some_iff.mp h'
  refine decide_eq_decide.mpr ⟨fun q => ?_, fun q => ?_⟩
  · subst q
    rw [h] at h'
    cases h'
    rfl
  · have nd := List.pairwise_iff_getElem.mp f.nd
    have e1 : (T.clss.map (·.1))[c]'(by simpa using l) = p.1 := by simp [e]
    have e2 : (T.clss.map (·.1))[c']'(by simpa using l') = p'.1 := by simp [e']
    rcases Nat.lt_trichotomy c c' with z | z | z
    · exact (nd c c' (by simpa using l) (by simpa using l') z (by rw [e1, e2, q])).elim
    · exact z
    · exact (nd c' c (by simpa using l') (by simpa using l) z (by rw [e1, e2, q])).elim
theorem fns_ok {G : Gl} (f : Facts T K mg) (hG : G = ⟨w, T.clss.length, caT T K⟩) : ∀ (j i : Nat) (it : Item), T.items[i]? = some it → ∀ fd, FunD K it.name it.qual it.args it.body it.sc [] [] (He.fAd K it.at_) fd →
    FnG P w K mg base (L2.CX P w) (2 * j) (He.fAd K it.at_) fd (paramsOf it.args) (spOf G (fns T.prog j) i)
  | 0, i, it, hi, fd, F => ⟨fun vs H Q E ⟨ρ, A, ds, s, r, o⟩ => (show False from o).elim, fun _ _ _ _ _ ⟨ρ, A', ds, _, r, o⟩ => (show False from o).elim⟩
  | j + 1, i, it, hi, fd, F => by
    have ar := arrB_ok (f.good it (List.mem_of_getElem? hi))
    have hdef : T.prog.defs[i]? = some (T.def_ it) := by
      show (T.items.map T.def_)[i]? = _
      rw [List.getElem?_map, hi]
      rfl
    refine FnG.of_body (k := 2 * j + 1) F ar.sc (fun vs H Q E ⟨ρ, A, ds, s, r, o⟩ => ?_) (fun cdv A outer s H vs Q E hbare hr ⟨ρ, A0, ds, si, r, o⟩ => ?_)
    · simp only [fns, hdef] at o
      split at o
      · rename_i e
        rw [← r.len]
        exact e
      · exact (show False from o).elim
    · simp only [fns, hdef] at o
      split at o
      case isFalse => exact (show False from o).elim
      rename_i el
      let X : Cx := cxOf (L2.CX P w) P w K mg base (namesOf it.args it.sc it.body) it.qual it.sc (He.fAd K it.at_) cdv A outer s H E
      have so : ScOk (T.ctx it) X := ScOk.mk' ar.sc.nd ar.sc.kind rfl rfl fun x _ _ => .inl rfl
      have cal : ∀ k it', T.items[k]? = some it' → Cal G (fns T.prog j) (2 * j) X (He.fAd K it'.at_) k := fun k it' e => by
        obtain ⟨fd', F'⟩ := f.fd it' (List.mem_of_getElem? e)
        have ar' := arrB_ok (f.good it' (List.mem_of_getElem? e))
        have nd' : (paramsOf it'.args).Nodup := by
          rw [← ar'.sc.pre]
          exact ar'.sc.nd.sublist (List.take_sublist _ _)
        exact ⟨fd', paramsOf it'.args, F'.kp, F'.bindsN fun kV doc pm an cdv ct us hl => bind_plain ar'.po ar'.ko ar'.va ar'.kw rfl nd' hl, fns_ok f hG j k it' e fd' F'⟩
      have top : Top T.prog G (fns T.prog j) (T.ctx it) (2 * j) X := by
        refine ⟨fun c hc => ?_, fun c cl hc => ?_, fun c c' hc hc' => ?_, fun x c hc => ?_, by rw [hG]; rfl, rfl, hr, hbare, f.cons, f.blt, fun x k hk => ?_⟩
        · subst hG
          obtain ⟨p, _, hp, e⟩ := cls_at f hc
          show ClsF K (caT T K c)
          rw [e]
          exact (f.cls p hp).2.1
        · subst hG
          have hc : (T.clss.map fun p => T.cls_ p.1 p.2)[c]? = some cl := hc
          rw [List.getElem?_map] at hc
          cases e : T.clss[c]? with
          | none => rw [e] at hc; cases hc
          | some p =>
            rw [e] at hc
            cases hc
            have lc := (List.getElem?_eq_some_iff.mp e).1
            have ec : caT T K c = He.ga K p.1 := by unfold caT; rw [e]
            refine ⟨lc, ⟨fun m i hm => ?_, fun y hy => ?_⟩⟩
            · have hm := lookup_in hm
              obtain ⟨⟨it', i'⟩, h1, h2⟩ := List.mem_filterMap.mp (show (m, i) ∈ T.items.zipIdx.filterMap (fun q => if q.1.own = some p.1 && !isInit p.1 q.1 then some (q.1.name, q.2) else none) from hm)
              have h1 := List.mk_mem_zipIdx_iff_getElem?.mp h1
              dsimp only at h2
              split at h2
              · rename_i hh
                simp only [Bool.and_eq_true, decide_eq_true_eq] at hh
                cases h2
                refine ⟨_, ?_, cal _ _ h1⟩
                show Meth K (caT T K c) it'.name _
                rw [ec]
                exact f.meth it' (List.mem_of_getElem? h1) p.1 hh.1
              · cases h2
            · show NoAttr K (caT T K c) y
              rw [ec]
              exact (f.cls p (List.mem_of_getElem? e)).2.2 y (List.contains_iff_mem.mp hy)
        · subst hG
          obtain ⟨p, h1, hp, e1⟩ := cls_at f hc
          obtain ⟨q, h2, hq, e2⟩ := cls_at f hc'
          show IscF K (caT T K c) (caT T K c') _
          rw [e1, e2, cls_eq f h1 h2]
          exact f.isc p hp q hq
        · subst hG
          have hm := lookup_in hc
          obtain ⟨h1, h2⟩ := List.mem_filter.mp (show (x, c) ∈ ((T.clss.map (·.1)).zipIdx).filter (fun p => (T.items.findIdx? (isInit p.1)).isSome) from hm)
          have h1 := List.mk_mem_zipIdx_iff_getElem?.mp h1
          rw [List.getElem?_map] at h1
          cases e : T.clss[c]? with
          | none => rw [e] at h1; cases h1
          | some p =>
            rw [e] at h1
            cases h1
            have lc := (List.getElem?_eq_some_iff.mp e).1
            have ec : caT T K c = He.ga K p.1 := by unfold caT; rw [e]
            refine ⟨?_, lc, ?_⟩
            · show mg p.1 = some (.ref (caT T K c))
              rw [ec]
              exact (f.cls p (List.mem_of_getElem? e)).1
            · obtain ⟨i, hi⟩ := Option.isSome_iff_exists.mp h2
              obtain ⟨li, hb, _⟩ := List.findIdx?_eq_some_iff_getElem.mp hi
              have ei : T.items[i]? = some T.items[i] := List.getElem?_eq_getElem li
              refine ⟨i, He.fAd K T.items[i].at_, ?_, ?_, cal _ _ ei⟩
              · unfold initN
                have e2 : T.prog.cls[c]? = some (T.cls_ p.1 p.2) := by
                  show (T.clss.map fun p => T.cls_ p.1 p.2)[c]? = _
                  rw [List.getElem?_map, e]
                  rfl
                rw [e2]
                show some ((T.items.findIdx? (isInit p.1)).getD T.items.length) = some i
                rw [hi]
                rfl
              · show Mk K (caT T K c) _
                rw [ec]
                exact f.mkr _ (List.getElem_mem li) p.1 hb
        · have hk : ((T.defs.map (·.name)).zipIdx).lookup x = some k := hk
          have h2 := (lookup_zipIdx hk).2
          rw [Nat.sub_zero, List.getElem?_map] at h2
          cases e : T.defs[k]? with
          | none => rw [e] at h2; cases h2
          | some it' =>
            rw [e] at h2
            cases h2
            obtain ⟨ho, hm⟩ := f.top it' (List.mem_of_getElem? e)
            have e3 : T.items[k]? = some it' := by
              unfold Tab.items
              rw [List.getElem?_append_left (List.getElem?_eq_some_iff.mp e).1]
              exact e
            obtain ⟨fd', ps, c1, c2, c3⟩ := cal k it' e3
            have ea : He.fAd K it'.at_ = He.ga K it'.name := by
              unfold Item.at_
              rw [ho]
              rfl
            refine ⟨He.fAd K it'.at_, fd', ps, ?_, c1, c2, c3⟩
            rw [ea]
            exact hm
      have tk : Takes X (fun cls d _ H => E cls d H) := takes_of rfl rfl rfl rfl
      have hp : PassesOwn (model X.prog X.w) X.A X.env X.xe := passes_of rfl
      refine ⟨tS G (fun cls d _ H => E cls d H) (evSs T.prog (fns T.prog j) (T.def_ it).body), rss_list (P := T.prog) (stm_ok top so tk hp 60) it.body, ρ, A0, _, si, RL.start r, ?_⟩
      have e2 : (T.def_ it).n - (T.def_ it).nps = (namesOf it.args it.sc it.body).length - ds.length := by
        rw [el]
        rfl
      rw [e2] at o
      exact ret_ok o
end
end Kin
end
section
set_option linter.all false
set_option maxRecDepth 100000
/-! Kin 25: the head, and a law by the evaluator. -/
namespace Kin
open PySem PySem.Spec PyProof.Rows L2
def faC (T : Tab) : List He.Fa := T.clss.flatMap (fun p => He.Fa.glo p.1 :: He.Fa.cls p.1 :: p.2.map (He.Fa.noat p.1))
def faM (T : Tab) : List He.Fa := T.items.flatMap fun it => match it.own with
  | some c => He.Fa.meth c it.name :: (if isInit c it then [He.Fa.mkr c] else [])
  | none => []
def faT (T : Tab) : List He.Fa :=
  T.defs.map (fun it => He.Fa.glo it.name) ++ (allBlts.map He.Fa.free ++ (T.cons.flatMap (fun p => match p.2 with
    | .int i => [He.Fa.int p.1 i]
    | .str z => [He.Fa.str p.1 z]
    | _ => []) ++ (faC T ++ faM T)))
def fnT (T : Tab) : List He.DefD := T.items.map fun it => ⟨it.at_, it.name, it.qual, it.args, it.body, it.sc, [], []⟩
def allTys : List Ty := [.int, .bool, .str, .tuple, .list, .dict]
def baseTys : List String := ["NoneType", "bool", "int", "str", "tuple", "list", "dict"]
/-- what else is wanted of a class -/
def exC (T : Tab) (K : PySem.W.Frag) (p : Str × List Str) : Bool :=
  (He.eqO (PySem.W.findIn K (.ref (He.ga K p.1)) "__class__") (some (some (.builtin "object.__class__"))) &&
  He.eqO (PySem.W.specialIn K (.builtin "object.__class__") "__get__") (some (some (.builtin "getset_descriptor.__get__")))) &&
  ((decide (PySem.W.takesIn K (.builtin "object.__class__") = some true) && decide (PySem.W.mroIn K (He.ga K p.1) (.type "object") = some true)) &&
  (allTys.all (fun t => decide (PySem.W.kitOne K (.ref (He.ga K p.1)) (.type (tyS t)) = some false)) &&
  (T.clss.all (fun q => decide (PySem.W.kitOne K (.ref (He.ga K p.1)) (.ref (He.ga K q.1)) = some (decide (p.1 = q.1)))) &&
  baseTys.all (fun n => decide (PySem.W.kitOne K (.type n) (.ref (He.ga K p.1)) = some false)))))
def exB (T : Tab) (K : PySem.W.Frag) : Bool := T.clss.all (exC T K)
/-- lists are not looked at -/
def noL (g : Addr → Option Obj) (a : Addr) : Option Obj := match g a with
  | some o => (match o.cls with
    | .type c => if c = "list" then none else some o
    | _ => some o)
  | none => none
def NoL (K : PySem.W.Frag) : Prop := ∀ a o, K.lookup a = some o → o.cls ≠ .type "list"
theorem noL_at {g : Addr → Option Obj} {a : Addr} {o : Obj} (h : noL g a = some o) : g a = some o ∧ o.cls ≠ .type "list" := by
  unfold noL at h
  cases e : g a with
  | none => rw [e] at h; cases h
  | some u =>
    rw [e] at h
    dsimp only at h
    split at h
    · rename_i c hc
      split at h
      · cases h
      · rename_i n
        cases h
        exact ⟨rfl, fun z => n (by rw [hc] at z; injection z)⟩
    · rename_i n
      cases h
      exact ⟨rfl, fun z => n "list" z⟩
def obK (n : Nat) (T : Tab) (g : Addr → Option Obj) : He.AlD := ((He.obsDG n (faT T) (fnT T) (noL g)).1 && exB T (He.frG (noL g) (He.asD (noL g) n)), (He.obsDG n (faT T) (fnT T) (noL g)).2)
theorem pair_of {α : Type} {a b : Bool} {x y : α} (h : (a && b, x) = (true, y)) : (a, x) = (true, y) ∧ b = true := by
  have h1 : (a && b) = true := congrArg (·.1) h
  have h2 : x = y := congrArg (·.2) h
  obtain ⟨ha, hb⟩ := Bool.and_eq_true_iff.mp h1
  exact ⟨by rw [ha, h2], hb⟩
def hookK (n : Nat) (T : Tab) : PySem.W.Hook where
  α := He.AlD
  obs := fun s => obK n T s.heap.get?
  val := fun _ => He.valD (fnT T)
  says := fun _ h => ∃ K : PySem.W.Frag, K.In h ∧ He.SaysD (faT T) (fnT T) K ∧ exB T K = true ∧ NoL K
  of := fun _ _ e => ⟨_, fun _ _ q => (noL_at (He.frG_at _ q)).1, (pair_of e).1, (pair_of e).2, fun _ _ q => (noL_at (He.frG_at _ q)).2⟩
  keeps := fun _ _ _ ⟨K, hK, c, n⟩ k => ⟨K, PySem.W.Frag.In.keeps hK k, c, n⟩
theorem obK_eq {n : Nat} {T : Tab} {g : Addr → Option Obj} {s : Shared} (h : ∀ a, g a = s.heap.get? a) : obK n T g = (hookK n T).obs s := by
  rw [show g = s.heap.get? from funext h] <;> rfl
theorem cons_num {top : List Stmt} {x : Str} {d : D} (h : (x, d) ∈ (tabOf top).cons) : (∃ i, d = .int i) ∨ ∃ z, d = .str z := by
  obtain ⟨st, _, hm⟩ := List.mem_flatMap.mp (show (x, d) ∈ top.flatMap consOf from h)
  unfold consOf at hm
  split at hm
  · split at hm
    · cases hm
    · obtain ⟨y, hy, e⟩ := List.mem_map.mp hm
      cases e
      rename_i c _ _ _ _ _
      cases c with
      | int i => simp only [numD, Option.toList_some, List.mem_singleton] at hy; exact .inl ⟨_, hy⟩
      | str z => simp only [numD, Option.toList_some, List.mem_singleton] at hy; exact .inr ⟨_, hy⟩
      | _ => simp [numD] at hy
  · cases hm
theorem says_fa {fa : List He.Fa} {fn : List He.DefD} {K : PySem.W.Frag} (c : He.SaysD fa fn K) {f : He.Fa} (h : f ∈ fa) : f.ok K = true := by
  obtain ⟨i, hi⟩ := List.mem_iff_getElem?.mp h
  exact c.fact i hi
theorem item_ok {own : Option Str} {st : Stmt} {it : Item} (e : itemOf own st = some it) : it.own = own ∧ arrB it.args it.sc it.body = true := by
  unfold itemOf at e
  split at e
  · split at e
    · rename_i ok
      cases e
      exact ⟨rfl, ok⟩
    · cases e
  · cases e
theorem facts_of {top : List Stmt} {K : PySem.W.Frag} {mg : Str → Option Value} {h : Heap} (X : K.In h) (g : h.Ns mainGlobals mg) (c : He.SaysD (faT (tabOf top)) (fnT (tabOf top)) K) (ex : exB (tabOf top) K = true) : Facts (tabOf top) K mg := by
  have inD : ∀ f, f ∈ (tabOf top).defs.map (fun it => He.Fa.glo it.name) → f.ok K = true := fun f hf => says_fa c (List.mem_append_left _ hf)
  have inC : ∀ f, f ∈ faC (tabOf top) → f.ok K = true := fun f hf => says_fa c (List.mem_append_right _ (List.mem_append_right _ (List.mem_append_right _ (List.mem_append_left _ hf))))
  have inM : ∀ f, f ∈ faM (tabOf top) → f.ok K = true := fun f hf => says_fa c (List.mem_append_right _ (List.mem_append_right _ (List.mem_append_right _ (List.mem_append_right _ hf))))
  have meths : ∀ it ∈ (tabOf top).meths, ∃ own st, itemOf own st = some it := by
    intro it hit
    obtain ⟨p, hp, hm⟩ := List.mem_flatMap.mp (show it ∈ (top.filterMap clsD).flatMap (·.2.1) from hit)
    obtain ⟨st, _, e⟩ := List.mem_filterMap.mp hp
    unfold clsD at e
    split at e
    · cases e
      obtain ⟨st', _, e'⟩ := List.mem_filterMap.mp hm
      exact ⟨_, _, e'⟩
    · cases e
  have items : ∀ it ∈ (tabOf top).items, ∃ own st, itemOf own st = some it := by
    intro it hit
    rcases List.mem_append.mp hit with hit | hit
    · obtain ⟨st, _, e⟩ := List.mem_filterMap.mp (show it ∈ top.filterMap (itemOf none) from hit)
      exact ⟨_, _, e⟩
    · exact meths it hit
  have exc : ∀ p ∈ (tabOf top).clss, exC (tabOf top) K p = true := fun p hp => List.all_eq_true.mp ex p hp
  refine ⟨fun it hit => ?_, fun it hit => ⟨?_, ?_⟩, fun it hit => ?_, fun x d hx => ?_, fun x hx => ?_, ?_, fun p hp => ⟨?_, ?_, fun f hf => ?_⟩, fun p hp q hq => ?_, fun it hit cn ho => ?_, fun it hit cn hi => ?_⟩
  · obtain ⟨own, st, e⟩ := items it hit
    exact (item_ok e).2
  · obtain ⟨st, _, e⟩ := List.mem_filterMap.mp (show it ∈ top.filterMap (itemOf none) from hit)
    exact (item_ok e).1
  · exact He.glo_ok X g (inD _ (List.mem_map_of_mem hit))
  · obtain ⟨i, hi⟩ := List.mem_iff_getElem?.mp hit
    have hf : (fnT (tabOf top))[i]? = some ⟨it.at_, it.name, it.qual, it.args, it.body, it.sc, [], []⟩ := by
      unfold fnT
      rw [List.getElem?_map, hi]
      rfl
    exact c.def_ i hf
  · have hm := lookup_in hx
    have up : ∀ f : He.Fa, f ∈ (match d with
      | .int i => [He.Fa.int x i]
      | .str z => [He.Fa.str x z]
      | _ => []) → f.ok K = true := fun f hf => says_fa c (List.mem_append_right _ (List.mem_append_right _ (List.mem_append_left _ (List.mem_flatMap.mpr ⟨(x, d), hm, hf⟩))))
    rcases cons_num hm with ⟨i, rfl⟩ | ⟨z, rfl⟩
    · obtain ⟨t, ht⟩ := He.int_ok X g (up _ List.mem_cons_self)
      exact ⟨.int i, _, ht, ⟨t, rfl⟩, fun ρ H => by simp only [RV]⟩
    · obtain ⟨t, ht⟩ := He.str_ok X g (up _ List.mem_cons_self)
      exact ⟨.str z, _, ht, ⟨t, rfl⟩, fun ρ H => by simp only [RV]⟩
  · exact He.free_ok X g (says_fa c (List.mem_append_right _ (List.mem_append_left _ (List.mem_map_of_mem (List.contains_iff_mem.mp hx)))))
  · show ((if ((clsL top).map (·.1)).Nodup then clsL top else []).map (·.1)).Nodup
    split
    · assumption
    · simp
  · exact He.glo_ok X g (inC _ (List.mem_flatMap.mpr ⟨p, hp, List.mem_cons_self⟩))
  · have hcl := He.cls_ok (inC (He.Fa.cls p.1) (List.mem_flatMap.mpr ⟨p, hp, List.mem_cons_of_mem _ List.mem_cons_self⟩))
    have e := exc p hp
    unfold exC at e
    simp only [Bool.and_eq_true, decide_eq_true_eq, List.all_eq_true] at e
    obtain ⟨⟨e1, e2⟩, ⟨e3, e4⟩, e5, e6, e7⟩ := e
    exact ⟨hcl, He.eqO_ok e1, He.eqO_ok e2, e3, e4, fun T => e5 T (by cases T <;> simp [allTys])⟩
  · exact He.noat_ok (inC (He.Fa.noat p.1 f) (List.mem_flatMap.mpr ⟨p, hp, List.mem_cons_of_mem _ (List.mem_cons_of_mem _ (List.mem_map_of_mem hf))⟩))
  · have e := exc p hp
    have e' := exc q hq
    unfold exC at e e'
    simp only [Bool.and_eq_true, decide_eq_true_eq, List.all_eq_true] at e e'
    obtain ⟨⟨e1, e2⟩, ⟨e3, e4⟩, e5, e6, e7⟩ := e
    obtain ⟨_, _, _, _, e8⟩ := e'
    exact ⟨e6 q hq, fun n hn => e8 n hn⟩
  · have ea : He.fAd K it.at_ = He.ma K (He.ga K cn) it.name := by
      unfold Item.at_
      rw [ho]
      rfl
    rw [ea]
    refine He.meth_ok (inM (He.Fa.meth cn it.name) (List.mem_flatMap.mpr ⟨it, hit, ?_⟩))
    rw [ho]
    exact List.mem_cons_self
  · have hi2 := hi
    unfold isInit at hi
    simp only [Bool.and_eq_true, decide_eq_true_eq] at hi
    obtain ⟨ho, hn⟩ := hi
    have ea : He.fAd K it.at_ = He.ma K (He.ga K cn) "__init__" := by
      unfold Item.at_
      rw [ho]
      show He.ma K (He.ga K cn) it.name = _
      rw [hn]
    rw [ea]
    refine He.mkr_ok (inM (He.Fa.mkr cn) (List.mem_flatMap.mpr ⟨it, hit, ?_⟩))
    rw [ho]
    dsimp only
    rw [if_pos hi2]
    exact List.mem_cons_of_mem _ List.mem_cons_self
theorem sim_one {H : Hp} {a : Addr} {o : Obj} {ns : List Int} (h : H a = some (.frz o (.lst (ns.map V.int)))) : Sim G [a] [.frz (ns.map D.int)] H := by
  refine ⟨rfl, by simp, fun n b u e1 e2 => ?_⟩
  cases n with
  | succ n => cases e1
  | zero =>
    cases e1
    cases e2
    refine ⟨o, _, h, ?_⟩
    clear h
    induction ns with
    | nil => simp [RVs]
    | cons n ns ih =>
      simp only [List.map_cons, RVs, RV]
      exact ⟨_, _, rfl, rfl, ih⟩
theorem kin_walk {dep : Nat} {l : PySem.W.OpenLaw} {q : Program} {loose : List Str} {d : PySem.DefRec} {it : Item} {li : Nat} {top : List Stmt} (hn : l.most = some 63) (hdf : d.params.defaults = []) (hdn : d.name = it.name)
    (hit : (tabOf top).defs[li]? = some it) (hps : paramsOf it.args = [("script" : Str)])
    (go : ∀ ns : List Int, ns.length ≤ 63 → isTrue ((fns (tabOf top).prog 60).call li [.ref 0] [.frz (ns.map D.int)]) = true) :
    PySem.W.WalkO q loose (PySem.W.XL q []) (hookK dep (tabOf top)).says l.row.toRowW d [] (fun f vs => PySem.call f vs) := by
  refine Att.attach_call hn hdf fun w s₀ s₁ mg mb fa o pm cd doc a vs ns gr Y ho hd hcd hmg hobj hints hlen hg => ?_
  obtain ⟨K, KX, c, ex, nl⟩ := Y
  have F := facts_of KX gr.T.g c ex
  have hit2 : (tabOf top).items[li]? = some it := by
    unfold Tab.items
    rw [List.getElem?_append_left (List.getElem?_eq_some_iff.mp hit).1]
    exact hit
  obtain ⟨ho, hm⟩ := F.top it (List.mem_of_getElem? hit)
  obtain ⟨fd, fD⟩ := F.fd it (List.mem_of_getElem? hit2)
  have ar := arrB_ok (F.good it (List.mem_of_getElem? hit2))
  have ea : He.fAd K it.at_ = He.ga K it.name := by
    unfold Item.at_
    rw [ho]
    rfl
  rw [← ea] at hm
  rw [hdn, hm] at hmg
  cases hmg
  have nd : (paramsOf it.args).Nodup := by rw [hps]; simp
  have ok := fun base => fns_ok (P := l.prog) (w := w) (base := base) (G := ⟨w, (tabOf top).clss.length, caT (tabOf top) K⟩) F rfl 60 li it hit2 fd fD
  rw [hps] at ok
  have na : K.lookup a = none := by
    cases e : K.lookup a with
    | none => rfl
    | some o =>
      have e2 := KX a o e
      rw [hobj] at e2
      cases e2
      exact (nl a _ e rfl).elim
  refine law_start (k := 2 * 60) (x := "script") (CX := L2.CX l.prog w) KX gr.T.g gr.T.b gr.T.builtins gr.T.nolimit hg hobj hints (Nat.le_trans hlen (by decide)) ⟨rfl, by decide, by decide⟩ na (fun base _ _ => ok base)
    (fun s u => ?_) (fun H ob hf => ?_) (fun H e s' ⟨_, _, _, _, _, _, _, _, _, _, _, _, z⟩ => z)
  · have b := fD.bindsA (ps := paramsOf it.args) (fun kV doc pm an cdv ct us hl => bind_plain ar.po ar.ko ar.va ar.kw rfl nd hl) s [u] (by rw [hps]; rfl)
    rw [hps] at b
    exact b
  · have g := go ns hlen
    cases e : (fns (tabOf top).prog 60).call li [.ref 0] [.frz (ns.map D.int)] with
    | exc y A => rw [e] at g; cases g
    | bad => rw [e] at g; cases g
    | ok dd A =>
      rw [e] at g
      refine ⟨[a], _, [.ref 0], sim_one hf, ?_, ?_⟩
      · simp [RVs, RV]
      · rw [e]
        intro ρ' H' v _ _ r
        cases dd with
        | bl b =>
          have : b = true := g
          subst this
          simpa only [RV] using r
        | _ => cases g
end Kin
end
section
set_option linter.all false
set_option maxRecDepth 100000
set_option maxHeartbeats 0
open PySem PySem.Spec PyProof.Rows L2
namespace Kin
abbrev lawR : PySem.W.OpenLaw := PySem.Challenge.rw_levelkin_k69_whole_web_texts_there_and_b
abbrev lawP : Program := PySem.Challenge.pw_levelkin_k69_whole_web_texts_there_and_b
def topK : List Stmt := lawP.main.body
def bindN : Stmt → List Str
  | .FunctionDef n _ _ _ _ _ _ _ _ _ => [n]
  | .ClassDef n _ _ _ _ _ _ _ _ _ _ => [n]
  | .Assign [.Name x _] _ _ => [x]
  | _ => []
def looseK : List Str := ((topK.eraseIdx 35).flatMap bindN).eraseDups
def TK : Tab := tabOf topK
abbrev hk : PySem.W.Hook := hookK 4 TK
def ob (s : PySem.W.SharedT) : He.AlD := obK 4 TK (HandSHeadRun.getT s)
theorem ob_eq (s : PySem.W.SharedT) : ob s = hk.obs s.abs := obK_eq (HandSHeadRun.getT_eq s)
theorem head_run (w : World) : HandSHeadRun.RunEq (PySem.W.OpenLaw.row lawR) (PySem.W.view lawP [35]) hk ob 4000 looseK w := by
  intro os
  kernel_rfl
theorem holds_of (go : ∀ ns : List Int, ns.length ≤ 63 → isTrue ((fns TK.prog 60).call 19 [.ref 0] [.frz (ns.map D.int)]) = true) : lawR.Holds := by
  w_on; o_law
  refine HandSHeadRun.head_any (r := PySem.W.OpenLaw.row lawR) (q := PySem.W.view (PySem.W.OpenLaw.row lawR).prog [35]) (H := hk) (ob := ob) (M := 4000) (loose := looseK) (d := HandSHeadRun.topDef (PySem.W.OpenLaw.row lawR).prog 35) (kwd := []) ob_eq
    (by kernel_rfl) (fun s => by kernel_rfl) head_run (by kernel_rfl) (by kernel_rfl) (by kernel_rfl) (by rfl) (by first | assumption | decide +kernel) (by decide +kernel) ⟨rfl, rfl, rfl, rfl, rfl, by decide +kernel⟩ ?hw ?hc
  case hw => w_witness2
  case hc =>
    exact kin_walk (dep := 4) (l := lawR) (top := topK) (li := 19) (it := (TK.defs[19]?).getD default) rfl (by kernel_rfl) (by kernel_rfl) (by kernel_rfl) (by kernel_rfl) go
theorem def_of {P : CProg} {f nps n : Nat} {body : List CS} (h : (P.defs[f]?).map (fun d => (d.nps, d.n, d.body)) = some (nps, n, body)) : Def P f nps n body := by
  cases e : P.defs[f]? with
  | none => rw [e] at h; cases h
  | some d =>
    rw [e] at h
    cases d
    simp only [Option.map_some, Option.some.injEq, Prod.mk.injEq] at h
    obtain ⟨rfl, rfl, rfl⟩ := h
    exact ⟨_, e⟩
theorem is69 : Is69 TK.prog := by
  constructor
  all_goals first
    | exact def_of (by kernel_rfl)
    | kernel_rfl
end Kin
end
section
set_option linter.all false
set_option maxRecDepth 100000
namespace Kin
open PySem
theorem runs (ns : List Int) (h : ns.length ≤ 63) : isTrue ((fns TK.prog 60).call 19 [.ref 0] [.frz (ns.map D.int)]) = true := by
  obtain ⟨d, A, e, hd⟩ := (law19 (k := 51) is69 h).ok
  subst hd
  rw [show (60 : Nat) = 51 + 9 from rfl, e]
  rfl
end Kin
theorem PySem.Challenge.cw_levelkin_k69_whole_web_texts_there_and_b_holds : PySem.Challenge.rw_levelkin_k69_whole_web_texts_there_and_b.Holds := by
  exact Kin.holds_of Kin.runs
end
