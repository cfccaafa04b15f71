import PyProof.Rows.All
import Wide.All
import OpenK.AllK
import Wide.FinOn
import HandS.ForMost
import HandS.IsInst
import HandS.Zip
import HandS.Star
import KE.KStar
import HandS.Wide
import HandS.WideBits
import HandS.Property
import HandS.Style
import HandS.SlotsOwn
import HandS.More
import HandS.Sort
import HandS.TupMul
import HandS.TupAny
import HandS.TryOnly
import HandS.FStr
import HandS.MakeKwOnly
import PyProof.StrOps2
import HandS.Lambda
import HandS.ExcOwn
import HandS.TryMany
import HandS.ForExc
import HandS.ExcInit
import HandS.ExcField
import HandS.ExcIs
import PyProof.Rows.RegStrFacts
import PyProof.Rows.ReprOcc
import HandS.CallRecv
import KE.KOpsOwn
import HandS.EndTab
import KE.KMathG
import HandS.Dict
import HandS.Text
import HandS.StrMore
import HandS.TupLe
import HandS.DictTup
import KE.KDictKeyed
import KE.KDictCopyH
import KE.SortData
import KE.SortLaws
import KE.SortKeyHeap
import HandS.SortKw
import HandS.Deep
import HandS.OwnEq
import PyProof.NeKinds
import HandS.Iter
import HandS.TupLen
import HandS.Base
import HandS.Conv
import KE.KDictSum
import HandS.TupSets
import PySem.Challenge.RW_keptbowls_k81_whole_rounds_and_stayers
set_option Elab.async false
set_option linter.all false
set_option maxRecDepth 100000
set_option maxHeartbeats 1000000
namespace Zn
open PySem PySem.Spec PyProof.Rows L2
open PySem.Sem (wp)
/-- a sequence to be walked: a tuple or a list, where, its items -/
abbrev Src := Bool × Addr × Array Value
def ItK (t : Bool) (h : Heap) (i l : Addr) (k : Nat) : Prop := cond t (h.IsTupleIter i l k) (h.IsListIter i l k)
def SqK (t : Bool) (h : Heap) (l : Addr) (xs : Array Value) : Prop := cond t (h.IsTuple l xs) (h.IsList l xs)
abbrev TupAt (h : Heap) (T : Addr) (xs : List Value) : Prop := h.get? T = some { cls := .type "tuple", data := .seq xs.toArray }
theorem ItK.at {t : Bool} {h h' : Heap} {i l : Addr} {k : Nat} (x : ItK t h i l k) (e : ∀ o, h.get? i = some o → h'.get? i = some o) : ItK t h' i l k := by
  cases t with
  | true => exact Heap.IsTupleIter.at x e
  | false => exact Heap.IsListIter.at x e
theorem SqK.at {t : Bool} {h h' : Heap} {l : Addr} {xs : Array Value} (x : SqK t h l xs) (e : ∀ o, h.get? l = some o → h'.get? l = some o) : SqK t h' l xs := by
  cases t with
  | true => obtain ⟨o, ho, r⟩ := x; exact ⟨o, e _ ho, r⟩
  | false => obtain ⟨o, ho, r⟩ := x; exact ⟨o, e _ ho, r⟩
theorem ItK.lt {t : Bool} {h : Heap} {i l : Addr} {k : Nat} (x : ItK t h i l k) : i < h.objs.size := by
  cases t with
  | true => obtain ⟨o, ho, _⟩ := x; exact Heap.lt_size ho
  | false => obtain ⟨o, ho, _⟩ := x; exact Heap.lt_size ho
theorem SqK.lt {t : Bool} {h : Heap} {l : Addr} {xs : Array Value} (x : SqK t h l xs) : l < h.objs.size := by
  cases t with
  | true => obtain ⟨o, ho, _⟩ := x; exact Heap.lt_size ho
  | false => obtain ⟨o, ho, _⟩ := x; exact Heap.lt_size ho
theorem ItK.rec_ {t : Bool} {h : Heap} {i l : Addr} {k : Nat} (x : ItK t h i l k) : ∃ o, h.get? i = some o ∧ (o.cls = .type "tuple_iterator" ∨ o.cls = .type "list_iterator") ∧ o.data = .fields #[.ref l, .int k 0] := by
  cases t with
  | true => obtain ⟨o, ho, hc, hd⟩ := x; exact ⟨o, ho, .inl hc, hd⟩
  | false => obtain ⟨o, ho, hc, hd⟩ := x; exact ⟨o, ho, .inr hc, hd⟩
section
variable {prog : Program} {w : World} {A : Around} {E : Value → Shared → Prop} {s : Shared}
theorem nextOf_item {t : Bool} {i l : Addr} {k : Nat} {xs : Array Value} {x : Value} {Q : Value → Shared → Prop} (hi : ItK t s.heap i l k) (hl : SqK t s.heap l xs) (hx : xs[k]? = some x)
    (hQ : ∀ h', ItK t h' i l (k + 1) → Heap.SameBut i s.heap h' → Q x { s with heap := h' }) : wpAny (model prog w) A (Builtin.SmallTypes.nextOf (.ref i)) Q E s := by
  cases t with
  | true => exact RZ.nextOf_tuple_item hi hl hx hQ
  | false => exact wpAny_nextOf_list_item hi hl hx hQ
theorem nextOf_end {t : Bool} {i l : Addr} {k : Nat} {xs : Array Value} {Q : Value → Shared → Prop} (hh : A.handled = none) (hi : ItK t s.heap i l k) (hl : SqK t s.heap l xs) (hx : xs[k]? = none)
    (hE : ∀ h' e, Heap.ExtBut i s.heap h' → (∃ o, h'.get? e = some o ∧ o.cls = .type "StopIteration") → E (.ref e) { s with heap := h' }) : wpAny (model prog w) A (Builtin.SmallTypes.nextOf (.ref i)) Q E s := by
  cases t with
  | true => exact RZ.nextOf_tuple_end hh hi hl hx hE
  | false => exact wpAny_nextOf_list_end hh hi hl hx hE
theorem pyIter_K {t : Bool} {l : Addr} {xs : Array Value} {Q : Value → Shared → Prop} (hl : SqK t s.heap l xs)
    (hQ : ∀ h', ItK t h' s.heap.objs.size l 0 → h'.objs.size = s.heap.objs.size + 1 → (∀ c o, s.heap.get? c = some o → h'.get? c = some o) → Q (.ref s.heap.objs.size) { s with heap := h' }) :
    wpAny (model prog w) A (pyIter (.ref l)) Q E s := by
  cases t with
  | true => exact wpAny_pyIter_tuple hl (hQ _ ⟨_, Heap.get?_push_size _ rfl, rfl, rfl⟩ (Heap.size_push ..) fun c o e => Heap.get?_push_of_some _ e)
  | false => exact wpAny_pyIter_list hl (hQ _ ⟨_, Heap.get?_push_size _ rfl, rfl, rfl⟩ (Heap.size_push ..) fun c o e => Heap.get?_push_of_some _ e)
/-- the iterators at the k-th turn of their sequences -/
def AllAt (h : Heap) (k : Nat) : List Addr → List Src → Prop
  | [], [] => True
  | i :: is, (t, l, xs) :: r => ItK t h i l k ∧ SqK t h l xs ∧ AllAt h k is r
  | _, _ => False
theorem AllAt.at {h h' : Heap} {k : Nat} : ∀ {is : List Addr} {r : List Src}, AllAt h k is r → (∀ i ∈ is, ∀ o, h.get? i = some o → h'.get? i = some o) → (∀ q ∈ r, ∀ o, h.get? q.2.1 = some o → h'.get? q.2.1 = some o) → AllAt h' k is r
  | [], [], _, _, _ => trivial
  | i :: is, (t, l, xs) :: r, x, e1, e2 => ⟨x.1.at (e1 i List.mem_cons_self), x.2.1.at (e2 _ List.mem_cons_self), AllAt.at x.2.2 (fun j hj => e1 j (List.mem_cons_of_mem _ hj)) fun q hq => e2 q (List.mem_cons_of_mem _ hq)⟩
theorem AllAt.len {h : Heap} {k : Nat} : ∀ {is : List Addr} {r : List Src}, AllAt h k is r → is.length = r.length
  | [], [], _ => rfl
  | _ :: _, _ :: _, x => by rw [List.length_cons, List.length_cons, AllAt.len x.2.2]
theorem AllAt.lt {h : Heap} {k : Nat} : ∀ {is : List Addr} {r : List Src}, AllAt h k is r → ∀ i ∈ is, i < h.objs.size
  | i :: is, (t, l, xs) :: r, x, j, hj => by
    rcases List.mem_cons.mp hj with rfl | hj
    · exact x.1.lt
    · exact AllAt.lt x.2.2 j hj
theorem AllAt.ob {h : Heap} {k : Nat} : ∀ {is : List Addr} {r : List Src}, AllAt h k is r → ∀ i ∈ is, ∃ o l, h.get? i = some o ∧ o.data = .fields #[.ref l, .int k 0]
  | i :: is, (t, l, xs) :: r, x, j, hj => by
    rcases List.mem_cons.mp hj with rfl | hj
    · obtain ⟨o, ho, _, hd⟩ := x.1.rec_
      exact ⟨o, l, ho, hd⟩
    · exact AllAt.ob x.2.2 j hj
/-- the items at the k-th turn -/
def Items (k : Nat) : List Src → List Value → Prop
  | [], [] => True
  | (_, _, xs) :: r, y :: ys => xs[k]? = some y ∧ Items k r ys
  | _, _ => False
theorem Items.len {k : Nat} : ∀ {r : List Src} {ys : List Value}, Items k r ys → r.length = ys.length
  | [], [], _ => rfl
  | _ :: _, _ :: _, x => by rw [List.length_cons, List.length_cons, Items.len x.2]
/-- what a draw asks of the loop's body, and gives -/
def DrawOk (M : Model) (A : Around) {β : Type} (f : Value × Nat → β → Sem (ForInStep β)) (b0 : β) (TO : Addr) : Prop :=
  ∀ (s : Shared) (i l : Addr) (t : Bool) (k : Nat) (xs : Array Value) (x old : Value) (pre post : List Value) (Q : ForInStep β → Shared → Prop) (E : Value → Shared → Prop), ItK t s.heap i l k → SqK t s.heap l xs → xs[k]? = some x → i ≠ TO → l ≠ TO → l ≠ i →
    (pre ++ old :: post).length ≤ 1000 → TupAt s.heap TO (pre ++ old :: post) →
    (∀ h', ItK t h' i l (k + 1) → TupAt h' TO (pre ++ x :: post) → h'.objs.size = s.heap.objs.size → (∀ c o, c ≠ TO → c ≠ i → s.heap.get? c = some o → h'.get? c = some o) → Q (.yield b0) { s with heap := h' }) →
    wpAny M A (f (.ref i, pre.length) b0) Q E s
theorem draw_all {β : Type} {M : Model} {f : Value × Nat → β → Sem (ForInStep β)} {b0 : β} {TO : Addr} {Q : β → Shared → Prop} (hf : DrawOk M A f b0 TO) (k : Nat) (is : List Addr) :
    ∀ (r : List Src) (ys olds pre : List Value) (s : Shared), AllAt s.heap k is r → Items k r ys → ys.length = olds.length → (pre ++ olds).length ≤ 1000 → is.Nodup → TO ∉ is → (∀ q ∈ r, q.2.1 ≠ TO ∧ q.2.1 ∉ is) → TupAt s.heap TO (pre ++ olds) →
      (∀ h', AllAt h' (k + 1) is r → TupAt h' TO (pre ++ ys) → h'.objs.size = s.heap.objs.size → (∀ c o, c ≠ TO → c ∉ is → s.heap.get? c = some o → h'.get? c = some o) → Q b0 { s with heap := h' }) →
      wpAny M A (forIn ((is.map Value.ref).zipIdx pre.length) b0 f) Q E s := by
  induction is with
  | nil =>
    intro r ys olds pre s ha hy hl _ _ _ _ hT hQ
    cases r with
    | cons _ _ => exact ha.elim
    | nil =>
      cases ys with
      | cons _ _ => exact hy.elim
      | nil =>
        have e : olds = [] := List.length_eq_zero_iff.mp hl.symm
        subst e
        rw [List.map_nil, List.zipIdx_nil, List.forIn_nil]
        exact wpAny_pure (hQ s.heap trivial hT rfl fun _ _ _ _ e => e)
  | cons i is ih =>
    intro r ys olds pre s ha hy hl hbd hn hTO hs hT hQ
    cases r with
    | nil => exact ha.elim
    | cons q r =>
      obtain ⟨t, l, xs⟩ := q
      cases ys with
      | nil => exact hy.elim
      | cons y ys =>
        cases olds with
        | nil => cases hl
        | cons o olds =>
          have ha1 : ItK t s.heap i l k := ha.1
          have ha2 : SqK t s.heap l xs := ha.2.1
          have ha3 : AllAt s.heap k is r := ha.2.2
          have hy1 : xs[k]? = some y := hy.1
          have hy2 : Items k r ys := hy.2
          rw [List.map_cons, List.zipIdx_cons, List.forIn_cons]
          have hni : i ∉ is := (List.nodup_cons.mp hn).1
          have hiT : i ≠ TO := fun e => hTO (e ▸ List.mem_cons_self)
          have hq := hs _ List.mem_cons_self
          have hq1 : l ≠ TO := hq.1
          have hq2 : l ∉ i :: is := hq.2
          refine wpAny_bind (hf s i l t k xs y o pre olds _ E ha1 ha2 hy1 hiT hq1 (fun e => hq2 (e ▸ List.mem_cons_self)) hbd hT fun h1 hi1 hT1 hz1 hk1 => ?_)
          have e1 : pre.length + 1 = (pre ++ [y]).length := by simp
          have hT1' : TupAt h1 TO ((pre ++ [y]) ++ olds) := by
            rw [List.append_assoc]
            exact hT1
          have goal := ih r ys olds (pre ++ [y]) { s with heap := h1 } (ha3.at (fun j hj o e => hk1 j o (fun q => hTO (q ▸ List.mem_cons_of_mem _ hj)) (fun q => hni (q ▸ hj)) e)
            fun q hqm o e => hk1 _ o (hs q (List.mem_cons_of_mem _ hqm)).1 (fun z => (hs q (List.mem_cons_of_mem _ hqm)).2 (z ▸ List.mem_cons_self)) e) hy2 (Nat.succ.inj hl) (by simpa using hbd) (List.nodup_cons.mp hn).2 (fun z => hTO (List.mem_cons_of_mem _ z))
            (fun q hqm => ⟨(hs q (List.mem_cons_of_mem _ hqm)).1, fun z => (hs q (List.mem_cons_of_mem _ hqm)).2 (List.mem_cons_of_mem _ z)⟩) hT1' fun h2 ha2' hT2 hz2 hk2 => ?_
          · rw [← e1] at goal
            exact goal
          · refine hQ h2 ⟨hi1.at fun o e => hk2 i o hiT hni e, ha2.at fun o e => hk2 l o hq1 (fun z => hq2 (List.mem_cons_of_mem _ z)) (hk1 l o hq1 (fun z => hq2 (z ▸ List.mem_cons_self)) e), ha2'⟩ ?_ (hz2.trans hz1) fun c o c1 c2 e => ?_
            · rw [List.append_assoc] at hT2
              exact hT2
            · exact hk2 c o c1 (fun z => c2 (List.mem_cons_of_mem _ z)) (hk1 c o c1 (fun z => c2 (z ▸ List.mem_cons_self)) e)
end
end Zn
set_option Elab.async false
set_option linter.all false
set_option maxRecDepth 100000
set_option maxHeartbeats 1000000
namespace Zn
open PySem PySem.Spec PyProof.Rows L2
open PySem.Sem (wp)
section
variable {prog : Program} {w : World} {A : Around} {E : Value → Shared → Prop} {s : Shared}
/-- one turn of the loop within next -/
theorem next_item {z TI TO : Addr} {is : List Addr} {r : List Src} {k : Nat} {ys olds : List Value} {Q : Value → Shared → Prop} (hne : is ≠ [])
    (hz : IsZip s.heap z TI TO .none) (hTI : TupAt s.heap TI (is.map Value.ref)) (hTO : TupAt s.heap TO olds) (ha : AllAt s.heap k is r) (hy : Items k r ys) (hlo : olds.length = is.length) (hsm : is.length ≤ 1000)
    (hnd : is.Nodup) (hzi : z ∉ is) (hTOi : TO ∉ is) (hzT : z ≠ TO) (hs : ∀ q ∈ r, q.2.1 ≠ TO ∧ q.2.1 ≠ z ∧ q.2.1 ∉ is)
    (hQ : ∀ h', IsZip h' z TI TO (rawInt s.heap.objs.size) → TupAt h' TO ys → AllAt h' (k + 1) is r → TupAt h' s.heap.objs.size ys → h'.objs.size = s.heap.objs.size + 1 →
      (∀ c o, c ≠ z → c ≠ TO → c ∉ is → s.heap.get? c = some o → h'.get? c = some o) → Q (.ref s.heap.objs.size) { s with heap := h' }) :
    wpAny (model prog w) A (Builtin.«zip.__next__» ⟨[.ref z], []⟩) (fun fin s' => ∃ v, fin = .done (.ret v) ∧ Q v s') E s := by
  show wpAny _ _ (field (.ref z) 2 >>= _) _ _ _
  refine wpAny_bind (wpAny_field hz rfl (x := .bool false) rfl ?_)
  show wpAny _ _ (field (.ref z) 3 >>= _) _ _ _
  refine wpAny_bind (wpAny_field hz rfl (x := .ref TI) rfl ?_)
  refine wpAny_bind (wpAny_seqItems hTI rfl ?_)
  have hem : (is.map Value.ref).toArray.isEmpty = false := by
    cases is with
    | nil => exact absurd rfl hne
    | cons _ _ => simp
  simp only [hem, Bool.false_eq_true, if_false]
  refine wpAny_bind ?_
  unfold Builtin.SmallTypes.ownedTupleIsFree
  refine wpAny_bind (wpAny_field hz rfl (x := .none) rfl (wpAny_pure ?_))
  simp only [if_true]
  refine wpAny_bind (wpAny_rule ?_)
  refine wpAny_bind (wpAny_field hz rfl (x := .ref TO) rfl ?_)
  refine wpAny_bind (wpAny_setField_rec hz (by simp) fun g1 hz1 hs1 => ?_)
  replace hz1 : IsZip g1 z TI TO .ellipsis := hz1
  have up1 : ∀ c o, c ≠ z → s.heap.get? c = some o → g1.get? c = some o := fun c o c1 e => hs1.extBut _ _ c1 e
  have ha1 : AllAt g1 k is r := ha.at (fun i hi o e => up1 i o (fun q => hzi (q ▸ hi)) e) fun q hq o e => up1 _ o (hs q hq).2.1 e
  have hly : ys.length = olds.length := by rw [hlo, ha.len, ← hy.len]
  refine wpAny_bind ?_
  refine draw_all (M := model prog w) (A := A) (E := E) (b0 := (none, ())) (TO := TO) (Q := _) ?hf k is r ys olds [] { s with heap := g1 } ha1 hy hly (by simpa [hlo] using hsm) hnd hTOi (fun q hq => ⟨(hs q hq).1, (hs q hq).2.2⟩) (up1 TO _ hzT.symm hTO) ?hq
  case hf =>
    intro s2 i l t k2 xs x old pre post Q2 E2 hi hl hx hiT hlT hli hbd hT2 kq
    show wpAny _ _ (((Builtin.SmallTypes.nextOf (.ref i) >>= fun v => pure (some v)).onRaise _) >>= _) _ _ _
    refine wpAny_bind (wpAny_onRaise ?_)
    refine wpAny_bind (nextOf_item hi hl hx fun g2 hi2 hs2 => wpAny_pure ?_)
    have hT3 : TupAt g2 TO (pre ++ old :: post) := hs2.extBut _ _ hiT.symm hT2
    refine wpAny_bind (wpAny_seqItems hT3 rfl ?_)
    have hb2 : (pre ++ old :: post).length ≤ sizeLine := Nat.le_trans hbd (by decide)
    refine wpAny_bind (wpAny_updateSeq hT3 rfl ?_ (by rw [List.size_toArray]; exact hb2) (by rw [Array.size_setIfInBounds, List.size_toArray]; exact Nat.le_succ_of_le hb2))
    refine wpAny_bind (wpAny_letGo (wpAny_pure ?_))
    have hup : Heap.SameBut TO g2 (g2.update TO (Obj.mapSeq fun v => v.setIfInBounds pre.length x)) := Heap.SameBut.update ..
    refine kq _ (hi2.at fun o e => hup.extBut _ _ hiT e) ?_ (hup.1.trans hs2.1) fun c o c1 c2 e => hup.extBut _ _ c1 (hs2.extBut _ _ c2 e)
    show (g2.update TO _).get? TO = _
    rw [Heap.get?_update_self _ hT3 rfl]
    simp [Obj.mapSeq, List.set_append]
  case hq =>
    intro g2 ha2 hT2 hz2 hk2
    refine wpAny_bind (wpAny_seqItems hT2 rfl ?_)
    have hyl : ys.length ≤ sizeLine := Nat.le_trans (by rw [hly, hlo]; exact hsm) (by decide)
    refine wpAny_bind (wpAny_newTuple ?_ (by simpa using hyl))
    have hsz : g2.objs.size = s.heap.objs.size := hz2.trans hs1.1
    have hz3 : IsZip g2 z TI TO .ellipsis := hk2 z _ hzT hzi hz1
    have hzlt : z < g2.objs.size := Heap.lt_size hz3
    have hTlt : TO < g2.objs.size := Heap.lt_size hT2
    show wpAny _ _ (Builtin.SmallTypes.ownedTupleHandOut (.ref z) (.ref g2.objs.size) >>= _) _ _ _
    refine wpAny_bind ?_
    unfold Builtin.SmallTypes.ownedTupleHandOut
    have hz4 : IsZip (g2.push { cls := .type "tuple", data := .seq ([] ++ ys).toArray.toList.toArray }) z TI TO .ellipsis := Heap.get?_push_of_some _ hz3
    refine wpAny_bind (wpAny_setField_rec hz4 (by simp) fun g5 hz5 hs5 => ?_)
    replace hz5 : IsZip g5 z TI TO (rawInt g2.objs.size) := hz5
    refine wpAny_setField_rec hz5 (by simp) fun g6 hz6 hs6 => ?_
    replace hz6 : IsZip g6 z TI TO (rawInt g2.objs.size) := hz6
    have up : ∀ c o, c ≠ z → g2.get? c = some o → g6.get? c = some o := fun c o c1 e => hs6.extBut _ _ c1 (hs5.extBut _ _ c1 (Heap.get?_push_of_some _ e))
    have hnew : TupAt g6 g2.objs.size ys := by
      have e := hs6.extBut _ _ (Nat.ne_of_gt hzlt) (hs5.extBut _ _ (Nat.ne_of_gt hzlt) (Heap.get?_push_size g2 (o := { cls := .type "tuple", data := .seq ([] ++ ys).toArray.toList.toArray }) rfl))
      simpa using e
    have hs8 : g6.objs.size = g2.objs.size + 1 := by rw [hs6.1, hs5.1, Heap.size_push]
    have hT6 : TupAt g6 TO ys := up TO _ hzT.symm hT2
    rw [hsz] at hz6 hnew hs8
    refine wpAny_pure ⟨_, rfl, ?_⟩
    show Q (.ref g2.objs.size) _
    rw [hsz]
    exact hQ g6 hz6 hT6 (ha2.at (fun i hi o e => up i o (fun q => hzi (q ▸ hi)) e) fun q hq o e => up _ o (hs q hq).2.1 e) hnew hs8 fun c o c1 c2 c3 e => up c o c1 (hk2 c o c2 c3 (up1 c o c1 e))
end
end Zn
set_option Elab.async false
set_option linter.all false
set_option maxRecDepth 100000
set_option maxHeartbeats 1000000
namespace Zn
open PySem PySem.Spec PyProof.Rows L2
open PySem.Sem (wp)
def StopAt (h : Heap) (e : Addr) : Prop := ∃ o, h.get? e = some o ∧ o.cls = .type "StopIteration"
/-- an exhausted sequence ends the loop's body -/
def StopOk (M : Model) (A : Around) {β : Type} (f : Value × Nat → β → Sem (ForInStep β)) (b0 : β) (z TI TO : Addr) : Prop :=
  ∀ (s : Shared) (i l : Addr) (t : Bool) (k j : Nat) (xs : Array Value) (Q : ForInStep β → Shared → Prop) (E : Value → Shared → Prop), ItK t s.heap i l k → SqK t s.heap l xs → xs[k]? = none → i ≠ z → IsZip s.heap z TI TO .ellipsis →
    (∀ h' e, (∀ c o, c ≠ z → c ≠ i → s.heap.get? c = some o → h'.get? c = some o) → StopAt h' e → E (.ref e) { s with heap := h' }) → wpAny M A (f (.ref i, j) b0) Q E s
section
variable {prog : Program} {w : World} {A : Around} {E : Value → Shared → Prop} {s : Shared}
theorem stop_all {β : Type} {M : Model} {f : Value × Nat → β → Sem (ForInStep β)} {b0 : β} {z TI TO : Addr} {Q : β → Shared → Prop} (hf : DrawOk M A f b0 TO) (hg : StopOk M A f b0 z TI TO) (k : Nat) (is : List Addr) :
    ∀ (r : List Src) (olds pre : List Value) (s : Shared), AllAt s.heap k is r → (∃ q ∈ r, q.2.2[k]? = none) → r.length = olds.length → (pre ++ olds).length ≤ 1000 → is.Nodup → TO ∉ is → z ∉ is → z ≠ TO → (∀ q ∈ r, q.2.1 ≠ TO ∧ q.2.1 ∉ is) →
      IsZip s.heap z TI TO .ellipsis → TupAt s.heap TO (pre ++ olds) →
      (∀ h' e, (∀ c o, c ≠ z → c ≠ TO → c ∉ is → s.heap.get? c = some o → h'.get? c = some o) → StopAt h' e → E (.ref e) { s with heap := h' }) →
      wpAny M A (forIn ((is.map Value.ref).zipIdx pre.length) b0 f) Q E s := by
  induction is with
  | nil =>
    intro r olds pre s ha hy _ _ _ _ _ _ _ _ _ _
    cases r with
    | cons _ _ => exact ha.elim
    | nil => obtain ⟨q, hq, _⟩ := hy; cases hq
  | cons i is ih =>
    intro r olds pre s ha hy hl hbd hn hTO hzi hzT hs hz hT hE
    cases r with
    | nil => exact ha.elim
    | cons q r =>
      obtain ⟨t, l, xs⟩ := q
      cases olds with
      | nil => cases hl
      | cons o olds =>
        have ha1 : ItK t s.heap i l k := ha.1
        have ha2 : SqK t s.heap l xs := ha.2.1
        have ha3 : AllAt s.heap k is r := ha.2.2
        rw [List.map_cons, List.zipIdx_cons, List.forIn_cons]
        have hni : i ∉ is := (List.nodup_cons.mp hn).1
        have hiT : i ≠ TO := fun e => hTO (e ▸ List.mem_cons_self)
        have hiz : i ≠ z := fun e => hzi (e ▸ List.mem_cons_self)
        have hq := hs _ List.mem_cons_self
        have hq1 : l ≠ TO := hq.1
        have hq2 : l ∉ i :: is := hq.2
        cases hx : xs[k]? with
        | none =>
          exact wpAny_bind (hg s i l t k _ xs _ _ ha1 ha2 hx hiz hz fun h' e hk he => hE h' e (fun c o c1 c2 c3 x => hk c o c1 (fun q => c3 (q ▸ List.mem_cons_self)) x) he)
        | some y =>
          have hy2 : ∃ q ∈ r, q.2.2[k]? = none := by
            obtain ⟨q, hq, e⟩ := hy
            rcases List.mem_cons.mp hq with rfl | hq
            · rw [hx] at e; cases e
            · exact ⟨q, hq, e⟩
          refine wpAny_bind (hf s i l t k xs y o pre olds _ E ha1 ha2 hx hiT hq1 (fun e => hq2 (e ▸ List.mem_cons_self)) hbd hT fun h1 hi1 hT1 hz1 hk1 => ?_)
          have e1 : pre.length + 1 = (pre ++ [y]).length := by simp
          have hT1' : TupAt h1 TO ((pre ++ [y]) ++ olds) := by
            rw [List.append_assoc]
            exact hT1
          have goal := ih r olds (pre ++ [y]) { s with heap := h1 } (ha3.at (fun j hj o e => hk1 j o (fun q => hTO (q ▸ List.mem_cons_of_mem _ hj)) (fun q => hni (q ▸ hj)) e)
            fun q hqm o e => hk1 _ o (hs q (List.mem_cons_of_mem _ hqm)).1 (fun z => (hs q (List.mem_cons_of_mem _ hqm)).2 (z ▸ List.mem_cons_self)) e) hy2 (Nat.succ.inj hl) (by simpa using hbd) (List.nodup_cons.mp hn).2 (fun z => hTO (List.mem_cons_of_mem _ z))
            (fun q => hzi (List.mem_cons_of_mem _ q)) hzT (fun q hqm => ⟨(hs q (List.mem_cons_of_mem _ hqm)).1, fun z => (hs q (List.mem_cons_of_mem _ hqm)).2 (List.mem_cons_of_mem _ z)⟩) (hk1 z _ hzT hiz.symm hz) hT1' fun h2 e hk2 he =>
              hE h2 e (fun c o c1 c2 c3 x => hk2 c o c1 c2 (fun q => c3 (List.mem_cons_of_mem _ q)) (hk1 c o c2 (fun q => c3 (q ▸ List.mem_cons_self)) x)) he
          rw [← e1] at goal
          exact goal
/-- the turn at which some sequence has come to its end -/
theorem next_stop {z TI TO : Addr} {is : List Addr} {r : List Src} {k : Nat} {olds : List Value} {Q : Fin → Shared → Prop} (hh : A.handled = none) (hne : is ≠ [])
    (hz : IsZip s.heap z TI TO .none) (hTI : TupAt s.heap TI (is.map Value.ref)) (hTO : TupAt s.heap TO olds) (ha : AllAt s.heap k is r) (hy : ∃ q ∈ r, q.2.2[k]? = none) (hlo : olds.length = is.length) (hsm : is.length ≤ 1000)
    (hnd : is.Nodup) (hzi : z ∉ is) (hTOi : TO ∉ is) (hzT : z ≠ TO) (hs : ∀ q ∈ r, q.2.1 ≠ TO ∧ q.2.1 ≠ z ∧ q.2.1 ∉ is)
    (hE : ∀ h' e, (∀ c o, c ≠ z → c ≠ TO → c ∉ is → s.heap.get? c = some o → h'.get? c = some o) → StopAt h' e → E (.ref e) { s with heap := h' }) :
    wpAny (model prog w) A (Builtin.«zip.__next__» ⟨[.ref z], []⟩) Q E s := by
  show wpAny _ _ (field (.ref z) 2 >>= _) _ _ _
  refine wpAny_bind (wpAny_field hz rfl (x := .bool false) rfl ?_)
  show wpAny _ _ (field (.ref z) 3 >>= _) _ _ _
  refine wpAny_bind (wpAny_field hz rfl (x := .ref TI) rfl ?_)
  refine wpAny_bind (wpAny_seqItems hTI rfl ?_)
  have hem : (is.map Value.ref).toArray.isEmpty = false := by
    cases is with
    | nil => exact absurd rfl hne
    | cons _ _ => simp
  simp only [hem, Bool.false_eq_true, if_false]
  refine wpAny_bind ?_
  unfold Builtin.SmallTypes.ownedTupleIsFree
  refine wpAny_bind (wpAny_field hz rfl (x := .none) rfl (wpAny_pure ?_))
  simp only [if_true]
  refine wpAny_bind (wpAny_rule ?_)
  refine wpAny_bind (wpAny_field hz rfl (x := .ref TO) rfl ?_)
  refine wpAny_bind (wpAny_setField_rec hz (by simp) fun g1 hz1 hs1 => ?_)
  replace hz1 : IsZip g1 z TI TO .ellipsis := hz1
  have up1 : ∀ c o, c ≠ z → s.heap.get? c = some o → g1.get? c = some o := fun c o c1 e => hs1.extBut _ _ c1 e
  have ha1 : AllAt g1 k is r := ha.at (fun i hi o e => up1 i o (fun q => hzi (q ▸ hi)) e) fun q hq o e => up1 _ o (hs q hq).2.1 e
  refine wpAny_bind ?_
  refine stop_all (M := model prog w) (A := A) (E := E) (b0 := (none, ())) (z := z) (TI := TI) (TO := TO) (Q := _) ?hf ?hg k is r olds [] { s with heap := g1 } ha1 hy (by rw [hlo, ha.len]) (by simpa [hlo] using hsm) hnd hTOi hzi hzT (fun q hq => ⟨(hs q hq).1, (hs q hq).2.2⟩) hz1 (up1 TO _ hzT.symm hTO)
    fun h' e hk he => hE h' e (fun c o c1 c2 c3 x => hk c o c1 c2 c3 (up1 c o c1 x)) he
  case hf =>
    intro s2 i l t k2 xs x old pre post Q2 E2 hi hl hx hiT hlT hli hbd hT2 kq
    show wpAny _ _ (((Builtin.SmallTypes.nextOf (.ref i) >>= fun v => pure (some v)).onRaise _) >>= _) _ _ _
    refine wpAny_bind (wpAny_onRaise ?_)
    refine wpAny_bind (nextOf_item hi hl hx fun g2 hi2 hs2 => wpAny_pure ?_)
    have hT3 : TupAt g2 TO (pre ++ old :: post) := hs2.extBut _ _ hiT.symm hT2
    refine wpAny_bind (wpAny_seqItems hT3 rfl ?_)
    have hb2 : (pre ++ old :: post).length ≤ sizeLine := Nat.le_trans hbd (by decide)
    refine wpAny_bind (wpAny_updateSeq hT3 rfl ?_ (by rw [List.size_toArray]; exact hb2) (by rw [Array.size_setIfInBounds, List.size_toArray]; exact Nat.le_succ_of_le hb2))
    refine wpAny_bind (wpAny_letGo (wpAny_pure ?_))
    have hup : Heap.SameBut TO g2 (g2.update TO (Obj.mapSeq fun v => v.setIfInBounds pre.length x)) := Heap.SameBut.update ..
    refine kq _ (hi2.at fun o e => hup.extBut _ _ hiT e) ?_ (hup.1.trans hs2.1) fun c o c1 c2 e => hup.extBut _ _ c1 (hs2.extBut _ _ c2 e)
    show (g2.update TO _).get? TO = _
    rw [Heap.get?_update_self _ hT3 rfl]
    simp [Obj.mapSeq, List.set_append]
  case hg =>
    intro s2 i l t k2 j xs Q2 E2 hi hl hx hiz hz2 ke
    show wpAny _ _ (((Builtin.SmallTypes.nextOf (.ref i) >>= fun v => pure (some v)).onRaise _) >>= _) _ _ _
    refine wpAny_bind (wpAny_onRaise ?_)
    refine wpAny_bind (nextOf_end hh hi hl hx fun g2 e hs2 he => ?_)
    obtain ⟨oe, hoe, hce⟩ := he
    have hz3 : IsZip g2 z TI TO .ellipsis := hs2 _ _ hiz.symm hz2
    have hez : e ≠ z := fun x => by subst x; rw [hz3] at hoe; cases hoe; simp at hce
    exact wpAny_setField_rec hz3 (by simp) fun g3 _ hs3 => ke g3 e (fun c o c1 c2 x => hs3.extBut _ _ c1 (hs2 _ _ c2 x)) ⟨oe, hs3.extBut _ _ hez hoe, hce⟩
theorem pyNext_item {z TI TO : Addr} {is : List Addr} {r : List Src} {k : Nat} {ys olds : List Value} {Q : Option Value → Shared → Prop} (hne : is ≠ [])
    (hz : IsZip s.heap z TI TO .none) (hTI : TupAt s.heap TI (is.map Value.ref)) (hTO : TupAt s.heap TO olds) (ha : AllAt s.heap k is r) (hy : Items k r ys) (hlo : olds.length = is.length) (hsm : is.length ≤ 1000)
    (hnd : is.Nodup) (hzi : z ∉ is) (hTOi : TO ∉ is) (hzT : z ≠ TO) (hs : ∀ q ∈ r, q.2.1 ≠ TO ∧ q.2.1 ≠ z ∧ q.2.1 ∉ is)
    (hQ : ∀ h', IsZip h' z TI TO (rawInt s.heap.objs.size) → TupAt h' TO ys → AllAt h' (k + 1) is r → TupAt h' s.heap.objs.size ys → h'.objs.size = s.heap.objs.size + 1 →
      (∀ c o, c ≠ z → c ≠ TO → c ∉ is → s.heap.get? c = some o → h'.get? c = some o) → Q (some (.ref s.heap.objs.size)) { s with heap := h' }) : wpAny (model prog w) A (pyNext (.ref z)) Q E s := by
  have ty : s.TypeIs (.ref z) "zip" := ⟨_, hz, rfl⟩
  unfold pyNext
  refine wpAny_bind (wpAny_attempt (wpAny_callSpecial?_slot (name := Str.ofString "__next__") ty F.slot_zip_next ?_))
  exact wpAny_call_entry F.slot_zip_next ty F.entry_zip_next (next_item hne hz hTI hTO ha hy hlo hsm hnd hzi hTOi hzT hs fun h' b1 b2 b3 b4 b5 b6 => wpAny_pure (hQ h' b1 b2 b3 b4 b5 b6)) (F.args_zip_next_1 _)
theorem pyNext_stop {z TI TO : Addr} {is : List Addr} {r : List Src} {k : Nat} {olds : List Value} {Q : Option Value → Shared → Prop} (hh : A.handled = none) (hne : is ≠ [])
    (hz : IsZip s.heap z TI TO .none) (hTI : TupAt s.heap TI (is.map Value.ref)) (hTO : TupAt s.heap TO olds) (ha : AllAt s.heap k is r) (hy : ∃ q ∈ r, q.2.2[k]? = none) (hlo : olds.length = is.length) (hsm : is.length ≤ 1000)
    (hnd : is.Nodup) (hzi : z ∉ is) (hTOi : TO ∉ is) (hzT : z ≠ TO) (hs : ∀ q ∈ r, q.2.1 ≠ TO ∧ q.2.1 ≠ z ∧ q.2.1 ∉ is)
    (hQ : ∀ h', (∀ c o, c ≠ z → c ≠ TO → c ∉ is → s.heap.get? c = some o → h'.get? c = some o) → Q none { s with heap := h' }) : wpAny (model prog w) A (pyNext (.ref z)) Q E s := by
  have ty : s.TypeIs (.ref z) "zip" := ⟨_, hz, rfl⟩
  unfold pyNext
  refine wpAny_bind (wpAny_attempt (wpAny_callSpecial?_slot (name := Str.ofString "__next__") ty F.slot_zip_next ?_))
  refine wpAny_call_entry F.slot_zip_next ty F.entry_zip_next (next_stop hh hne hz hTI hTO ha hy hlo hsm hnd hzi hTOi hzT hs fun h' e hk he => ?_) (F.args_zip_next_1 _)
  obtain ⟨o, ho, hc⟩ := he
  exact wpAny_bind (wpAny_isInstance (T := "StopIteration") (b := true) ⟨o, ho, hc⟩ isSubtype_stop (wpAny_pure (hQ _ hk)))
end
end Zn
set_option Elab.async false
set_option linter.all false
set_option maxRecDepth 100000
set_option maxHeartbeats 1000000
namespace Zn
open PySem PySem.Spec PyProof.Rows L2
open PySem.Sem (wp)
/-- the sequences stand -/
def Srcs (h : Heap) : List Src → Prop
  | [] => True
  | (t, l, xs) :: r => SqK t h l xs ∧ Srcs h r
theorem Srcs.at {h h' : Heap} : ∀ {r : List Src}, Srcs h r → (∀ q ∈ r, ∀ o, h.get? q.2.1 = some o → h'.get? q.2.1 = some o) → Srcs h' r
  | [], _, _ => trivial
  | (t, l, xs) :: r, x, e => ⟨x.1.at (e _ List.mem_cons_self), Srcs.at x.2 fun q hq => e q (List.mem_cons_of_mem _ hq)⟩
/-- the new iterators -/
def news (n : Nat) : List Src → List Addr
  | [] => []
  | _ :: r => n :: news (n + 1) r
theorem news_len (n : Nat) (r : List Src) : (news n r).length = r.length := by
  induction r generalizing n with
  | nil => rfl
  | cons q r ih => show (news (n + 1) r).length + 1 = r.length + 1; rw [ih]
theorem news_mem {r : List Src} {n i : Nat} (h : i ∈ news n r) : n ≤ i ∧ i < n + r.length := by
  induction r generalizing n with
  | nil => cases h
  | cons q r ih =>
    rcases List.mem_cons.mp h with rfl | h
    · exact ⟨Nat.le_refl _, by simp⟩
    · have := ih h
      rw [List.length_cons]
      omega
theorem news_nodup (r : List Src) (n : Nat) : (news n r).Nodup := by
  induction r generalizing n with
  | nil => exact List.nodup_nil
  | cons q r ih => exact List.nodup_cons.mpr ⟨fun h => absurd (news_mem h).1 (by omega), ih _⟩
section
variable {prog : Program} {w : World} {A : Around} {E : Value → Shared → Prop}
theorem iters_all (f : Value → Array Value → Sem (ForInStep (Array Value))) (hf : ∀ v acc, f v acc = (do let i ← holding acc.toList (pyIter v); pure (.yield (acc.push i)))) (r : List Src) :
    ∀ (acc : Array Value) (s : Shared) (Q : Array Value → Shared → Prop), Srcs s.heap r →
      (∀ h', AllAt h' 0 (news s.heap.objs.size r) r → h'.objs.size = s.heap.objs.size + r.length → (∀ c o, s.heap.get? c = some o → h'.get? c = some o) → Q (acc ++ ((news s.heap.objs.size r).map Value.ref).toArray) { s with heap := h' }) →
      wpAny (model prog w) A (forIn (r.map fun q => Value.ref q.2.1) acc f) Q E s := by
  induction r with
  | nil =>
    intro acc s Q _ hQ
    rw [List.map_nil, List.forIn_nil]
    have := hQ s.heap trivial rfl fun _ _ e => e
    exact wpAny_pure (by simpa [news] using this)
  | cons q r ih =>
    intro acc s Q hs hQ
    obtain ⟨t, l, xs⟩ := q
    have h1 : SqK t s.heap l xs := hs.1
    have h2 : Srcs s.heap r := hs.2
    rw [List.map_cons, List.forIn_cons, hf]
    refine wpAny_bind (wpAny_bind (wpAny_holding (pyIter_K h1 fun g hi hz hk => wpAny_pure ?_)))
    refine ih (acc.push (.ref s.heap.objs.size)) { s with heap := g } Q (h2.at fun q _ o e => hk _ o e) fun g2 ha hz2 hk2 => ?_
    have hz2' : g2.objs.size = g.objs.size + r.length := hz2
    have ha' : AllAt g2 0 (news g.objs.size r) r := ha
    have e : g.objs.size = s.heap.objs.size + 1 := hz
    rw [e] at ha' hz2'
    have fin := hQ g2 ⟨hi.at fun o e => hk2 _ o e, (h1.at fun o e => hk _ o e).at fun o e => hk2 _ o e, ha'⟩ (by rw [hz2', List.length_cons]; omega) fun c o x => hk2 c o (hk c o x)
    show Q _ _
    have e3 : (acc.push (Value.ref s.heap.objs.size) ++ ((news g.objs.size r).map Value.ref).toArray) = (acc ++ ((news s.heap.objs.size ((t, l, xs) :: r)).map Value.ref).toArray) := by
      rw [e]
      simp [news, Array.append_assoc]
    rw [show (({ s with heap := g } : Shared).heap) = g from rfl, e3]
    exact fin
/-- what zip(..) leaves -/
structure Made (h h' : Heap) (r : List Src) : Prop where
  zr : IsZip h' (h.objs.size + r.length + 2) (h.objs.size + r.length) (h.objs.size + r.length + 1) .none
  ti : TupAt h' (h.objs.size + r.length) ((news h.objs.size r).map Value.ref)
  to : TupAt h' (h.objs.size + r.length + 1) (r.map fun _ => Value.none)
  all : AllAt h' 0 (news h.objs.size r) r
  sz : h'.objs.size = h.objs.size + r.length + 3
  kp : ∀ c o, h.get? c = some o → h'.get? c = some o
theorem made_of {h g : Heap} {r : List Src} (ha : AllAt g 0 (news h.objs.size r) r) (hz : g.objs.size = h.objs.size + r.length) (hk : ∀ c o, h.get? c = some o → g.get? c = some o) {o1 o2 o3 : Obj}
    (e1 : o1 = { cls := .type "tuple", data := .seq ((news h.objs.size r).map Value.ref).toArray }) (e2 : o2 = { cls := .type "tuple", data := .seq (r.map fun _ => Value.none).toArray })
    (e3 : o3 = { cls := .type "zip", data := .fields #[.none, .bool false, .bool false, .ref g.objs.size, .ref (g.push o1).objs.size] }) : Made h (((g.push o1).push o2).push o3) r := by
  have s1 : (g.push o1).objs.size = g.objs.size + 1 := Heap.size_push ..
  have s2 : ((g.push o1).push o2).objs.size = g.objs.size + 2 := by rw [Heap.size_push, s1]
  have s3 : (((g.push o1).push o2).push o3).objs.size = g.objs.size + 3 := by rw [Heap.size_push, s2]
  have g1 : (((g.push o1).push o2).push o3).get? g.objs.size = some o1 := Heap.get?_push_of_some _ (Heap.get?_push_of_some _ (Heap.get?_push_size _ (by rw [e1]; rfl)))
  have g2 : (((g.push o1).push o2).push o3).get? (g.push o1).objs.size = some o2 := Heap.get?_push_of_some _ (Heap.get?_push_size _ (by rw [e2]; rfl))
  have g3 : (((g.push o1).push o2).push o3).get? ((g.push o1).push o2).objs.size = some o3 := Heap.get?_push_size _ (by rw [e3]; rfl)
  have kp : ∀ c o, g.get? c = some o → (((g.push o1).push o2).push o3).get? c = some o := fun c o e => Heap.get?_push_of_some _ (Heap.get?_push_of_some _ (Heap.get?_push_of_some _ e))
  rw [s1, hz] at g2
  rw [hz] at g1
  have e3' : o3 = { cls := .type "zip", data := .fields #[.none, .bool false, .bool false, .ref (h.objs.size + r.length), .ref (h.objs.size + r.length + 1)] } := by rw [e3, s1, hz]
  rw [s2, hz] at g3
  rw [e3] at e3'
  exact ⟨g3.trans (congrArg some (e3.trans e3')), g1.trans (congrArg some e1), g2.trans (congrArg some e2), ha.at (fun i _ o e => kp i o e) fun q _ o e => kp _ o e, by rw [s3, hz], fun c o e => kp c o (hk c o e)⟩
theorem zip_new (r : List Src) (hsm : r.length ≤ 1000) : Meets (Builtin.«zip.__new__» ⟨.type "zip" :: r.map fun q => Value.ref q.2.1, []⟩) (fun _ R s => Srcs s.heap r ∧ ∀ h', Made s.heap h' r → R (.ok (.ret (.ref (s.heap.objs.size + r.length + 2)))) { s with heap := h' }) :=
  .of_wp fun prog w A R s h => by
    obtain ⟨hs, h⟩ := h
    have hsub := sub_zip
    unfold Builtin.«zip.__new__»
    have hc : Builtin.SmallTypes.newClass "zip" ⟨.type "zip" :: r.map fun q => Value.ref q.2.1, []⟩ = pure (Value.type "zip", r.map fun q => Value.ref q.2.1) := by
      unfold Builtin.SmallTypes.newClass
      simp only [isType, sub_zip]
      rfl
    rw [hc]
    refine wpAny_bind (wpAny_pure ?_)
    dsimp only
    refine wpAny_bind ?_
    unfold Builtin.SmallTypes.iterAll
    refine wpAny_bind (iters_all _ (fun v acc => rfl) r #[] s _ hs fun g ha hz hk => wpAny_pure ?_)
    have e0 : (#[] ++ ((news s.heap.objs.size r).map Value.ref).toArray).toList = (news s.heap.objs.size r).map Value.ref := by simp
    rw [e0]
    have lsz : r.length ≤ sizeLine := Nat.le_trans hsm (by decide)
    refine wpAny_bind (wpAny_newTuple ?_ (by rw [List.length_map, news_len]; exact lsz))
    refine wpAny_bind (wpAny_newTuple ?_ (by rw [List.length_map, List.length_map, news_len]; exact lsz))
    refine wpAny_bind ?_
    show wpAny _ _ (newObj (.type "zip") (.fields #[.none, .bool false, .bool false, _, _])) _ _ _
    refine wpAny_newObj_type ?_
    refine wpAny_pure ⟨_, rfl, ?_⟩
    have nn : ((news s.heap.objs.size r).map Value.ref).map (fun _ => Value.none) = r.map fun _ => Value.none := by
      rw [List.map_map]
      refine List.ext_getElem (by simp [news_len]) fun i _ _ => by simp
    have z1 : g.objs.size = s.heap.objs.size + r.length := hz
    have fin := h _ (made_of ha hz hk rfl rfl rfl)
    have zz : ∀ o1 o2 : Obj, ((g.push o1).push o2).objs.size = s.heap.objs.size + r.length + 2 := fun o1 o2 => by rw [Heap.size_push, Heap.size_push, z1]
    show R (.ok (.ret (.ref ((g.push _).push _).objs.size))) _
    rw [zz, nn]
    exact fin
end
end Zn
set_option Elab.async false
set_option linter.all false
set_option maxRecDepth 100000
set_option maxHeartbeats 1000000
namespace Zn
open PySem PySem.Spec PyProof.Rows L2
open PySem.Sem (wp)
/-- the iterators alone -/
def ItsAt (h : Heap) (k : Nat) : List Addr → List (Bool × Addr) → Prop
  | [], [] => True
  | i :: is, (t, l) :: r => ItK t h i l k ∧ ItsAt h k is r
  | _, _ => False
theorem ItsAt.at {h h' : Heap} {k : Nat} : ∀ {is : List Addr} {r : List (Bool × Addr)}, ItsAt h k is r → (∀ i ∈ is, ∀ o, h.get? i = some o → h'.get? i = some o) → ItsAt h' k is r
  | [], [], _, _ => trivial
  | i :: is, (t, l) :: r, x, e1 => ⟨x.1.at (e1 i List.mem_cons_self), ItsAt.at x.2 (fun j hj => e1 j (List.mem_cons_of_mem _ hj))⟩
theorem ItsAt.ob {h : Heap} {k : Nat} : ∀ {is : List Addr} {r : List (Bool × Addr)}, ItsAt h k is r → ∀ i ∈ is, ∃ o l, h.get? i = some o ∧ o.data = .fields #[.ref l, .int k 0]
  | i :: is, (t, l) :: r, x, j, hj => by
    rcases List.mem_cons.mp hj with rfl | hj
    · obtain ⟨o, ho, _, hd⟩ := x.1.rec_
      exact ⟨o, l, ho, hd⟩
    · exact ItsAt.ob x.2 j hj
theorem ItsAt.len {h : Heap} {k : Nat} : ∀ {is : List Addr} {r : List (Bool × Addr)}, ItsAt h k is r → is.length = r.length
  | [], [], _ => rfl
  | _ :: _, _ :: _, x => by rw [List.length_cons, List.length_cons, ItsAt.len x.2]
def bare (r : List Src) : List (Bool × Addr) := r.map fun q => (q.1, q.2.1)
theorem AllAt.its {h : Heap} {k : Nat} : ∀ {is : List Addr} {r : List Src}, AllAt h k is r → ItsAt h k is (bare r)
  | [], [], _ => trivial
  | _ :: _, (_, _, _) :: _, x => ⟨x.1, AllAt.its x.2.2⟩
theorem allAt_of {h : Heap} {k : Nat} : ∀ {is : List Addr} {r : List Src}, ItsAt h k is (bare r) → Srcs h r → AllAt h k is r
  | [], [], _, _ => trivial
  | _ :: _, (_, _, _) :: _, x, y => ⟨x.1, y.1, allAt_of x.2 y.2⟩
def SqV (K : PySem.W.Frag) (H : Hp) (t : Bool) (a : Addr) (xs : List V) : Prop := cond t (SqT K H a xs) (SqL K H a xs)
/-- what stands at the i-th places -/
def RowAt (K : PySem.W.Frag) (H : Hp) (i : Nat) : List (Bool × Addr) → List V → Prop
  | [], [] => True
  | (t, a) :: r, y :: ys => (∃ xs, SqV K H t a xs ∧ xs[i]? = some y) ∧ RowAt K H i r ys
  | _, _ => False
def AllSq (K : PySem.W.Frag) (H : Hp) (src : List (Bool × Addr)) : Prop := ∀ q ∈ src, ∃ xs, SqV K H q.1 q.2 xs
def Itn (K : PySem.W.Frag) (src : List (Bool × Addr)) : It :=
  ⟨fun i H => ∃ ys, RowAt K H i src ys, fun i H v H' => ∃ T ys, v = .ref T ∧ H T = none ∧ H' = upd H T (.tup ys) ∧ ∀ zs, RowAt K H i src zs → zs = ys,
    fun i H => AllSq K H src ∧ ∃ q ∈ src, ∃ xs, SqV K H q.1 q.2 xs ∧ xs.length ≤ i⟩
section
variable {X : Cx} {pins : List (Addr × Obj)} {σ : L2.St} {H : Hp} {s : Shared}
theorem sqv_ob (I : Inv X pins σ H s) {t : Bool} {a : Addr} {xs : List V} (h : SqV X.K H t a xs) : ∃ its : List Value, Vals xs its ∧ SqK t s.heap a its.toArray ∧ xs.length ≤ sizeLine := by
  cases t with
  | true =>
    obtain ⟨its, r, p, z⟩ := I.tuple h
    exact ⟨its, r, p, z⟩
  | false =>
    obtain ⟨its, r, p, z⟩ := I.list h
    exact ⟨its, r, p.isList, z⟩
theorem sqv_inj (I : Inv X pins σ H s) {t : Bool} {a : Addr} {xs ys : List V} (h : SqV X.K H t a xs) (h' : SqV X.K H t a ys) : xs = ys := by
  cases t with
  | true => exact I.tuple_inj h h'
  | false => exact I.list_inj h h'
theorem row_inj (I : Inv X pins σ H s) {i : Nat} : ∀ {src : List (Bool × Addr)} {ys zs : List V}, RowAt X.K H i src ys → RowAt X.K H i src zs → zs = ys
  | [], [], [], _, _ => rfl
  | (t, a) :: r, y :: ys, z :: zs, h1, h2 => by
    obtain ⟨⟨xs, q1, e1⟩, h1⟩ := h1
    obtain ⟨⟨xs', q2, e2⟩, h2⟩ := h2
    have e := sqv_inj I q1 q2
    subst e
    rw [e1] at e2
    cases e2
    rw [row_inj I h1 h2]
theorem row_ob (I : Inv X pins σ H s) {i : Nat} : ∀ {src : List (Bool × Addr)} {ys : List V}, RowAt X.K H i src ys → ∃ (r : List Src) (us : List Value), bare r = src ∧ Srcs s.heap r ∧ Items i r us ∧ Vals ys us
  | [], [], _ => ⟨[], [], rfl, trivial, trivial, .nil⟩
  | (t, a) :: src, y :: ys, h => by
    obtain ⟨⟨xs, q, e⟩, h⟩ := h
    obtain ⟨its, rv, p, _⟩ := sqv_ob I q
    obtain ⟨u, hu, ru⟩ := rv.get e
    obtain ⟨r, us, e1, e2, e3, e4⟩ := row_ob I h
    exact ⟨(t, a, its.toArray) :: r, u :: us, by unfold bare at e1 ⊢; rw [List.map_cons, e1], ⟨p, e2⟩, ⟨by simpa using hu, e3⟩, .cons ru e4⟩
theorem all_ob (I : Inv X pins σ H s) : ∀ {src : List (Bool × Addr)}, AllSq X.K H src → ∃ r : List Src, bare r = src ∧ Srcs s.heap r ∧ ∀ q ∈ src, ∀ xs, SqV X.K H q.1 q.2 xs → ∃ p ∈ r, p.2.2.size = xs.length
  | [], _ => ⟨[], rfl, trivial, fun q hq => by cases hq⟩
  | (t, a) :: src, h => by
    obtain ⟨xs, q⟩ := h _ List.mem_cons_self
    obtain ⟨its, rv, p, _⟩ := sqv_ob I q
    obtain ⟨r, e1, e2, e3⟩ := all_ob I (src := src) fun q hq => h q (List.mem_cons_of_mem _ hq)
    refine ⟨(t, a, its.toArray) :: r, by unfold bare at e1 ⊢; rw [List.map_cons, e1], ⟨p, e2⟩, fun q' hq' ys hy => ?_⟩
    rcases List.mem_cons.mp hq' with rfl | hq'
    · refine ⟨_, List.mem_cons_self, ?_⟩
      have e := sqv_inj I q hy
      subst e
      have := rv.length
      simp [this]
    · obtain ⟨p', hp', e'⟩ := e3 q' hq' ys hy
      exact ⟨p', List.mem_cons_of_mem _ hp', e'⟩
end
/-- the iterator's own objects are apart -/
structure Apart (z TI TO : Addr) (is : List Addr) (src : List (Bool × Addr)) : Prop where
  nd : is.Nodup
  zi : z ∉ is
  ti : TI ∉ is
  oi : TO ∉ is
  zT : z ≠ TO
  zI : z ≠ TI
  TT : TI ≠ TO
  sr : ∀ q ∈ src, q.2 ≠ TO ∧ q.2 ≠ z ∧ q.2 ≠ TI ∧ q.2 ∉ is
  ne : is ≠ []
  sm : is.length ≤ 1000
def ZTn (z TI TO : Addr) (is : List Addr) (src : List (Bool × Addr)) (i : Nat) (h : Heap) : Prop :=
  IsZip h z TI TO .none ∧ TupAt h TI (is.map Value.ref) ∧ (∃ olds : List Value, olds.length = is.length ∧ TupAt h TO olds) ∧ ItsAt h i is src
theorem bare_mem {r : List Src} {q : Src} (h : q ∈ r) : (q.1, q.2.1) ∈ bare r := List.mem_map.mpr ⟨q, h, rfl⟩
/-- zip over any number of sequences, unpacked at once -/
theorem turn_n {P : Program} {w : World} {K : PySem.W.Frag} {elts : List Expr} {kk : Nat} {tpos : Pos} {z TI TO : Addr} {is : List Addr} {src : List (Bool × Addr)} (D : Apart z TI TO is src) :
    Turn P w K (.Tuple elts kk tpos) (Itn K src) (z :: TI :: TO :: is) z (ZTn z TI TO is src) where
  mem := List.mem_cons_self
  obj := fun i h st c hc => by
    obtain ⟨hz, hTI, ⟨olds, _, hTO⟩, hi⟩ := st
    rcases List.mem_cons.mp hc with rfl | hc
    · exact ⟨_, hz, fun v q => nomatch q⟩
    rcases List.mem_cons.mp hc with rfl | hc
    · exact ⟨_, hTI, fun v q => nomatch q⟩
    rcases List.mem_cons.mp hc with rfl | hc
    · exact ⟨_, hTO, fun v q => nomatch q⟩
    obtain ⟨o, l, e, d⟩ := hi.ob c hc
    exact ⟨o, e, fun v q => by rw [d] at q; cases q⟩
  keep := fun i h h' st k => by
    obtain ⟨hz, hTI, ⟨olds, hl, hTO⟩, hi⟩ := st
    exact ⟨k z List.mem_cons_self _ hz, k TI (by simp) _ hTI, ⟨olds, hl, k TO (by simp) _ hTO⟩, hi.at fun j hj o e => k j (by simp [hj]) o e⟩
  item := by
    intro X hP hw hK hc i pins s σ H E I hf st hg
    subst hP hw hK
    obtain ⟨hz, hTI, ⟨olds, hol, hTO⟩, hi⟩ := st
    obtain ⟨ys, hrow⟩ := hg
    obtain ⟨r, us, e1, e2, e3, e4⟩ := row_ob I hrow
    subst e1
    have hzl : z < s.heap.objs.size := Heap.lt_size hz
    have ha := allAt_of hi e2
    have hys : ys.length ≤ 1000 := by rw [e4.length, ← e3.len, ← ha.len]; exact D.sm
    have hpart : ∀ c ∈ z :: TI :: TO :: is, c < s.heap.objs.size := fun c hcm => by
      rcases List.mem_cons.mp hcm with rfl | hcm
      · exact hzl
      rcases List.mem_cons.mp hcm with rfl | hcm
      · exact Heap.lt_size hTI
      rcases List.mem_cons.mp hcm with rfl | hcm
      · exact Heap.lt_size hTO
      exact ha.lt c hcm
    refine pyNext_item D.ne hz hTI hTO ha e3 hol D.sm D.nd D.zi D.oi D.zT (fun q hq => ⟨(D.sr _ (bare_mem hq)).1, (D.sr _ (bare_mem hq)).2.1, (D.sr _ (bare_mem hq)).2.2.2⟩) fun g z1 TO1 a1 T1 sz1 k1 => ?_
    refine ⟨_, rfl, wpAny_letOwnedTupleGo_zip (s := { s with heap := g }) z1 fun g2 z2 sb => ?_⟩
    have T2 : g2.get? s.heap.objs.size = some { cls := .type "tuple", data := .seq us.toArray } := (sb.2 _ (Nat.ne_of_gt hzl)).trans T1
    have new : ObjOk X.prog X.w (upd H s.heap.objs.size (.tup ys)) g2 s.heap.objs.size (.tup ys) := ⟨Nat.le_trans hys (by decide), us, e4, ⟨_, T2, rfl, _, rfl⟩⟩
    have I1 : Inv X pins σ (upd H s.heap.objs.size (.tup ys)) { s with heap := g2 } :=
      I.turnedNew (t' := s.toks) (ch := z :: TI :: TO :: is) (fun c o hb q => (sb.2 c (fun q' => hb (by simp [q']))).trans (k1 c o (fun q' => hb (by simp [q'])) (fun q' => hb (by simp [q'])) (fun q' => hb (by simp [q'])) q)) hf (Nat.le_refl _) new
    refine ⟨.ref s.heap.objs.size, _, I1, rfl, ⟨_, ys, rfl, I.hok.fresh (Nat.le_refl _), rfl, fun zs hzs => row_inj I hrow hzs⟩, ⟨z2, ?_, ⟨us, ?_, ?_⟩, ?_⟩, fun c hcm => ?_⟩
    · exact (sb.2 _ D.zI.symm).trans (k1 _ _ D.zI.symm D.TT D.ti hTI)
    · rw [ha.len, e3.len]
    · exact (sb.2 _ D.zT.symm).trans TO1
    · exact a1.its.at fun j hj o q => (sb.2 _ (fun e => D.zi (e ▸ hj))).trans q
    · rw [upd_ne (Nat.ne_of_lt (hpart c hcm))]
      exact (hf c hcm).1
  done := by
    intro X hP hw hK hc i pins s σ H E I hf st hg
    subst hP hw hK
    obtain ⟨hz, hTI, ⟨olds, hol, hTO⟩, hi⟩ := st
    obtain ⟨hall, q, hq, xs, hqx, hle⟩ := hg
    obtain ⟨r, e1, e2, e3⟩ := all_ob I hall
    subst e1
    have ha := allAt_of hi e2
    obtain ⟨p, hp, hps⟩ := e3 q hq xs hqx
    exact pyNext_stop (I.ok.hd hc) D.ne hz hTI hTO ha ⟨p, hp, by rw [Array.getElem?_eq_none_iff]; omega⟩ hol D.sm D.nd D.zi D.oi D.zT (fun q hq => ⟨(D.sr _ (bare_mem hq)).1, (D.sr _ (bare_mem hq)).2.1, (D.sr _ (bare_mem hq)).2.2.2⟩)
      fun g hk => ⟨rfl, I.turnedL (t' := s.toks) (ch := z :: TI :: TO :: is) (fun c o hb q => hk c o (fun q' => hb (by simp [q'])) (fun q' => hb (by simp [q'])) (fun q' => hb (by simp [q'])) q) hf⟩
  self := fun A i s Q E st h => wpAny_pyIter_zip st.1 h
end Zn
set_option Elab.async false
set_option linter.all false
set_option maxRecDepth 100000
set_option maxHeartbeats 1000000
namespace Zn
open PySem PySem.Spec PyProof.Rows L2
open PySem.Sem (wp)
theorem tc1 (a : Value) : checkTypeCall "zip" ⟨[a], []⟩ = pure () := by kernel_rfl
theorem tc3 (a b c : Value) : checkTypeCall "zip" ⟨[a, b, c], []⟩ = pure () := by kernel_rfl
theorem nc1 (a : Value) : checkBuiltinCall "zip.__new__" ⟨[.type "zip", a], []⟩ = pure () := by kernel_rfl
theorem nc3 (a b c : Value) : checkBuiltinCall "zip.__new__" ⟨[.type "zip", a, b, c], []⟩ = pure () := by kernel_rfl
theorem tcn : ∀ {l : List Value}, 0 < l.length → l.length ≤ 3 → checkTypeCall "zip" ⟨l, []⟩ = pure ()
  | [a], _, _ => tc1 a
  | [a, b], _, _ => F.typeCall_zip_2 a b
  | [a, b, c], _, _ => tc3 a b c
theorem ncn : ∀ {l : List Value}, 0 < l.length → l.length ≤ 3 → checkBuiltinCall "zip.__new__" ⟨.type "zip" :: l, []⟩ = pure ()
  | [a], _, _ => nc1 a
  | [a, b], _, _ => F.newCall_zip_2 a b
  | [a, b, c], _, _ => nc3 a b c
theorem oi1 (a b : Value) : argsOk "object.__init__" ⟨[a, b], []⟩ := by
  unfold argsOk; rw [signature?_of (id := "object.__init__") (n := ['_', '_', 't', 'i', 'n', 'i', '_', '_']) (o := ['t', 'c', 'e', 'j', 'b', 'o']) (by kernel_rfl) F.owner_object]; kernel_rfl
theorem oi3 (a b c d : Value) : argsOk "object.__init__" ⟨[a, b, c, d], []⟩ := by
  unfold argsOk; rw [signature?_of (id := "object.__init__") (n := ['_', '_', 't', 'i', 'n', 'i', '_', '_']) (o := ['t', 'c', 'e', 'j', 'b', 'o']) (by kernel_rfl) F.owner_object]; kernel_rfl
theorem oin : ∀ {l : List Value}, 0 < l.length → l.length ≤ 3 → ∀ obj, argsOk "object.__init__" ⟨obj :: l, []⟩
  | [a], _, _ => fun o => oi1 o a
  | [a, b], _, _ => fun o => F.args_object_init_3 o a b
  | [a, b, c], _, _ => fun o => oi3 o a b c
section
variable {prog : Program} {w : World} {A : Around} {E : Value → Shared → Prop} {s : Shared}
theorem call_zipN {r : List Src} {Q : Value → Shared → Prop} (h0 : 0 < r.length) (h3 : r.length ≤ 3) (hs : Srcs s.heap r) (h : ∀ h', Made s.heap h' r → Q (.ref (s.heap.objs.size + r.length + 2)) { s with heap := h' }) :
    wpAny (model prog w) A (call (.type "zip") (r.map fun q => Value.ref q.2.1)) Q E s :=
  callType_new F.called_zip (by decide) (tcn (by simpa using h0) (by simpa using h3)) (ncn (by simpa using h0) (by simpa using h3)) (oin (by simpa using h0) (by simpa using h3)) F.entry_zip_new
    (zip_new r (by omega)) ⟨hs, fun h' m => ⟨⟨_, m.zr, rfl⟩, h h' m⟩⟩
end
theorem srcs_lt {h : Heap} : ∀ {r : List Src}, Srcs h r → ∀ q ∈ r, q.2.1 < h.objs.size
  | (t, l, xs) :: r, x, q, hq => by
    rcases List.mem_cons.mp hq with rfl | hq
    · exact x.1.lt
    · exact srcs_lt x.2 q hq
theorem nA (n r : Nat) : n + r + 2 ≠ n + r + 1 := by omega
theorem nB (n r : Nat) : n + r + 2 ≠ n + r := by omega
theorem nC (n r : Nat) : n + r ≠ n + r + 1 := by omega
theorem nD {n r l : Nat} (k : Nat) (h : l < n) : l ≠ n + r + k := by omega
theorem nE {n r l : Nat} (h : l < n) : l ≠ n + r := by omega
theorem nF {n l : Nat} (h : l < n) (h2 : n ≤ l) : False := by omega
theorem nG {n r : Nat} (k : Nat) (h : n + r + k < n + r) : False := by omega
theorem nH {n r : Nat} (h : n + r < n + r) : False := by omega
theorem made_apart {h h' : Heap} {r : List Src} (m : Made h h' r) (hs : Srcs h r) (h0 : 0 < r.length) (h3 : r.length ≤ 1000) :
    Apart (h.objs.size + r.length + 2) (h.objs.size + r.length) (h.objs.size + r.length + 1) (news h.objs.size r) (bare r) where
  nd := news_nodup r _
  zi := fun q => nG 2 (news_mem q).2
  ti := fun q => nH (news_mem q).2
  oi := fun q => nG 1 (news_mem q).2
  zT := nA _ _
  zI := nB _ _
  TT := nC _ _
  sr := fun q hq => by
    obtain ⟨p, hp, rfl⟩ := List.mem_map.mp hq
    have hl := srcs_lt hs p hp
    exact ⟨nD 1 hl, nD 2 hl, nE hl, fun z => nF hl (news_mem z).1⟩
  ne := fun z => by
    have := news_len h.objs.size r
    rw [z] at this
    have : (0 : Nat) = r.length := this
    omega
  sm := by rw [news_len]; exact h3
section
variable {X : Cx}
def kRefs (src : List (Bool × Addr)) : List V := src.map fun q => V.ref q.2
/-- the sequences of the abstract heap, as they stand -/
theorem srcs_of {pins : List (Addr × Obj)} {σ : L2.St} {H : Hp} {s : Shared} (I : Inv X pins σ H s) {src : List (Bool × Addr)} (h : AllSq X.K H src) : ∃ r : List Src, bare r = src ∧ Srcs s.heap r :=
  let ⟨r, e1, e2, _⟩ := all_ob I h; ⟨r, e1, e2⟩
theorem vals_refs : ∀ {src : List (Bool × Addr)} {us : List Value}, Vals (kRefs src) us → us = src.map fun q => Value.ref q.2
  | [], [], .nil => rfl
  | (t, a) :: r, u :: us, .cons ru t' => by
    have e : u = Value.ref a := ru
    rw [e, vals_refs t', List.map_cons]
/-- an iterator over the zip of 1 to 3 sequences has come -/
theorem zip_come {pins : List (Addr × Obj)} {σ : L2.St} {H : Hp} {s : Shared} {us : List Value} {R : It → Hp → Prop} {elts : List Expr} {kk : Nat} {tpos : Pos} {E : Value → Shared → Prop} (I : Inv X pins σ H s) {src : List (Bool × Addr)} (rv : Vals (kRefs src) us)
    (h0 : 0 < src.length) (h3 : src.length ≤ 3) (ha : AllSq X.K H src) (q : R (Itn X.K src) H) :
    wpAny (model X.prog X.w) X.A (call (.type "zip") us) (fun v s1 => wpAny (model X.prog X.w) X.A (pyIter v) (PIE X pins σ (.Tuple elts kk tpos) R) E s1) E s := by
  obtain ⟨r, e1, e2⟩ := srcs_of I ha
  have e3 := vals_refs rv
  subst e1
  have hl : (bare r).length = r.length := List.length_map ..
  rw [hl] at h0 h3
  have e4 : us = r.map fun q => Value.ref q.2.1 := by rw [e3]; unfold bare; rw [List.map_map]; rfl
  rw [e4]
  refine call_zipN h0 h3 e2 fun g m => wpAny_pyIter_zip m.zr ?_
  have I2 : Inv X pins σ H { s with heap := g } := I.kept (t' := s.toks) m.kp
  refine ⟨_, _, _, _, H, rfl, I2, turn_n (made_apart m e2 h0 (by omega)), ⟨m.zr, m.ti, ⟨_, ?_, m.to⟩, m.all.its⟩, fun c hcm => ?_, q⟩
  · rw [List.length_map, news_len]
  · have hle : s.heap.objs.size ≤ c := by
      rcases List.mem_cons.mp hcm with rfl | hcm
      · exact Nat.le_add_right_of_le (Nat.le_add_right ..)
      rcases List.mem_cons.mp hcm with rfl | hcm
      · exact Nat.le_add_right ..
      rcases List.mem_cons.mp hcm with rfl | hcm
      · exact Nat.le_add_right_of_le (Nat.le_add_right ..)
      exact (news_mem hcm).1
    exact I.fpOk hle (I.hok.fresh hle)
def iZn (K : PySem.W.Frag) (ta : TA) : TI := fun σ H R => ta σ H fun vs H1 => ∃ src : List (Bool × Addr), vs = kRefs src ∧ 0 < src.length ∧ src.length ≤ 3 ∧ AllSq K H1 src ∧ R (Itn K src) H1
/-- for a, b in zip(x, y): lists and tuples, mixed -/
theorem pi_zipn {e : Expr} {es : List Expr} {ta : TA} {p pos tpos : Pos} {elts : List Expr} {kk : Nat} (hg : Gl X "zip") (hm : X.mg "zip" = none) (ha : PA X (e :: es) ta)
    (hs : starEach (e :: es) X.env = (false, eval e X.env) :: starEach es X.env := by rfl) (hpl : (backTo pos (starEach es X.env)).any (·.1) = false := by rfl) :
    PI X (.Tuple elts kk tpos) (.Call (.Name "zip" p) (e :: es) [] pos) (iZn X.K ta) := by
  refine ⟨fun pins s σ H R I h => ?_⟩
  refine Call_ (ld_blt I hg hm PyProof.Rows.boot_zip (PyProof.Rows.callWith_type1 (thn (ha.run pos pins s σ H _ I h) fun us s1 ⟨vs, H1, I1, r1, q1⟩ => ?_) hs hpl))
  obtain ⟨src, rfl, h0, h3, hq, q⟩ := q1
  exact zip_come I1 r1 h0 h3 hq q
end
end Zn
set_option Elab.async false
set_option linter.all false
set_option maxRecDepth 100000
set_option maxHeartbeats 1000000
namespace Zs
open PySem PySem.Spec PyProof.Rows L2 Zn
open PySem.Sem (wp)
abbrev ZipB (h : Heap) (z TI TO : Addr) (f0 : Value) (b : Bool) : Prop :=
  h.get? z = some { cls := .type "zip", dict := none, data := .fields #[f0, .bool b, .bool false, .ref TI, .ref TO], slots := #[] }
/-- none was handed out yet, or one was -/
def Own (f0 : Value) : Prop := f0 = .none ∨ ∃ T : Addr, f0 = rawInt T
/-- an exhausted sequence ends the loop's body -/
def StopOkB (M : Model) (A : Around) {β : Type} (f : Value × Nat → β → Sem (ForInStep β)) (b0 : β) (z TI TO : Addr) (b : Bool) : Prop :=
  ∀ (s : Shared) (i l : Addr) (t : Bool) (k j : Nat) (xs : Array Value) (Q : ForInStep β → Shared → Prop) (E : Value → Shared → Prop), ItK t s.heap i l k → SqK t s.heap l xs → xs[k]? = none → i ≠ z → ZipB s.heap z TI TO .ellipsis b →
    (∀ h' e, (∀ c o, c ≠ z → c ≠ i → s.heap.get? c = some o → h'.get? c = some o) → StopAt h' e → E (.ref e) { s with heap := h' }) → wpAny M A (f (.ref i, j) b0) Q E s
section
variable {prog : Program} {w : World} {A : Around} {E : Value → Shared → Prop} {s : Shared}
theorem stop_allB {β : Type} {M : Model} {f : Value × Nat → β → Sem (ForInStep β)} {b0 : β} {z TI TO : Addr} {b : Bool} {Q : β → Shared → Prop} (hf : DrawOk M A f b0 TO) (hg : StopOkB M A f b0 z TI TO b) (k : Nat) (is : List Addr) :
    ∀ (r : List Src) (olds pre : List Value) (s : Shared), AllAt s.heap k is r → (∃ q ∈ r, q.2.2[k]? = none) → r.length = olds.length → (pre ++ olds).length ≤ 1000 → is.Nodup → TO ∉ is → z ∉ is → z ≠ TO → (∀ q ∈ r, q.2.1 ≠ TO ∧ q.2.1 ∉ is) →
      ZipB s.heap z TI TO .ellipsis b → TupAt s.heap TO (pre ++ olds) →
      (∀ h' e, (∀ c o, c ≠ z → c ≠ TO → c ∉ is → s.heap.get? c = some o → h'.get? c = some o) → StopAt h' e → E (.ref e) { s with heap := h' }) →
      wpAny M A (forIn ((is.map Value.ref).zipIdx pre.length) b0 f) Q E s := by
  induction is with
  | nil =>
    intro r olds pre s ha hy _ _ _ _ _ _ _ _ _ _
    cases r with
    | cons _ _ => exact ha.elim
    | nil => obtain ⟨q, hq, _⟩ := hy; cases hq
  | cons i is ih =>
    intro r olds pre s ha hy hl hbd hn hTO hzi hzT hs hz hT hE
    cases r with
    | nil => exact ha.elim
    | cons q r =>
      obtain ⟨t, l, xs⟩ := q
      cases olds with
      | nil => cases hl
      | cons o olds =>
        have ha1 : ItK t s.heap i l k := ha.1
        have ha2 : SqK t s.heap l xs := ha.2.1
        have ha3 : AllAt s.heap k is r := ha.2.2
        rw [List.map_cons, List.zipIdx_cons, List.forIn_cons]
        have hni : i ∉ is := (List.nodup_cons.mp hn).1
        have hiT : i ≠ TO := fun e => hTO (e ▸ List.mem_cons_self)
        have hiz : i ≠ z := fun e => hzi (e ▸ List.mem_cons_self)
        have hq := hs _ List.mem_cons_self
        have hq1 : l ≠ TO := hq.1
        have hq2 : l ∉ i :: is := hq.2
        cases hx : xs[k]? with
        | none =>
          exact wpAny_bind (hg s i l t k _ xs _ _ ha1 ha2 hx hiz hz fun h' e hk he => hE h' e (fun c o c1 c2 c3 x => hk c o c1 (fun q => c3 (q ▸ List.mem_cons_self)) x) he)
        | some y =>
          have hy2 : ∃ q ∈ r, q.2.2[k]? = none := by
            obtain ⟨q, hq, e⟩ := hy
            rcases List.mem_cons.mp hq with rfl | hq
            · rw [hx] at e; cases e
            · exact ⟨q, hq, e⟩
          refine wpAny_bind (hf s i l t k xs y o pre olds _ E ha1 ha2 hx hiT hq1 (fun e => hq2 (e ▸ List.mem_cons_self)) hbd hT fun h1 hi1 hT1 hz1 hk1 => ?_)
          have e1 : pre.length + 1 = (pre ++ [y]).length := by simp
          have hT1' : TupAt h1 TO ((pre ++ [y]) ++ olds) := by
            rw [List.append_assoc]
            exact hT1
          have goal := ih r olds (pre ++ [y]) { s with heap := h1 } (ha3.at (fun j hj o e => hk1 j o (fun q => hTO (q ▸ List.mem_cons_of_mem _ hj)) (fun q => hni (q ▸ hj)) e)
            fun q hqm o e => hk1 _ o (hs q (List.mem_cons_of_mem _ hqm)).1 (fun z => (hs q (List.mem_cons_of_mem _ hqm)).2 (z ▸ List.mem_cons_self)) e) hy2 (Nat.succ.inj hl) (by simpa using hbd) (List.nodup_cons.mp hn).2 (fun z => hTO (List.mem_cons_of_mem _ z))
            (fun q => hzi (List.mem_cons_of_mem _ q)) hzT (fun q hqm => ⟨(hs q (List.mem_cons_of_mem _ hqm)).1, fun z => (hs q (List.mem_cons_of_mem _ hqm)).2 (List.mem_cons_of_mem _ z)⟩) (hk1 z _ hzT hiz.symm hz) hT1' fun h2 e hk2 he =>
              hE h2 e (fun c o c1 c2 c3 x => hk2 c o c1 c2 (fun q => c3 (List.mem_cons_of_mem _ q)) (hk1 c o c2 (fun q => c3 (q ▸ List.mem_cons_self)) x)) he
          rw [← e1] at goal
          exact goal
theorem alive {a : Addr} {Q : Option Obj → Shared → Prop} (h : Q (s.heap.get? a) s) : wpAny (model prog w) A (loadIfAlive a) Q E s := fun Γ p hΓ => by
  unfold loadIfAlive
  rw [Sem.wp_loadIfAlive]
  exact wpAny_pure h Γ p hΓ
/-- is it free: either answer, the record then with that mark -/
theorem is_free {z TI TO : Addr} {f0 : Value} {b : Bool} {Q : Bool → Shared → Prop} (ow : Own f0) (hz : ZipB s.heap z TI TO f0 b)
    (h1 : Q true s) (h2 : ∀ h', ZipB h' z TI TO f0 true → Heap.SameBut z s.heap h' → Q false { s with heap := h' }) :
    wpAny (model prog w) A (Builtin.SmallTypes.ownedTupleIsFree (.ref z)) Q E s := by
  unfold Builtin.SmallTypes.ownedTupleIsFree
  rcases ow with rfl | ⟨T, rfl⟩
  · exact wpAny_bind (wpAny_field hz rfl (x := .none) rfl (wpAny_pure h1))
  · refine wpAny_bind (wpAny_field hz rfl (x := rawInt T) rfl ?_)
    show wpAny _ _ (loadIfAlive _ >>= _) _ _ _
    refine wpAny_bind (alive ?_)
    cases e : s.heap.get? (Int.toNat (T : Int)) with
    | none => exact wpAny_pure h1
    | some o =>
      show wpAny _ _ (field (.ref z) 1 >>= _) _ _ _
      refine wpAny_bind (wpAny_field hz rfl (x := .bool b) rfl ?_)
      cases b with
      | true => exact wpAny_pure (h2 s.heap hz ⟨rfl, fun _ _ => rfl⟩)
      | false =>
        show wpAny _ _ (setField (.ref z) 1 (.bool true) >>= _) _ _ _
        exact wpAny_bind (wpAny_setField_rec hz (by simp) fun g hg hs => wpAny_pure (h2 g hg hs))
/-- drawing one after another into a new array -/
def Draw2 (M : Model) (A : Around) (f : Value → (Option Fin × Array Value) → Sem (ForInStep (Option Fin × Array Value))) : Prop :=
  ∀ (s : Shared) (i l : Addr) (t : Bool) (k : Nat) (xs : Array Value) (x : Value) (acc : Array Value) (Q : ForInStep (Option Fin × Array Value) → Shared → Prop) (E : Value → Shared → Prop), ItK t s.heap i l k → SqK t s.heap l xs → xs[k]? = some x →
    (∀ h', ItK t h' i l (k + 1) → h'.objs.size = s.heap.objs.size → (∀ c o, c ≠ i → s.heap.get? c = some o → h'.get? c = some o) → Q (.yield (none, acc.push x)) { s with heap := h' }) → wpAny M A (f (.ref i) (none, acc)) Q E s
def Stop2 (M : Model) (A : Around) (f : Value → (Option Fin × Array Value) → Sem (ForInStep (Option Fin × Array Value))) : Prop :=
  ∀ (s : Shared) (i l : Addr) (t : Bool) (k : Nat) (xs : Array Value) (acc : Array Value) (Q : ForInStep (Option Fin × Array Value) → Shared → Prop) (E : Value → Shared → Prop), ItK t s.heap i l k → SqK t s.heap l xs → xs[k]? = none →
    (∀ h' e, (∀ c o, c ≠ i → s.heap.get? c = some o → h'.get? c = some o) → StopAt h' e → E (.ref e) { s with heap := h' }) → wpAny M A (f (.ref i) (none, acc)) Q E s
theorem draws2 {M : Model} {f : Value → (Option Fin × Array Value) → Sem (ForInStep (Option Fin × Array Value))} {Q : (Option Fin × Array Value) → Shared → Prop} (hf : Draw2 M A f) (k : Nat) (is : List Addr) :
    ∀ (r : List Src) (ys : List Value) (acc : Array Value) (s : Shared), AllAt s.heap k is r → Items k r ys → is.Nodup → (∀ q ∈ r, q.2.1 ∉ is) →
      (∀ h', AllAt h' (k + 1) is r → h'.objs.size = s.heap.objs.size → (∀ c o, c ∉ is → s.heap.get? c = some o → h'.get? c = some o) → Q (none, acc ++ ys.toArray) { s with heap := h' }) →
      wpAny M A (forIn (is.map Value.ref) (none, acc) f) Q E s := by
  induction is with
  | nil =>
    intro r ys acc s ha hy _ _ hQ
    cases r with
    | cons _ _ => exact ha.elim
    | nil =>
      cases ys with
      | cons _ _ => exact hy.elim
      | nil =>
        rw [List.map_nil, List.forIn_nil]
        have := hQ s.heap trivial rfl fun _ _ _ e => e
        exact wpAny_pure (by simpa using this)
  | cons i is ih =>
    intro r ys acc s ha hy hn hs hQ
    cases r with
    | nil => exact ha.elim
    | cons q r =>
      obtain ⟨t, l, xs⟩ := q
      cases ys with
      | nil => exact hy.elim
      | cons y ys =>
        have ha1 : ItK t s.heap i l k := ha.1
        have ha2 : SqK t s.heap l xs := ha.2.1
        have ha3 : AllAt s.heap k is r := ha.2.2
        have hy1 : xs[k]? = some y := hy.1
        have hy2 : Items k r ys := hy.2
        rw [List.map_cons, List.forIn_cons]
        have hni : i ∉ is := (List.nodup_cons.mp hn).1
        have hq2 : l ∉ i :: is := hs _ List.mem_cons_self
        have hli : l ≠ i := fun e => hq2 (e ▸ List.mem_cons_self)
        refine wpAny_bind (hf s i l t k xs y acc _ E ha1 ha2 hy1 fun h1 hi1 hz1 hk1 => ?_)
        refine ih r ys (acc.push y) { s with heap := h1 } (ha3.at (fun j hj o e => hk1 j o (fun q => hni (q ▸ hj)) e) fun q hqm o e => hk1 _ o (fun z => hs q (List.mem_cons_of_mem _ hqm) (z ▸ List.mem_cons_self)) e) hy2 (List.nodup_cons.mp hn).2
          (fun q hqm z => hs q (List.mem_cons_of_mem _ hqm) (List.mem_cons_of_mem _ z)) fun h2 ha2' hz2 hk2 => ?_
        have e3 : acc.push y ++ ys.toArray = acc ++ (y :: ys).toArray := by simp
        rw [e3]
        exact hQ h2 ⟨hi1.at fun o e => hk2 i o hni e, ha2.at fun o e => hk2 l o (fun z => hq2 (List.mem_cons_of_mem _ z)) (hk1 l o hli e), ha2'⟩ (hz2.trans hz1) fun c o c2 e => hk2 c o (fun z => c2 (List.mem_cons_of_mem _ z)) (hk1 c o (fun z => c2 (z ▸ List.mem_cons_self)) e)
theorem stops2 {M : Model} {f : Value → (Option Fin × Array Value) → Sem (ForInStep (Option Fin × Array Value))} {Q : (Option Fin × Array Value) → Shared → Prop} (hf : Draw2 M A f) (hg : Stop2 M A f) (k : Nat) (is : List Addr) :
    ∀ (r : List Src) (acc : Array Value) (s : Shared), AllAt s.heap k is r → (∃ q ∈ r, q.2.2[k]? = none) → is.Nodup → (∀ q ∈ r, q.2.1 ∉ is) →
      (∀ h' e, (∀ c o, c ∉ is → s.heap.get? c = some o → h'.get? c = some o) → StopAt h' e → E (.ref e) { s with heap := h' }) →
      wpAny M A (forIn (is.map Value.ref) (none, acc) f) Q E s := by
  induction is with
  | nil =>
    intro r acc s ha hy _ _ _
    cases r with
    | cons _ _ => exact ha.elim
    | nil => obtain ⟨q, hq, _⟩ := hy; cases hq
  | cons i is ih =>
    intro r acc s ha hy hn hs hE
    cases r with
    | nil => exact ha.elim
    | cons q r =>
      obtain ⟨t, l, xs⟩ := q
      have ha1 : ItK t s.heap i l k := ha.1
      have ha2 : SqK t s.heap l xs := ha.2.1
      have ha3 : AllAt s.heap k is r := ha.2.2
      rw [List.map_cons, List.forIn_cons]
      have hni : i ∉ is := (List.nodup_cons.mp hn).1
      have hq2 : l ∉ i :: is := hs _ List.mem_cons_self
      cases hx : xs[k]? with
      | none => exact wpAny_bind (hg s i l t k xs acc _ _ ha1 ha2 hx fun h' e hk he => hE h' e (fun c o c3 x => hk c o (fun q => c3 (q ▸ List.mem_cons_self)) x) he)
      | some y =>
        have hy2 : ∃ q ∈ r, q.2.2[k]? = none := by
          obtain ⟨q, hq, e⟩ := hy
          rcases List.mem_cons.mp hq with rfl | hq
          · rw [hx] at e; cases e
          · exact ⟨q, hq, e⟩
        refine wpAny_bind (hf s i l t k xs y acc _ E ha1 ha2 hx fun h1 hi1 hz1 hk1 => ?_)
        exact ih r (acc.push y) { s with heap := h1 } (ha3.at (fun j hj o e => hk1 j o (fun q => hni (q ▸ hj)) e) fun q hqm o e => hk1 _ o (fun z => hs q (List.mem_cons_of_mem _ hqm) (z ▸ List.mem_cons_self)) e) hy2 (List.nodup_cons.mp hn).2
          (fun q hqm z => hs q (List.mem_cons_of_mem _ hqm) (List.mem_cons_of_mem _ z)) fun h2 e hk2 he => hE h2 e (fun c o c3 x => hk2 c o (fun q => c3 (List.mem_cons_of_mem _ q)) (hk1 c o (fun q => c3 (q ▸ List.mem_cons_self)) x)) he
/-- one turn: whichever way the tuple comes -/
theorem turn_item {z TI TO : Addr} {f0 : Value} {b : Bool} {is : List Addr} {r : List Src} {k : Nat} {ys olds : List Value} {Q : Value → Shared → Prop} (ow : Own f0) (hne : is ≠ [])
    (hz : ZipB s.heap z TI TO f0 b) (hTI : TupAt s.heap TI (is.map Value.ref)) (hTO : TupAt s.heap TO olds) (ha : AllAt s.heap k is r) (hy : Items k r ys) (hlo : olds.length = is.length) (hsm : is.length ≤ 1000)
    (hnd : is.Nodup) (hzi : z ∉ is) (hTOi : TO ∉ is) (hTIi : TI ∉ is) (hzT : z ≠ TO) (hzI : z ≠ TI) (hTT : TI ≠ TO) (hs : ∀ q ∈ r, q.2.1 ≠ TO ∧ q.2.1 ≠ z ∧ q.2.1 ∉ is)
    (hQ : ∀ h' f1 b1 olds', Own f1 → ZipB h' z TI TO f1 b1 → olds'.length = is.length → TupAt h' TO olds' → AllAt h' (k + 1) is r → TupAt h' s.heap.objs.size ys →
      (∀ c o, c ≠ z → c ≠ TO → c ∉ is → s.heap.get? c = some o → h'.get? c = some o) → Q (.ref s.heap.objs.size) { s with heap := h' }) :
    wpAny (model prog w) A (Builtin.«zip.__next__» ⟨[.ref z], []⟩) (fun fin s' => ∃ v, fin = .done (.ret v) ∧ Q v s') E s := by
  show wpAny _ _ (field (.ref z) 2 >>= _) _ _ _
  refine wpAny_bind (wpAny_field hz rfl (x := .bool false) rfl ?_)
  show wpAny _ _ (field (.ref z) 3 >>= _) _ _ _
  refine wpAny_bind (wpAny_field hz rfl (x := .ref TI) rfl ?_)
  refine wpAny_bind (wpAny_seqItems hTI rfl ?_)
  have hem : (is.map Value.ref).toArray.isEmpty = false := by
    cases is with
    | nil => exact absurd rfl hne
    | cons _ _ => simp
  simp only [hem, Bool.false_eq_true, if_false]
  have hly : ys.length = olds.length := by rw [hlo, ha.len, ← hy.len]
  have hyl : ys.length ≤ sizeLine := Nat.le_trans (by rw [hly, hlo]; exact hsm) (by decide)
  refine wpAny_bind (is_free ow hz ?one fun g0 hz0 hs0 => ?two)
  case two =>
    -- a new tuple
    simp only [Bool.false_eq_true, if_false]
    have up0 : ∀ c o, c ≠ z → s.heap.get? c = some o → g0.get? c = some o := fun c o c1 e => hs0.extBut _ _ c1 e
    have ha0 : AllAt g0 k is r := ha.at (fun i hi o e => up0 i o (fun q => hzi (q ▸ hi)) e) fun q hq o e => up0 _ o (hs q hq).2.1 e
    rw [List.forIn_toArray]
    refine wpAny_bind (draws2 (M := model prog w) (A := A) (E := E) (Q := _) ?hf k is r ys #[] { s with heap := g0 } ha0 hy hnd (fun q hq => (hs q hq).2.2) fun g2 ha2 hz2 hk2 => ?_)
    case hf =>
      intro s2 i l t k2 xs x acc Q2 E2 hi hl hx kq
      show wpAny _ _ (holding _ (Builtin.SmallTypes.nextOf (.ref i) >>= fun v => pure (some v)) >>= _) _ _ _
      refine wpAny_bind (wpAny_holding ?_)
      refine wpAny_bind (nextOf_item hi hl hx fun g2 hi2 hs2 => wpAny_pure (wpAny_pure ?_))
      exact kq g2 hi2 hs2.1 fun c o c1 e => hs2.extBut _ _ c1 e
    refine wpAny_bind (wpAny_newTuple ?_ (by simpa using hyl))
    have hsz : g2.objs.size = s.heap.objs.size := hz2.trans hs0.1
    refine wpAny_pure ⟨_, rfl, ?_⟩
    show Q (.ref g2.objs.size) _
    rw [hsz]
    have e5 : ((#[] ++ ys.toArray).toList.toArray : Array Value) = ys.toArray := by simp
    have upn : ∀ c o, g2.get? c = some o → (g2.push { cls := .type "tuple", data := .seq (#[] ++ ys.toArray).toList.toArray }).get? c = some o := fun c o e => Heap.get?_push_of_some _ e
    refine hQ _ f0 true olds ow (upn z _ (hk2 z _ hzi hz0)) hlo (upn TO _ (hk2 TO _ hTOi (up0 TO _ hzT.symm hTO))) (ha2.at (fun i _ o e => upn i o e) fun q _ o e => upn _ o e) ?_ fun c o c1 c2 c3 e => upn c o (hk2 c o c3 (up0 c o c1 e))
    have := Heap.get?_push_size g2 (o := { cls := .type "tuple", data := .seq (#[] ++ ys.toArray).toList.toArray }) rfl
    rw [hsz, e5] at this
    rw [e5]
    exact this
  case one =>
    simp only [if_true]
    refine wpAny_bind (wpAny_rule ?_)
    refine wpAny_bind (wpAny_field hz rfl (x := .ref TO) rfl ?_)
    refine wpAny_bind (wpAny_setField_rec hz (by simp) fun g1 hz1 hs1 => ?_)
    replace hz1 : ZipB g1 z TI TO .ellipsis b := hz1
    have up1 : ∀ c o, c ≠ z → s.heap.get? c = some o → g1.get? c = some o := fun c o c1 e => hs1.extBut _ _ c1 e
    have ha1 : AllAt g1 k is r := ha.at (fun i hi o e => up1 i o (fun q => hzi (q ▸ hi)) e) fun q hq o e => up1 _ o (hs q hq).2.1 e
    refine wpAny_bind ?_
    refine draw_all (M := model prog w) (A := A) (E := E) (b0 := (none, ())) (TO := TO) (Q := _) ?hf k is r ys olds [] { s with heap := g1 } ha1 hy hly (by simpa [hlo] using hsm) hnd hTOi (fun q hq => ⟨(hs q hq).1, (hs q hq).2.2⟩) (up1 TO _ hzT.symm hTO) ?hq
    case hf =>
      intro s2 i l t k2 xs x old pre post Q2 E2 hi hl hx hiT hlT hli hbd hT2 kq
      show wpAny _ _ (((Builtin.SmallTypes.nextOf (.ref i) >>= fun v => pure (some v)).onRaise _) >>= _) _ _ _
      refine wpAny_bind (wpAny_onRaise ?_)
      refine wpAny_bind (nextOf_item hi hl hx fun g2 hi2 hs2 => wpAny_pure ?_)
      have hT3 : TupAt g2 TO (pre ++ old :: post) := hs2.extBut _ _ hiT.symm hT2
      refine wpAny_bind (wpAny_seqItems hT3 rfl ?_)
      have hb2 : (pre ++ old :: post).length ≤ sizeLine := Nat.le_trans hbd (by decide)
      refine wpAny_bind (wpAny_updateSeq hT3 rfl ?_ (by rw [List.size_toArray]; exact hb2) (by rw [Array.size_setIfInBounds, List.size_toArray]; exact Nat.le_succ_of_le hb2))
      refine wpAny_bind (wpAny_letGo (wpAny_pure ?_))
      have hup : Heap.SameBut TO g2 (g2.update TO (Obj.mapSeq fun v => v.setIfInBounds pre.length x)) := Heap.SameBut.update ..
      refine kq _ (hi2.at fun o e => hup.extBut _ _ hiT e) ?_ (hup.1.trans hs2.1) fun c o c1 c2 e => hup.extBut _ _ c1 (hs2.extBut _ _ c2 e)
      show (g2.update TO _).get? TO = _
      rw [Heap.get?_update_self _ hT3 rfl]
      simp [Obj.mapSeq, List.set_append]
    case hq =>
      intro g2 ha2 hT2 hz2 hk2
      refine wpAny_bind (wpAny_seqItems hT2 rfl ?_)
      refine wpAny_bind (wpAny_newTuple ?_ (by simpa using hyl))
      have hsz : g2.objs.size = s.heap.objs.size := hz2.trans hs1.1
      have hz3 : ZipB g2 z TI TO .ellipsis b := hk2 z _ hzT hzi hz1
      have hzlt : z < g2.objs.size := Heap.lt_size hz3
      show wpAny _ _ (Builtin.SmallTypes.ownedTupleHandOut (.ref z) (.ref g2.objs.size) >>= _) _ _ _
      refine wpAny_bind ?_
      unfold Builtin.SmallTypes.ownedTupleHandOut
      have hz4 : ZipB (g2.push { cls := .type "tuple", data := .seq ([] ++ ys).toArray.toList.toArray }) z TI TO .ellipsis b := Heap.get?_push_of_some _ hz3
      refine wpAny_bind (wpAny_setField_rec hz4 (by simp) fun g5 hz5 hs5 => ?_)
      replace hz5 : ZipB g5 z TI TO (rawInt g2.objs.size) b := hz5
      refine wpAny_setField_rec hz5 (by simp) fun g6 hz6 hs6 => ?_
      replace hz6 : ZipB g6 z TI TO (rawInt g2.objs.size) false := hz6
      have up : ∀ c o, c ≠ z → g2.get? c = some o → g6.get? c = some o := fun c o c1 e => hs6.extBut _ _ c1 (hs5.extBut _ _ c1 (Heap.get?_push_of_some _ e))
      have hnew : TupAt g6 g2.objs.size ys := by
        have e := hs6.extBut _ _ (Nat.ne_of_gt hzlt) (hs5.extBut _ _ (Nat.ne_of_gt hzlt) (Heap.get?_push_size g2 (o := { cls := .type "tuple", data := .seq ([] ++ ys).toArray.toList.toArray }) rfl))
        simpa using e
      have hT6 : TupAt g6 TO ys := up TO _ hzT.symm hT2
      refine wpAny_pure ⟨_, rfl, ?_⟩
      show Q (.ref g2.objs.size) _
      rw [hsz] at hz6 hnew ⊢
      exact hQ g6 _ false ys (.inr ⟨_, rfl⟩) hz6 (hly.trans hlo) hT6 (ha2.at (fun i hi o e => up i o (fun q => hzi (q ▸ hi)) e) fun q hq o e => up _ o (hs q hq).2.1 e) hnew fun c o c1 c2 c3 e => up c o c1 (hk2 c o c2 c3 (up1 c o c1 e))
/-- .. at which some sequence has come to its end -/
theorem turn_stop {z TI TO : Addr} {f0 : Value} {b : Bool} {is : List Addr} {r : List Src} {k : Nat} {olds : List Value} {Q : Fin → Shared → Prop} (hh : A.handled = none) (ow : Own f0) (hne : is ≠ [])
    (hz : ZipB s.heap z TI TO f0 b) (hTI : TupAt s.heap TI (is.map Value.ref)) (hTO : TupAt s.heap TO olds) (ha : AllAt s.heap k is r) (hy : ∃ q ∈ r, q.2.2[k]? = none) (hlo : olds.length = is.length) (hsm : is.length ≤ 1000)
    (hnd : is.Nodup) (hzi : z ∉ is) (hTOi : TO ∉ is) (hzT : z ≠ TO) (hs : ∀ q ∈ r, q.2.1 ≠ TO ∧ q.2.1 ≠ z ∧ q.2.1 ∉ is)
    (hE : ∀ h' e, (∀ c o, c ≠ z → c ≠ TO → c ∉ is → s.heap.get? c = some o → h'.get? c = some o) → StopAt h' e → E (.ref e) { s with heap := h' }) :
    wpAny (model prog w) A (Builtin.«zip.__next__» ⟨[.ref z], []⟩) Q E s := by
  show wpAny _ _ (field (.ref z) 2 >>= _) _ _ _
  refine wpAny_bind (wpAny_field hz rfl (x := .bool false) rfl ?_)
  show wpAny _ _ (field (.ref z) 3 >>= _) _ _ _
  refine wpAny_bind (wpAny_field hz rfl (x := .ref TI) rfl ?_)
  refine wpAny_bind (wpAny_seqItems hTI rfl ?_)
  have hem : (is.map Value.ref).toArray.isEmpty = false := by
    cases is with
    | nil => exact absurd rfl hne
    | cons _ _ => simp
  simp only [hem, Bool.false_eq_true, if_false]
  refine wpAny_bind (is_free ow hz ?one fun g0 hz0 hs0 => ?two)
  case two =>
    simp only [Bool.false_eq_true, if_false]
    have up0 : ∀ c o, c ≠ z → s.heap.get? c = some o → g0.get? c = some o := fun c o c1 e => hs0.extBut _ _ c1 e
    have ha0 : AllAt g0 k is r := ha.at (fun i hi o e => up0 i o (fun q => hzi (q ▸ hi)) e) fun q hq o e => up0 _ o (hs q hq).2.1 e
    rw [List.forIn_toArray]
    refine wpAny_bind (stops2 (M := model prog w) (A := A) (E := E) (Q := _) ?hf ?hg k is r #[] { s with heap := g0 } ha0 hy hnd (fun q hq => (hs q hq).2.2) fun h' e hk he => hE h' e (fun c o c1 c2 c3 x => hk c o c3 (up0 c o c1 x)) he)
    case hf =>
      intro s2 i l t k2 xs x acc Q2 E2 hi hl hx kq
      show wpAny _ _ (holding _ (Builtin.SmallTypes.nextOf (.ref i) >>= fun v => pure (some v)) >>= _) _ _ _
      refine wpAny_bind (wpAny_holding ?_)
      refine wpAny_bind (nextOf_item hi hl hx fun g2 hi2 hs2 => wpAny_pure (wpAny_pure ?_))
      exact kq g2 hi2 hs2.1 fun c o c1 e => hs2.extBut _ _ c1 e
    case hg =>
      intro s2 i l t k2 xs acc Q2 E2 hi hl hx ke
      show wpAny _ _ (holding _ (Builtin.SmallTypes.nextOf (.ref i) >>= fun v => pure (some v)) >>= _) _ _ _
      refine wpAny_bind (wpAny_holding ?_)
      exact wpAny_bind (nextOf_end hh hi hl hx fun g2 e hs2 he => ke g2 e (fun c o c1 x => hs2 _ _ c1 x) he)
  case one =>
    simp only [if_true]
    refine wpAny_bind (wpAny_rule ?_)
    refine wpAny_bind (wpAny_field hz rfl (x := .ref TO) rfl ?_)
    refine wpAny_bind (wpAny_setField_rec hz (by simp) fun g1 hz1 hs1 => ?_)
    replace hz1 : ZipB g1 z TI TO .ellipsis b := hz1
    have up1 : ∀ c o, c ≠ z → s.heap.get? c = some o → g1.get? c = some o := fun c o c1 e => hs1.extBut _ _ c1 e
    have ha1 : AllAt g1 k is r := ha.at (fun i hi o e => up1 i o (fun q => hzi (q ▸ hi)) e) fun q hq o e => up1 _ o (hs q hq).2.1 e
    refine wpAny_bind ?_
    refine stop_allB (M := model prog w) (A := A) (E := E) (b0 := (none, ())) (z := z) (TI := TI) (TO := TO) (b := b) (Q := _) ?hf1 ?hg1 k is r olds [] { s with heap := g1 } ha1 hy (by rw [hlo, ha.len]) (by simpa [hlo] using hsm) hnd hTOi hzi hzT (fun q hq => ⟨(hs q hq).1, (hs q hq).2.2⟩) hz1 (up1 TO _ hzT.symm hTO)
      fun h' e hk he => hE h' e (fun c o c1 c2 c3 x => hk c o c1 c2 c3 (up1 c o c1 x)) he
    case hf1 =>
      intro s2 i l t k2 xs x old pre post Q2 E2 hi hl hx hiT hlT hli hbd hT2 kq
      show wpAny _ _ (((Builtin.SmallTypes.nextOf (.ref i) >>= fun v => pure (some v)).onRaise _) >>= _) _ _ _
      refine wpAny_bind (wpAny_onRaise ?_)
      refine wpAny_bind (nextOf_item hi hl hx fun g2 hi2 hs2 => wpAny_pure ?_)
      have hT3 : TupAt g2 TO (pre ++ old :: post) := hs2.extBut _ _ hiT.symm hT2
      refine wpAny_bind (wpAny_seqItems hT3 rfl ?_)
      have hb2 : (pre ++ old :: post).length ≤ sizeLine := Nat.le_trans hbd (by decide)
      refine wpAny_bind (wpAny_updateSeq hT3 rfl ?_ (by rw [List.size_toArray]; exact hb2) (by rw [Array.size_setIfInBounds, List.size_toArray]; exact Nat.le_succ_of_le hb2))
      refine wpAny_bind (wpAny_letGo (wpAny_pure ?_))
      have hup : Heap.SameBut TO g2 (g2.update TO (Obj.mapSeq fun v => v.setIfInBounds pre.length x)) := Heap.SameBut.update ..
      refine kq _ (hi2.at fun o e => hup.extBut _ _ hiT e) ?_ (hup.1.trans hs2.1) fun c o c1 c2 e => hup.extBut _ _ c1 (hs2.extBut _ _ c2 e)
      show (g2.update TO _).get? TO = _
      rw [Heap.get?_update_self _ hT3 rfl]
      simp [Obj.mapSeq, List.set_append]
    case hg1 =>
      intro s2 i l t k2 j xs Q2 E2 hi hl hx hiz hz2 ke
      show wpAny _ _ (((Builtin.SmallTypes.nextOf (.ref i) >>= fun v => pure (some v)).onRaise _) >>= _) _ _ _
      refine wpAny_bind (wpAny_onRaise ?_)
      refine wpAny_bind (nextOf_end hh hi hl hx fun g2 e hs2 he => ?_)
      obtain ⟨oe, hoe, hce⟩ := he
      have hz3 : ZipB g2 z TI TO .ellipsis b := hs2 _ _ hiz.symm hz2
      have hez : e ≠ z := fun x => by subst x; rw [hz3] at hoe; cases hoe; simp at hce
      exact wpAny_setField_rec hz3 (by simp) fun g3 _ hs3 => ke g3 e (fun c o c1 c2 x => hs3.extBut _ _ c1 (hs2 _ _ c2 x)) ⟨oe, hs3.extBut _ _ hez hoe, hce⟩
end
end Zs
set_option Elab.async false
set_option linter.all false
set_option maxRecDepth 100000
set_option maxHeartbeats 1000000
namespace Zs
open PySem PySem.Spec PyProof.Rows L2 Zn
open PySem.Sem (wp)
section
variable {prog : Program} {w : World} {A : Around} {E : Value → Shared → Prop} {s : Shared}
theorem call_zipStar {pos p : Pos} {e : Expr} {env : Env} {Q : Value → Shared → Prop}
    (h : wpAny (model prog w) A (eval e env) (fun v s₁ => PySem.W.StarOf (model prog w) A E v (fun vs s₂ => wpAny (model prog w) A (call (.type "zip") vs) Q E s₂) s₁) E s)
    (he : starEach [.Starred e p] env = [(true, eval e env)] := by rfl) :
    wpAny (model prog w) A (callWith pos (.type "zip") [] (backTo pos (starEach [.Starred e p] env)) []) Q E s := by
  rw [he]
  refine PySem.W.ks_call (P := fun _ => True) rfl (fun h _ => ⟨_, .inr (.inl rfl), PySem.W.Looks.of_pure rfl⟩) (PySem.W.ks_lone ?_)
  refine wpAny_mono h (fun v s₁ hv => ?_) fun _ _ x => x
  unfold PySem.W.StarOf at hv ⊢
  exact wpAny_mono hv (fun b s₂ hb => ⟨hb.1, wpAny_mono hb.2 (fun vs s₃ hc => ⟨trivial, hc⟩) fun _ _ x => x⟩) fun _ _ x => x
theorem nextB_item {z TI TO : Addr} {f0 : Value} {b : Bool} {is : List Addr} {r : List Src} {k : Nat} {ys olds : List Value} {Q : Option Value → Shared → Prop} (ow : Own f0) (hne : is ≠ [])
    (hz : ZipB s.heap z TI TO f0 b) (hTI : TupAt s.heap TI (is.map Value.ref)) (hTO : TupAt s.heap TO olds) (ha : AllAt s.heap k is r) (hy : Items k r ys) (hlo : olds.length = is.length) (hsm : is.length ≤ 1000)
    (hnd : is.Nodup) (hzi : z ∉ is) (hTOi : TO ∉ is) (hTIi : TI ∉ is) (hzT : z ≠ TO) (hzI : z ≠ TI) (hTT : TI ≠ TO) (hs : ∀ q ∈ r, q.2.1 ≠ TO ∧ q.2.1 ≠ z ∧ q.2.1 ∉ is)
    (hQ : ∀ h' f1 b1 olds', Own f1 → ZipB h' z TI TO f1 b1 → olds'.length = is.length → TupAt h' TO olds' → AllAt h' (k + 1) is r → TupAt h' s.heap.objs.size ys →
      (∀ c o, c ≠ z → c ≠ TO → c ∉ is → s.heap.get? c = some o → h'.get? c = some o) → Q (some (.ref s.heap.objs.size)) { s with heap := h' }) : wpAny (model prog w) A (pyNext (.ref z)) Q E s := by
  have ty : s.TypeIs (.ref z) "zip" := ⟨_, hz, rfl⟩
  unfold pyNext
  refine wpAny_bind (wpAny_attempt (wpAny_callSpecial?_slot (name := Str.ofString "__next__") ty F.slot_zip_next ?_))
  exact wpAny_call_entry F.slot_zip_next ty F.entry_zip_next (turn_item ow hne hz hTI hTO ha hy hlo hsm hnd hzi hTOi hTIi hzT hzI hTT hs fun h' f1 b1 o1 c1 c2 c3 c4 c5 c6 c7 => wpAny_pure (hQ h' f1 b1 o1 c1 c2 c3 c4 c5 c6 c7)) (F.args_zip_next_1 _)
theorem nextB_stop {z TI TO : Addr} {f0 : Value} {b : Bool} {is : List Addr} {r : List Src} {k : Nat} {olds : List Value} {Q : Option Value → Shared → Prop} (hh : A.handled = none) (ow : Own f0) (hne : is ≠ [])
    (hz : ZipB s.heap z TI TO f0 b) (hTI : TupAt s.heap TI (is.map Value.ref)) (hTO : TupAt s.heap TO olds) (ha : AllAt s.heap k is r) (hy : ∃ q ∈ r, q.2.2[k]? = none) (hlo : olds.length = is.length) (hsm : is.length ≤ 1000)
    (hnd : is.Nodup) (hzi : z ∉ is) (hTOi : TO ∉ is) (hzT : z ≠ TO) (hs : ∀ q ∈ r, q.2.1 ≠ TO ∧ q.2.1 ≠ z ∧ q.2.1 ∉ is)
    (hQ : ∀ h', (∀ c o, c ≠ z → c ≠ TO → c ∉ is → s.heap.get? c = some o → h'.get? c = some o) → Q none { s with heap := h' }) : wpAny (model prog w) A (pyNext (.ref z)) Q E s := by
  have ty : s.TypeIs (.ref z) "zip" := ⟨_, hz, rfl⟩
  unfold pyNext
  refine wpAny_bind (wpAny_attempt (wpAny_callSpecial?_slot (name := Str.ofString "__next__") ty F.slot_zip_next ?_))
  refine wpAny_call_entry F.slot_zip_next ty F.entry_zip_next (turn_stop hh ow hne hz hTI hTO ha hy hlo hsm hnd hzi hTOi hzT hs fun h' e hk he => ?_) (F.args_zip_next_1 _)
  obtain ⟨o, ho, hc⟩ := he
  exact wpAny_bind (wpAny_isInstance (T := "StopIteration") (b := true) ⟨o, ho, hc⟩ isSubtype_stop (wpAny_pure (hQ _ hk)))
theorem iterB {z TI TO : Addr} {f0 : Value} {b : Bool} {Q : Value → Shared → Prop} (hz : ZipB s.heap z TI TO f0 b) (h : Q (.ref z) s) : wpAny (model prog w) A (pyIter (.ref z)) Q E s := by
  have ty : s.TypeIs (.ref z) "zip" := ⟨_, hz, rfl⟩
  refine wpAny_pyIter_slot ty F.slot_zip_iter (wpAny_call_entry F.slot_zip_iter ty F.entry_zip_iter ?_ (F.args_zip_iter_1 _))
  show wpAny _ _ (ret (.ref z)) _ _ s
  exact wpAny_pure ⟨_, rfl, "zip", _, ty, F.slot_zip_next.lookup, h⟩
end
def ZTb (z TI TO : Addr) (is : List Addr) (src : List (Bool × Addr)) (i : Nat) (h : Heap) : Prop :=
  (∃ f0 b, Own f0 ∧ ZipB h z TI TO f0 b) ∧ TupAt h TI (is.map Value.ref) ∧ (∃ olds : List Value, olds.length = is.length ∧ TupAt h TO olds) ∧ ItsAt h i is src
/-- zip over any number of sequences, each tuple kept by a name -/
theorem turn_b {P : Program} {w : World} {K : PySem.W.Frag} {x : Str} {xp : Pos} {z TI TO : Addr} {is : List Addr} {src : List (Bool × Addr)} (D : Apart z TI TO is src) :
    Turn P w K (.Name x xp) (Itn K src) (z :: TI :: TO :: is) z (ZTb z TI TO is src) where
  mem := List.mem_cons_self
  obj := fun i h st c hc => by
    obtain ⟨⟨f0, b, _, hz⟩, hTI, ⟨olds, _, hTO⟩, hi⟩ := st
    rcases List.mem_cons.mp hc with rfl | hc
    · exact ⟨_, hz, fun v q => nomatch q⟩
    rcases List.mem_cons.mp hc with rfl | hc
    · exact ⟨_, hTI, fun v q => nomatch q⟩
    rcases List.mem_cons.mp hc with rfl | hc
    · exact ⟨_, hTO, fun v q => nomatch q⟩
    obtain ⟨o, l, e, d⟩ := hi.ob c hc
    exact ⟨o, e, fun v q => by rw [d] at q; cases q⟩
  keep := fun i h h' st k => by
    obtain ⟨⟨f0, b, ow, hz⟩, hTI, ⟨olds, hl, hTO⟩, hi⟩ := st
    exact ⟨⟨f0, b, ow, k z (by simp) _ hz⟩, k TI (by simp) _ hTI, ⟨olds, hl, k TO (by simp) _ hTO⟩, hi.at fun j hj o e => k j (by simp [hj]) o e⟩
  item := by
    intro X hP hw hK hc i pins s σ H E I hf st hg
    subst hP hw hK
    obtain ⟨⟨f0, b, ow, hz⟩, hTI, ⟨olds, hol, hTO⟩, hi⟩ := st
    obtain ⟨ys, hrow⟩ := hg
    obtain ⟨r, us, e1, e2, e3, e4⟩ := row_ob I hrow
    subst e1
    have hzl : z < s.heap.objs.size := Heap.lt_size hz
    have ha := allAt_of hi e2
    have hys : ys.length ≤ 1000 := by rw [e4.length, ← e3.len, ← ha.len]; exact D.sm
    have hpart : ∀ c ∈ z :: TI :: TO :: is, c < s.heap.objs.size := fun c hcm => by
      rcases List.mem_cons.mp hcm with rfl | hcm
      · exact hzl
      rcases List.mem_cons.mp hcm with rfl | hcm
      · exact Heap.lt_size hTI
      rcases List.mem_cons.mp hcm with rfl | hcm
      · exact Heap.lt_size hTO
      exact ha.lt c hcm
    refine nextB_item ow D.ne hz hTI hTO ha e3 hol D.sm D.nd D.zi D.oi D.ti D.zT D.zI D.TT (fun q hq => ⟨(D.sr _ (bare_mem hq)).1, (D.sr _ (bare_mem hq)).2.1, (D.sr _ (bare_mem hq)).2.2.2⟩) fun g f1 b1 olds' ow1 z1 ol1 TO1 a1 T1 k1 => ?_
    refine ⟨_, rfl, ?_⟩
    unfold letOwnedTupleGo
    refine wpAny_pure ?_
    have new : ObjOk X.prog X.w (upd H s.heap.objs.size (.tup ys)) g s.heap.objs.size (.tup ys) := ⟨Nat.le_trans hys (by decide), us, e4, ⟨_, T1, rfl, _, rfl⟩⟩
    have I1 : Inv X pins σ (upd H s.heap.objs.size (.tup ys)) { s with heap := g } :=
      I.turnedNew (t' := s.toks) (ch := z :: TI :: TO :: is) (fun c o hb q => k1 c o (fun q' => hb (by simp [q'])) (fun q' => hb (by simp [q'])) (fun q' => hb (by simp [q'])) q) hf (Nat.le_refl _) new
    refine ⟨.ref s.heap.objs.size, _, I1, rfl, ⟨_, ys, rfl, I.hok.fresh (Nat.le_refl _), rfl, fun zs hzs => row_inj I hrow hzs⟩, ⟨⟨f1, b1, ow1, z1⟩, ?_, ⟨olds', ol1, TO1⟩, a1.its⟩, fun c hcm => ?_⟩
    · exact k1 _ _ D.zI.symm D.TT D.ti hTI
    · rw [upd_ne (Nat.ne_of_lt (hpart c hcm))]
      exact (hf c hcm).1
  done := by
    intro X hP hw hK hc i pins s σ H E I hf st hg
    subst hP hw hK
    obtain ⟨⟨f0, b, ow, hz⟩, hTI, ⟨olds, hol, hTO⟩, hi⟩ := st
    obtain ⟨hall, q, hq, xs, hqx, hle⟩ := hg
    obtain ⟨r, e1, e2, e3⟩ := all_ob I hall
    subst e1
    have ha := allAt_of hi e2
    obtain ⟨p, hp, hps⟩ := e3 q hq xs hqx
    exact nextB_stop (I.ok.hd hc) ow D.ne hz hTI hTO ha ⟨p, hp, by rw [Array.getElem?_eq_none_iff]; omega⟩ hol D.sm D.nd D.zi D.oi D.zT (fun q hq => ⟨(D.sr _ (bare_mem hq)).1, (D.sr _ (bare_mem hq)).2.1, (D.sr _ (bare_mem hq)).2.2.2⟩)
      fun g hk => ⟨rfl, I.turnedL (t' := s.toks) (ch := z :: TI :: TO :: is) (fun c o hb q => hk c o (fun q' => hb (by simp [q'])) (fun q' => hb (by simp [q'])) (fun q' => hb (by simp [q'])) q) hf⟩
  self := fun A i s Q E st h => let ⟨⟨_, _, _, hz⟩, _⟩ := st; iterB hz h
section
variable {X : Cx}
theorem zip_comeB {pins : List (Addr × Obj)} {σ : L2.St} {H : Hp} {s : Shared} {us : List Value} {R : It → Hp → Prop} {x : Str} {xp : Pos} {E : Value → Shared → Prop} (I : Inv X pins σ H s) {src : List (Bool × Addr)} (rv : Vals (kRefs src) us)
    (h0 : 0 < src.length) (h3 : src.length ≤ 3) (ha : AllSq X.K H src) (q : R (Itn X.K src) H) :
    wpAny (model X.prog X.w) X.A (call (.type "zip") us) (fun v s1 => wpAny (model X.prog X.w) X.A (pyIter v) (PIE X pins σ (.Name x xp) R) E s1) E s := by
  obtain ⟨r, e1, e2⟩ := srcs_of I ha
  have e3 := vals_refs rv
  subst e1
  have hl : (bare r).length = r.length := List.length_map ..
  rw [hl] at h0 h3
  have e4 : us = r.map fun q => Value.ref q.2.1 := by rw [e3]; unfold bare; rw [List.map_map]; rfl
  rw [e4]
  refine call_zipN h0 h3 e2 fun g m => wpAny_pyIter_zip m.zr ?_
  have I2 : Inv X pins σ H { s with heap := g } := I.kept (t' := s.toks) m.kp
  refine ⟨_, _, _, _, H, rfl, I2, turn_b (made_apart m e2 h0 (by omega)), ⟨⟨.none, false, .inl rfl, m.zr⟩, m.ti, ⟨_, ?_, m.to⟩, m.all.its⟩, fun c hcm => ?_, q⟩
  · rw [List.length_map, news_len]
  · have hle : s.heap.objs.size ≤ c := by
      rcases List.mem_cons.mp hcm with rfl | hcm
      · exact Nat.le_add_right_of_le (Nat.le_add_right ..)
      rcases List.mem_cons.mp hcm with rfl | hcm
      · exact Nat.le_add_right ..
      rcases List.mem_cons.mp hcm with rfl | hcm
      · exact Nat.le_add_right_of_le (Nat.le_add_right ..)
      exact (news_mem hcm).1
    exact I.fpOk hle (I.hok.fresh hle)
def iZs (K : PySem.W.Frag) (te : TE) : TI := fun σ H R => te σ H fun y H1 => ∃ (a : Addr) (src : List (Bool × Addr)), y = .ref a ∧ (SqT K H1 a (kRefs src) ∨ SqL K H1 a (kRefs src)) ∧ 0 < src.length ∧ src.length ≤ 3 ∧ AllSq K H1 src ∧ R (Itn K src) H1
/-- for x in zip(*rows) -/
theorem pi_zipStar {e : Expr} {te : TE} {p sp pos : Pos} {x : Str} {xp : Pos} (hg : Gl X "zip") (hm : X.mg "zip" = none) (he : PE X e te) (hst : starEach [.Starred e sp] X.env = [(true, eval e X.env)] := by rfl) :
    PI X (.Name x xp) (.Call (.Name "zip" p) [.Starred e sp] [] pos) (iZs X.K te) := by
  refine ⟨fun pins s σ H R I h => ?_⟩
  refine Call_ (ld_blt I hg hm PyProof.Rows.boot_zip (call_zipStar (thn (he.run pins s σ H _ I h) fun v s1 hv => ?_) hst))
  obtain ⟨y, H1, I1, ry, a, src, rfl, hx, h0, h3, hq, q⟩ := hv
  obtain rfl : v = Value.ref a := ry
  exact StX.star_any I1 hx fun us s2 I2 rv => zip_comeB I2 rv h0 h3 hq q
end
end Zs
set_option Elab.async false
set_option linter.all false
set_option maxRecDepth 100000
set_option maxHeartbeats 1000000
namespace En
open PySem PySem.Spec PyProof.Rows L2 Zn
open PySem.Sem (wp)
section
variable {prog : Program} {w : World} {A : Around} {E : Value → Shared → Prop} {s : Shared}
theorem next_item {e it l : Addr} {t : Bool} {i : Nat} {items : Array Value} {x old : Value} {Q : Value → Shared → Prop}
    (he : IsEnum s.heap e it i old) (hit : ItK t s.heap it l i) (hl : SqK t s.heap l items) (hx : items[i]? = some x) (hne : e ≠ it)
    (hQ : ∀ h', IsEnumOut h' e it ((i : Int) + 1) x s.heap.objs.size → ItK t h' it l (i + 1) → h'.get? s.heap.objs.size = some { cls := .type "tuple", data := .seq #[.int i s.toks, x] } →
      (∀ b o, b ≠ e → b ≠ it → s.heap.get? b = some o → h'.get? b = some o) → Q (.ref s.heap.objs.size) { s with heap := h', toks := s.toks + 1 }) :
    wpAny (model prog w) A (Builtin.«enumerate.__next__» ⟨[.ref e], []⟩) (fun fin s' => ∃ v, fin = .done (.ret v) ∧ Q v s') E s := by
  obtain ⟨hp, g, d, tk, os⟩ := s
  show wpAny _ _ (field (.ref e) 2 >>= _) _ _ _
  refine wpAny_bind (wpAny_field he rfl (x := .ref it) rfl ?_)
  refine wpAny_bind (nextOf_item hit hl hx fun g1 it1 sb1 => ?_)
  replace sb1 : Heap.SameBut it hp g1 := sb1
  have e1 : IsEnum g1 e it i old := (sb1.2 e hne).trans he
  show wpAny _ _ (field (.ref e) 3 >>= _) _ _ ⟨g1, g, d, tk, os⟩
  refine wpAny_bind (wpAny_field e1 rfl (x := rawInt i) rfl ?_)
  show wpAny _ _ (field (.ref e) 4 >>= _) _ _ ⟨g1, g, d, tk, os⟩
  refine wpAny_bind (wpAny_field e1 rfl (x := .none) rfl ?_)
  show wpAny _ _ (mkInt i >>= _) _ _ ⟨g1, g, d, tk, os⟩
  refine wpAny_bind (wpAny_mkInt ?_)
  show wpAny _ _ (setField (.ref e) 3 (rawInt ((i : Int) + 1)) >>= _) _ _ ⟨g1, g, d, tk + 1, os⟩
  refine wpAny_bind (wpAny_setField_rec e1 (by simp) fun g2 e2 sb2 => ?_)
  replace sb2 : Heap.SameBut e g1 g2 := sb2
  replace e2 : IsEnum g2 e it ((i : Int) + 1) old := e2
  show wpAny _ _ (setField (.ref e) 4 .none >>= _) _ _ ⟨g2, g, d, tk + 1, os⟩
  refine wpAny_bind (wpAny_setField_rec e2 (by simp) fun g3 e3 sb3 => ?_)
  replace sb3 : Heap.SameBut e g2 g3 := sb3
  replace e3 : IsEnum g3 e it ((i : Int) + 1) old := e3
  show wpAny _ _ (newTuple [.int i tk, x] >>= _) _ _ ⟨g3, g, d, tk + 1, os⟩
  refine wpAny_bind (wpAny_newTuple ?_)
  have e4 : IsEnum (g3.push { cls := .type "tuple", data := .seq #[.int i tk, x] }) e it ((i : Int) + 1) old := Heap.get?_push_of_some _ e3
  have sz3 : g3.objs.size = hp.objs.size := by rw [sb3.1, sb2.1, sb1.1]
  have hel : e < hp.objs.size := Heap.lt_size he
  have it3 : ItK t g3 it l (i + 1) := it1.at fun o q => sb3.extBut _ _ hne.symm (sb2.extBut _ _ hne.symm q)
  generalize eg4 : g3.push { cls := .type "tuple", data := .seq #[.int i tk, x] } = g4 at e4
  have tup4 : g4.get? hp.objs.size = some { cls := .type "tuple", data := .seq #[.int i tk, x] } := by rw [← eg4, ← sz3]; exact Heap.get?_push_size _ rfl
  have up4 : ∀ b o, b ≠ e → b ≠ it → hp.get? b = some o → g4.get? b = some o := fun b o b1 b2 q => by
    rw [← eg4]
    exact Heap.get?_push_of_some _ (sb3.extBut b o b1 (sb2.extBut b o b1 (sb1.extBut b o b2 q)))
  have it4 : ItK t g4 it l (i + 1) := it3.at fun o q => by rw [← eg4]; exact Heap.get?_push_of_some _ q
  show wpAny _ _ (Builtin.SmallTypes.ownedTupleIsFree (.ref e) >>= _) _ _ ⟨g4, g, d, tk + 1, os⟩
  rw [sz3]
  refine wpAny_bind ?_
  unfold Builtin.SmallTypes.ownedTupleIsFree
  refine wpAny_bind (wpAny_field e4 rfl (x := .none) rfl (wpAny_pure ?_))
  simp only [if_true]
  refine wpAny_bind (wpAny_rule ?_)
  refine wpAny_bind (wpAny_field e4 rfl (x := old) rfl ?_)
  refine wpAny_bind (wpAny_setField_rec e4 (by simp) fun g5 e5 sb5 => ?_)
  replace sb5 : Heap.SameBut e g4 g5 := sb5
  replace e5 : IsEnum g5 e it ((i : Int) + 1) x := e5
  show wpAny _ _ (Builtin.SmallTypes.ownedTupleHandOut (.ref e) (.ref hp.objs.size) >>= _) _ _ ⟨g5, g, d, tk + 1, os⟩
  refine wpAny_bind ?_
  unfold Builtin.SmallTypes.ownedTupleHandOut
  refine wpAny_bind (wpAny_setField_rec e5 (by simp) fun g6 e6 sb6 => ?_)
  replace e6 : IsEnumOut g6 e it ((i : Int) + 1) x hp.objs.size := e6
  refine wpAny_setField_rec e6 (by simp) fun g7 e7 sb7 => ?_
  replace e7 : IsEnumOut g7 e it ((i : Int) + 1) x hp.objs.size := e7
  have up : ∀ b o, b ≠ e → g4.get? b = some o → g7.get? b = some o := fun b o b1 q => sb7.extBut _ _ b1 (sb6.extBut _ _ b1 (sb5.extBut _ _ b1 q))
  refine wpAny_bind (wpAny_letGo (wpAny_pure ⟨_, rfl, ?_⟩))
  exact hQ g7 e7 (it4.at fun o q => up it o hne.symm q) (up _ _ (Nat.ne_of_gt hel) tup4) fun b o b1 b2 q => up b o b1 (up4 b o b1 b2 q)
theorem next_stop {e it l : Addr} {t : Bool} {i : Nat} {items : Array Value} {old : Value} {Q : Fin → Shared → Prop} (hh : A.handled = none)
    (he : IsEnum s.heap e it i old) (hit : ItK t s.heap it l i) (hl : SqK t s.heap l items) (hx : items[i]? = none) (hne : e ≠ it)
    (hE : ∀ h' x, (∀ b o, b ≠ e → b ≠ it → s.heap.get? b = some o → h'.get? b = some o) → StopAt h' x → E (.ref x) { s with heap := h' }) :
    wpAny (model prog w) A (Builtin.«enumerate.__next__» ⟨[.ref e], []⟩) Q E s := by
  show wpAny _ _ (field (.ref e) 2 >>= _) _ _ _
  refine wpAny_bind (wpAny_field he rfl (x := .ref it) rfl ?_)
  exact wpAny_bind (nextOf_end hh hit hl hx fun g1 x sb1 hs => hE g1 x (fun b o b1 b2 q => sb1 _ _ b2 q) hs)
theorem pyNext_item {e it l : Addr} {t : Bool} {i : Nat} {items : Array Value} {x old : Value} {Q : Option Value → Shared → Prop}
    (he : IsEnum s.heap e it i old) (hit : ItK t s.heap it l i) (hl : SqK t s.heap l items) (hx : items[i]? = some x) (hne : e ≠ it)
    (hQ : ∀ h', IsEnumOut h' e it ((i : Int) + 1) x s.heap.objs.size → ItK t h' it l (i + 1) → h'.get? s.heap.objs.size = some { cls := .type "tuple", data := .seq #[.int i s.toks, x] } →
      (∀ b o, b ≠ e → b ≠ it → s.heap.get? b = some o → h'.get? b = some o) → Q (some (.ref s.heap.objs.size)) { s with heap := h', toks := s.toks + 1 }) : wpAny (model prog w) A (pyNext (.ref e)) Q E s := by
  have ty : s.TypeIs (.ref e) "enumerate" := ⟨_, he, rfl⟩
  unfold pyNext
  refine wpAny_bind (wpAny_attempt (wpAny_callSpecial?_slot (name := Str.ofString "__next__") ty F.slot_enumerate_next ?_))
  exact wpAny_call_entry F.slot_enumerate_next ty F.entry_enumerate_next (next_item he hit hl hx hne fun h' b1 b2 b3 b4 => wpAny_pure (hQ h' b1 b2 b3 b4)) (F.args_enumerate_next_1 _)
theorem pyNext_stop {e it l : Addr} {t : Bool} {i : Nat} {items : Array Value} {old : Value} {Q : Option Value → Shared → Prop} (hh : A.handled = none)
    (he : IsEnum s.heap e it i old) (hit : ItK t s.heap it l i) (hl : SqK t s.heap l items) (hx : items[i]? = none) (hne : e ≠ it)
    (hQ : ∀ h', (∀ b o, b ≠ e → b ≠ it → s.heap.get? b = some o → h'.get? b = some o) → Q none { s with heap := h' }) : wpAny (model prog w) A (pyNext (.ref e)) Q E s := by
  have ty : s.TypeIs (.ref e) "enumerate" := ⟨_, he, rfl⟩
  unfold pyNext
  refine wpAny_bind (wpAny_attempt (wpAny_callSpecial?_slot (name := Str.ofString "__next__") ty F.slot_enumerate_next ?_))
  refine wpAny_call_entry F.slot_enumerate_next ty F.entry_enumerate_next (next_stop hh he hit hl hx hne fun h' x hk hs => ?_) (F.args_enumerate_next_1 _)
  obtain ⟨o, ho, hc⟩ := hs
  exact wpAny_bind (wpAny_isInstance (T := "StopIteration") (b := true) ⟨o, ho, hc⟩ isSubtype_stop (wpAny_pure (hQ _ hk)))
end
theorem enum_newT (l : Addr) (items : Array Value) (n : Nat) (dct : Option Addr) (sl : Array (Option Value)) :
    Meets (Builtin.«enumerate.__new__» ⟨[.type "enumerate", .ref l], []⟩) (fun _ R s => s.heap.get? l = some { cls := .type "tuple", dict := dct, data := .seq items n, slots := sl } ∧
      R (.ok (.ret (.ref (s.heap.push { cls := .type "tuple_iterator", data := .fields #[.ref l, .int 0 0] }).objs.size)))
        { s with heap := (s.heap.push { cls := .type "tuple_iterator", data := .fields #[.ref l, .int 0 0] }).push { cls := .type "enumerate", data := .fields #[.none, .bool false, .ref s.heap.objs.size, rawInt 0, .none, .none] } }) :=
  .of_wp fun prog w A R s h => by
    obtain ⟨hp, g, d, tk, os⟩ := s
    obtain ⟨hl, h⟩ := h
    have hsub := sub_enumerate
    have hT : Heap.IsTuple (Shared.heap ⟨hp, g, d, tk, os⟩) l items := ⟨_, hl, rfl, n, rfl⟩
    wp_walk using wpAny_loadPart' hl
    refine wpAny_stack_any fun st => wpAny_pure ?_
    split
    · rename_i c _ _ _ _ _
      cases (c == Value.type "enumerate")
      · wp_walk using wpAny_loadPart' hl, wpAny_pyIter_tuple hT
        exact ⟨_, rfl, h⟩
      · wp_walk using wpAny_loadPart' hl, wpAny_pyIter_tuple hT
        exact ⟨_, rfl, h⟩
    · wp_walk using wpAny_loadPart' hl, wpAny_pyIter_tuple hT
      exact ⟨_, rfl, h⟩
section
variable {prog : Program} {w : World} {A : Around} {E : Value → Shared → Prop} {s : Shared}
theorem call_enum {t : Bool} {l : Addr} {items : Array Value} {Q : Value → Shared → Prop} (hl : SqK t s.heap l items)
    (h : ∀ h', IsEnum h' (s.heap.objs.size + 1) s.heap.objs.size 0 .none → ItK t h' s.heap.objs.size l 0 → (∀ b o, s.heap.get? b = some o → h'.get? b = some o) → Q (.ref (s.heap.objs.size + 1)) { s with heap := h' }) :
    wpAny (model prog w) A (call (.type "enumerate") [.ref l]) Q E s := by
  cases t with
  | false => exact call_enumerate_list hl fun h' b1 b2 _ b4 => h h' b1 b2 b4
  | true =>
    obtain ⟨⟨c, dct, dt, sl⟩, ho, hc, n, hd⟩ := hl
    replace hc : c = .type "tuple" := hc
    replace hd : dt = .seq items n := hd
    subst hc hd
    refine callType_new F.called_enumerate (by decide) (F.typeCall_enumerate_1 _) (F.newCall_enumerate_1 _) (fun obj => F.args_object_init_2 obj _) F.entry_enumerate_new (enum_newT l items n dct sl) ⟨ho, ?_⟩
    have z1 : (s.heap.push { cls := .type "tuple_iterator", data := .fields #[.ref l, .int 0 0] }).objs.size = s.heap.objs.size + 1 := Heap.size_push ..
    show _ ∧ _
    rw [z1]
    have he := Heap.get?_push_size (s.heap.push { cls := .type "tuple_iterator", data := .fields #[.ref l, .int 0 0] }) (o := { cls := .type "enumerate", data := .fields #[.none, .bool false, .ref s.heap.objs.size, rawInt 0, .none, .none] }) rfl
    rw [z1] at he
    exact ⟨⟨_, he, rfl⟩, h _ he ⟨_, Heap.get?_push_of_some _ (Heap.get?_push_size _ rfl), rfl, rfl⟩ fun b o x => Heap.get?_push_of_some _ (Heap.get?_push_of_some _ x)⟩
end
def Ite2 (K : PySem.W.Frag) (t : Bool) (a : Addr) : It :=
  ⟨fun i H => ∃ (xs : List V) (x : V), SqV K H t a xs ∧ xs[i]? = some x, fun i H v H' => ∃ T x, v = .ref T ∧ H T = none ∧ H' = upd H T (.tup [.int (i : Nat), x]) ∧ ∀ xs, SqV K H t a xs → xs[i]? = some x, fun i H => ∃ xs : List V, SqV K H t a xs ∧ xs.length ≤ i⟩
theorem turn_e {P : Program} {w : World} {K : PySem.W.Frag} {elts : List Expr} {kk : Nat} {tpos : Pos} (t : Bool) (a e it : Addr) :
    Turn P w K (.Tuple elts kk tpos) (Ite2 K t a) [e, it] e (fun i h => (∃ old, IsEnum h e it ((i : Nat) : Int) old) ∧ ItK t h it a i ∧ e ≠ it) where
  mem := by simp
  obj := fun i h st b hb => by
    obtain ⟨⟨old, he⟩, hi, _⟩ := st
    obtain ⟨o, ho, _, hd⟩ := hi.rec_
    rcases List.mem_cons.mp hb with rfl | hb
    · exact ⟨_, he, fun v q => nomatch q⟩
    · rw [List.mem_singleton.mp hb]
      exact ⟨o, ho, fun v q => by rw [hd] at q; cases q⟩
  keep := fun i h h' st k => by
    obtain ⟨⟨old, he⟩, hi, hne⟩ := st
    exact ⟨⟨old, k e (by simp) _ he⟩, hi.at fun o q => k it (by simp) o q, hne⟩
  item := by
    intro X hP hw hK hc i pins s σ H E I hf st hg
    subst hP hw hK
    obtain ⟨⟨old, he⟩, hit, hne⟩ := st
    obtain ⟨xs, x, hq, hx⟩ := hg
    obtain ⟨its, rv, p, hz⟩ := sqv_ob I hq
    obtain ⟨u, hu, ru⟩ := rv.get hx
    have hel : e < s.heap.objs.size := Heap.lt_size he
    have hil : it < s.heap.objs.size := hit.lt
    refine pyNext_item he hit p (x := u) (by simpa using hu) hne fun g eo it1 tp k1 => ?_
    refine ⟨_, rfl, wpAny_letOwnedTupleGo_enum (s := { s with heap := g, toks := s.toks + 1 }) eo fun g2 e2 sb => ?_⟩
    have tp2 : g2.get? s.heap.objs.size = some { cls := .type "tuple", data := .seq #[.int i s.toks, u] } := (sb.2 _ (Nat.ne_of_gt hel)).trans tp
    have new : ObjOk X.prog X.w (upd H s.heap.objs.size (.tup [.int (i : Nat), x])) g2 s.heap.objs.size (.tup [.int (i : Nat), x]) :=
      ⟨by show 2 ≤ sizeLine; decide, [.int i s.toks, u], .cons ⟨_, rfl⟩ (.cons ru .nil), ⟨_, tp2, rfl, _, rfl⟩⟩
    have I1 : Inv X pins σ (upd H s.heap.objs.size (.tup [.int (i : Nat), x])) { s with heap := g2, toks := s.toks + 1 } :=
      I.turnedNew (ch := [e, it]) (fun b ob hb q => (sb.2 b (fun z => hb (by simp [z]))).trans (k1 b ob (fun z => hb (by simp [z])) (fun z => hb (by simp [z])) q)) hf (Nat.le_refl _) new
    refine ⟨.ref s.heap.objs.size, _, I1, rfl, ⟨_, x, rfl, I.hok.fresh (Nat.le_refl _), rfl, fun ys hy => by rw [sqv_inj I hy hq]; exact hx⟩, ⟨⟨u, ?_⟩, it1.at fun o q => (sb.2 it (Ne.symm hne)).trans q, hne⟩, fun b hb => ?_⟩
    · rw [show ((i + 1 : Nat) : Int) = (i : Int) + 1 by omega]
      exact e2
    · have hb' : b < s.heap.objs.size := by
        rcases List.mem_cons.mp hb with rfl | hb
        · exact hel
        · rw [List.mem_singleton.mp hb]; exact hil
      rw [upd_ne (Nat.ne_of_lt hb')]
      exact (hf b hb).1
  done := by
    intro X hP hw hK hc i pins s σ H E I hf st hg
    subst hP hw hK
    obtain ⟨⟨old, he⟩, hit, hne⟩ := st
    obtain ⟨xs, hq, hx⟩ := hg
    obtain ⟨its, rv, p, hz⟩ := sqv_ob I hq
    have hl := rv.length
    exact pyNext_stop (I.ok.hd hc) he hit p (by simp; omega) hne fun g hk => ⟨rfl, I.turnedL (t' := s.toks) (ch := [e, it]) (fun b o hb q => hk b o (fun z => hb (by simp [z])) (fun z => hb (by simp [z])) q) hf⟩
  self := fun A i s Q E st h => let ⟨⟨_, he⟩, _⟩ := st; wpAny_pyIter_enum he h
def iEn (K : PySem.W.Frag) (ta : TA) : TI := fun σ H R => ta σ H fun vs H1 => ∃ t a xs, vs = [.ref a] ∧ SqV K H1 t a xs ∧ R (Ite2 K t a) H1
section
variable {X : Cx}
/-- for i, x in enumerate(xs), a list or a tuple -/
theorem pi_enumS {e : Expr} {ta : TA} {p pos tpos : Pos} {elts : List Expr} {kk : Nat} (hg : Gl X "enumerate") (hm : X.mg "enumerate" = none) (ha : PA X [e] ta)
    (hs : starEach [e] X.env = (false, eval e X.env) :: starEach [] X.env := by rfl) (hpl : (backTo pos (starEach [] X.env)).any (·.1) = false := by rfl) :
    PI X (.Tuple elts kk tpos) (.Call (.Name "enumerate" p) [e] [] pos) (iEn X.K ta) := by
  refine ⟨fun pins s σ H R I h => ?_⟩
  refine Call_ (ld_blt I hg hm PyProof.Rows.boot_enumerate (PyProof.Rows.callWith_type1 (thn (ha.run pos pins s σ H _ I h) fun us s1 ⟨vs, H1, I1, r1, q1⟩ => ?_) hs hpl))
  obtain ⟨t, a, xs, rfl, hq, q⟩ := q1
  obtain ⟨u, rfl, ru⟩ := vals1 r1
  cases (show u = Value.ref a from ru)
  obtain ⟨its, rv, p', hz⟩ := sqv_ob I1 hq
  refine call_enum p' fun g he hit hk => wpAny_pyIter_enum he ?_
  refine ⟨s1.heap.objs.size + 1, [s1.heap.objs.size + 1, s1.heap.objs.size], _, _, H1, rfl, I1.kept (t' := s1.toks) hk, turn_e t a (s1.heap.objs.size + 1) s1.heap.objs.size, ⟨⟨.none, he⟩, hit, Nat.succ_ne_self _⟩, fun b hb => ?_, q⟩
  have hle : s1.heap.objs.size ≤ b := by
    rcases List.mem_cons.mp hb with rfl | hb
    · exact Nat.le_succ _
    · rw [List.mem_singleton.mp hb]; exact Nat.le_refl _
  exact I1.fpOk hle (I1.hok.fresh hle)
end
end En
set_option Elab.async false
set_option linter.all false
set_option maxRecDepth 100000
set_option maxHeartbeats 1000000
namespace Gd
open PySem PySem.Spec PyProof.Rows L2
def Still (A : Around) : Prop := A.guards = some []
structure FnG (P : Program) (w : World) (K : PySem.W.Frag) (mg : Str → Option Value) (base : Heap) (CX : CXT) (k : Nat) (f : Addr) (fd : FuncData) (ps : List Str) (sp : Sp) : Prop where
  len : ∀ vs H Q E, sp vs H Q E → vs.length = ps.length
  run : ∀ (A : Around) (outer : List Env) (s : Shared) (H : Hp) (ar : Args) (us : List Value) (vs : List V) (Q : VK) (E : XK), Still A → Room k A → Env0 P w K mg base A outer s H → BindsTo s fd ar (ps.zip us) → Vals vs us → sp vs H Q E →
    codeAny (model P w) A (.call (.ref f) ar) (CR CX outer P w H s Q E) s
section
variable {P : Program} {w : World} {K : PySem.W.Frag} {mg : Str → Option Value} {base : Heap}
theorem fnG_of {CX : CXT} {k : Nat} {f : Addr} {nm qual : Str} {pa : Arguments} {bd : List Stmt} {sc : Scope} {dV kV doc pm cdv ct oc : Value} {an od : Option Addr}
    {osl : Array (Option Value)} {N ps : List Str} {sp : Sp} (hlk : K.lookup f = some ⟨oc, od, .func (PySem.W.fnOf nm qual pa bd sc dV kV doc pm an cdv ct), osl⟩) (hco : PySem.W.codeIn K cdv qual = true) (S : FnScope N ps sc)
    (len : ∀ vs H Q E, sp vs H Q E → vs.length = ps.length)
    (hb : ∀ (A : Around) (outer : List Env) (s : Shared) (H : Hp) (vs : List V) (Q : VK) (E : XK), Still A → Room k (A.deeper (envOfC qual sc s.heap.objs.size f cdv)) → sp vs H Q E →
      ∃ t, PSs (cxOf CX P w K mg base N qual sc f cdv A outer s H E) bd t ∧ t { nx := fun _ H2 => Q .non H2, rt := Q } (start N vs) H) :
    FnG P w K mg base CX (k + 1) f (PySem.W.fnOf nm qual pa bd sc dV kV doc pm an cdv ct) ps sp := by
  refine ⟨len, fun A outer s H ar us vs Q E hst room e0 bind rv hsp => ?_⟩
  have hlen := len vs H Q E hsp
  have inK : K.In s.heap := e0.mod.kin.keeps fun b o e => (e0.bs b o e).1
  have noLim : s.heap.NoLimit := e0.mod.nolimit.keeps fun b o e => (e0.bs b o e).1
  have kinds : ∀ y ∈ ps.zip us, sc.names.lookup y.1 = some .local ∨ (sc.names.lookup y.1 = some .cell ∧ ((cellsFrom (s.heap.objs.size + 1) sc.names []).lookup y.1).isSome = true) := by
    rintro ⟨n, v⟩ hy
    rcases S.par n (List.of_mem_zip hy).1 with q | q
    · exact .inl q
    · exact .inr ⟨q, PySem.W.cellsFrom_some _ _ _ (.inl q)⟩
  refine codeAny_call_function room.depth (inK f _ hlk) rfl S.co S.gen rfl (PySem.W.codeRec_of inK hco) (bind _ _ _ _ ?_)
  refine wpAny_newFunctionEnv_cells S.kind kinds fun env henv s2 inc => ?_
  subst henv
  refine ⟨noLim.keeps inc.toInCall.keep, codeAny_func ?_⟩
  obtain ⟨t, der, rd⟩ := hb A outer s H vs Q E hst (room.deeper _) hsp
  have J0 : Inv (cxOf CX P w K mg base N qual sc f cdv A outer s H E) [] (start N vs) H s2 := inv_start S room.hd e0 hlen rv inc
  refine wpAny_mono (der.run [] s2 (start N vs) H _ J0 rd) (fun fl s3 hfl => ?_) fun e s3 he => he
  have out : ∀ {σ2 : L2.St} {H2 : Hp} {v : V} {u : Value}, Inv (cxOf CX P w K mg base N qual sc f cdv A outer s H E) [] σ2 H2 s3 → RelV v u → Q v H2 → CE outer P w H s Q u s3 := by
    intro σ2 H2 v u J r q
    exact ⟨v, H2, J.os, J.bare, J.base, J.hok, r, q⟩
  cases fl with
  | ret u =>
    obtain ⟨v, σ2, H2, J, r, q⟩ := hfl
    exact out J r q
  | next =>
    obtain ⟨σ2, H2, J, q⟩ := hfl
    exact out (v := V.non) (u := Value.none) J rfl q
  | brk =>
    obtain ⟨_, _, _, no⟩ := hfl
    exact no.elim
  | cont =>
    obtain ⟨_, _, _, no⟩ := hfl
    exact no.elim
theorem okG {x qual : Str} {st : Stmt} {f : Addr} {fd : FuncData} {N ps : List Str} {k : Nat} {sp : Sp} (F : Fun K x qual st f fd) (S : FnScope N ps (defScope st)) (len : ∀ vs H Q E, sp vs H Q E → vs.length = ps.length)
    (hb : ∀ (cdv : Value) (A : Around) (outer : List Env) (s : Shared) (H : Hp) (vs : List V) (Q : VK) (E : XK), Still A → Room k (A.deeper (envOfC qual (defScope st) s.heap.objs.size f cdv)) → sp vs H Q E →
      ∃ t, PSs (cxOf CX0 P w K mg base N qual (defScope st) f cdv A outer s H E).nox (defBody st) t ∧ t { nx := fun _ H2 => Q .non H2, rt := Q } (start N vs) H) : FnG P w K mg base CX0 (k + 1) f fd ps sp := by
  obtain ⟨oc, od, kV, doc, pm, an, cdv, ct, osl, rfl, hlk, hco⟩ := F.ex
  refine fnG_of hlk hco S len fun A outer s H vs Q E hst room hsp => ?_
  obtain ⟨t, der, rd⟩ := hb cdv A outer s H vs Q E hst room hsp
  exact ⟨t, der.nox, rd⟩
end
section
variable {X : Cx} {CX : CXT} {k : Nat} {f : Addr} {fd : FuncData} {ps : List Str} {sp : Sp} {ds : List Value} {dvs : List V} {E : XK} {x : Str} {e : Expr} {es : List Expr} {t : TA} {p pos : Pos}
theorem runG {pins : List (Addr × Obj)} {σ : L2.St} {H : Hp} {s : Shared} {Q : VK} {us : List Value} {vs : List V} (F : FnG X.prog X.w X.K X.mg X.base CX k f fd ps sp) (hst : Still X.A) (room : Room k X.A) (hb : Binds X.K fd ps ds) (hd : Vals dvs ds) (hx : Passes CX X E)
    (I : Inv X pins σ H s) (rv : Vals vs us) (h : sp (vs ++ dvs) H Q E) : wpAny (model X.prog X.w) X.A (call (.ref f) us) (EP X pins σ Q) X.xe s := by
  have both : Vals (vs ++ dvs) (us ++ ds) := rv.append hd
  have hl : (us ++ ds).length = ps.length := by rw [← both.length]; exact F.len _ _ _ _ h
  refine wpAny_call (codeAny_mono (F.run X.A X.stack s H ⟨us, []⟩ (us ++ ds) (vs ++ dvs) Q E hst room I.env0 (hb s us I.kIn hl) both h) fun r s2 hq => ?_)
  cases r with
  | error er => exact hx pins σ H s er s2 I hq
  | ok fl =>
    cases fl with
    | ret u => exact I.after hq
    | next => exact (show False from hq).elim
    | brk => exact (show False from hq).elim
    | cont => exact (show False from hq).elim
theorem pe_callG (F : FnG X.prog X.w X.K X.mg X.base CX k f fd ps sp) (hst : Still X.A) (room : Room k X.A) (hg : Gl X x) (hm : X.mg x = some (.ref f)) (hk : PySem.W.keepIn X.K (.ref f) = true) (hb : Binds X.K fd ps ds) (hd : Vals dvs ds) (hx : Passes CX X E)
    (ha : PA X (e :: es) t) (hdb : (x == ("__debug__" : Str)) = false := by decide) (he : starEach (e :: es) X.env = (false, eval e X.env) :: starEach es X.env := by rfl) (hpl : (backTo pos (starEach es X.env)).any (·.1) = false := by rfl) :
    PE X (.Call (.Name x p) (e :: es) [] pos) (tCall sp dvs E t) := by
  refine ⟨fun pins s σ H Q I h => wpAny_Call_Name_kw (ld_glob I hg hm ?_ hdb)⟩
  refine PySem.W.callWith_K (h₀ := X.base) I.ok.mod.kin hk (thn (ha.run pos pins s σ H _ I h) fun us s1 ⟨vs, H1, I1, rv, q⟩ => ⟨I1.kIn, ?_⟩) he hpl
  exact runG F hst room hb hd hx I1 rv q
end
end Gd
set_option Elab.async false
set_option linter.all false
set_option maxRecDepth 100000
set_option maxHeartbeats 1000000
namespace Rp
open PySem PySem.Spec PyProof.Rows L2 Gd
mutual
inductive PyV (H : Hp) : V → PyData → Prop
  | non : PyV H .non .none
  | bl (b : Bool) : PyV H (.bl b) (.bool b)
  | int (i : Int) : PyV H (.int i) (.int i)
  | str (x : Str) : PyV H (.str x) (.str x)
  | lst {a : Addr} {xs : List V} {ds : List PyData} : H a = some (.lst xs) → PyVs H xs ds → PyV H (.ref a) (.list ds)
  | tup {a : Addr} {xs : List V} {ds : List PyData} : H a = some (.tup xs) → PyVs H xs ds → PyV H (.ref a) (.tuple ds)
inductive PyVs (H : Hp) : List V → List PyData → Prop
  | nil : PyVs H [] []
  | cons {x : V} {xs : List V} {d : PyData} {ds : List PyData} : PyV H x d → PyVs H xs ds → PyVs H (x :: xs) (d :: ds)
end
mutual
theorem PyV.mono {H H' : Hp} (s : Same H H') : ∀ {v : V} {d : PyData}, PyV H v d → PyV H' v d
  | _, _, .non => .non
  | _, _, .bl b => .bl b
  | _, _, .int i => .int i
  | _, _, .str x => .str x
  | _, _, .lst e q => .lst (s _ _ e) (PyVs.mono s q)
  | _, _, .tup e q => .tup (s _ _ e) (PyVs.mono s q)
theorem PyVs.mono {H H' : Hp} (s : Same H H') : ∀ {vs : List V} {ds : List PyData}, PyVs H vs ds → PyVs H' vs ds
  | _, _, .nil => .nil
  | _, _, .cons q qs => .cons (PyV.mono s q) (PyVs.mono s qs)
end
/-- a dict of ints and texts to scalars -/
def scalD : V → Option PyData
  | .non => some .none
  | .bl b => some (.bool b)
  | .int i => some (.int i)
  | .str x => some (.str x)
  | _ => none
def keyD : Key → PyData
  | .inl i => .int i
  | .inr x => .str x
/-- a dict with scalars alone -/
inductive Flat : List (Key × V) → List (PyData × PyData) → Prop
  | nil : Flat [] []
  | cons {k : Key} {v : V} {d : PyData} {kvs : List (Key × V)} {r : List (PyData × PyData)} : scalD v = some d → Flat kvs r → Flat ((k, v) :: kvs) ((keyD k, d) :: r)
end Rp
set_option Elab.async false
set_option linter.all false
set_option maxRecDepth 100000
set_option maxHeartbeats 1000000
namespace Dn
open PySem PySem.Spec PyProof.Rows L2 Gd Zn Rp
/-- the pot: two counts -/
def PotOk (H : Hp) (p : Addr) : Prop := ∃ a b : Int, H p = some (.lst [.int a, .int b]) ∧ 0 ≤ a ∧ 0 ≤ b ∧ b < 2 ^ 32
/-- all but the pot stays; the pot stays a pot -/
structure RX (p : Option Addr) (H H' : Hp) : Prop where
  keep : ∀ c o, p ≠ some c → H c = some o → H' c = some o
  pot : ∀ a, p = some a → PotOk H a → PotOk H' a
theorem RX.refl {p : Option Addr} (H : Hp) : RX p H H := ⟨fun _ _ _ e => e, fun _ _ e => e⟩
theorem RX.trans {p : Option Addr} {H H1 H2 : Hp} (a : RX p H H1) (b : RX p H1 H2) : RX p H H2 := ⟨fun c o n e => b.keep c o n (a.keep c o n e), fun q e k => b.pot q e (a.pot q e k)⟩
theorem RX.of {p : Option Addr} {H H' : Hp} (s : Same H H') : RX p H H' := ⟨fun c o _ e => s c o e, fun a _ ⟨x, y, e, r⟩ => ⟨x, y, s a _ e, r⟩⟩
theorem RX.same {H H' : Hp} (s : RX none H H') : Same H H' := fun c o e => s.keep c o (by simp) e
theorem same_new {H : Hp} {p : Addr} {o : HO} (h : H p = none) : Same H (upd H p o) := fun b x e => by rw [upd_ne (ne_of_none e h)]; exact e
theorem RX.new {p : Option Addr} {H : Hp} {a : Addr} {o : HO} (h : H a = none) : RX p H (upd H a o) := .of (same_new h)
theorem PotOk.some_ {H : Hp} {p : Addr} (h : PotOk H p) : H p ≠ none := by
  obtain ⟨a, b, e, _⟩ := h
  rw [e]
  simp
/-- what H did not know may change -/
theorem RX.mut {p : Option Addr} {H H' : Hp} {a : Addr} {o : HO} (s : RX p H H') (h : H a = none) (hp : ∀ q, p = some q → PotOk H q) : RX p H (upd H' a o) := by
  refine ⟨fun c u n e => ?_, fun q e k => ?_⟩
  · rw [upd_ne (ne_of_none e h)]
    exact s.keep c u n e
  · have nq : q ≠ a := fun z => by subst z; exact (hp q e).some_ h
    obtain ⟨x, y, e1, r⟩ := s.pot q e k
    exact ⟨x, y, by rw [upd_ne nq]; exact e1, r⟩
/-- the pot is there, where there is one -/
def Has (p : Option Addr) (H : Hp) : Prop := ∀ q, p = some q → PotOk H q
theorem Has.to {p : Option Addr} {H H' : Hp} (h : Has p H) (s : RX p H H') : Has p H' := fun q e => s.pot q e (h q e)
theorem has_none {H : Hp} : Has none H := fun q e => by cases e
theorem Has.ne {p : Option Addr} {H : Hp} (h : Has p H) {a : Addr} (n : H a = none) : p ≠ some a := fun e => (h a e).some_ n
/-- what a comprehension asks of its iterator -/
def LcB (g : TG) (tt : TT) (te : TE) (vs : List Nat) (σ : L2.St) (Q : VK) (J : It) (H1 : Hp) : Prop := ∀ D, H1 D = none → ∃ W : Nat → Nat → Hp → Prop, (∃ m, W 0 m (upd H1 D (.lst []))) ∧ ∀ i m H, W i m H →
  (J.stop i H ∧ Q (.ref D) H) ∨ (J.go i H ∧ ∃ Nx : Hp → Prop, (∀ H', Nx H' → ∃ m', m' < m ∧ W (i + 1) m' H') ∧ ∀ x H', J.yld i H x H' → g x (wipe σ vs) H' fun σ2 H2 => wipe σ2 vs = wipe σ vs ∧ tt σ2 H2 fun b H3 =>
    if b = true then te σ2 H3 fun y H4 => ∃ acc, H4 D = some (.lst acc) ∧ acc.length < sizeLine ∧ Nx (upd H4 D (.lst (acc ++ [y]))) else Nx H3)
/-- [e for .. in J] where the elements are scalars that El tells -/
theorem lc_el {p : Option Addr} {J : It} {g : TG} {te : TE} {vs : List Nat} {σ : L2.St} {H1 : Hp} {Q : VK} (n : Nat) (El : Nat → V → Prop) (hp : Has p H1) (hn : n ≤ 1000)
    (hgo : ∀ i H, i < n → RX p H1 H → J.go i H) (hst : ∀ H, RX p H1 H → J.stop n H)
    (hs : ∀ i x H H' (C : VK), i < n → RX p H1 H → Has p H → J.yld i H x H' → (∀ y H4, RX p H H4 → El i y → C y H4) → g x (wipe σ vs) H' fun σ2 H2 => wipe σ2 vs = wipe σ vs ∧ te σ2 H2 C)
    (hd : ∀ D H xs, H1 D = none → RX p H1 H → H D = some (.lst xs) → xs.length = n → (∀ i v, xs[i]? = some v → El i v) → Q (.ref D) H) :
    LcB g tYes te vs σ Q J H1 := by
  intro D nD
  have nP : p ≠ some D := hp.ne nD
  refine ⟨fun i m H => i ≤ n ∧ m = n - i ∧ RX p H1 H ∧ ∃ xs, H D = some (.lst xs) ∧ xs.length = i ∧ ∀ j v, xs[j]? = some v → El j v, ⟨n, Nat.zero_le _, rfl, RX.new nD, [], upd_same, rfl, fun j v e => by simp at e⟩, ?_⟩
  rintro i m H ⟨hi, rfl, s1, xs, hD, hl, hE⟩
  by_cases hlt : i < n
  · refine .inr ⟨hgo i H hlt s1, fun H' => i + 1 ≤ n ∧ RX p H1 H' ∧ ∃ xs, H' D = some (.lst xs) ∧ xs.length = i + 1 ∧ ∀ j v, xs[j]? = some v → El j v, fun H' h => ⟨n - (i + 1), by omega, h.1, rfl, h.2⟩, fun x H' hy => ?_⟩
    refine hs i x H H' _ hlt s1 (hp.to s1) hy fun y H4 s4 e4 => ?_
    have hD4 := s4.keep D _ nP hD
    have s5 : RX p H1 (upd H4 D (.lst (xs ++ [y]))) := (s1.trans s4).mut nD hp
    refine ⟨xs, hD4, Nat.lt_of_lt_of_le (by omega : xs.length < 1001) (by decide), hlt, s5, xs ++ [y], upd_same, by simp [hl], fun j v e => ?_⟩
    by_cases hj : j < xs.length
    · rw [List.getElem?_append_left hj] at e
      exact hE j v e
    · rw [List.getElem?_append_right (by omega)] at e
      have z : j - xs.length = 0 := by
        by_cases q : j - xs.length = 0
        · exact q
        · rw [List.getElem?_eq_none (by simp; omega)] at e; cases e
      rw [z] at e
      cases e
      have : j = i := by omega
      subst this
      exact e4
  · have e : i = n := by omega
    subst e
    exact .inl ⟨hst H s1, hd D H xs nD s1 hD hl hE⟩
/-- the whole comprehension, from what its iterator gives -/
theorem tlc_of {wi : TI} {g : TG} {tt : TT} {te : TE} {vs : List Nat} {σ : L2.St} {H H1 : Hp} {Q : VK} (J : It) (hw : ∀ R : It → Hp → Prop, R J H1 → wi σ H R) (h : LcB g tt te vs σ Q J H1) : tLc wi g tt te vs σ H Q := hw _ h
section
variable {σ : L2.St} {H : Hp} {Q : VK} {te ta : TE} {t : TA} {D : Ends}
theorem r_next (h : D.nx σ H) : tNext D σ H := h
theorem r_nif {c : TT} {t u : TS} {rt : VK} {bk ct : L2.St → Hp → Prop} (h : c σ H fun b H1 => if b = true then t D σ H1 else u D σ H1) : tNext ⟨tIfS c t u D, rt, bk, ct⟩ σ H := h
theorem r_nret {rt : VK} {bk ct : L2.St → Hp → Prop} (h : te σ H D.rt) : tNext ⟨tRet te D, rt, bk, ct⟩ σ H := h
theorem r_nseq {t u : TS} {rt : VK} {bk ct : L2.St → Hp → Prop} (h : t { D with nx := u D } σ H) : tNext ⟨tSeq t u D, rt, bk, ct⟩ σ H := h
theorem r_if {c : TT} {t u : TS} (h : c σ H fun b H1 => if b = true then t D σ H1 else u D σ H1) : tIfS c t u D σ H := h
theorem r_not {c : TT} {Q : Bool → Hp → Prop} (h : c σ H fun b H1 => Q (!b) H1) : tNot c σ H Q := h
theorem r_b {Q : Bool → Hp → Prop} (h : te σ H fun x H1 => ∃ c, x = .bl c ∧ Q c H1) : tB te σ H Q := h
theorem r_seq {t u : TS} (h : t { D with nx := u D } σ H) : tSeq t u D σ H := h
theorem r_asg {g : TG} (h : te σ H fun x H1 => g x σ H1 D.nx) : tAsg te g D σ H := h
theorem r_op {r : R2} {ta tb : TE} (h : ta σ H fun x H1 => tb σ H1 fun y H2 => r x y H2 Q) : tOp r ta tb σ H Q := h
theorem r_ret (h : te σ H D.rt) : tRet te D σ H := h
theorem r_cb {r : List V → Hp → VK → Prop} (h : t σ H fun vs H1 => r vs H1 Q) : tCB r t σ H Q := h
theorem r_cons {Q : List V → Hp → Prop} (h : ta σ H fun x H1 => t σ H1 fun xs H2 => Q (x :: xs) H2) : tCons ta t σ H Q := h
end
theorem row2 {K : PySem.W.Frag} {H : Hp} {i : Nat} {t1 t2 : Bool} {a b : Addr} {xs ys : List V} {x y : V} (h1 : SqV K H t1 a xs) (e1 : xs[i]? = some x) (h2 : SqV K H t2 b ys) (e2 : ys[i]? = some y) : RowAt K H i [(t1, a), (t2, b)] [x, y] := ⟨⟨_, h1, e1⟩, ⟨_, h2, e2⟩, trivial⟩
def Its (t : Bool) (K : PySem.W.Frag) (a : Addr) : It := cond t (Itt K a) (Itl K a)
theorem its_go {t : Bool} {K : PySem.W.Frag} {a : Addr} {H : Hp} {xs : List V} {x : V} {i : Nat} (q : SqV K H t a xs) (e : xs[i]? = some x) : (Its t K a).go i H := by
  cases t with
  | true => exact ⟨xs, x, q, e⟩
  | false => exact ⟨xs, x, q, e⟩
theorem its_stop {t : Bool} {K : PySem.W.Frag} {a : Addr} {H : Hp} {xs : List V} {i : Nat} (q : SqV K H t a xs) (e : xs.length ≤ i) : (Its t K a).stop i H := by
  cases t with
  | true => exact ⟨xs, q, e⟩
  | false => exact ⟨xs, q, e⟩
theorem its_yld {t : Bool} {K : PySem.W.Frag} {a : Addr} {H H' : Hp} {xs : List V} {x : V} {i : Nat} (y : (Its t K a).yld i H x H') (q : SqV K H t a xs) : H' = H ∧ xs[i]? = some x := by
  cases t with
  | true => exact ⟨y.1, y.2 xs q⟩
  | false => exact ⟨y.1, y.2 xs q⟩
def iSeq (K : PySem.W.Frag) (tl : TE) : TI := fun σ H R => tl σ H fun x H1 => ∃ t a xs, x = .ref a ∧ SqV K H1 t a xs ∧ R (Its t K a) H1
section
variable {X : Cx}
theorem pi_seq {tg l : Expr} {tl : TE} (hl : PE X l tl) : PI X tg l (iSeq X.K tl) := by
  refine ⟨fun pins s σ H R I h => thn (hl.run pins s σ H _ I h) fun v s1 hv => ?_⟩
  obtain ⟨x, H1, I1, rx, t, a, xs, rfl, hq, hR⟩ := hv
  cases (show v = Value.ref a from rx)
  have fr : ∀ b ∈ [s1.heap.objs.size], FpOk X pins H1 b := fun b hb => by
    obtain rfl : b = s1.heap.objs.size := by simpa using hb
    exact I1.fpOk (Nat.le_refl _) (I1.hok.fresh (Nat.le_refl _))
  cases t with
  | true =>
    obtain ⟨its, rv, p, _⟩ := I1.tuple hq
    exact wpAny_pyIter_tuple p ⟨s1.heap.objs.size, [s1.heap.objs.size], _, _, H1, rfl, I1.kept (t' := s1.toks) fun b o e => Heap.get?_push_of_some _ e, turn_tuple a _, ⟨_, Heap.get?_push_size _ rfl, rfl, rfl⟩, fr, hR⟩
  | false =>
    obtain ⟨its, rv, p, _⟩ := I1.list hq
    exact wpAny_pyIter_list p.isList ⟨s1.heap.objs.size, [s1.heap.objs.size], _, _, H1, rfl, I1.kept (t' := s1.toks) fun b o e => Heap.get?_push_of_some _ e, turn_list a _, ⟨_, Heap.get?_push_size _ rfl, rfl, rfl⟩, fr, hR⟩
end
theorem sq_or {t : Bool} {K : PySem.W.Frag} {a : Addr} {H : Hp} {xs : List V} (q : SqV K H t a xs) : SqL K H a xs ∨ SqT K H a xs := by
  cases t with
  | true => exact .inr q
  | false => exact .inl q
def rIxS2 (K : PySem.W.Frag) : R2 := fun x y H Q => ∃ t p xs i v, x = .ref p ∧ y = .int i ∧ SqV K H t p xs ∧ atI xs i = some v ∧ Q v H
theorem ix_sq {X : Cx} : IxR X (rIxS2 X.K) := by
  intro value slice pins s σ H x y v u Q I rx ry h hs
  obtain ⟨t, p, xs, i, z, e1, e2, hq, he, q⟩ := h
  cases t with
  | true => exact ix_tup value slice pins s σ H x y v u Q I rx ry ⟨p, xs, i, z, e1, e2, hq, he, q⟩ hs
  | false => exact ix_list value slice pins s σ H x y v u Q I rx ry ⟨p, xs, i, z, e1, e2, hq, he, q⟩ hs
def rLen (K : PySem.W.Frag) : List V → Hp → VK → Prop := fun xs H Q => ∃ p ys, xs = [.ref p] ∧ (SqL K H p ys ∨ SqT K H p ys) ∧ Q (.int ys.length) H
theorem c_len {X : Cx} : CallR X (.builtin "len") (rLen X.K) := call_len_seq
section
variable {X : Cx}
theorem pss_dead {st : List Stmt} : PSs X st (fun _ _ _ => False) := ⟨fun _ _ _ _ _ _ h => h.elim⟩
end
end Dn
set_option Elab.async false
set_option linter.all false
set_option maxRecDepth 100000
set_option maxHeartbeats 1000000
namespace Tb
open PySem PySem.Spec PyProof.Rows L2 Gd Zn Rp Dn
def KS (H H' : Hp) : Prop := ∀ c o, (∀ xs, o ≠ .lst xs) → H c = some o → H' c = some o
theorem KS.refl (H : Hp) : KS H H := fun _ _ _ e => e
theorem KS.trans {H H1 H2 : Hp} (a : KS H H1) (b : KS H1 H2) : KS H H2 := fun c o n e => b c o n (a c o n e)
theorem KS.of {H H' : Hp} (s : Same H H') : KS H H' := fun c o _ e => s c o e
theorem KS.rx {p : Option Addr} {H H' : Hp} (s : RX p H H') (hp : Has p H) : KS H H' := fun c o n e => by
  refine s.keep c o (fun z => ?_) e
  obtain ⟨a, b, e2, _⟩ := hp c z
  rw [e] at e2
  cases e2
  exact n _ rfl
theorem KS.lst {H : Hp} {a : Addr} {xs : List V} {o' : HO} (e : H a = some (.lst xs)) : KS H (upd H a o') := fun c o n q => by
  have nc : c ≠ a := fun z => by
    subst z
    rw [q] at e
    cases e
    exact n _ rfl
  rw [upd_ne nc]
  exact q
/-- a row, a table of rows: tuples -/
def RowV (H : Hp) (v : V) (r : List Int) : Prop := ∃ b, v = .ref b ∧ H b = some (.tup (r.map V.int))
inductive RowsV (H : Hp) : List V → List (List Int) → Prop
  | nil : RowsV H [] []
  | cons {v : V} {vs : List V} {r : List Int} {M : List (List Int)} : RowV H v r → RowsV H vs M → RowsV H (v :: vs) (r :: M)
def Mx (H : Hp) (v : V) (M : List (List Int)) : Prop := ∃ a vs, v = .ref a ∧ H a = some (.tup vs) ∧ RowsV H vs M
theorem RowV.mono {H H' : Hp} {v : V} {r : List Int} (s : KS H H') (h : RowV H v r) : RowV H' v r := by
  obtain ⟨b, e, h⟩ := h
  exact ⟨b, e, s b _ (fun _ z => by cases z) h⟩
theorem RowsV.mono {H H' : Hp} {vs : List V} {M : List (List Int)} (s : KS H H') (h : RowsV H vs M) : RowsV H' vs M := by
  induction h with
  | nil => exact .nil
  | cons p _ ih => exact .cons (p.mono s) ih
theorem Mx.mono {H H' : Hp} {v : V} {M : List (List Int)} (s : KS H H') (h : Mx H v M) : Mx H' v M := by
  obtain ⟨a, vs, e, h, r⟩ := h
  exact ⟨a, vs, e, s a _ (fun _ z => by cases z) h, r.mono s⟩
theorem RowsV.len {H : Hp} {vs : List V} {M : List (List Int)} (h : RowsV H vs M) : vs.length = M.length := by
  induction h with
  | nil => rfl
  | cons _ _ ih => rw [List.length_cons, List.length_cons, ih]
theorem RowsV.get {H : Hp} {vs : List V} {M : List (List Int)} (h : RowsV H vs M) {i : Nat} {v : V} (e : vs[i]? = some v) : ∃ r, M[i]? = some r ∧ RowV H v r := by
  induction h generalizing i with
  | nil => simp at e
  | cons p _ ih =>
    cases i with
    | zero =>
      cases e
      exact ⟨_, rfl, p⟩
    | succ i =>
      obtain ⟨r, h1, h2⟩ := ih (i := i) (by simpa using e)
      exact ⟨r, by simpa using h1, h2⟩
theorem rows_of {H : Hp} : ∀ {vs : List V} {M : List (List Int)}, vs.length = M.length → (∀ (i : Nat) (v : V), vs[i]? = some v → ∃ r, M[i]? = some r ∧ RowV H v r) → RowsV H vs M
  | [], [], _, _ => .nil
  | v :: vs, r :: M, hl, h => by
    obtain ⟨r', e, p⟩ := h 0 v rfl
    cases e
    exact .cons p (rows_of (Nat.succ.inj hl) fun i w e => h (i + 1) w e)
theorem RowV.py {H : Hp} {v : V} {r : List Int} (h : RowV H v r) : PyV H v (.tuple (r.map PyData.int)) := by
  obtain ⟨b, rfl, h⟩ := h
  refine .tup h ?_
  clear h
  induction r with
  | nil => exact .nil
  | cons x r ih => exact .cons (.int x) ih
theorem RowsV.py {H : Hp} {vs : List V} {M : List (List Int)} (h : RowsV H vs M) : PyVs H vs (M.map fun r => .tuple (r.map PyData.int)) := by
  induction h with
  | nil => exact .nil
  | cons p _ ih => exact .cons p.py ih
def mxD (M : List (List Int)) : PyData := .tuple (M.map fun r => .tuple (r.map PyData.int))
theorem Mx.py {H : Hp} {v : V} {M : List (List Int)} (h : Mx H v M) : PyV H v (mxD M) := by
  obtain ⟨a, vs, rfl, h, r⟩ := h
  exact .tup h r.py
/-- a comprehension whose elements hang on what is no list -/
theorem lc_ks {p : Option Addr} {J : It} {g : TG} {te : TE} {vs : List Nat} {σ : L2.St} {H1 : Hp} {Q : VK} (n : Nat) (El : Nat → V → Hp → Prop) (mono : ∀ i v H H', KS H H' → El i v H → El i v H') (hp : Has p H1) (hn : n ≤ 1000)
    (hgo : ∀ i H, i < n → RX p H1 H → J.go i H) (hst : ∀ H, RX p H1 H → J.stop n H)
    (hs : ∀ i x H H' (C : VK), i < n → RX p H1 H → Has p H → J.yld i H x H' → (∀ y H4, RX p H H4 → El i y H4 → C y H4) → g x (wipe σ vs) H' fun σ2 H2 => wipe σ2 vs = wipe σ vs ∧ te σ2 H2 C)
    (hd : ∀ D H xs, H1 D = none → RX p H1 H → H D = some (.lst xs) → xs.length = n → (∀ i v, xs[i]? = some v → El i v H) → Q (.ref D) H) : LcB g tYes te vs σ Q J H1 := by
  intro D nD
  have nP : p ≠ some D := hp.ne nD
  refine ⟨fun i m H => i ≤ n ∧ m = n - i ∧ RX p H1 H ∧ ∃ xs, H D = some (.lst xs) ∧ xs.length = i ∧ ∀ j v, xs[j]? = some v → El j v H, ⟨n, Nat.zero_le _, rfl, RX.new nD, [], upd_same, rfl, fun j v e => by simp at e⟩, ?_⟩
  rintro i m H ⟨hi, rfl, s1, xs, hD, hl, hE⟩
  by_cases hlt : i < n
  · refine .inr ⟨hgo i H hlt s1, fun H' => i + 1 ≤ n ∧ RX p H1 H' ∧ ∃ xs, H' D = some (.lst xs) ∧ xs.length = i + 1 ∧ ∀ j v, xs[j]? = some v → El j v H', fun H' h => ⟨n - (i + 1), by omega, h.1, rfl, h.2⟩, fun x H' hy => ?_⟩
    have hpH := hp.to s1
    refine hs i x H H' _ hlt s1 hpH hy fun y H4 s4 e4 => ?_
    have hD4 := s4.keep D _ nP hD
    have s5 : RX p H1 (upd H4 D (.lst (xs ++ [y]))) := (s1.trans s4).mut nD hp
    have k5 : KS H4 (upd H4 D (.lst (xs ++ [y]))) := KS.lst hD4
    refine ⟨xs, hD4, Nat.lt_of_lt_of_le (by omega : xs.length < 1001) (by decide), hlt, s5, xs ++ [y], upd_same, by simp [hl], fun j v e => ?_⟩
    by_cases hj : j < xs.length
    · rw [List.getElem?_append_left hj] at e
      exact mono _ _ _ _ ((KS.rx s4 hpH).trans k5) (hE j v e)
    · rw [List.getElem?_append_right (by omega)] at e
      have z : j - xs.length = 0 := by
        by_cases w : j - xs.length = 0
        · exact w
        · rw [List.getElem?_eq_none (by simp; omega)] at e; cases e
      rw [z] at e
      cases e
      have : j = i := by omega
      subst this
      exact mono _ _ _ _ k5 e4
  · have e : i = n := by omega
    subst e
    exact .inl ⟨hst H s1, hd D H xs nD s1 hD hl hE⟩
/-- tuple(a list that was just made) -/
def rTup (K : PySem.W.Frag) : List V → Hp → VK → Prop := fun xs H Q => ∃ p ys, xs = [.ref p] ∧ ((SqL K H p ys ∧ ∀ l, H l = none → Q (.ref l) (upd H l (.tup ys))) ∨ (SqT K H p ys ∧ Q (.ref p) H))
theorem c_tup {X : Cx} : CallR X (.type "tuple") (rTup X.K) := call_tuple_of
def transp (m : Nat) (M : List (List Int)) : List (List Int) := (List.range m).map fun j => M.map fun r => r.getD j 0
end Tb
set_option Elab.async false
set_option linter.all false
set_option maxRecDepth 100000
set_option maxHeartbeats 1000000
namespace Gn
open PySem PySem.Spec PyProof.Rows L2 Gd Zn Rp Dn
structure Def (P : Program) (w : World) (K : PySem.W.Frag) (mg : Str → Option Value) (base : Heap) (nm : Str) (k : Nat) (ps : List Str) (sp : Sp) : Prop where
  ex : ∃ (f : Addr) (fd : FuncData), FnOk P w K mg base CX0 k f fd ps sp ∧ mg nm = some (.ref f) ∧ PySem.W.keepIn K (.ref f) = true ∧ Binds K fd ps []
section
variable {X : Cx}
theorem pe_def {nm : Str} {k j : Nat} {ps : List Str} {sp : Sp} {e : Expr} {es : List Expr} {t : TA} {p pos : Pos} (D : Def X.prog X.w X.K X.mg X.base nm k ps sp) (room : Room j X.A) (ha : PA X (e :: es) t) (hkj : k ≤ j := by decide) (hg : Gl X nm := by rfl)
    (hdb : (nm == ("__debug__" : Str)) = false := by decide) (he : starEach (e :: es) X.env = (false, eval e X.env) :: starEach es X.env := by rfl) (hpl : (backTo pos (starEach es X.env)).any (·.1) = false := by rfl) :
    PE X (.Call (.Name nm p) (e :: es) [] pos) (tCall sp [] E0 t) := by
  obtain ⟨f, fd, G, m, kp, b⟩ := D.ex
  exact pe_call G (room.mono hkj) hg m kp b .nil pass0 ha hdb he hpl
end
def AnyV (H : Hp) (v : V) (d : PyData) : Prop := PyV H v d ∨ ∃ a kvs r, v = .ref a ∧ H a = some (.dK kvs) ∧ d = .dict r ∧ Flat kvs r
theorem AnyV.mono {H H' : Hp} {v : V} {d : PyData} (s : Same H H') (h : AnyV H v d) : AnyV H' v d := by
  rcases h with h | ⟨a, kvs, r, e, h, e2, f⟩
  · exact .inl (h.mono s)
  · exact .inr ⟨a, kvs, r, e, s _ _ h, e2, f⟩
def tyD : PyData → String
  | .none => "NoneType" | .bool _ => "bool" | .int _ => "int" | .str _ => "str" | .list _ => "list" | .tuple _ => "tuple" | .dict _ => "dict"
theorem AnyV.ty {K : PySem.W.Frag} {H : Hp} {v : V} {d : PyData} (h : AnyV H v d) : TyX K H v (.type (tyD d)) := by
  rcases h with h | ⟨a, kvs, r, rfl, e, rfl, f⟩
  · cases h with
    | non => exact .base .non
    | bl b => exact .base (.bl b)
    | int i => exact .base (.int i)
    | str x => exact .base (.str x)
    | lst e _ => exact .base (.lst e)
    | tup e _ => exact .base (.tup e)
  · exact .base (.dK e)
def isIntD : PyData → Bool
  | .int _ => true
  | _ => false
def isBool : PyData → Bool
  | .bool _ => true
  | _ => false
def isSeq : PyData → Bool
  | .list _ => true
  | .tuple _ => true
  | _ => false
def items : PyData → List PyData
  | .list xs => xs
  | .tuple xs => xs
  | _ => []
theorem kit_int (K : PySem.W.Frag) (d : PyData) : PySem.W.kitOne K (.type (tyD d)) (.type "int") = some (isIntD d || isBool d) := by
  cases d <;> dsimp only [tyD, isIntD, isBool] <;> exact kit_ty (by decide +kernel)
theorem kit_bool (K : PySem.W.Frag) (d : PyData) : PySem.W.kitOne K (.type (tyD d)) (.type "bool") = some (isBool d) := by
  cases d <;> dsimp only [tyD, isBool] <;> exact kit_ty (by decide +kernel)
theorem kit_seq (K : PySem.W.Frag) (d : PyData) : PySem.W.kitAny K (.type (tyD d)) [.type "list", .type "tuple"] = some (isSeq d) := by
  cases d <;> dsimp only [tyD, isSeq] <;>
  first
  | exact kitAny_cons (kit_ty (b := "list") (r := true) (by decide +kernel)) (fun h => by cases h) (fun _ => rfl)
  | exact kitAny_cons (kit_ty (b := "list") (r := false) (by decide +kernel)) (fun _ => kitAny_cons (kit_ty (b := "tuple") (r := true) (by decide +kernel)) (fun h => by cases h) (fun _ => rfl)) (fun h => by cases h)
  | exact kitAny_cons (kit_ty (b := "list") (r := false) (by decide +kernel)) (fun _ => kitAny_cons (kit_ty (b := "tuple") (r := false) (by decide +kernel)) (fun _ => kitAny_nil) (fun h => by cases h)) (fun h => by cases h)
def iD (xs : List Int) : List PyData := xs.map PyData.int
theorem pyVs_ints {H : Hp} : ∀ {vs : List V} {xs : List Int}, PyVs H vs (iD xs) → vs = xs.map V.int
  | _, [], .nil => rfl
  | _, x :: xs, .cons (.int _) q => by rw [pyVs_ints q]; rfl
/-- a list or a tuple, its items -/
def SeqV (H : Hp) (v : V) (ds : List PyData) : Prop := PyV H v (.list ds) ∨ PyV H v (.tuple ds)
theorem SeqV.mono {H H' : Hp} {v : V} {ds : List PyData} (s : Same H H') (h : SeqV H v ds) : SeqV H' v ds := h.imp (PyV.mono s) (PyV.mono s)
theorem SeqV.at {H : Hp} {v : V} {ds : List PyData} (K : PySem.W.Frag) (h : SeqV H v ds) : ∃ (t : Bool) (a : Addr) (vs : List V), v = .ref a ∧ (∀ H', Same H H' → SqV K H' t a vs) ∧ PyVs H vs ds := by
  rcases h with h | h
  · cases h with
    | lst e q => exact ⟨false, _, _, rfl, fun H' s => .inl (.inl (s _ _ e)), q⟩
  · cases h with
    | tup e q => exact ⟨true, _, _, rfl, fun H' s => .inl (.inl (s _ _ e)), q⟩
theorem seq_of {H : Hp} {v : V} {d : PyData} (h : AnyV H v d) (e : isSeq d = true) : SeqV H v (items d) := by
  rcases h with h | ⟨_, _, _, _, _, rfl, _⟩
  · cases h with
    | lst x q => exact .inl (.lst x q)
    | tup x q => exact .inr (.tup x q)
    | non => cases e
    | bl _ => cases e
    | int _ => cases e
    | str _ => cases e
  · cases e
def dot (xs ys : List Int) : Int := ((xs.zip ys).map fun p => p.1 * p.2).sum
def Small (x : Int) : Prop := -(2 ^ 64) < x ∧ x < 2 ^ 64
theorem map_of_get {α : Type} {n : Nat} (f : α → V) : ∀ {vs : List V} {l : List α}, vs.length = l.length → (∀ (i : Nat) (v : V), vs[i]? = some v → ∃ x : α, l[i]? = some x ∧ v = f x) → vs = l.map f
  | [], [], _, _ => rfl
  | v :: vs, x :: l, hl, h => by
    obtain ⟨y, e1, e2⟩ := h 0 v rfl
    cases e1
    rw [e2, map_of_get (n := n) f (Nat.succ.inj hl) (fun i w e => h (i + 1) w e)]
    rfl
theorem pyVs_len {H : Hp} : ∀ {vs : List V} {ds : List PyData}, PyVs H vs ds → vs.length = ds.length
  | _, _, .nil => rfl
  | _, _, .cons _ q => by rw [List.length_cons, List.length_cons, pyVs_len q]
theorem pyVs_get {H : Hp} : ∀ {vs : List V} {ds : List PyData} {i : Nat} {v : V}, PyVs H vs ds → vs[i]? = some v → ∃ d, ds[i]? = some d ∧ PyV H v d
  | _, _, _, _, .nil, e => by simp at e
  | _, _, 0, _, .cons (d := d) p _, e => by
    cases e
    exact ⟨d, rfl, p⟩
  | _, _, i + 1, _, .cons _ q, e => by
    obtain ⟨d', h1, h2⟩ := pyVs_get (i := i) q (by simpa using e)
    exact ⟨d', by simpa using h1, h2⟩
end Gn
set_option Elab.async false
set_option linter.all false
set_option maxRecDepth 100000
set_option maxHeartbeats 1000000
namespace Wd
open PySem PySem.Spec PyProof.Rows L2
def Big (x : Int) : Prop := ∃ k : Nat, k ≤ 20000 ∧ x.natAbs < 2 ^ k
def Wid (x : Int) : Prop := ∃ k : Nat, k ≤ 1000000 ∧ x.natAbs < 2 ^ k
theorem lit {x : Int} (h : -(2 ^ 64) < x ∧ x < 2 ^ 64) : Big x := ⟨64, by decide, by omega⟩
theorem Big.w {x : Int} (h : Big x) : Wid x := by
  obtain ⟨k, a, b⟩ := h
  exact ⟨k, Nat.le_trans a (by decide), b⟩
theorem mulW {i j : Int} (hi : Wid i) (hj : Wid j) : CMulX i j := by
  obtain ⟨a, h1, h2⟩ := hi
  obtain ⟨b, h3, h4⟩ := hj
  exact mulx_ok h2 h4 (by omega)
theorem mul {i j : Int} (hi : Big i) (hj : Big j) : CMulX i j := mulW hi.w hj.w
theorem pow_le {a b : Nat} (h : a ≤ b) : 2 ^ a ≤ 2 ^ b := Nat.pow_le_pow_right (by decide) h
theorem abs_mul {x y : Int} {a b : Nat} (hx : x.natAbs < 2 ^ a) (hy : y.natAbs < 2 ^ b) : (x * y).natAbs < 2 ^ (a + b) := by
  rw [Int.natAbs_mul, Nat.pow_add]
  exact Nat.mul_lt_mul'' hx hy
theorem abs_mono {x : Int} {a b : Nat} (hx : x.natAbs < 2 ^ a) (h : a ≤ b) : x.natAbs < 2 ^ b := Nat.lt_of_lt_of_le hx (pow_le h)
theorem abs_add {x y : Int} {a : Nat} (hx : x.natAbs < 2 ^ a) (hy : y.natAbs < 2 ^ a) : (x + y).natAbs < 2 ^ (a + 1) := by
  rw [Nat.pow_succ]
  omega
theorem abs_sum : ∀ {l : List Int} {B : Nat}, (∀ x ∈ l, x.natAbs ≤ B) → l.sum.natAbs ≤ l.length * B
  | [], B, _ => by simp
  | x :: l, B, h => by
    have h1 := h x List.mem_cons_self
    have h2 := abs_sum (l := l) (B := B) fun y hy => h y (List.mem_cons_of_mem _ hy)
    rw [List.sum_cons, List.length_cons, Nat.add_mul, Nat.one_mul]
    omega
end Wd
set_option Elab.async false
set_option linter.all false
set_option maxRecDepth 100000
set_option maxHeartbeats 1000000
namespace T81
open PySem PySem.Spec PyProof.Rows L2 Gd Zn Rp Dn Tb Gn En Zs
def top (i : Nat) : Stmt := PySem.Challenge.pw_keptbowls_k81_whole_rounds_and_stayers.main.body.getD i (.Pass ⟨0, 0, 0, 0⟩)
abbrev Small (x : Int) : Prop := Wd.Big x
structure Txt (mg : Str → Option Value) : Prop where
  isi : mg "isinstance" = none
  int : mg "int" = none
  bool : mg "bool" = none
  list : mg "list" = none
  tuple : mg "tuple" = none
  all : mg "all" = none
  sum : mg "sum" = none
  zip : mg "zip" = none
  len : mg "len" = none
  range : mg "range" = none
  repr : mg "repr" = none
  abs : mg "abs" = none
  max : mg "max" = none
  divmod : mg "divmod" = none
  dict : mg "dict" = none
  enum : mg "enumerate" = none
section
variable {P : Program} {w : World} {K : PySem.W.Frag} {mg : Str → Option Value} {base : Heap}
abbrev st_is_integer : Stmt := top 16
def sp_is_integer : Sp := fun vs H Q _ => ∃ v d, vs = [v] ∧ AnyV H v d ∧ ∀ H', Same H H' → Q (.bl (isIntD d)) H'
theorem sc_is_integer : FnScope ["value"] ["value"] (defScope st_is_integer) := ⟨rfl, rfl, rfl, by decide +kernel, rfl, by decide +kernel, by decide +kernel⟩
theorem ok_is_integer {f : Addr} {fd : FuncData} (F : Fun K "is_integer" "is_integer" st_is_integer f fd) (T : Txt mg) : FnOk P w K mg base CX0 1 f fd ["value"] sp_is_integer := by
  refine F.ok sc_is_integer (fun vs H Q E h => ?_) (fun cdv A outer s H vs Q E hr h => ?_)
  · obtain ⟨v, d, rfl, _⟩ := h
    rfl
  · obtain ⟨v, d, rfl, av, q⟩ := h
    refine ⟨_, pss_one (ps_ret (pe_and (pe_callB call_isi (by rfl) T.isi boot_isinstance (pa_cons (pv 0) (pa_cons (pe_bltn (v := .ty "int") (by rfl) T.int PyProof.Rows.boot_int rfl) pa_nil)))
      (pe_one (pe_not (pe_callB call_isi (by rfl) T.isi boot_isinstance (pa_cons (pv 0) (pa_cons (pe_bltn (v := .ty "bool") (by rfl) T.bool PyProof.Rows.boot_bool rfl) pa_nil))))))), ?_⟩
    refine ⟨_, rfl, v, .ty "int", _, _, _, rfl, .ty _, av.ty, kit_int K d, _, rfl, ?_⟩
    cases e : isIntD d || isBool d with
    | false =>
      refine iteF ?_
      have : isIntD d = false := by revert e; cases isIntD d <;> simp
      rw [← this]
      exact q H (Same.refl H)
    | true =>
      refine iteT ?_
      refine ⟨_, rfl, v, .ty "bool", _, _, _, rfl, .ty _, av.ty, kit_bool K d, _, rfl, ?_⟩
      have : (!isBool d) = isIntD d := by
        revert e
        cases d <;> simp [isIntD, isBool]
      rw [this]
      exact q H (Same.refl H)
abbrev st_is_list : Stmt := top 17
def sp_is_list : Sp := fun vs H Q _ => ∃ v d, vs = [v] ∧ AnyV H v d ∧ ∀ H', Same H H' → Q (.bl (isSeq d)) H'
theorem sc_is_list : FnScope ["value"] ["value"] (defScope st_is_list) := ⟨rfl, rfl, rfl, by decide +kernel, rfl, by decide +kernel, by decide +kernel⟩
theorem ok_is_list {f : Addr} {fd : FuncData} (F : Fun K "is_list" "is_list" st_is_list f fd) (T : Txt mg) : FnOk P w K mg base CX0 1 f fd ["value"] sp_is_list := by
  refine F.ok sc_is_list (fun vs H Q E h => ?_) (fun cdv A outer s H vs Q E hr h => ?_)
  · obtain ⟨v, d, rfl, _⟩ := h
    rfl
  · obtain ⟨v, d, rfl, av, q⟩ := h
    refine ⟨_, pss_one (ps_ret (pe_callB call_isiT (by rfl) T.isi boot_isinstance (pa_cons (pv 0) (pa_cons (pe_tup (pa_cons (pe_bltn (v := .ty "list") (by rfl) T.list PyProof.Rows.boot_list rfl) (pa_cons (pe_bltn (v := .ty "tuple") (by rfl) T.tuple PyProof.Rows.boot_tuple rfl) pa_nil))) pa_nil)))), ?_⟩
    refine ⟨_, rfl, (by show 2 ≤ sizeLine; decide), fun t ht => ?_⟩
    exact ⟨v, t, _, _, _, _, rfl, upd_same, .cons (.ty _) (.cons (.ty _) .nil), (av.mono (same_new ht)).ty, kit_seq K d, q _ (same_new ht)⟩
abbrev st_scalar : Stmt := top 28
def sp_scalar : Sp := fun vs H Q _ => ∃ (v o : V) (xs ys : List Int), vs = [v, o] ∧ SeqV H v (iD xs) ∧ SeqV H o (iD ys) ∧ xs.length = ys.length ∧ xs.length ≤ 100 ∧ (∀ x ∈ xs, Small x) ∧ (∀ y ∈ ys, Small y) ∧ ∀ H', Same H H' → Q (.int (dot xs ys)) H'
theorem sc_scalar : FnScope ["row", "other", "number", "factor"] ["row", "other"] (defScope st_scalar) := ⟨rfl, rfl, rfl, by decide +kernel, rfl, by decide +kernel, by decide +kernel⟩
theorem ok_scalar {f : Addr} {fd : FuncData} (F : Fun K "scalar" "scalar" st_scalar f fd) (T : Txt mg) : FnOk P w K mg base CX0 1 f fd ["row", "other"] sp_scalar := by
  refine F.ok sc_scalar (fun vs H Q E h => ?_) (fun cdv A outer s H vs Q E hr h => ?_)
  · obtain ⟨v, o, xs, ys, rfl, _⟩ := h
    rfl
  · obtain ⟨v, o, xs, ys, rfl, sx, sy, hl, hb, hsm, hsy, q⟩ := h
    refine ⟨_, pss_one (ps_ret (pe_callB (cr_sum rfl) (by rfl) T.sum boot_sum (pa_cons (pe_lc (own := [("number", 2), ("factor", 3)]) (g := gTup K 2 (gCons (gName 2) (gCons (gName 3) gNil))) (tt := tYes) rfl sc_scalar.nd (pi_zipn (by rfl) T.zip (pa_cons (pv 0) (pa_cons (pv 1) pa_nil)))
      (blkOk_by (N := ["row", "other", "number", "factor"]) (sc := defScope st_scalar) (by decide +kernel))
      (fun _ _ _ _ _ => pg_tup rfl (pgs_cons (pg_name (i := 2) sc_scalar.nd rfl (Or.inl rfl) (Or.inr rfl)) (pgs_cons (pg_name (i := 3) sc_scalar.nd rfl (Or.inl rfl) (Or.inr rfl)) pgs_nil)))
      (fun _ _ _ _ _ => pts_nil) (fun _ _ _ _ _ => pe_op op_mulX (pv 2) (pv 3))) pa_nil))), ?_⟩
    obtain ⟨t1, a, vx, rfl, qx, px⟩ := sx.at K
    obtain ⟨t2, b, vy, rfl, qy, py⟩ := sy.at K
    have ex := pyVs_ints px
    have ey := pyVs_ints py
    subst ex ey
    refine r_ret (r_cb (r_cons ?_))
    have sq : ∀ H2, Same H H2 → AllSq K H2 [(t1, a), (t2, b)] := fun H2 s2 z hz => by
      rcases List.mem_cons.mp hz with rfl | hz
      · exact ⟨_, qx H2 s2⟩
      · rcases List.mem_cons.mp hz with rfl | hz
        · exact ⟨_, qy H2 s2⟩
        · cases hz
    refine tlc_of (Itn K [(t1, a), (t2, b)]) (H1 := H) (fun R hR => ⟨_, rfl, _, rfl, [(t1, a), (t2, b)], rfl, Nat.zero_lt_succ _, (by show 2 ≤ 3; decide), sq H (Same.refl H), hR⟩) ?_
    refine lc_el (p := none) xs.length (fun i v => ∃ x y, xs[i]? = some x ∧ ys[i]? = some y ∧ v = .int (x * y)) has_none (by omega) (fun i H2 hi s2 => ?_) (fun H2 s2 => ?_) (fun i x H2 H3 C hi s2 _ hy hC => ?_) fun D H2 rs nD s2 hD hrl hE => ?_
    · exact ⟨[.int xs[i], .int (ys[i]'(by omega))], row2 (qx H2 s2.same) (by simp [hi]) (qy H2 s2.same) (by simp [(by omega : i < ys.length)])⟩
    · exact ⟨sq H2 s2.same, (t1, a), List.mem_cons_self, _, qx H2 s2.same, by simp⟩
    · have hi2 : i < ys.length := by omega
      obtain ⟨T2, zs, rfl, nT, rfl, hu⟩ := hy
      have ez : zs = [.int xs[i], .int ys[i]] := (hu _ (row2 (qx H2 s2.same) (by simp [hi]) (qy H2 s2.same) (by simp [hi2]))).symm
      subst ez
      refine ⟨T2, _, rfl, .inl (.inl upd_same), rfl, _, _, rfl, _, _, rfl, rfl, rfl, ?_⟩
      exact ⟨_, rfl, _, rfl, _, _, rfl, rfl, Wd.mul (hsm _ (List.getElem_mem hi)) (hsy _ (List.getElem_mem hi2)), hC _ _ (RX.new nT) ⟨_, _, List.getElem?_eq_getElem hi, List.getElem?_eq_getElem hi2, rfl⟩⟩
    · have er : rs = (xs.zip ys).map fun (p : Int × Int) => V.int (p.1 * p.2) := map_of_get (n := 0) _ (by simp [hrl, hl]) fun i v e => by
        obtain ⟨x, y, e1, e2, e3⟩ := hE i v e
        exact ⟨(x, y), by rw [List.getElem?_zip_eq_some]; exact ⟨e1, e2⟩, e3⟩
      refine ⟨D, (xs.zip ys).map (fun (p : Int × Int) => p.1 * p.2), rfl, .inl (.inl ?_), q H2 s2.same⟩
      rw [hD, er, List.map_map]
      rfl
end
end T81
set_option Elab.async false
set_option linter.all false
set_option maxRecDepth 100000
set_option maxHeartbeats 1000000
namespace T81
open PySem PySem.Spec PyProof.Rows L2 Gd Zn Rp Dn Tb Gn En Zs
section
variable {P : Program} {w : World} {K : PySem.W.Frag} {mg : Str → Option Value} {base : Heap}
abbrev st_is_row : Stmt := top 19
def rowB (d : PyData) : Bool := isSeq d && (decide (1 ≤ (items d).length) && decide ((items d).length ≤ 3)) && (items d).all isIntD
def sp_is_row : Sp := fun vs H Q _ => ∃ v d, vs = [v] ∧ AnyV H v d ∧ (items d).length ≤ 200 ∧ ∀ H', Same H H' → Q (.bl (rowB d)) H'
theorem sc_is_row : FnScope ["value", "number"] ["value"] (defScope st_is_row) := ⟨rfl, rfl, rfl, by decide +kernel, rfl, by decide +kernel, by decide +kernel⟩
theorem ok_is_row {f : Addr} {fd : FuncData} (F : Fun K "is_row" "is_row" st_is_row f fd) (T : Txt mg) (D1 : Def P w K mg base "is_list" 1 ["value"] sp_is_list) (D2 : Def P w K mg base "is_integer" 1 ["value"] sp_is_integer) :
    FnOk P w K mg base CX0 2 f fd ["value"] sp_is_row := by
  refine F.ok sc_is_row (fun vs H Q E h => ?_) (fun cdv A outer s H vs Q E hr h => ?_)
  · obtain ⟨v, d, rfl, _⟩ := h
    rfl
  · obtain ⟨v, d, rfl, av, hb, q⟩ := h
    refine ⟨_, pss_one (ps_ret (pe_and (pe_def D1 hr (pa_cons (pv 0) pa_nil))
      (pe_and (pe_chain op_le op_le pe_int (pe_callB (r := Dn.rLen K) c_len (by rfl) T.len PySem.boot_len (pa_cons (pv 0) pa_nil)) pe_int)
      (pe_one (pe_callB (cr_all rfl) (by rfl) T.all boot_all (pa_cons (pe_lc (own := [("number", 1)]) (g := gName 1) (tt := tYes) rfl sc_is_row.nd (pi_seq (pv 0))
        (blkOk_by (N := ["value", "number"]) (sc := defScope st_is_row) (by decide +kernel))
        (fun _ _ _ _ _ => pg_name (i := 1) sc_is_row.nd rfl (Or.inl rfl) (Or.inr rfl)) (fun _ _ _ _ _ => pts_nil) (fun _ _ _ _ _ => pe_def (X := Cx.blk _ _ _ _ _ _) D2 hr (pa_cons (pv 1) pa_nil))) pa_nil)))))), ?_⟩
    refine ⟨_, rfl, v, d, rfl, av, fun H1 s1 => ⟨_, rfl, ?_⟩⟩
    cases e1 : isSeq d with
    | false =>
      refine iteF ?_
      have : rowB d = false := by unfold rowB; rw [e1]; rfl
      rw [← this]
      exact q H1 s1
    | true =>
      refine iteT ?_
      obtain ⟨t, a, vx, rfl, qx, px⟩ := (seq_of av e1).at K
      have hvl : vx.length = (items d).length := pyVs_len px
      have bad : (decide (1 ≤ (items d).length) && decide ((items d).length ≤ 3)) = false → Q (.bl false) H1 := fun z => by
        have : rowB d = false := by unfold rowB; rw [z, Bool.and_false]; rfl
        rw [← this]
        exact q H1 s1
      refine ⟨_, rfl, a, vx, rfl, sq_or (qx H1 s1), _, _, rfl, rfl, _, rfl, ?_⟩
      cases e2 : decide ((1 : Int) ≤ (vx.length : Int)) with
      | false =>
        refine iteF ⟨_, rfl, iteF ?_⟩
        refine bad ?_
        rw [decide_eq_false_iff_not] at e2
        rw [decide_eq_false (by omega)]
        rfl
      | true =>
        rw [decide_eq_true_eq] at e2
        refine iteT ⟨_, _, rfl, rfl, _, rfl, ?_⟩
        cases e3 : decide ((vx.length : Int) ≤ 3) with
        | false =>
          refine iteF ?_
          refine bad ?_
          rw [decide_eq_false_iff_not] at e3
          rw [decide_eq_false (show ¬ (items d).length ≤ 3 by omega), Bool.and_false]
        | true =>
          rw [decide_eq_true_eq] at e3
          refine iteT ?_
          refine r_cb (r_cons ?_)
          refine tlc_of (Its t K a) (H1 := H1) (fun R hR => ⟨_, rfl, t, a, vx, rfl, qx H1 s1, hR⟩) ?_
          refine lc_el (p := none) vx.length (fun i v => ∃ d', (items d)[i]? = some d' ∧ v = .bl (isIntD d')) has_none (by omega) (fun i H2 hi s2 => ?_) (fun H2 s2 => ?_) (fun i x H2 H3 C hi s2 _ hy hC => ?_) fun Da H2 rs nD s2 hD hrl hE => ?_
          · exact its_go (qx H2 (s1.trans s2.same)) (List.getElem?_eq_getElem hi)
          · exact its_stop (qx H2 (s1.trans s2.same)) (Nat.le_refl _)
          · obtain ⟨rfl, ex⟩ := its_yld hy (qx H2 (s1.trans s2.same))
            obtain ⟨d', ed, pd⟩ := pyVs_get px ex
            refine ⟨rfl, ?_⟩
            exact ⟨_, rfl, x, d', rfl, .inl (PyV.mono (s1.trans s2.same) pd), fun H4 s4 => hC _ _ (RX.of s4) ⟨d', ed, rfl⟩⟩
          · have er : rs = (items d).map fun d' => V.bl (isIntD d') := map_of_get (n := 0) _ (by rw [hrl, hvl]) hE
            refine ⟨Da, (items d).map isIntD, rfl, .inl (.inl ?_), ?_⟩
            · rw [hD, er, List.map_map]
              rfl
            · have : rowB d = ((items d).map isIntD).all id := by
                unfold rowB
                rw [e1, decide_eq_true (show 1 ≤ (items d).length by omega), decide_eq_true (show (items d).length ≤ 3 by omega), List.all_map]
                rfl
              rw [← this]
              exact q H2 (s1.trans s2.same)
end
end T81
set_option Elab.async false
set_option linter.all false
set_option maxRecDepth 100000
set_option maxHeartbeats 1000000
namespace T81
open PySem PySem.Spec PyProof.Rows L2 Gd Zn Rp Dn Tb Gn En Zs
section
variable {P : Program} {w : World} {K : PySem.W.Frag} {mg : Str → Option Value} {base : Heap}
abbrev st_is_row_of : Stmt := top 20
def rowOfB (n : Nat) (d : PyData) : Bool := rowB d && decide ((items d).length = n)
def sp_is_row_of : Sp := fun vs H Q _ => ∃ v d, ∃ n : Nat, vs = [.int n, v] ∧ AnyV H v d ∧ (items d).length ≤ 200 ∧ ∀ H', Same H H' → Q (.bl (rowOfB n d)) H'
theorem sc_is_row_of : FnScope ["size", "value"] ["size", "value"] (defScope st_is_row_of) := ⟨rfl, rfl, rfl, by decide +kernel, rfl, by decide +kernel, by decide +kernel⟩
theorem ok_is_row_of {f : Addr} {fd : FuncData} (F : Fun K "is_row_of" "is_row_of" st_is_row_of f fd) (T : Txt mg) (D1 : Def P w K mg base "is_row" 2 ["value"] sp_is_row) :
    FnOk P w K mg base CX0 3 f fd ["size", "value"] sp_is_row_of := by
  refine F.ok sc_is_row_of (fun vs H Q E h => ?_) (fun cdv A outer s H vs Q E hr h => ?_)
  · obtain ⟨v, d, n, rfl, _⟩ := h
    rfl
  · obtain ⟨v, d, n, rfl, av, hb, q⟩ := h
    refine ⟨_, pss_one (ps_ret (pe_and (pe_def D1 hr (pa_cons (pv 1) pa_nil))
      (pe_one (pe_cmpR op_eq (pe_callB (r := Dn.rLen K) c_len (by rfl) T.len PySem.boot_len (pa_cons (pv 1) pa_nil)) (pv 0) (nomark _))))), ?_⟩
    refine ⟨_, rfl, v, d, rfl, av, hb, fun H1 s1 => ⟨_, rfl, ?_⟩⟩
    cases e1 : rowB d with
    | false =>
      refine iteF ?_
      have : rowOfB n d = false := by unfold rowOfB; rw [e1]; rfl
      rw [← this]
      exact q H1 s1
    | true =>
      refine iteT ?_
      have e2 : isSeq d = true := by
        unfold rowB at e1
        rw [Bool.and_eq_true, Bool.and_eq_true] at e1
        exact e1.1.1
      obtain ⟨t, a, vx, rfl, qx, px⟩ := (seq_of av e2).at K
      have hvl : vx.length = (items d).length := pyVs_len px
      refine ⟨_, rfl, a, vx, rfl, sq_or (qx H1 s1), _, rfl, rfl, ?_⟩
      have : decide (V.int (vx.length : Int) = V.int (n : Int)) = rowOfB n d := by
        unfold rowOfB
        rw [e1, Bool.true_and, ← hvl]
        by_cases z : vx.length = n
        · rw [z, decide_eq_true rfl, decide_eq_true rfl]
        · rw [decide_eq_false z, decide_eq_false (fun q => z (by have := V.int.inj q; omega))]
      show Q _ _
      rw [this]
      exact q H1 s1
abbrev st_is_grid : Stmt := top 23
def gridB (d : PyData) : Bool := isSeq d && (items d).all (rowOfB (items d).length) && decide (0 < (items d).length)
def sp_is_grid : Sp := fun vs H Q _ => ∃ v d, vs = [v] ∧ AnyV H v d ∧ (items d).length ≤ 200 ∧ (∀ r ∈ items d, (items r).length ≤ 200) ∧ ∀ H', Same H H' → Q (.bl (gridB d)) H'
theorem sc_is_grid : FnScope ["value", "row"] ["value"] (defScope st_is_grid) := ⟨rfl, rfl, rfl, by decide +kernel, rfl, by decide +kernel, by decide +kernel⟩
theorem ok_is_grid {f : Addr} {fd : FuncData} (F : Fun K "is_grid" "is_grid" st_is_grid f fd) (T : Txt mg) (D1 : Def P w K mg base "is_list" 1 ["value"] sp_is_list) (D2 : Def P w K mg base "is_row_of" 3 ["size", "value"] sp_is_row_of) :
    FnOk P w K mg base CX0 4 f fd ["value"] sp_is_grid := by
  refine F.ok sc_is_grid (fun vs H Q E h => ?_) (fun cdv A outer s H vs Q E hr h => ?_)
  · obtain ⟨v, d, rfl, _⟩ := h
    rfl
  · obtain ⟨v, d, rfl, av, hb, hbs, q⟩ := h
    refine ⟨_, pss_one (ps_ret (pe_and (pe_def D1 hr (pa_cons (pv 0) pa_nil))
      (pe_and (pe_callB (cr_all rfl) (by rfl) T.all boot_all (pa_cons (pe_lc (own := [("row", 1)]) (g := gName 1) (tt := tYes) rfl sc_is_grid.nd (pi_seq (pv 0))
        (blkOk_by (N := ["value", "row"]) (sc := defScope st_is_grid) (by decide +kernel))
        (fun _ _ _ _ _ => pg_name (i := 1) sc_is_grid.nd rfl (Or.inl rfl) (Or.inr rfl)) (fun _ _ _ _ _ => pts_nil)
        (fun _ _ _ _ _ => pe_def (X := Cx.blk _ _ _ _ _ _) D2 hr (pa_cons (pe_callB (r := Dn.rLen K) c_len (by rfl) T.len PySem.boot_len (pa_cons (pv 0) pa_nil)) (pa_cons (pv 1) pa_nil)))) pa_nil))
      (pe_one (pe_cmpR op_gt (pe_callB (r := Dn.rLen K) c_len (by rfl) T.len PySem.boot_len (pa_cons (pv 0) pa_nil)) pe_int (nomark _)))))), ?_⟩
    refine ⟨_, rfl, v, d, rfl, av, fun H1 s1 => ⟨_, rfl, ?_⟩⟩
    cases e1 : isSeq d with
    | false =>
      refine iteF ?_
      have : gridB d = false := by unfold gridB; rw [e1]; rfl
      rw [← this]
      exact q H1 s1
    | true =>
      refine iteT ?_
      obtain ⟨t, a, vx, rfl, qx, px⟩ := (seq_of av e1).at K
      have hvl : vx.length = (items d).length := pyVs_len px
      refine r_cb (r_cons ?_)
      refine tlc_of (Its t K a) (H1 := H1) (fun R hR => ⟨_, rfl, t, a, vx, rfl, qx H1 s1, hR⟩) ?_
      refine lc_el (p := none) vx.length (fun i v => ∃ d', (items d)[i]? = some d' ∧ v = .bl (rowOfB (items d).length d')) has_none (by omega) (fun i H2 hi s2 => ?_) (fun H2 s2 => ?_) (fun i x H2 H3 C hi s2 _ hy hC => ?_) fun Da H2 rs nD s2 hD hrl hE => ?_
      · exact its_go (qx H2 (s1.trans s2.same)) (List.getElem?_eq_getElem hi)
      · exact its_stop (qx H2 (s1.trans s2.same)) (Nat.le_refl _)
      · obtain ⟨rfl, ex⟩ := its_yld hy (qx H2 (s1.trans s2.same))
        obtain ⟨d', ed, pd⟩ := pyVs_get px ex
        refine ⟨rfl, ?_⟩
        refine ⟨_, rfl, a, vx, rfl, sq_or (qx _ (s1.trans s2.same)), _, rfl, x, d', (items d).length, by rw [hvl]; rfl, .inl (PyV.mono (s1.trans s2.same) pd), hbs d' (List.mem_of_getElem? ed), fun H4 s4 => hC _ _ (RX.of s4) ⟨d', ed, rfl⟩⟩
      · have er : rs = (items d).map fun d' => V.bl (rowOfB (items d).length d') := map_of_get (n := 0) _ (by rw [hrl, hvl]) hE
        refine ⟨Da, (items d).map (rowOfB (items d).length), rfl, .inl (.inl (by rw [hD, er, List.map_map]; rfl)), _, rfl, ?_⟩
        have ea : ((items d).map (rowOfB (items d).length)).all id = (items d).all (rowOfB (items d).length) := by rw [List.all_map]; rfl
        rw [ea]
        cases e2 : (items d).all (rowOfB (items d).length) with
        | false =>
          refine iteF ?_
          have : gridB d = false := by unfold gridB; rw [e2, Bool.and_false]; rfl
          rw [← this]
          exact q H2 (s1.trans s2.same)
        | true =>
          refine iteT ?_
          refine ⟨_, rfl, a, vx, rfl, sq_or (qx H2 (s1.trans s2.same)), _, _, rfl, rfl, ?_⟩
          have : decide ((vx.length : Int) > 0) = gridB d := by
            unfold gridB
            rw [e1, e2, ← hvl]
            by_cases z : 0 < vx.length
            · rw [decide_eq_true (show (vx.length : Int) > 0 by omega), decide_eq_true z]; rfl
            · rw [decide_eq_false (show ¬ (vx.length : Int) > 0 by omega), decide_eq_false z]; rfl
          show Q (.bl (decide ((vx.length : Int) > 0))) _
          rw [this]
          exact q H2 (s1.trans s2.same)
end
end T81
set_option Elab.async false
set_option linter.all false
set_option maxRecDepth 100000
set_option maxHeartbeats 1000000
namespace T81
open PySem PySem.Spec PyProof.Rows L2 Gd Zn Rp Dn Tb Gn En Zs
def GridD (d : PyData) (M : List (List Int)) : Prop := isSeq d = true ∧ (items d).length = M.length ∧ ∀ (i : Nat) (d' : PyData), (items d)[i]? = some d' → ∃ r, M[i]? = some r ∧ (d' = .list (iD r) ∨ d' = .tuple (iD r))
theorem grid_mx (M : List (List Int)) : GridD (mxD M) M := by
  refine ⟨rfl, ?_, fun i d' e => ?_⟩
  · show (M.map _).length = _
    rw [List.length_map]
  · have e : (M.map fun r => PyData.tuple (r.map PyData.int))[i]? = some d' := e
    rw [List.getElem?_map] at e
    cases h : M[i]? with
    | none => rw [h] at e; cases e
    | some r =>
      rw [h] at e
      cases e
      exact ⟨r, rfl, .inr rfl⟩
theorem RowV.sq {K : PySem.W.Frag} {H : Hp} {v : V} {r : List Int} (h : RowV H v r) : ∃ b, v = .ref b ∧ SqV K H true b (r.map V.int) := by
  obtain ⟨b, e, h⟩ := h
  exact ⟨b, e, .inl (.inl h)⟩
theorem RowV.seq {H : Hp} {v : V} {r : List Int} (h : RowV H v r) : SeqV H v (iD r) := .inr h.py
/-- the columns -/
theorem row_all {K : PySem.W.Frag} {H : Hp} {j m : Nat} (hj : j < m) : ∀ {src : List (Bool × Addr)} {M : List (List Int)}, RowsV H (kRefs src) M → (∀ q ∈ src, q.1 = true) → (∀ r ∈ M, r.length = m) → RowAt K H j src (M.map fun r => .int (r.getD j 0))
  | [], _, .nil, _, _ => trivial
  | (t, a) :: src, r :: M, .cons p q, ht, hm => by
    have e : t = true := ht _ List.mem_cons_self
    subst e
    obtain ⟨b, eb, hb⟩ := p
    cases eb
    have hr : j < r.length := by rw [hm r List.mem_cons_self]; exact hj
    refine ⟨⟨r.map V.int, .inl (.inl hb), ?_⟩, row_all hj q (fun q hq => ht q (List.mem_cons_of_mem _ hq)) fun r hr => hm r (List.mem_cons_of_mem _ hr)⟩
    show _ = some (V.int (r.getD j 0))
    rw [List.getElem?_map, List.getElem?_eq_getElem hr, List.getD_eq_getElem?_getD, List.getElem?_eq_getElem hr]
    rfl
theorem all_sq {K : PySem.W.Frag} {H : Hp} : ∀ {src : List (Bool × Addr)} {M : List (List Int)}, RowsV H (kRefs src) M → (∀ q ∈ src, q.1 = true) → AllSq K H src
  | [], _, _, _ => fun q hq => by cases hq
  | (t, a) :: src, r :: M, .cons p q, ht => fun z hz => by
    have e : t = true := ht _ List.mem_cons_self
    subst e
    obtain ⟨b, eb, hb⟩ := p
    cases eb
    rcases List.mem_cons.mp hz with rfl | hz
    · exact ⟨_, .inl (.inl hb)⟩
    · exact all_sq q (fun q hq => ht q (List.mem_cons_of_mem _ hq)) z hz
theorem rows_src {H : Hp} {vs : List V} {M : List (List Int)} (h : RowsV H vs M) : ∃ src : List (Bool × Addr), vs = kRefs src ∧ ∀ q ∈ src, q.1 = true := by
  induction h with
  | nil => exact ⟨[], rfl, fun q hq => by cases hq⟩
  | cons p _ ih =>
    obtain ⟨src, e, h⟩ := ih
    obtain ⟨b, rfl, _⟩ := p
    refine ⟨(true, b) :: src, by rw [e]; rfl, fun q hq => ?_⟩
    rcases List.mem_cons.mp hq with rfl | hq
    · rfl
    · exact h q hq
section
variable {P : Program} {w : World} {K : PySem.W.Frag} {mg : Str → Option Value} {base : Heap}
abbrev st_copied : Stmt := top 25
def sp_copied : Sp := fun vs H Q _ => ∃ v d M, vs = [v] ∧ AnyV H v d ∧ GridD d M ∧ M.length ≤ 100 ∧ ∀ v' H', Same H H' → Mx H' v' M → Q v' H'
theorem sc_copied : FnScope ["rows", "row"] ["rows"] (defScope st_copied) := ⟨rfl, rfl, rfl, by decide +kernel, rfl, by decide +kernel, by decide +kernel⟩
theorem ok_copied {f : Addr} {fd : FuncData} (F : Fun K "copied" "copied" st_copied f fd) (T : Txt mg) : FnOk P w K mg base CX0 1 f fd ["rows"] sp_copied := by
  refine F.ok sc_copied (fun vs H Q E h => ?_) (fun cdv A outer s H vs Q E hr h => ?_)
  · obtain ⟨v, d, M, rfl, _⟩ := h
    rfl
  · obtain ⟨v, d, M, rfl, av, ⟨g1, g2, g3⟩, hb, q⟩ := h
    refine ⟨_, pss_one (ps_ret (pe_callTy (r := rTup K) c_tup (by rfl) T.tuple PyProof.Rows.boot_tuple (pa_cons (pe_lc (own := [("row", 1)]) (g := gName 1) (tt := tYes) rfl sc_copied.nd (pi_seq (pv 0))
        (blkOk_by (N := ["rows", "row"]) (sc := defScope st_copied) (by decide +kernel))
        (fun _ _ _ _ _ => pg_name (i := 1) sc_copied.nd rfl (Or.inl rfl) (Or.inr rfl)) (fun _ _ _ _ _ => pts_nil)
        (fun _ _ _ _ _ => pe_callTy (r := rTup K) c_tup (by rfl) T.tuple PyProof.Rows.boot_tuple (pa_cons (pv 1) pa_nil))) pa_nil))), ?_⟩
    obtain ⟨t, a, vx, rfl, qx, px⟩ := (seq_of av g1).at K
    have hvl : vx.length = M.length := by rw [pyVs_len px]; exact g2
    refine r_ret (r_cb (r_cons ?_))
    refine tlc_of (Its t K a) (H1 := H) (fun R hR => ⟨_, rfl, t, a, vx, rfl, qx H (Same.refl H), hR⟩) ?_
    refine lc_ks (p := none) M.length (fun i v H => ∃ r, M[i]? = some r ∧ RowV H v r) (fun i v H H' k h => ?_) has_none (by omega) (fun i H2 hi s2 => ?_) (fun H2 s2 => ?_) (fun i x H2 H3 C hi s2 _ hy hC => ?_) fun Da H2 rs nD s2 hD hrl hE => ?_
    · obtain ⟨r, e, h⟩ := h
      exact ⟨r, e, h.mono k⟩
    · exact its_go (qx H2 s2.same) (List.getElem?_eq_getElem (by rw [hvl]; exact hi))
    · exact its_stop (qx H2 s2.same) (by rw [hvl]; exact Nat.le_refl _)
    · obtain ⟨rfl, ex⟩ := its_yld hy (qx H2 s2.same)
      obtain ⟨d', ed, pd⟩ := pyVs_get px ex
      obtain ⟨r, er, hd⟩ := g3 i d' ed
      refine ⟨rfl, ?_⟩
      refine r_cb (r_cons ?_)
      refine ⟨_, rfl, ?_⟩
      rcases hd with rfl | rfl
      · cases pd with
        | lst e p =>
          have ez := pyVs_ints p
          subst ez
          exact ⟨_, _, rfl, .inl ⟨.inl (.inl (s2.same _ _ e)), fun l nl => hC _ _ (RX.new nl) ⟨r, er, l, rfl, upd_same⟩⟩⟩
      · cases pd with
        | tup e p =>
          have ez := pyVs_ints p
          subst ez
          exact ⟨_, _, rfl, .inr ⟨.inl (.inl (s2.same _ _ e)), hC _ _ (RX.refl _) ⟨r, er, _, rfl, s2.same _ _ e⟩⟩⟩
    · refine ⟨Da, rs, rfl, .inl ⟨.inl (.inl hD), fun l nl => ?_⟩⟩
      have k : Same H2 (upd H2 l (.tup rs)) := same_new nl
      refine q _ _ (s2.same.trans k) ⟨l, rs, rfl, upd_same, ?_⟩
      exact (rows_of hrl hE).mono (KS.of k)
abbrev st_across : Stmt := top 27
def sp_across : Sp := fun vs H Q _ => ∃ v M m, vs = [v] ∧ Mx H v M ∧ 0 < M.length ∧ M.length ≤ 3 ∧ m ≤ 100 ∧ (∀ r ∈ M, r.length = m) ∧ ∀ v' H', Same H H' → Mx H' v' (transp m M) → Q v' H'
theorem sc_across : FnScope ["rows", "column"] ["rows"] (defScope st_across) := ⟨rfl, rfl, rfl, by decide +kernel, rfl, by decide +kernel, by decide +kernel⟩
theorem transp_get {m j : Nat} {M : List (List Int)} (h : j < m) : (transp m M)[j]? = some (M.map fun r => r.getD j 0) := by
  unfold transp
  rw [List.getElem?_map, List.getElem?_range h]
  rfl
theorem transp_len {m : Nat} {M : List (List Int)} : (transp m M).length = m := by
  unfold transp
  rw [List.length_map, List.length_range]
theorem ok_across {f : Addr} {fd : FuncData} (F : Fun K "across" "across" st_across f fd) (T : Txt mg) : FnOk P w K mg base CX0 1 f fd ["rows"] sp_across := by
  refine F.ok sc_across (fun vs H Q E h => ?_) (fun cdv A outer s H vs Q E hr h => ?_)
  · obtain ⟨v, M, m, rfl, _⟩ := h
    rfl
  · obtain ⟨v, M, m, rfl, ⟨a, vx, rfl, ha, hR⟩, h0, h3, hm, hM, q⟩ := h
    refine ⟨_, pss_one (ps_ret (pe_callTy (r := rTup K) c_tup (by rfl) T.tuple PyProof.Rows.boot_tuple (pa_cons (pe_lc (own := [("column", 1)]) (g := gName 1) (tt := tYes) rfl sc_across.nd (pi_zipStar (by rfl) T.zip (pv 0))
        (blkOk_by (N := ["rows", "column"]) (sc := defScope st_across) (by decide +kernel))
        (fun _ _ _ _ _ => pg_name (i := 1) sc_across.nd rfl (Or.inl rfl) (Or.inr rfl)) (fun _ _ _ _ _ => pts_nil)
        (fun _ _ _ _ _ => pe_callTy (r := rTup K) c_tup (by rfl) T.tuple PyProof.Rows.boot_tuple (pa_cons (pv 1) pa_nil))) pa_nil))), ?_⟩
    obtain ⟨src, rfl, hs⟩ := rows_src hR
    have hsl : src.length = M.length := by
      have := hR.len
      unfold kRefs at this
      rw [List.length_map] at this
      exact this
    refine r_ret (r_cb (r_cons ?_))
    refine tlc_of (Itn K src) (H1 := H) (fun R hR' => ⟨_, rfl, a, src, rfl, .inl (.inl (.inl ha)), by omega, by omega, all_sq hR hs, hR'⟩) ?_
    refine lc_ks (p := none) m (fun i v H => ∃ r, (transp m M)[i]? = some r ∧ RowV H v r) (fun i v H H' k h => ?_) has_none (by omega) (fun i H2 hi s2 => ?_) (fun H2 s2 => ?_) (fun i x H2 H3 C hi s2 _ hy hC => ?_) fun Da H2 rs nD s2 hD hrl hE => ?_
    · obtain ⟨r, e, h⟩ := h
      exact ⟨r, e, h.mono k⟩
    · exact ⟨_, row_all hi (hR.mono (KS.of s2.same)) hs hM⟩
    · refine ⟨all_sq (hR.mono (KS.of s2.same)) hs, ?_⟩
      cases src with
      | nil => rw [List.length_nil] at hsl; omega
      | cons q src =>
        obtain ⟨t, b⟩ := q
        cases M with
        | nil => rw [List.length_nil] at h0; omega
        | cons r M =>
          cases hR with
          | cons p _ =>
            obtain ⟨b', eb, hb⟩ := p
            cases eb
            have e : t = true := hs _ List.mem_cons_self
            subst e
            exact ⟨_, List.mem_cons_self, _, .inl (.inl (s2.same _ _ hb)), by rw [List.length_map, hM r List.mem_cons_self]; exact Nat.le_refl _⟩
    · obtain ⟨T2, ys, rfl, nT, rfl, hu⟩ := hy
      have ey := (hu _ (row_all hi (hR.mono (KS.of s2.same)) hs hM)).symm
      subst ey
      refine ⟨rfl, ?_⟩
      refine r_cb (r_cons ?_)
      refine ⟨_, rfl, ?_⟩
      refine ⟨T2, _, rfl, .inr ⟨.inl (.inl upd_same), hC _ _ (RX.new nT) ⟨_, transp_get hi, T2, rfl, ?_⟩⟩⟩
      rw [upd_same, List.map_map]
      rfl
    · refine ⟨Da, rs, rfl, .inl ⟨.inl (.inl hD), fun l nl => ?_⟩⟩
      have k : Same H2 (upd H2 l (.tup rs)) := same_new nl
      refine q _ _ (s2.same.trans k) ⟨l, rs, rfl, upd_same, ?_⟩
      exact (rows_of (by rw [hrl, transp_len]) hE).mono (KS.of k)
end
end T81
set_option Elab.async false
set_option linter.all false
set_option maxRecDepth 100000
set_option maxHeartbeats 1000000
namespace Ct
open PySem PySem.Spec PyProof.Rows L2 Gd Zn Rp Dn Tb
section
variable {X : Cx}
theorem op_catT0 : OpR X (binaryOp .Add) (fun x y H Q => ∃ a b ys, x = .ref a ∧ y = .ref b ∧ SqT X.K H a [] ∧ SqT X.K H b ys ∧ Q (.ref b) H) := by
  intro pins s σ H x y v u Q I rx ry h
  obtain ⟨a, b, ys, rfl, rfl, ha, hb, q⟩ := h
  cases (show v = Value.ref a from rx)
  cases (show u = Value.ref b from ry)
  obtain ⟨i1, r1, ⟨o1, g1, c1, n1, d1⟩, _⟩ := I.tuple ha
  obtain ⟨i2, r2, ⟨o2, g2, c2, n2, d2⟩, _⟩ := I.tuple hb
  obtain ⟨oc1, od1, odt1, os1⟩ := o1
  obtain ⟨oc2, od2, odt2, os2⟩ := o2
  subst c1 c2
  have e1 : odt1 = .seq i1.toArray n1 := d1
  have e2 : odt2 = .seq i2.toArray n2 := d2
  subst e1 e2
  have z : i1 = [] := by cases r1; rfl
  subst z
  refine concat_meets (T := "tuple") ⟨_, g1, rfl⟩ ⟨_, g2, rfl⟩ noFill_tuple_add seq_tuple_add F.slot_tuple_add F.entry_tuple_add (F.args_tuple_add_2 _ _) (tuple_addW0 a b _ _ n1 n2 _ _ _ _ rfl) ⟨g1, g2, ?_⟩
  exact ⟨.ref b, H, I, rfl, q⟩
def rCat (x y : V) (H : Hp) (Q : VK) : Prop := ∃ a b xs ys, x = .ref a ∧ y = .ref b ∧ H a = some (.tup xs) ∧ H b = some (.tup ys) ∧ xs.length + ys.length ≤ 1000 ∧ ∀ c H', Same H H' → H' c = some (.tup (xs ++ ys)) → Q (.ref c) H'
theorem op_cat3 : OpR X (binaryOp .Add) rCat := by
  intro pins s σ H x y v u Q I rx ry h
  obtain ⟨a, b, xs, ys, rfl, rfl, ha, hb, hl, q⟩ := h
  cases xs with
  | nil => exact op_catT0 pins s σ H _ _ v u Q I rx ry ⟨a, b, ys, rfl, rfl, .inl (.inl ha), .inl (.inl hb), q b H (Same.refl H) hb⟩
  | cons x0 xs =>
    refine op_catT pins s σ H _ _ v u Q I rx ry ⟨a, b, x0 :: xs, ys, rfl, rfl, .inl (.inl ha), .inl (.inl hb), List.cons_ne_nil _ _, Nat.le_trans hl (by decide), fun e => ?_, fun e p hp => ?_⟩
    · subst e
      exact q a H (Same.refl H) (by rw [List.append_nil]; exact ha)
    · exact q p _ (same_new hp) upd_same
end
end Ct
set_option Elab.async false
set_option linter.all false
set_option maxRecDepth 100000
set_option maxHeartbeats 1000000
namespace T81
open PySem PySem.Spec PyProof.Rows L2 Gd Zn Rp Dn Tb Gn En Zs Ct
def ledM (M : List (List Int)) (xs : List Int) : List Int := M.map fun r => dot r xs
def mulM (n : Nat) (M N : List (List Int)) : List (List Int) := M.map fun r => ledM (transp n N) r
section
variable {P : Program} {w : World} {K : PySem.W.Frag} {mg : Str → Option Value} {base : Heap}
abbrev st_led_row : Stmt := top 29
def sp_led_row : Sp := fun vs H Q _ => ∃ v o M xs, vs = [v, o] ∧ Mx H v M ∧ SeqV H o (iD xs) ∧ M.length ≤ 100 ∧ xs.length ≤ 100 ∧ (∀ x ∈ xs, Small x) ∧ (∀ r ∈ M, r.length = xs.length ∧ ∀ x ∈ r, Small x) ∧ ∀ v' H', Same H H' → RowV H' v' (ledM M xs) → Q v' H'
theorem sc_led_row : FnScope ["rows", "row", "line"] ["rows", "row"] (defScope st_led_row) := ⟨rfl, rfl, rfl, by decide +kernel, rfl, by decide +kernel, by decide +kernel⟩
theorem ok_led_row {f : Addr} {fd : FuncData} (F : Fun K "led_row" "led_row" st_led_row f fd) (T : Txt mg) (D1 : Def P w K mg base "scalar" 1 ["row", "other"] sp_scalar) : FnOk P w K mg base CX0 2 f fd ["rows", "row"] sp_led_row := by
  refine F.ok sc_led_row (fun vs H Q E h => ?_) (fun cdv A outer s H vs Q E hr h => ?_)
  · obtain ⟨v, o, M, xs, rfl, _⟩ := h
    rfl
  · obtain ⟨v, o, M, xs, rfl, ⟨a, vx, rfl, ha, hR⟩, hx, hM, hxl, hsx, hsm, q⟩ := h
    refine ⟨_, pss_one (ps_ret (pe_callTy (r := rTup K) c_tup (by rfl) T.tuple PyProof.Rows.boot_tuple (pa_cons (pe_lc (own := [("line", 2)]) (g := gName 2) (tt := tYes) rfl sc_led_row.nd (pi_seq (pv 0))
        (blkOk_by (N := ["rows", "row", "line"]) (sc := defScope st_led_row) (by decide +kernel))
        (fun _ _ _ _ _ => pg_name (i := 2) sc_led_row.nd rfl (Or.inl rfl) (Or.inr rfl)) (fun _ _ _ _ _ => pts_nil)
        (fun _ _ _ _ _ => pe_def (X := Cx.blk _ _ _ _ _ _) D1 hr (pa_cons (pv 2) (pa_cons (pv 1) pa_nil)))) pa_nil))), ?_⟩
    have hvl : vx.length = M.length := hR.len
    have qx : ∀ H', Same H H' → SqV K H' true a vx := fun H' s => .inl (.inl (s _ _ ha))
    refine r_ret (r_cb (r_cons ?_))
    refine tlc_of (Its true K a) (H1 := H) (fun R hR => ⟨_, rfl, true, a, vx, rfl, qx H (Same.refl H), hR⟩) ?_
    refine lc_el (p := none) M.length (fun i v => ∃ r, M[i]? = some r ∧ v = .int (dot r xs)) has_none (by omega) (fun i H2 hi s2 => ?_) (fun H2 s2 => ?_) (fun i x H2 H3 C hi s2 _ hy hC => ?_) fun Da H2 rs nD s2 hD hrl hE => ?_
    · exact its_go (qx H2 s2.same) (List.getElem?_eq_getElem (by rw [hvl]; exact hi))
    · exact its_stop (qx H2 s2.same) (by rw [hvl]; exact Nat.le_refl _)
    · obtain ⟨rfl, ex⟩ := its_yld hy (qx H2 s2.same)
      obtain ⟨r, er, hr'⟩ := hR.get ex
      obtain ⟨l1, l2⟩ := hsm r (List.mem_of_getElem? er)
      refine ⟨rfl, ?_⟩
      refine ⟨_, rfl, _, rfl, x, o, r, xs, rfl, T81.RowV.seq (hr'.mono (KS.of s2.same)), SeqV.mono s2.same hx, l1, by omega, l2, hsx, fun H4 s4 => hC _ _ (RX.of s4) ⟨r, er, rfl⟩⟩
    · have er : rs = M.map fun r => V.int (dot r xs) := map_of_get (n := 0) _ hrl hE
      refine ⟨Da, rs, rfl, .inl ⟨.inl (.inl hD), fun l nl => ?_⟩⟩
      refine q _ _ (s2.same.trans (same_new nl)) ⟨l, rfl, ?_⟩
      rw [upd_same, er]
      unfold ledM
      rw [List.map_map]
      rfl
abbrev st_multiplied : Stmt := top 30
def sp_multiplied : Sp := fun vs H Q _ => ∃ v o M N, ∃ n : Nat, vs = [v, o] ∧ Mx H v M ∧ Mx H o N ∧ M.length ≤ 100 ∧ 0 < N.length ∧ N.length ≤ 3 ∧ n ≤ 100 ∧ (∀ r ∈ M, r.length = N.length ∧ ∀ x ∈ r, Small x) ∧ (∀ r ∈ N, r.length = n ∧ ∀ x ∈ r, Small x) ∧ ∀ v' H', Same H H' → Mx H' v' (mulM n M N) → Q v' H'
theorem sc_multiplied : FnScope ["rows", "others", "columns", "row"] ["rows", "others"] (defScope st_multiplied) := ⟨rfl, rfl, rfl, by decide +kernel, rfl, by decide +kernel, by decide +kernel⟩
theorem transp_mem {n : Nat} {N : List (List Int)} {c : List Int} (h : c ∈ transp n N) : ∃ j, j < n ∧ c = N.map fun r => r.getD j 0 := by
  unfold transp at h
  rw [List.mem_map] at h
  obtain ⟨j, hj, e⟩ := h
  exact ⟨j, List.mem_range.mp hj, e.symm⟩
theorem small_transp {n : Nat} {N : List (List Int)} (hN : ∀ r ∈ N, r.length = n ∧ ∀ x ∈ r, Small x) : ∀ c ∈ transp n N, c.length = N.length ∧ ∀ x ∈ c, Small x := fun c hc => by
  obtain ⟨j, hj, rfl⟩ := transp_mem hc
  refine ⟨List.length_map .., fun x hx => ?_⟩
  rw [List.mem_map] at hx
  obtain ⟨r, hr, rfl⟩ := hx
  obtain ⟨l1, l2⟩ := hN r hr
  have : j < r.length := by omega
  rw [List.getD_eq_getElem?_getD, List.getElem?_eq_getElem this]
  exact l2 _ (List.getElem_mem this)
theorem ok_multiplied {f : Addr} {fd : FuncData} (F : Fun K "multiplied" "multiplied" st_multiplied f fd) (T : Txt mg) (D1 : Def P w K mg base "across" 1 ["rows"] sp_across) (D2 : Def P w K mg base "led_row" 2 ["rows", "row"] sp_led_row) :
    FnOk P w K mg base CX0 3 f fd ["rows", "others"] sp_multiplied := by
  refine F.ok sc_multiplied (fun vs H Q E h => ?_) (fun cdv A outer s H vs Q E hr h => ?_)
  · obtain ⟨v, o, M, N, n, rfl, _⟩ := h
    rfl
  · obtain ⟨v, o, M, N, n, rfl, hMx, hN, hM, h0, h3, hn, hMr, hNr, q⟩ := h
    refine ⟨_, pss_cons (ps_set (i := 2) sc_multiplied.nd rfl (Or.inr rfl) (pe_def D1 hr (pa_cons (pv 1) pa_nil)))
      (pss_one (ps_ret (pe_callTy (r := rTup K) c_tup (by rfl) T.tuple PyProof.Rows.boot_tuple (pa_cons (pe_lc (own := [("row", 3)]) (g := gName 3) (tt := tYes) rfl sc_multiplied.nd (pi_seq (pv 0))
        (blkOk_by (N := ["rows", "others", "columns", "row"]) (sc := defScope st_multiplied) (by decide +kernel))
        (fun _ _ _ _ _ => pg_name (i := 3) sc_multiplied.nd rfl (Or.inl rfl) (Or.inr rfl)) (fun _ _ _ _ _ => pts_nil)
        (fun _ _ _ _ _ => pe_def (X := Cx.blk _ _ _ _ _ _) D2 hr (pa_cons (pv 2) (pa_cons (pv 3) pa_nil)))) pa_nil)))), ?_⟩
    refine ⟨_, rfl, o, N, n, rfl, hN, h0, h3, hn, fun r hr => (hNr r hr).1, fun cv H1 s1 hC => ?_⟩
    obtain ⟨a, vx, rfl, ha, hR⟩ := hMx.mono (KS.of s1)
    have hvl : vx.length = M.length := hR.len
    have qx : ∀ H', Same H1 H' → SqV K H' true a vx := fun H' s => .inl (.inl (s _ _ ha))
    refine r_nret (r_cb (r_cons ?_))
    refine tlc_of (Its true K a) (H1 := H1) (fun R hR => ⟨_, rfl, true, a, vx, rfl, qx H1 (Same.refl H1), hR⟩) ?_
    refine lc_ks (p := none) M.length (fun i v H => ∃ r, (mulM n M N)[i]? = some r ∧ RowV H v r) (fun i v H H' k h => ?_) has_none (by omega) (fun i H2 hi s2 => ?_) (fun H2 s2 => ?_) (fun i x H2 H3 C hi s2 _ hy hC' => ?_) fun Da H2 rs nD s2 hD hrl hE => ?_
    · obtain ⟨r, e, h⟩ := h
      exact ⟨r, e, h.mono k⟩
    · exact its_go (qx H2 s2.same) (List.getElem?_eq_getElem (by rw [hvl]; exact hi))
    · exact its_stop (qx H2 s2.same) (by rw [hvl]; exact Nat.le_refl _)
    · obtain ⟨rfl, ex⟩ := its_yld hy (qx H2 s2.same)
      obtain ⟨r, er, hr'⟩ := hR.get ex
      obtain ⟨lr, lsm⟩ := hMr r (List.mem_of_getElem? er)
      refine ⟨rfl, ?_⟩
      refine ⟨_, rfl, _, rfl, cv, x, transp n N, r, rfl, hC.mono (KS.of s2.same), T81.RowV.seq (hr'.mono (KS.of s2.same)), by rw [transp_len]; exact hn, by omega, lsm, fun c hc => ?_, fun v' H4 s4 hv => hC' _ _ (RX.of s4) ⟨_, ?_, hv⟩⟩
      · obtain ⟨l1, l2⟩ := small_transp hNr c hc
        exact ⟨by omega, l2⟩
      · unfold mulM
        rw [List.getElem?_map, er]
        rfl
    · refine ⟨Da, rs, rfl, .inl ⟨.inl (.inl hD), fun l nl => ?_⟩⟩
      have k : Same H2 (upd H2 l (.tup rs)) := same_new nl
      refine q _ _ (s1.trans (s2.same.trans k)) ⟨l, rs, rfl, upd_same, ?_⟩
      exact (rows_of (by rw [hrl]; unfold mulM; rw [List.length_map]) hE).mono (KS.of k)
end
end T81
set_option Elab.async false
set_option linter.all false
set_option maxRecDepth 100000
set_option maxHeartbeats 1000000
namespace Tb
open PySem PySem.Spec PyProof.Rows L2 Gd Zn Rp Dn
theorem RowsV.snoc {H : Hp} {vs : List V} {M : List (List Int)} {v : V} {r : List Int} (h : RowsV H vs M) (p : RowV H v r) : RowsV H (vs ++ [v]) (M ++ [r]) := by
  induction h with
  | nil => exact .cons p .nil
  | cons q _ ih => exact .cons q ih
/-- a comprehension with a test whose elements are rows; W: what stands after so many steps -/
theorem lc_rows {p : Option Addr} {J : It} {g : TG} {tt : TT} {te : TE} {vs : List Nat} {σ : L2.St} {H1 : Hp} {Q : VK} (n : Nat) (W : Nat → List (List Int)) (hp : Has p H1) (hn : n ≤ 1000) (w0 : W 0 = []) (wl : ∀ i, i ≤ n → (W i).length ≤ i)
    (hgo : ∀ i H, i < n → RX p H1 H → J.go i H) (hst : ∀ H, RX p H1 H → J.stop n H)
    (hs : ∀ i x H H' (C : V → Hp → Prop) (C0 : Hp → Prop), i < n → RX p H1 H → Has p H → J.yld i H x H' → (∀ y r H4, RX p H H4 → W (i + 1) = W i ++ [r] → RowV H4 y r → C y H4) → (∀ H4, RX p H H4 → W (i + 1) = W i → C0 H4) →
      g x (wipe σ vs) H' fun σ2 H2 => wipe σ2 vs = wipe σ vs ∧ tt σ2 H2 fun b H3 => if b = true then te σ2 H3 C else C0 H3)
    (hd : ∀ D H xs, H1 D = none → RX p H1 H → H D = some (.lst xs) → RowsV H xs (W n) → Q (.ref D) H) :
    LcB g tt te vs σ Q J H1 := by
  intro D nD
  have nP : p ≠ some D := hp.ne nD
  refine ⟨fun i m H => i ≤ n ∧ m = n - i ∧ RX p H1 H ∧ ∃ xs, H D = some (.lst xs) ∧ RowsV H xs (W i), ⟨n, Nat.zero_le _, rfl, RX.new nD, [], upd_same, by rw [w0]; exact .nil⟩, ?_⟩
  rintro i m H ⟨hi, rfl, s1, xs, hD, hR⟩
  by_cases hlt : i < n
  · refine .inr ⟨hgo i H hlt s1, fun H' => i + 1 ≤ n ∧ RX p H1 H' ∧ ∃ xs, H' D = some (.lst xs) ∧ RowsV H' xs (W (i + 1)), fun H' h => ⟨n - (i + 1), by omega, h.1, rfl, h.2⟩, fun x H' hy => ?_⟩
    have hpH := hp.to s1
    refine hs i x H H' _ _ hlt s1 hpH hy (fun y r H4 s4 e4 r4 => ?_) fun H4 s4 e4 => ?_
    · have hD4 := s4.keep D _ nP hD
      have k5 : KS H4 (upd H4 D (.lst (xs ++ [y]))) := KS.lst hD4
      refine ⟨xs, hD4, ?_, hlt, (s1.trans s4).mut nD hp, _, upd_same, ?_⟩
      · have h1 := hR.len
        have h2 := wl i hi
        exact Nat.lt_of_lt_of_le (by omega : xs.length < 1001) (by decide)
      · rw [e4]
        exact ((hR.mono (KS.rx s4 hpH)).snoc r4).mono k5
    · refine ⟨hlt, s1.trans s4, xs, s4.keep D _ nP hD, ?_⟩
      rw [e4]
      exact hR.mono (KS.rx s4 hpH)
  · have e : i = n := by omega
    subst e
    exact .inl ⟨hst H s1, hd D H xs nD s1 hD hR⟩
end Tb
set_option Elab.async false
set_option linter.all false
set_option maxRecDepth 100000
set_option maxHeartbeats 1000000
namespace T81
open PySem PySem.Spec PyProof.Rows L2 Gd Zn Rp Dn Tb Gn En Zs Ct
def cutAt (k : Nat) (r : List Int) : List Int := r.take k ++ r.drop (k + 1)
def outW (M : List (List Int)) (at_ k : Nat) (i : Nat) : List (List Int) := ((List.range i).filter fun j => !decide (j = at_)).map fun j => cutAt k (M.getD j [])
def outM (M : List (List Int)) (at_ k : Nat) : List (List Int) := outW M at_ k M.length
theorem outW_succ (M : List (List Int)) (at_ k i : Nat) : outW M at_ k (i + 1) = outW M at_ k i ++ if i = at_ then [] else [cutAt k (M.getD i [])] := by
  unfold outW
  rw [List.range_succ, List.filter_append, List.map_append]
  by_cases h : i = at_ <;> simp [h]
theorem outW_len (M : List (List Int)) (at_ k i : Nat) : (outW M at_ k i).length ≤ i := by
  unfold outW
  rw [List.length_map]
  have := List.length_filter_le (fun j => !decide (j = at_)) (List.range i)
  rw [List.length_range] at this
  exact this
theorem cutV_to (r : List Int) (k : Nat) (h : k ≤ r.length) : cutV (r.map V.int) none (some (k : Int)) = (r.take k).map V.int := by
  unfold cutV
  rw [HT.sIx_nat, HT.sIx_none, List.length_map, List.drop_zero, Nat.min_eq_left h, Nat.sub_zero, List.map_take]
theorem cutV_from (r : List Int) (k : Nat) (h : k ≤ r.length) : cutV (r.map V.int) (some (k : Int)) none = (r.drop k).map V.int := by
  unfold cutV
  rw [HT.sIx_nat, HT.sIx_none, List.length_map, Nat.min_eq_left h, List.map_drop]
  exact List.take_of_length_le (by rw [List.length_drop, List.length_map]; exact Nat.le_refl _)
section
variable {P : Program} {w : World} {K : PySem.W.Frag} {mg : Str → Option Value} {base : Heap}
abbrev st_without : Stmt := top 31
def sp_without : Sp := fun vs H Q _ => ∃ v M, ∃ a k n : Nat, vs = [v, .int a, .int k] ∧ Mx H v M ∧ M.length ≤ 100 ∧ n ≤ 100 ∧ k < n ∧ (∀ r ∈ M, r.length = n) ∧ ∀ v' H', Same H H' → Mx H' v' (outM M a k) → Q v' H'
abbrev N_without : List Str := ["rows", "at", "place", "index", "row"]
theorem sc_without : FnScope N_without ["rows", "at", "place"] (defScope st_without) := ⟨rfl, rfl, rfl, by decide +kernel, rfl, by decide +kernel, by decide +kernel⟩
theorem ok_without {f : Addr} {fd : FuncData} (F : Fun K "without" "without" st_without f fd) (T : Txt mg) : FnOk P w K mg base CX0 1 f fd ["rows", "at", "place"] sp_without := by
  refine F.ok sc_without (fun vs H Q E h => ?_) (fun cdv A outer s H vs Q E hr h => ?_)
  · obtain ⟨v, M, a, k, n, rfl, _⟩ := h
    rfl
  · obtain ⟨v, M, at_, k, n, rfl, ⟨a, vx, rfl, ha, hR⟩, hM, hn, hk, hMr, q⟩ := h
    refine ⟨_, pss_one (ps_ret (pe_callTy (r := rTup K) c_tup (by rfl) T.tuple PyProof.Rows.boot_tuple (pa_cons (pe_lc (own := [("index", 3), ("row", 4)]) (g := gTup K 2 (gCons (gName 3) (gCons (gName 4) gNil))) rfl sc_without.nd (pi_enumS (by rfl) T.enum (pa_cons (pv 0) pa_nil))
        (blkOk_by (N := N_without) (sc := defScope st_without) (by decide +kernel))
        (fun _ _ _ _ _ => pg_tup rfl (pgs_cons (pg_name (i := 3) sc_without.nd rfl (Or.inl rfl) (Or.inr rfl)) (pgs_cons (pg_name (i := 4) sc_without.nd rfl (Or.inl rfl) (Or.inr rfl)) pgs_nil)))
        (fun _ _ _ _ _ => pts_one (pt_cmpR op_ne (pv 3) (pv 1) (nomark _)))
        (fun _ _ _ _ _ => pe_op (r := Ct.rCat) op_cat3 (pe_slice (r := rSlT K) sl_tup (pv 4) po_none (po_some (pv 2))) (pe_slice (r := rSlT K) sl_tup (pv 4) (po_some (pe_op op_add (pv 2) pe_int)) po_none))) pa_nil))), ?_⟩
    have hvl : vx.length = M.length := hR.len
    have qx : ∀ H', Same H H' → SqV K H' true a vx := fun H' s => .inl (.inl (s _ _ ha))
    refine r_ret (r_cb (r_cons ?_))
    refine tlc_of (Ite2 K true a) (H1 := H) (fun R hR => ⟨_, rfl, true, a, vx, rfl, qx H (Same.refl H), hR⟩) ?_
    refine lc_rows (p := none) M.length (outW M at_ k) has_none (by omega) rfl (fun i _ => outW_len M at_ k i) (fun i H2 hi s2 => ?_) (fun H2 s2 => ?_) (fun i x H2 H3 C C0 hi s2 _ hy hC hC0 => ?_) fun Da H2 rs nD s2 hD hE => ?_
    · exact ⟨vx, vx[i]'(by omega), qx H2 s2.same, List.getElem?_eq_getElem (by omega)⟩
    · exact ⟨vx, qx H2 s2.same, by omega⟩
    · obtain ⟨T2, y, rfl, nT, rfl, hu⟩ := hy
      have ey := hu vx (qx H2 s2.same)
      obtain ⟨r, er, b, eb, hb⟩ := hR.get ey
      subst eb
      have lr := hMr r (List.mem_of_getElem? er)
      have hb2 := s2.same _ _ hb
      have eo : M.getD i [] = r := by rw [List.getD_eq_getElem?_getD, er]; rfl
      refine ⟨T2, _, rfl, .inl (.inl upd_same), rfl, _, _, rfl, _, _, rfl, rfl, rfl, ?_⟩
      have sTT : Same H2 (upd H2 T2 (.tup [V.int (i : Nat), .ref b])) := same_new nT
      refine ⟨_, rfl, _, rfl, rfl, _, rfl, ?_⟩
      by_cases hia : i = at_
      · rw [show (!decide (V.int ((i : Nat) : Int) = V.int (at_ : Int))) = false by simp [hia]]
        refine iteF ?_
        exact hC0 _ (RX.new nT) (by rw [outW_succ, if_pos hia, List.append_nil])
      · rw [show (!decide (V.int ((i : Nat) : Int) = V.int (at_ : Int))) = true by simp; omega]
        refine iteT ?_
        have hw : outW M at_ k (i + 1) = outW M at_ k i ++ [cutAt k r] := by rw [outW_succ, if_neg hia, eo]
        have kr : k < r.length := by omega
        have hb3 := sTT _ _ hb2
        refine r_op ?_
        refine ⟨_, rfl, _, rfl, _, rfl, b, _, rfl, .inl (.inl hb3), ?_, fun p1 np1 => ?_⟩
        · rintro ⟨_, z⟩
          rw [HT.sIx_nat, List.length_map] at z
          omega
        · rw [cutV_to r k (by omega)]
          have s1 := same_new (o := .tup ((r.take k).map V.int)) np1
          refine ⟨_, rfl, _, rfl, _, _, rfl, rfl, _, rfl, b, _, rfl, .inl (.inl (s1 _ _ hb3)), ?_, fun p2 np2 => ?_⟩
          · rintro ⟨z, _⟩
            have e : ((k : Int) + 1) = ((k + 1 : Nat) : Int) := by omega
            rw [e, HT.sIx_nat, List.length_map] at z
            omega
          · have e : ((k : Int) + 1) = ((k + 1 : Nat) : Int) := by omega
            rw [e, cutV_from r (k + 1) (by omega)]
            have s2' := same_new (o := .tup ((r.drop (k + 1)).map V.int)) np2
            refine ⟨p1, p2, _, _, rfl, rfl, s2' _ _ upd_same, upd_same, ?_, fun c H5 s5 hc => ?_⟩
            · rw [List.length_map, List.length_map, List.length_take, List.length_drop]
              omega
            · refine hC _ (cutAt k r) _ (RX.of (sTT.trans (s1.trans (s2'.trans s5)))) hw ⟨c, rfl, ?_⟩
              rw [hc]
              unfold cutAt
              rw [List.map_append]
    · refine ⟨Da, rs, rfl, .inl ⟨.inl (.inl hD), fun l nl => ?_⟩⟩
      have k : Same H2 (upd H2 l (.tup rs)) := same_new nl
      refine q _ _ (s2.same.trans k) ⟨l, rs, rfl, upd_same, ?_⟩
      exact hE.mono (KS.of k)
end
end T81
set_option Elab.async false
set_option linter.all false
set_option maxRecDepth 100000
set_option maxHeartbeats 1000000
namespace T81
open PySem PySem.Spec PyProof.Rows L2 Gd Zn Rp Dn Tb Gn En Zs Ct
mutual
def detM : Nat → List (List Int) → Int
  | 0, _ => 1
  | n + 1, M => ((List.range (n + 1)).map fun k => (M.getD 0 []).getD k 0 * cofM n M 0 k).sum
def cofM : Nat → List (List Int) → Nat → Nat → Int
  | n, M, a, k => if (a + k) % 2 = 0 then detM n (outM M a k) else -detM n (outM M a k)
end
structure Sq (n : Nat) (M : List (List Int)) : Prop where
  len : M.length = n
  row : ∀ r ∈ M, r.length = n
  small : ∀ r ∈ M, ∀ x ∈ r, Small x
theorem cutAt_len {r : List Int} {n k : Nat} (h : r.length = n + 1) (hk : k ≤ n) : (cutAt k r).length = n := by
  unfold cutAt
  rw [List.length_append, List.length_take, List.length_drop]
  omega
theorem cutAt_mem {r : List Int} {k : Nat} {x : Int} (h : x ∈ cutAt k r) : x ∈ r := by
  unfold cutAt at h
  rcases List.mem_append.mp h with h | h
  · exact List.mem_of_mem_take h
  · exact List.mem_of_mem_drop h
theorem out_count (n a : Nat) (h : a < n) : ((List.range n).filter fun j => !decide (j = a)).length = n - 1 := by
  have h1 : ((List.range n).filter fun j => !decide (j = a)).length + ((List.range n).filter fun j => decide (j = a)).length = n := by
    have := List.length_eq_countP_add_countP (p := fun j => decide (j = a)) (l := List.range n)
    rw [List.length_range, List.countP_eq_length_filter, List.countP_eq_length_filter] at this
    have e : (fun j => !decide (j = a)) = fun j => decide ¬ decide (j = a) = true := by
      funext j
      by_cases h : j = a <;> simp [h]
    rw [e]
    omega
  have h2 : ((List.range n).filter fun j => decide (j = a)).length = 1 := by
    have : ((List.range n).filter fun j => decide (j = a)) = [a] := by
      clear h1
      induction n with
      | zero => omega
      | succ n ih =>
        rw [List.range_succ, List.filter_append]
        by_cases z : n = a
        · subst z
          have : (List.range n).filter (fun j => decide (j = n)) = [] := by
            rw [List.filter_eq_nil_iff]
            intro x hx
            have := List.mem_range.mp hx
            simp
            omega
          rw [this]
          simp
        · rw [ih (by omega)]
          simp [z]
    rw [this]
    rfl
  omega
theorem Sq.out {n a k : Nat} {M : List (List Int)} (h : Sq (n + 1) M) (ha : a ≤ n) (hk : k ≤ n) : Sq n (outM M a k) := by
  have g : ∀ c ∈ outM M a k, ∃ r ∈ M, c = cutAt k r := fun c hc => by
    unfold outM outW at hc
    rw [List.mem_map] at hc
    obtain ⟨j, hj, e⟩ := hc
    rw [List.mem_filter] at hj
    have hj := List.mem_range.mp hj.1
    refine ⟨M[j], List.getElem_mem hj, ?_⟩
    rw [← e, List.getD_eq_getElem?_getD, List.getElem?_eq_getElem hj]
    rfl
  refine ⟨?_, fun c hc => ?_, fun c hc x hx => ?_⟩
  · unfold outM outW
    rw [List.length_map, h.len, out_count (n + 1) a (by omega)]
    rfl
  · obtain ⟨r, hr, rfl⟩ := g c hc
    exact cutAt_len (h.row r hr) hk
  · obtain ⟨r, hr, rfl⟩ := g c hc
    exact h.small r hr x (cutAt_mem hx)
theorem det_bd : ∀ (n : Nat) {M : List (List Int)}, Sq n M → n ≤ 4 → (detM n M).natAbs < 2 ^ (n * 20010 + 1)
  | 0, M, _, _ => by unfold detM; decide
  | n + 1, M, hS, hn => by
    unfold detM
    have h : ∀ x ∈ (List.range (n + 1)).map (fun k => (M.getD 0 []).getD k 0 * cofM n M 0 k), x.natAbs ≤ 2 ^ (20000 + (n * 20010 + 1)) := fun x hx => by
      obtain ⟨k, hk, rfl⟩ := List.mem_map.mp hx
      have hk := List.mem_range.mp hk
      have ih := det_bd n (hS.out (Nat.zero_le n) (show k ≤ n by omega)) (by omega)
      have c : (cofM n M 0 k).natAbs < 2 ^ (n * 20010 + 1) := by
        unfold cofM
        split
        · exact ih
        · rw [Int.natAbs_neg]; exact ih
      have l0 : 0 < M.length := by rw [hS.len]; omega
      have m0 : M.getD 0 [] ∈ M := by rw [List.getD_eq_getElem?_getD, List.getElem?_eq_getElem l0]; exact List.getElem_mem l0
      have lr := hS.row _ m0
      have m1 : (M.getD 0 []).getD k 0 ∈ M.getD 0 [] := by
        generalize M.getD 0 [] = r at lr
        rw [List.getD_eq_getElem?_getD, List.getElem?_eq_getElem (by omega)]
        exact List.getElem_mem _
      obtain ⟨e, e1, e2⟩ := hS.small _ m0 _ m1
      exact Nat.le_of_lt (Wd.abs_mul (Wd.abs_mono e2 e1) c)
    have s := Wd.abs_sum h
    rw [List.length_map, List.length_range] at s
    have g : (n + 1) * 2 ^ (20000 + (n * 20010 + 1)) < 2 ^ ((n + 1) * 20010 + 1) := by
      have e : (n + 1) * 20010 + 1 = 10 + (20000 + (n * 20010 + 1)) := by omega
      rw [e, Nat.pow_add 2 10]
      exact Nat.mul_lt_mul_of_pos_right (by omega) (Nat.pow_pos (by decide))
    exact Nat.lt_of_le_of_lt s g
theorem cof_wid {n a k : Nat} {M : List (List Int)} (hn : n ≤ 3) (hS : Sq (n + 1) M) (ha : a ≤ n) (hk : k ≤ n) : Wd.Wid (cofM n M a k) := by
  have ih := det_bd n (hS.out ha hk) (by omega)
  refine ⟨n * 20010 + 1, by omega, ?_⟩
  unfold cofM
  split
  · exact ih
  · rw [Int.natAbs_neg]; exact ih
section
variable {P : Program} {w : World} {K : PySem.W.Frag} {mg : Str → Option Value} {base : Heap}
abbrev st_cofactor : Stmt := top 33
def sp_cof (n : Nat) : Sp := fun vs H Q _ => ∃ v M, ∃ a k : Nat, vs = [v, .int a, .int k] ∧ Mx H v M ∧ n ≤ 3 ∧ Sq (n + 1) M ∧ a ≤ n ∧ k ≤ n ∧ ∀ H', Same H H' → Q (.int (cofM n M a k)) H'
def sp_det (n : Nat) : Sp := fun vs H Q _ => ∃ v M, vs = [v] ∧ Mx H v M ∧ n ≤ 4 ∧ Sq n M ∧ ∀ H', Same H H' → Q (.int (detM n M)) H'
abbrev N_cof : List Str := ["rows", "at", "place", "left"]
theorem sc_cofactor : FnScope N_cof ["rows", "at", "place"] (defScope st_cofactor) := ⟨rfl, rfl, rfl, by decide +kernel, rfl, by decide +kernel, by decide +kernel⟩
theorem ok_cofactor {f : Addr} {fd : FuncData} (n : Nat) (F : Fun K "cofactor" "cofactor" st_cofactor f fd) (T : Txt mg) (D1 : Def P w K mg base "without" 1 ["rows", "at", "place"] sp_without) (D2 : Def P w K mg base "determinant_of" (2 * n + 1) ["rows"] (sp_det n)) :
    FnOk P w K mg base CX0 (2 * n + 2) f fd ["rows", "at", "place"] (sp_cof n) := by
  refine F.ok sc_cofactor (fun vs H Q E h => ?_) (fun cdv A outer s H vs Q E hr h => ?_)
  · obtain ⟨v, M, a, k, rfl, _⟩ := h
    rfl
  · obtain ⟨v, M, a, k, rfl, hM, hn, hS, ha, hk, q⟩ := h
    refine ⟨_, pss_cons (ps_set (i := 3) sc_cofactor.nd rfl (Or.inl rfl) (pe_def D2 hr (pa_cons (pe_def D1 hr (pa_cons (pv 0) (pa_cons (pv 1) (pa_cons (pv 2) pa_nil))) (by omega)) pa_nil) (by omega)))
      (pss_one (ps_ret (pe_ifExp (pt_cmpR op_eq (pe_op op_mod (pe_op op_add (pv 1) (pv 2)) pe_int) pe_int (nomark _)) (pv 3) (pe_un un_neg (pv 3))))), ?_⟩
    refine ⟨_, rfl, _, rfl, _, rfl, v, M, a, k, n + 1, rfl, hM, by rw [hS.len]; omega, by omega, by omega, hS.row, fun v1 H1 s1 h1 => ?_⟩
    refine ⟨v1, outM M a k, rfl, h1, by omega, hS.out ha hk, fun H2 s2 => ?_⟩
    have ec : ((a : Int) + (k : Int)) % 2 = 0 ↔ (a + k) % 2 = 0 := by omega
    have q2 := q H2 (s1.trans s2)
    refine ⟨_, rfl, _, rfl, _, _, rfl, rfl, _, _, rfl, rfl, (show (0 : Int) < 2 by decide), rfl, _, rfl, ?_⟩
    by_cases z : (a + k) % 2 = 0
    · rw [decide_eq_true (congrArg V.int (ec.mpr z))]
      refine iteT ⟨_, rfl, ?_⟩
      have : cofM n M a k = detM n (outM M a k) := by unfold cofM; rw [if_pos z]
      rw [this] at q2
      exact q2
    · rw [decide_eq_false (fun e => z (ec.mp (V.int.inj e)))]
      refine iteF ⟨_, rfl, _, rfl, ?_⟩
      have : cofM n M a k = -detM n (outM M a k) := by unfold cofM; rw [if_neg z]
      rw [this] at q2
      exact q2
abbrev st_det : Stmt := top 32
abbrev N_det : List Str := ["rows", "place", "number"]
theorem sc_det : FnScope N_det ["rows"] (defScope st_det) := ⟨rfl, rfl, rfl, by decide +kernel, rfl, by decide +kernel, by decide +kernel⟩
theorem ok_det0 {f : Addr} {fd : FuncData} (F : Fun K "determinant_of" "determinant_of" st_det f fd) (T : Txt mg) : FnOk P w K mg base CX0 1 f fd ["rows"] (sp_det 0) := by
  refine F.ok sc_det (fun vs H Q E h => ?_) (fun cdv A outer s H vs Q E hr h => ?_)
  · obtain ⟨v, M, rfl, _⟩ := h
    rfl
  · obtain ⟨v, M, rfl, ⟨a, vx, rfl, ha, hR⟩, hn, hS, q⟩ := h
    refine ⟨_, pss_cons (ps_if (pt_cmpR op_eq (pe_callB (r := Dn.rLen K) c_len (by rfl) T.len PySem.boot_len (pa_cons (pv 0) pa_nil)) pe_int (nomark _)) (pss_one (ps_ret pe_int)) pss_nil)
      pss_dead, ?_⟩
    have hvl : vx.length = 0 := by rw [hR.len]; exact hS.len
    refine ⟨_, rfl, a, vx, rfl, .inr (.inl (.inl ha)), rfl, _, rfl, ?_⟩
    rw [decide_eq_true (show V.int (vx.length : Int) = V.int 0 by rw [hvl]; rfl)]
    refine iteT ?_
    have := q H (Same.refl H)
    unfold detM at this
    exact this
theorem len2 {α : Type} {l : List α} (h : l.length = 2) : ∃ a b, l = [a, b] := by
  match l, h with
  | [a, b], _ => exact ⟨a, b, rfl⟩
theorem det2 (a b c d : Int) : detM 2 [[a, b], [c, d]] = a * d - b * c := by
  simp [detM, cofM, outM, outW, cutAt, List.range_succ, List.getD]
  grind
theorem ok_det2 {f : Addr} {fd : FuncData} (F : Fun K "determinant_of" "determinant_of" st_det f fd) (T : Txt mg) : FnOk P w K mg base CX0 5 f fd ["rows"] (sp_det 2) := by
  refine F.ok sc_det (fun vs H Q E h => ?_) (fun cdv A outer s H vs Q E hr h => ?_)
  · obtain ⟨v, M, rfl, _⟩ := h
    rfl
  · obtain ⟨v, M, rfl, ⟨a, vx, rfl, ha, hR⟩, hn, hS, q⟩ := h
    refine ⟨_, pss_cons (ps_if (pt_cmpR op_eq (pe_callB (r := Dn.rLen K) c_len (by rfl) T.len PySem.boot_len (pa_cons (pv 0) pa_nil)) pe_int (nomark _)) pss_dead pss_nil)
      (pss_cons (ps_if (pt_cmpR op_eq (pe_callB (r := Dn.rLen K) c_len (by rfl) T.len PySem.boot_len (pa_cons (pv 0) pa_nil)) pe_int (nomark _)) (pss_one (ps_ret (pe_op op_sub (pe_op op_mulX (pe_ix ix_sq (pe_ix ix_sq (pv 0) pe_int (fun _ _ => rfl)) pe_int (fun _ _ => rfl)) (pe_ix ix_sq (pe_ix ix_sq (pv 0) pe_int (fun _ _ => rfl)) pe_int (fun _ _ => rfl))) (pe_op op_mulX (pe_ix ix_sq (pe_ix ix_sq (pv 0) pe_int (fun _ _ => rfl)) pe_int (fun _ _ => rfl)) (pe_ix ix_sq (pe_ix ix_sq (pv 0) pe_int (fun _ _ => rfl)) pe_int (fun _ _ => rfl)))))) pss_nil) pss_dead), ?_⟩
    obtain ⟨r1, r2, rfl⟩ := len2 hS.len
    obtain ⟨a1, b1, rfl⟩ := len2 (hS.row r1 (by simp))
    obtain ⟨c1, d1, rfl⟩ := len2 (hS.row r2 (by simp))
    have sa : Small a1 := hS.small [a1, b1] (by simp) a1 (by simp)
    have sb : Small b1 := hS.small [a1, b1] (by simp) b1 (by simp)
    have sc : Small c1 := hS.small [c1, d1] (by simp) c1 (by simp)
    have sd : Small d1 := hS.small [c1, d1] (by simp) d1 (by simp)
    have hvl : vx.length = 2 := by rw [hR.len]; rfl
    obtain ⟨x1, x2, rfl⟩ := len2 hvl
    obtain ⟨_, e1, p1, rfl, h1⟩ := hR.get (i := 0) rfl
    obtain ⟨_, e2, p2, rfl, h2⟩ := hR.get (i := 1) rfl
    cases e1
    cases e2
    have hA : SqV K H true a [V.ref p1, V.ref p2] := .inl (.inl ha)
    have hP : SqV K H true p1 [V.int a1, V.int b1] := .inl (.inl h1)
    have hQ : SqV K H true p2 [V.int c1, V.int d1] := .inl (.inl h2)
    refine ⟨_, rfl, a, _, rfl, .inr (.inl (.inl ha)), rfl, _, rfl, ?_⟩
    refine iteF ?_
    refine ⟨_, rfl, a, _, rfl, .inr (.inl (.inl ha)), rfl, _, rfl, ?_⟩
    refine iteT ?_
    have q2 := q H (Same.refl H)
    rw [det2] at q2
    refine ⟨_, rfl, true, a, _, (0 : Int), _, rfl, rfl, hA, atI_nat (j := 0) rfl, true, p1, _, (0 : Int), _, rfl, rfl, hP, atI_nat (j := 0) rfl, _, rfl, true, a, _, (1 : Int), _, rfl, rfl, hA, atI_nat (j := 1) rfl, true, p2, _, (1 : Int), _, rfl, rfl, hQ, atI_nat (j := 1) rfl, _, _, rfl, rfl, Wd.mul sa sd, _, rfl, true, a, _, (0 : Int), _, rfl, rfl, hA, atI_nat (j := 0) rfl, true, p1, _, (1 : Int), _, rfl, rfl, hP, atI_nat (j := 1) rfl, _, rfl, true, a, _, (1 : Int), _, rfl, rfl, hA, atI_nat (j := 1) rfl, true, p2, _, (0 : Int), _, rfl, rfl, hQ, atI_nat (j := 0) rfl, _, _, rfl, rfl, Wd.mul sb sc, _, _, rfl, rfl, q2⟩
theorem ok_detS {f : Addr} {fd : FuncData} (n : Nat) (n1 : n ≠ 1) (F : Fun K "determinant_of" "determinant_of" st_det f fd) (T : Txt mg) (D1 : Def P w K mg base "cofactor" (2 * n + 2) ["rows", "at", "place"] (sp_cof n)) :
    FnOk P w K mg base CX0 (2 * n + 3) f fd ["rows"] (sp_det (n + 1)) := by
  refine F.ok sc_det (fun vs H Q E h => ?_) (fun cdv A outer s H vs Q E hr h => ?_)
  · obtain ⟨v, M, rfl, _⟩ := h
    rfl
  · obtain ⟨v, M, rfl, ⟨a, vx, rfl, ha, hR⟩, hn, hS, q⟩ := h
    refine ⟨_, pss_cons (ps_if (pt_cmpR op_eq (pe_callB (r := Dn.rLen K) c_len (by rfl) T.len PySem.boot_len (pa_cons (pv 0) pa_nil)) pe_int (nomark _)) pss_dead pss_nil)
      (pss_cons (ps_if (pt_cmpR op_eq (pe_callB (r := Dn.rLen K) c_len (by rfl) T.len PySem.boot_len (pa_cons (pv 0) pa_nil)) pe_int (nomark _)) pss_dead pss_nil)
      (pss_one (ps_ret (pe_callB (cr_sum rfl) (by rfl) T.sum boot_sum (pa_cons (pe_lc (own := [("place", 1), ("number", 2)]) (g := gTup K 2 (gCons (gName 1) (gCons (gName 2) gNil))) (tt := tYes) rfl sc_det.nd (pi_enumS (by rfl) T.enum (pa_cons (pe_ix ix_sq (pv 0) pe_int (fun _ _ => rfl)) pa_nil))
        (blkOk_by (N := N_det) (sc := defScope st_det) (by decide +kernel))
        (fun _ _ _ _ _ => pg_tup rfl (pgs_cons (pg_name (i := 1) sc_det.nd rfl (Or.inl rfl) (Or.inr rfl)) (pgs_cons (pg_name (i := 2) sc_det.nd rfl (Or.inl rfl) (Or.inr rfl)) pgs_nil)))
        (fun _ _ _ _ _ => pts_nil)
        (fun _ _ _ _ _ => pe_op op_mulX (pv 2) (pe_def (X := Cx.blk _ _ _ _ _ _) D1 hr (pa_cons (pv 0) (pa_cons pe_int (pa_cons (pv 1) pa_nil))) (by omega)))) pa_nil))))), ?_⟩
    have hvl : vx.length = n + 1 := by rw [hR.len]; exact hS.len
    refine ⟨_, rfl, a, vx, rfl, .inr (.inl (.inl ha)), rfl, _, rfl, ?_⟩
    rw [decide_eq_false (show ¬ V.int (vx.length : Int) = V.int 0 from fun e => by have := V.int.inj e; omega)]
    refine iteF ?_
    refine ⟨_, rfl, a, vx, rfl, .inr (.inl (.inl ha)), rfl, _, rfl, ?_⟩
    rw [decide_eq_false (show ¬ V.int (vx.length : Int) = V.int 2 from fun e => by have := V.int.inj e; omega)]
    refine iteF ?_
    have e0 : vx[0]? = some vx[0] := List.getElem?_eq_getElem (by omega)
    obtain ⟨r, er, b, eb, hb⟩ := hR.get e0
    have lr := hS.row r (List.mem_of_getElem? er)
    have sr := hS.small r (List.mem_of_getElem? er)
    have e1 : M.getD 0 [] = r := by rw [List.getD_eq_getElem?_getD, er]; rfl
    rw [eb] at e0
    have qb : ∀ H', Same H H' → SqV K H' true b (r.map V.int) := fun H' s => .inl (.inl (s _ _ hb))
    refine r_nret (r_cb (r_cons ?_))
    refine tlc_of (Ite2 K true b) (H1 := H) (fun R hR' => ⟨_, rfl, true, a, vx, (0 : Int), _, rfl, rfl, .inl (.inl ha), atI_nat e0, true, b, r.map V.int, rfl, qb H (Same.refl H), hR'⟩) ?_
    refine lc_el (p := none) (n + 1) (fun i v => v = .int (r.getD i 0 * cofM n M 0 i)) has_none (by omega) (fun i H2 hi s2 => ?_) (fun H2 s2 => ?_) (fun i x H2 H3 C hi s2 _ hy hC => ?_) fun Da H2 rs nD s2 hD hrl hE => ?_
    · exact ⟨_, _, qb H2 s2.same, List.getElem?_eq_getElem (by rw [List.length_map]; omega)⟩
    · exact ⟨_, qb H2 s2.same, by rw [List.length_map]; omega⟩
    · obtain ⟨T2, y, rfl, nT, rfl, hu⟩ := hy
      have ey := hu _ (qb H2 s2.same)
      have hi' : i < r.length := by omega
      rw [List.getElem?_map, List.getElem?_eq_getElem hi'] at ey
      cases ey
      have eg : r.getD i 0 = r[i] := by rw [List.getD_eq_getElem?_getD, List.getElem?_eq_getElem hi']; rfl
      have sT : Same H2 (upd H2 T2 (.tup [V.int (i : Nat), V.int r[i]])) := same_new nT
      refine ⟨T2, _, rfl, .inl (.inl upd_same), rfl, _, _, rfl, _, _, rfl, rfl, rfl, ?_⟩
      refine ⟨_, rfl, _, rfl, _, rfl, _, M, 0, i, rfl, ?_, by omega, hS, Nat.zero_le _, by omega, fun H4 s4 => ?_⟩
      · exact Mx.mono (KS.of (s2.same.trans sT)) ⟨a, vx, rfl, ha, hR⟩
      · refine ⟨_, _, rfl, rfl, Wd.mulW (sr _ (List.getElem_mem hi')).w (cof_wid (by omega) hS (Nat.zero_le _) (by omega)), hC _ _ (RX.of (sT.trans s4)) ?_⟩
        rw [eg]
    · have er' : rs = (List.range (n + 1)).map fun k => V.int (r.getD k 0 * cofM n M 0 k) := map_of_get (n := 0) _ (by rw [hrl, List.length_range]) fun i v e => by
        have hi : i < n + 1 := by rw [← hrl]; exact (List.getElem?_eq_some_iff.mp e).1
        exact ⟨i, List.getElem?_range hi, hE i v e⟩
      refine ⟨Da, (List.range (n + 1)).map fun k => r.getD k 0 * cofM n M 0 k, rfl, .inl (.inl ?_), ?_⟩
      · rw [hD, er', List.map_map]
        rfl
      · have := q H2 s2.same
        unfold detM at this
        rw [e1] at this
        exact this
/-- both, by the size -/
theorem ok_dets {f g : Addr} {fd gd : FuncData} (F : Fun K "determinant_of" "determinant_of" st_det f fd) (G : Fun K "cofactor" "cofactor" st_cofactor g gd) (T : Txt mg) (D1 : Def P w K mg base "without" 1 ["rows", "at", "place"] sp_without)
    (mf : mg "determinant_of" = some (.ref f)) (kf : PySem.W.keepIn K (.ref f) = true) (bf : Binds K fd ["rows"] []) (mg' : mg "cofactor" = some (.ref g)) (kg : PySem.W.keepIn K (.ref g) = true) (bg : Binds K gd ["rows", "at", "place"] []) :
    ∀ n, Def P w K mg base "determinant_of" (2 * n + 1) ["rows"] (sp_det n) ∧ Def P w K mg base "cofactor" (2 * n + 2) ["rows", "at", "place"] (sp_cof n)
  | 0 => ⟨⟨f, fd, ok_det0 F T, mf, kf, bf⟩, ⟨g, gd, ok_cofactor 0 G T D1 ⟨f, fd, ok_det0 F T, mf, kf, bf⟩, mg', kg, bg⟩⟩
  | n + 1 => by
    have d : Def P w K mg base "determinant_of" (2 * (n + 1) + 1) ["rows"] (sp_det (n + 1)) := by
      by_cases z : n = 1
      · subst z
        exact ⟨f, fd, ok_det2 F T, mf, kf, bf⟩
      · exact ⟨f, fd, ok_detS n z F T (ok_dets F G T D1 mf kf bf mg' kg bg n).2, mf, kf, bf⟩
    exact ⟨d, ⟨g, gd, ok_cofactor (n + 1) G T D1 d, mg', kg, bg⟩⟩
end
end T81
set_option Elab.async false
set_option linter.all false
set_option maxRecDepth 100000
set_option maxHeartbeats 1000000
namespace Op
open PySem PySem.Spec PyProof.Rows L2
def rOwnB (C : Addr) (sp : Sp) (E : XK) (x y : V) (H : Hp) (Q : VK) : Prop :=
  ∃ a dx fs b dy gs, x = .ref a ∧ y = .ref b ∧ H a = some (.ins C dx fs) ∧ H b = some (.ins C dy gs) ∧ sp [x, y] H (fun v H' => (∃ c, v = .ref c) ∧ Q v H') E
theorem op_mulOwn {X : Cx} {CX : CXT} {C g : Addr} {n : Nat} {sp : Sp} {E : XK} {cd : ClassData} {rest : List Value} (hc : W.clsIn X.K C = some cd) (hm : cd.mro = Value.ref C :: rest)
    (hf : W.findIn X.K (.ref C) (dunder "mul") = some (some (.ref g))) (hfn : W.isFn X.K (.ref g) = true) (G : FnR X.prog X.w X.K X.mg X.base CX n g sp) (room : Room n X.A) (ps : Passes CX X E) : OpR X (binaryOp .Mult) (rOwnB C sp E) := by
  intro pins s σ H x y v u Q I rx ry h
  obtain ⟨a, dx, fs, b, dy, gs, rfl, rfl, ha, hb, q⟩ := h
  cases (show v = Value.ref a from rx)
  cases (show u = Value.ref b from ry)
  have oa : s.heap.get? a = some (W.instObj C dx) := by have := I.hok a _ ha; unfold ObjOk at this; exact this.2.2.2.1
  have ob : s.heap.get? b = some (W.instObj C dy) := by have := I.hok b _ hb; unfold ObjOk at this; exact this.2.2.2.1
  have kin := I.kIn
  unfold binaryOp
  refine wpAny_holding ?_
  show wpAny _ _ (binaryOp1 "mul" (.ref a) (.ref b) >>= _) _ _ _
  refine wpAny_bind ?_
  unfold binaryOp1
  refine wpAny_bind (wpAny_typeOf_ref oa ?_)
  refine wpAny_bind (wpAny_typeOf_ref ob ?_)
  refine wpAny_bind (W.fills_K (M := model X.prog X.w) kin hc hm hf X.A _ _ s (fun _ _ e => e) ?_)
  have e1 : ((W.instObj C dx).cls == (W.instObj C dy).cls) = true := by
    show (Value.ref C == Value.ref C) = true
    simp
  dsimp only
  rw [if_pos e1]
  refine wpAny_bind (wpAny_pure ?_)
  simp only [Bool.and_false, Bool.false_and, Bool.false_eq_true, if_false, if_true]
  refine wpAny_bind (wpAny_pure ?_)
  simp only [Bool.false_eq_true, if_false]
  refine wpAny_bind ?_
  unfold tryMethod
  refine wpAny_bind ?_
  unfold callSpecial?
  refine wpAny_bind ?_
  unfold specialOf
  refine wpAny_bind (wpAny_typeOf_ref oa ?_)
  refine W.looks_findIn (M := model X.prog X.w) kin hf X.A _ _ s (fun _ _ e => e) ?_
  dsimp only
  refine wpAny_holding ?_
  refine wpAny_bind ?_
  unfold bindSpecial
  have hfn' : W.typeIn X.K (.ref g) = some (.type "function") := by
    unfold W.isFn at hfn
    simpa using hfn
  refine wpAny_bind (W.looks_typeIn (M := model X.prog X.w) kin hfn' X.A _ _ s (fun _ _ e => e) ?_)
  rw [if_pos (by decide)]
  refine wpAny_pure ?_
  dsimp only
  refine wpAny_bind (wpAny_call ?_)
  refine codeAny_mono (run_fnR G room ps I (.cons rx (.cons ry .nil)) q) fun r s2 hq => ?_
  cases r with
  | error er => exact hq
  | ok fl =>
    cases fl with
    | ret u =>
      obtain ⟨v, H', I', rv, ⟨c, rfl⟩, hQ⟩ := hq
      have eu : u = Value.ref c := rv
      subst eu
      exact wpAny_pure (wpAny_pure (wpAny_pure (wpAny_pure ⟨_, H', I', rv, hQ⟩)))
    | next => exact (show False from hq).elim
    | brk => exact (show False from hq).elim
    | cont => exact (show False from hq).elim
end Op
set_option Elab.async false
set_option linter.all false
set_option maxRecDepth 100000
set_option maxHeartbeats 1000000
namespace T81
open PySem PySem.Spec PyProof.Rows L2 Gd Zn Rp Dn Tb Gn En Zs Ct Op
abbrev st_T (i : Nat) : Stmt := inClass (top 35) i
def fldsT (r : V) : List (Str × V) := putF "_rows" r []
theorem fldsT_rows (r : V) : (fldsT r).lookup ("_rows" : Str) = some r := by
  unfold fldsT
  rw [lookup_putF, if_pos rfl]
def Tab (C : Addr) (H : Hp) (v : V) (M : List (List Int)) : Prop := ∃ p dx r, v = .ref p ∧ H p = some (.ins C dx (fldsT r)) ∧ Mx H r M
theorem Tab.mono {C : Addr} {H H' : Hp} {v : V} {M : List (List Int)} (s : KS H H') (h : Tab C H v M) : Tab C H' v M := by
  obtain ⟨p, dx, r, e, h, m⟩ := h
  exact ⟨p, dx, r, e, s p _ (fun _ z => by cases z) h, m.mono s⟩
theorem RowsV.tup_mono {H H' : Hp} {vs : List V} {M : List (List Int)} (s : ∀ c xs, H c = some (.tup xs) → H' c = some (.tup xs)) (h : RowsV H vs M) : RowsV H' vs M := by
  induction h with
  | nil => exact .nil
  | cons p _ ih =>
    obtain ⟨b, e, h⟩ := p
    exact .cons ⟨b, e, s _ _ h⟩ ih
theorem Mx.tup_mono {H H' : Hp} {v : V} {M : List (List Int)} (s : ∀ c xs, H c = some (.tup xs) → H' c = some (.tup xs)) (h : Mx H v M) : Mx H' v M := by
  obtain ⟨a, vs, e, h, r⟩ := h
  exact ⟨a, vs, e, s _ _ h, T81.RowsV.tup_mono s r⟩
structure Tcl (K : PySem.W.Frag) (mg : Str → Option Value) (C : Addr) : Prop where
  cl : Cls K C
  nR : NoAttr K C "_rows"
  mgC : mg "Table" = some (.ref C)
  cc : PySem.W.findIn K (.ref C) "__class__" = some (some (.builtin "object.__class__"))
  cg : PySem.W.specialIn K (.builtin "object.__class__") "__get__" = some (some (.builtin "getset_descriptor.__get__"))
  ct : PySem.W.takesIn K (.builtin "object.__class__") = some true
  cm : PySem.W.mroIn K C (.type "object") = some true
theorem Tcl.ty {K : PySem.W.Frag} {mg : Str → Option Value} {C : Addr} (T : Tcl K mg C) {H : Hp} {p dx : Addr} {fs : List (Str × V)} (h : H p = some (.ins C dx fs)) : TyX K H (.ref p) (.ref C) := .base (.ins h T.cl T.cc T.cg T.ct T.cm)
theorem kit_own (K : PySem.W.Frag) (C : Addr) : PySem.W.kitOne K (.ref C) (.ref C) = some true := by
  unfold PySem.W.kitOne
  rw [if_pos (by simp)]
theorem row_true {n : Nat} {r : List Int} {d : PyData} (hd : d = .list (iD r) ∨ d = .tuple (iD r)) (h1 : 1 ≤ n) (h3 : n ≤ 3) (hl : r.length = n) : rowOfB n d = true := by
  have e1 : isSeq d = true := by rcases hd with rfl | rfl <;> rfl
  have e2 : items d = iD r := by rcases hd with rfl | rfl <;> rfl
  have e3 : (iD r).length = n := by unfold iD; rw [List.length_map]; exact hl
  have e4 : (iD r).all isIntD = true := by
    unfold iD
    rw [List.all_map]
    simp [isIntD, Function.comp_def]
  unfold rowOfB rowB
  rw [e1, e2, e3, e4, decide_eq_true h1, decide_eq_true h3, decide_eq_true rfl]
  rfl
theorem grid_true {n : Nat} {d : PyData} {M : List (List Int)} (g : GridD d M) (h1 : 1 ≤ n) (h3 : n ≤ 3) (hS : Sq n M) : gridB d = true ∧ ∀ r ∈ items d, (items r).length = n := by
  obtain ⟨g1, g2, g3⟩ := g
  have hl : (items d).length = n := by rw [g2]; exact hS.len
  have hr : ∀ d' ∈ items d, ∃ r, r.length = n ∧ (d' = .list (iD r) ∨ d' = .tuple (iD r)) := fun d' hd => by
    obtain ⟨i, hi, e⟩ := List.getElem_of_mem hd
    obtain ⟨r, er, h⟩ := g3 i d' (by rw [List.getElem?_eq_getElem hi, e])
    exact ⟨r, hS.row r (List.mem_of_getElem? er), h⟩
  refine ⟨?_, fun d' hd => ?_⟩
  · unfold gridB
    rw [g1, hl, decide_eq_true (show 0 < n by omega), Bool.and_true, Bool.true_and, List.all_eq_true]
    intro d' hd
    obtain ⟨r, l, h⟩ := hr d' hd
    exact row_true h h1 h3 l
  · obtain ⟨r, l, h⟩ := hr d' hd
    rcases h with rfl | rfl
    · show (iD r).length = n
      unfold iD
      rw [List.length_map]; exact l
    · show (iD r).length = n
      unfold iD
      rw [List.length_map]; exact l
section
variable {P : Program} {w : World} {K : PySem.W.Frag} {mg : Str → Option Value} {base : Heap} {C : Addr}
def sp_init (C : Addr) : Sp := fun vs H Q _ => ∃ p dx v d M n, vs = [.ref p, v] ∧ H p = some (.ins C dx []) ∧ AnyV H v d ∧ GridD d M ∧ Sq n M ∧ 1 ≤ n ∧ n ≤ 3 ∧ (detM n M = 1 ∨ detM n M = -1) ∧
  ∀ H', (∀ c o, c ≠ p → H c = some o → H' c = some o) → Tab C H' (.ref p) M → Q .non H'
theorem sc_init : FnScope ["self", "rows", "kept"] ["self", "rows"] (defScope (st_T 0)) := ⟨rfl, rfl, rfl, by decide +kernel, rfl, by decide +kernel, by decide +kernel⟩
theorem ok_init {f : Addr} {fd : FuncData} (F : Fun K "__init__" "Table.__init__" (st_T 0) f fd) (T : Txt mg) (Tc : Tcl K mg C) (D1 : Def P w K mg base "is_grid" 4 ["value"] sp_is_grid) (D2 : Def P w K mg base "copied" 1 ["rows"] sp_copied)
    (D3 : ∀ n, Def P w K mg base "determinant_of" (2 * n + 1) ["rows"] (sp_det n)) : FnOk P w K mg base CX0 8 f fd ["self", "rows"] (sp_init C) := by
  refine F.ok sc_init (fun vs H Q E h => ?_) (fun cdv A outer s H vs Q E hr h => ?_)
  · obtain ⟨p, dx, v, d, M, n, rfl, _⟩ := h
    rfl
  · obtain ⟨p, dx, v, d, M, n, rfl, hp, av, g, hS, h1, h3, hdet, q⟩ := h
    obtain ⟨gt, gl⟩ := grid_true g h1 h3 hS
    refine ⟨_, pss_cons (ps_if (pt_not (pt_val (pe_def D1 hr (pa_cons (pv 1) pa_nil)))) pss_dead pss_nil)
      (pss_cons (ps_set (i := 2) sc_init.nd rfl (Or.inl rfl) (pe_def D2 hr (pa_cons (pv 1) pa_nil)))
      (pss_cons (ps_if (pt_cmpR op_notIn_seq (pe_def (D3 n) hr (pa_cons (pv 2) pa_nil) (by omega)) (pe_tup (pa_cons pe_int (pa_cons (pe_un un_neg pe_int) pa_nil))) (by rfl)) pss_dead pss_nil)
      (pss_one (ps_fld (pv 0) (pv 2) rfl)))), ?_⟩
    have hl : (items d).length = n := by rw [g.2.1]; exact hS.len
    refine ⟨_, rfl, v, d, rfl, av, by omega, fun r hr => by rw [gl r hr]; omega, fun H1 s1 => ⟨_, rfl, ?_⟩⟩
    rw [gt]
    refine iteF ?_
    refine ⟨_, rfl, v, d, M, rfl, av.mono s1, g, by rw [hS.len]; omega, fun v' H2 s2 hM => ?_⟩
    refine ⟨_, rfl, v', M, rfl, hM, by omega, hS, fun H3 s3 => ?_⟩
    refine ⟨_, rfl, (by show 2 ≤ sizeLine; decide), fun t nt => ?_⟩
    refine ⟨t, _, rfl, .inr (.inl (.inl upd_same)), rfl, rfl, _, rfl, ?_⟩
    have hin : (if true = true then !inV (V.int (detM n M)) [V.int 1, V.int (-1)] else inV (V.int (detM n M)) [V.int 1, V.int (-1)]) = false := by
      rcases hdet with e | e <;> rw [e] <;> decide +kernel
    rw [hin]
    refine iteF ?_
    have sT : Same H3 (upd H3 t (.tup [V.int 1, V.int (-1)])) := same_new nt
    have sA : Same H (upd H3 t (.tup [V.int 1, V.int (-1)])) := s1.trans (s2.trans (s3.trans sT))
    refine ⟨_, rfl, _, rfl, p, C, dx, [], rfl, sA _ _ hp, Tc.cl, Tc.nR, (by show 0 < 1000; decide), ?_⟩
    refine q _ (fun c o hc e => ?_) ?_
    · rw [upd_ne hc]
      exact sA _ _ e
    · refine ⟨p, dx, v', rfl, upd_same, T81.Mx.tup_mono (fun c xs e => ?_) hM⟩
      have e2 := (s3.trans sT) _ _ e
      have nc : c ≠ p := fun z => by
        subst z
        have := sA _ _ hp
        rw [e2] at this
        cases this
      rw [upd_ne nc]
      exact e2
end
end T81
set_option Elab.async false
set_option linter.all false
set_option maxRecDepth 100000
set_option maxHeartbeats 1000000
namespace T81
open PySem PySem.Spec PyProof.Rows L2 Gd Zn Rp Dn Tb Gn En Zs Ct Op
structure Prp (P : Program) (w : World) (K : PySem.W.Frag) (mg : Str → Option Value) (base : Heap) (C : Addr) (nm : Str) (k : Nat) (sp : Sp) : Prop where
  ex : ∃ (p g : Addr) (fd : FuncData), PropOf K C nm p g ∧ FnOk P w K mg base CX0 k g fd ["self"] sp ∧ Binds K fd ["self"] []
theorem pe_prp {X : Cx} {C : Addr} {nm : Str} {k j : Nat} {sp : Sp} {e : Expr} {ta : TE} {pos : Pos} (D : Prp X.prog X.w X.K X.mg X.base C nm k sp) (cl : Cls X.K C) (room : Room j X.A) (he : PE X e ta) (hkj : k + 1 ≤ j := by decide)
    (ha : PySem.attributeBase e nm X.env (PySem.eval e X.env) = PySem.eval e X.env := by rfl) : PE X (.Attribute e nm pos) (tProp C sp [] E0 ta) := by
  obtain ⟨p, g, fd, pr, G, b⟩ := D.ex
  exact pe_prop he cl pr G (room.mono hkj) b .nil pass0 ha
section
variable {P : Program} {w : World} {K : PySem.W.Frag} {mg : Str → Option Value} {base : Heap} {C : Addr}
def sp_rows (C : Addr) : Sp := fun vs H Q _ => ∃ v M, vs = [v] ∧ Tab C H v M ∧ ∀ r, Mx H r M → Q r H
theorem sc_rows : FnScope ["self"] ["self"] (defScope (st_T 1)) := ⟨rfl, rfl, rfl, by decide +kernel, rfl, by decide +kernel, by decide +kernel⟩
theorem ok_rows {f : Addr} {fd : FuncData} (F : Fun K "rows" "Table.rows" (st_T 1) f fd) (Tc : Tcl K mg C) : FnOk P w K mg base CX0 1 f fd ["self"] (sp_rows C) := by
  refine F.ok sc_rows (fun vs H Q E h => ?_) (fun cdv A outer s H vs Q E hr h => ?_)
  · obtain ⟨v, M, rfl, _⟩ := h
    rfl
  · obtain ⟨v, M, rfl, ⟨p, dx, r, rfl, hp, hM⟩, q⟩ := h
    refine ⟨_, pss_one (ps_ret (pe_fld (pv 0) rfl)), ?_⟩
    exact ⟨_, rfl, p, C, dx, _, _, rfl, hp, Tc.cl, Tc.nR, fldsT_rows _, q r hM⟩
def sp_size (C : Addr) : Sp := fun vs H Q _ => ∃ v M, vs = [v] ∧ Tab C H v M ∧ Q (.int M.length) H
theorem sc_size : FnScope ["self"] ["self"] (defScope (st_T 2)) := ⟨rfl, rfl, rfl, by decide +kernel, rfl, by decide +kernel, by decide +kernel⟩
theorem ok_size {f : Addr} {fd : FuncData} (F : Fun K "size" "Table.size" (st_T 2) f fd) (T : Txt mg) (Tc : Tcl K mg C) : FnOk P w K mg base CX0 1 f fd ["self"] (sp_size C) := by
  refine F.ok sc_size (fun vs H Q E h => ?_) (fun cdv A outer s H vs Q E hr h => ?_)
  · obtain ⟨v, M, rfl, _⟩ := h
    rfl
  · obtain ⟨v, M, rfl, ⟨p, dx, r, rfl, hp, a, vx, rfl, ha, hR⟩, q⟩ := h
    refine ⟨_, pss_one (ps_ret (pe_callB (r := Dn.rLen K) c_len (by rfl) T.len PySem.boot_len (pa_cons (pe_fld (pv 0) rfl) pa_nil))), ?_⟩
    refine ⟨_, rfl, p, C, dx, _, _, rfl, hp, Tc.cl, Tc.nR, fldsT_rows _, a, vx, rfl, .inr (.inl (.inl ha)), ?_⟩
    rw [hR.len]
    exact q
abbrev st_check_table : Stmt := top 36
def sp_check_table (C : Addr) : Sp := fun vs H Q _ => ∃ v M, vs = [v] ∧ Tab C H v M ∧ Q .non H
theorem sc_check_table : FnScope ["table"] ["table"] (defScope st_check_table) := ⟨rfl, rfl, rfl, by decide +kernel, rfl, by decide +kernel, by decide +kernel⟩
theorem ok_check_table {f : Addr} {fd : FuncData} (F : Fun K "check_table" "check_table" st_check_table f fd) (T : Txt mg) (Tc : Tcl K mg C) :
    FnOk P w K mg base CX0 1 f fd ["table"] (sp_check_table C) := by
  refine F.ok sc_check_table (fun vs H Q E h => ?_) (fun cdv A outer s H vs Q E hr h => ?_)
  · obtain ⟨v, M, rfl, _⟩ := h
    rfl
  · obtain ⟨v, M, rfl, ⟨p, dx, r, rfl, hp, hM⟩, q⟩ := h
    refine ⟨_, pss_one (ps_if (pt_not (pt_val (pe_callB (r := rIsi K) call_isi (by rfl) T.isi boot_isinstance (pa_cons (pv 0) (pa_cons (pe_glob (v := .ref C) (by rfl) Tc.mgC rfl) pa_nil))))) pss_dead pss_nil), ?_⟩
    refine ⟨_, rfl, .ref p, .ref C, _, _, _, rfl, .own C, Tc.ty hp, kit_own K C, _, rfl, ?_⟩
    exact iteF q
abbrev st_check_alike : Stmt := top 37
def sp_check_alike (C : Addr) : Sp := fun vs H Q _ => ∃ v o M N, vs = [v, o] ∧ Tab C H v M ∧ Tab C H o N ∧ M.length = N.length ∧ Q .non H
theorem sc_check_alike : FnScope ["one", "other"] ["one", "other"] (defScope st_check_alike) := ⟨rfl, rfl, rfl, by decide +kernel, rfl, by decide +kernel, by decide +kernel⟩
theorem ok_check_alike {f : Addr} {fd : FuncData} (F : Fun K "check_alike" "check_alike" st_check_alike f fd) (Tc : Tcl K mg C) (D1 : Prp P w K mg base C "size" 1 (sp_size C)) : FnOk P w K mg base CX0 3 f fd ["one", "other"] (sp_check_alike C) := by
  refine F.ok sc_check_alike (fun vs H Q E h => ?_) (fun cdv A outer s H vs Q E hr h => ?_)
  · obtain ⟨v, o, M, N, rfl, _⟩ := h
    rfl
  · obtain ⟨v, o, M, N, rfl, hv, ho, e, q⟩ := h
    refine ⟨_, pss_one (ps_if (pt_cmpR op_ne (pe_prp D1 Tc.cl hr (pv 0)) (pe_prp D1 Tc.cl hr (pv 1)) (nomark _)) pss_dead pss_nil), ?_⟩
    obtain ⟨p, dx, r, rfl, hp, hM⟩ := id hv
    obtain ⟨p2, dx2, r2, rfl, hp2, hM2⟩ := id ho
    refine ⟨_, rfl, p, dx, _, rfl, hp, _, M, rfl, hv, ?_⟩
    refine ⟨_, rfl, p2, dx2, _, rfl, hp2, _, N, rfl, ho, ?_⟩
    refine ⟨rfl, _, rfl, ?_⟩
    rw [show (!decide (V.int (M.length : Int) = V.int (N.length : Int))) = false by rw [e]; simp]
    exact iteF q
end
end T81
set_option Elab.async false
set_option linter.all false
set_option maxRecDepth 100000
set_option maxHeartbeats 1000000
namespace T81
open PySem PySem.Spec PyProof.Rows L2 Gd Zn Rp Dn Tb Gn En Zs Ct Op
structure Mkr (P : Program) (w : World) (K : PySem.W.Frag) (mg : Str → Option Value) (base : Heap) (C : Addr) : Prop where
  ex : ∃ (f : Addr) (fd : FuncData), Mk K C f ∧ FnOk P w K mg base CX0 8 f fd ["self", "rows"] (sp_init C) ∧ Binds K fd ["self", "rows"] []
theorem pe_mkr {X : Cx} {C : Addr} {j : Nat} {e : Expr} {t : TA} {p pos : Pos} (D : Mkr X.prog X.w X.K X.mg X.base C) (Tc : Tcl X.K X.mg C) (room : Room j X.A) (ha : PA X [e] t) (hkj : 9 ≤ j := by decide) (hg : Gl X "Table" := by rfl)
    (he : starEach [e] X.env = (false, eval e X.env) :: starEach [] X.env := by rfl) (hpl : (backTo pos (starEach [] X.env)).any (·.1) = false := by rfl) :
    PE X (.Call (.Name "Table" p) [e] [] pos) (tMake C (sp_init C) [] E0 t) := by
  obtain ⟨f, fd, m, G, b⟩ := D.ex
  exact pe_make m G (room.mono hkj) hg Tc.mgC b .nil pass0 ha (by decide +kernel) he hpl
theorem make_tab {C : Addr} {H : Hp} {v : V} {M : List (List Int)} {n : Nat} {Q : VK} {E : XK} (hM : Mx H v M) (hS : Sq n M) (h1 : 1 ≤ n) (h3 : n ≤ 3) (hd : detM n M = 1 ∨ detM n M = -1)
    (k : ∀ c H', Same H H' → Tab C H' (.ref c) M → Q (.ref c) H') : ∀ x dx : Addr, H x = none → H dx = none → dx ≠ x → sp_init C (V.ref x :: ([v] ++ [])) (upd (upd H dx (.own x)) x (.ins C dx [])) (fun u H2 => u = V.non ∧ Q (.ref x) H2) E := by
  intro x dx nx nd ne
  have s : Same H (upd (upd H dx (.own x)) x (.ins C dx [])) := fun c o e => by
    rw [upd_ne (ne_of_none e nx), upd_ne (ne_of_none e nd)]
    exact e
  refine ⟨x, dx, v, mxD M, M, n, rfl, upd_same, .inl (hM.mono (KS.of s)).py, grid_mx M, hS, h1, h3, hd, fun H' kp ht => ⟨rfl, k x H' (fun c o e => ?_) ht⟩⟩
  exact kp c o (ne_of_none e nx) (s c o e)
section
variable {P : Program} {w : World} {K : PySem.W.Frag} {mg : Str → Option Value} {base : Heap} {C : Addr}
def sp_mul (C : Addr) : Sp := fun vs H Q _ => ∃ v o M N, ∃ n : Nat, vs = [v, o] ∧ Tab C H v M ∧ Tab C H o N ∧ 1 ≤ n ∧ n ≤ 3 ∧ Sq n M ∧ Sq n N ∧ Sq n (mulM n M N) ∧ (detM n (mulM n M N) = 1 ∨ detM n (mulM n M N) = -1) ∧
  ∀ c H', Same H H' → Tab C H' (.ref c) (mulM n M N) → Q (.ref c) H'
theorem sc_mul : FnScope ["self", "other"] ["self", "other"] (defScope (st_T 7)) := ⟨rfl, rfl, rfl, by decide +kernel, rfl, by decide +kernel, by decide +kernel⟩
theorem ok_mul {f : Addr} {fd : FuncData} (F : Fun K "__mul__" "Table.__mul__" (st_T 7) f fd) (Tc : Tcl K mg C) (D1 : Def P w K mg base "check_table" 1 ["table"] (sp_check_table C)) (D2 : Def P w K mg base "check_alike" 3 ["one", "other"] (sp_check_alike C))
    (D3 : Def P w K mg base "multiplied" 3 ["rows", "others"] sp_multiplied) (D4 : Mkr P w K mg base C) (D5 : Prp P w K mg base C "rows" 1 (sp_rows C)) : FnOk P w K mg base CX0 10 f fd ["self", "other"] (sp_mul C) := by
  refine F.ok sc_mul (fun vs H Q E h => ?_) (fun cdv A outer s H vs Q E hr h => ?_)
  · obtain ⟨v, o, M, N, n, rfl, _⟩ := h
    rfl
  · obtain ⟨v, o, M, N, n, rfl, hv, ho, h1, h3, sM, sN, sMN, hd, q⟩ := h
    refine ⟨_, pss_cons (ps_expr (pe_def D1 hr (pa_cons (pv 1) pa_nil)))
      (pss_cons (ps_expr (pe_def D2 hr (pa_cons (pv 0) (pa_cons (pv 1) pa_nil))))
      (pss_one (ps_ret (pe_mkr D4 Tc hr (pa_cons (pe_def D3 hr (pa_cons (pe_fld (pv 0) rfl) (pa_cons (pe_prp D5 Tc.cl hr (pv 1)) pa_nil))) pa_nil))))), ?_⟩
    refine ⟨_, rfl, o, N, rfl, ho, ?_⟩
    refine ⟨_, rfl, _, rfl, v, o, M, N, rfl, hv, ho, by rw [sM.len, sN.len], ?_⟩
    obtain ⟨p, dx, r, rfl, hp, hM⟩ := id hv
    obtain ⟨p2, dx2, r2, rfl, hp2, hN⟩ := id ho
    refine ⟨_, rfl, p, C, dx, _, _, rfl, hp, Tc.cl, Tc.nR, fldsT_rows _, ?_⟩
    refine ⟨_, rfl, p2, dx2, _, rfl, hp2, _, N, rfl, ho, fun r3 hN3 => ?_⟩
    refine ⟨r, r3, M, N, n, rfl, hM, hN3, by rw [sM.len]; omega, by rw [sN.len]; omega, by rw [sN.len]; omega, by omega, fun c hc => ⟨by rw [sM.row c hc, sN.len], sM.small c hc⟩, fun c hc => ⟨sN.row c hc, sN.small c hc⟩, fun v' H' s' hMN => ?_⟩
    exact make_tab hMN sMN h1 h3 hd fun c H2 s2 ht => q c H2 (s'.trans s2) ht
end
end T81
set_option Elab.async false
set_option linter.all false
set_option maxRecDepth 100000
set_option maxHeartbeats 1000000
set_option Elab.async false
set_option linter.all false
set_option maxRecDepth 100000
set_option maxHeartbeats 1000000
namespace T81
open PySem PySem.Spec PyProof.Rows L2 Gd Zn Rp Dn Tb Gn En Zs Ct Op
def unitM (n : Nat) : List (List Int) := (List.range n).map fun i => (List.range n).map fun j => if j = i then 1 else 0
theorem unit_sq (n : Nat) : Sq n (unitM n) := by
  refine ⟨by unfold unitM; simp, fun r hr => ?_, fun r hr x hx => ?_⟩
  · unfold unitM at hr
    rw [List.mem_map] at hr
    obtain ⟨i, _, rfl⟩ := hr
    simp
  · unfold unitM at hr
    rw [List.mem_map] at hr
    obtain ⟨i, _, rfl⟩ := hr
    rw [List.mem_map] at hx
    obtain ⟨j, _, rfl⟩ := hx
    show Small (if j = i then 1 else 0)
    by_cases h : j = i
    · rw [if_pos h]; exact Wd.lit ⟨by decide, by decide⟩
    · rw [if_neg h]; exact Wd.lit ⟨by decide, by decide⟩
section
variable {P : Program} {w : World} {K : PySem.W.Frag} {mg : Str → Option Value} {base : Heap} {C : Addr}
def sp_unit_rows : Sp := fun vs H Q _ => ∃ n : Nat, vs = [.int n] ∧ n ≤ 3 ∧ ∀ v' H', Same H H' → Mx H' v' (unitM n) → Q v' H'
def sp_check_size : Sp := fun vs H Q _ => ∃ n : Nat, vs = [.int n] ∧ 1 ≤ n ∧ n ≤ 3 ∧ ∀ H', Same H H' → Q .non H'
def sp_idle (C : Addr) : Sp := fun vs H Q _ => ∃ n : Nat, vs = [.int n] ∧ 1 ≤ n ∧ n ≤ 3 ∧ ∀ c H', Same H H' → Tab C H' (.ref c) (unitM n) → Q (.ref c) H'
theorem det_unit (n : Nat) (h : n ≤ 3) : detM n (unitM n) = 1 := by
  have : n = 0 ∨ n = 1 ∨ n = 2 ∨ n = 3 := by omega
  rcases this with rfl | rfl | rfl | rfl <;> simp [detM, cofM, unitM, outM, outW, cutAt, List.range_succ, List.getD]
abbrev st_check_size : Stmt := top 24
theorem sc_check_size : FnScope ["size"] ["size"] (defScope st_check_size) := ⟨rfl, rfl, rfl, by decide +kernel, rfl, by decide +kernel, by decide +kernel⟩
theorem ok_check_size {f : Addr} {fd : FuncData} (F : Fun K "check_size" "check_size" st_check_size f fd) (D1 : Def P w K mg base "is_integer" 1 ["value"] sp_is_integer) : FnOk P w K mg base CX0 2 f fd ["size"] sp_check_size := by
  refine F.ok sc_check_size (fun vs H Q E h => ?_) (fun cdv A outer s H vs Q E hr h => ?_)
  · obtain ⟨n, rfl, _⟩ := h
    rfl
  · obtain ⟨n, rfl, h1, h3, q⟩ := h
    refine ⟨_, pss_one (ps_if (PW.pt (pw_or (pt_not (pt_val (pe_def D1 hr (pa_cons (pv 0) pa_nil)))) (pw_or1 (pt_not (pt_chain op_le op_le pe_int (pv 0) pe_int))))) pss_dead pss_nil), ?_⟩
    refine ⟨_, rfl, _, .int n, rfl, .inl (.int n), fun H1 s1 => ⟨_, rfl, ?_⟩⟩
    refine iteF ?_
    refine ⟨_, rfl, _, _, rfl, rfl, _, rfl, ?_⟩
    rw [decide_eq_true (show (1 : Int) ≤ n by omega)]
    refine iteT ⟨_, _, rfl, rfl, _, rfl, ?_⟩
    rw [decide_eq_true (show (n : Int) ≤ 3 by omega)]
    exact iteF (q H1 s1)
abbrev st_unit_rows : Stmt := top 26
abbrev N_unit : List Str := ["many", "at", "place"]
theorem sc_unit : FnScope N_unit ["many"] (defScope st_unit_rows) := ⟨rfl, rfl, rfl, by decide +kernel, rfl, by decide +kernel, by decide +kernel⟩
theorem ok_unit_rows {f : Addr} {fd : FuncData} (F : Fun K "unit_rows" "unit_rows" st_unit_rows f fd) (T : Txt mg) : FnOk P w K mg base CX0 1 f fd ["many"] sp_unit_rows := by
  refine F.ok sc_unit (fun vs H Q E h => ?_) (fun cdv A outer s H vs Q E hr h => ?_)
  · obtain ⟨n, rfl, _⟩ := h
    rfl
  · obtain ⟨n, rfl, h3, q⟩ := h
    refine ⟨_, pss_one (ps_ret (pe_callTy (r := rTup K) c_tup (by rfl) T.tuple PyProof.Rows.boot_tuple (pa_cons (pe_lc (own := [("at", 1)]) (g := gName 1) (tt := tYes) rfl sc_unit.nd (pi_range1 (by rfl) T.range (pa_cons (pv 0) pa_nil))
        (blkOk_by (N := N_unit) (sc := defScope st_unit_rows) (by decide +kernel))
        (fun _ _ _ _ _ => pg_name (i := 1) sc_unit.nd rfl (Or.inr rfl) (Or.inl rfl)) (fun _ _ _ _ _ => pts_nil)
        (fun s' H' C' cl' fp' => by
          refine pe_callTy (r := rTup K) c_tup (by rfl) T.tuple PyProof.Rows.boot_tuple (pa_cons (pe_lc (own := [("place", 2)]) (wi := iRng1 (tCons (tVar 0) tNil)) (g := gName 2) (tt := tYes) (te := tIf (tTest (tOp rEq (tVar 2) (tVar 1))) (tC (.int 1)) (tC (.int 0))) rfl sc_unit.nd ?p1 ?p2 ?p3 ?p4 ?p5) pa_nil)
          case p1 => exact pi_range1 (by rfl) T.range (pa_cons (pv 0) pa_nil)
          case p2 => exact blkOk_by (N := N_unit) (by rfl)
          case p3 => exact (fun _ _ _ _ _ => pg_name (i := 2) sc_unit.nd rfl (Or.inl rfl) (Or.inr rfl))
          case p4 => exact (fun _ _ _ _ _ => pts_nil)
          case p5 => exact (fun _ _ _ _ _ => pe_ifExp (pt_cmpR op_eq (pv 2) (pv 1) (nomark _)) pe_int pe_int))) pa_nil))), ?_⟩
    refine r_ret (r_cb (r_cons ?_))
    refine tlc_of (Itr 0 n) (H1 := H) (fun R hR => ⟨_, rfl, (n : Int), rfl, by omega, by omega, hR⟩) ?_
    refine lc_ks (p := none) n (fun i v H => ∃ r, (unitM n)[i]? = some r ∧ RowV H v r) (fun i v H H' k h => ?_) has_none (by omega) (fun i H2 hi s2 => hi) (fun H2 s2 => Nat.le_refl _) (fun i x H2 H3 C' hi s2 _ hy hC => ?_) fun Da H2 rs nD s2 hD hrl hE => ?_
    · obtain ⟨r, e, h⟩ := h
      exact ⟨r, e, h.mono k⟩
    · obtain ⟨rfl, rfl⟩ := hy
      have eM : (unitM n)[i]? = some ((List.range n).map fun j => if j = i then 1 else 0) := by unfold unitM; rw [List.getElem?_map, List.getElem?_range hi]; rfl
      refine ⟨rfl, ?_⟩
      refine r_cb (r_cons ?_)
      refine tlc_of (Itr 0 n) (H1 := H3) (fun R hR => ⟨_, rfl, (n : Int), rfl, by omega, by omega, hR⟩) ?_
      refine lc_el (p := none) n (fun j v => v = .int (if j = i then 1 else 0)) has_none (by omega) (fun j H4 hj s4 => hj) (fun H4 s4 => Nat.le_refl _) (fun j x H4 H5 C2 hj s4 _ hy2 hC2 => ?_) fun Db H4 ys nDb s4 hDb hyl hyE => ?_
      · obtain ⟨rfl, rfl⟩ := hy2
        refine ⟨rfl, ?_⟩
        refine ⟨_, rfl, _, rfl, rfl, _, rfl, ?_⟩
        by_cases z : j = i
        · rw [decide_eq_true (show V.int (0 + (j : Int)) = V.int (0 + (i : Int)) by rw [z])]
          refine iteT ?_
          exact hC2 _ _ (RX.refl _) (by rw [if_pos z])
        · rw [decide_eq_false (show ¬ V.int (0 + (j : Int)) = V.int (0 + (i : Int)) from fun e => z (by have := V.int.inj e; omega))]
          refine iteF ?_
          exact hC2 _ _ (RX.refl _) (by rw [if_neg z])
      · have ey : ys = (List.range n).map fun j => V.int (if j = i then 1 else 0) := map_of_get (n := 0) _ (by rw [hyl, List.length_range]) fun j v e => by
          have hj : j < n := by rw [← hyl]; exact (List.getElem?_eq_some_iff.mp e).1
          exact ⟨j, List.getElem?_range hj, hyE j v e⟩
        refine ⟨Db, ys, rfl, .inl ⟨.inl (.inl hDb), fun l nl => ?_⟩⟩
        refine hC _ _ (RX.of (s4.same.trans (same_new nl))) ⟨_, eM, l, rfl, ?_⟩
        rw [upd_same, ey, List.map_map]
        rfl
    · refine ⟨Da, rs, rfl, .inl ⟨.inl (.inl hD), fun l nl => ?_⟩⟩
      have k : Same H2 (upd H2 l (.tup rs)) := same_new nl
      refine q _ _ (s2.same.trans k) ⟨l, rs, rfl, upd_same, ?_⟩
      exact (rows_of (by rw [hrl, (unit_sq n).len]) hE).mono (KS.of k)
abbrev st_idle : Stmt := top 39
theorem sc_idle : FnScope ["size"] ["size"] (defScope st_idle) := ⟨rfl, rfl, rfl, by decide +kernel, rfl, by decide +kernel, by decide +kernel⟩
theorem ok_idle {f : Addr} {fd : FuncData} (F : Fun K "idle" "idle" st_idle f fd) (Tc : Tcl K mg C) (D1 : Def P w K mg base "check_size" 2 ["size"] sp_check_size) (D2 : Def P w K mg base "unit_rows" 1 ["many"] sp_unit_rows) (D4 : Mkr P w K mg base C) : FnOk P w K mg base CX0 10 f fd ["size"] (sp_idle C) := by
  refine F.ok sc_idle (fun vs H Q E h => ?_) (fun cdv A outer s H vs Q E hr h => ?_)
  · obtain ⟨n, rfl, _⟩ := h
    rfl
  · obtain ⟨n, rfl, h1, h3, q⟩ := h
    refine ⟨_, pss_cons (ps_expr (pe_def D1 hr (pa_cons (pv 0) pa_nil)))
      (pss_one (ps_ret (pe_mkr D4 Tc hr (pa_cons (pe_def D2 hr (pa_cons (pv 0) pa_nil)) pa_nil)))), ?_⟩
    refine ⟨_, rfl, n, rfl, h1, h3, fun H1 s1 => ?_⟩
    refine ⟨_, rfl, n, rfl, h3, fun v' H2 s2 hM => ?_⟩
    exact make_tab hM (unit_sq n) h1 h3 (.inl (det_unit n h3)) fun c H3 s3 ht => q c H3 (s1.trans (s2.trans s3)) ht
end
end T81
set_option Elab.async false
set_option linter.all false
set_option maxRecDepth 100000
set_option maxHeartbeats 1000000
namespace T81
open PySem PySem.Spec PyProof.Rows L2 Gd Zn Rp Dn Tb Gn En Zs Ct Op
theorem eqv_row : ∀ (r t : List Int), PyData.eqvAll (r.map PyData.int) (t.map PyData.int) = decide (r = t)
  | [], [] => by simp [PyData.eqvAll]
  | [], _ :: _ => by simp [PyData.eqvAll]
  | _ :: _, [] => by simp [PyData.eqvAll]
  | x :: r, y :: t => by
    rw [List.map_cons, List.map_cons, PyData.eqvAll, eqv_row r t, PyData.eqv]
    by_cases h : x = y <;> by_cases h2 : r = t <;> simp [h, h2]
theorem eqv_rows : ∀ (M N : List (List Int)), PyData.eqvAll (M.map fun r => .tuple (r.map PyData.int)) (N.map fun r => .tuple (r.map PyData.int)) = decide (M = N)
  | [], [] => by simp [PyData.eqvAll]
  | [], _ :: _ => by simp [PyData.eqvAll]
  | _ :: _, [] => by simp [PyData.eqvAll]
  | x :: r, y :: t => by
    rw [List.map_cons, List.map_cons, PyData.eqvAll, eqv_rows r t, PyData.eqv, eqv_row]
    by_cases h : x = y <;> by_cases h2 : r = t <;> simp [h, h2]
theorem eqv_mx (M N : List (List Int)) : (mxD M).eqv (mxD N) = decide (M = N) := by
  unfold mxD
  rw [PyData.eqv, eqv_rows]
theorem dp_ints {K : PySem.W.Frag} {H : Hp} : ∀ r : List Int, DpAll K H (r.map V.int) (r.map PyData.int)
  | [] => .nil
  | x :: r => .cons (.int x) (dp_ints r)
theorem dp_rows {K : PySem.W.Frag} {H : Hp} {vs : List V} {M : List (List Int)} (h : RowsV H vs M) : DpAll K H vs (M.map fun r => .tuple (r.map PyData.int)) := by
  induction h with
  | nil => exact .nil
  | cons p _ ih =>
    obtain ⟨b, rfl, hb⟩ := p
    exact .cons (.tup (.inl (.inl hb)) (dp_ints _)) ih
theorem dp_mx {K : PySem.W.Frag} {H : Hp} {v : V} {M : List (List Int)} (h : Mx H v M) : Dp K H v (mxD M) := by
  obtain ⟨a, vs, rfl, ha, hR⟩ := h
  exact .tup (.inl (.inl ha)) (dp_rows hR)
theorem depth_row (r : List Int) : PyData.depthAll (r.map PyData.int) = 0 := by
  induction r with
  | nil => simp [PyData.depthAll]
  | cons x r ih => rw [List.map_cons, PyData.depthAll, ih, PyData.depth]; rfl
theorem depth_rows (M : List (List Int)) : PyData.depthAll (M.map fun r => .tuple (r.map PyData.int)) ≤ 1 := by
  induction M with
  | nil => simp [PyData.depthAll]
  | cons x r ih =>
    rw [List.map_cons, PyData.depthAll, PyData.depth, depth_row]
    omega
theorem lay_row (r : List Int) : PyData.canLayAll0 (r.map PyData.int) = true := by
  induction r with
  | nil => simp [PyData.canLayAll0]
  | cons x r ih => rw [List.map_cons, PyData.canLayAll0, ih, PyData.canLay0]; rfl
theorem lay_rows (M : List (List Int)) : PyData.canLayAll0 (M.map fun r => .tuple (r.map PyData.int)) = true := by
  induction M with
  | nil => simp [PyData.canLayAll0]
  | cons x r ih => rw [List.map_cons, PyData.canLayAll0, ih, PyData.canLay0, lay_row]; rfl
theorem shaped_mx (M : List (List Int)) : SeqAt.shaped (mxD M) = true := by
  unfold SeqAt.shaped mxD
  rw [PyData.canLay0, lay_rows, PyData.depth]
  have := depth_rows M
  simp
  omega
structure Mtd (P : Program) (w : World) (K : PySem.W.Frag) (mg : Str → Option Value) (base : Heap) (C : Addr) (nm : Str) (k : Nat) (ps : List Str) (sp : Sp) : Prop where
  ex : ∃ (f : Addr) (fd : FuncData), Meth K C nm f ∧ FnOk P w K mg base CX0 k f fd ps sp ∧ Binds K fd ps []
section
variable {P : Program} {w : World} {K : PySem.W.Frag} {mg : Str → Option Value} {base : Heap} {C : Addr}
theorem Tab.same {H H' : Hp} {v : V} {M : List (List Int)} (s : Same H H') (h : Tab C H v M) : Tab C H' v M := T81.Tab.mono (KS.of s) h
end
end T81
set_option Elab.async false
set_option linter.all false
set_option maxRecDepth 100000
set_option maxHeartbeats 1000000
namespace T81
open PySem PySem.Spec PyProof.Rows L2 Gd Zn Rp Dn Tb Gn En Zs Ct Op
theorem atI_of {α : Type} {xs : List α} {r : Int} {x : α} (h : 0 ≤ r) (e : xs[r.toNat]? = some x) : atI xs r = some x := by
  have := atI_nat e
  rw [show ((r.toNat : Nat) : Int) = r by omega] at this
  exact this
theorem set_pot {p : Addr} {H H1 : Hp} {a b : Int} (s : Same H H1) (ha : 0 ≤ a) (hb : 0 ≤ b) (hb2 : b < 2 ^ 32) : RX (some p) H (upd H1 p (.lst [.int a, .int b])) := by
  refine ⟨fun c o n e => ?_, fun q e _ => ?_⟩
  · have nc : c ≠ p := fun z => n (by rw [z])
    rw [upd_ne nc]
    exact s _ _ e
  · cases e
    exact ⟨a, b, upd_same, ha, hb, hb2⟩
section
variable {P : Program} {w : World} {K : PySem.W.Frag} {mg : Str → Option Value} {base : Heap} {C : Addr}
abbrev st_draw : Stmt := top 62
def sp_draw : Sp := fun vs H Q _ => ∃ (p : Addr) (m : Int), vs = [.ref p, .int m] ∧ PotOk H p ∧ 0 < m ∧ m < 1000 ∧ ∀ (r : Int) H', 0 ≤ r → r < m → RX (some p) H H' → Q (.int r) H'
theorem sc_draw : FnScope ["_law_pot_here", "_law_size", "_law_digit"] ["_law_pot_here", "_law_size"] (defScope st_draw) := ⟨rfl, rfl, rfl, by decide +kernel, rfl, by decide +kernel, by decide +kernel⟩
theorem ok_draw {f : Addr} {fd : FuncData} (F : Fun K "_law_draw" "_law_draw" st_draw f fd) (T : Txt mg) : FnOk P w K mg base CX0 1 f fd ["_law_pot_here", "_law_size"] sp_draw := by
  refine F.ok sc_draw (fun vs H Q E h => ?_) (fun cdv A outer s H vs Q E hr h => ?_)
  · obtain ⟨p, m, rfl, _⟩ := h
    rfl
  · obtain ⟨p, m, rfl, ⟨a, b, hp, ha, hb, hb2⟩, m0, m1, q⟩ := h
    refine ⟨_, pss_cons (ps_if (pt_cmpR op_gt (pe_ix ix_list (pv 0) pe_int (fun _ _ => rfl)) pe_int (nomark _))
        (pss_cons (ps_asg (pe_callB call_divmod (by rfl) T.divmod boot_divmod (pa_cons (pe_ix ix_list (pv 0) pe_int (fun _ _ => rfl)) (pa_cons (pv 1) pa_nil)))
          (pg_tup rfl (pgs_cons (pg_sub (pv 0) pe_int set_list) (pgs_cons (pg_name (i := 2) sc_draw.nd rfl (Or.inl rfl)) pgs_nil)))) (pss_one (ps_ret (pv 2)))) pss_nil)
      (pss_cons (ps_asg (pe_op op_mod (pe_callTy call_int1 (by rfl) T.int PyProof.Rows.boot_int (pa_cons (pe_op op_add (pe_op op_mul (pe_ix ix_list (pv 0) pe_int (fun _ _ => rfl)) pe_int) pe_int) pa_nil)) pe_int) (pg_sub (pv 0) pe_int set_list))
      (pss_one (ps_ret (pe_op op_mod (pe_callTy call_int1 (by rfl) T.int PyProof.Rows.boot_int (pa_cons (pe_op op_fdiv (pe_op op_mod (pe_callTy call_int1 (by rfl) T.int PyProof.Rows.boot_int (pa_cons (pe_op op_mul (pe_ix ix_list (pv 0) pe_int (fun _ _ => rfl)) (pe_ix ix_list (pv 0) pe_int (fun _ _ => rfl))) pa_nil)) pe_int) pe_int) pa_nil)) (pv 1))))), ?_⟩
    have i0 : ∀ x y : V, atI [x, y] 0 = some x := fun x y => atI_nat (j := 0) rfl
    have i1 : ∀ x y : V, atI [x, y] 1 = some y := fun x y => atI_nat (j := 1) rfl
    refine ⟨_, rfl, p, _, (0 : Int), _, rfl, rfl, .inl (.inl hp), i0 _ _, _, _, rfl, rfl, _, rfl, ?_⟩
    by_cases c : 0 < a
    · rw [decide_eq_true c]
      refine iteT ?_
      refine ⟨_, rfl, p, _, (0 : Int), _, rfl, rfl, .inl (.inl hp), i0 _ _, _, rfl, _, _, rfl, ⟨m0, by omega⟩, fun t nt => ?_⟩
      have ne : p ≠ t := ne_of_none hp nt
      refine ⟨t, _, rfl, .inl (.inl upd_same), rfl, _, _, rfl, _, rfl, p, _, 0, 0, rfl, rfl, (by rw [upd_ne ne]; exact hp), rfl, _, _, rfl, rfl, ?_⟩
      refine ⟨_, rfl, ?_⟩
      refine q _ _ (Int.emod_nonneg _ (by omega)) (Int.emod_lt_of_pos _ m0) ?_
      exact set_pot (same_new nt) (Int.ediv_nonneg ha (by omega)) hb hb2
    · rw [decide_eq_false c]
      refine iteF ?_
      have hb' : (b * 39749 + 30307) % 2147483543 < 2147483543 := Int.emod_lt_of_pos _ (by decide)
      have hb0 : 0 ≤ (b * 39749 + 30307) % 2147483543 := Int.emod_nonneg _ (by decide)
      refine ⟨_, rfl, p, _, (1 : Int), _, rfl, rfl, .inl (.inl hp), i1 _ _, _, _, rfl, rfl, .inr ⟨by decide, by decide⟩, _, _, rfl, rfl, .inl ⟨_, rfl, _, _, rfl, rfl, (show (0 : Int) < 2147483543 by decide), _, rfl, p, _, 1, 1, rfl, rfl, hp, rfl, ?_⟩⟩
      have h2 : upd H p (.lst [V.int a, V.int ((b * 39749 + 30307) % 2147483543)]) p = some (.lst [V.int a, V.int ((b * 39749 + 30307) % 2147483543)]) := upd_same
      refine ⟨_, rfl, p, _, (1 : Int), _, rfl, rfl, .inl (.inl h2), i1 _ _, _, rfl, p, _, (1 : Int), _, rfl, rfl, .inl (.inl h2), i1 _ _, _, _, rfl, rfl, .inl ⟨by omega, by omega⟩, .inl ⟨_, rfl, _, _, rfl, rfl, (show (0 : Int) < 2147483477 by decide), _, _, rfl, rfl, ⟨by decide, by decide⟩, .inl ⟨_, rfl, _, rfl, _, _, rfl, rfl, m0, ?_⟩⟩⟩
      exact q _ _ (Int.emod_nonneg _ (by omega)) (Int.emod_lt_of_pos _ m0) (set_pot (Same.refl H) ha hb0 (by omega))
abbrev st_pick : Stmt := top 63
def sp_pick : Sp := fun vs H Q _ => ∃ (p a : Addr) (xs : List V), vs = [.ref p, .ref a] ∧ PotOk H p ∧ H a = some (.lst xs) ∧ a ≠ p ∧ 0 < xs.length ∧ xs.length < 1000 ∧ ∀ (i : Nat) (x : V) H', xs[i]? = some x → RX (some p) H H' → Q x H'
theorem sc_pick : FnScope ["_law_pot_here", "_law_some"] ["_law_pot_here", "_law_some"] (defScope st_pick) := ⟨rfl, rfl, rfl, by decide +kernel, rfl, by decide +kernel, by decide +kernel⟩
theorem ok_pick {f : Addr} {fd : FuncData} (F : Fun K "_law_pick" "_law_pick" st_pick f fd) (T : Txt mg) (D1 : Def P w K mg base "_law_draw" 1 ["_law_pot_here", "_law_size"] sp_draw) : FnOk P w K mg base CX0 2 f fd ["_law_pot_here", "_law_some"] sp_pick := by
  refine F.ok sc_pick (fun vs H Q E h => ?_) (fun cdv A outer s H vs Q E hr h => ?_)
  · obtain ⟨p, a, xs, rfl, _⟩ := h
    rfl
  · obtain ⟨p, a, xs, rfl, hp, ha, nap, l0, l1, q⟩ := h
    refine ⟨_, pss_one (ps_ret (pe_ix ix_list (pv 1) (pe_def D1 hr (pa_cons (pv 0) (pa_cons (pe_callB (r := Dn.rLen K) c_len (by rfl) T.len PySem.boot_len (pa_cons (pv 1) pa_nil)) pa_nil))) (fun _ _ => rfl))), ?_⟩
    refine ⟨_, rfl, _, rfl, _, rfl, a, xs, rfl, .inl (.inl (.inl ha)), p, _, rfl, hp, by omega, by omega, fun r H' r0 r1 s => ?_⟩
    have hk : H' a = some (.lst xs) := s.keep a _ (by intro z; cases z; exact nap rfl) ha
    have hr' : r.toNat < xs.length := by omega
    have er : r = (r.toNat : Int) := by omega
    have e1 : xs[r.toNat]? = some xs[r.toNat] := List.getElem?_eq_getElem hr'
    refine ⟨a, xs, r, _, rfl, rfl, .inl (.inl hk), atI_of r0 e1, q _ _ _ e1 s⟩
end
end T81
set_option Elab.async false
set_option linter.all false
set_option maxRecDepth 100000
set_option maxHeartbeats 1000000
namespace T81
open PySem PySem.Spec PyProof.Rows L2 Gd Zn Rp Dn Tb Gn En Zs Ct Op
section
variable {P : Program} {w : World} {K : PySem.W.Frag} {mg : Str → Option Value} {base : Heap} {C : Addr}
abbrev st_pot : Stmt := top 61
def sp_pot (K : PySem.W.Frag) : Sp := fun vs H Q _ => ∃ (a : Addr) (ns : List Int) (k : Int), vs = [.ref a, .int k] ∧ SqL K H a (ns.map V.int) ∧ ns.length ≤ 63 ∧ 0 ≤ k ∧ k ≤ 2 ∧ ∀ p H', H p = none → Same H H' → PotOk H' p → Q (.ref p) H'
theorem sc_pot : FnScope ["_law_script", "_law_k", "_law_cell"] ["_law_script", "_law_k"] (defScope st_pot) := ⟨rfl, rfl, rfl, by decide +kernel, rfl, by decide +kernel, by decide +kernel⟩
theorem ok_pot {f : Addr} {fd : FuncData} (F : Fun K "_law_pot" "_law_pot" st_pot f fd) (T : Txt mg) : FnOk P w K mg base CX0 1 f fd ["_law_script", "_law_k"] (sp_pot K) := by
  refine F.ok sc_pot (fun vs H Q E h => ?_) (fun cdv A outer s H vs Q E hr h => ?_)
  · obtain ⟨a, ns, k, rfl, _⟩ := h
    rfl
  · obtain ⟨a, ns, k, rfl, hS, hl, k0, k1, q⟩ := h
    refine ⟨_, pss_cons (ps_set (i := 2) sc_pot.nd rfl (Or.inl rfl) (pe_ifExp (pt_cmpR op_lt (pv 1) (pe_callB (r := Dn.rLen K) c_len (by rfl) T.len PySem.boot_len (pa_cons (pv 0) pa_nil)) (nomark _))
        (pe_callB call_abs (by rfl) T.abs boot_abs (pa_cons (pe_ix ix_list (pv 0) (pv 1) (fun _ _ => rfl)) pa_nil)) (pe_op op_add (pe_op op_mul pe_int (pv 1)) pe_int)))
      (pss_one (ps_ret (pe_lst (pa_cons (pe_callB (call_max2 rfl) (by rfl) T.max boot_max (pa_cons pe_int (pa_cons (pe_op op_sub (pv 2) (pe_op op_pow pe_int pe_int)) pa_nil)))
        (pa_cons (pe_op op_add (pe_op op_mod (pe_callTy call_int1 (by rfl) T.int PyProof.Rows.boot_int (pa_cons (pe_op op_add (pe_op op_add (pe_op op_mul (pe_op op_mod (pe_callTy call_int1 (by rfl) T.int PyProof.Rows.boot_int (pa_cons (pv 2) pa_nil)) pe_int) pe_int) (pe_op op_mul pe_int (pv 1))) pe_int) pa_nil)) pe_int) pe_int) pa_nil))))), ?_⟩
    have fin : ∀ (c : Int) (H1 : Hp), Same H H1 → ∀ p, H1 p = none → Q (.ref p) (upd H1 p (.lst [.int (if c - 10 ^ 18 > 0 then c - 10 ^ 18 else 0), .int ((c % 2147483477 * 40459 + 6271 * k + 179) % 2147483543 + 1)])) := fun c H1 s1 p np => by
      refine q p _ (Same.free s1 np) (s1.trans (same_new np)) ⟨_, _, upd_same, ?_, ?_, ?_⟩
      · split <;> omega
      · have := Int.emod_nonneg (c % 2147483477 * 40459 + 6271 * k + 179) (show (2147483543 : Int) ≠ 0 by decide)
        omega
      · have := Int.emod_lt_of_pos (c % 2147483477 * 40459 + 6271 * k + 179) (show (0 : Int) < 2147483543 by decide)
        omega
    have m1 : ∀ c : Int, 0 ≤ c % 2147483477 := fun c => Int.emod_nonneg c (show (2147483477 : Int) ≠ 0 by decide)
    have m2 : ∀ c : Int, c % 2147483477 < 2147483477 := fun c => Int.emod_lt_of_pos c (show (0 : Int) < 2147483477 by decide)
    refine ⟨_, rfl, _, rfl, a, _, rfl, .inl hS, _, _, rfl, rfl, _, rfl, ?_⟩
    rw [List.length_map]
    by_cases c : k < (ns.length : Int)
    · rw [decide_eq_true c]
      refine iteT ?_
      have hk : k.toNat < ns.length := by omega
      have e1 : (ns.map V.int)[k.toNat]? = some (.int ns[k.toNat]) := by simp [hk]
      refine ⟨_, rfl, _, rfl, a, _, _, _, rfl, rfl, hS, atI_of k0 e1, _, rfl, ?_⟩
      refine ⟨_, rfl, _, _, rfl, rfl, ⟨by decide, by decide, by decide⟩, _, _, rfl, rfl, _, _, rfl, ?_⟩
      refine ⟨_, rfl, .inl ⟨_, rfl, _, _, rfl, rfl, (show (0 : Int) < 2147483477 by decide), _, _, rfl, rfl, .inr ⟨by decide, by decide⟩, _, rfl, _, _, rfl, rfl, .inl ⟨by decide, by decide⟩, _, _, rfl, rfl, _, _, rfl, rfl, .inl ⟨_, rfl, _, _, rfl, rfl, (show (0 : Int) < 2147483543 by decide), _, _, rfl, rfl, ?_⟩⟩⟩
      exact ⟨(by show 2 ≤ sizeLine; decide), fun p np => fin _ H (Same.refl H) p np⟩
    · rw [decide_eq_false c]
      refine iteF ?_
      refine ⟨_, rfl, _, _, rfl, rfl, .inl ⟨by decide, by decide⟩, _, _, rfl, rfl, ?_⟩
      refine ⟨_, rfl, _, _, rfl, rfl, ⟨by decide, by decide, by decide⟩, _, _, rfl, rfl, _, _, rfl, ?_⟩
      refine ⟨_, rfl, .inl ⟨_, rfl, _, _, rfl, rfl, (show (0 : Int) < 2147483477 by decide), _, _, rfl, rfl, .inr ⟨by decide, by decide⟩, _, rfl, _, _, rfl, rfl, .inl ⟨by decide, by decide⟩, _, _, rfl, rfl, _, _, rfl, rfl, .inl ⟨_, rfl, _, _, rfl, rfl, (show (0 : Int) < 2147483543 by decide), _, _, rfl, rfl, ?_⟩⟩⟩
      exact ⟨(by show 2 ≤ sizeLine; decide), fun p np => fin _ H (Same.refl H) p np⟩
end
end T81
set_option Elab.async false
set_option linter.all false
set_option maxRecDepth 100000
set_option maxHeartbeats 1000000
namespace T81
open PySem PySem.Spec PyProof.Rows L2 Gd Zn Rp Dn Tb Gn En Zs Ct Op
abbrev rInt1 : List V → Hp → VK → Prop := fun xs H Q => (∃ i, xs = [V.int i] ∧ Q (V.int i) H) ∨ ∃ k, xs = [V.bl k] ∧ Q (V.int (if k = true then 1 else 0)) H
section
variable {P : Program} {w : World} {K : PySem.W.Frag} {mg : Str → Option Value} {base : Heap} {C : Addr}
abbrev st_lidle : Stmt := top 66
abbrev N_li : List Str := ["_law_size", "_law_i", "_law_j"]
theorem sc_li : FnScope N_li ["_law_size"] (defScope st_lidle) := ⟨rfl, rfl, rfl, by decide +kernel, rfl, by decide +kernel, by decide +kernel⟩
theorem ok_lidle {f : Addr} {fd : FuncData} (F : Fun K "_law_idle" "_law_idle" st_lidle f fd) (T : Txt mg) : FnOk P w K mg base CX0 1 f fd ["_law_size"] sp_unit_rows := by
  refine F.ok sc_li (fun vs H Q E h => ?_) (fun cdv A outer s H vs Q E hr h => ?_)
  · obtain ⟨n, rfl, _⟩ := h
    rfl
  · obtain ⟨n, rfl, h3, q⟩ := h
    refine ⟨_, pss_one (ps_ret (pe_callTy (r := rTup K) c_tup (by rfl) T.tuple PyProof.Rows.boot_tuple (pa_cons (pe_lc (own := [("_law_i", 1)]) (g := gName 1) (tt := tYes) rfl sc_li.nd (pi_range1 (by rfl) T.range (pa_cons (pv 0) pa_nil))
        (blkOk_by (N := N_li) (sc := defScope st_lidle) (by decide +kernel))
        (fun _ _ _ _ _ => pg_name (i := 1) sc_li.nd rfl (Or.inr rfl) (Or.inl rfl)) (fun _ _ _ _ _ => pts_nil)
        (fun s' H' C' cl' fp' => by
          refine pe_callTy (r := rTup K) c_tup (by rfl) T.tuple PyProof.Rows.boot_tuple (pa_cons (pe_lc (own := [("_law_j", 2)]) (wi := iRng1 (tCons (tVar 0) tNil)) (g := gName 2) (tt := tYes) (te := tCB rInt1 (tCons (tOp rEq (tVar 1) (tVar 2)) tNil)) rfl sc_li.nd ?p1 ?p2 ?p3 ?p4 ?p5) pa_nil)
          case p1 => exact pi_range1 (by rfl) T.range (pa_cons (pv 0) pa_nil)
          case p2 => exact blkOk_by (N := N_li) (by rfl)
          case p3 => exact (fun _ _ _ _ _ => pg_name (i := 2) sc_li.nd rfl (Or.inl rfl) (Or.inr rfl))
          case p4 => exact (fun _ _ _ _ _ => pts_nil)
          case p5 => exact (fun _ _ _ _ _ => pe_callTy (r := rInt1) call_int1 (by rfl) T.int PyProof.Rows.boot_int (pa_cons (pe_cmpR op_eq (pv 1) (pv 2) (nomark _)) pa_nil)))) pa_nil))), ?_⟩
    refine r_ret (r_cb (r_cons ?_))
    refine tlc_of (Itr 0 n) (H1 := H) (fun R hR => ⟨_, rfl, (n : Int), rfl, by omega, by omega, hR⟩) ?_
    refine lc_ks (p := none) n (fun i v H => ∃ r, (unitM n)[i]? = some r ∧ RowV H v r) (fun i v H H' k h => ?_) has_none (by omega) (fun i H2 hi s2 => hi) (fun H2 s2 => Nat.le_refl _) (fun i x H2 H3 C' hi s2 _ hy hC => ?_) fun Da H2 rs nD s2 hD hrl hE => ?_
    · obtain ⟨r, e, h⟩ := h
      exact ⟨r, e, h.mono k⟩
    · obtain ⟨rfl, rfl⟩ := hy
      have eM : (unitM n)[i]? = some ((List.range n).map fun j => if j = i then 1 else 0) := by unfold unitM; rw [List.getElem?_map, List.getElem?_range hi]; rfl
      refine ⟨rfl, ?_⟩
      refine r_cb (r_cons ?_)
      refine tlc_of (Itr 0 n) (H1 := H3) (fun R hR => ⟨_, rfl, (n : Int), rfl, by omega, by omega, hR⟩) ?_
      refine lc_el (p := none) n (fun j v => v = .int (if j = i then 1 else 0)) has_none (by omega) (fun j H4 hj s4 => hj) (fun H4 s4 => Nat.le_refl _) (fun j x H4 H5 C2 hj s4 _ hy2 hC2 => ?_) fun Db H4 ys nDb s4 hDb hyl hyE => ?_
      · obtain ⟨rfl, rfl⟩ := hy2
        refine ⟨rfl, ?_⟩
        refine ⟨_, rfl, _, rfl, rfl, .inr ⟨_, rfl, ?_⟩⟩
        refine hC2 _ _ (RX.refl _) ?_
        by_cases z : j = i
        · rw [z]; simp
        · rw [if_neg z, decide_eq_false (show ¬ V.int (0 + (i : Int)) = V.int (0 + (j : Int)) from fun e => z (by have := V.int.inj e; omega))]; rfl
      · have ey : ys = (List.range n).map fun j => V.int (if j = i then 1 else 0) := map_of_get (n := 0) _ (by rw [hyl, List.length_range]) fun j v e => by
          have hj : j < n := by rw [← hyl]; exact (List.getElem?_eq_some_iff.mp e).1
          exact ⟨j, List.getElem?_range hj, hyE j v e⟩
        refine ⟨Db, ys, rfl, .inl ⟨.inl (.inl hDb), fun l nl => ?_⟩⟩
        refine hC _ _ (RX.of (s4.same.trans (same_new nl))) ⟨_, eM, l, rfl, ?_⟩
        rw [upd_same, ey, List.map_map]
        rfl
    · refine ⟨Da, rs, rfl, .inl ⟨.inl (.inl hD), fun l nl => ?_⟩⟩
      have k : Same H2 (upd H2 l (.tup rs)) := same_new nl
      refine q _ _ (s2.same.trans k) ⟨l, rs, rfl, upd_same, ?_⟩
      exact (rows_of (by rw [hrl, (unit_sq n).len]) hE).mono (KS.of k)
end
end T81
set_option Elab.async false
set_option linter.all false
set_option maxRecDepth 100000
set_option maxHeartbeats 1000000
namespace Tb
open PySem PySem.Spec PyProof.Rows L2 Gd Zn Rp Dn
/-- a comprehension whose elements are new objects -/
theorem lc_fresh {p : Option Addr} {J : It} {g : TG} {te : TE} {vs : List Nat} {σ : L2.St} {H1 : Hp} {Q : VK} (n : Nat) (O : Nat → HO) (hp : Has p H1) (hn : n ≤ 1000)
    (hgo : ∀ i H, i < n → RX p H1 H → J.go i H) (hst : ∀ H, RX p H1 H → J.stop n H)
    (hs : ∀ i x H H' (C : VK), i < n → RX p H1 H → Has p H → J.yld i H x H' → (∀ q H4, RX p H H4 → H q = none → H4 q = some (O i) → C (.ref q) H4) → g x (wipe σ vs) H' fun σ2 H2 => wipe σ2 vs = wipe σ vs ∧ te σ2 H2 C)
    (hd : ∀ D H xs, H1 D = none → RX p H1 H → H D = some (.lst xs) → xs.length = n → (∀ i v, xs[i]? = some v → ∃ q, v = .ref q ∧ H q = some (O i)) → Q (.ref D) H) : LcB g tYes te vs σ Q J H1 := by
  intro D nD
  have nP : p ≠ some D := hp.ne nD
  refine ⟨fun i m H => i ≤ n ∧ m = n - i ∧ RX p H1 H ∧ ∃ xs, H D = some (.lst xs) ∧ xs.length = i ∧ ∀ j v, xs[j]? = some v → ∃ q, v = .ref q ∧ H q = some (O j) ∧ q ≠ D ∧ p ≠ some q, ⟨n, Nat.zero_le _, rfl, RX.new nD, [], upd_same, rfl, fun j v e => by simp at e⟩, ?_⟩
  rintro i m H ⟨hi, rfl, s1, xs, hD, hl, hE⟩
  by_cases hlt : i < n
  · refine .inr ⟨hgo i H hlt s1, fun H' => i + 1 ≤ n ∧ RX p H1 H' ∧ ∃ xs, H' D = some (.lst xs) ∧ xs.length = i + 1 ∧ ∀ j v, xs[j]? = some v → ∃ q, v = .ref q ∧ H' q = some (O j) ∧ q ≠ D ∧ p ≠ some q, fun H' h => ⟨n - (i + 1), by omega, h.1, rfl, h.2⟩, fun x H' hy => ?_⟩
    have hpH := hp.to s1
    refine hs i x H H' _ hlt s1 hpH hy fun q H4 s4 nq e4 => ?_
    have hD4 := s4.keep D _ nP hD
    have s5 : RX p H1 (upd H4 D (.lst (xs ++ [.ref q]))) := (s1.trans s4).mut nD hp
    refine ⟨xs, hD4, Nat.lt_of_lt_of_le (by omega : xs.length < 1001) (by decide), hlt, s5, xs ++ [.ref q], upd_same, by simp [hl], fun j v e => ?_⟩
    by_cases hj : j < xs.length
    · rw [List.getElem?_append_left hj] at e
      obtain ⟨q', e1, e2, e3, e5⟩ := hE j v e
      exact ⟨q', e1, by rw [upd_ne e3]; exact s4.keep q' _ e5 e2, e3, e5⟩
    · rw [List.getElem?_append_right (by omega)] at e
      have z : j - xs.length = 0 := by
        by_cases w : j - xs.length = 0
        · exact w
        · rw [List.getElem?_eq_none (by simp; omega)] at e; cases e
      rw [z] at e
      cases e
      have : j = i := by omega
      subst this
      have qD : q ≠ D := (ne_of_none hD nq).symm
      exact ⟨q, rfl, by rw [upd_ne qD]; exact e4, qD, hpH.ne nq⟩
  · have e : i = n := by omega
    subst e
    exact .inl ⟨hst H s1, hd D H xs nD s1 hD hl fun j v e => let ⟨q, e1, e2, _⟩ := hE j v e; ⟨q, e1, e2⟩⟩
end Tb
set_option Elab.async false
set_option linter.all false
set_option maxRecDepth 100000
set_option maxHeartbeats 1000000
namespace T81
open PySem PySem.Spec PyProof.Rows L2 Gd Zn Rp Dn Tb Gn En Zs Ct Op
def colsM (n : Nat) (N : List (List Int)) (j : Nat) : List Int := N.map fun r => r.getD j 0
end T81
set_option Elab.async false
set_option linter.all false
set_option maxRecDepth 100000
set_option maxHeartbeats 1000000
namespace T81
open PySem PySem.Spec PyProof.Rows L2 Gd Zn Rp Dn Tb Gn En Zs Ct Op
theorem dot_comm : ∀ xs ys : List Int, dot xs ys = dot ys xs
  | [], ys => by unfold dot; simp
  | x :: xs, [] => by unfold dot; simp
  | x :: xs, y :: ys => by
    have := dot_comm xs ys
    unfold dot at this ⊢
    simp only [List.zip_cons_cons, List.map_cons, List.sum_cons]
    rw [this, Int.mul_comm]
theorem times_eq (n : Nat) (M N : List (List Int)) : (M.map fun r => (List.range n).map fun j => dot r (colsM n N j)) = mulM n M N := by
  unfold mulM ledM transp colsM
  refine List.map_congr_left fun r _ => ?_
  rw [List.map_map]
  refine List.map_congr_left fun j _ => ?_
  exact dot_comm _ _
theorem len3 {α : Type} {l : List α} (h : l.length = 3) : ∃ a b c, l = [a, b, c] := by
  match l, h with
  | [a, b, c], _ => exact ⟨a, b, c, rfl⟩
theorem len1 {α : Type} {l : List α} (h : l.length = 1) : ∃ a, l = [a] := by
  match l, h with
  | [a], _ => exact ⟨a, rfl⟩
theorem det1 (a : Int) : detM 1 [[a]] = a := by
  simp [detM, cofM, outM, outW, cutAt, List.range_succ, List.getD]
theorem det3 (a b c d e f g h i : Int) : detM 3 [[a, b, c], [d, e, f], [g, h, i]] = a * (e * i - f * h) - b * (d * i - f * g) + c * (d * h - e * g) := by
  simp [detM, cofM, outM, outW, cutAt, List.range_succ, List.getD]
  grind
end T81
set_option Elab.async false
set_option linter.all false
set_option maxRecDepth 100000
set_option maxHeartbeats 2000000
namespace T81
open PySem PySem.Spec PyProof.Rows L2 Gd Zn Rp Dn Tb Gn En Zs Ct Op
structure SqB (n : Nat) (B : Int) (M : List (List Int)) : Prop where
  len : M.length = n
  row : ∀ r ∈ M, r.length = n
  bd : ∀ r ∈ M, ∀ x ∈ r, -B ≤ x ∧ x ≤ B
theorem SqB.mono {n : Nat} {B B' : Int} {M : List (List Int)} (h : SqB n B M) (k : B ≤ B') : SqB n B' M := ⟨h.len, h.row, fun r hr x hx => by have := h.bd r hr x hx; omega⟩
theorem SqB.sq {n : Nat} {B : Int} {M : List (List Int)} (h : SqB n B M) (k : B < 2 ^ 64) : Sq n M := ⟨h.len, h.row, fun r hr x hx => by
  have := h.bd r hr x hx
  exact Wd.lit ⟨by omega, by omega⟩⟩
def addR (c : Int) (r s : List Int) : List Int := (List.zip r s).map fun q => q.1 + c * q.2
def stepA (M : List (List Int)) (i j : Nat) (c : Int) : List (List Int) := M.set i (addR c (M.getD i []) (M.getD j []))
theorem getD_mem {M : List (List Int)} {i : Nat} (h : i < M.length) : M.getD i [] ∈ M := by
  rw [List.getD_eq_getElem?_getD, List.getElem?_eq_getElem h]
  exact List.getElem_mem h
theorem SqB.set {n : Nat} {B : Int} {M : List (List Int)} (h : SqB n B M) (i : Nat) {r : List Int} (hl : r.length = n) (hb : ∀ x ∈ r, -B ≤ x ∧ x ≤ B) : SqB n B (M.set i r) := by
  refine ⟨by rw [List.length_set]; exact h.len, fun s hs => ?_, fun s hs => ?_⟩
  · rcases List.mem_or_eq_of_mem_set hs with hs | rfl
    · exact h.row s hs
    · exact hl
  · rcases List.mem_or_eq_of_mem_set hs with hs | rfl
    · exact h.bd s hs
    · exact hb
theorem SqB.add {n : Nat} {B : Int} {M : List (List Int)} (h : SqB n B M) {i j : Nat} {c : Int} (hi : i < n) (hj : j < n) (hB : 0 ≤ B) (hc : c = 1 ∨ c = -1 ∨ c = 2) : SqB n (3 * B) (stepA M i j c) := by
  have mi := getD_mem (M := M) (i := i) (by rw [h.len]; exact hi)
  have mj := getD_mem (M := M) (i := j) (by rw [h.len]; exact hj)
  refine (h.mono (by omega : B ≤ 3 * B)).set i ?_ fun x hx => ?_
  · unfold addR
    rw [List.length_map, List.length_zip, h.row _ mi, h.row _ mj]
    omega
  · unfold addR at hx
    obtain ⟨⟨y, z⟩, hq, rfl⟩ := List.mem_map.mp hx
    have h1 := h.bd _ mi y (List.of_mem_zip hq).1
    have h2 := h.bd _ mj z (List.of_mem_zip hq).2
    rcases hc with rfl | rfl | rfl <;> constructor <;> show _ ≤ _ <;> simp only [] <;> omega
theorem unit_sqB (n : Nat) : SqB n 1 (unitM n) := ⟨(unit_sq n).len, (unit_sq n).row, fun r hr x hx => by
  unfold unitM at hr
  rw [List.mem_map] at hr
  obtain ⟨i, _, rfl⟩ := hr
  rw [List.mem_map] at hx
  obtain ⟨j, _, rfl⟩ := hx
  by_cases h : j = i
  · rw [if_pos h]; exact ⟨by decide, by decide⟩
  · rw [if_neg h]; exact ⟨by decide, by decide⟩⟩
theorem tlc_call {wi : TI} {g : TG} {tt : TT} {te : TE} {vs : List Nat} {σ : L2.St} {H : Hp} {Q : VK} (h : wi σ H fun J H1 => LcB g tt te vs σ Q J H1) : tLc wi g tt te vs σ H Q := h
/-- a list of lists of ints at a, apart from the pot p -/
structure LM (H : Hp) (p a : Addr) (M : List (List Int)) (vs : List V) : Prop where
  at_ : H a = some (.lst vs)
  len : vs.length = M.length
  get : ∀ (i : Nat) (v : V), vs[i]? = some v → ∃ b, v = .ref b ∧ H b = some (.lst ((M.getD i []).map V.int)) ∧ b ≠ a ∧ b ≠ p
theorem LM.mono {H H' : Hp} {p a : Addr} {M : List (List Int)} {vs : List V} (h : LM H p a M vs) (s : RX (some p) H H') (hap : a ≠ p) : LM H' p a M vs := by
  refine ⟨s.keep a _ (fun z => hap (by cases z; rfl)) h.at_, h.len, fun i v e => ?_⟩
  obtain ⟨b, e1, e2, e3, e4⟩ := h.get i v e
  exact ⟨b, e1, s.keep b _ (fun z => e4 (by cases z; rfl)) e2, e3, e4⟩
/-- a row is put there -/
theorem LM.put {H : Hp} {p a : Addr} {M : List (List Int)} {vs : List V} (h : LM H p a M vs) {i : Nat} {b : Addr} {r : List Int} (hb : H b = some (.lst (r.map V.int))) (ba : b ≠ a) (bp : b ≠ p) :
    LM (upd H a (.lst (vs.set i (.ref b)))) p a (M.set i r) (vs.set i (.ref b)) := by
  refine ⟨upd_same, by rw [List.length_set, List.length_set]; exact h.len, fun j v e => ?_⟩
  by_cases hj : i = j
  · subst hj
    have hi : i < vs.length := by
      have := (List.getElem?_eq_some_iff.mp e).1
      rw [List.length_set] at this
      exact this
    rw [List.getElem?_set_self hi] at e
    cases e
    refine ⟨b, rfl, ?_, ba, bp⟩
    rw [upd_ne ba, List.getD_eq_getElem?_getD, List.getElem?_set_self (by rw [← h.len]; exact hi)]
    exact hb
  · rw [List.getElem?_set_ne hj] at e
    obtain ⟨c, e1, e2, e3, e4⟩ := h.get j v e
    refine ⟨c, e1, ?_, e3, e4⟩
    rw [upd_ne e3, List.getD_eq_getElem?_getD, List.getElem?_set_ne hj, ← List.getD_eq_getElem?_getD]
    exact e2
theorem LM.row {H : Hp} {p a : Addr} {M : List (List Int)} {vs : List V} (h : LM H p a M vs) {i : Nat} (hi : i < M.length) : ∃ b, vs[i]? = some (.ref b) ∧ H b = some (.lst ((M.getD i []).map V.int)) ∧ b ≠ a ∧ b ≠ p := by
  have hi' : i < vs.length := by rw [h.len]; exact hi
  obtain ⟨b, e1, e2⟩ := h.get i vs[i] (List.getElem?_eq_getElem hi')
  exact ⟨b, by rw [List.getElem?_eq_getElem hi', e1], e2⟩
end T81
set_option Elab.async false
set_option linter.all false
set_option maxRecDepth 100000
set_option maxHeartbeats 2000000
namespace T81
open PySem PySem.Spec PyProof.Rows L2 Gd Zn Rp Dn Tb Gn En Zs Ct Op
/-- list(..) -/
def rLst (K : PySem.W.Frag) : List V → Hp → VK → Prop := fun xs H Q => ∃ p ys, xs = [V.ref p] ∧ (SqL K H p ys ∨ SqT K H p ys) ∧ ∀ (l : Addr), H l = none → Q (V.ref l) (upd H l (HO.lst ys))
theorem c_lst {X : Cx} : CallR X (.type "list") (rLst X.K) := call_list_of
end T81
set_option Elab.async false
set_option linter.all false
set_option maxRecDepth 100000
set_option maxHeartbeats 2000000
set_option Elab.async false
set_option linter.all false
set_option maxRecDepth 100000
set_option maxHeartbeats 2000000
namespace T81
open PySem PySem.Spec PyProof.Rows L2 Gd Zn Rp Dn Tb Gn En Zs Ct Op
theorem mul_bd {x y B B' : Int} (hx : -B ≤ x ∧ x ≤ B) (hy : -B' ≤ y ∧ y ≤ B') : -(B * B') ≤ x * y ∧ x * y ≤ B * B' := by
  have h1 : x.natAbs ≤ B.natAbs := by omega
  have h2 : y.natAbs ≤ B'.natAbs := by omega
  have h := Nat.mul_le_mul h1 h2
  have e1 := Int.natAbs_mul x y
  have e2 := Int.natAbs_mul B B'
  have hp : 0 ≤ B * B' := Int.mul_nonneg (by omega) (by omega)
  omega
theorem dot_bd {B B' : Int} (hB : 0 ≤ B) (hB' : 0 ≤ B') : ∀ (k : Nat) (xs ys : List Int), xs.length ≤ k → (∀ x ∈ xs, -B ≤ x ∧ x ≤ B) → (∀ y ∈ ys, -B' ≤ y ∧ y ≤ B') → -(k * (B * B')) ≤ dot xs ys ∧ dot xs ys ≤ k * (B * B')
  | k, [], ys, _, _, _ => by
    have : 0 ≤ (k : Int) * (B * B') := Int.mul_nonneg (by omega) (Int.mul_nonneg hB hB')
    simp only [dot, List.zip_nil_left, List.map_nil, List.sum_nil]
    omega
  | k, x :: xs, [], _, _, _ => by
    have : 0 ≤ (k : Int) * (B * B') := Int.mul_nonneg (by omega) (Int.mul_nonneg hB hB')
    simp only [dot, List.zip_nil_right, List.map_nil, List.sum_nil]
    omega
  | 0, x :: xs, y :: ys, h, _, _ => by simp at h
  | k + 1, x :: xs, y :: ys, h, hx, hy => by
    have ih := dot_bd hB hB' k xs ys (by simpa using h) (fun z hz => hx z (List.mem_cons_of_mem _ hz)) (fun z hz => hy z (List.mem_cons_of_mem _ hz))
    have h1 := mul_bd (hx x List.mem_cons_self) (hy y List.mem_cons_self)
    have e : ((k + 1 : Nat) : Int) * (B * B') = (k : Int) * (B * B') + B * B' := by
      rw [show ((k + 1 : Nat) : Int) = (k : Int) + 1 by omega, Int.add_mul, Int.one_mul]
    rw [e]
    unfold dot at ih ⊢
    simp only [List.zip_cons_cons, List.map_cons, List.sum_cons]
    omega
theorem mulM_len (n : Nat) (M N : List (List Int)) : (mulM n M N).length = M.length := by
  unfold mulM
  rw [List.length_map]
theorem mulM_row {n : Nat} {M N : List (List Int)} : ∀ r ∈ mulM n M N, r.length = n := fun r hr => by
  unfold mulM ledM transp at hr
  obtain ⟨s, _, rfl⟩ := List.mem_map.mp hr
  simp
theorem SqB.mul {n : Nat} {B B' : Int} {M N : List (List Int)} (hM : SqB n B M) (hN : SqB n B' N) (h3 : n ≤ 3) (hB : 0 ≤ B) (hB' : 0 ≤ B') : SqB n (3 * (B' * B)) (mulM n M N) := by
  refine ⟨by rw [mulM_len]; exact hM.len, mulM_row, fun r hr x hx => ?_⟩
  unfold mulM ledM transp at hr
  obtain ⟨s, hs, rfl⟩ := List.mem_map.mp hr
  rw [List.map_map] at hx
  obtain ⟨j, hj, rfl⟩ := List.mem_map.mp hx
  have := dot_bd hB' hB 3 (N.map fun r => r.getD j 0) s (by rw [List.length_map, hN.len]; exact h3) (fun y hy => ?_) (hM.bd s hs)
  · simpa using this
  · obtain ⟨t, ht, rfl⟩ := List.mem_map.mp hy
    rw [List.getD_eq_getElem?_getD]
    cases e : t[j]? with
    | none => simp only [Option.getD_none]; omega
    | some z => exact hN.bd t ht z (List.mem_of_getElem? e)
end T81
set_option Elab.async false
set_option linter.all false
set_option maxRecDepth 100000
set_option maxHeartbeats 2000000
set_option Elab.async false
set_option linter.all false
set_option maxRecDepth 100000
set_option maxHeartbeats 2000000
namespace T81
open PySem PySem.Spec PyProof.Rows L2 Gd Zn Rp Dn Tb Gn En Zs Ct Op
section
variable {X : Cx} {CX : CXT} {k : Nat} {f : Addr} {fd : FuncData} {ps ks : List Str} {sp : Sp} {E : XK} {x m : Str} {p pos apos : Pos} {kws : List Keyword} {tk : TA} {g : List Value → List Value → List Value} {gV : List V → List V → List V} {C : Addr} {o : Expr} {ta : TE}
theorem pe_names (F : FnOk X.prog X.w X.K X.mg X.base CX k f fd ps sp) (room : Room k X.A) (hg : Gl X x) (hm : X.mg x = some (.ref f)) (hk : PySem.W.keepIn X.K (.ref f) = true) (hb : KBinds X.K fd ps ks g gV) (hx : Passes CX X E) (hkw : PK X kws tk)
    (hall : (backToKw pos (keywordEach kws X.env)).all (·.1.isSome) = true := by rfl) (hks : (backToKw pos (keywordEach kws X.env)).filterMap (·.1) = ks := by rfl) (hdb : (x == ("__debug__" : Str)) = false := by decide)
    (hpl : ((backTo pos (starEach [] X.env)).any (·.1) || (backToKw pos (keywordEach kws X.env)).any (·.1.isNone)) = false := by rfl) :
    PE X (.Call (.Name x p) [] kws pos) (fun σ H Q => tk σ H fun zs H2 => sp (gV [] zs) H2 Q E) := by
  refine ⟨fun pins s σ H Q I h => wpAny_Call_Name_kw (ld_glob I hg hm ?_ hdb)⟩
  refine PySem.W.callWith_KW0 (h₀ := X.base) I.ok.mod.kin hk hall ?_ hpl
  refine thn (hkw.run pos pins s σ H _ I h) fun ws s2 ⟨zs, H2, I2, rz, q2⟩ => ⟨I2.kIn, ?_⟩
  rw [hks]
  exact run_fnk F room hb hx I2 .nil rz q2
end
structure MulP (P : Program) (w : World) (K : PySem.W.Frag) (mg : Str → Option Value) (base : Heap) (C : Addr) : Prop where
  ex : ∃ (g : Addr) (gd : FuncData) (cd : ClassData) (rest : List Value), W.clsIn K C = some cd ∧ cd.mro = Value.ref C :: rest ∧ W.findIn K (.ref C) (dunder "mul") = some (some (.ref g)) ∧ W.isFn K (.ref g) = true ∧
    FnOk P w K mg base CX0 10 g gd ["self", "other"] (sp_mul C) ∧ Binds K gd ["self", "other"] []
theorem pe_mulT {X : Cx} {C : Addr} {j : Nat} {a b : Expr} {ta tb : TE} {pos : Pos} (D : MulP X.prog X.w X.K X.mg X.base C) (room : Room j X.A) (ha : PE X a ta) (hb : PE X b tb) (hkj : 10 ≤ j := by decide) :
    PE X (.BinOp a .Mult b pos) (tOp (rOwnB C (fun vs H Q E => sp_mul C (vs ++ []) H Q E) E0) ta tb) := by
  obtain ⟨g, gd, cd, rest, h1, h2, h3, h4, G, bi⟩ := D.ex
  exact pe_op (op_mulOwn h1 h2 h3 h4 (G.raw bi .nil) (room.mono hkj) pass0) ha hb
structure SmN (a b : Nat) (d : PyData) : Prop where
  sh : d.showable = true
  dp : d.depth ≤ a
  ls : d.leavesShort 40 = true
  bk : d.bulk ≤ b
end T81
set_option Elab.async false
set_option linter.all false
set_option maxRecDepth 100000
set_option maxHeartbeats 4000000
namespace T81
open PySem PySem.Spec PyProof.Rows L2 Gd Zn Rp Dn Tb Gn En Zs Ct Op
structure Sh (n : Nat) (M : List (List Int)) : Prop where
  len : M.length = n
  row : ∀ r ∈ M, r.length = n
theorem Sq.sh {n : Nat} {M : List (List Int)} (h : Sq n M) : Sh n M := ⟨h.len, h.row⟩
theorem SqB.sh {n : Nat} {B : Int} {M : List (List Int)} (h : SqB n B M) : Sh n M := ⟨h.len, h.row⟩
theorem sh1 {n : Nat} {M : List (List Int)} (h : Sh n M) (e : n = 1) : ∃ a, M = [[a]] := by
  subst e
  obtain ⟨r, rfl⟩ := len1 h.len
  obtain ⟨a, rfl⟩ := len1 (h.row r (by simp))
  exact ⟨a, rfl⟩
theorem sh2 {n : Nat} {M : List (List Int)} (h : Sh n M) (e : n = 2) : ∃ a b c d, M = [[a, b], [c, d]] := by
  subst e
  obtain ⟨r1, r2, rfl⟩ := len2 h.len
  obtain ⟨a, b, rfl⟩ := len2 (h.row r1 (by simp))
  obtain ⟨c, d, rfl⟩ := len2 (h.row r2 (by simp))
  exact ⟨a, b, c, d, rfl⟩
theorem sh3 {n : Nat} {M : List (List Int)} (h : Sh n M) (e : n = 3) : ∃ a b c d e f g h i, M = [[a, b, c], [d, e, f], [g, h, i]] := by
  subst e
  obtain ⟨r1, r2, r3, rfl⟩ := len3 h.len
  obtain ⟨a, b, c, rfl⟩ := len3 (h.row r1 (by simp))
  obtain ⟨d, e, f, rfl⟩ := len3 (h.row r2 (by simp))
  obtain ⟨g, i, j, rfl⟩ := len3 (h.row r3 (by simp))
  exact ⟨a, b, c, d, e, f, g, i, j, rfl⟩
theorem mulE1 (a b : Int) : mulM 1 [[a]] [[b]] = [[a * b]] := by simp [mulM, ledM, transp, dot, List.range_succ, List.getD, Int.mul_comm]
theorem mulE2 (a b c d e f g h : Int) : mulM 2 [[a, b], [c, d]] [[e, f], [g, h]] = [[a * e + b * g, a * f + b * h], [c * e + d * g, c * f + d * h]] := by simp [mulM, ledM, transp, dot, List.range_succ, List.getD, Int.mul_comm]
theorem mulE3 (a b c d e f g h i j k l m n o p q r : Int) : mulM 3 [[a, b, c], [d, e, f], [g, h, i]] [[j, k, l], [m, n, o], [p, q, r]] =
    [[a * j + (b * m + c * p), a * k + (b * n + c * q), a * l + (b * o + c * r)], [d * j + (e * m + f * p), d * k + (e * n + f * q), d * l + (e * o + f * r)], [g * j + (h * m + i * p), g * k + (h * n + i * q), g * l + (h * o + i * r)]] := by
  simp [mulM, ledM, transp, dot, List.range_succ, List.getD, Int.mul_comm]
def undM (n : Nat) (M : List (List Int)) : List (List Int) := (List.range n).map fun p => (List.range n).map fun a => detM n M * cofM (n - 1) M a p
theorem undE1 (a : Int) : undM 1 [[a]] = [[a]] := by simp [undM, detM, cofM, outM, outW, cutAt, List.range_succ, List.getD]
theorem undE2 (a b c d : Int) : undM 2 [[a, b], [c, d]] = [[(a * d - b * c) * d, -((a * d - b * c) * b)], [-((a * d - b * c) * c), (a * d - b * c) * a]] := by
  unfold undM
  rw [det2]
  simp [cofM, detM, outM, outW, cutAt, List.range_succ, List.getD, Int.mul_neg]
theorem undE3 (a b c d e f g h i : Int) : undM 3 [[a, b, c], [d, e, f], [g, h, i]] =
    let w := a * (e * i - f * h) - b * (d * i - f * g) + c * (d * h - e * g)
    [[w * (e * i - f * h), -(w * (b * i - c * h)), w * (b * f - c * e)], [-(w * (d * i - f * g)), w * (a * i - c * g), -(w * (a * f - c * d))], [w * (d * h - e * g), -(w * (a * h - b * g)), w * (a * e - b * d)]] := by
  unfold undM
  rw [det3]
  have c2 : ∀ M : List (List Int), cofM 2 M = fun a k => if (a + k) % 2 = 0 then detM 2 (outM M a k) else -detM 2 (outM M a k) := fun M => by
    funext a k
    rw [cofM]
  simp only [c2]
  simp [outM, outW, cutAt, List.range_succ, List.getD, det2, Int.mul_neg]
theorem unitE1 : unitM 1 = [[1]] := rfl
theorem unitE2 : unitM 2 = [[1, 0], [0, 1]] := rfl
theorem unitE3 : unitM 3 = [[1, 0, 0], [0, 1, 0], [0, 0, 1]] := rfl
structure Gr (n : Nat) (M : List (List Int)) : Prop where
  h1 : 1 ≤ n
  h3 : n ≤ 3
  sh : Sh n M
  d : detM n M = 1 ∨ detM n M = -1
theorem Gr.cases {n : Nat} {M : List (List Int)} (h : Gr n M) : n = 1 ∨ n = 2 ∨ n = 3 := by have := h.h1; have := h.h3; omega
theorem sh_mk1 (a : Int) : Sh 1 [[a]] := ⟨rfl, by simp⟩
theorem sh_mk2 (a b c d : Int) : Sh 2 [[a, b], [c, d]] := ⟨rfl, by simp⟩
theorem sh_mk3 (a b c d e f g h i : Int) : Sh 3 [[a, b, c], [d, e, f], [g, h, i]] := ⟨rfl, by simp⟩
theorem mul_sh {n : Nat} {M N : List (List Int)} (h1 : 1 ≤ n) (h3 : n ≤ 3) (hM : Sh n M) (hN : Sh n N) : Sh n (mulM n M N) := by
  have : n = 1 ∨ n = 2 ∨ n = 3 := by omega
  rcases this with rfl | rfl | rfl
  · obtain ⟨a, rfl⟩ := sh1 hM rfl
    obtain ⟨b, rfl⟩ := sh1 hN rfl
    rw [mulE1]; exact sh_mk1 _
  · obtain ⟨a, b, c, d, rfl⟩ := sh2 hM rfl
    obtain ⟨e, f, g, h, rfl⟩ := sh2 hN rfl
    rw [mulE2]; exact sh_mk2 _ _ _ _
  · obtain ⟨a, b, c, d, e, f, g, h, i, rfl⟩ := sh3 hM rfl
    obtain ⟨j, k, l, m, n, o, p, q, r, rfl⟩ := sh3 hN rfl
    rw [mulE3]; exact sh_mk3 _ _ _ _ _ _ _ _ _
theorem mul_detS {n : Nat} {M N : List (List Int)} (h1 : 1 ≤ n) (h3 : n ≤ 3) (hM : Sh n M) (hN : Sh n N) : detM n (mulM n M N) = detM n M * detM n N := by
  have : n = 1 ∨ n = 2 ∨ n = 3 := by omega
  rcases this with rfl | rfl | rfl
  · obtain ⟨a, rfl⟩ := sh1 hM rfl
    obtain ⟨b, rfl⟩ := sh1 hN rfl
    rw [mulE1, det1, det1, det1]
  · obtain ⟨a, b, c, d, rfl⟩ := sh2 hM rfl
    obtain ⟨e, f, g, h, rfl⟩ := sh2 hN rfl
    rw [mulE2, det2, det2, det2]; grind
  · obtain ⟨a, b, c, d, e, f, g, h, i, rfl⟩ := sh3 hM rfl
    obtain ⟨j, k, l, m, n, o, p, q, r, rfl⟩ := sh3 hN rfl
    rw [mulE3, det3, det3, det3]; grind
theorem mul_assocS {n : Nat} {M N L : List (List Int)} (h1 : 1 ≤ n) (h3 : n ≤ 3) (hM : Sh n M) (hN : Sh n N) (hL : Sh n L) : mulM n (mulM n M N) L = mulM n M (mulM n N L) := by
  have : n = 1 ∨ n = 2 ∨ n = 3 := by omega
  rcases this with rfl | rfl | rfl
  · obtain ⟨a, rfl⟩ := sh1 hM rfl
    obtain ⟨b, rfl⟩ := sh1 hN rfl
    obtain ⟨c, rfl⟩ := sh1 hL rfl
    rw [mulE1, mulE1, mulE1, mulE1, Int.mul_assoc]
  · obtain ⟨a, b, c, d, rfl⟩ := sh2 hM rfl
    obtain ⟨e, f, g, h, rfl⟩ := sh2 hN rfl
    obtain ⟨i, j, k, l, rfl⟩ := sh2 hL rfl
    rw [mulE2, mulE2, mulE2, mulE2]
    congr 2 <;> grind
  · obtain ⟨a, b, c, d, e, f, g, h, i, rfl⟩ := sh3 hM rfl
    obtain ⟨j, k, l, m, n, o, p, q, r, rfl⟩ := sh3 hN rfl
    obtain ⟨a', b', c', d', e', f', g', h', i', rfl⟩ := sh3 hL rfl
    rw [mulE3, mulE3, mulE3, mulE3]
    congr 2 <;> grind
theorem unit_sh {n : Nat} : Sh n (unitM n) := (unit_sq n).sh
theorem und_sh {n : Nat} {M : List (List Int)} : Sh n (undM n M) := ⟨by simp [undM], fun r hr => by
  unfold undM at hr
  obtain ⟨i, _, rfl⟩ := List.mem_map.mp hr
  simp⟩
theorem mul_und {n : Nat} {M : List (List Int)} (G : Gr n M) : mulM n M (undM n M) = unitM n := by
  have hd := G.d
  rcases G.cases with rfl | rfl | rfl
  · obtain ⟨a, rfl⟩ := sh1 G.sh rfl
    rw [undE1, mulE1, unitE1]
    rw [det1] at hd
    rcases hd with rfl | rfl <;> rfl
  · obtain ⟨a, b, c, d, rfl⟩ := sh2 G.sh rfl
    rw [det2] at hd
    rw [undE2, mulE2, unitE2]
    generalize hw : a * d - b * c = w at hd
    have e1 : w * w = 1 := by rcases hd with rfl | rfl <;> rfl
    congr 2
    · grind
    · congr 1; grind
    · congr 1
      · grind
      · congr 1; grind
  · obtain ⟨a, b, c, d, e, f, g, h, i, rfl⟩ := sh3 G.sh rfl
    rw [det3] at hd
    rw [undE3, mulE3, unitE3]
    generalize hw : a * (e * i - f * h) - b * (d * i - f * g) + c * (d * h - e * g) = w at hd
    have e1 : w * w = 1 := by rcases hd with rfl | rfl <;> rfl
    have k1 : ∀ x y z : Int, x = 1 → y = 0 → z = 0 → [x, y, z] = [1, 0, 0] := by rintro _ _ _ rfl rfl rfl; rfl
    have k2 : ∀ x y z : Int, x = 0 → y = 1 → z = 0 → [x, y, z] = [0, 1, 0] := by rintro _ _ _ rfl rfl rfl; rfl
    have k3 : ∀ x y z : Int, x = 0 → y = 0 → z = 1 → [x, y, z] = [0, 0, 1] := by rintro _ _ _ rfl rfl rfl; rfl
    have k4 : ∀ x y z : List Int, x = [1, 0, 0] → y = [0, 1, 0] → z = [0, 0, 1] → [x, y, z] = [[1, 0, 0], [0, 1, 0], [0, 0, 1]] := by rintro _ _ _ rfl rfl rfl; rfl
    refine k4 _ _ _ (k1 _ _ _ ?_ ?_ ?_) (k2 _ _ _ ?_ ?_ ?_) (k3 _ _ _ ?_ ?_ ?_) <;> grind
theorem und_mul {n : Nat} {M : List (List Int)} (G : Gr n M) : mulM n (undM n M) M = unitM n := by
  have hd := G.d
  rcases G.cases with rfl | rfl | rfl
  · obtain ⟨a, rfl⟩ := sh1 G.sh rfl
    rw [undE1, mulE1, unitE1]
    rw [det1] at hd
    rcases hd with rfl | rfl <;> rfl
  · obtain ⟨a, b, c, d, rfl⟩ := sh2 G.sh rfl
    rw [det2] at hd
    rw [undE2, mulE2, unitE2]
    generalize hw : a * d - b * c = w at hd
    have e1 : w * w = 1 := by rcases hd with rfl | rfl <;> rfl
    congr 2
    · grind
    · congr 1; grind
    · congr 1
      · grind
      · congr 1; grind
  · obtain ⟨a, b, c, d, e, f, g, h, i, rfl⟩ := sh3 G.sh rfl
    rw [det3] at hd
    rw [undE3, mulE3, unitE3]
    generalize hw : a * (e * i - f * h) - b * (d * i - f * g) + c * (d * h - e * g) = w at hd
    have e1 : w * w = 1 := by rcases hd with rfl | rfl <;> rfl
    have k1 : ∀ x y z : Int, x = 1 → y = 0 → z = 0 → [x, y, z] = [1, 0, 0] := by rintro _ _ _ rfl rfl rfl; rfl
    have k2 : ∀ x y z : Int, x = 0 → y = 1 → z = 0 → [x, y, z] = [0, 1, 0] := by rintro _ _ _ rfl rfl rfl; rfl
    have k3 : ∀ x y z : Int, x = 0 → y = 0 → z = 1 → [x, y, z] = [0, 0, 1] := by rintro _ _ _ rfl rfl rfl; rfl
    have k4 : ∀ x y z : List Int, x = [1, 0, 0] → y = [0, 1, 0] → z = [0, 0, 1] → [x, y, z] = [[1, 0, 0], [0, 1, 0], [0, 0, 1]] := by rintro _ _ _ rfl rfl rfl; rfl
    refine k4 _ _ _ (k1 _ _ _ ?_ ?_ ?_) (k2 _ _ _ ?_ ?_ ?_) (k3 _ _ _ ?_ ?_ ?_) <;> grind
theorem mul_unitS {n : Nat} {M : List (List Int)} (h1 : 1 ≤ n) (h3 : n ≤ 3) (h : Sh n M) : mulM n M (unitM n) = M := by
  have : n = 1 ∨ n = 2 ∨ n = 3 := by omega
  rcases this with rfl | rfl | rfl
  · obtain ⟨a, rfl⟩ := sh1 h rfl
    rw [unitE1, mulE1]; simp
  · obtain ⟨a, b, c, d, rfl⟩ := sh2 h rfl
    rw [unitE2, mulE2]; simp
  · obtain ⟨a, b, c, d, e, f, g, h, i, rfl⟩ := sh3 h rfl
    rw [unitE3, mulE3]; simp
theorem unit_mulS {n : Nat} {M : List (List Int)} (h1 : 1 ≤ n) (h3 : n ≤ 3) (h : Sh n M) : mulM n (unitM n) M = M := by
  have : n = 1 ∨ n = 2 ∨ n = 3 := by omega
  rcases this with rfl | rfl | rfl
  · obtain ⟨a, rfl⟩ := sh1 h rfl
    rw [unitE1, mulE1]; simp
  · obtain ⟨a, b, c, d, rfl⟩ := sh2 h rfl
    rw [unitE2, mulE2]; simp
  · obtain ⟨a, b, c, d, e, f, g, h, i, rfl⟩ := sh3 h rfl
    rw [unitE3, mulE3]; simp
theorem pm_mul {a b : Int} (ha : a = 1 ∨ a = -1) (hb : b = 1 ∨ b = -1) : a * b = 1 ∨ a * b = -1 := by
  rcases ha with rfl | rfl <;> rcases hb with rfl | rfl <;> decide
theorem Gr.mul {n : Nat} {M N : List (List Int)} (hM : Gr n M) (hN : Gr n N) : Gr n (mulM n M N) := ⟨hM.h1, hM.h3, mul_sh hM.h1 hM.h3 hM.sh hN.sh, by rw [mul_detS hM.h1 hM.h3 hM.sh hN.sh]; exact pm_mul hM.d hN.d⟩
theorem gr_unit {n : Nat} (h1 : 1 ≤ n) (h3 : n ≤ 3) : Gr n (unitM n) := ⟨h1, h3, unit_sh, .inl (det_unit n h3)⟩
theorem und_det {n : Nat} {M : List (List Int)} (h : Gr n M) : detM n (undM n M) = detM n M := by
  have := mul_detS h.h1 h.h3 h.sh (und_sh (n := n) (M := M))
  rw [mul_und h, det_unit n h.h3] at this
  rcases h.d with e | e <;> rw [e] at this ⊢ <;> omega
theorem Gr.und {n : Nat} {M : List (List Int)} (h : Gr n M) : Gr n (undM n M) := ⟨h.h1, h.h3, und_sh, by rw [und_det h]; exact h.d⟩
/-- the group of the tables of one size -/
def GL (n : Nat) : Type := { M : List (List Int) // Gr n M }
namespace GL
variable {n : Nat}
def mk (M : List (List Int)) (h : Gr n M) : GL n := ⟨M, h⟩
instance : Mul (GL n) := ⟨fun a b => ⟨mulM n a.val b.val, a.property.mul b.property⟩⟩
def inv (a : GL n) : GL n := ⟨undM n a.val, a.property.und⟩
def one (h1 : 1 ≤ n) (h3 : n ≤ 3) : GL n := ⟨unitM n, gr_unit h1 h3⟩
theorem val_mul (a b : GL n) : (a * b).val = mulM n a.val b.val := rfl
theorem mul_assoc (a b c : GL n) : a * b * c = a * (b * c) := Subtype.ext (mul_assocS a.property.h1 a.property.h3 a.property.sh b.property.sh c.property.sh)
theorem one_mul {h1 : 1 ≤ n} {h3 : n ≤ 3} (a : GL n) : one h1 h3 * a = a := Subtype.ext (unit_mulS h1 h3 a.property.sh)
theorem mul_one {h1 : 1 ≤ n} {h3 : n ≤ 3} (a : GL n) : a * one h1 h3 = a := Subtype.ext (mul_unitS h1 h3 a.property.sh)
theorem inv_mul {h1 : 1 ≤ n} {h3 : n ≤ 3} (a : GL n) : inv a * a = one h1 h3 := Subtype.ext (T81.und_mul a.property)
theorem mul_inv {h1 : 1 ≤ n} {h3 : n ≤ 3} (a : GL n) : a * inv a = one h1 h3 := Subtype.ext (T81.mul_und a.property)
theorem inv_mul_left (a b : GL n) : inv a * (a * b) = b := by rw [← mul_assoc, inv_mul (h1 := a.property.h1) (h3 := a.property.h3), one_mul]
theorem mul_inv_left (a b : GL n) : a * (inv a * b) = b := by rw [← mul_assoc, mul_inv (h1 := a.property.h1) (h3 := a.property.h3), one_mul]
theorem left_cancel {a b c : GL n} (h : a * b = a * c) : b = c := by rw [← inv_mul_left a b, h, inv_mul_left]
theorem inv_of_mul {h1 : 1 ≤ n} {h3 : n ≤ 3} {a b : GL n} (h : a * b = one h1 h3) : b = inv a := left_cancel (a := a) (by rw [h, mul_inv (h1 := h1) (h3 := h3)])
theorem inv_mul_rev (a b : GL n) : inv (a * b) = inv b * inv a := (inv_of_mul (h1 := a.property.h1) (h3 := a.property.h3) (by rw [mul_assoc, mul_inv_left, mul_inv])).symm
theorem inv_inv (a : GL n) : inv (inv a) = a := (inv_of_mul (h1 := a.property.h1) (h3 := a.property.h3) (by rw [inv_mul])).symm
theorem inv_one {h1 : 1 ≤ n} {h3 : n ≤ 3} : inv (one h1 h3) = one h1 h3 := (inv_of_mul (h1 := h1) (h3 := h3) (by rw [one_mul])).symm
end GL
end T81
set_option Elab.async false
set_option linter.all false
set_option maxRecDepth 100000
set_option maxHeartbeats 1000000
namespace Oc
open PySem PySem.Spec PyProof.Rows L2
end Oc
set_option Elab.async false
set_option linter.all false
set_option maxRecDepth 100000
set_option maxHeartbeats 1000000
namespace Oc
open PySem PySem.Spec PyProof.Rows L2
end Oc
set_option Elab.async false
set_option linter.all false
set_option maxRecDepth 100000
set_option maxHeartbeats 1000000
namespace Rg
open PySem PySem.Spec PyProof.Rows L2
section
variable {X : Cx}
def rRng1 : List V → Hp → VK → Prop := fun vs H Q => ∃ j, vs = [V.int j] ∧ ∀ p, H p = none → Q (.ref p) (upd H p (.rng 0 j))
theorem cr_range1 : CallR X (.type "range") rRng1 := by
  intro pins s σ H vs us Q I r h
  obtain ⟨j, rfl, q⟩ := h
  obtain ⟨u1, rfl, rj⟩ := r.one
  obtain ⟨u, rfl⟩ := rj
  refine call_range_1 ⟨.ref s.heap.objs.size, upd H s.heap.objs.size (.rng 0 j), I.laid (t' := s.toks + 1 + 1) (fun b o e => Heap.get?_push_of_some _ e) (Nat.le_refl _) ?_, rfl, q _ (I.hok.fresh (Nat.le_refl _))⟩
  exact ⟨s.toks, u, s.toks + 1, Heap.get?_push_size _ rfl⟩
def iRngV (tl : TE) : TI := fun σ H R => tl σ H fun x H1 => ∃ (p : Addr) (lo hi : Int), x = .ref p ∧ H1 p = some (.rng lo hi) ∧ (-(2 ^ 62) ≤ lo ∧ lo < 2 ^ 62 ∧ -(2 ^ 62) ≤ hi ∧ hi < 2 ^ 62) ∧ R (Itr lo (hi - lo).toNat) H1
theorem pi_rng {tg e : Expr} {tl : TE} (he : PE X e tl) : PI X tg e (iRngV tl) := by
  refine ⟨fun pins s σ H R I h => ?_⟩
  refine thn (he.run pins s σ H _ I h) fun v s1 ⟨x, H1, I1, rx, p, lo, hi, ex, hp, ⟨h1, h2, h3, h4⟩, q⟩ => ?_
  subst ex
  obtain rfl : v = Value.ref p := rx
  obtain ⟨t, u, w, ho⟩ := I1.hok p _ hp
  refine wpAny_pyIter_range ho (small_one h1 h2 h3 h4) ?_
  refine ⟨s1.heap.objs.size, [s1.heap.objs.size], _, _, H1, rfl, I1.kept (t' := s1.toks) fun b o e => Heap.get?_push_of_some _ e, turn_range _ lo (hi - lo).toNat, ?_, fun b hb => ?_, q⟩
  · have e1 : lo + ((0 : Nat) : Int) * 1 = lo := by simp
    have e2 : (((hi - lo).toNat : Nat) : Int) - ((0 : Nat) : Int) = Builtin.Range.rangeSize lo hi 1 := by rw [rangeSize_one]; split <;> omega
    show IsRangeIter _ _ (lo + ((0 : Nat) : Int) * 1) ((((hi - lo).toNat : Nat) : Int) - ((0 : Nat) : Int)) 1
    rw [e1, e2]
    exact Heap.get?_push_size _ rfl
  · have e : b = s1.heap.objs.size := by simpa using hb
    subst e
    exact I1.fpOk (Nat.le_refl _) (I1.hok.fresh (Nat.le_refl _))
end
end Rg
set_option Elab.async false
set_option linter.all false
set_option maxRecDepth 100000
set_option maxHeartbeats 2000000
namespace T81
open PySem PySem.Spec PyProof.Rows L2 Gd Zn Rp Dn Tb Gn En Zs Ct Op Oc Rg
section
variable {P : Program} {w : World} {K : PySem.W.Frag} {mg : Str → Option Value} {base : Heap} {C : Addr}
def sp_detP (C : Addr) : Sp := fun vs H Q _ => ∃ v M n, vs = [v] ∧ Tab C H v M ∧ Sq n M ∧ n ≤ 3 ∧ ∀ H', Same H H' → Q (.int (detM n M)) H'
def sp_lead (C : Addr) : Sp := fun vs H Q _ => ∃ v o M xs n, vs = [v, o] ∧ Tab C H v M ∧ SeqV H o (iD xs) ∧ Sq n M ∧ 1 ≤ n ∧ n ≤ 3 ∧ xs.length = n ∧ (∀ x ∈ xs, Small x) ∧ ∀ v' H', Same H H' → RowV H' v' (ledM M xs) → Q v' H'
theorem SeqV.any {H : Hp} {v : V} {xs : List Int} (h : SeqV H v (iD xs)) : ∃ d, AnyV H v d ∧ items d = iD xs ∧ (d = .list (iD xs) ∨ d = .tuple (iD xs)) := by
  rcases h with h | h
  · exact ⟨_, .inl h, rfl, .inl rfl⟩
  · exact ⟨_, .inl h, rfl, .inr rfl⟩
def sp_check_row : Sp := fun vs H Q _ => ∃ v d, ∃ n : Nat, vs = [.int n, v] ∧ AnyV H v d ∧ (items d).length ≤ 200 ∧ rowOfB n d = true ∧ ∀ H', Same H H' → Q .non H'
abbrev st_check_row : Stmt := top 21
theorem sc_check_row : FnScope ["size", "row"] ["size", "row"] (defScope st_check_row) := ⟨rfl, rfl, rfl, by decide +kernel, rfl, by decide +kernel, by decide +kernel⟩
theorem ok_check_row {f : Addr} {fd : FuncData} (F : Fun K "check_row" "check_row" st_check_row f fd) (D1 : Def P w K mg base "is_row_of" 3 ["size", "value"] sp_is_row_of) : FnOk P w K mg base CX0 4 f fd ["size", "row"] sp_check_row := by
  refine F.ok sc_check_row (fun vs H Q E h => ?_) (fun cdv A outer s H vs Q E hr h => ?_)
  · obtain ⟨v, d, n, rfl, _⟩ := h
    rfl
  · obtain ⟨v, d, n, rfl, av, hb, e, q⟩ := h
    refine ⟨_, pss_one (ps_if (pt_not (pt_val (pe_def D1 hr (pa_cons (pv 0) (pa_cons (pv 1) pa_nil))))) pss_dead pss_nil), ?_⟩
    refine ⟨_, rfl, _, rfl, v, d, n, rfl, av, hb, fun H1 s1 => ⟨_, rfl, ?_⟩⟩
    rw [e]
    exact iteF (q H1 s1)
theorem sc_detP : FnScope ["self"] ["self"] (defScope (st_T 3)) := ⟨rfl, rfl, rfl, by decide +kernel, rfl, by decide +kernel, by decide +kernel⟩
theorem ok_detP {f : Addr} {fd : FuncData} (F : Fun K "determinant" "Table.determinant" (st_T 3) f fd) (Tc : Tcl K mg C) (D1 : ∀ n, Def P w K mg base "determinant_of" (2 * n + 1) ["rows"] (sp_det n)) : FnOk P w K mg base CX0 8 f fd ["self"] (sp_detP C) := by
  refine F.ok sc_detP (fun vs H Q E h => ?_) (fun cdv A outer s H vs Q E hr h => ?_)
  · obtain ⟨v, M, n, rfl, _⟩ := h
    rfl
  · obtain ⟨v, M, n, rfl, ⟨p, dx, r, rfl, hp, hM⟩, hS, h3, q⟩ := h
    refine ⟨_, pss_one (ps_ret (pe_def (D1 n) hr (pa_cons (pe_fld (pv 0) rfl) pa_nil) (by omega))), ?_⟩
    exact ⟨_, rfl, p, C, dx, _, _, rfl, hp, Tc.cl, Tc.nR, fldsT_rows _, r, M, rfl, hM, by omega, hS, q⟩
theorem sc_lead : FnScope ["self", "row"] ["self", "row"] (defScope (st_T 8)) := ⟨rfl, rfl, rfl, by decide +kernel, rfl, by decide +kernel, by decide +kernel⟩
theorem ok_lead {f : Addr} {fd : FuncData} (F : Fun K "lead" "Table.lead" (st_T 8) f fd) (Tc : Tcl K mg C) (D1 : Def P w K mg base "check_row" 4 ["size", "row"] sp_check_row) (D2 : Prp P w K mg base C "size" 1 (sp_size C)) (D3 : Def P w K mg base "led_row" 2 ["rows", "row"] sp_led_row) :
    FnOk P w K mg base CX0 5 f fd ["self", "row"] (sp_lead C) := by
  refine F.ok sc_lead (fun vs H Q E h => ?_) (fun cdv A outer s H vs Q E hr h => ?_)
  · obtain ⟨v, o, M, xs, n, rfl, _⟩ := h
    rfl
  · obtain ⟨v, o, M, xs, n, rfl, hv, ho, hS, h1, h3, hx, hsx, q⟩ := h
    refine ⟨_, pss_cons (ps_expr (pe_def D1 hr (pa_cons (pe_prp D2 Tc.cl hr (pv 0)) (pa_cons (pv 1) pa_nil))))
      (pss_one (ps_ret (pe_def D3 hr (pa_cons (pe_fld (pv 0) rfl) (pa_cons (pv 1) pa_nil))))), ?_⟩
    obtain ⟨p, dx, r, rfl, hp, hM⟩ := id hv
    obtain ⟨d, av, ei, hd⟩ := T81.SeqV.any ho
    refine ⟨_, rfl, p, dx, _, rfl, hp, .ref p, M, rfl, hv, ?_⟩
    refine ⟨_, rfl, o, d, M.length, rfl, av, by rw [ei]; unfold iD; rw [List.length_map]; omega, ?_, fun H1 s1 => ?_⟩
    · rw [hS.len]
      exact row_true hd h1 h3 hx
    · refine ⟨_, rfl, p, C, dx, _, _, rfl, s1 _ _ hp, Tc.cl, Tc.nR, fldsT_rows _, ?_⟩
      refine ⟨_, rfl, r, o, M, xs, rfl, hM.mono (KS.of s1), ho.mono s1, by rw [hS.len]; omega, by omega, hsx, fun c hc => ⟨by rw [hS.row c hc, hx], hS.small c hc⟩, fun v' H' s' hv' => q v' H' (s1.trans s') hv'⟩
end
end T81
set_option Elab.async false
set_option linter.all false
set_option maxRecDepth 100000
set_option maxHeartbeats 2000000
namespace T81
open PySem PySem.Spec PyProof.Rows L2 Gd Zn Rp Dn Tb Gn En Zs Ct Op Oc Rg
/-- Table(..) of anything that tells the rows -/
theorem make_any {C : Addr} {H : Hp} {v : V} {d : PyData} {M : List (List Int)} {n : Nat} {Q : VK} {E : XK} (av : AnyV H v d) (g : GridD d M) (hS : Sq n M) (h1 : 1 ≤ n) (h3 : n ≤ 3) (hd : detM n M = 1 ∨ detM n M = -1)
    (k : ∀ c H', Same H H' → Tab C H' (.ref c) M → Q (.ref c) H') : ∀ x dx : Addr, H x = none → H dx = none → dx ≠ x → sp_init C (V.ref x :: ([v] ++ [])) (upd (upd H dx (.own x)) x (.ins C dx [])) (fun u H2 => u = V.non ∧ Q (.ref x) H2) E := by
  intro x dx nx nd ne
  have s : Same H (upd (upd H dx (.own x)) x (.ins C dx [])) := fun c o e => by
    rw [upd_ne (ne_of_none e nx), upd_ne (ne_of_none e nd)]
    exact e
  refine ⟨x, dx, v, d, M, n, rfl, upd_same, av.mono s, g, hS, h1, h3, hd, fun H' kp ht => ⟨rfl, k x H' (fun c o e => ?_) ht⟩⟩
  exact kp c o (ne_of_none e nx) (s c o e)
def lmD (M : List (List Int)) : PyData := .list (M.map fun r => .list (r.map PyData.int))
theorem grid_lm (M : List (List Int)) : GridD (lmD M) M := by
  refine ⟨rfl, ?_, fun i d' e => ?_⟩
  · show (M.map _).length = _
    rw [List.length_map]
  · have e : (M.map fun r => PyData.list (r.map PyData.int))[i]? = some d' := e
    rw [List.getElem?_map] at e
    cases h : M[i]? with
    | none => rw [h] at e; cases e
    | some r =>
      rw [h] at e
      cases e
      exact ⟨r, rfl, .inl rfl⟩
theorem py_ints {H : Hp} : ∀ xs : List Int, PyVs H (xs.map V.int) (xs.map PyData.int)
  | [] => .nil
  | x :: xs => .cons (.int x) (py_ints xs)
theorem pys_lm {H : Hp} : ∀ {vs : List V} {M : List (List Int)}, vs.length = M.length → (∀ (i : Nat) (v : V), vs[i]? = some v → ∃ q, v = .ref q ∧ H q = some (.lst ((M.getD i []).map V.int))) → PyVs H vs (M.map fun r => .list (r.map PyData.int))
  | [], [], _, _ => .nil
  | v :: vs, r :: M, hl, h => by
    obtain ⟨q, rfl, hq⟩ := h 0 v rfl
    exact .cons (.lst hq (py_ints _)) (pys_lm (Nat.succ.inj hl) fun i w e => h (i + 1) w e)
theorem py_lm {H : Hp} {D : Addr} {vs : List V} {M : List (List Int)} (hD : H D = some (.lst vs)) (hl : vs.length = M.length) (h : ∀ (i : Nat) (v : V), vs[i]? = some v → ∃ q, v = .ref q ∧ H q = some (.lst ((M.getD i []).map V.int))) : PyV H (.ref D) (lmD M) := .lst hD (pys_lm hl h)
theorem und_get {n p : Nat} {M : List (List Int)} (h : p < n) : (undM n M).getD p [] = (List.range n).map fun a => detM n M * cofM (n - 1) M a p := by
  unfold undM
  rw [List.getD_eq_getElem?_getD, List.getElem?_map, List.getElem?_range h]
  rfl
section
variable {P : Program} {w : World} {K : PySem.W.Frag} {mg : Str → Option Value} {base : Heap} {C : Addr}
def sp_undone (C : Addr) : Sp := fun vs H Q _ => ∃ v M n, vs = [v] ∧ Tab C H v M ∧ Gr n M ∧ Sq n M ∧ Sq n (undM n M) ∧ ∀ c H', Same H H' → Tab C H' (.ref c) (undM n M) → Q (.ref c) H'
abbrev N_undone : List Str := ["self", "whole", "places", "place", "at"]
theorem sc_undone : FnScope N_undone ["self"] (defScope (st_T 9)) := ⟨rfl, rfl, rfl, by decide +kernel, rfl, by decide +kernel, by decide +kernel⟩
theorem ok_undone {f : Addr} {fd : FuncData} (F : Fun K "undone" "Table.undone" (st_T 9) f fd) (T : Txt mg) (Tc : Tcl K mg C) (D1 : Prp P w K mg base C "determinant" 8 (sp_detP C)) (D2 : Prp P w K mg base C "size" 1 (sp_size C))
    (D3 : ∀ n, Def P w K mg base "cofactor" (2 * n + 2) ["rows", "at", "place"] (sp_cof n)) (D4 : Mkr P w K mg base C) : FnOk P w K mg base CX0 10 f fd ["self"] (sp_undone C) := by
  refine F.ok sc_undone (fun vs H Q E h => ?_) (fun cdv A outer s H vs Q E hr h => ?_)
  · obtain ⟨v, M, n, rfl, _⟩ := h
    rfl
  · obtain ⟨v, M, n, rfl, hv, G, hS, hU, q⟩ := h
    obtain ⟨m, rfl⟩ : ∃ m, n = m + 1 := ⟨n - 1, by have := G.h1; omega⟩
    have h3 := G.h3
    refine ⟨_, pss_cons (ps_set (i := 1) sc_undone.nd rfl (Or.inr rfl) (pe_prp D1 Tc.cl hr (pv 0)))
      (pss_cons (ps_set (i := 2) sc_undone.nd rfl (Or.inr rfl) (pe_callTy (r := rRng1) cr_range1 (by rfl) T.range PyProof.Rows.boot_range (pa_cons (pe_prp D2 Tc.cl hr (pv 0)) pa_nil)))
      (pss_one (ps_ret (pe_mkr D4 Tc hr (pa_cons (pe_lc (own := [("place", 3)]) (g := gName 3) (tt := tYes) rfl sc_undone.nd (pi_rng (pv 2))
        (blkOk_by (N := N_undone) (sc := defScope (st_T 9)) (by decide +kernel))
        (fun _ _ _ _ _ => pg_name (i := 3) sc_undone.nd rfl (Or.inr rfl) (Or.inl rfl)) (fun _ _ _ _ _ => pts_nil)
        (fun s' H' C' cl' fp' => by
          refine pe_lc (own := [("at", 4)]) (wi := iRngV (tVar 2)) (g := gName 4) (tt := tYes) (te := tOp (rI CMul fun i j => .int (i * j)) (tVar 1) (tCall (sp_cof m) [] E0 (tCons (tFld K (tVar 0) "_rows") (tCons (tVar 4) (tCons (tVar 3) tNil))))) rfl sc_undone.nd ?p1 ?p2 ?p3 ?p4 ?p5
          case p1 => exact pi_rng (pv 2)
          case p2 => exact blkOk_by (N := N_undone) (by rfl)
          case p3 => exact (fun _ _ _ _ _ => pg_name (i := 4) sc_undone.nd rfl (Or.inl rfl) (Or.inr rfl))
          case p4 => exact (fun _ _ _ _ _ => pts_nil)
          case p5 => exact (fun _ _ _ _ _ => pe_op op_mul (pv 1) (pe_def (X := Cx.blk _ _ _ _ _ _) (D3 m) hr (pa_cons (pe_fld (pv 0) rfl) (pa_cons (pv 4) (pa_cons (pv 3) pa_nil))) (by omega))))) pa_nil))))), ?_⟩
    obtain ⟨p, dx, r, rfl, hp, hM⟩ := id hv
    refine ⟨_, rfl, p, dx, _, rfl, hp, .ref p, M, m + 1, rfl, hv, hS, h3, fun H1 s1 => ?_⟩
    refine ⟨_, rfl, p, dx, _, rfl, s1 _ _ hp, .ref p, M, rfl, T81.Tab.same s1 hv, _, rfl, fun pl np => ?_⟩
    have s2 : Same H (upd H1 pl (.rng 0 (M.length : Int))) := s1.trans (same_new np)
    have hpl : upd H1 pl (.rng 0 (M.length : Int)) pl = some (.rng 0 (M.length : Int)) := upd_same
    have hlen : (M.length : Int) = ((m + 1 : Nat) : Int) := by rw [hS.len]
    rw [hlen] at hpl s2 ⊢
    generalize upd H1 pl (.rng 0 ((m + 1 : Nat) : Int)) = H2 at hpl s2
    have hb : -(2 ^ 62) ≤ (0 : Int) ∧ (0 : Int) < 2 ^ 62 ∧ -(2 ^ 62) ≤ ((m + 1 : Nat) : Int) ∧ ((m + 1 : Nat) : Int) < 2 ^ 62 := ⟨by decide, by decide, by omega, by omega⟩
    have hn : (((m + 1 : Nat) : Int) - 0).toNat = m + 1 := by omega
    have hw : -(2 ^ 64) < detM (m + 1) M ∧ detM (m + 1) M < 2 ^ 64 := by rcases G.d with e | e <;> rw [e] <;> exact ⟨by decide, by decide⟩
    refine r_nret (r_cons (tlc_call ?_))
    refine ⟨_, rfl, pl, 0, ((m + 1 : Nat) : Int), rfl, hpl, hb, ?_⟩
    rw [hn]
    refine lc_fresh (p := none) (m + 1) (fun i => .lst (((undM (m + 1) M).getD i []).map V.int)) has_none (by omega) (fun i H3 hi s3 => hi) (fun H3 s3 => Nat.le_refl _) (fun i x H3 H4 C' hi s3 _ hy hC => ?_) fun Da H3 rs nD s3 hD hrl hE => ?_
    · obtain ⟨rfl, rfl⟩ := hy
      refine ⟨rfl, ?_⟩
      refine tlc_call ?_
      refine ⟨_, rfl, pl, 0, ((m + 1 : Nat) : Int), rfl, s3.same _ _ hpl, hb, ?_⟩
      rw [hn]
      refine lc_el (p := none) (m + 1) (fun j v => v = .int (detM (m + 1) M * cofM m M j i)) has_none (by omega) (fun j H5 hj s5 => hj) (fun H5 s5 => Nat.le_refl _) (fun j x H5 H6 C2 hj s5 _ hy2 hC2 => ?_) fun Db H5 ys nDb s5 hDb hyl hyE => ?_
      · obtain ⟨rfl, rfl⟩ := hy2
        refine ⟨rfl, ?_⟩
        have sz := s2.trans (s3.same.trans s5.same)
        refine ⟨_, rfl, _, rfl, p, C, dx, _, _, rfl, sz _ _ hp, Tc.cl, Tc.nR, fldsT_rows _, _, rfl, _, rfl, ?_⟩
        refine ⟨r, M, j, i, by simp, hM.mono (KS.of sz), by omega, hS, by omega, by omega, fun H7 s7 => ?_⟩
        exact ⟨_, _, rfl, rfl, .inl hw, hC2 _ _ (RX.of s7) rfl⟩
      · refine hC Db H5 s5 nDb ?_
        have ey : ys = (List.range (m + 1)).map fun j => V.int (detM (m + 1) M * cofM m M j i) := map_of_get (n := 0) _ (by rw [hyl, List.length_range]) fun j v e => by
          have hj : j < m + 1 := by rw [← hyl]; exact (List.getElem?_eq_some_iff.mp e).1
          exact ⟨j, List.getElem?_range hj, hyE j v e⟩
        rw [hDb, ey, und_get hi, List.map_map]
        rfl
    · have S := s2.trans s3.same
      have hpy : PyV H3 (.ref Da) (lmD (undM (m + 1) M)) := py_lm hD (by rw [hrl, (und_sh (n := m + 1) (M := M)).len]) hE
      exact make_any (.inl hpy) (grid_lm _) hU G.h1 h3 G.und.d fun c H4 s4 ht => q c H4 (S.trans s4) ht
end
end T81
set_option Elab.async false
set_option linter.all false
set_option maxRecDepth 100000
set_option maxHeartbeats 4000000
namespace Rt
open PySem PySem.Spec PyProof.Rows L2 Dn
theorem tuple_mul1 (l : Addr) (items : Array Value) (n : Nat) (dd : Option Addr) (sl : Array (Option Value)) (u : Tok) :
    Meets (Builtin.«tuple.__mul__» ⟨[.ref l, .int 1 u], []⟩) (fun _ R s => s.heap.get? l = some { cls := .type "tuple", dict := dd, data := .seq items n, slots := sl } ∧
      R (.ok (.ret (Value.ref l))) s) :=
  .of_wp fun prog w A R s h => by
    obtain ⟨hp, g, d, tk, os⟩ := s
    obtain ⟨hl, h⟩ := h
    have f1 := AutoSeq1.idx_int
    wp_walk using wpAny_loadPart' hl
    repeat (first
      | (refine wpAny_ite_false (by decide) ?_; wp_walk using wpAny_loadPart' hl)
      | (refine wpAny_ite_true (by simp) ?_; wp_walk using wpAny_loadPart' hl))
    exact ⟨_, rfl, h⟩
end Rt
set_option Elab.async false
set_option linter.all false
set_option maxRecDepth 100000
set_option maxHeartbeats 2000000
namespace T81
open PySem PySem.Spec PyProof.Rows L2 Gd Zn Rp Dn Tb Gn En Zs Ct Op Oc Rg Rt
abbrev mulR (C : Addr) : R2 := rOwnB C (fun vs H Q E => sp_mul C (vs ++ []) H Q E) E0
theorem rd_mul {C : Addr} {H : Hp} {Q : VK} {n : Nat} {M N : List (List Int)} {x y : V} (hx : Tab C H x M) (hy : Tab C H y N) (gM : Gr n M) (gN : Gr n N) (sM : Sq n M) (sN : Sq n N) (sP : Sq n (mulM n M N)) (q : ∀ c H', Same H H' → Tab C H' (.ref c) (mulM n M N) → Q (.ref c) H') : mulR C x y H Q := by
  obtain ⟨a, dx, r, rfl, ha, hm⟩ := id hx
  obtain ⟨b, dy, s, rfl, hb, hn⟩ := id hy
  exact ⟨a, dx, _, b, dy, _, rfl, rfl, ha, hb, .ref a, .ref b, M, N, n, rfl, hx, hy, gM.h1, gM.h3, sM, sN, sP, (gM.mul gN).d, fun c H' s ht => ⟨⟨c, rfl⟩, q c H' s ht⟩⟩
theorem noU {r : V} {m : Str} (e : ¬ m = ("_rows" : Str) := by decide +kernel) : (fldsT r).lookup m = none := by
  unfold fldsT; rw [lookup_putF, if_neg e]; rfl
def besM (n m : Nat) (M N : List (List Int)) : List (List Int) := (M.map fun r => r ++ List.replicate m 0) ++ (N.map fun r => List.replicate n 0 ++ r)
theorem bes_sh {n m : Nat} {M N : List (List Int)} (hM : Sh n M) (hN : Sh m N) : Sh (n + m) (besM n m M N) := by
  refine ⟨?_, fun r hr => ?_⟩
  · unfold besM
    rw [List.length_append, List.length_map, List.length_map, hM.len, hN.len]
  · unfold besM at hr
    rcases List.mem_append.mp hr with h | h
    · obtain ⟨s, hs, rfl⟩ := List.mem_map.mp h
      rw [List.length_append, List.length_replicate, hM.row s hs]
    · obtain ⟨s, hs, rfl⟩ := List.mem_map.mp h
      rw [List.length_append, List.length_replicate, hN.row s hs]
section
variable {P : Program} {w : World} {K : PySem.W.Frag} {mg : Str → Option Value} {base : Heap} {C : Addr}
structure OkB (n m : Nat) (M N : List (List Int)) : Prop where
  gM : Gr n M
  gN : Gr m N
  sM : Sq n M
  sN : Sq m N
  h3 : n + m ≤ 3
theorem OkB.sq {n m : Nat} {M N : List (List Int)} (h : OkB n m M N) : Sq (n + m) (besM n m M N) := by
  refine ⟨(bes_sh h.gM.sh h.gN.sh).len, (bes_sh h.gM.sh h.gN.sh).row, fun r hr x hx => ?_⟩
  unfold besM at hr
  have z : Small 0 := Wd.lit ⟨by decide, by decide⟩
  rcases List.mem_append.mp hr with h' | h'
  · obtain ⟨s, hs, rfl⟩ := List.mem_map.mp h'
    rcases List.mem_append.mp hx with h' | h'
    · exact h.sM.small s hs x h'
    · rw [(List.mem_replicate.mp h').2]; exact z
  · obtain ⟨s, hs, rfl⟩ := List.mem_map.mp h'
    rcases List.mem_append.mp hx with h' | h'
    · rw [(List.mem_replicate.mp h').2]; exact z
    · exact h.sN.small s hs x h'
theorem _root_.Tb.RowsV.append {H : Hp} {vs ws : List V} {M N : List (List Int)} (h : RowsV H vs M) (k : RowsV H ws N) : RowsV H (vs ++ ws) (M ++ N) := by
  induction h with
  | nil => exact k
  | cons p _ ih => exact .cons p ih
end
end T81
set_option Elab.async false
set_option linter.all false
set_option maxRecDepth 100000
set_option maxHeartbeats 2000000
namespace T81
open PySem PySem.Spec PyProof.Rows L2 Gd Zn Rp Dn Tb Gn En Zs Ct Op Oc Rg Rt
/-- any iterator, walked by an invariant -/
theorem for_by {J : It} {g : TG} {tb : TS} {D : Ends} {σ : L2.St} {H : Hp} (n : Nat) (Pv : Nat → L2.St → Hp → Prop) (h0 : Pv 0 σ H) (hgo : ∀ i σ H, i < n → Pv i σ H → J.go i H) (hst : ∀ σ H, Pv n σ H → J.stop n H)
    (hs : ∀ i x σ H H', i < n → Pv i σ H → J.yld i H x H' → g x σ H' fun σ2 H2 => tb { D with nx := Pv (i + 1), ct := Pv (i + 1), bk := D.nx } σ2 H2) (hd : ∀ σ H, Pv n σ H → D.nx σ H) :
    ∃ W : Nat → Nat → L2.St → Hp → Prop, (∃ m, W 0 m σ H) ∧ ∀ i m σ H, W i m σ H →
      (J.stop i H ∧ D.nx σ H) ∨ (J.go i H ∧ ∃ N : L2.St → Hp → Prop, (∀ σ' H', N σ' H' → ∃ m', m' < m ∧ W (i + 1) m' σ' H') ∧ ∀ x H', J.yld i H x H' → g x σ H' fun σ2 H2 => tb { D with nx := N, ct := N, bk := D.nx } σ2 H2) := by
  refine ⟨fun i m σ H => m = n - i ∧ i ≤ n ∧ Pv i σ H, ⟨n, by simp, Nat.zero_le _, h0⟩, ?_⟩
  rintro i m σ H ⟨rfl, hi, p⟩
  by_cases hlt : i < n
  · exact .inr ⟨hgo i σ H hlt p, Pv (i + 1), fun σ' H' p' => ⟨n - (i + 1), by omega, rfl, hlt, p'⟩, fun x H' y => hs i x σ H H' hlt p y⟩
  · have e : i = n := by omega
    subst e
    exact .inl ⟨hst σ H p, hd σ H p⟩
/-- rows as tuples, in a tuple or a list -/
def MxS (H : Hp) (v : V) (M : List (List Int)) : Prop := ∃ (t : Bool) (a : Addr) (vs : List V), v = .ref a ∧ H a = some (if t = true then .tup vs else .lst vs) ∧ RowsV H vs M
theorem Mx.s {H : Hp} {v : V} {M : List (List Int)} (h : Mx H v M) : MxS H v M := by
  obtain ⟨a, vs, rfl, h, r⟩ := h
  exact ⟨true, a, vs, rfl, h, r⟩
theorem MxS.same {H H' : Hp} {v : V} {M : List (List Int)} (s : Same H H') (h : MxS H v M) : MxS H' v M := by
  obtain ⟨t, a, vs, rfl, h, r⟩ := h
  exact ⟨t, a, vs, rfl, s _ _ h, r.mono (KS.of s)⟩
theorem sq_at {K : PySem.W.Frag} {H : Hp} {t : Bool} {a : Addr} {vs : List V} (h : H a = some (if t = true then .tup vs else .lst vs)) : SqV K H t a vs := by
  cases t with
  | true => exact .inl (.inl h)
  | false => exact .inl (.inl h)
end T81
set_option Elab.async false
set_option linter.all false
set_option maxRecDepth 100000
set_option maxHeartbeats 2000000
namespace T81
open PySem PySem.Spec PyProof.Rows L2 Gd Zn Rp Dn Tb Gn En Zs Ct Op Oc Rg Rt
section
variable {P : Program} {w : World} {K : PySem.W.Frag} {mg : Str → Option Value} {base : Heap} {C : Addr}
theorem _root_.L2.FnOk.any {P : Program} {w : World} {K : PySem.W.Frag} {mg : Str → Option Value} {base : Heap} {CX : CXT} {k : Nat} {f : Addr} {fd : FuncData} {ps : List Str} {sp : Nat → Sp} (F : ∀ n, 1 ≤ n → n ≤ 3 → FnOk P w K mg base CX k f fd ps (sp n)) :
    FnOk P w K mg base CX k f fd ps (fun vs H Q E => ∃ n, 1 ≤ n ∧ n ≤ 3 ∧ sp n vs H Q E) :=
  ⟨fun vs H Q E ⟨n, h1, h3, q⟩ => (F n h1 h3).len vs H Q E q, fun A outer s H args us vs Q E hr he hb hv ⟨n, h1, h3, q⟩ => (F n h1 h3).run A outer s H args us vs Q E hr he hb hv q⟩
end
end T81
set_option Elab.async false
set_option linter.all false
set_option maxRecDepth 100000
set_option maxHeartbeats 2000000
set_option Elab.async false
set_option linter.all false
set_option maxRecDepth 100000
set_option maxHeartbeats 2000000
namespace T81
open PySem PySem.Spec PyProof.Rows L2 Gd Zn Rp Dn Tb Gn En Zs Ct Op Oc Rg Rt
/-- bounds by bits -/
structure SqE (n k : Nat) (M : List (List Int)) : Prop where
  len : M.length = n
  row : ∀ r ∈ M, r.length = n
  bd : ∀ r ∈ M, ∀ x ∈ r, x.natAbs < 2 ^ k
theorem SqE.sh {n k : Nat} {M : List (List Int)} (h : SqE n k M) : Sh n M := ⟨h.len, h.row⟩
theorem SqE.mono {n k l : Nat} {M : List (List Int)} (h : SqE n k M) (e : k ≤ l) : SqE n l M := ⟨h.len, h.row, fun r hr x hx => Wd.abs_mono (h.bd r hr x hx) e⟩
theorem SqE.sq {n k : Nat} {M : List (List Int)} (h : SqE n k M) (e : k ≤ 20000) : Sq n M := ⟨h.len, h.row, fun r hr x hx => ⟨k, e, h.bd r hr x hx⟩⟩
theorem SqB.e {n k : Nat} {B : Int} {M : List (List Int)} (h : SqB n B M) (e : B.toNat < 2 ^ k) : SqE n k M := ⟨h.len, h.row, fun r hr x hx => by
  have := h.bd r hr x hx
  omega⟩
theorem ae1 {a b : Int} {k l : Nat} (ha : a.natAbs < 2 ^ k) (hb : b.natAbs < 2 ^ l) : (a * b).natAbs < 2 ^ (k + l + 2) := Wd.abs_mono (Wd.abs_mul ha hb) (by omega)
theorem ae2 {a b c d : Int} {k l : Nat} (ha : a.natAbs < 2 ^ k) (hb : b.natAbs < 2 ^ l) (hc : c.natAbs < 2 ^ k) (hd : d.natAbs < 2 ^ l) : (a * b + c * d).natAbs < 2 ^ (k + l + 2) :=
  Wd.abs_mono (Wd.abs_add (Wd.abs_mul ha hb) (Wd.abs_mul hc hd)) (by omega)
theorem ae3 {a b c d e f : Int} {k l : Nat} (ha : a.natAbs < 2 ^ k) (hb : b.natAbs < 2 ^ l) (hc : c.natAbs < 2 ^ k) (hd : d.natAbs < 2 ^ l) (he : e.natAbs < 2 ^ k) (hf : f.natAbs < 2 ^ l) : (a * b + (c * d + e * f)).natAbs < 2 ^ (k + l + 2) :=
  Wd.abs_add (Wd.abs_mono (Wd.abs_mul ha hb) (by omega)) (Wd.abs_add (Wd.abs_mul hc hd) (Wd.abs_mul he hf))
theorem SqE.mul {n k l : Nat} {M N : List (List Int)} (hM : SqE n k M) (hN : SqE n l N) (h1 : 1 ≤ n) (h3 : n ≤ 3) : SqE n (k + l + 2) (mulM n M N) := by
  refine ⟨(mul_sh h1 h3 hM.sh hN.sh).len, (mul_sh h1 h3 hM.sh hN.sh).row, ?_⟩
  have : n = 1 ∨ n = 2 ∨ n = 3 := by omega
  rcases this with rfl | rfl | rfl
  · obtain ⟨a, rfl⟩ := sh1 hM.sh rfl
    obtain ⟨b, rfl⟩ := sh1 hN.sh rfl
    have x := hM.bd
    have y := hN.bd
    rw [mulE1]
    simp only [List.mem_cons, List.not_mem_nil, or_false, forall_eq] at x y ⊢
    exact ae1 x y
  · obtain ⟨a, b, c, d, rfl⟩ := sh2 hM.sh rfl
    obtain ⟨e, f, g, h, rfl⟩ := sh2 hN.sh rfl
    have x := hM.bd
    have y := hN.bd
    rw [mulE2]
    simp only [List.mem_cons, List.not_mem_nil, or_false, forall_eq_or_imp, forall_eq] at x y ⊢
    obtain ⟨⟨x1, x2⟩, x3, x4⟩ := x
    obtain ⟨⟨y1, y2⟩, y3, y4⟩ := y
    exact ⟨⟨ae2 x1 y1 x2 y3, ae2 x1 y2 x2 y4⟩, ae2 x3 y1 x4 y3, ae2 x3 y2 x4 y4⟩
  · obtain ⟨a, b, c, d, e, f, g, h, i, rfl⟩ := sh3 hM.sh rfl
    obtain ⟨j, k', l', m, n, o, p, q, r, rfl⟩ := sh3 hN.sh rfl
    have x := hM.bd
    have y := hN.bd
    rw [mulE3]
    simp only [List.mem_cons, List.not_mem_nil, or_false, forall_eq_or_imp, forall_eq] at x y ⊢
    obtain ⟨⟨x1, x2, x3⟩, ⟨x4, x5, x6⟩, x7, x8, x9⟩ := x
    obtain ⟨⟨y1, y2, y3⟩, ⟨y4, y5, y6⟩, y7, y8, y9⟩ := y
    exact ⟨⟨ae3 x1 y1 x2 y4 x3 y7, ae3 x1 y2 x2 y5 x3 y8, ae3 x1 y3 x2 y6 x3 y9⟩, ⟨ae3 x4 y1 x5 y4 x6 y7, ae3 x4 y2 x5 y5 x6 y8, ae3 x4 y3 x5 y6 x6 y9⟩, ae3 x7 y1 x8 y4 x9 y7, ae3 x7 y2 x8 y5 x9 y8, ae3 x7 y3 x8 y6 x9 y9⟩
theorem pmE {d x : Int} {k : Nat} (hd : d = 1 ∨ d = -1) (hx : x.natAbs < 2 ^ k) : (d * x).natAbs < 2 ^ k ∧ (-(d * x)).natAbs < 2 ^ k := by
  rcases hd with rfl | rfl <;> omega
theorem dfE {a b c d : Int} {k : Nat} (ha : a.natAbs < 2 ^ k) (hb : b.natAbs < 2 ^ k) (hc : c.natAbs < 2 ^ k) (hd : d.natAbs < 2 ^ k) : (a * b - c * d).natAbs < 2 ^ (2 * k + 1) := by
  have h1 := Wd.abs_mul ha hb
  have h2 := Wd.abs_mul hc hd
  have e : 2 * k + 1 = (k + k) + 1 := by omega
  rw [e, Nat.pow_succ]
  omega
theorem SqE.und {n k : Nat} {M : List (List Int)} (h : SqE n k M) (g : Gr n M) : SqE n (2 * k + 1) (undM n M) := by
  refine ⟨und_sh.len, und_sh.row, ?_⟩
  have hd := g.d
  have kk : k ≤ 2 * k + 1 := by omega
  rcases g.cases with rfl | rfl | rfl
  · obtain ⟨x, rfl⟩ := sh1 h.sh rfl
    have b := h.bd
    rw [undE1]
    simp only [List.mem_cons, List.not_mem_nil, or_false, forall_eq] at b ⊢
    exact Wd.abs_mono b kk
  · obtain ⟨x, y, z, w, rfl⟩ := sh2 h.sh rfl
    have b := h.bd
    rw [undE2]
    rw [det2] at hd
    generalize x * w - y * z = d at hd
    simp only [List.mem_cons, List.not_mem_nil, or_false, forall_eq_or_imp, forall_eq] at b ⊢
    obtain ⟨⟨b1, b2⟩, b3, b4⟩ := b
    exact ⟨⟨(pmE hd (Wd.abs_mono b4 kk)).1, (pmE hd (Wd.abs_mono b2 kk)).2⟩, (pmE hd (Wd.abs_mono b3 kk)).2, (pmE hd (Wd.abs_mono b1 kk)).1⟩
  · obtain ⟨x, y, z, u, v, w, r, s, t, rfl⟩ := sh3 h.sh rfl
    have b := h.bd
    rw [undE3]
    rw [det3] at hd
    dsimp only
    generalize x * (v * t - w * s) - y * (u * t - w * r) + z * (u * s - v * r) = d at hd
    simp only [List.mem_cons, List.not_mem_nil, or_false, forall_eq_or_imp, forall_eq] at b ⊢
    obtain ⟨⟨b1, b2, b3⟩, ⟨b4, b5, b6⟩, b7, b8, b9⟩ := b
    exact ⟨⟨(pmE hd (dfE b5 b9 b6 b8)).1, (pmE hd (dfE b2 b9 b3 b8)).2, (pmE hd (dfE b2 b6 b3 b5)).1⟩, ⟨(pmE hd (dfE b4 b9 b6 b7)).2, (pmE hd (dfE b1 b9 b3 b7)).1, (pmE hd (dfE b1 b6 b3 b4)).2⟩, (pmE hd (dfE b4 b8 b5 b7)).1, (pmE hd (dfE b1 b8 b2 b7)).2, (pmE hd (dfE b1 b5 b2 b4)).1⟩
/-- a Table in the heap, with the bits of its numbers -/
structure Tv (C : Addr) (H : Hp) (x : V) (n : Nat) (b : Nat) (M : List (List Int)) : Prop where
  tab : Tab C H x M
  gr : Gr n M
  bd : SqE n b M
theorem Tv.same {C : Addr} {H H' : Hp} {x : V} {n : Nat} {b : Nat} {M : List (List Int)} (h : Tv C H x n b M) (s : Same H H') : Tv C H' x n b M := ⟨T81.Tab.same s h.tab, h.gr, h.bd⟩
theorem Tv.ks {C : Addr} {H H' : Hp} {x : V} {n : Nat} {b : Nat} {M : List (List Int)} (h : Tv C H x n b M) (s : KS H H') : Tv C H' x n b M := ⟨T81.Tab.mono s h.tab, h.gr, h.bd⟩
section
variable {C : Addr} {H : Hp} {Q : VK} {E : XK} {n m : Nat} {b c : Nat} {M N : List (List Int)} {x y : V}
theorem p_rows (hx : Tab C H x M) (q : ∀ r, Mx H r M → Q r H) : ∃ a dx fs, x = .ref a ∧ H a = some (.ins C dx fs) ∧ sp_rows C (.ref a :: []) H Q E := by
  obtain ⟨a, dx, r, rfl, ha, hm⟩ := id hx
  exact ⟨a, dx, _, rfl, ha, _, M, rfl, hx, q⟩
theorem p_size (hx : Tab C H x M) (q : Q (.int M.length) H) : ∃ a dx fs, x = .ref a ∧ H a = some (.ins C dx fs) ∧ sp_size C (.ref a :: []) H Q E := by
  obtain ⟨a, dx, r, rfl, ha, hm⟩ := id hx
  exact ⟨a, dx, _, rfl, ha, _, M, rfl, hx, q⟩
theorem m_und (hx : Tv C H x n b M) (q : ∀ d H', Same H H' → Tv C H' (.ref d) n (2 * b + 1) (undM n M) → Q (.ref d) H') (h : b ≤ 9000 := by decide) :
    ∃ a dx fs, x = .ref a ∧ H a = some (.ins C dx fs) ∧ fs.lookup ("undone" : Str) = none ∧ sp_undone C (x :: ([] ++ [])) H Q E := by
  obtain ⟨a, dx, r, rfl, ha, hm⟩ := id hx.tab
  exact ⟨a, dx, _, rfl, ha, noU, _, M, n, rfl, hx.tab, hx.gr, hx.bd.sq (by omega), (hx.bd.und hx.gr).sq (by omega), fun d H' s t => q d H' s ⟨t, hx.gr.und, hx.bd.und hx.gr⟩⟩
theorem o_mul (hx : Tv C H x n b M) (hy : Tv C H y n c N) (q : ∀ d H', Same H H' → Tv C H' (.ref d) n (b + c + 2) (mulM n M N) → Q (.ref d) H') (h : b + c ≤ 19000 := by decide) : mulR C x y H Q := by
  have p := hx.bd.mul hy.bd hx.gr.h1 hx.gr.h3
  exact rd_mul hx.tab hy.tab hx.gr hy.gr (hx.bd.sq (by omega)) (hy.bd.sq (by omega)) (p.sq (by omega)) fun d H' s t => q d H' s ⟨t, hx.gr.mul hy.gr, p⟩
theorem c_idle (h1 : 1 ≤ n) (h3 : n ≤ 3) (q : ∀ d H', Same H H' → Tv C H' (.ref d) n 1 (unitM n) → Q (.ref d) H') : sp_idle C [.int n] H Q E :=
  ⟨n, rfl, h1, h3, fun d H' s t => q d H' s ⟨t, gr_unit h1 h3, (unit_sqB n).e (by decide)⟩⟩
theorem Tv.up (h : Tv C H x n b M) (k : b ≤ c) : Tv C H x n c M := ⟨h.tab, h.gr, h.bd.mono k⟩
theorem c_make (hM : Mx H x M) (g : Gr n M) (bd : SqE n b M) (lb : b ≤ 20000) (q : ∀ d H', Same H H' → Tv C H' (.ref d) n b M → Q (.ref d) H') : ∀ z dx : Addr, H z = none → H dx = none → dx ≠ z → sp_init C (V.ref z :: ([x] ++ [])) (upd (upd H dx (.own z)) z (.ins C dx [])) (fun u H2 => u = V.non ∧ Q (.ref z) H2) E :=
  make_tab hM (bd.sq lb) g.h1 g.h3 g.d fun d H' s t => q d H' s ⟨t, g, bd⟩
end
structure DefK (P : Program) (w : World) (K : PySem.W.Frag) (mg : Str → Option Value) (base : Heap) (nm : Str) (k : Nat) (ps ks : List Str) (sp : Sp) (g : List Value → List Value → List Value) (gV : List V → List V → List V) : Prop where
  ex : ∃ (f : Addr) (fd : FuncData), FnOk P w K mg base CX0 k f fd ps sp ∧ mg nm = some (.ref f) ∧ PySem.W.keepIn K (.ref f) = true ∧ Binds K fd ps [] ∧ KBinds K fd ps ks g gV
theorem DefK.d {P : Program} {w : World} {K : PySem.W.Frag} {mg : Str → Option Value} {base : Heap} {nm : Str} {k : Nat} {ps ks : List Str} {sp : Sp} {g gV} (D : DefK P w K mg base nm k ps ks sp g gV) : Def P w K mg base nm k ps sp :=
  let ⟨f, fd, G, m, kp, b, _⟩ := D.ex
  ⟨f, fd, G, m, kp, b⟩
theorem pe_defN {X : Cx} {nm : Str} {k j : Nat} {ps ks : List Str} {sp : Sp} {g gV} {kws : List Keyword} {tk : TA} {p pos : Pos} (D : DefK X.prog X.w X.K X.mg X.base nm k ps ks sp g gV) (room : Room j X.A) (hkw : PK X kws tk) (hkj : k ≤ j := by decide) (hg : Gl X nm := by rfl) (hdb : (nm == ("__debug__" : Str)) = false := by decide)
    (hall : (backToKw pos (keywordEach kws X.env)).all (·.1.isSome) = true := by rfl) (hks : (backToKw pos (keywordEach kws X.env)).filterMap (·.1) = ks := by rfl)
    (hpl : ((backTo pos (starEach [] X.env)).any (·.1) || (backToKw pos (keywordEach kws X.env)).any (·.1.isNone)) = false := by rfl) :
    PE X (.Call (.Name nm p) [] kws pos) (fun σ H Q => tk σ H fun zs H2 => sp (gV [] zs) H2 Q E0) := by
  obtain ⟨f, fd, G, m, kp, b, kb⟩ := D.ex
  exact pe_names G (room.mono hkj) hg m kp kb pass0 hkw hall hks hdb hpl
abbrev gV2 : List V → List V → List V := fun us ws => match us, ws with | [], [a, b] => [b, a] | _, _ => []
abbrev gU2 : List Value → List Value → List Value := fun us ws => match us, ws with | [], [a, b] => [b, a] | _, _ => []
abbrev gV1 : List V → List V → List V := fun us ws => match us, ws with | [], [a] => [a] | _, _ => []
end T81
set_option Elab.async false
set_option linter.all false
set_option maxRecDepth 100000
set_option maxHeartbeats 4000000
namespace T81
open PySem PySem.Spec PyProof.Rows L2 Gd Zn Rp Dn Tb Gn En Zs Ct Op Oc Rg Rt
theorem r_or {t u : TT} {σ : L2.St} {H : Hp} {Q : Bool → Hp → Prop} (h : t σ H fun c H1 => if c = true then Q true H1 else u σ H1 Q) : tOr t u σ H Q := h
theorem r_tt {te : TE} {σ : L2.St} {H : Hp} {Q : Bool → Hp → Prop} (h : te σ H fun x H1 => ∃ k, x = .bl k ∧ Q k H1) : tTest te σ H Q := h
theorem a1 {sp : Sp} {E : XK} {ta : TE} {σ : L2.St} {H : Hp} {Q : VK} (h : ta σ H fun x H1 => sp [x] H1 Q E) : tCall sp [] E (tCons ta tNil) σ H Q := h
theorem a2 {sp : Sp} {E : XK} {ta tb : TE} {σ : L2.St} {H : Hp} {Q : VK} (h : ta σ H fun x H1 => tb σ H1 fun y H2 => sp [x, y] H2 Q E) : tCall sp [] E (tCons ta (tCons tb tNil)) σ H Q := h
theorem r_meth0 {C : Addr} {m : Str} {sp : Sp} {E : XK} {ta : TE} {σ : L2.St} {H : Hp} {Q : VK} (h : ta σ H fun x H1 => ∃ a dx fs, x = .ref a ∧ H1 a = some (.ins C dx fs) ∧ fs.lookup m = none ∧ sp (x :: ([] ++ [])) H1 Q E) : tMeth C m sp [] E ta tNil σ H Q := h
theorem r_tup {t : TA} {σ : L2.St} {H : Hp} {Q : VK} (h : t σ H fun xs H1 => xs.length ≤ sizeLine ∧ ∀ p, H1 p = none → Q (.ref p) (upd H1 p (.tup xs))) : tTup t σ H Q := h
theorem mk1 {C : Addr} {E : XK} {ta : TE} {σ : L2.St} {H : Hp} {Q : VK} (h : ta σ H fun x H1 => ∀ z dx : Addr, H1 z = none → H1 dx = none → dx ≠ z → sp_init C (V.ref z :: ([x] ++ [])) (upd (upd H1 dx (.own z)) z (.ins C dx [])) (fun u H2 => u = V.non ∧ Q (.ref z) H2) E) : tMake C (sp_init C) [] E (tCons ta tNil) σ H Q := h
theorem mk_v {C : Addr} {E : XK} {σ : L2.St} {H : Hp} {Q : VK} {i n : Nat} {b : Nat} {M : List (List Int)} {v : V} (e : σ[i]? = some (some v)) (hM : Mx H v M) (g : Gr n M) (bd : SqE n b M) (lb : b ≤ 20000) (q : ∀ d H', Same H H' → Tv C H' (.ref d) n b M → Q (.ref d) H') :
    tMake C (sp_init C) [] E (tCons (tVar i) tNil) σ H Q := mk1 ⟨_, e, fun z dx nz nd ne => c_make (Q := Q) hM g bd lb q z dx nz nd ne⟩
theorem n2 {sp : Sp} {ta tb : TE} {σ : L2.St} {H : Hp} {Q : VK} (h : ta σ H fun x H1 => tb σ H1 fun y H2 => sp [y, x] H2 Q E0) : tCons ta (tCons tb tNil) σ H (fun zs H2 => sp (gV2 [] zs) H2 Q E0) := h
theorem r_prop {C : Addr} {sp : Sp} {E : XK} {ta : TE} {σ : L2.St} {H : Hp} {Q : VK} (h : ta σ H fun x H1 => ∃ a dx fs, x = .ref a ∧ H1 a = some (.ins C dx fs) ∧ sp (.ref a :: []) H1 Q E) : tProp C sp [] E ta σ H Q := h
theorem r_par2 {i j : Nat} {ta : TA} {D : Ends} {σ : L2.St} {H : Hp} (h : ta σ H fun vs H1 => ∃ v w, vs = [v, w] ∧ D.nx ((σ.set i (some v)).set j (some w)) H1) : tPar i j ta D σ H := h
theorem shaped_row (r : List Int) : SeqAt.shaped (.tuple (r.map PyData.int)) = true := by
  unfold SeqAt.shaped
  rw [PyData.canLay0, lay_row, PyData.depth, depth_row]
  rfl
theorem r_meth1 {C : Addr} {m : Str} {sp : Sp} {E : XK} {ta tb : TE} {σ : L2.St} {H : Hp} {Q : VK} (h : ta σ H fun x H1 => ∃ a dx fs, x = .ref a ∧ H1 a = some (.ins C dx fs) ∧ fs.lookup m = none ∧ tb σ H1 fun y H2 => sp [x, y] H2 Q E) : tMeth C m sp [] E ta (tCons tb tNil) σ H Q := h
theorem Tv.mx {C : Addr} {H : Hp} {x : V} {n : Nat} {b : Nat} {M : List (List Int)} (h : Tv C H x n b M) : M.length = n := h.bd.len
theorem a3 {sp : Sp} {E : XK} {ta tb tc : TE} {σ : L2.St} {H : Hp} {Q : VK} (h : ta σ H fun x H1 => tb σ H1 fun y H2 => tc σ H2 fun z H3 => sp [x, y, z] H3 Q E) : tCall sp [] E (tCons ta (tCons tb (tCons tc tNil))) σ H Q := h
structure DefG (P : Program) (w : World) (K : PySem.W.Frag) (mg : Str → Option Value) (base : Heap) (nm : Str) (k : Nat) (ps : List Str) (sp : Sp) : Prop where
  ex : ∃ (f : Addr) (fd : FuncData), FnG P w K mg base CX0 k f fd ps sp ∧ mg nm = some (.ref f) ∧ PySem.W.keepIn K (.ref f) = true ∧ Binds K fd ps []
theorem pe_defG {X : Cx} {nm : Str} {k j : Nat} {ps : List Str} {sp : Sp} {e : Expr} {es : List Expr} {t : TA} {p pos : Pos} (D : DefG X.prog X.w X.K X.mg X.base nm k ps sp) (hst : Still X.A) (room : Room j X.A) (ha : PA X (e :: es) t) (hkj : k ≤ j := by decide) (hg : Gl X nm := by rfl)
    (hdb : (nm == ("__debug__" : Str)) = false := by decide) (he : starEach (e :: es) X.env = (false, eval e X.env) :: starEach es X.env := by rfl) (hpl : (backTo pos (starEach es X.env)).any (·.1) = false := by rfl) :
    PE X (.Call (.Name nm p) (e :: es) [] pos) (tCall sp [] E0 t) := by
  obtain ⟨f, fd, G, m, kp, b⟩ := D.ex
  exact pe_callG G hst (room.mono hkj) hg m kp b .nil pass0 ha hdb he hpl
theorem cb1 {r : List V → Hp → VK → Prop} {ta : TE} {σ : L2.St} {H : Hp} {Q : VK} (h : ta σ H fun x H1 => r [x] H1 Q) : tCB r (tCons ta tNil) σ H Q := h
theorem r_lst {t : TA} {σ : L2.St} {H : Hp} {Q : VK} (h : t σ H fun xs H1 => xs.length ≤ sizeLine ∧ ∀ p, H1 p = none → Q (.ref p) (upd H1 p (.lst xs))) : tLst t σ H Q := h
def MkA (C : Addr) (H : Hp) (x : V) (Q : VK) : Prop := ∀ z dx : Addr, H z = none → H dx = none → dx ≠ z → sp_init C (V.ref z :: ([x] ++ [])) (upd (upd H dx (.own z)) z (.ins C dx [])) (fun u H2 => u = V.non ∧ Q (.ref z) H2) E0
theorem mkA {C : Addr} {ta : TE} {σ : L2.St} {H : Hp} {Q : VK} (h : ta σ H fun x H1 => MkA C H1 x Q) : tMake C (sp_init C) [] E0 (tCons ta tNil) σ H Q := h
theorem MkA.of {C : Addr} {H : Hp} {v : V} {d : PyData} {M : List (List Int)} {n : Nat} {b : Nat} {Q : VK} (av : AnyV H v d) (g : GridD d M) (gr : Gr n M) (bd : SqE n b M) (lb : b ≤ 20000) (k : ∀ c H', Same H H' → Tv C H' (.ref c) n b M → Q (.ref c) H') : MkA C H v Q :=
  fun z dx nz nd ne => make_any (Q := Q) av g (bd.sq lb) gr.h1 gr.h3 gr.d (fun c H' s t => k c H' s ⟨t, gr, bd⟩) z dx nz nd ne
theorem r_par3 {i j l : Nat} {ta : TA} {D : Ends} {σ : L2.St} {H : Hp} (h : ta σ H fun vs H1 => ∃ u v w, vs = [u, v, w] ∧ D.nx (((σ.set i (some u)).set j (some v)).set l (some w)) H1) : tPar3 i j l ta D σ H := h
theorem led_mul {n : Nat} {M N : List (List Int)} {xs : List Int} (h1 : 1 ≤ n) (h3 : n ≤ 3) (hM : Sh n M) (hN : Sh n N) (hx : xs.length = n) : ledM (mulM n M N) xs = ledM M (ledM N xs) := by
  have : n = 1 ∨ n = 2 ∨ n = 3 := by omega
  rcases this with rfl | rfl | rfl
  · obtain ⟨a, rfl⟩ := sh1 hM rfl
    obtain ⟨b, rfl⟩ := sh1 hN rfl
    obtain ⟨x, rfl⟩ := len1 hx
    rw [mulE1]
    simp [ledM, dot]
    grind
  · obtain ⟨a, b, c, d, rfl⟩ := sh2 hM rfl
    obtain ⟨e, f, g, h, rfl⟩ := sh2 hN rfl
    obtain ⟨x, y, rfl⟩ := len2 hx
    rw [mulE2]
    simp [ledM, dot]
    constructor <;> grind
  · obtain ⟨a, b, c, d, e, f, g, h, i, rfl⟩ := sh3 hM rfl
    obtain ⟨j, k, l, m, n, o, p, q, r, rfl⟩ := sh3 hN rfl
    obtain ⟨x, y, z, rfl⟩ := len3 hx
    rw [mulE3]
    simp [ledM, dot]
    refine ⟨?_, ?_, ?_⟩ <;> grind
theorem led_unit {n : Nat} {xs : List Int} (h1 : 1 ≤ n) (h3 : n ≤ 3) (hx : xs.length = n) : ledM (unitM n) xs = xs := by
  have : n = 1 ∨ n = 2 ∨ n = 3 := by omega
  rcases this with rfl | rfl | rfl
  · obtain ⟨x, rfl⟩ := len1 hx
    simp [unitE1, ledM, dot]
  · obtain ⟨x, y, rfl⟩ := len2 hx
    simp [unitE2, ledM, dot]
  · obtain ⟨x, y, z, rfl⟩ := len3 hx
    simp [unitE3, ledM, dot]
theorem led_back {n : Nat} {M : List (List Int)} {xs : List Int} (g : Gr n M) (hx : xs.length = n) : ledM (undM n M) (ledM M xs) = xs := by
  rw [← led_mul g.h1 g.h3 und_sh g.sh hx, und_mul g, led_unit g.h1 g.h3 hx]
theorem SmN.up {a b a' b' : Nat} {d : PyData} (h : SmN a b d) (ha : a ≤ a') (hb : b ≤ b') : SmN a' b' d := ⟨h.sh, Nat.le_trans h.dp ha, h.ls, Nat.le_trans h.bk hb⟩
structure MtdN (P : Program) (w : World) (K : PySem.W.Frag) (mg : Str → Option Value) (base : Heap) (C : Addr) (nm : Str) (k : Nat) (ps ks : List Str) (sp : Sp) (g : List Value → List Value → List Value) (gV : List V → List V → List V) : Prop where
  ex : ∃ (f : Addr) (fd : FuncData), Meth K C nm f ∧ FnOk P w K mg base CX0 k f fd ps sp ∧ Binds K fd ps [] ∧ KBinds K fd ps ks g gV
theorem MtdN.m {P : Program} {w : World} {K : PySem.W.Frag} {mg : Str → Option Value} {base : Heap} {C : Addr} {nm : Str} {k : Nat} {ps ks : List Str} {sp : Sp} {g gV} (D : MtdN P w K mg base C nm k ps ks sp g gV) : Mtd P w K mg base C nm k ps sp :=
  let ⟨f, fd, m, G, b, _⟩ := D.ex
  ⟨f, fd, m, G, b⟩
theorem n1 {sp : Sp} {ta : TE} {σ : L2.St} {H : Hp} {Q : VK} (h : ta σ H fun x H1 => sp [x] H1 Q E0) : tCons ta tNil σ H (fun zs H2 => sp (gV1 [] zs) H2 Q E0) := h
theorem r_eqRow {K : PySem.W.Frag} {H : Hp} {x y : V} {r s : List Int} {Q : VK} (hx : RowV H x r) (hy : RowV H y s) (q : Q (.bl (decide (r = s))) H) : rEqD K x y H Q := by
  obtain ⟨a, rfl, ha⟩ := hx
  obtain ⟨b, rfl, hb⟩ := hy
  refine ⟨.tuple (r.map PyData.int), .tuple (s.map PyData.int), .tup (.inl (.inl ha)) (dp_ints r), .tup (.inl (.inl hb)) (dp_ints s), shaped_row r, shaped_row s, ?_⟩
  rw [PyData.eqv, eqv_row]
  exact q
end T81
set_option Elab.async false
set_option linter.all false
set_option maxRecDepth 100000
set_option maxHeartbeats 1000000
namespace Ro
open PySem PySem.Spec PyProof.Rows L2 Gd Rp
section
variable {X : Cx} {CX : CXT} {C g : Addr} {n k : Nat} {sp : Sp} {E : XK} {gd : FuncData}
inductive Oth (K : PySem.W.Frag) (H : Hp) : V → Value → Prop
  | int (i : Int) : Oth K H (.int i) (.type "int")
  | lst {a : Addr} {xs : List V} : H a = some (.lst xs) → Oth K H (.ref a) (.type "list")
  | tup {a : Addr} {xs : List V} : H a = some (.tup xs) → Oth K H (.ref a) (.type "tuple")
end
end Ro
set_option Elab.async false
set_option linter.all false
set_option maxRecDepth 100000
set_option maxHeartbeats 4000000
namespace T81
open PySem PySem.Spec PyProof.Rows L2 Gd Zn Rp Dn Tb Gn En Zs Ct Op Oc Rg Rt Ro
section
variable {P : Program} {w : World} {K : PySem.W.Frag} {mg : Str → Option Value} {base : Heap} {C : Addr}
def sp_eqN (C : Addr) : Sp := fun vs H Q _ => ∃ v o T, vs = [v, o] ∧ (∃ M, Tab C H v M) ∧ (∃ K, Oth K H o T) ∧ Q (.bl false) H
structure EqX (P : Program) (w : World) (K : PySem.W.Frag) (mg : Str → Option Value) (base : Heap) (C : Addr) : Prop where
  ex : ∃ (g : Addr) (gd : FuncData), PySem.W.findIn K (.ref C) "__eq__" = some (some (.ref g)) ∧ PySem.W.isFn K (.ref g) = true ∧ FnOk P w K mg base CX0 1 g gd ["self", "other"] (sp_eqN C) ∧ Binds K gd ["self", "other"] [] ∧
    PySem.W.notFirst K C (.type "int") = true ∧ PySem.W.notFirst K C (.type "list") = true ∧ PySem.W.notFirst K C (.type "tuple") = true
theorem EqX.fst (D : EqX P w K mg base C) {H : Hp} {y : V} {T : Value} (h : Oth K H y T) : PySem.W.notFirst K C T = true := by
  obtain ⟨g, gd, h1, h2, G, b, n1, n2, n3⟩ := D.ex
  cases h with
  | int _ => exact n1
  | lst _ => exact n2
  | tup _ => exact n3
end
end T81
set_option Elab.async false
set_option linter.all false
set_option maxRecDepth 100000
set_option maxHeartbeats 2000000
namespace T81
open PySem PySem.Spec PyProof.Rows L2 Gd Zn Rp Dn Tb Gn En Zs Ct Op Oc Rg Rt Ro
/-- a word of m makers -/
structure WordOk (m : Nat) (xs : List Int) : Prop where
  len : xs.length ≤ 60
  let_ : ∀ x ∈ xs, x ≠ 0 ∧ x.natAbs ≤ m
theorem WordOk.app {m : Nat} {xs ys : List Int} (h : WordOk m xs) (k : WordOk m ys) (l : xs.length + ys.length ≤ 60) : WordOk m (xs ++ ys) := ⟨by rw [List.length_append]; exact l, fun x hx => by
  rcases List.mem_append.mp hx with hx | hx
  · exact h.let_ x hx
  · exact k.let_ x hx⟩
theorem WordOk.up {m k : Nat} {xs : List Int} (h : WordOk m xs) (e : m ≤ k) : WordOk k xs := ⟨h.len, fun x hx => ⟨(h.let_ x hx).1, Nat.le_trans (h.let_ x hx).2 e⟩⟩
theorem WordOk.take {m : Nat} {xs : List Int} (h : WordOk m xs) (k : Nat) : WordOk m (xs.take k) := ⟨by rw [List.length_take]; have := h.len; omega, fun x hx => h.let_ x (List.mem_of_mem_take hx)⟩
section
variable {n : Nat} {h1 : 1 ≤ n} {h3 : n ≤ 3}
def letG (h1 : 1 ≤ n) (h3 : n ≤ 3) (Ms : List (GL n)) (x : Int) : GL n := if 0 < x then Ms.getD (x.natAbs - 1) (GL.one h1 h3) else GL.inv (Ms.getD (x.natAbs - 1) (GL.one h1 h3))
end
end T81
set_option Elab.async false
set_option linter.all false
set_option maxRecDepth 100000
set_option maxHeartbeats 4000000
namespace T81
open PySem PySem.Spec PyProof.Rows L2 Gd Zn Rp Dn Tb Gn En Zs Ct Op Oc Rg Rt Ro
structure TxtW (mg : Str → Option Value) : Prop where
  mMk : ∃ t, mg "MOST_MAKERS" = some (.int 4 t)
/-- a list or a tuple -/
def LT (H : Hp) (t : Bool) (a : Addr) (vs : List V) : Prop := H a = some (if t = true then .tup vs else .lst vs)
theorem LT.sq {K : PySem.W.Frag} {H : Hp} {t : Bool} {a : Addr} {vs : List V} (h : LT H t a vs) : SqV K H t a vs := sq_at h
theorem LT.same {H H' : Hp} {t : Bool} {a : Addr} {vs : List V} (s : Same H H') (h : LT H t a vs) : LT H' t a vs := s _ _ h
/-- listed Tables -/
structure Tabs (C : Addr) (H : Hp) {n : Nat} (e : Nat) (vs : List V) (Ms : List (GL n)) : Prop where
  len : vs.length = Ms.length
  get : ∀ (i : Nat) (v : V), vs[i]? = some v → ∃ M, Ms[i]? = some M ∧ Tv C H v n e M.val
theorem Tabs.same {C : Addr} {H H' : Hp} {n e : Nat} {vs : List V} {Ms : List (GL n)} (h : Tabs C H e vs Ms) (s : Same H H') : Tabs C H' e vs Ms := ⟨h.len, fun i v q => by
  obtain ⟨M, a, b⟩ := h.get i v q
  exact ⟨M, a, b.same s⟩⟩
theorem Tabs.at {C : Addr} {H : Hp} {n e i : Nat} {vs : List V} {Ms : List (GL n)} (h : Tabs C H e vs Ms) (hi : i < Ms.length) : ∃ v, vs[i]? = some v ∧ Tv C H v n e (Ms[i]).val := by
  have hi' : i < vs.length := by rw [h.len]; exact hi
  obtain ⟨M, a, b⟩ := h.get i vs[i] (List.getElem?_eq_getElem hi')
  rw [List.getElem?_eq_getElem hi] at a
  cases a
  exact ⟨_, List.getElem?_eq_getElem hi', b⟩
section
variable {P : Program} {w : World} {K : PySem.W.Frag} {mg : Str → Option Value} {base : Heap} {C : Addr}
def sp_is_listR : Sp := fun vs H Q _ => ∃ t a xs, vs = [.ref a] ∧ LT H t a xs ∧ ∀ H', Same H H' → Q (.bl true) H'
theorem ok_is_listR {f : Addr} {fd : FuncData} (F : Fun K "is_list" "is_list" st_is_list f fd) (T : Txt mg) : FnOk P w K mg base CX0 1 f fd ["value"] sp_is_listR := by
  refine F.ok sc_is_list (fun vs H Q E h => ?_) (fun cdv A outer s H vs Q E hr h => ?_)
  · obtain ⟨t, a, xs, rfl, _⟩ := h
    rfl
  · obtain ⟨t, a, xs, rfl, ha, q⟩ := h
    refine ⟨_, pss_one (ps_ret (pe_callB call_isiT (by rfl) T.isi boot_isinstance (pa_cons (pv 0) (pa_cons (pe_tup (pa_cons (pe_bltn (v := .ty "list") (by rfl) T.list PyProof.Rows.boot_list rfl) (pa_cons (pe_bltn (v := .ty "tuple") (by rfl) T.tuple PyProof.Rows.boot_tuple rfl) pa_nil))) pa_nil)))), ?_⟩
    refine ⟨_, rfl, (by show 2 ≤ sizeLine; decide), fun u hu => ?_⟩
    have ha2 := ha.same (same_new (o := .tup [V.ty "list", V.ty "tuple"]) hu)
    cases t with
    | true => exact ⟨.ref a, u, _, _, _, _, rfl, upd_same, .cons (.ty _) (.cons (.ty _) .nil), .base (.tup ha2), kit_seq K (.tuple []), q _ (same_new hu)⟩
    | false => exact ⟨.ref a, u, _, _, _, _, rfl, upd_same, .cons (.ty _) (.cons (.ty _) .nil), .base (.lst ha2), kit_seq K (.list []), q _ (same_new hu)⟩
abbrev st_cm : Stmt := top 43
abbrev N_cm : List Str := ["makers", "position", "maker"]
theorem sc_cm : FnScope N_cm ["makers"] (defScope st_cm) := ⟨rfl, rfl, rfl, by decide +kernel, rfl, by decide +kernel, by decide +kernel⟩
def sp_cm (C : Addr) : Sp := fun vs H Q _ => ∃ (t : Bool) (a : Addr) (xs : List V) (n e : Nat) (Ms : List (GL n)), vs = [.ref a] ∧ LT H t a xs ∧ Tabs C H e xs Ms ∧ 1 ≤ Ms.length ∧ Ms.length ≤ 4 ∧ ∀ H', Same H H' → Q .non H'
theorem ok_cm {f : Addr} {fd : FuncData} (F : Fun K "check_makers" "check_makers" st_cm f fd) (T : Txt mg) (Tw : TxtW mg) (Tc : Tcl K mg C) (D1 : Def P w K mg base "is_list" 1 ["value"] sp_is_listR) (D2 : Prp P w K mg base C "size" 1 (sp_size C)) : FnOk P w K mg base CX0 3 f fd ["makers"] (sp_cm C) := by
  refine F.ok sc_cm (fun vs H Q E h => ?_) (fun cdv A outer s H vs Q E hr h => ?_)
  · obtain ⟨t, a, xs, n, e, Ms, rfl, _⟩ := h
    rfl
  · obtain ⟨t, a, xs, n, e, Ms, rfl, ha, hT, l1, l4, q⟩ := h
    obtain ⟨tk, htk⟩ := Tw.mMk
    refine ⟨_, pss_cons (ps_if (PW.pt (pw_or (pt_not (pt_val (pe_def D1 hr (pa_cons (pv 0) pa_nil)))) (pw_or1 (pt_not (pt_chain op_le op_le pe_int (pe_callB (r := Dn.rLen K) c_len (by rfl) T.len PySem.boot_len (pa_cons (pv 0) pa_nil)) (pe_glob (v := .int 4) (by rfl) htk ⟨_, rfl⟩)))))) pss_dead pss_nil)
      (pss_one (ps_for PassesOwn.never rfl (pi_enumS (by rfl) T.enum (pa_cons (pv 0) pa_nil)) (pg_tup rfl (pgs_cons (pg_name (i := 1) sc_cm.nd rfl (Or.inl rfl)) (pgs_cons (pg_name (i := 2) sc_cm.nd rfl (Or.inl rfl)) pgs_nil)))
        (pss_one (ps_if (PW.pt (pw_or (pt_not (pt_val (pe_callB (r := rIsi K) call_isi (by rfl) T.isi boot_isinstance (pa_cons (pv 2) (pa_cons (pe_glob (v := .ref C) (by rfl) Tc.mgC rfl) pa_nil)))))
          (pw_or1 (pt_cmpR op_ne (pe_prp D2 Tc.cl hr (pv 2)) (pe_prp D2 Tc.cl hr (pe_ix (r := rIxS2 K) ix_sq (pv 0) pe_int (fun _ _ => rfl))) (nomark _))))) pss_dead pss_nil)))), ?_⟩
    have lx : xs.length = Ms.length := hT.len
    have qx : ∀ H', Same H H' → SqV K H' t a xs := fun H' s => (ha.same s).sq
    refine r_seq (r_if (r_or (r_not (r_tt (a1 ⟨_, rfl, t, a, xs, rfl, ha, fun H1 s1 => ⟨_, rfl, ?_⟩⟩)))))
    refine iteF ?_
    refine r_not ⟨_, rfl, a, xs, rfl, sq_or (qx H1 s1), _, _, rfl, rfl, _, rfl, ?_⟩
    rw [decide_eq_true (show (1 : Int) ≤ (xs.length : Int) by omega)]
    refine iteT ⟨_, _, rfl, rfl, _, rfl, ?_⟩
    rw [decide_eq_true (show (xs.length : Int) ≤ 4 by omega)]
    refine iteF ?_
    refine r_next ?_
    refine ⟨_, rfl, t, a, xs, rfl, qx H1 s1, ?_⟩
    refine for_by xs.length (fun i σ H' => ∃ y1 y2, σ = [some (.ref a), y1, y2] ∧ Same H H') ⟨_, _, rfl, s1⟩ (fun i σ H' hi hP => ?_) (fun σ H' hP => ?_) (fun i x σ H2 H3 hi hP hy => ?_) (fun σ H' hP => ?_)
    · obtain ⟨y1, y2, rfl, s2⟩ := hP
      exact ⟨_, _, qx H' s2, List.getElem?_eq_getElem hi⟩
    · obtain ⟨y1, y2, rfl, s2⟩ := hP
      exact ⟨_, qx H' s2, Nat.le_refl _⟩
    · obtain ⟨y1, y2, rfl, s2⟩ := hP
      obtain ⟨T2, y, rfl, nT, rfl, hu⟩ := hy
      have ey := hu _ (qx H2 s2)
      have sT : Same H2 (upd H2 T2 (.tup [V.int (i : Nat), y])) := same_new nT
      refine ⟨T2, _, rfl, .inl (.inl upd_same), rfl, _, _, rfl, _, _, rfl, rfl, ?_⟩
      have s3 := s2.trans sT
      generalize upd H2 T2 (.tup [V.int (i : Nat), y]) = H4 at sT s3
      obtain ⟨M, eM, hv⟩ := hT.get i y ey
      obtain ⟨v0, e0, hv0⟩ := hT.at (i := 0) (by omega)
      have hv := hv.same s3
      have hv0 := hv0.same s3
      obtain ⟨p1, dx1, r1, e1, hp1, hm1⟩ := id hv.tab
      refine r_if (r_or (r_not (r_tt ⟨_, rfl, y, .ref C, _, _, _, rfl, .own C, by rw [e1]; exact Tc.ty hp1, kit_own K C, _, rfl, ?_⟩)))
      refine iteF ?_
      refine r_tt (r_op (r_prop ⟨_, rfl, p_size hv.tab (r_prop ⟨_, rfl, t, a, xs, (0 : Int), v0, rfl, rfl, qx H4 s3, atI_nat e0, p_size hv0.tab ⟨rfl, _, rfl, ?_⟩⟩)⟩))
      rw [show (!decide (V.int (M.val.length : Int) = V.int ((Ms[0]).val.length : Int))) = false by rw [hv.mx, hv0.mx]; simp]
      refine iteF ?_
      exact ⟨_, _, rfl, s3⟩
    · obtain ⟨y1, y2, rfl, s2⟩ := hP
      exact q H' s2
abbrev st_ol : Stmt := top 49
theorem sc_ol : FnScope ["makers", "letter", "maker"] ["makers", "letter"] (defScope st_ol) := ⟨rfl, rfl, rfl, by decide +kernel, rfl, by decide +kernel, by decide +kernel⟩
def sp_ol (C : Addr) : Sp := fun vs H Q _ => ∃ (t : Bool) (a : Addr) (xs : List V) (n e : Nat) (h1 : 1 ≤ n) (h3 : n ≤ 3) (Ms : List (GL n)) (x : Int), vs = [.ref a, .int x] ∧ LT H t a xs ∧ Tabs C H e xs Ms ∧ x ≠ 0 ∧ x.natAbs ≤ Ms.length ∧ e ≤ 9000 ∧
  ∀ v' H', Same H H' → Tv C H' v' n (2 * e + 1) (letG h1 h3 Ms x).val → Q v' H'
theorem ok_ol {f : Addr} {fd : FuncData} (F : Fun K "_of_letter" "_of_letter" st_ol f fd) (T : Txt mg) (Tc : Tcl K mg C) (D1 : Mtd P w K mg base C "undone" 10 ["self"] (sp_undone C)) : FnOk P w K mg base CX0 11 f fd ["makers", "letter"] (sp_ol C) := by
  refine F.ok sc_ol (fun vs H Q E h => ?_) (fun cdv A outer s H vs Q E hr h => ?_)
  · obtain ⟨t, a, xs, n, e, h1, h3, Ms, x, rfl, _⟩ := h
    rfl
  · obtain ⟨t, a, xs, n, e, h1, h3, Ms, x, rfl, ha, hT, x0, xl, he, q⟩ := h
    obtain ⟨g, gd, mt, G3, b3⟩ := D1.ex
    have hr10 : Room 10 _ := hr.mono (by decide)
    refine ⟨_, pss_cons (ps_set (i := 2) sc_ol.nd rfl (Or.inl rfl) (pe_ix (r := rIxS2 K) ix_sq (pv 0) (pe_op op_sub (pe_callB call_abs (by rfl) T.abs boot_abs (pa_cons (pv 1) pa_nil)) pe_int) (fun _ _ => rfl)))
      (pss_one (ps_ret (pe_ifExp (pt_cmpR op_gt (pv 1) pe_int (nomark _)) (pv 2) (pe_meth0 (pv 2) Tc.cl mt G3 hr10 b3 .nil pass0)))), ?_⟩
    obtain ⟨v, ev, hv⟩ := hT.at (i := x.natAbs - 1) (by omega)
    have hl : x.natAbs - 1 < Ms.length := by omega
    have eM : Ms.getD (x.natAbs - 1) (GL.one h1 h3) = Ms[x.natAbs - 1] := by rw [List.getD_eq_getElem?_getD, List.getElem?_eq_getElem hl]; rfl
    have hi : (if x < 0 then -x else x) - 1 = ((x.natAbs - 1 : Nat) : Int) := by split <;> omega
    refine r_seq (r_asg ?_)
    refine ⟨_, rfl, _, rfl, _, rfl, _, _, rfl, rfl, t, a, xs, _, v, rfl, rfl, ha.sq, by rw [hi]; exact atI_nat ev, ?_⟩
    refine r_next ?_
    refine ⟨_, rfl, _, _, rfl, rfl, _, rfl, ?_⟩
    by_cases z : 0 < x
    · rw [decide_eq_true (show x > 0 from z)]
      refine iteT ⟨_, rfl, q _ _ (Same.refl H) ?_⟩
      unfold letG
      rw [if_pos z, eM]
      exact hv.up (by omega)
    · rw [decide_eq_false (show ¬ x > 0 from z)]
      refine iteF (r_meth0 ⟨_, rfl, m_und hv (fun d H1 s1 u => q _ _ s1 ?_) he⟩)
      unfold letG
      rw [if_neg z, eM]
      exact u
end
end T81
set_option Elab.async false
set_option linter.all false
set_option maxRecDepth 100000
set_option maxHeartbeats 4000000
namespace T81
open PySem PySem.Spec PyProof.Rows L2 Gd Zn Rp Dn Tb Gn En Zs Ct Op Oc Rg Rt Ro
/-- listed rows of tables -/
structure Mxs (H : Hp) {n : Nat} (e : Nat) (vs : List V) (Ms : List (GL n)) : Prop where
  len : vs.length = Ms.length
  get : ∀ (i : Nat) (v : V), vs[i]? = some v → ∃ M, Ms[i]? = some M ∧ Mx H v M.val ∧ SqE n e M.val
theorem Mxs.ks {H H' : Hp} {n e : Nat} {vs : List V} {Ms : List (GL n)} (h : Mxs H e vs Ms) (s : KS H H') : Mxs H' e vs Ms := ⟨h.len, fun i v q => by
  obtain ⟨M, a, b, c⟩ := h.get i v q
  exact ⟨M, a, b.mono s, c⟩⟩
theorem Mxs.up {H : Hp} {n e e' : Nat} {vs : List V} {Ms : List (GL n)} (h : Mxs H e vs Ms) (k : e ≤ e') : Mxs H e' vs Ms := ⟨h.len, fun i v q => by
  obtain ⟨M, a, b, c⟩ := h.get i v q
  exact ⟨M, a, b, c.mono k⟩⟩
theorem Mxs.at {H : Hp} {n e i : Nat} {vs : List V} {Ms : List (GL n)} (h : Mxs H e vs Ms) (hi : i < Ms.length) : ∃ v, vs[i]? = some v ∧ Mx H v (Ms[i]).val ∧ SqE n e (Ms[i]).val := by
  have hi' : i < vs.length := by rw [h.len]; exact hi
  obtain ⟨M, a, b, c⟩ := h.get i vs[i] (List.getElem?_eq_getElem hi')
  rw [List.getElem?_eq_getElem hi] at a
  cases a
  exact ⟨_, List.getElem?_eq_getElem hi', b, c⟩
end T81
set_option Elab.async false
set_option linter.all false
set_option maxRecDepth 100000
set_option maxHeartbeats 1000000
set_option Elab.async false
set_option linter.all false
set_option maxRecDepth 100000
set_option maxHeartbeats 4000000
namespace Ob
open PySem PySem.Spec PyProof.Rows L2
theorem tuple_mul1 (l : Addr) (items : Array Value) (n : Nat) (dd : Option Addr) (sl : Array (Option Value)) (x : Int) (u : Tok) (c0 : (decide (x < -(2 ^ 63)) || decide (x ≥ 2 ^ 63)) = false) (c1 : (items.isEmpty || x == 1) = true) :
    Meets (Builtin.«tuple.__mul__» ⟨[.ref l, .int x u], []⟩) (fun _ R s => s.heap.get? l = some { cls := .type "tuple", dict := dd, data := .seq items n, slots := sl } ∧
      R (.ok (.ret (Value.ref l))) s) :=
  .of_wp fun prog w A R s h => by
    obtain ⟨hp, g, d, tk, os⟩ := s
    obtain ⟨hl, h⟩ := h
    have f1 := AutoSeq1.idx_int
    wp_walk using wpAny_loadPart' hl
    repeat (first
      | (refine wpAny_ite_false (decide_eq_false (by rw [c0]; exact Bool.false_ne_true)) ?_; wp_walk using wpAny_loadPart' hl)
      | (refine wpAny_ite_true (decide_eq_true c1) ?_; wp_walk using wpAny_loadPart' hl))
    exact ⟨_, rfl, h⟩
def rRepN : R2 := fun x y H Q => ∃ l k xs, x = .ref l ∧ y = .int k ∧ H l = some (.tup xs) ∧ xs ≠ [] ∧ 1 ≤ k ∧ k ≤ 1000 ∧ xs.length ≤ 1000 ∧ ∀ p H', (∀ b o, H b = some o → H' b = some o) → H' p = some (.tup (List.replicate k.toNat xs).flatten) → Q (.ref p) H'
section
variable {X : Cx}
theorem op_repN : OpR X (binaryOp .Mult) rRepN := by
  intro pins s σ H x y v u Q I rx ry h
  obtain ⟨l, k, xs, rfl, rfl, hT, hne, h1, h2, hz, q⟩ := h
  by_cases e1 : k = 1
  · subst e1
    cases rx
    obtain ⟨t, rfl⟩ := ry
    obtain ⟨its, r, ⟨⟨cls, dd, data, sl⟩, ho, hc, n, hd⟩, hs⟩ := I.tuple (.inl (.inl hT))
    simp only at hc hd
    subst hc hd
    refine wpAny_binaryOp_repeat_ref (T := "tuple") (U := "int") (by decide) ⟨_, ho, rfl⟩ (fun s' => typeIs_int s' 1 t) noFill_tuple_mul F.fills_int_mul F.slot_int_rmul repeat_tuple F.slot_int_index.lookup
      (call_meets F.slot_int_rmul (typeIs_int s 1 t) F.entry_int_rmul (F.args_int_rmul_2 _ _) (int_rmul_tuple 1 t l its.toArray n dd sl)
        ⟨ho, rfl, ⟨_, ho, rfl⟩, call_meets F.slot_tuple_mul ⟨_, ho, rfl⟩ F.entry_tuple_mul (F.args_tuple_mul_2 _ _) (tuple_mul1 l its.toArray n dd sl 1 t (by decide) (by simp)) ⟨ho, ?_⟩⟩)
    refine ⟨.ref l, H, I, rfl, q l H (fun _ _ e => e) ?_⟩
    rw [show (List.replicate (1 : Int).toNat xs).flatten = xs by simp]
    exact hT
  · exact op_repT pins s σ H _ _ v u Q I rx ry ⟨l, k, xs, rfl, rfl, .inl (.inl hT), hne, by omega, h2, hz, fun p np => q p _ (fun b o e => by rw [upd_ne (fun z => by rw [z, np] at e; cases e)]; exact e) upd_same⟩
end
end Ob
set_option Elab.async false
set_option linter.all false
set_option maxRecDepth 100000
set_option maxHeartbeats 1000000
namespace Lm
open PySem PySem.Spec PyProof.Rows L2 LamX Gd
/-- the function object of a lambda, at f -/
def CloO (f : Addr) (o : Obj) : HO := .ext fun h => h.get? f = some o
/-- all stays, tables grow -/
def ExtT (H H' : Hp) : Prop := ∀ b o, H b = some o → H' b = some o ∨ ∃ ps more, o = .tbl ps ∧ H' b = some (.tbl (ps ++ more))
theorem ExtT.refl (H : Hp) : ExtT H H := fun _ _ h => .inl h
abbrev lamObj (q : Str) (params : Arguments) (body : Expr) (scope : Scope) (cl : List (Str × Addr)) (pm : Value) (c' : Addr) (ctv : Value) : Obj := PySem.W.kla_obj "<lambda>" q params body scope cl pm c' ctv
section
variable {X : Cx} {pins : List (Addr × Obj)} {σ : L2.St} {H : Hp} {s : Shared} {T : List (Addr × Str)} {c P : Addr} {params : Arguments} {body : Expr} {scope : Scope} {pos : Pos}
/-- what the maker must say -/
structure Maker (X : Cx) (T : List (Addr × Str)) (c P : Addr) : Prop where
  tb : TabB X.base X.mg c P
  code : X.env.code = .ref c
  mem : (P, X.env.qual ++ "<lambda>") ∈ T
  only : ∀ p ∈ T, p.1 = P → p.2 = X.env.qual ++ "<lambda>"
theorem lam_track {E : Value → Shared → Prop} {Q : Value → Shared → Prop} (I : Inv X pins σ H s) (M : Maker X T c P) (hT : Tabs T H) (hdef : defaultsOf params X.env = ([], [])) (hfree : ∀ y ∈ scope.names, y.2 = .free → ∃ c, X.env.cells.lookup y.1 = some c)
    (h : ∀ (f c' : Addr) (pm ctv : Value) (H1 : Hp) (s' : Shared), Inv X pins σ (upd H1 f (CloO f (lamObj (X.env.qual ++ "<lambda>") params body scope (cloFrom X.env.cells scope.names []) pm c' ctv))) s' → ExtT H H1 → Tabs T H1 → H1 f = none → H1 c' = some (CodeO c' (X.env.qual ++ "<lambda>")) → Q (.ref f) s') :
    wpAny (model X.prog X.w) X.A (eval (.Lambda params body scope pos) X.env) Q E s := by
  obtain ⟨ps, hP, ht, ha⟩ := hT _ M.mem
  have hP : H P = some (.tbl ps) := hP
  refine PySem.W.kla_eval hdef ?_
  have bP : s.heap.BuiltinsAt X.mg P := M.tb.bm.keeps I.bk
  have oP : s.heap.get? P = some { cls := .none, data := .fields ps } := I.hok P _ hP
  cases hc : codeAmong pos ps.toList with
  | none =>
    refine PySem.W.kla_makeFunction (mg := X.mg) (c := c) (P := P) (ps := ps) (closure_ok hfree) I.ok.glob (I.mod.glob.keeps I.bk) M.code (M.tb.code.keeps I.bk) oP ht hc M.tb.gP bP fun c' ctv h' tk hx hge hlt hrec htb => ?_
    obtain ⟨c2, oc, vs, t, e2, hoc, hd, hv⟩ := hrec
    cases e2
    have nC : H c' = none := I.hok.fresh hge
    have J := inv_table (t' := tk) (more := #[rawInt pos.line, rawInt pos.col, .ref c']) (h' := h') I hP (fun b o hb e => hx b o hb e) htb hge ⟨oc, vs, t, hoc, hd, hv⟩
    have J2 := J.laid (t' := tk) (a := h'.objs.size) (h' := h'.push (lamObj (X.env.qual ++ "<lambda>") params body scope (cloFrom X.env.cells scope.names []) ((X.mg "__name__").getD .none) c' ctv)) (o := CloO h'.objs.size (lamObj (X.env.qual ++ "<lambda>") params body scope (cloFrom X.env.cells scope.names []) ((X.mg "__name__").getD .none) c' ctv)) (fun b u e => Heap.get?_push_of_some _ e) (Nat.le_refl _) ⟨Heap.get?_push_size _ rfl, ⟨_, Heap.get?_push_size _ rfl⟩, fun h1 h2 x y => y _ x⟩
    have nf : upd (upd H P (.tbl (ps ++ #[rawInt pos.line, rawInt pos.col, .ref c']))) c' (CodeO c' (X.env.qual ++ "<lambda>")) h'.objs.size = none := J.hok.fresh (Nat.le_refl _)
    refine h h'.objs.size c' ((X.mg "__name__").getD .none) ctv _ _ J2 (fun b o e => ?_) (fun p hp => ?_) nf upd_same
    · have n1 : b ≠ c' := ne_of_none e nC
      by_cases hb : b = P
      · rw [hb, hP] at e
        cases e
        refine .inr ⟨ps, #[rawInt pos.line, rawInt pos.col, .ref c'], rfl, ?_⟩
        rw [upd_ne n1, hb]
        exact upd_same
      · left
        rw [upd_ne n1, upd_ne hb]
        exact e
    · have eL : (ps ++ #[rawInt pos.line, rawInt pos.col, .ref c']).toList = ps.toList ++ [rawInt pos.line, rawInt pos.col, .ref c'] := by simp
      have old : ∀ {b : Addr} {o : HO}, H b = some o → b ≠ P → upd (upd H P (.tbl (ps ++ #[rawInt pos.line, rawInt pos.col, .ref c']))) c' (CodeO c' (X.env.qual ++ "<lambda>")) b = some o := fun {b o} e hb => by
        rw [upd_ne (ne_of_none e nC), upd_ne hb]
        exact e
      have offP : ∀ {b : Addr} {q : Str}, H b = some (CodeO b q) → b ≠ P := fun {b q} e z => by
        rw [z, hP] at e
        exact codeO_ne _ (Option.some.inj e).symm
      by_cases hb : p.1 = P
      · rw [M.only p hp hb, hb]
        refine ⟨_, by rw [upd_ne (ne_of_none hP nC), upd_same], by rw [eL]; exact PySem.TriplesOk_snoc _ _ _ _ ht, fun p' cv hcv => ?_⟩
        rw [eL] at hcv
        rcases among_app _ ht hcv with z | z
        · obtain ⟨c0, e1, e2⟩ := ha p' cv z
          exact ⟨c0, e1, old e2 (offP e2)⟩
        · exact ⟨c', z, upd_same⟩
      · obtain ⟨ps', a1, a2, a3⟩ := hT p hp
        refine ⟨ps', old a1 hb, a2, fun p' cv hcv => ?_⟩
        obtain ⟨c0, e1, e2⟩ := a3 p' cv hcv
        exact ⟨c0, e1, old e2 (offP e2)⟩
  | some cv =>
    obtain ⟨c', e, hco⟩ := ha pos cv hc
    subst e
    refine PySem.W.kla_makeFunctionHit (mg := X.mg) (c := c) (P := P) (ps := ps) (closure_ok hfree) I.ok.glob (I.mod.glob.keeps I.bk) M.code (M.tb.code.keeps I.bk) oP ht hc bP fun ctv h' tk hx hsz => ?_
    have J : Inv X pins σ H { s with heap := h', toks := tk } := I.kept hx
    have J2 := J.laid (t' := tk) (a := h'.objs.size) (h' := h'.push (lamObj (X.env.qual ++ "<lambda>") params body scope (cloFrom X.env.cells scope.names []) ((X.mg "__name__").getD .none) c' ctv)) (o := CloO h'.objs.size (lamObj (X.env.qual ++ "<lambda>") params body scope (cloFrom X.env.cells scope.names []) ((X.mg "__name__").getD .none) c' ctv)) (fun b u e => Heap.get?_push_of_some _ e) (Nat.le_refl _) ⟨Heap.get?_push_size _ rfl, ⟨_, Heap.get?_push_size _ rfl⟩, fun h1 h2 x y => y _ x⟩
    exact h h'.objs.size c' ((X.mg "__name__").getD .none) ctv H _ J2 (ExtT.refl H) hT (J.hok.fresh (Nat.le_refl _)) hco
/-- a lambda, as a value -/
def tLamb (X : Cx) (T : List (Addr × Str)) (params : Arguments) (body : Expr) (scope : Scope) : TE := fun σ H Q => Tabs T H ∧ ∀ (f c' : Addr) (pm ctv : Value) (H1 : Hp), ExtT H H1 → Tabs T H1 → H1 f = none → H1 c' = some (CodeO c' (X.env.qual ++ "<lambda>")) →
  Q (.ref f) (upd H1 f (CloO f (lamObj (X.env.qual ++ "<lambda>") params body scope (cloFrom X.env.cells scope.names []) pm c' ctv)))
end
/-- its captured names, their values σ -/
structure LamC (base : Heap) (N : List Str) (scope : Scope) (cl : List (Str × Addr)) (σ : L2.St) : Prop where
  len : σ.length = N.length
  inj : ∀ x y c, cl.lookup x = some c → cl.lookup y = some c → x = y
  has : ∀ y ∈ scope.names, y.2 = .free → ∃ c, cl.lookup y.1 = some c
  all : ∀ y c, cl.lookup y = some c → ∃ v, base.IsCell c v
  val : ∀ (i : Nat) (y : Str) (x : V), N[i]? = some y → σ[i]? = some (some x) → (y, NameKind.free) ∈ scope.names → ∃ u c, RelV x u ∧ cl.lookup y = some c ∧ base.IsCell c (some u)
section
variable {X : Cx} {pins : List (Addr × Obj)} {σ : L2.St} {H : Hp} {s : Shared}
/-- no cell of these is a frame -/
def Apart (X : Cx) (cl : List (Str × Addr)) : Prop := ∀ y c, cl.lookup y = some c → c ∉ frs X.stack
end
end Lm
set_option Elab.async false
set_option linter.all false
set_option maxRecDepth 100000
set_option maxHeartbeats 1000000
namespace Di
open PySem PySem.Spec PyProof.Rows L2 Zn Dn Lm LamX
/-- a value: sq t xs is a list (false) or tuple (true) that nobody changes any more, ob an object of a class of the program that nobody changes any more, ref a thing that may still change -/
inductive DV where
  | non | bl (b : Bool) | int (i : Int) | str (x : List Nat) | sq (t : Bool) (xs : List DV) | dk (ks vs : List DV) | ob (c : Nat) (fs : List DV) | ref (i : Nat) | exc (i : Nat) | clo (m i : Nat) | rep (x : DV)
/-- what stands ahead of an instance's rows in its text -/
def nmT : Nat → Str
  | 0 => "Table(" | 1 => "Form(" | 2 => "Lot(" | _ => ""
mutual
/-- the text that repr gives -/
def txt : DV → Str
  | .non => "None"
  | .bl b => if b then "True" else "False"
  | .int i => toString i
  | .str x => reprText ⟨x.toArray⟩
  | .sq true xs => tupleText (txts xs)
  | .sq false xs => listText (txts xs)
  | .dk ks vs => dictText (List.zipWith (fun a b => a ++ ": " ++ b) (txts ks) (txts vs))
  | .ob c fs => nmT c ++ txtF fs ++ ")"
  | .ref _ => ""
  | .exc _ => ""
  | .clo _ _ => ""
  | .rep _ => ""
def txts : List DV → List Str
  | [] => []
  | x :: xs => txt x :: txts xs
def txtF : List DV → Str
  | [] => ""
  | x :: _ => txt x
end
/-- a thing that may change -/
inductive DO where
  | lst (xs : List DV) | pot | ins (c : Nat) (fs : List DV)
structure Hh where
  next : Nat
  at_ : List (Nat × DO)
/-- an exception: its class, its fields -/
structure DX where
  c : Nat
  fs : List DV
def look : List (Nat × DO) → Nat → Option DO
  | [], _ => none
  | (j, o) :: r, i => bif Nat.beq j i then some o else look r i
def Hh.get (h : Hh) (i : Nat) : Option DO := look h.at_ i
def putL : List (Nat × DO) → Nat → DO → List (Nat × DO)
  | [], _, _ => []
  | (j, o) :: r, i, x => bif Nat.beq j i then (j, x) :: r else (j, o) :: putL r i x
def Hh.put (h : Hh) (i : Nat) (o : DO) : Hh := ⟨h.next, putL h.at_ i o⟩
/-- a lambda: its maker's name and more -/
structure LamR where
  q : Str
  params : Arguments
  body : Expr
  scope : Scope
/-- what stands still: classes, the names of their fields -/
structure Gb where
  K : PySem.W.Frag
  cls : Nat → Addr
  flds : Nat → List Str
  /-- the lambdas; the tables of code objects -/
  lam : Nat → LamR
  T : List (Addr × Str)
/-- a world: the layer's heap, the own heap, where things stand -/
structure Wd where
  H : Hp
  h : Hh
  ρ : Nat → Option Addr
  /-- lists that a comprehension fills -/
  Z : Addr → Prop
  /-- caught exceptions -/
  ε : Nat → Option Addr
  /-- frames that make lambdas: their cells -/
  φ : Nat → Option (List (Str × Addr))
/-- it stands in the own heap -/
def Wd.L (w : Wd) (a : Addr) : Prop := ∃ i o, w.h.get i = some o ∧ w.ρ i = some a
/-- this address may still change -/
def Wd.M (w : Wd) (a : Addr) : Prop := w.L a ∨ w.Z a
def bx (t : Bool) (ys : List V) : HO := cond t (.tup ys) (.lst ys)
/-- a list, a tuple that stays as it is -/
def SqS (w : Wd) (t : Bool) (a : Addr) (ys : List V) : Prop := ¬ w.M a ∧ w.H a = some (bx t ys)
theorem SqS.sq {K : PySem.W.Frag} {w : Wd} {t : Bool} {a : Addr} {ys : List V} (h : SqS w t a ys) : SqV K w.H t a ys := by
  cases t with
  | true => exact SqT.of h.2
  | false => exact SqL.of h.2
mutual
def RelD (G : Gb) (w : Wd) : DV → V → Prop
  | .non, u => u = .non
  | .bl b, u => u = .bl b
  | .int i, u => u = .int i
  | .str x, u => ∃ s : Str, u = .str s ∧ s.cps.toList = x
  | .sq t xs, u => ∃ a ys, u = .ref a ∧ SqS w t a ys ∧ RelDs G w xs ys
  | .dk ks vs, u => ∃ a kvs, u = .ref a ∧ ¬ w.M a ∧ w.H a = some (.dK kvs) ∧ RelDs G w ks (kvs.map fun p => kV p.1) ∧ RelDs G w vs (kvs.map Prod.snd)
  | .ob c fs, u => ∃ a dx vs, u = .ref a ∧ ¬ w.M a ∧ w.H a = some (.ins (G.cls c) dx ((G.flds c).zip vs)) ∧ vs.length = (G.flds c).length ∧ RelDs G w fs vs
  | .ref i, u => ∃ a, u = .ref a ∧ w.ρ i = some a
  | .exc i, u => ∃ a, u = .ref a ∧ w.ε i = some a
  | .rep x, u => u = .str (txt x)
  | .clo m i, u => ∃ f c' pm ctv cl, u = .ref f ∧ w.φ i = some cl ∧ ¬ w.M f ∧ w.H f = some (CloO f (lamObj (G.lam m).q (G.lam m).params (G.lam m).body (G.lam m).scope (cloFrom cl (G.lam m).scope.names []) pm c' ctv)) ∧ ¬ w.M c' ∧ w.H c' = some (CodeO c' (G.lam m).q)
def RelDs (G : Gb) (w : Wd) : List DV → List V → Prop
  | [], ys => ys = []
  | x :: xs, ys => ∃ y zs, ys = y :: zs ∧ RelD G w x y ∧ RelDs G w xs zs
end
/-- the thing at a -/
def RelO (G : Gb) (w : Wd) (a : Addr) : DO → Prop
  | .lst xs => ∃ ys, w.H a = some (.lst ys) ∧ RelDs G w xs ys
  | .pot => PotOk w.H a
  | .ins c fs => ∃ dx vs, w.H a = some (.ins (G.cls c) dx ((G.flds c).zip vs)) ∧ vs.length = fs.length ∧ fs.length ≤ (G.flds c).length ∧ RelDs G w fs vs
/-- an exception -/
def RelX (G : Gb) (w : Wd) (x : DX) (c : Value) (d : Option Addr) : Prop :=
  c = .ref (G.cls x.c) ∧ (x.fs = [] ∨ ∃ e vs, d = some e ∧ ¬ w.M e ∧ w.H e = some (.xd ((G.flds x.c).zip vs)) ∧ vs.length = (G.flds x.c).length ∧ RelDs G w x.fs vs)
/-- from one world to a later one -/
structure Grow (w w' : Wd) : Prop where
  ro : ∀ i a, w.ρ i = some a → w'.ρ i = some a
  fr : ∀ a o, w.H a = some o → ¬ w.L a → ¬ w.Z a → (∀ ps, o ≠ .tbl ps) → w'.H a = some o
  nw : ∀ a, w'.L a → w.L a ∨ w.H a = none
  nz : ∀ a, w'.Z a → w.Z a ∨ w.H a = none
  tr : ∀ a, w.H a ≠ none → w'.H a ≠ none
  eo : ∀ i a, w.ε i = some a → w'.ε i = some a
  po : ∀ i l, w.φ i = some l → w'.φ i = some l
/-- .. and what holds here besides -/
structure Gs extends Gb where
  iv : Wd → Prop
  st : ∀ w w', Grow w w' → iv w → iv w'
instance : Coe Gs Gb := ⟨Gs.toGb⟩
/-- nothing besides -/
def Gb.top (g : Gb) : Gs := ⟨g, fun _ => True, fun _ _ _ _ => trivial⟩
structure RepH (G : Gs) (w : Wd) : Prop where
  live : ∀ i o, w.h.get i = some o → ∃ a, w.ρ i = some a ∧ RelO G w a o
  inj : ∀ i j a, w.ρ i = some a → w.ρ j = some a → i = j
  nxt : ∀ i, w.h.next ≤ i → w.h.get i = none ∧ w.ρ i = none
  trk : ∀ i a, w.ρ i = some a → w.H a ≠ none
  zt : ∀ a, w.Z a → ∃ ys, w.H a = some (.lst ys)
  dj : ∀ i a, w.ρ i = some a → ¬ w.Z a
  nxe : ∀ i, w.h.next ≤ i → w.ε i = none ∧ w.φ i = none
  tb : Tabs G.T w.H
  iv : G.iv w
structure Step (G : Gs) (w w' : Wd) : Prop extends Grow w w' where
  rep : RepH G w'
  zz : w'.Z = w.Z
  /-- what is being filled elsewhere stays -/
  fz : ∀ a o, w.H a = some o → w.Z a → ¬ w.L a → w'.H a = some o
theorem Grow.notM {w w' : Wd} (s : Grow w w') {a : Addr} {o : HO} (h : w.H a = some o) (n : ¬ w.M a) : ¬ w'.M a := fun z => by
  rcases z with z | z
  · rcases s.nw a z with q | q
    · exact n (.inl q)
    · rw [q] at h; cases h
  · rcases s.nz a z with q | q
    · exact n (.inr q)
    · rw [q] at h; cases h
theorem bx_nt {t : Bool} {ys : List V} : ∀ ps, bx t ys ≠ .tbl ps := fun ps z => by cases t <;> cases z
theorem ext_nt {p : Heap → Prop} : ∀ ps, HO.ext p ≠ .tbl ps := fun ps z => by cases z
theorem Grow.at_ {w w' : Wd} (s : Grow w w') {a : Addr} {o : HO} (h : w.H a = some o) (n : ¬ w.M a) (nt : ∀ ps, o ≠ .tbl ps := by first | exact bx_nt | exact ext_nt | (intro ps z; cases z)) : w'.H a = some o := s.fr a o h (fun z => n (.inl z)) (fun z => n (.inr z)) nt
theorem Grow.refl (w : Wd) : Grow w w := ⟨fun _ _ e => e, fun _ _ e _ _ _ => e, fun _ h => .inl h, fun _ h => .inl h, fun _ h => h, fun _ _ e => e, fun _ _ e => e⟩
theorem Grow.trans {w w1 w2 : Wd} (a : Grow w w1) (b : Grow w1 w2) : Grow w w2 := by
  have some_ : ∀ c, w1.H c = none → w.H c = none := fun c e => by
    cases q : w.H c with
    | none => rfl
    | some o => exact absurd e (a.tr c (by rw [q]; simp))
  refine ⟨fun i c e => b.ro i c (a.ro i c e), fun c o e n z nt => ?_, fun c m => ?_, fun c m => ?_, fun c e => b.tr c (a.tr c e), fun i c e => b.eo i c (a.eo i c e), fun i c e => b.po i c (a.po i c e)⟩
  · have n' := a.notM e (fun q => q.elim n z)
    exact b.at_ (a.fr c o e n z nt) n' nt
  · rcases b.nw c m with q | q
    · exact a.nw c q
    · exact .inr (some_ c q)
  · rcases b.nz c m with q | q
    · exact a.nz c q
    · exact .inr (some_ c q)
theorem Step.refl {G : Gs} {w : Wd} (h : RepH G w) : Step G w w := ⟨Grow.refl w, h, rfl, fun _ _ e _ _ => e⟩
theorem Step.trans {G : Gs} {w w1 w2 : Wd} (a : Step G w w1) (b : Step G w1 w2) : Step G w w2 := by
  refine ⟨a.toGrow.trans b.toGrow, b.rep, b.zz.trans a.zz, fun c o e z n => b.fz c o (a.fz c o e z n) (by rw [a.zz]; exact z) fun l => ?_⟩
  rcases a.nw c l with q | q
  · exact n q
  · rw [q] at e; cases e
theorem Grow.sq {w w' : Wd} (s : Grow w w') {t : Bool} {a : Addr} {ys : List V} (h : SqS w t a ys) : SqS w' t a ys := ⟨s.notM h.2 h.1, s.at_ h.2 h.1⟩
mutual
theorem Grow.rel {G : Gb} {w w' : Wd} (s : Grow w w') : ∀ {d : DV} {u : V}, RelD G w d u → RelD G w' d u
  | .non, u, h => h
  | .bl b, u, h => h
  | .int i, u, h => h
  | .str x, u, h => h
  | .sq t xs, u, h => by
    obtain ⟨a, ys, e, q, r⟩ := h
    exact ⟨a, ys, e, s.sq q, Grow.rels s r⟩
  | .dk ks vs, u, h => by
    obtain ⟨a, kvs, e, n, q, r1, r2⟩ := h
    exact ⟨a, kvs, e, s.notM q n, s.at_ q n, Grow.rels s r1, Grow.rels s r2⟩
  | .ob c fs, u, h => by
    obtain ⟨a, dx, vs, e, n, q, l, r⟩ := h
    exact ⟨a, dx, vs, e, s.notM q n, s.at_ q n, l, Grow.rels s r⟩
  | .ref i, u, h => by
    obtain ⟨a, e, q⟩ := h
    exact ⟨a, e, s.ro _ _ q⟩
  | .exc i, u, h => by
    obtain ⟨a, e, q⟩ := h
    exact ⟨a, e, s.eo _ _ q⟩
  | .rep x, u, h => h
  | .clo m i, u, h => by
    obtain ⟨f, c', pm, ctv, cl, e, q, n1, h1, n2, h2⟩ := h
    exact ⟨f, c', pm, ctv, cl, e, s.po _ _ q, s.notM h1 n1, s.at_ h1 n1, s.notM h2 n2, s.at_ h2 n2⟩
theorem Grow.rels {G : Gb} {w w' : Wd} (s : Grow w w') : ∀ {xs : List DV} {ys : List V}, RelDs G w xs ys → RelDs G w' xs ys
  | [], ys, h => h
  | x :: xs, ys, h => by
    obtain ⟨y, zs, e, r, q⟩ := h
    exact ⟨y, zs, e, Grow.rel s r, Grow.rels s q⟩
end
theorem RelDs.len {G : Gb} {w : Wd} : ∀ {xs : List DV} {ys : List V}, RelDs G w xs ys → xs.length = ys.length
  | [], ys, h => by rw [show ys = [] from h]; rfl
  | x :: xs, ys, h => by
    obtain ⟨y, zs, rfl, _, q⟩ := h
    rw [List.length_cons, List.length_cons, q.len]
theorem RelDs.get {G : Gb} {w : Wd} : ∀ {xs : List DV} {ys : List V} {i : Nat} {x : DV}, RelDs G w xs ys → xs[i]? = some x → ∃ y, ys[i]? = some y ∧ RelD G w x y
  | x :: xs, ys, 0, z, h, e => by
    obtain ⟨y, zs, rfl, r, _⟩ := h
    cases e
    exact ⟨y, rfl, r⟩
  | x :: xs, ys, i + 1, z, h, e => by
    obtain ⟨y, zs, rfl, _, q⟩ := h
    obtain ⟨u, e1, r⟩ := q.get (i := i) (x := z) (by simpa using e)
    exact ⟨u, by simpa using e1, r⟩
theorem RelDs.app {G : Gb} {w : Wd} : ∀ {xs xs' : List DV} {ys ys' : List V}, RelDs G w xs ys → RelDs G w xs' ys' → RelDs G w (xs ++ xs') (ys ++ ys')
  | [], xs', ys, ys', h, h' => by rw [show ys = [] from h]; exact h'
  | x :: xs, xs', ys, ys', h, h' => by
    obtain ⟨y, zs, rfl, r, q⟩ := h
    exact ⟨y, zs ++ ys', rfl, r, q.app h'⟩
theorem RelDs.one {G : Gb} {w : Wd} {x : DV} {y : V} (h : RelD G w x y) : RelDs G w [x] [y] := ⟨y, [], rfl, h, rfl⟩
theorem RelDs.of {G : Gb} {w : Wd} : ∀ {xs : List DV} {ys : List V}, xs.length = ys.length → (∀ (i : Nat) (x : DV) (y : V), xs[i]? = some x → ys[i]? = some y → RelD G w x y) → RelDs G w xs ys
  | [], [], _, _ => rfl
  | x :: xs, y :: ys, l, h => ⟨y, ys, rfl, h 0 x y rfl rfl, RelDs.of (by simpa using l) fun i a b e1 e2 => h (i + 1) a b (by simpa using e1) (by simpa using e2)⟩
theorem RelDs.take {G : Gb} {w : Wd} {xs : List DV} {ys : List V} (n : Nat) (h : RelDs G w xs ys) : RelDs G w (xs.take n) (ys.take n) := by
  refine RelDs.of (by rw [List.length_take, List.length_take, h.len]) fun i x y e1 e2 => ?_
  rw [List.getElem?_take] at e1 e2
  split at e1
  · rw [if_pos ‹_›] at e2
    obtain ⟨u, e3, r⟩ := h.get e1
    rw [e2] at e3; cases e3; exact r
  · cases e1
theorem RelDs.drop {G : Gb} {w : Wd} {xs : List DV} {ys : List V} (n : Nat) (h : RelDs G w xs ys) : RelDs G w (xs.drop n) (ys.drop n) := by
  refine RelDs.of (by rw [List.length_drop, List.length_drop, h.len]) fun i x y e1 e2 => ?_
  rw [List.getElem?_drop] at e1 e2
  obtain ⟨u, e3, r⟩ := h.get e1
  rw [e2] at e3; cases e3; exact r
section
variable {G : Gs} {w : Wd}
theorem RelO.some_ {a : Addr} {o : DO} (h : RelO G w a o) : w.H a ≠ none := by
  cases o with
  | lst xs => obtain ⟨ys, q, _⟩ := h; rw [q]; simp
  | pot => obtain ⟨x, y, q, _⟩ := h; rw [q]; simp
  | ins c fs => obtain ⟨dx, vs, q, _⟩ := h; rw [q]; simp
theorem notL_of_none (R : RepH G w) {a : Addr} (h : w.H a = none) : ¬ w.L a := fun ⟨i, o, e, e2⟩ => by
  obtain ⟨b, e3, r⟩ := R.live i o e
  rw [e2] at e3; cases e3
  exact r.some_ h
theorem notM_of_none (R : RepH G w) {a : Addr} (h : w.H a = none) : ¬ w.M a := fun z => z.elim (notL_of_none R h) fun q => by
  obtain ⟨ys, e⟩ := R.zt a q
  rw [h] at e; cases e
/-- a thing looked at in a later world, where the layer has the same there -/
theorem RelO.to {w' : Wd} {a : Addr} {o : DO} (g : Grow w w') (e : w'.H a = w.H a) (h : RelO G w a o) : RelO G w' a o := by
  cases o with
  | lst xs => obtain ⟨ys, q, r⟩ := h; exact ⟨ys, e.trans q, g.rels r⟩
  | pot => obtain ⟨x, y, q, r⟩ := h; exact ⟨x, y, e.trans q, r⟩
  | ins c fs => obtain ⟨dx, vs, q, l, m, r⟩ := h; exact ⟨dx, vs, e.trans q, l, m, g.rels r⟩
/-- what the layer alone makes new -/
def Wd.lay (w : Wd) (H' : Hp) : Wd := ⟨H', w.h, w.ρ, w.Z, w.ε, w.φ⟩
/-- it changes -/
def Wd.put (w : Wd) (i : Nat) (a : Addr) (u : HO) (o : DO) : Wd := ⟨upd w.H a u, w.h.put i o, w.ρ, w.Z, w.ε, w.φ⟩
/-- it is whole -/
def Wd.cls (w : Wd) (Z : Addr → Prop) : Wd := ⟨w.H, w.h, w.ρ, Z, w.ε, w.φ⟩
def Hh.bump (h : Hh) : Hh := ⟨Nat.succ h.next, h.at_⟩
def Wd.exc (w : Wd) (a : Addr) : Wd := ⟨w.H, w.h.bump, w.ρ, w.Z, fun i => bif Nat.beq i w.h.next then some a else w.ε i, w.φ⟩
/-- the same world, more or less known of it -/
theorem RepH.of {G' : Gs} (R : RepH G w) (e : G'.toGb = G.toGb) (i : G'.iv w) : RepH G' w := ⟨fun i o h => by rw [e]; exact R.live i o h, R.inj, R.nxt, R.trk, R.zt, R.dj, R.nxe, by rw [e]; exact R.tb, i⟩
theorem Step.of {G' : Gs} {w' : Wd} (s : Step G w w') (e : G'.toGb = G.toGb) (i : G'.iv w') : Step G' w w' := ⟨s.toGrow, s.rep.of e i, s.zz, s.fz⟩
end
end Di
set_option Elab.async false
set_option linter.all false
set_option maxRecDepth 100000
set_option maxHeartbeats 1000000
namespace Di
open PySem PySem.Spec PyProof.Rows L2 Zn Dn
abbrev Sl := List (Option DV)
abbrev KE := DV → Hh → Bool
abbrev KX := DX → Hh → Bool
abbrev DE := Sl → Hh → KE → KX → Bool
structure RepS (G : Gb) (w : Wd) (s : Sl) (σ : L2.St) : Prop where
  len : s.length = σ.length
  get : ∀ (i : Nat) (v : DV), s[i]? = some (some v) → ∃ u, σ[i]? = some (some u) ∧ RelD G w v u
theorem RepS.to {G : Gb} {w w' : Wd} {s : Sl} {σ : L2.St} (h : RepS G w s σ) (g : Grow w w') : RepS G w' s σ := ⟨h.len, fun i v e => let ⟨u, e1, r⟩ := h.get i v e; ⟨u, e1, g.rel r⟩⟩
/-- what is wanted behind an expression -/
def GoE (G : Gs) (w : Wd) (k : KE) (Q : VK) : Prop := ∀ w' v u, Step G w w' → RelD G w' v u → k v w'.h = true → Q u w'.H
def GoX (G : Gs) (w : Wd) (kx : KX) (Q : XK) : Prop := ∀ w' x c d, Step G w w' → RelX G w' x c d → kx x w'.h = true → Q c d w'.H
theorem GoE.to {G : Gs} {w w' : Wd} {k : KE} {Q : VK} (h : GoE G w k Q) (s : Step G w w') : GoE G w' k Q := fun w2 v u s2 => h w2 v u (s.trans s2)
theorem GoX.to {G : Gs} {w w' : Wd} {k : KX} {Q : XK} (h : GoX G w k Q) (s : Step G w w') : GoX G w' k Q := fun w2 v u d s2 => h w2 v u d (s.trans s2)
/-- the reading of an expression -/
def RE (G : Gs) (W : WX) (d : DE) : TE := fun σ H Q => ∃ w s k kx, w.H = H ∧ RepH G w ∧ RepS G w s σ ∧ d s w.h k kx = true ∧ GoE G w k Q ∧ GoX G w kx fun c e H' => W c e σ H'
theorem pe_imp {X : Cx} {e : Expr} {t t' : TE} (h : PE X e t) (i : ∀ σ H Q, t' σ H Q → t σ H Q) : PE X e t' := ⟨fun pins s σ H Q I q => h.run pins s σ H Q I (i _ _ _ q)⟩
noncomputable def ssK (i : Nat) (v : Option DV) (s : Sl) (k : Sl → Bool) : Bool :=
  Nat.rec (motive := fun _ => Sl → (Sl → Bool) → Bool) (fun s k => List.rec false (fun _ t _ => k (v :: t)) s) (fun _ ih s k => List.rec false (fun o t _ => ih t fun t' => k (o :: t')) s) i s k
theorem RepS.set {G : Gb} {w : Wd} {s : Sl} {σ : L2.St} {i : Nat} {v : DV} {u : V} (h : RepS G w s σ) (r : RelD G w v u) : RepS G w (s.set i (some v)) (σ.set i (some u)) := by
  refine ⟨by rw [List.length_set, List.length_set, h.len], fun j x e => ?_⟩
  by_cases hj : i = j
  · subst hj
    have hi : i < s.length := by
      have := (List.getElem?_eq_some_iff.mp e).1
      simpa using this
    rw [List.getElem?_set_self hi] at e
    cases e
    exact ⟨u, List.getElem?_set_self (by rw [← h.len]; exact hi), r⟩
  · rw [List.getElem?_set_ne hj] at e ⊢
    exact h.get j x e
theorem RepS.none {G : Gb} {w : Wd} {s : Sl} {σ : L2.St} {i : Nat} (h : RepS G w s σ) : RepS G w (s.set i none) (σ.set i none) := by
  refine ⟨by rw [List.length_set, List.length_set, h.len], fun j x e => ?_⟩
  by_cases hj : i = j
  · subst hj
    have hi : i < s.length := by
      have := (List.getElem?_eq_some_iff.mp e).1
      simpa using this
    rw [List.getElem?_set_self hi] at e
    cases e
  · rw [List.getElem?_set_ne hj] at e ⊢
    exact h.get j x e
section
variable {G : Gs} {W : WX} {X : Cx}
def dC (v : DV) : DE := fun _ h k _ => k v h
/-- a constant that stands for itself -/
theorem x_c {e : Expr} {v : DV} {u : V} (h : PE X e (tC u)) (r : ∀ w, RelD G w v u) : PE X e (RE G W (dC v)) := by
  refine pe_imp h fun σ H Q ⟨w, s, k, kx, e, R, S, h, g, gx⟩ => ?_
  subst e
  exact g w v u (Step.refl R) (r w) h
theorem xs {x : Str} (l : List Nat) {j pos} (h : x.cps.toList = l := by rfl) : PE X (.Constant (.str x) j pos) (RE G W (dC (.str l))) := x_c pe_str fun _ => ⟨x, rfl, h⟩
end
end Di
set_option Elab.async false
set_option linter.all false
set_option maxRecDepth 100000
set_option maxHeartbeats 1000000
namespace Di
open PySem PySem.Spec PyProof.Rows L2 Zn Dn
section
variable {G : Gs} {W : WX} {X : Cx}
abbrev DG := DV → Sl → (Sl → Bool) → Bool
/-- only these slots changed -/
def Only (ids : List Nat) (σ σ' : L2.St) : Prop := σ'.length = σ.length ∧ ∀ j : Nat, j ∉ ids → σ'[j]? = σ[j]?
noncomputable def gN (i : Nat) : DG := fun v s k => ssK i (some v) s k
theorem Only.set (i : Nat) (σ : L2.St) (x : Option V) : Only [i] σ (σ.set i x) := ⟨by rw [List.length_set], fun j hj => by rw [List.getElem?_set_ne (fun z => hj (by simp [z]))]⟩
theorem Only.trans {a b : List Nat} {σ σ1 σ2 : L2.St} (h : Only a σ σ1) (h2 : Only b σ1 σ2) : Only (a ++ b) σ σ2 := ⟨h2.1.trans h.1, fun j hj => by
  rw [List.mem_append] at hj
  rw [h2.2 j fun z => hj (.inr z), h.2 j fun z => hj (.inl z)]⟩
end
end Di
set_option Elab.async false
set_option linter.all false
set_option maxRecDepth 100000
set_option maxHeartbeats 1000000
namespace Di
open PySem PySem.Spec PyProof.Rows L2 Zn Dn
def noX : KX := fun _ _ => false
section
variable {G : Gs} {W : WX} {X : Cx}
theorem sqs_go {w w2 : Wd} {t : Bool} {a : Addr} {ys : List V} (h : SqS w t a ys) (g : Grow w w2) : SqV G.K w2.H t a ys := (g.sq h).sq
end
end Di
set_option Elab.async false
set_option linter.all false
set_option maxRecDepth 100000
set_option maxHeartbeats 1000000
namespace Di
open PySem PySem.Spec PyProof.Rows L2 Zn Dn
section
variable {G : Gs}
def ieq (i j : Int) : Bool := match i, j with
  | .ofNat a, .ofNat b => Nat.beq a b
  | .negSucc a, .negSucc b => Nat.beq a b
  | _, _ => false
/-- equal texts -/
noncomputable def eqC (xs : List Nat) : List Nat → Bool := List.rec (motive := fun _ => List Nat → Bool) (fun ys => List.rec true (fun _ _ _ => false) ys) (fun x _ ih ys => List.rec false (fun y t _ => bif Nat.beq x y then ih t else false) ys) xs
end
end Di
set_option Elab.async false
set_option linter.all false
set_option maxRecDepth 100000
set_option maxHeartbeats 1000000
set_option Elab.async false
set_option linter.all false
set_option maxRecDepth 100000
set_option maxHeartbeats 1000000
namespace Di
open PySem PySem.Spec PyProof.Rows L2 Zn Dn Gd
abbrev Fn := List DV → Hh → KE → KX → Bool
theorem RepH.top {G : Gs} {w : Wd} (R : RepH G w) : RepH G.toGb.top w := R.of rfl trivial
theorem Step.up {G : Gs} {w w' : Wd} (R : RepH G w) (s : Step G.toGb.top w w') : Step G w w' := s.of rfl (G.st _ _ s.toGrow R.iv)
theorem GoE.top {G : Gs} {w : Wd} {k : KE} {Q : VK} (R : RepH G w) (g : GoE G w k Q) : GoE G.toGb.top w k Q := fun w' v u s r h => g w' v u (s.up R) r h
theorem GoX.top {G : Gs} {w : Wd} {k : KX} {Q : XK} (R : RepH G w) (g : GoX G w k Q) : GoX G.toGb.top w k Q := fun w' v u d s r h => g w' v u d (s.up R) r h
section
variable {G : Gs} {W : WX} {X : Cx}
/-- a class of the program: what its instances ask -/
structure Kc (G : Gs) (c : Nat) : Prop where
  cl : Cls G.K (G.cls c)
  na : ∀ f ∈ G.flds c, NoAttr G.K (G.cls c) f
  nd : (G.flds c).Nodup
  le : (G.flds c).length ≤ 100
end
end Di
set_option Elab.async false
set_option linter.all false
set_option maxRecDepth 100000
set_option maxHeartbeats 1000000
set_option Elab.async false
set_option linter.all false
set_option maxRecDepth 100000
set_option maxHeartbeats 1000000
namespace Di
open PySem PySem.Spec PyProof.Rows L2 Zn Dn
section
variable {G : Gs} {W : WX} {X : Cx}
def getL (h : Hh) (i : Nat) (k : List DV → Bool) : Bool := match h.get i with | some (.lst xs) => k xs | _ => false
end
end Di
set_option Elab.async false
set_option linter.all false
set_option maxRecDepth 100000
set_option maxHeartbeats 1000000
namespace Di
open PySem PySem.Spec PyProof.Rows L2 Zn Dn
section
variable {G : Gs} {W : WX} {X : Cx}
inductive Hds : List (List DV) → List DV → List (List DV) → Prop
  | nil : Hds [] [] []
  | cons {x : DV} {t : List DV} {xss : List (List DV)} {hs : List DV} {ts : List (List DV)} : Hds xss hs ts → Hds ((x :: t) :: xss) (x :: hs) (t :: ts)
/-- the i-th ones -/
inductive Rw (i : Nat) : List (List DV) → List DV → Prop
  | nil : Rw i [] []
  | cons {x : DV} {xs : List DV} {xss : List (List DV)} {hs : List DV} : xs[i]? = some x → Rw i xss hs → Rw i (xs :: xss) (x :: hs)
theorem Hds.at {xss ts : List (List DV)} {hs : List DV} (h : Hds xss hs ts) {i : Nat} : ∀ {gs : List DV}, Rw i ts gs → Rw (i + 1) xss gs := by
  induction h with
  | nil => intro gs r; cases r; exact .nil
  | cons _ ih =>
    intro gs r
    cases r with
    | cons e r => exact .cons (by simpa using e) (ih r)
/-- the sequences to be walked beside one another -/
inductive Srcd (G : Gs) (w : Wd) : List DV → List (Bool × Addr) → List (List DV) → Prop
  | nil : Srcd G w [] [] []
  | cons {t : Bool} {a : Addr} {xs : List DV} {ys : List V} {vs : List DV} {src : List (Bool × Addr)} {xss : List (List DV)} : SqS w t a ys → RelDs G w xs ys → Srcd G w vs src xss → Srcd G w (.sq t xs :: vs) ((t, a) :: src) (xs :: xss)
theorem Srcd.all {w w2 : Wd} {vs : List DV} {src : List (Bool × Addr)} {xss : List (List DV)} (h : Srcd G w vs src xss) (g : Grow w w2) : AllSq G.K w2.H src := by
  induction h with
  | nil => intro q hq; cases hq
  | cons hs _ _ ih =>
    intro q hq
    rcases List.mem_cons.mp hq with rfl | hq
    · exact ⟨_, sqs_go hs g⟩
    · exact ih q hq
theorem Srcd.len {w : Wd} {vs : List DV} {src : List (Bool × Addr)} {xss : List (List DV)} (h : Srcd G w vs src xss) : src.length = xss.length := by
  induction h with
  | nil => rfl
  | cons _ _ _ ih => rw [List.length_cons, List.length_cons, ih]
theorem Srcd.row {w w2 : Wd} {vs : List DV} {src : List (Bool × Addr)} {xss : List (List DV)} (h : Srcd G w vs src xss) (g : Grow w w2) {i : Nat} : ∀ {hs : List DV}, Rw i xss hs → ∃ ys, RowAt G.K w2.H i src ys ∧ RelDs G w2 hs ys := by
  induction h with
  | nil => intro hs r; cases r; exact ⟨[], trivial, rfl⟩
  | cons hq rs _ ih =>
    intro hs r
    cases r with
    | cons e r =>
      obtain ⟨ys, a, b⟩ := ih r
      obtain ⟨y, e1, ry⟩ := rs.get e
      exact ⟨y :: ys, ⟨⟨_, sqs_go hq g, e1⟩, a⟩, y, ys, rfl, g.rel ry, b⟩
end
end Di
set_option Elab.async false
set_option linter.all false
set_option maxRecDepth 100000
set_option maxHeartbeats 1000000
namespace Di
open PySem PySem.Spec PyProof.Rows L2 Zn Dn
/-- the kind of a value: a built-in one, a class -/
def kind (v : DV) (h : Hh) (kb ko : Nat → Bool) : Bool := match v with
  | .non => kb 6 | .bl _ => kb 1 | .int _ => kb 0 | .str _ => kb 4
  | .sq t _ => bif t then kb 3 else kb 2
  | .dk _ _ => kb 5
  | .ob c _ => ko c
  | .ref i => getL h i fun _ => kb 2
  | .exc _ => false
  | .clo _ _ => false
  | .rep _ => kb 4
/-- what isinstance asks of a class of the program -/
structure Kt (G : Gs) (c : Nat) : Prop where
  cl : Cls G.K (G.cls c)
  cc : PySem.W.findIn G.K (.ref (G.cls c)) "__class__" = some (some (.builtin "object.__class__"))
  cg : PySem.W.specialIn G.K (.builtin "object.__class__") "__get__" = some (some (.builtin "getset_descriptor.__get__"))
  ct : PySem.W.takesIn G.K (.builtin "object.__class__") = some true
  cm : PySem.W.mroIn G.K (G.cls c) (.type "object") = some true
end Di
set_option Elab.async false
set_option linter.all false
set_option maxRecDepth 100000
set_option maxHeartbeats 1000000
set_option Elab.async false
set_option linter.all false
set_option maxRecDepth 100000
set_option maxHeartbeats 1000000
set_option Elab.async false
set_option linter.all false
set_option maxRecDepth 100000
set_option maxHeartbeats 2000000
namespace Lm
open PySem PySem.Spec PyProof.Rows L2 LamX Gd
end Lm
set_option Elab.async false
set_option linter.all false
set_option maxRecDepth 100000
set_option maxHeartbeats 1000000
namespace Di
open PySem PySem.Spec PyProof.Rows L2 Zn Dn Gd Lm LamX
def Gb.fr (G : Gb) (i : Nat) (cl : List (Str × Addr)) : Gs := ⟨G, fun w => w.φ i = some cl, fun w w' g h => g.po _ _ h⟩
structure Cap (base : Heap) (N cn : List Str) (cl : List (Str × Addr)) (σl : L2.St) : Prop where
  len : σl.length = N.length
  inj : ∀ x y c, cl.lookup x = some c → cl.lookup y = some c → x = y
  has : ∀ y ∈ cn, ∃ c, cl.lookup y = some c
  all : ∀ y c, cl.lookup y = some c → ∃ v, base.IsCell c v
  val : ∀ (i : Nat) (y : Str) (x : V), N[i]? = some y → σl[i]? = some (some x) → ∃ u c, RelV x u ∧ cl.lookup y = some c ∧ base.IsCell c (some u)
theorem Cap.lam {base : Heap} {N cn : List Str} {cl : List (Str × Addr)} {σl : L2.St} {scope : Scope} (C : Cap base N cn cl σl) (hf : ∀ y ∈ scope.names, y.2 = .free → y.1 ∈ cn) : LamC base N scope (cloFrom cl scope.names []) σl := by
  have back : ∀ {y c}, (cloFrom cl scope.names []).lookup y = some c → (y, NameKind.free) ∈ scope.names ∧ cl.lookup y = some c := fun {y c} e => by
    rcases cloFrom_mem (PySem.mem_of_lookup e) with hm | ⟨h1, h2⟩
    · cases hm
    · obtain ⟨c1, hc⟩ := C.has y (hf _ h1 rfl)
      rw [hc] at h2
      refine ⟨h1, ?_⟩
      rw [hc, h2]
      rfl
  have into : ∀ {y}, (y, NameKind.free) ∈ scope.names → ∃ c, (cloFrom cl scope.names []).lookup y = some c := fun {y} hm => mem_lookup (cloFrom_has (cells := cl) (acc := []) hm)
  refine ⟨C.len, fun x y c e1 e2 => C.inj x y c (back e1).2 (back e2).2, fun y hm e => ?_, fun y c e => C.all y c (back e).2, fun i y x e1 e2 hm => ?_⟩
  · obtain ⟨n, k⟩ := y
    cases (show k = .free from e)
    exact into hm
  · obtain ⟨u, c, r, e3, z⟩ := C.val i y x e1 e2
    obtain ⟨c2, e4⟩ := into hm
    have e5 := (back e4).2
    rw [e3] at e5
    cases e5
    exact ⟨u, c, r, e4, z⟩
end Di
set_option Elab.async false
set_option linter.all false
set_option maxRecDepth 100000
set_option maxHeartbeats 2000000
namespace Rq
open PySem PySem.Spec PyProof.Rows L2 Gd Rp
mutual
inductive PyQ (H : Hp) : V → PyData → Prop
  | non : PyQ H .non .none
  | bl (b : Bool) : PyQ H (.bl b) (.bool b)
  | int (i : Int) : PyQ H (.int i) (.int i)
  | str (x : Str) : PyQ H (.str x) (.str x)
  | lst {a : Addr} {xs : List V} {ds : List PyData} : H a = some (.lst xs) → PyQs H xs ds → PyQ H (.ref a) (.list ds)
  | tup {a : Addr} {xs : List V} {ds : List PyData} : H a = some (.tup xs) → PyQs H xs ds → PyQ H (.ref a) (.tuple ds)
  | dct {a : Addr} {kvs : List (Key × V)} {ds : List PyData} : H a = some (.dK kvs) → PyQs H (kvs.map Prod.snd) ds → PyQ H (.ref a) (.dict ((kvs.map fun p => keyD p.1).zip ds))
inductive PyQs (H : Hp) : List V → List PyData → Prop
  | nil : PyQs H [] []
  | cons {x : V} {xs : List V} {d : PyData} {ds : List PyData} : PyQ H x d → PyQs H xs ds → PyQs H (x :: xs) (d :: ds)
end
theorem PyQs.len {H : Hp} : ∀ {vs : List V} {ds : List PyData}, PyQs H vs ds → vs.length = ds.length
  | _, _, .nil => rfl
  | _, _, .cons _ q => by rw [List.length_cons, List.length_cons, q.len]
end Rq
set_option Elab.async false
set_option linter.all false
set_option maxRecDepth 100000
set_option maxHeartbeats 1000000
set_option Elab.async false
set_option linter.all false
set_option maxRecDepth 100000
set_option maxHeartbeats 1000000
namespace Di
open PySem PySem.Spec PyProof.Rows L2 Zn Dn Gd Lm LamX Rq Rp
/-- the very same -/
noncomputable def smL (f : DV → DV → Bool) (xs : List DV) : List DV → Bool :=
  List.rec (motive := fun _ => List DV → Bool) (fun ys => List.rec true (fun _ _ _ => false) ys) (fun x _ ih ys => List.rec false (fun y t _ => bif f x y then ih t else false) ys) xs
noncomputable def sm (n : Nat) : DV → DV → Bool := Nat.rec (motive := fun _ => DV → DV → Bool) (fun _ _ => false)
  (fun _ ih x y => match x with
    | .non => (match y with | .non => true | _ => false)
    | .bl a => (match y with | .bl b => bif a then b else !b | _ => false)
    | .int i => (match y with | .int j => ieq i j | _ => false)
    | .str a => (match y with | .str b => eqC a b | _ => false)
    | .sq t xs => (match y with | .sq u ys => bif (bif t then u else !u) then smL ih xs ys else false | _ => false)
    | .dk ks vs => (match y with | .dk ks' vs' => bif smL ih ks ks' then smL ih vs vs' else false | _ => false)
    | .ob c fs => (match y with | .ob d gs => bif Nat.beq c d then smL ih fs gs else false | _ => false)
    | .rep a => (match y with | .rep b => ih a b | _ => false)
    | _ => false) n
end Di
set_option Elab.async false
set_option linter.all false
set_option maxRecDepth 100000
set_option maxHeartbeats 2000000
namespace Rs
open PySem PySem.Spec PyProof.Rows L2 Gd Rp Rq
/-- room, whatever is handled -/
structure RoomS (k : Nat) (A : Around) : Prop where
  dp : A.depth + 3 * k + 5 < recursionLimit
  un : A.units + 16 * k + 200 < cLine
theorem RoomS.mono {j k : Nat} {A : Around} (r : RoomS k A) (h : j ≤ k) : RoomS j A := ⟨by have := r.dp; omega, by have := r.un; omega⟩
theorem RoomS.in1 {k : Nat} {A : Around} (r : RoomS (k + 1) A) : RoomS k A.in1 := ⟨by have := r.dp; show A.depth + 3 * k + 5 < _; omega, by have := r.un; show A.units + 1 + 16 * k + 200 < _; omega⟩
end Rs
set_option Elab.async false
set_option linter.all false
set_option maxRecDepth 100000
set_option maxHeartbeats 1000000
set_option Elab.async false
set_option linter.all false
set_option maxRecDepth 100000
set_option maxHeartbeats 1000000
set_option Elab.async false
set_option linter.all false
set_option maxRecDepth 100000
set_option maxHeartbeats 1000000
set_option Elab.async false
set_option linter.all false
set_option maxRecDepth 100000
set_option maxHeartbeats 1000000
namespace Ox
open PySem PySem.Spec PyProof.Rows L2 Op
end Ox
set_option Elab.async false
set_option linter.all false
set_option maxRecDepth 100000
set_option maxHeartbeats 1000000
set_option Elab.async false
set_option linter.all false
set_option maxRecDepth 100000
set_option maxHeartbeats 1000000
namespace Di
open PySem PySem.Spec PyProof.Rows L2 Zn Dn Gd Lm LamX
/-- the script stands at what the id i tells -/
def ScrAt (K : PySem.W.Frag) (w : Wd) (i : Nat) : Prop := ∃ (a : Addr) (ns : List Int), w.ε i = some a ∧ ns.length ≤ 63 ∧ ((∃ o, w.H a = some (.frz o (.lst (ns.map V.int))) ∧ ¬ w.M a) ∨ ∀ H, SqL K H a (ns.map V.int))
theorem ScrAt.to {K : PySem.W.Frag} {w w' : Wd} {i : Nat} (g : Grow w w') (h : ScrAt K w i) : ScrAt K w' i := by
  obtain ⟨a, ns, e, l, q⟩ := h
  refine ⟨a, ns, g.eo _ _ e, l, q.imp (fun ⟨o, e2, n⟩ => ⟨o, g.at_ e2 n, g.notM e2 n⟩) id⟩
end Di
set_option Elab.async false
set_option linter.all false
set_option maxRecDepth 100000
set_option maxHeartbeats 1000000
set_option Elab.async false
set_option linter.all false
set_option maxRecDepth 100000
set_option maxHeartbeats 1000000
namespace He
open PySem PySem.Spec PyProof.Rows L2 Gd LamX
/-- the tables -/
def Tb_ (cs : List (Addr × Addr)) (b : Addr) : Prop := ∃ p ∈ cs, p.2 = b
/-- nothing is tracked but them and the frozen script -/
def Lone (cs : List (Addr × Addr)) (H : Hp) : Prop := ∀ b u, H b = some u → (Tb_ cs b ∧ u = .tbl #[]) ∨ ∃ o xs, u = .frz o (.lst xs)
section
variable {P : Program} {w : World} {K : PySem.W.Frag} {mg mb : Str → Option Value} {k : Nat} {fa a : Addr} {cs : List (Addr × Addr)} {fd : FuncData} {x : Str} {sp : Sp} {s₁ : Shared} {vs : List Value} {ns : List Int}
theorem lawGT (inK : K.In s₁.heap) (hns : s₁.heap.Ns mainGlobals mg) (hbn : s₁.heap.Ns builtinsNs mb) (hbb : ∀ x : Str, x ≠ "__name__" → mb x = bootBuiltins x) (hlim : s₁.heap.NoLimit) (hgen : s₁.gens = #[])
    (hT : ∀ p ∈ cs, s₁.heap.get? p.2 = some { cls := .none, data := .fields #[] }) (nT : ∀ p ∈ cs, K.lookup p.2 = none) (hC : ∀ p ∈ cs, PySem.W.CodeHd s₁.heap p.1 p.2)
    (hbm : ∃ (bm : Addr) (ob : Obj), mg "__builtins__" = some (.ref bm) ∧ bm ≠ builtinsNs ∧ s₁.heap.get? bm = some ob ∧ ob.cls = .type "module" ∧ ob.dict = some builtinsNs ∧ ob.data = .plain)
    (ha : s₁.heap.get? a = some { cls := .type "list", data := .seq vs.toArray }) (hi : IntsAre vs ns) (hl : ns.length ≤ sizeLine) (room : Room k callerA)
    (F : ∀ base : Heap, K.In base → base.Ns mainGlobals mg → (∀ p ∈ cs, TabB base mg p.1 p.2) → FnG P w K mg base CX0 k fa fd [x] sp) (hbind : ∀ (s : Shared) (u : Value), BindsTo s fd ⟨[u], []⟩ [(x, u)])
    (hsp : ∀ H : Hp, Lone cs H → (∀ p ∈ cs, H p.2 = some (.tbl #[])) → SqL K H a (ns.map V.int) → sp [.ref a] H (fun v _ => v = .bl true) fun _ _ _ => False) :
    codeAny (model P w) callerA (.call (.ref fa) ⟨[.ref a], []⟩) (fun r s2 => r = .ok (.ret (.bool true)) ∧ OldK s₁.heap s2.heap ∧ s2.os = s₁.os ∧ AllBare s2.gens) s₁ := by
  have rv := vals_ints hi
  have lV := hi.length
  have oT : ∀ {b : Addr}, Tb_ cs b → s₁.heap.get? b = some { cls := .none, data := .fields #[] } := fun {b} ⟨p, hp, e⟩ => e ▸ hT p hp
  have na : ¬ Tb_ cs a := fun z => by
    have q := oT z
    rw [ha] at q
    have d : Data.seq vs.toArray _ = Data.fields #[] := congrArg Obj.data (Option.some.inj q)
    cases d
  -- what is tracked
  classical
  let H : Hp := fun b => if Tb_ cs b then some (.tbl #[]) else if b = a ∧ K.lookup a = none then some (.frz { cls := .type "list", data := .seq vs.toArray } (.lst (ns.map V.int))) else none
  have cases_ : ∀ b u, H b = some u → (Tb_ cs b ∧ u = .tbl #[]) ∨ (b = a ∧ K.lookup a = none ∧ u = .frz { cls := .type "list", data := .seq vs.toArray } (.lst (ns.map V.int))) := fun b u e => by
    have e : (if Tb_ cs b then some (HO.tbl #[]) else if b = a ∧ K.lookup a = none then some (.frz { cls := .type "list", data := .seq vs.toArray } (.lst (ns.map V.int))) else none) = some u := e
    split at e
    · rename_i t
      cases e
      exact .inl ⟨t, rfl⟩
    · split at e
      · rename_i q
        cases e
        exact .inr ⟨q.1, q.2, rfl⟩
      · cases e
  have tabs : ∀ p ∈ cs, H p.2 = some (.tbl #[]) := fun p hp => if_pos ⟨p, hp, rfl⟩
  have lone : Lone cs H := fun b u e => (cases_ b u e).imp id fun ⟨_, _, z⟩ => ⟨_, _, z⟩
  have sq : SqL K H a (ns.map V.int) := by
    cases hk : K.lookup a with
    | none => exact .inl (.inr ⟨{ cls := .type "list", data := .seq vs.toArray }, (if_neg na).trans (if_pos ⟨rfl, hk⟩)⟩)
    | some o =>
      have e := inK a o hk
      rw [ha] at e; cases e
      exact .inr ⟨_, vs.toArray, _, hk, rfl, rfl, rfl, by rw [List.size_toArray, lV]; exact hl, by simpa using rv⟩
  have hok : HOk P w H s₁.heap := fun b u e => by
    rcases cases_ b u e with ⟨t, rfl⟩ | ⟨rfl, _, rfl⟩
    · exact oT t
    · exact ⟨ha, by rw [List.length_map]; exact hl, vs, _, rv, ha⟩
  have loose : ∀ {b : Addr} {o : Obj}, s₁.heap.get? b = some o → o.data ≠ .fields #[] → (∀ v n, o.data ≠ .seq v n) → H b = none := fun {b o} e n1 n2 => by
    cases q : H b with
    | none => rfl
    | some u =>
      rcases cases_ b u q with ⟨t, _⟩ | ⟨z, _, _⟩
      · rw [oT t] at e; cases e
        exact absurd rfl n1
      · rw [z, ha] at e; cases e
        exact absurd rfl (n2 _ _)
  have low : ∀ {b : Addr} {o : Obj}, s₁.heap.get? b = some o → o.data ≠ .fields #[] → (∀ v n, o.data ≠ .seq v n) → (hidT s₁.heap H).get? b = some o := fun e n1 n2 => hidT_get e (loose e n1 n2)
  have under : ∀ {b : Addr} {m : Str → Option Value}, s₁.heap.Ns b m → (hidT s₁.heap H).Ns b m := fun {b m} ⟨o, es, ep, e, d, more⟩ => ⟨o, es, ep, low e (by rw [d]; intro z; cases z) (by rw [d]; intro v n z; cases z), d, more⟩
  have inB : K.In (hidT s₁.heap H) := fun b o e => by
    refine hidT_get (inK b o e) ?_
    cases q : H b with
    | none => rfl
    | some u =>
      rcases cases_ b u q with ⟨⟨p, hp, ep⟩, _⟩ | ⟨z, kn, _⟩
      · rw [← ep, nT p hp] at e; cases e
      · rw [z, kn] at e; cases e
  have modB : Mod K mg (hidT s₁.heap H) := by
    obtain ⟨mc, c1, c2⟩ := hlim
    exact ⟨inB, under hns, ⟨mb, under hbn, hbb⟩, mc, under c1, c2⟩
  have tb : ∀ p ∈ cs, TabB (hidT s₁.heap H) mg p.1 p.2 := fun p hp => by
    obtain ⟨om, _, _, em, dm, _⟩ := id hns
    refine ⟨?_, ?_, fun z => ?_⟩
    · obtain ⟨o, us, file, tf, flags, tg, inF, text, tt, e1, r1, r2, r3, r4⟩ := hC p hp
      refine ⟨o, us, file, tf, flags, tg, inF, text, tt, low e1 (fun z => ?_) (by rw [r2]; intro v n z; cases z), r1, r2, r3, r4⟩
      rw [r2] at z
      cases z
      simp at r3
    · obtain ⟨bm, ob, b1, b2, b3, b4, b5, b6⟩ := hbm
      refine ⟨bm, ob, b1, b2, fun z => ?_, fun z => ?_, low b3 (by rw [b6]; intro z; cases z) (by rw [b6]; intro v n z; cases z), b4, b5, b6⟩
      · rw [z, em] at b3; cases b3
        rw [dm] at b6; cases b6
      · rw [z, hT p hp] at b3; cases b3
        cases b6
    · rw [z, hT p hp] at em; cases em
      cases dm
  have env0 : Env0 P w K mg (hidT s₁.heap H) callerA [] s₁ H := ⟨rfl, modB, fun b o e => of_hidT e, Nat.le_of_eq (hidT_size _ _), trivial, fun b hb => absurd (show b ∈ ([] : List Addr) from hb) (by simp), hok, .of_eq hgen⟩
  refine codeAny_mono ((F _ inB (under hns) tb).run callerA [] s₁ H ⟨[.ref a], []⟩ [.ref a] [.ref a] _ _ rfl room env0 (hbind s₁ (.ref a)) (.cons rfl .nil) (hsp H lone tabs sq)) fun r s2 h => ?_
  cases r with
  | error e => exact (show False from h).elim
  | ok fl =>
    cases fl with
    | next => exact (show False from h).elim
    | brk => exact (show False from h).elim
    | cont => exact (show False from h).elim
    | ret u =>
      obtain ⟨v, H2, sameOs, bareG, un, hok2, ru, qv⟩ := h
      have ev : v = .bl true := qv
      subst ev
      have eu : u = Value.bool true := ru
      subst eu
      have kept : ∀ b o, ¬ Tb_ cs b → s₁.heap.get? b = some o → s2.heap.get? b = some o := fun b o nb e => by
        cases q : H b with
        | none => exact un.keep b o e q (fun z => absurd (show b ∈ ([] : List Addr) from z) (by simp)) (by simp)
        | some u2 =>
          rcases cases_ b u2 q with ⟨t, _⟩ | ⟨_, _, rfl⟩
          · exact absurd t nb
          · have f1 := (hok b _ q).1
            have f2 := (hok2 b _ (un.frzs b _ _ q)).1
            rw [e] at f1; cases f1
            exact f2
      have grown : ∀ p ∈ cs, ∃ more : Array Value, s2.heap.get? p.2 = some { cls := .none, data := .fields more } := fun p hp => by
        obtain ⟨more, z⟩ := un.tbls p.2 #[] (tabs p hp)
        exact ⟨_, hok2 p.2 _ z⟩
      refine ⟨rfl, ⟨fun b o e => ?_, fun b o e => ?_⟩, sameOs, bareG⟩
      · by_cases hb : Tb_ cs b
        · obtain ⟨p, hp, ep⟩ := hb
          obtain ⟨more, hm⟩ := grown p hp
          subst ep
          rw [hT p hp] at e; cases e
          exact .inr (.inl ⟨((hC p hp).tab (hT p hp)).isCodeTable, rfl, #[], more, rfl, by rw [Array.empty_append]; exact hm⟩)
        · exact .inl (kept b o hb e)
      · by_cases hb : Tb_ cs b
        · obtain ⟨p, hp, ep⟩ := hb
          obtain ⟨more, hm⟩ := grown p hp
          exact ⟨_, ep ▸ hm⟩
        · exact ⟨o, kept b o hb e⟩
end
/-- what is known of the law at the head's heap h -/
def LawT (l : PySem.W.OpenLaw) (w : World) (K : PySem.W.Frag) (k n : Nat) (x : Str) (mg : Str → Option Value) (fa : Addr) (h : Heap) : Prop :=
  ∃ (fd : FuncData) (cs : List (Addr × Addr)) (sp : Sp), (∀ p ∈ cs, h.get? p.2 = some { cls := .none, data := .fields #[] }) ∧ (∀ p ∈ cs, K.lookup p.2 = none) ∧ (∀ p ∈ cs, PySem.W.CodeHd h p.1 p.2) ∧ (∀ (s : Shared) (u : Value), BindsTo s fd ⟨[u], []⟩ [(x, u)]) ∧
    (∀ (H : Hp) (a : Addr) (ns : List Int), ns.length ≤ n → Lone cs H → (∀ p ∈ cs, H p.2 = some (.tbl #[])) → SqL K H a (ns.map V.int) → sp [.ref a] H (fun v _ => v = .bl true) fun _ _ _ => False) ∧
    ∀ base : Heap, K.In base → base.Ns mainGlobals mg → (∀ p ∈ cs, TabB base mg p.1 p.2) → FnG l.prog w K mg base CX0 k fa fd [x] sp
theorem walkGT {l : PySem.W.OpenLaw} {n k : Nat} {q : Program} {loose : List Str} {XP : (Str → Option Value) → Heap → Prop} {YP : World → Heap → Prop} {d : DefRec} {K : Params → PySem.W.Frag} {x : Str}
    (hn : l.most = some n) (hn2 : n ≤ sizeLine) (hdf : d.params.defaults = []) (room : Room k callerA) (hY : ∀ (w : World) (h : Heap), YP w h → (K w.params).In h)
    (F : ∀ (w : World) (mg : Str → Option Value) (fa : Addr) (h : Heap), YP w h → (K w.params).In h → h.Ns mainGlobals mg → mg d.name = some (.ref fa) → LawT l w (K w.params) k n x mg fa h) :
    PySem.W.WalkO q loose XP YP l.row.toRowW d [] (fun f vs => PySem.call f vs) := by
  refine Att.attach_call hn hdf fun w s₀ s₁ mg mb fa o pm cd doc a vs ns G Y ho hd hcd hmg hobj hints hlen hgen => ?_
  have inK := hY w s₁.heap Y
  obtain ⟨fd, cs, sp, hT, nT, hC, hb, hsp, hF⟩ := F w mg fa s₁.heap Y inK G.T.g hmg
  exact lawGT inK G.T.g G.T.b G.T.builtins G.T.nolimit hgen hT nT hC G.T.bmain hobj hints (Nat.le_trans hlen hn2) room hF hb fun H hO hH hS => hsp H a ns hlen hO hH hS
end He
set_option Elab.async false
set_option linter.all false
set_option maxRecDepth 100000
set_option maxHeartbeats 1000000
namespace Di
open PySem PySem.Spec PyProof.Rows L2 Zn Dn Gd Lm LamX He
def h0 : Hh := ⟨1, []⟩
end Di
set_option Elab.async false
set_option linter.all false
set_option maxRecDepth 100000
set_option maxHeartbeats 1000000
set_option Elab.async false
set_option linter.all false
set_option maxRecDepth 100000
set_option maxHeartbeats 1000000
namespace Di
open PySem PySem.Spec PyProof.Rows L2 Zn Dn Lm LamX Gd
section
variable {G : Gs} {W : WX} {X : Cx}
mutual
/-- v stands at u in H, all of it new to H0 -/
def Lt (H0 H : Hp) : DV → V → Prop
  | .non, u => u = .non
  | .bl b, u => u = .bl b
  | .int i, u => u = .int i
  | .str x, u => ∃ s : Str, u = .str s ∧ s.cps.toList = x
  | .sq t xs, u => ∃ a ys, u = .ref a ∧ H0 a = none ∧ H a = some (bx t ys) ∧ Lts H0 H xs ys
  | .dk ks vs, u => ∃ a kvs, u = .ref a ∧ H0 a = none ∧ H a = some (.dK kvs) ∧ Lts H0 H ks (kvs.map fun p => kV p.1) ∧ Lts H0 H vs (kvs.map Prod.snd)
  | _, _ => False
def Lts (H0 H : Hp) : List DV → List V → Prop
  | [], ys => ys = []
  | x :: xs, ys => ∃ y zs, ys = y :: zs ∧ Lt H0 H x y ∧ Lts H0 H xs zs
end
mutual
theorem Lt.to {H0 H0' H H' : Hp} (h0 : ∀ a, H0 a = none → H0' a = none) (s : ∀ a o, H0 a = none → H a = some o → H' a = some o) : ∀ {v : DV} {u : V}, Lt H0 H v u → Lt H0' H' v u
  | .non, u, h => h
  | .bl b, u, h => h
  | .int i, u, h => h
  | .str x, u, h => h
  | .sq t xs, u, h => by
    obtain ⟨a, ys, e, n, q, r⟩ := h
    exact ⟨a, ys, e, h0 a n, s _ _ n q, Lts.to h0 s r⟩
  | .dk ks vs, u, h => by
    obtain ⟨a, kvs, e, n, q, r1, r2⟩ := h
    exact ⟨a, kvs, e, h0 a n, s _ _ n q, Lts.to h0 s r1, Lts.to h0 s r2⟩
  | .ob _ _, u, h => h.elim
  | .ref _, u, h => h.elim
  | .exc _, u, h => h.elim
  | .clo _ _, u, h => h.elim
  | .rep _, u, h => h.elim
theorem Lts.to {H0 H0' H H' : Hp} (h0 : ∀ a, H0 a = none → H0' a = none) (s : ∀ a o, H0 a = none → H a = some o → H' a = some o) : ∀ {vs : List DV} {us : List V}, Lts H0 H vs us → Lts H0' H' vs us
  | [], us, h => h
  | x :: xs, us, h => by
    obtain ⟨y, zs, e, r, q⟩ := h
    exact ⟨y, zs, e, Lt.to h0 s r, Lts.to h0 s q⟩
end
mutual
theorem Lt.rel {G : Gs} {w : Wd} {H' : Hp} (R : RepH G w) (s : Same w.H H') : ∀ {v : DV} {u : V}, Lt w.H H' v u → RelD G (w.lay H') v u
  | .non, u, h => h
  | .bl b, u, h => h
  | .int i, u, h => h
  | .str x, u, h => h
  | .sq t xs, u, h => by
    obtain ⟨a, ys, e, n, q, r⟩ := h
    exact ⟨a, ys, e, ⟨fun z => notM_of_none R n z, q⟩, Lts.rel R s r⟩
  | .dk ks vs, u, h => by
    obtain ⟨a, kvs, e, n, q, r1, r2⟩ := h
    exact ⟨a, kvs, e, fun z => notM_of_none R n z, q, Lts.rel R s r1, Lts.rel R s r2⟩
  | .ob _ _, u, h => h.elim
  | .ref _, u, h => h.elim
  | .exc _, u, h => h.elim
  | .clo _ _, u, h => h.elim
  | .rep _, u, h => h.elim
theorem Lts.rel {G : Gs} {w : Wd} {H' : Hp} (R : RepH G w) (s : Same w.H H') : ∀ {vs : List DV} {us : List V}, Lts w.H H' vs us → RelDs G (w.lay H') vs us
  | [], us, h => h
  | x :: xs, us, h => by
    obtain ⟨y, zs, e, r, q⟩ := h
    exact ⟨y, zs, e, Lt.rel R s r, Lts.rel R s q⟩
end
theorem Lts.len {H0 H : Hp} : ∀ {vs : List DV} {us : List V}, Lts H0 H vs us → vs.length = us.length
  | [], us, h => by rw [show us = [] from h]; rfl
  | x :: xs, us, h => by
    obtain ⟨y, zs, rfl, _, q⟩ := h
    rw [List.length_cons, List.length_cons, q.len]
end
theorem Kc.of {G : Gb} {G' : Gs} {c : Nat} (k : Kc G.top c) (e : G'.toGb = G) : Kc G' c := by
  subst e
  exact ⟨k.cl, k.na, k.nd, k.le⟩
theorem Kt.of {G : Gb} {G' : Gs} {c : Nat} (k : Kt G.top c) (e : G'.toGb = G) : Kt G' c := by
  subst e
  exact ⟨k.cl, k.cc, k.cg, k.ct, k.cm⟩
end Di
set_option Elab.async false
set_option linter.all false
set_option maxRecDepth 100000
set_option maxHeartbeats 1000000
namespace Di
open PySem PySem.Spec PyProof.Rows L2 Zn Dn Lm LamX Gd Rs
structure FunC (K : PySem.W.Frag) (x qual : Str) (st : Stmt) (f : Addr) (fd : FuncData) (c : Addr) : Prop where
  ex : ∃ (oc : Value) (od : Option Addr) (kV doc pm : Value) (an : Option Addr) (ct : Value) (osl : Array (Option Value)),
    fd = PySem.W.fnOf x qual (defArgs st) (defBody st) (defScope st) .none kV doc pm an (.ref c) ct ∧ K.lookup f = some ⟨oc, od, .func fd, osl⟩ ∧ PySem.W.codeIn K (.ref c) qual = true
end Di
set_option Elab.async false
set_option linter.all false
set_option maxRecDepth 100000
set_option maxHeartbeats 1000000
namespace Di
open PySem PySem.Spec PyProof.Rows L2 Zn Dn Lm LamX Gd Rs
theorem only_of {TT : List (Addr × Str)} {P : Addr} {z : Str} (nd : (TT.map Prod.fst).Nodup) (hm : (P, z) ∈ TT) : ∀ p ∈ TT, p.1 = P → p.2 = z := by
  induction TT with
  | nil => cases hm
  | cons t r ih =>
    rw [List.map_cons, List.nodup_cons] at nd
    intro p hp e
    rcases List.mem_cons.mp hm with h | h
    · rcases List.mem_cons.mp hp with h2 | h2
      · rw [h2, ← h]
      · exact absurd (List.mem_map.mpr ⟨p, h2, by rw [e, ← h]⟩) nd.1
    · rcases List.mem_cons.mp hp with h2 | h2
      · exact absurd (List.mem_map.mpr ⟨_, h, by rw [← h2, e]⟩) nd.1
      · exact ih nd.2 h p h2 e
/-- a maker's facts: its code object, the table -/
theorem func_mk {K : PySem.W.Frag} {x qual : Str} {st : Stmt} {f c : Addr} {oc : Value} {od an : Option Addr} {osl : Array (Option Value)} {kV doc pm ct : Value} (l : K.lookup f = some ⟨oc, od, .func (PySem.W.fnOf x qual (defArgs st) (defBody st) (defScope st) .none kV doc pm an (.ref c) ct), osl⟩)
    (h : PySem.W.codeIn K (.ref c) qual = true) : FunC K x qual st f (PySem.W.fnOf x qual (defArgs st) (defBody st) (defScope st) .none kV doc pm an (.ref c) ct) c := ⟨oc, od, kV, doc, pm, an, ct, osl, rfl, l, h⟩
theorem FunC.toFun {K : PySem.W.Frag} {x qual : Str} {st : Stmt} {f c : Addr} {fd : FuncData} (F : FunC K x qual st f fd c) (k : PySem.W.keepIn K (.ref f) = true) : Fun K x qual st f fd := by
  obtain ⟨oc, od, kV, doc, pm, an, ct, osl, e, l, h⟩ := F.ex
  exact ⟨⟨oc, od, kV, doc, pm, an, _, ct, osl, e, l, h⟩, k⟩
end Di
set_option Elab.async false
set_option linter.all false
set_option maxRecDepth 100000
set_option maxHeartbeats 1000000
set_option Elab.async false
set_option linter.all false
set_option maxRecDepth 100000
set_option maxHeartbeats 1000000
namespace Di
open PySem PySem.Spec PyProof.Rows L2 Zn Dn Lm LamX Gd
/-- nothing of one's own -/
def Wd.bare (w : Wd) : Wd := ⟨w.H, ⟨0, []⟩, fun _ => none, fun _ => False, fun _ => none, fun _ => none⟩
/-- it is v -/
noncomputable def yesIs (v : DV) : KE := fun u _ => sm 12 u v
abbrev TabD := List (List DV × DV)
/-- what the table says is what the def gives -/
def Rows (fn : Fn) (tab : TabD) : Prop := ∀ p ∈ tab, fn p.1 ⟨0, []⟩ (yesIs p.2) noX = true
end Di
set_option Elab.async false
set_option linter.all false
set_option maxRecDepth 100000
set_option maxHeartbeats 1000000
set_option Elab.async false
set_option linter.all false
set_option maxRecDepth 100000
set_option maxHeartbeats 2000000
namespace Dm
open PySem PySem.Spec PyProof.Rows L2 Dn Tb
def mK (M : List (List Int)) : NestedKey := .tup (M.map fun r => .tup (r.map .num))
theorem nums_inj : ∀ {xs ys : List Int}, xs.map NestedKey.num = ys.map NestedKey.num → xs = ys
  | [], [], _ => rfl
  | [], _ :: _, h => by simp at h
  | _ :: _, [], h => by simp at h
  | x :: xs, y :: ys, h => by
    simp only [List.map_cons, List.cons.injEq, NestedKey.num.injEq] at h
    rw [h.1, nums_inj h.2]
theorem rows_inj : ∀ {M N : List (List Int)}, (M.map fun r => NestedKey.tup (r.map .num)) = (N.map fun r => NestedKey.tup (r.map .num)) → M = N
  | [], [], _ => rfl
  | [], _ :: _, h => by simp at h
  | _ :: _, [], h => by simp at h
  | r :: M, s :: N, h => by
    simp only [List.map_cons, List.cons.injEq, NestedKey.tup.injEq] at h
    rw [nums_inj h.1, rows_inj h.2]
theorem mK_inj {M N : List (List Int)} (h : mK M = mK N) : M = N := by
  unfold mK at h
  exact rows_inj (NestedKey.tup.inj h)
theorem depth_nums : ∀ xs : List Int, NestedKey.depthAll (xs.map .num) = 0
  | [] => rfl
  | x :: xs => by rw [List.map_cons, NestedKey.depthAll, depth_nums xs]; rfl
theorem depth_rows : ∀ M : List (List Int), NestedKey.depthAll (M.map fun r => .tup (r.map .num)) ≤ 1
  | [] => by show 0 ≤ 1; decide
  | r :: M => by
    have := depth_rows M
    rw [List.map_cons, NestedKey.depthAll, NestedKey.depth, depth_nums r]
    omega
theorem mK_depth (M : List (List Int)) : (mK M).depth ≤ 8 := by
  have := depth_rows M
  unfold mK
  rw [NestedKey.depth]
  omega
theorem nums_are {h : Heap} : ∀ {xs : List Int} {its : List Value}, Vals (xs.map V.int) its → NestedAll h (xs.map .num) its
  | [], _, r => by cases r; exact .nil
  | x :: xs, _, r => by
    cases r with
    | cons a b =>
      obtain ⟨t, rfl⟩ := a
      exact .cons (.int x t) (nums_are b)
section
variable {P : Program} {w : World} {H : Hp} {h : Heap}
theorem row_is (ok : HOk P w H h) {v : V} {u : Value} {r : List Int} (hr : RowV H v r) (e : RelV v u) : NestedIs h (.tup (r.map .num)) u := by
  obtain ⟨b, rfl, hb⟩ := hr
  cases (show u = Value.ref b from e)
  obtain ⟨_, its, rv, o, h1, h2, n, h3⟩ := (show ObjOk P w H h b (.tup (r.map V.int)) from ok b _ hb)
  exact .tup h1 h2 h3 (by simpa using nums_are rv)
theorem rows_are (ok : HOk P w H h) {vs : List V} {M : List (List Int)} (hr : RowsV H vs M) : ∀ {its : List Value}, Vals vs its → NestedAll h (M.map fun r => .tup (r.map .num)) its := by
  induction hr with
  | nil => intro its r; cases r; exact .nil
  | cons a _ ih =>
    intro its r
    cases r with
    | cons x y => exact .cons (row_is ok a x) (ih y)
theorem mx_is (ok : HOk P w H h) {b : Addr} {M : List (List Int)} (hm : Mx H (.ref b) M) : (nestedKind P w).is h (mK M) b := by
  obtain ⟨a, vs, e, ha, hr⟩ := hm
  cases e
  obtain ⟨_, its, rv, o, h1, h2, n, h3⟩ := (show ObjOk P w H h b (.tup vs) from ok b _ ha)
  exact ⟨.tup h1 h2 h3 (by simpa using rows_are ok hr rv), mK_depth M⟩
end
abbrev En := List (List Int) × Addr × Addr
def ents (xs : List En) : List (NestedKey × Addr × Value) := xs.map fun x => (mK x.1, x.2.1, Value.ref x.2.2)
def mdO (P : Program) (w : World) (d : Addr) (xs : List En) : HO := .ext fun h => (d == sysModules) = false ∧ ∃ o es ep, h.get? d = some o ∧ o.ExactDict ∧ o.data = .dict es ep ∧ es.toList = (ents xs).map (entryOfKey (nestedKind P w))
structure MD (P : Program) (w : World) (H : Hp) (d : Addr) (xs : List En) : Prop where
  at_ : H d = some (mdO P w d xs)
  key : ∀ x ∈ xs, Mx H (.ref x.2.1) x.1
  nd : (xs.map (·.1)).Nodup
  len : xs.length ≤ 100000
section
variable {P : Program} {w : World} {H H' : Hp} {h : Heap} {d : Addr} {xs : List En}
theorem ents_nd (n : (xs.map (·.1)).Nodup) : ((ents xs).map (·.1)).Nodup := by
  have e : (ents xs).map (·.1) = (xs.map (·.1)).map mK := by
    unfold ents
    rw [List.map_map, List.map_map]
    rfl
  rw [e]
  exact List.Pairwise.map mK (fun a b ne z => ne (mK_inj z)) n
theorem MD.dict (m : MD P w H d xs) (ok : HOk P w H h) : (d == sysModules) = false ∧ h.DictOfH (nestedKind P w) d (ents xs) := by
  obtain ⟨⟨ns, o, es, ep, h1, h2, h3, h4⟩, _, _⟩ := (show ObjOk P w H h d (mdO P w d xs) from ok d _ m.at_)
  refine ⟨ns, o, es, ep, h1, h2, h3, h4, fun x hx => ?_, ents_nd m.nd⟩
  obtain ⟨y, hy, rfl⟩ := List.mem_map.mp hx
  exact mx_is ok (m.key y hy)
theorem mdO_ok {h' : Heap} (ns : (d == sysModules) = false) (dd : h'.DictOfH (nestedKind P w) d (ents xs)) : ObjOk P w H h' d (mdO P w d xs) := by
  obtain ⟨o, es, ep, h1, h2, h3, h4, _⟩ := dd
  refine ⟨⟨ns, o, es, ep, h1, h2, h3, h4⟩, ⟨o, h1⟩, fun g1 g2 q k => ?_⟩
  obtain ⟨ns, o, es, ep, h1, h2, h3, h4⟩ := q
  exact ⟨ns, o, es, ep, k o h1, h2, h3, h4⟩
theorem MD.ks (k : KS H H') (e : H' d = H d) (m : MD P w H d xs) : MD P w H' d xs := ⟨by rw [e]; exact m.at_, fun x hx => (m.key x hx).mono k, m.nd, m.len⟩
theorem MD.same (s : Same H H') (m : MD P w H d xs) : MD P w H' d xs := ⟨s _ _ m.at_, fun x hx => (m.key x hx).mono (KS.of s), m.nd, m.len⟩
theorem find_ents (M : List (List Int)) : ∀ xs : List En, ((ents xs).find? fun x => decide (x.1 = mK M)) = (xs.find? fun x => decide (x.1 = M)).map fun x => (mK x.1, x.2.1, Value.ref x.2.2)
  | [] => rfl
  | x :: xs => by
    show List.find? _ ((mK x.1, x.2.1, Value.ref x.2.2) :: ents xs) = _
    rw [List.find?_cons, List.find?_cons]
    by_cases z : x.1 = M
    · rw [decide_eq_true z, decide_eq_true (show mK x.1 = mK M by rw [z])]
      rfl
    · rw [decide_eq_false z, decide_eq_false (fun q => z (mK_inj q))]
      exact find_ents M xs
def hasM (xs : List En) (M : List (List Int)) : Bool := (xs.find? fun x => decide (x.1 = M)).isSome
theorem at_ents (xs : List En) (M : List (List Int)) : (atKey (ents xs) (mK M)).isSome = hasM xs M := by
  unfold atKey hasM
  rw [find_ents, Option.isSome_map, Option.isSome_map]
/-- what stands after d[M] = v, the key at b -/
def putM (xs : List En) (M : List (List Int)) (b v : Addr) : List En := if hasM xs M then xs.map fun x => if x.1 = M then (x.1, x.2.1, v) else x else xs ++ [(M, b, v)]
theorem ents_put (xs : List En) (M : List (List Int)) (b v : Addr) : storedH (ents xs) (mK M) b (.ref v) = ents (putM xs M b v) := by
  unfold storedH putM
  rw [at_ents]
  by_cases z : hasM xs M = true
  · rw [if_pos z, if_pos z]
    unfold ents
    rw [List.map_map, List.map_map]
    refine List.map_congr_left fun x hx => ?_
    show putAt (mK M) (.ref v) (mK x.1, x.2.1, Value.ref x.2.2) = _
    unfold putAt
    by_cases q : x.1 = M
    · rw [if_pos (show mK x.1 = mK M by rw [q])]
      simp only [Function.comp, if_pos q]
    · rw [if_neg (fun e => q (mK_inj e))]
      simp only [Function.comp, if_neg q]
  · rw [if_neg z, if_neg z]
    unfold ents
    rw [List.map_append]
    rfl
theorem has_mem {xs : List En} {M : List (List Int)} : hasM xs M = true ↔ M ∈ xs.map (·.1) := by
  unfold hasM
  rw [List.find?_isSome]
  constructor
  · rintro ⟨x, hx, e⟩
    exact List.mem_map.mpr ⟨x, hx, of_decide_eq_true e⟩
  · intro h
    obtain ⟨x, hx, e⟩ := List.mem_map.mp h
    exact ⟨x, hx, decide_eq_true e⟩
theorem put_keys (xs : List En) (M : List (List Int)) (b v : Addr) : (putM xs M b v).map (·.1) = if hasM xs M then xs.map (·.1) else xs.map (·.1) ++ [M] := by
  unfold putM
  by_cases z : hasM xs M = true
  · rw [if_pos z, if_pos z, List.map_map]
    refine List.map_congr_left fun x _ => ?_
    simp only [Function.comp]
    split <;> rfl
  · rw [if_neg z, if_neg z, List.map_append]
    rfl
theorem put_nd {xs : List En} {M : List (List Int)} {b v : Addr} (n : (xs.map (·.1)).Nodup) : ((putM xs M b v).map (·.1)).Nodup := by
  rw [put_keys]
  split
  · exact n
  · rename_i z
    refine List.nodup_append.mpr ⟨n, by simp, fun a ha c hc e => ?_⟩
    simp only [List.mem_singleton] at hc
    subst hc
    subst e
    exact z (has_mem.mpr ha)
theorem put_len (xs : List En) (M : List (List Int)) (b v : Addr) : (putM xs M b v).length ≤ xs.length + 1 := by
  unfold putM
  split
  · rw [List.length_map]; omega
  · rw [List.length_append]; exact Nat.le_refl _
theorem put_mem {xs : List En} {M : List (List Int)} {b v : Addr} {x : En} (hx : x ∈ putM xs M b v) : (∃ y ∈ xs, x.1 = y.1 ∧ x.2.1 = y.2.1 ∧ (x = y ∨ (y.1 = M ∧ x.2.2 = v))) ∨ x = (M, b, v) := by
  unfold putM at hx
  split at hx
  · obtain ⟨y, hy, rfl⟩ := List.mem_map.mp hx
    refine .inl ⟨y, hy, ?_⟩
    split
    · rename_i e; exact ⟨rfl, rfl, .inr ⟨e, rfl⟩⟩
    · exact ⟨rfl, rfl, .inl rfl⟩
  · rcases List.mem_append.mp hx with h | h
    · exact .inl ⟨x, h, rfl, rfl, .inl rfl⟩
    · simp only [List.mem_singleton] at h
      exact .inr h
/-- a dict changed: what is behind other addresses stays -/
theorem md_mx {H : Hp} {d : Addr} {P : Program} {w : World} {xs : List En} {o : HO} {v : V} {M : List (List Int)} (e : H d = some (mdO P w d xs)) (h : Mx H v M) : Mx (upd H d o) v M := by
  have row : ∀ {v : V} {r : List Int}, RowV H v r → RowV (upd H d o) v r := fun {v r} q => by
    obtain ⟨b, rfl, hb⟩ := q
    refine ⟨b, rfl, ?_⟩
    rw [upd_ne (ne_of hb e (fun z => by cases z))]
    exact hb
  obtain ⟨a, vs, rfl, ha, hr⟩ := h
  refine ⟨a, vs, rfl, ?_, ?_⟩
  · rw [upd_ne (ne_of ha e (fun z => by cases z))]
    exact ha
  · clear ha
    induction hr with
    | nil => exact .nil
    | cons x _ ih => exact .cons (row x) ih
theorem MD.put {M : List (List Int)} {b v : Addr} (m : MD P w H d xs) (hb : Mx H (.ref b) M) (l : xs.length < 100000) : MD P w (upd H d (mdO P w d (putM xs M b v))) d (putM xs M b v) := by
  refine ⟨upd_same, fun x hx => ?_, put_nd m.nd, Nat.le_trans (put_len xs M b v) l⟩
  rcases put_mem hx with ⟨y, hy, e1, e2, _⟩ | rfl
  · rw [e1, e2]
    exact md_mx m.at_ (m.key y hy)
  · exact md_mx m.at_ hb
end
section
variable {X : Cx}
theorem room_nested {A : Around} (hu : A.units + 10 < cLine) : (nestedKind X.prog X.w).room A.in1 := by
  show A.units + 1 + 8 < cLine
  omega
theorem md_empty {H : Hp} (h : Heap) (hb : sysModules < h.objs.size) : ObjOk X.prog X.w H (h.push { cls := .type "dict", data := .dict #[] }) h.objs.size (mdO X.prog X.w h.objs.size []) :=
  mdO_ok (beq_eq_false_iff_ne.mpr (Ne.symm (Nat.ne_of_lt hb))) ⟨_, #[], 0, Heap.get?_push_size _ rfl, ⟨rfl, rfl, rfl⟩, rfl, rfl, fun x hx => (nomatch hx), List.nodup_nil⟩
/-- y in d, y not in d -/
def tMIn (P : Program) (w : World) (neg : Bool) (ty td : TE) : TE := fun σ H Q => ty σ H fun y H1 => td σ H1 fun x H2 => ∃ (a b : Addr) (xs : List En) (M : List (List Int)), x = .ref a ∧ y = .ref b ∧ MD P w H2 a xs ∧ Mx H2 y M ∧ Q (.bl (neg ^^ hasM xs M)) H2
theorem pc_mnotin {i o : Expr} {ty td : TE} (hu : X.A.units + 10 < cLine) (hi : PE X i ty) (ho : PE X o td) : PC X .NotIn i o (tMIn X.prog X.w true ty td) := by
  refine ⟨fun pins s σ H Q I h => ?_⟩
  refine thn (hi.run pins s σ H _ I h) fun iv s1 ⟨y, H1, I1, ry, q1⟩ => thn (ho.run pins s1 σ H1 _ I1 q1) fun u s2 ⟨x, H2, I2, rx, a, b, xs, M, ex, ey, m, hm, q2⟩ => ?_
  subst ex
  subst ey
  obtain rfl : u = Value.ref a := rx
  obtain rfl : iv = Value.ref b := ry
  obtain ⟨ns, dd⟩ := m.dict I2.hok
  refine wpAny_notIn_heap (room_nested hu) (mx_is I2.hok hm) ns dd ?_
  rw [at_ents]
  exact ⟨.bl (!hasM xs M), H2, I2.tok _, rfl, by simpa using q2⟩
/-- d[y] = v -/
def sMPut (P : Program) (w : World) (td ty tv : TE) : TS := fun D σ H => tv σ H fun v H1 => td σ H1 fun x H2 => ty σ H2 fun y H3 => ∃ (a b c : Addr) (xs : List En) (M : List (List Int)), x = .ref a ∧ y = .ref b ∧ v = .ref c ∧ MD P w H3 a xs ∧ Mx H3 y M ∧ xs.length < 100000 ∧ D.nx σ (upd H3 a (mdO P w a (putM xs M b c)))
theorem ps_mput {o i value : Expr} {pos pos' : Pos} {td ty tv : TE} (hu : X.A.units + 10 < cLine) (ho : PE X o td) (hi : PE X i ty) (hv : PE X value tv) (hs : swapsWith value (some (.Subscript o i pos')) pos.line X.env = pure false) :
    PS X (.Assign [.Subscript o i pos'] value pos) (sMPut X.prog X.w td ty tv) := by
  refine ⟨fun pins s σ H D I h => ?_⟩
  refine wpAny_Assign_Subscript (thn (hv.run pins s σ H _ I h) fun r s1 ⟨v, H1, I1, rv, q1⟩ => thn (ho.run pins s1 σ H1 _ I1 q1) fun u s2 ⟨x, H2, I2, rx, q2⟩ => thn (hi.run pins s2 σ H2 _ I2 q2) fun iv s3 ⟨y, H3, I3, ry, a, b, c, xs, M, ex, ey, ec, m, hm, l, q3⟩ => ?_) hs
  subst ex
  subst ey
  subst ec
  obtain rfl : u = Value.ref a := rx
  obtain rfl : iv = Value.ref b := ry
  obtain rfl : r = Value.ref c := rv
  obtain ⟨ns, dd⟩ := m.dict I3.hok
  have hz : (ents xs).length ≤ sizeLine := by
    unfold ents
    rw [List.length_map, sizeLine_eq]
    omega
  refine wpAny_setItem_heap (hsz := hz) (room_nested hu) (mx_is I3.hok hm) dd fun h' dd' hs => ?_
  rw [ents_put] at dd'
  have he : ∃ q, h'.get? a = some q := let ⟨q, _, _, hq, _⟩ := dd'; ⟨q, hq⟩
  exact ⟨σ, _, d_write I3 (by rw [m.at_]; exact True.intro) hs he (mdO_ok ns dd'), q3⟩
/-- {k: v} -/
def tMDisp (P : Program) (w : World) (tk tv : TE) : TE := fun σ H Q => ∀ p, H p = none → tk σ (upd H p (mdO P w p [])) fun x H1 => tv σ H1 fun y H2 => ∃ (b c : Addr) (M : List (List Int)), x = .ref b ∧ y = .ref c ∧ Mx H2 x M ∧ H2 p = some (mdO P w p []) ∧ Q (.ref p) (upd H2 p (mdO P w p [(M, b, c)]))
theorem pe_mdisp {k v : Expr} {pos : Pos} {tk tv : TE} (hu : X.A.units + 10 < cLine) (hk : PE X k tk) (hv : PE X v tv) : PE X (.Dict [some k] [v] pos) (tMDisp X.prog X.w tk tv) := by
  refine ⟨fun pins s σ H Q I q => ?_⟩
  have hn := I.hok.fresh (Nat.le_refl s.heap.objs.size)
  have I1 := I.laid (a := s.heap.objs.size) (o := mdO X.prog X.w s.heap.objs.size []) (h' := s.heap.push { cls := .type "dict", data := .dict #[] }) (t' := s.toks) (fun _ _ q => Heap.get?_push_of_some _ q) (Nat.le_refl _) (md_empty s.heap I.big)
  have q := q _ hn
  rw [arm_eval_Dict, zip_pairTrees [some k] [v] _ pos rfl rfl, dictDisplay_pairs _ (by simp [pairTrees]) (by simp [pairTrees])]
  refine wpAny_bind (wpAny_standAt (wpAny_bind ?_))
  unfold subDict
  refine wpAny_bind (wpAny_alloc ?_)
  refine wpAny_bind (wpAny_holding ?_)
  rw [if_pos (by simp [pairTrees])]
  refine wpAny_bind (pairTrees_cons_walk (thn (hk.run pins _ σ _ _ I1 q) fun u s1 ⟨x, H1, I2, rx, q2⟩ => thn (hv.run pins _ σ _ _ I2 q2) fun r s2 ⟨y, H2, I3, ry, b, c, M, ex, ey, hm, ep, q3⟩ => pairTrees_nil_walk ?_))
  subst ex
  subst ey
  cases (show u = Value.ref b from rx)
  cases (show r = Value.ref c from ry)
  have m : MD X.prog X.w H2 s.heap.objs.size [] := ⟨ep, fun x hx => (nomatch hx), List.nodup_nil, by show 0 ≤ 100000; decide⟩
  obtain ⟨ns, dd⟩ := m.dict I3.hok
  refine wpAny_holding (wpAny_bind ?_)
  rw [List.forIn_cons]
  refine wpAny_bind (wpAny_bind (wpAny_dictSet_heap (hsz := by show 0 ≤ sizeLine; exact Nat.zero_le _) (show (nestedKind X.prog X.w).room X.A from (show X.A.units + 8 < cLine by omega)) (mx_is I3.hok hm) dd fun h' dd' hs => wpAny_pure ?_))
  simp only [List.forIn_nil]
  rw [ents_put] at dd'
  have he : ∃ q, h'.get? s.heap.objs.size = some q := let ⟨q, _, _, hq, _⟩ := dd'; ⟨q, hq⟩
  exact wpAny_pure (wpAny_pure (wpAny_pure (wpAny_pure ⟨.ref s.heap.objs.size, _, d_write I3 (by rw [ep]; exact True.intro) hs he (mdO_ok (xs := [(M, b, c)]) ns dd'), rfl, q3⟩)))
end
end Dm
set_option Elab.async false
set_option linter.all false
set_option maxRecDepth 100000
set_option maxHeartbeats 2000000
namespace Dm
open PySem PySem.Spec PyProof.Rows L2 Dn Tb
section
variable {P : Program} {w : World} {H : Hp} {h : Heap} {d : Addr} {xs : List En}
theorem MD.raw (m : MD P w H d xs) (ok : HOk P w H h) : (d == sysModules) = false ∧ ∃ es ep, h.DictRaw d es ep ∧ es.size = xs.length ∧ ∀ (i : Nat) (hi : i < es.size), ∃ x, xs[i]? = some x ∧ es[i].val = .ref x.2.2 := by
  obtain ⟨⟨ns, o, es, ep, h1, h2, h3, h4⟩, _, _⟩ := (show ObjOk P w H h d (mdO P w d xs) from ok d _ m.at_)
  have hl : es.size = xs.length := by
    rw [← Array.length_toList, h4]
    unfold ents
    rw [List.length_map, List.length_map]
  refine ⟨ns, es, ep, ⟨o, h1, h2, h3⟩, hl, fun i hi => ?_⟩
  have hx : i < xs.length := by omega
  refine ⟨xs[i], List.getElem?_eq_getElem hx, ?_⟩
  have e : es.toList[i]? = some es[i] := by rw [List.getElem?_eq_getElem (by rw [Array.length_toList]; exact hi), Array.getElem_toList]
  rw [h4] at e
  unfold ents at e
  rw [List.getElem?_map, List.getElem?_map, List.getElem?_eq_getElem hx] at e
  have e := Option.some.inj e
  rw [← e]
  rfl
end
end Dm
set_option Elab.async false
set_option linter.all false
set_option maxRecDepth 100000
set_option maxHeartbeats 2000000
namespace Sm
open PySem PySem.Spec PyProof.Rows L2 Dn Tb
def rowD (r : List Int) : PyData := .tuple (r.map PyData.int)
def mxD (M : List (List Int)) : PyData := .tuple (M.map rowD)
theorem alike_rows : ∀ M N : List (List Int), PySem.W.alikeAll (M.map rowD) (N.map rowD) = true
  | [], _ => by simp [PySem.W.alikeAll]
  | _ :: _, [] => by simp [PySem.W.alikeAll]
  | r :: M, s :: N => by
    have h : PySem.W.alike (rowD r) (rowD s) = true := by
      unfold rowD
      rw [PySem.W.alike]
      exact PySem.W.alike_ints r s
    rw [List.map_cons, List.map_cons, PySem.W.alikeAll, h, alike_rows M N]
    rfl
theorem alike_mx (M N : List (List Int)) : PySem.W.alike (mxD M) (mxD N) = true := by
  unfold mxD
  rw [PySem.W.alike]
  exact alike_rows M N
theorem depth_rowsD : ∀ M : List (List Int), PyData.depthAll (M.map rowD) ≤ 1
  | [] => by show 0 ≤ 1; decide
  | r :: M => by
    have h := depth_rowsD M
    have h1 : (rowD r).depth = 1 := by
      unfold rowD
      rw [PyData.depth, PySem.W.depth_ints]
    rw [List.map_cons, PyData.depthAll, h1]
    omega
theorem depth_mx (M : List (List Int)) : (mxD M).depth ≤ 2 := by
  have := depth_rowsD M
  unfold mxD
  rw [PyData.depth]
  omega
theorem reads_ints {h : Heap} : ∀ {xs : List Int} {its : List Value}, Vals (xs.map V.int) its → ReadsAll h its (xs.map PyData.int) []
  | [], _, r => by cases r; exact .nil
  | x :: xs, _, r => by
    cases r with
    | cons a b =>
      obtain ⟨t, rfl⟩ := a
      exact .cons (.int x t) (reads_ints b)
section
variable {P : Program} {w : World} {H : Hp} {h : Heap}
theorem row_reads (ok : HOk P w H h) {v : V} {u : Value} {r : List Int} (hr : RowV H v r) (e : RelV v u) : Reads h u (rowD r) [] := by
  obtain ⟨b, rfl, hb⟩ := hr
  cases (show u = Value.ref b from e)
  obtain ⟨_, its, rv, o, h1, h2, n, h3⟩ := (show ObjOk P w H h b (.tup (r.map V.int)) from ok b _ hb)
  exact .tuple h1 h2 h3 (by simpa using reads_ints rv)
theorem rows_read (ok : HOk P w H h) {vs : List V} {M : List (List Int)} (hr : RowsV H vs M) : ∀ {its : List Value}, Vals vs its → ReadsAll h its (M.map rowD) [] := by
  induction hr with
  | nil => intro its r; cases r; exact .nil
  | cons a _ ih =>
    intro its r
    cases r with
    | cons x y => exact .cons (row_reads ok a x) (ih y)
theorem mx_reads (ok : HOk P w H h) {b : Addr} {M : List (List Int)} (hm : Mx H (.ref b) M) : Reads h (.ref b) (mxD M) [] := by
  obtain ⟨a, vs, e, ha, hr⟩ := hm
  cases e
  obtain ⟨_, its, rv, o, h1, h2, n, h3⟩ := (show ObjOk P w H h b (.tup vs) from ok b _ ha)
  exact .tuple h1 h2 h3 (by simpa using rows_read ok hr rv)
end
/-- the order of matrices -/
def leM (p q : Addr × List (List Int)) : Bool := PySem.W.dataLe false (fun x : Addr × List (List Int) => mxD x.2) p q
/-- sorted(xs), xs a list of matrices that are not empty -/
def rSortedM (K : PySem.W.Frag) : List V → Hp → VK → Prop := fun vs H Q => ∃ (a : Addr) (ps : List (Addr × List (List Int))), vs = [V.ref a] ∧ SqL K H a (ps.map fun p => V.ref p.1) ∧ (∀ p ∈ ps, Mx H (.ref p.1) p.2 ∧ p.2 ≠ []) ∧ ps.length ≤ 100000 ∧
  ∀ q, H q = none → Q (.ref q) (upd H q (.lst ((ps.mergeSort leM).map fun p => V.ref p.1)))
section
variable {X : Cx}
theorem each_refs : ∀ (ps : List (Addr × List (List Int))) (its : List Value), Vals (ps.map fun p => V.ref p.1) its → PySem.W.EachIs (fun (v : Value) (p : Addr × List (List Int)) => v = .ref p.1) its ps
  | [], _, r => by cases r; exact .nil
  | p :: ps, _, r => by
    cases r with
    | cons a b => exact .cons a (each_refs ps _ b)
theorem refs_each : ∀ (out : List Value) (ps : List (Addr × List (List Int))), PySem.W.EachIs (fun (v : Value) (p : Addr × List (List Int)) => v = .ref p.1) out ps → Vals (ps.map fun p => V.ref p.1) out
  | _, _, .nil => .nil
  | _, _, .cons a b => .cons a (refs_each _ _ b)
theorem each_mono2 {α β : Type} {R R' : α → β → Prop} : ∀ {as : List α} {bs : List β}, PySem.W.EachIs R as bs → (∀ a b, b ∈ bs → R a b → R' a b) → PySem.W.EachIs R' as bs
  | _, _, .nil, _ => .nil
  | _, _, .cons a b, h => .cons (h _ _ (List.mem_cons_self) a) (each_mono2 b fun x y hy => h x y (List.mem_cons_of_mem _ hy))
theorem cr_sortedM (hu : X.A.units + 64 < cLine) : CallR X (.builtin "sorted") (rSortedM X.K) := by
  intro pins s σ H vs us Q I r h
  obtain ⟨a, ps, rfl, hs, hm, hl, q⟩ := h
  obtain ⟨its, rv, pl, hz⟩ := I.list hs
  obtain rfl := Vals.ref1 r
  have ei := each_refs ps its rv
  refine PySem.W.sorted_data (enc := fun x : Addr × List (List Int) => mxD x.2) pl.isList ei (each_mono2 ei fun v p hp e => ?_) (PySem.W.AllAlike.of fun b b' => alike_mx b.2 b'.2) (.inl fun d hd => ?_) (by rw [sizeLine_eq]; omega) (fun b hb => ?_) fun out ho he => ?_
  · subst e
    exact ⟨[], mx_reads I.hok (hm p hp).1⟩
  · obtain ⟨p, hp, rfl⟩ := List.mem_map.mp hd
    cases e : p.2 with
    | nil => exact absurd e (hm p hp).2
    | cons r M =>
      exact ⟨rowD r, M.map rowD, rfl⟩
  · have := depth_mx b.2
    omega
  · obtain ⟨c, hc⟩ := sortedAll_at s.heap its out.toArray
    have hf : H (s.heap.objs.size + 1) = none := I.hok.fresh (Nat.le_succ _)
    refine ⟨.ref (s.heap.objs.size + 1), _, I.laid (o := .lst ((ps.mergeSort leM).map fun p => V.ref p.1)) (t' := s.toks) (fun _ _ e => sortedAll_old e) (Nat.le_succ _) ⟨?_, out, c, refs_each _ _ he, hc⟩, rfl, q _ hf⟩
    rw [List.length_map, List.length_mergeSort, sizeLine_eq]
    omega
end
end Sm
set_option Elab.async false
set_option linter.all false
set_option maxRecDepth 100000
set_option maxHeartbeats 2000000
namespace Sm
open PySem PySem.Spec PyProof.Rows L2 Dn Tb
theorem toks_ints : ∀ {xs ys : List Int} {l m : List (Int ⊕ List Nat)}, PySem.W.keyToksAll (xs.map PyData.int) ++ l = PySem.W.keyToksAll (ys.map PyData.int) ++ m → xs = ys ∧ l = m
  | [], [], l, m, h => by
    simp only [List.map_nil, PySem.W.keyToksAll, List.cons_append, List.nil_append, List.cons.injEq, true_and] at h
    exact ⟨rfl, h⟩
  | [], y :: ys, l, m, h => by
    simp [PySem.W.keyToksAll] at h
  | x :: xs, [], l, m, h => by
    simp [PySem.W.keyToksAll] at h
  | x :: xs, y :: ys, l, m, h => by
    simp only [List.map_cons, PySem.W.keyToksAll, PySem.W.keyToks, List.cons_append, List.nil_append, List.cons.injEq, true_and, Sum.inl.injEq] at h
    obtain ⟨e1, e2⟩ := toks_ints h.2
    exact ⟨by rw [h.1, e1], e2⟩
theorem toks_rows : ∀ {M N : List (List Int)} {l m : List (Int ⊕ List Nat)}, PySem.W.keyToksAll (M.map rowD) ++ l = PySem.W.keyToksAll (N.map rowD) ++ m → M = N ∧ l = m
  | [], [], l, m, h => by
    simp only [List.map_nil, PySem.W.keyToksAll, List.cons_append, List.nil_append, List.cons.injEq, true_and] at h
    exact ⟨rfl, h⟩
  | [], y :: ys, l, m, h => by
    simp [PySem.W.keyToksAll] at h
  | x :: xs, [], l, m, h => by
    simp [PySem.W.keyToksAll] at h
  | r :: M, s :: N, l, m, h => by
    simp only [List.map_cons, PySem.W.keyToksAll, List.cons_append, List.cons.injEq, true_and] at h
    have k : PySem.W.keyToksAll (r.map PyData.int) ++ (PySem.W.keyToksAll (M.map rowD) ++ l) = PySem.W.keyToksAll (s.map PyData.int) ++ (PySem.W.keyToksAll (N.map rowD) ++ m) := by
      have e : ∀ t : List Int, PySem.W.keyToks (rowD t) = PySem.W.keyToksAll (t.map PyData.int) := fun t => by unfold rowD; rw [PySem.W.keyToks]
      rw [e, e, List.append_assoc, List.append_assoc] at h
      exact h
    obtain ⟨e1, e2⟩ := toks_ints k
    obtain ⟨e3, e4⟩ := toks_rows e2
    exact ⟨by rw [e1, e3], e4⟩
theorem mx_inj {M N : List (List Int)} (h : PySem.W.keyToks (mxD M) = PySem.W.keyToks (mxD N)) : M = N := by
  have e : ∀ t : List (List Int), PySem.W.keyToks (mxD t) = PySem.W.keyToksAll (t.map rowD) := fun t => by unfold mxD; rw [PySem.W.keyToks]
  rw [e, e] at h
  refine (toks_rows (l := []) (m := []) ?_).1
  rw [List.append_nil, List.append_nil]
  exact h
def leX : List (List Int) → List (List Int) → Bool := PySem.W.dataLe false mxD
theorem leX_total : PySem.W.TotalLe leX := PySem.W.sortLe_total (listOrd itemOrd) false fun M => PySem.W.keyToks (mxD M)
theorem leX_anti {M N : List (List Int)} (h1 : leX M N = true) (h2 : leX N M = true) : M = N := by
  refine mx_inj ((listOrd itemOrd).total _ _ ?_ ?_)
  · have : (!(listOrd itemOrd).blt (PySem.W.keyToks (mxD M)) (PySem.W.keyToks (mxD N))) = true := h2
    simpa using this
  · have : (!(listOrd itemOrd).blt (PySem.W.keyToks (mxD N)) (PySem.W.keyToks (mxD M))) = true := h1
    simpa using this
theorem rank_eq {M N : List (List Int)} : PySem.W.sameRank leX M N = true ↔ M = N := by
  constructor
  · intro h
    unfold PySem.W.sameRank at h
    simp only [Bool.and_eq_true] at h
    exact leX_anti h.1 h.2
  · rintro rfl
    exact PySem.W.sameRank_self leX_total M
theorem sort_perm {L L' : List (List (List Int))} (h : L.Perm L') : L.mergeSort leX = L'.mergeSort leX := by
  refine PySem.W.sort_unique leX_total (PySem.W.sort_pairwise leX_total L) fun c => ?_
  rw [PySem.W.sort_stable leX_total L c]
  have e : PySem.W.sameRank leX c = fun a => decide (a = c) := by
    funext a
    by_cases z : a = c
    · rw [decide_eq_true z, (rank_eq (M := c) (N := a)).mpr z.symm]
    · rw [decide_eq_false z]
      cases q : PySem.W.sameRank leX c a with
      | true => exact absurd (rank_eq.mp q).symm z
      | false => rfl
  rw [e]
  have cnt : ∀ K : List (List (List Int)), K.filter (fun a => decide (a = c)) = List.replicate (K.count c) c := fun K => by
    induction K with
    | nil => rfl
    | cons a K ih =>
      by_cases z : a = c
      · rw [List.filter_cons_of_pos (by simpa using z), ih, z, List.count_cons_self, List.replicate_succ]
      · rw [List.filter_cons_of_neg (by simpa using z), ih, List.count_cons_of_ne z]
  rw [cnt, cnt, h.count_eq]
/-- the same matrices, none twice: sorted alike -/
theorem sort_same {L L' : List (List (List Int))} (n : L.Nodup) (n' : L'.Nodup) (h : ∀ M, M ∈ L ↔ M ∈ L') : L.mergeSort leX = L'.mergeSort leX := by
  refine sort_perm (List.perm_iff_count.mpr fun M => ?_)
  by_cases z : M ∈ L
  · have one : ∀ K : List (List (List Int)), K.Nodup → M ∈ K → K.count M = 1 := fun K nk mk => by
      have a := List.nodup_iff_count.mp nk M
      have b := List.count_pos_iff.mpr mk
      omega
    rw [one L n z, one L' n' ((h M).mp z)]
  · rw [List.count_eq_zero_of_not_mem z, List.count_eq_zero_of_not_mem (fun q => z ((h M).mpr q))]
theorem sort_mats (ps : List (Addr × List (List Int))) : (ps.mergeSort leM).map (·.2) = (ps.map (·.2)).mergeSort leX :=
  PySem.W.sort_maps (fun p : Addr × List (List Int) => p.2) fun a _ b _ => rfl
theorem sort_mem {ps : List (Addr × List (List Int))} {p : Addr × List (List Int)} : p ∈ ps.mergeSort leM ↔ p ∈ ps := List.mem_mergeSort
end Sm
set_option Elab.async false
set_option linter.all false
set_option maxRecDepth 100000
set_option maxHeartbeats 2000000
namespace Kp
open PySem PySem.Spec PyProof.Rows L2 Gd Dn Tb
def Kept (s s' : Shared) : Prop := ∃ h' tk, s' = { s with heap := h', toks := tk } ∧ ∀ b o, s.heap.get? b = some o → h'.get? b = some o
theorem Kept.refl (s : Shared) : Kept s s := ⟨s.heap, s.toks, rfl, fun _ _ e => e⟩
theorem Kept.tok (s : Shared) (t : Nat) : Kept s { s with toks := t } := ⟨s.heap, t, rfl, fun _ _ e => e⟩
theorem Kept.trans {a b c : Shared} (h : Kept a b) (k : Kept b c) : Kept a c := by
  obtain ⟨h1, t1, rfl, k1⟩ := h
  obtain ⟨h2, t2, rfl, k2⟩ := k
  exact ⟨h2, t2, rfl, fun b o e => k2 b o (k1 b o e)⟩
theorem bindL_one {kindOf : Str → Option NameKind} {x : Str} {v : Value} {m : Str → Option Value} (h : kindOf x = some NameKind.local) : bindL kindOf [(x, v)] m x = some v := by
  show bindL kindOf [] (if kindOf x = some NameKind.local then fun y => if y = x then some v else m y else m) x = some v
  rw [if_pos h]
  exact if_pos rfl
section
variable {P : Program} {w : World} {K : PySem.W.Frag} {A : Around} {s : Shared}
theorem Kept.obj {s s' : Shared} {a dx C : Addr} {mA : Str → Option Value} (k : Kept s s') (O : ObjM s.heap a dx C mA) : ObjM s'.heap a dx C mA := by
  obtain ⟨h, t, rfl, k⟩ := k
  exact ⟨k _ _ O.obj, O.ns.at fun o e => k _ _ e, O.ne⟩
theorem Kept.kin {s s' : Shared} (k : Kept s s') (X : K.In s.heap) : K.In s'.heap := by
  obtain ⟨h, t, rfl, k⟩ := k
  exact X.keeps k
theorem eval_fld {env : Env} {x f : Str} {p1 p2 : Pos} {m : Str → Option Value} {a dx C : Addr} {mA : Str → Option Value} {u : Value} {E : Value → Shared → Prop} {Q : Value → Shared → Prop} (hk : env.scope.kind = .function) (hl : env.kindOf x = some .local) (hn : s.heap.Ns env.locals m) (hm : m x = some (.ref a)) (hd : (x == ("__debug__" : Str)) = false)
    (hab : attributeBase (.Name x p1) f env (eval (.Name x p1) env) = eval (.Name x p1) env) (X : K.In s.heap) (O : ObjM s.heap a dx C mA) (c : Cls K C) (n : NoAttr K C f) (hv : mA f = some u) (hu : PySem.W.handedIn u = true) (h : ∀ s', Kept s s' → Q u s') : wpAny (model P w) A (eval (.Attribute (.Name x p1) f p2) env) Q E s :=
  attr_of hab (wpAny_Name (wpAny_loadName_local hk hl hn hm (get_map X O (c.get f) c.hd n hv hu (h _ (Kept.tok _ _)))) hd)
/-- the getter called: the field's value, all stays -/
theorem fn_field {a g C dx : Addr} {mA : Str → Option Value} {u : Value} {name qual f : Str} {params : Arguments} {body : List Stmt} {scope : Scope} {dV kV doc pm cdv ct oc : Value} {an od : Option Addr} {osl : Array (Option Value)} {N : List Str} {p1 p2 p3 : Pos} {R : Result → Shared → Prop}
    (hroom : A.depth < recursionLimit) (X : K.In s.heap) (lim : s.heap.NoLimit) (O : ObjM s.heap a dx C mA) (c : Cls K C) (n : NoAttr K C f) (hv : mA f = some u) (hu : PySem.W.handedIn u = true)
    (lk : K.lookup g = some ⟨oc, od, .func (PySem.W.fnOf name qual params body scope dV kV doc pm an cdv ct), osl⟩) (hcd : PySem.W.codeIn K cdv qual = true) (S : FnScope N ["self"] scope) (hsl : scope.names.lookup ("self" : Str) = some NameKind.local)
    (hb : body = [.Return (some (.Attribute (.Name "self" p1) f p2)) p3]) (bt : BindsTo s (PySem.W.fnOf name qual params body scope dV kV doc pm an cdv ct) ⟨[.ref a], []⟩ [(("self" : Str), .ref a)]) (h : ∀ s', Kept s s' → R (.ok (.ret u)) s') :
    codeAny (model P w) A (.call (.ref g) ⟨[.ref a], []⟩) R s := by
  refine codeAny_call_function hroom (X _ _ lk) rfl S.co S.gen rfl (PySem.W.codeRec_of X hcd) (bt _ _ _ _ ?_)
  refine wpAny_newFunctionEnv_cells S.kind (fun x hx => ?_) fun env he s1 x => ?_
  · simp only [List.mem_singleton] at hx
    subst hx
    exact .inl hsl
  subst he
  have kp : Kept s s1 := by
    obtain ⟨h1, tk, e, hk⟩ := x.done
    exact ⟨h1, tk, e, hk⟩
  refine ⟨lim.keeps x.toInCall.keep, codeAny_func ?_⟩
  subst hb
  refine wpAny_execs_cons (wpAny_Return_some ?_)
  exact eval_fld (m := _) S.kind hsl x.toInCall.ns (bindL_one hsl) (by decide) rfl (kp.kin X) (kp.obj O) c n hv hu fun s' k => h _ (kp.trans k)
/-- e.f, f a property whose getter gives the field `fl` -/
structure Getter (K : PySem.W.Frag) (C : Addr) (nm fl : Str) : Prop where
  ex : ∃ (p g : Addr) (name qual : Str) (params : Arguments) (scope : Scope) (dV kV doc pm cdv ct oc : Value) (an od : Option Addr) (osl : Array (Option Value)) (N : List Str) (p1 p2 p3 : Pos),
    PropOf K C nm p g ∧ K.lookup g = some ⟨oc, od, .func (PySem.W.fnOf name qual params [.Return (some (.Attribute (.Name "self" p1) fl p2)) p3] scope dV kV doc pm an cdv ct), osl⟩ ∧ PySem.W.codeIn K cdv qual = true ∧ FnScope N ["self"] scope ∧ scope.names.lookup ("self" : Str) = some NameKind.local ∧
    ∀ (s : Shared) (a : Value), BindsTo s (PySem.W.fnOf name qual params [.Return (some (.Attribute (.Name "self" p1) fl p2)) p3] scope dV kV doc pm an cdv ct) ⟨[a], []⟩ [(("self" : Str), a)]
theorem get_field {nm f : Str} {a C dx : Addr} {mA : Str → Option Value} {u : Value} {b : Bool} {E : Value → Shared → Prop} {Q : Value → Shared → Prop} (hroom : A.in1.depth < recursionLimit) (X : K.In s.heap) (lim : s.heap.NoLimit) (O : ObjM s.heap a dx C mA) (c : Cls K C) (n : NoAttr K C f) (hv : mA f = some u) (hu : PySem.W.handedIn u = true) (G : Getter K C nm f)
    (h : ∀ s', Kept s s' → Q u s') : wpAny (model P w) A (getAttr (.ref a) nm b) Q E s := by
  obtain ⟨p, g, name, qual, params, scope, dV, kV, doc, pm, cdv, ct, oc, an, od', osl, N, p1, p2, p3, hp, lk, hcd, S, hsl, bt⟩ := G.ex
  obtain ⟨od, J, _⟩ := O.look
  obtain ⟨rest, hrec⟩ := hp.rec_
  have hc : (PySem.W.clsIn K C).isSome = true := by
    obtain ⟨cd, hc, _⟩ := PySem.W.any_some c.hd
    rw [hc]
    rfl
  refine PySem.W.get_bind X J (PySem.W.plainGet_of (c.get nm)).1 (PySem.W.findObj_data hc hp.at_ hp.get hp.tak) (PySem.W.plainGet_of (c.get nm)).2 (wpAny_call (PySem.W.prop_get (s := { s with toks := s.toks + 1 }) X hrec ?_))
  refine fn_field (A := A.in1) (s := { s with toks := s.toks + 1 }) hroom X lim O c n hv hu lk hcd S hsl rfl (bt _ _) fun s' k => ?_
  show wpAny _ _ (handedOut u) _ _ _
  rw [PySem.W.handedOut_of hu]
  exact wpAny_pure (h s' ((Kept.tok s (s.toks + 1)).trans k))
/-- a lambda's code: its one parameter's attribute -/
structure LamF (qual x : Str) (params : Arguments) (body : Expr) (scope : Scope) (nm : Str) : Prop where
  ex : ∃ p1 p2, body = .Attribute (.Name x p1) nm p2 ∧ ∀ env : Env, attributeBase (.Name x p1) nm env (eval (.Name x p1) env) = eval (.Name x p1) env
  kind : scope.kind = .function
  co : scope.isCoroutine = false
  gen : scope.isGenerator = false
  cell : ∀ y ∈ scope.names, y.2 ≠ .cell
  own : scope.names.lookup x = some NameKind.local
  dbg : (x == ("__debug__" : Str)) = false
  bind : ∀ (cl : List (Str × Addr)) (pm c' ctv a : Value), bindArgs (PySem.W.kla_fn "<lambda>" qual params body scope cl pm c' ctv) ⟨[a], []⟩ = pure [(x, a)]
theorem lam_field {qual x nm fl : Str} {params : Arguments} {body : Expr} {scope : Scope} {cl : List (Str × Addr)} {pm ctv : Value} {c' f a C dx : Addr} {mA : Str → Option Value} {u : Value} {Q : Value → Shared → Prop} {E : Value → Shared → Prop}
    (L : LamF qual x params body scope nm) (hf : s.heap.get? f = some (PySem.W.kla_obj "<lambda>" qual params body scope cl pm c' ctv)) (hcd : s.heap.CodeRec (.ref c') qual) (hroom : A.depth < recursionLimit) (hr1 : ∀ env, (A.deeper env).in1.depth < recursionLimit) (X : K.In s.heap) (lim : s.heap.NoLimit) (O : ObjM s.heap a dx C mA) (c : Cls K C) (n : NoAttr K C fl) (hv : mA fl = some u) (hu : PySem.W.handedIn u = true)
    (G : Getter K C nm fl) (h : ∀ s', Kept s s' → Q u s') : wpAny (model P w) A (call (.ref f) [.ref a]) Q E s := by
  obtain ⟨p1, p2, rfl, hab⟩ := L.ex
  refine wpAny_call (PySem.W.kla_callFunE hroom hf rfl L.co L.gen rfl hcd ?_)
  rw [L.bind cl pm (.ref c') ctv (.ref a)]
  refine wpAny_pure (wpAny_newFunctionEnv L.cell (fun y hy => ?_) (fun h₁ hns hsb => ?_) L.kind)
  · simp only [List.mem_singleton] at hy
    subst hy
    exact L.own
  · have kp : ∀ b o, s.heap.get? b = some o → h₁.get? b = some o := fun b o e => hsb.extBut b o (Nat.ne_of_lt (Heap.lt_size e)) (Heap.get?_push_of_some _ e)
    have k1 : Kept s { s with heap := h₁, toks := s.toks + [(x, Value.ref a)].length } := ⟨h₁, _, rfl, kp⟩
    refine ⟨lim.keeps kp, PySem.W.kla_codeExpr ?_⟩
    refine attr_of (hab _) (wpAny_Name (wpAny_loadName_local L.kind L.own hns (v := .ref a) ?_ ?_) L.dbg)
    · show List.lookup x [(x, Value.ref a)] = _
      simp
    · exact get_field (hr1 _) (k1.kin X) (lim.keeps kp) (k1.obj O) c n hv hu G fun s' k => h s' (k1.trans k)
end
end Kp
set_option Elab.async false
set_option linter.all false
set_option maxRecDepth 100000
set_option maxHeartbeats 2000000
namespace Kp
open PySem PySem.Spec PyProof.Rows L2 Gd Dn Tb Lm LamX Sm
/-- instances of C, each with its matrix under the field fl -/
def InsM (H : Hp) (C : Addr) (fl : Str) (p : Addr × List (List Int)) : Prop := ∃ dx fs r, H p.1 = some (.ins C dx fs) ∧ fs.lookup fl = some (.ref r) ∧ Mx H (.ref r) p.2 ∧ p.2 ≠ []
def rSortedL (K : PySem.W.Frag) (C : Addr) (fl qual : Str) (params : Arguments) (body : Expr) (scope : Scope) : List V → List V → Hp → VK → Prop := fun vs zs H Q => ∃ (a f c' : Addr) (cl : List (Str × Addr)) (pm ctv : Value) (ps : List (Addr × List (List Int))), vs = [V.ref a] ∧ zs = [V.ref f] ∧ SqL K H a (ps.map fun p => V.ref p.1) ∧ (∀ p ∈ ps, InsM H C fl p) ∧ ps.length ≤ 100000 ∧
  H f = some (CloO f (lamObj qual params body scope cl pm c' ctv)) ∧ H c' = some (CodeO c' qual) ∧ ∀ q, H q = none → Q (.ref q) (upd H q (.lst ((ps.mergeSort leM).map fun p => V.ref p.1)))
section
variable {X : Cx} {C : Addr} {fl nm qual x : Str} {params : Arguments} {body : Expr} {scope : Scope}
theorem cr_sortedL (c : Cls X.K C) (n : NoAttr X.K C fl) (G : Getter X.K C nm fl) (L : LamF qual x params body scope nm) (hr : Room 4 X.A) : CallRK X (.builtin "sorted") [Str.ofString "key"] (rSortedL X.K C fl qual params body scope) := by
  intro pins s σ H vs zs us ws Q I r rz h
  obtain ⟨a, f, c', cl, pm, ctv, ps, rfl, rfl, hs, hm, hl, hf, hc, q⟩ := h
  obtain rfl := Vals.ref1 r
  obtain rfl := Vals.ref1 rz
  obtain ⟨its, rv, pl, hz⟩ := I.list hs
  have ei := each_refs ps its rv
  have of : s.heap.get? f = some (lamObj qual params body scope cl pm c' ctv) := (I.hok f _ hf).1
  obtain ⟨oc, vs', t, hoc, hdc, hvc⟩ := (I.hok c' _ hc).1
  refine PySem.W.sorted_key_data (b := false) (fun x : Addr × List (List Int) => Sm.mxD x.2) pl.isList ei (PySem.W.AllAlike.of fun b b' => alike_mx b.2 b'.2) (.inl fun d hd => ?_) (by rw [sizeLine_eq]; omega) (fun b hb => ?_) (PyProof.Rows.ksk_s1 _ _) (fun _ => PyProof.Rows.ksk_l1 _ _) (fun _ => PyProof.Rows.ksk_t1 _ _)
    (fun v p hv hp h tk kp => ?_) fun out cc h' tk kp _ ho hlen he => ?_
  · obtain ⟨p, hp, rfl⟩ := List.mem_map.mp hd
    obtain ⟨_, _, _, _, _, _, ne⟩ := hm p hp
    cases e : p.2 with
    | nil => exact absurd e ne
    | cons r M => exact ⟨rowD r, M.map rowD, rfl⟩
  · have := depth_mx b.2
    have := hr.un
    omega
  · subst hv
    obtain ⟨dx, fs, r, e1, e2, mx, _⟩ := hm p hp
    obtain ⟨mA, O, rr, _⟩ := ins_get I.hok e1
    obtain ⟨u, hu, ru⟩ := RelO.some_of (v := V.ref r) (o := mA fl) (by rw [← e2]; exact rr fl)
    obtain rfl : u = Value.ref r := ru
    have K0 : Kept s { s with heap := h, toks := tk } := ⟨h, tk, rfl, kp⟩
    refine lam_field (s := { s with heap := h, toks := tk }) L (kp _ _ of) ⟨c', oc, vs', t, rfl, kp _ _ hoc, hdc, hvc⟩ hr.in1.in1.depth (fun env => ?_) (I.kIn.keeps kp) (I.nolimit.keeps kp) (K0.obj O) c n hu (handed_of (show RelV (V.ref r) (Value.ref r) from rfl)) G fun s' k => ?_
    · exact ((hr.in1.in1.deeper env).in1).depth
    · obtain ⟨h2, t2, rfl, k2⟩ := k
      exact ⟨h2, t2, rfl, k2, PyProof.Rows.Reads.keeps (fun b o e => k2 b o (kp b o e)) (mx_reads I.hok mx)⟩
  · have hn : H (s.heap.objs.size + 1) = none := I.hok.fresh (Nat.le_succ _)
    refine ⟨.ref (s.heap.objs.size + 1), _, I.laid (o := .lst ((ps.mergeSort leM).map fun p => V.ref p.1)) (t' := tk) kp (Nat.le_succ _) ⟨?_, out, cc, refs_each _ _ he, ho⟩, rfl, q _ hn⟩
    rw [List.length_map, List.length_mergeSort, sizeLine_eq]
    omega
end
end Kp
set_option Elab.async false
set_option linter.all false
set_option maxRecDepth 100000
set_option maxHeartbeats 2000000
namespace Is
open PySem PySem.Spec PyProof.Rows L2 Gd Dn Tb Lm LamX Sm Kp
section
variable {P : Program} {w : World} {K : PySem.W.Frag} {mg : Str → Option Value} {base : Heap}
/-- a def whose code object is known -/
theorem okC {x qual : Str} {st : Stmt} {f c : Addr} {fd : FuncData} {N ps : List Str} {k : Nat} {sp : Sp} (F : Di.FunC K x qual st f fd c) (S : FnScope N ps (defScope st)) (len : ∀ vs H Q E, sp vs H Q E → vs.length = ps.length)
    (hbody : ∀ (A : Around) (outer : List Env) (s : Shared) (H : Hp) (vs : List V) (Q : VK) (E : XK), Room k (A.deeper (envOfC qual (defScope st) s.heap.objs.size f (.ref c))) → sp vs H Q E →
      ∃ t, PSs (cxOf CX0 P w K mg base N qual (defScope st) f (.ref c) A outer s H E).nox (defBody st) t ∧ t { nx := fun _ H' => Q .non H', rt := Q } (start N vs) H) : FnOk P w K mg base CX0 (k + 1) f fd ps sp := by
  obtain ⟨oc, od, kV, doc, pm, an, ct, osl, rfl, lk, hcd⟩ := F.ex
  refine fn_of lk hcd S len fun A outer s H vs Q E hr hsp => ?_
  obtain ⟨t, h, q⟩ := hbody A outer s H vs Q E hr hsp
  exact ⟨t, h.nox, q⟩
end
section
variable {X : Cx} {T : List (Addr × Str)} {c P : Addr} {params : Arguments} {body : Expr} {scope : Scope} {pos : Pos}
/-- a lambda that captures nothing -/
theorem pe_lamV (M : Maker X T c P) (hnf : ∀ y ∈ scope.names, y.2 ≠ .free) (hdef : defaultsOf params X.env = ([], [])) : PE X (.Lambda params body scope pos) (tLamb X T params body scope) := by
  refine ⟨fun pins s σ H Q I ⟨hT, h⟩ => ?_⟩
  exact lam_track I M hT hdef (fun y hy e => absurd e (hnf y hy)) fun f c' pm ctv H1 s' J e t n co => ⟨.ref f, _, J, rfl, h f c' pm ctv H1 e t n co⟩
end
/-- the lambda in `return f(.., key=lambda ..)` -/
def lamOf (st : Stmt) : Option (Arguments × Expr × Scope) := match defBody st with
  | [.Return (some (.Call _ _ [⟨_, .Lambda p b s _, _⟩] _)) _] => some (p, b, s)
  | _ => none
def lamA (st : Stmt) : Arguments := match lamOf st with | some x => x.1 | none => defArgs st
def lamB (st : Stmt) : Expr := match lamOf st with | some x => x.2.1 | none => .Name "x" ⟨0, 0, 0, 0⟩
def lamS (st : Stmt) : Scope := match lamOf st with | some x => x.2.2 | none => defScope st
theorem ext_no {H H' : Hp} (e : ExtT H H') {b : Addr} {o : HO} (h : H b = some o) (n : ∀ ps, o ≠ .tbl ps) : H' b = some o := by
  rcases e b o h with q | ⟨ps, _, rfl, _⟩
  · exact q
  · exact absurd rfl (n ps)
theorem ExtT.ks {H H' : Hp} (e : ExtT H H') : ∀ c o, (∀ xs, o ≠ .lst xs) → (∀ ps, o ≠ .tbl ps) → H c = some o → H' c = some o := fun c o _ n h => ext_no e h n
theorem row_by {H H' : Hp} (k : ∀ b xs, H b = some (.tup xs) → H' b = some (.tup xs)) {v : V} {r : List Int} (h : RowV H v r) : RowV H' v r := by
  obtain ⟨b, rfl, hb⟩ := h
  exact ⟨b, rfl, k _ _ hb⟩
theorem rows_by {H H' : Hp} (k : ∀ b xs, H b = some (.tup xs) → H' b = some (.tup xs)) {vs : List V} {M : List (List Int)} (h : RowsV H vs M) : RowsV H' vs M := by
  induction h with
  | nil => exact .nil
  | cons a _ ih => exact .cons (row_by k a) ih
theorem mx_by {H H' : Hp} (k : ∀ b xs, H b = some (.tup xs) → H' b = some (.tup xs)) {v : V} {M : List (List Int)} (h : Mx H v M) : Mx H' v M := by
  obtain ⟨a, vs, rfl, ha, hr⟩ := h
  exact ⟨a, vs, rfl, k _ _ ha, rows_by k hr⟩
theorem ins_by {H H' : Hp} (k : ∀ b o, H b = some o → (∀ ps, o ≠ .tbl ps) → H' b = some o) {C : Addr} {fl : Str} {p : Addr × List (List Int)} (h : InsM H C fl p) : InsM H' C fl p := by
  obtain ⟨dx, fs, r, e1, e2, mx, ne⟩ := h
  exact ⟨dx, fs, r, k _ _ e1 (fun _ z => by cases z), e2, mx_by (fun b xs e => k b _ e fun _ z => by cases z) mx, ne⟩
/-- the promise of sorting instances by their matrices -/
def sp_inseq (T : List (Addr × Str)) (C : Addr) (fl : Str) : Sp := fun vs H Q _ => ∃ (a : Addr) (ps : List (Addr × List (List Int))), vs = [.ref a] ∧ Tabs T H ∧ H a = some (.lst (ps.map fun p => V.ref p.1)) ∧ (∀ p ∈ ps, InsM H C fl p) ∧ ps.length ≤ 100000 ∧
  ∀ q H', ExtT H H' → Tabs T H' → H q = none → H' q = some (.lst ((ps.mergeSort leM).map fun p => V.ref p.1)) → Q (.ref q) H'
theorem tabs_upd {T : List (Addr × Str)} {H : Hp} {f : Addr} {o : HO} (h : Tabs T H) (n : H f = none) : Tabs T (upd H f o) := fun p hp => by
  obtain ⟨ps, e, t, k⟩ := h p hp
  refine ⟨ps, by rw [upd_ne (ne_of_none e n)]; exact e, t, fun pos cv hc => ?_⟩
  obtain ⟨c, e1, e2⟩ := k pos cv hc
  exact ⟨c, e1, by rw [upd_ne (ne_of_none e2 n)]; exact e2⟩
theorem ext_upd {H H' : Hp} {f : Addr} {o : HO} (e : ExtT H H') (n : H' f = none) : ExtT H (upd H' f o) := fun b u h => by
  rcases e b u h with q | ⟨ps, more, rfl, q⟩
  · exact .inl (by rw [upd_ne (ne_of_none q n)]; exact q)
  · exact .inr ⟨ps, more, rfl, by rw [upd_ne (ne_of_none q n)]; exact q⟩
theorem ext_free {H H' : Hp} (e : ExtT H H') {b : Addr} (n : H' b = none) : H b = none := by
  cases q : H b with
  | none => rfl
  | some o =>
    rcases e b o q with z | ⟨_, _, _, z⟩ <;> rw [z] at n <;> cases n
theorem c_inseq {X : Cx} {T : List (Addr × Str)} {C : Addr} {fl : Str} {params : Arguments} {body : Expr} {scope : Scope} {σ : L2.St} {H : Hp} {Q : VK} {a : Addr} {ps : List (Addr × List (List Int))} {i : Nat} (ei : σ[i]? = some (some (.ref a))) (hT : Tabs T H) (ha : H a = some (.lst (ps.map fun p => V.ref p.1))) (hm : ∀ p ∈ ps, InsM H C fl p) (hl : ps.length ≤ 100000)
    (q : ∀ q H', ExtT H H' → Tabs T H' → H q = none → H' q = some (.lst ((ps.mergeSort leM).map fun p => V.ref p.1)) → Q (.ref q) H') :
    tCKw (rSortedL X.K C fl (X.env.qual ++ "<lambda>") params body scope) (tCons (tVar i) tNil) (tCons (tLamb X T params body scope) tNil) σ H Q := by
  refine ⟨_, ei, hT, fun f c' pm ctv H1 e1 t1 n1 hc => ?_⟩
  have e2 : ExtT H (upd H1 f (CloO f (lamObj (X.env.qual ++ "<lambda>") params body scope (cloFrom X.env.cells scope.names []) pm c' ctv))) := ext_upd e1 n1
  refine ⟨a, f, c', _, pm, ctv, ps, rfl, rfl, .inl (.inl (ext_no e2 ha fun _ z => by cases z)), fun p hp => ins_by (fun b o h n => ext_no e2 h n) (hm p hp), hl, upd_same, ?_, fun z nz => ?_⟩
  · rw [upd_ne (ne_of_none hc n1)]
    exact hc
  · exact q z _ (ext_upd e2 nz) (tabs_upd (tabs_upd t1 n1) nz) (ext_free e2 nz) upd_same
end Is
set_option Elab.async false
set_option linter.all false
set_option maxRecDepth 100000
set_option maxHeartbeats 4000000
namespace T81
open PySem PySem.Spec PyProof.Rows L2 Gd Zn Rp Dn Tb Gn En Zs Ct Op Oc Rg Rt Ro Dm
theorem mx_ext {H : Hp} {d : Addr} {φ : Heap → Prop} {o : HO} {v : V} {M : List (List Int)} (e : H d = some (.ext φ)) (h : Mx H v M) : Mx (upd H d o) v M :=
  Is.mx_by (fun b xs q => by rw [upd_ne (ne_of q e (fun z => by cases z))]; exact q) h
theorem tv_ext {C : Addr} {H : Hp} {d : Addr} {φ : Heap → Prop} {o : HO} {v : V} {n b : Nat} {M : List (List Int)} (e : H d = some (.ext φ)) (h : Tv C H v n b M) : Tv C (upd H d o) v n b M := by
  obtain ⟨⟨a, dx, r, rfl, ha, hm⟩, g, bd⟩ := h
  exact ⟨⟨a, dx, r, rfl, by rw [upd_ne (ne_of ha e (fun z => by cases z))]; exact ha, mx_ext e hm⟩, g, bd⟩
/-- a dict of Tables, each under its rows -/
structure MT (P : Program) (w : World) (C : Addr) (n e : Nat) (H : Hp) (d : Addr) (xs : List En) : Prop where
  md : MD P w H d xs
  tv : ∀ x ∈ xs, Tv C H (.ref x.2.2) n e x.1
section
variable {P : Program} {w : World} {C : Addr} {n e : Nat} {H H' : Hp} {d : Addr} {xs : List En}
theorem MT.same (s : Same H H') (m : MT P w C n e H d xs) : MT P w C n e H' d xs := ⟨m.md.same s, fun x hx => (m.tv x hx).same s⟩
theorem MT.put {M : List (List Int)} {b v : Addr} (m : MT P w C n e H d xs) (hb : Mx H (.ref b) M) (hv : Tv C H (.ref v) n e M) (l : xs.length < 100000) : MT P w C n e (upd H d (mdO P w d (putM xs M b v))) d (putM xs M b v) := by
  refine ⟨m.md.put hb l, fun x hx => ?_⟩
  rcases put_mem hx with ⟨y, hy, e1, e2, e3⟩ | rfl
  · rcases e3 with rfl | ⟨e3, e4⟩
    · exact tv_ext m.md.at_ (m.tv x hy)
    · rw [e1, e3, e4]
      exact tv_ext m.md.at_ hv
  · exact tv_ext m.md.at_ hv
end
section
variable {P : Program} {w : World} {K : PySem.W.Frag} {mg : Str → Option Value} {base : Heap} {C : Addr}
theorem g_nm {i : Nat} {v : V} {σ : L2.St} {H : Hp} {k : L2.St → Hp → Prop} (h : k (σ.set i (some v)) H) : gName i v σ H k := h
theorem same_upd {H H' : Hp} {d : Addr} {o : HO} (s : Same H H') (nd : H d = none) : Same H (upd H' d o) := fun b u e => by
  rw [upd_ne (ne_of_none e nd)]
  exact s b u e
end
end T81
set_option Elab.async false
set_option linter.all false
set_option maxRecDepth 100000
set_option maxHeartbeats 4000000
namespace T81
open PySem PySem.Spec PyProof.Rows L2 Gd Zn Rp Dn Tb Gn En Zs Ct Op Oc Rg Rt Ro Dm
section
variable {P : Program} {w : World} {K : PySem.W.Frag} {mg : Str → Option Value} {base : Heap} {C : Addr}
def ltrs : Nat → List Int
  | 0 => []
  | k + 1 => ltrs k ++ [((k + 1 : Nat) : Int), -((k + 1 : Nat) : Int)]
theorem ltrs_len : ∀ m, (ltrs m).length = 2 * m
  | 0 => rfl
  | m + 1 => by
    show (ltrs m ++ _).length = _
    rw [List.length_append, ltrs_len m]
    show 2 * m + 2 = _
    omega
theorem ltrs_mem {x : Int} : ∀ {m : Nat}, x ∈ ltrs m ↔ x ≠ 0 ∧ x.natAbs ≤ m
  | 0 => by
    constructor
    · intro h; cases h
    · rintro ⟨a, b⟩; omega
  | m + 1 => by
    show x ∈ ltrs m ++ _ ↔ _
    rw [List.mem_append, ltrs_mem]
    simp only [List.mem_cons, List.not_mem_nil, or_false]
    omega
theorem y_in {σ : L2.St} {H : Hp} {A B : Hp → Prop} (h : A H) : tYes σ H (fun b H3 => if b = true then A H3 else B H3) := by
  show (if true = true then A H else B H)
  rw [if_pos rfl]
  exact h
theorem i_seq {K : PySem.W.Frag} {tl : TE} {σ : L2.St} {H : Hp} {R : It → Hp → Prop} (h : tl σ H fun x H1 => ∃ t a xs, x = .ref a ∧ SqV K H1 t a xs ∧ R (Its t K a) H1) : iSeq K tl σ H R := h
abbrev st_ls : Stmt := top 48
abbrev N_ls : List Str := ["makers", "letters", "number", "letter"]
theorem sc_ls : FnScope N_ls ["makers"] (defScope st_ls) := ⟨rfl, rfl, rfl, by decide +kernel, rfl, by decide +kernel, by decide +kernel⟩
/-- pairs of letters and their Tables -/
structure Prs (C : Addr) (H : Hp) {n : Nat} (h1 : 1 ≤ n) (h3 : n ≤ 3) (e : Nat) (Ms : List (GL n)) (ts : List V) : Prop where
  len : ts.length = 2 * Ms.length
  get : ∀ (i : Nat) (v : V), ts[i]? = some v → ∃ (p : Addr) (u : V) (l : Int), v = .ref p ∧ H p = some (.tup [.int l, u]) ∧ (ltrs Ms.length)[i]? = some l ∧ Tv C H u n e (letG h1 h3 Ms l).val
def sp_ls (C : Addr) : Sp := fun vs H Q _ => ∃ (t : Bool) (a : Addr) (xs : List V) (n e : Nat) (h1 : 1 ≤ n) (h3 : n ≤ 3) (Ms : List (GL n)), vs = [.ref a] ∧ LT H t a xs ∧ Tabs C H e xs Ms ∧ 1 ≤ Ms.length ∧ Ms.length ≤ 4 ∧ e ≤ 900 ∧
  ∀ c H' ts, Same H H' → H c = none → H' c = some (.lst ts) → Prs C H' h1 h3 (2 * e + 1) Ms ts → Q (.ref c) H'
theorem ok_ls {f : Addr} {fd : FuncData} (F : Fun K "letter_steps" "letter_steps" st_ls f fd) (T : Txt mg) (D1 : Def P w K mg base "_of_letter" 11 ["makers", "letter"] (sp_ol C)) : FnOk P w K mg base CX0 12 f fd ["makers"] (sp_ls C) := by
  refine F.ok sc_ls (fun vs H Q E h => ?_) (fun cdv A outer s H vs Q E hr h => ?_)
  · obtain ⟨t, a, xs, n, e, h1, h3, Ms, rfl, _⟩ := h
    rfl
  · obtain ⟨t, a, xs, n, e, h1, h3, Ms, rfl, ha, hT, l1, l4, he, q⟩ := h
    refine ⟨_, pss_cons (ps_setLc2 (i := 1) (own := [("number", 2), ("letter", 3)]) (vs1 := [3]) (g := gName 2) (tt := tYes) (wi1 := iSeq K (tTup (tCons (tVar 2) (tCons (tUn (rU fun i => .int (-i)) (tVar 2)) tNil)))) (g1 := gName 3) (tt1 := tYes) rfl sc_ls.nd rfl rfl (sw_true rfl rfl rfl (by decide +kernel))
        (pi_range2 (by rfl) T.range (pa_cons pe_int (pa_cons (pe_op op_add (pe_callB (r := Dn.rLen K) c_len (by rfl) T.len PySem.boot_len (pa_cons (pv 0) pa_nil)) pe_int) pa_nil)))
        (blkOk_by (N := N_ls) (sc := defScope st_ls) (by decide +kernel)) (by decide) (fun _ _ _ _ _ => pg_name (i := 2) sc_ls.nd rfl (Or.inl rfl) (Or.inr rfl)) (fun _ _ _ _ _ => pts_nil)
        (fun s' H' C' cl' fp' => by exact pi_seq (pe_tup (pa_cons (pv 2) (pa_cons (pe_un un_neg (pv 2)) pa_nil)))) (fun _ _ _ _ _ => pg_name (i := 3) sc_ls.nd rfl (Or.inl rfl) (Or.inr rfl)) (fun _ _ _ _ _ => pts_nil) (fun _ _ _ _ _ => pv 3))
      (pss_one (ps_ret (pe_lc (own := [("letter", 3)]) (g := gName 3) (tt := tYes) rfl sc_ls.nd (pi_seq (pv 1)) (blkOk_by (N := N_ls) (sc := defScope st_ls) (by decide +kernel)) (fun _ _ _ _ _ => pg_name (i := 3) sc_ls.nd rfl (Or.inl rfl) (Or.inr rfl)) (fun _ _ _ _ _ => pts_nil)
        (fun _ _ _ _ _ => pe_tup (X := Cx.blk _ _ _ _ _ _) (pa_cons (pv 3) (pa_cons (pe_def (X := Cx.blk _ _ _ _ _ _) D1 hr (pa_cons (pv 0) (pa_cons (pv 3) pa_nil))) pa_nil)))))), ?_⟩
    have lx : xs.length = Ms.length := hT.len
    refine r_seq (r_asg ?_)
    refine ⟨_, rfl, a, xs, rfl, sq_or ha.sq, _, _, rfl, rfl, _, _, rfl, ⟨by decide, by decide, by omega, by omega⟩, ?_⟩
    rw [show ((xs.length : Int) + 1 - 1).toNat = Ms.length by rw [lx]; omega]
    intro D nD
    refine ⟨fun i m H2 => i ≤ Ms.length ∧ m = Ms.length - i ∧ Same H H2 ∧ H2 D = some (.lst ((ltrs i).map V.int)), ⟨Ms.length, Nat.zero_le _, rfl, same_new nD, upd_same⟩, ?_⟩
    rintro i m H2 ⟨hi, rfl, s2, hD⟩
    by_cases hlt : i < Ms.length
    · refine .inr ⟨hlt, fun H3 => i + 1 ≤ Ms.length ∧ Same H H3 ∧ H3 D = some (.lst ((ltrs (i + 1)).map V.int)), fun H3 h => ⟨Ms.length - (i + 1), by omega, h.1, rfl, h.2⟩, fun x H3 hy => ?_⟩
      obtain ⟨rfl, rfl⟩ := hy
      refine ⟨rfl, y_in ?_⟩
      refine i_seq (r_tup ⟨_, rfl, _, rfl, _, rfl, (by show 2 ≤ sizeLine; decide), fun tp ntp => ?_⟩)
      have st : Same H3 (upd H3 tp (.tup [V.int (1 + (i : Int)), V.int (-(1 + (i : Int)))])) := same_new ntp
      have et : upd H3 tp (.tup [V.int (1 + (i : Int)), V.int (-(1 + (i : Int)))]) tp = some (.tup [V.int (1 + (i : Int)), V.int (-(1 + (i : Int)))]) := upd_same
      refine ⟨true, tp, _, rfl, .inl (.inl et), ?_⟩
      refine ⟨fun j k G => j ≤ 2 ∧ k = 2 - j ∧ Same H G ∧ G tp = some (.tup [V.int (1 + (i : Int)), V.int (-(1 + (i : Int)))]) ∧ G D = some (.lst ((ltrs i ++ [((i + 1 : Nat) : Int), -((i + 1 : Nat) : Int)].take j).map V.int)), ⟨2, by decide, rfl, s2.trans st, et, by rw [st _ _ hD]; simp⟩, ?_⟩
      rintro j k G ⟨hj, rfl, sG, eG, hG⟩
      have qt : SqV K G true tp [V.int (1 + (i : Int)), V.int (-(1 + (i : Int)))] := .inl (.inl eG)
      by_cases j2 : j < 2
      · refine .inr ⟨its_go (t := true) qt (List.getElem?_eq_getElem j2), fun G' => j + 1 ≤ 2 ∧ Same H G' ∧ G' tp = some (.tup [V.int (1 + (i : Int)), V.int (-(1 + (i : Int)))]) ∧ G' D = some (.lst ((ltrs i ++ [((i + 1 : Nat) : Int), -((i + 1 : Nat) : Int)].take (j + 1)).map V.int)), fun G' h => ⟨2 - (j + 1), by omega, h.1, rfl, h.2⟩, fun y G' hy => ?_⟩
        obtain ⟨rfl, ey⟩ := its_yld (t := true) hy qt
        refine ⟨rfl, y_in ⟨_, rfl, _, hG, ?_, ?_⟩⟩
        · rw [List.length_map, List.length_append, ltrs_len, List.length_take]
          show _ < sizeLine
          have : min j 2 ≤ 2 := Nat.min_le_right _ _
          rw [sizeLine_eq]
          show 2 * i + min j 2 < _
          omega
        · have nt : tp ≠ D := ne_of eG hG (fun z => by cases z)
          refine ⟨by omega, same_upd sG nD, by rw [upd_ne nt]; exact eG, ?_⟩
          rw [upd_same]
          congr 2
          have : j = 0 ∨ j = 1 := by omega
          rcases this with rfl | rfl
          · cases ey
            rw [show (1 + (i : Int)) = ((i + 1 : Nat) : Int) by omega]
            simp
          · cases ey
            rw [show -(1 + (i : Int)) = -((i + 1 : Nat) : Int) by omega]
            simp
      · have ej : j = 2 := by omega
        subst ej
        exact .inl ⟨its_stop (t := true) qt (by show 2 ≤ 2; decide), hlt, sG, hG⟩
    · have ei : i = Ms.length := by omega
      subst ei
      refine .inl ⟨Nat.le_refl _, ?_⟩
      refine g_nm ?_
      have qD : ∀ H', Same H2 H' → SqV K H' false D ((ltrs Ms.length).map V.int) := fun H' s => .inl (.inl (s _ _ hD))
      have ll := ltrs_len Ms.length
      refine r_next (r_nret (tlc_call ⟨_, rfl, false, D, _, rfl, qD _ (Same.refl _), ?_⟩))
      refine lc_ks (p := none) (2 * Ms.length) (fun i v G => ∃ (p : Addr) (u : V) (l : Int), v = .ref p ∧ G p = some (.tup [.int l, u]) ∧ (ltrs Ms.length)[i]? = some l ∧ Tv C G u n (2 * e + 1) (letG h1 h3 Ms l).val) (fun i v G G' k h => ?_) has_none (by omega) (fun i G hi s => its_go (qD _ s.same) (List.getElem?_eq_getElem (by rw [List.length_map, ll]; exact hi))) (fun G s => its_stop (qD _ s.same) (by rw [List.length_map, ll]; exact Nat.le_refl _)) (fun i x G G' C' hi s _ hy hC => ?_) fun Da G ts nDa s hDa hl hE => ?_
      · obtain ⟨p, u, l, e1, e2, e3, e4⟩ := h
        exact ⟨p, u, l, e1, k _ _ (fun _ z => by cases z) e2, e3, e4.ks k⟩
      · obtain ⟨rfl, ex⟩ := its_yld hy (qD _ s.same)
        rw [List.getElem?_map] at ex
        obtain ⟨l, el, rfl⟩ := Option.map_eq_some_iff.mp ex
        obtain ⟨l0, lm⟩ := ltrs_mem.mp (List.mem_of_getElem? el)
        have sH := s2.trans s.same
        refine ⟨rfl, r_tup ⟨_, rfl, r_cons (a2 ⟨_, rfl, _, rfl, t, a, xs, n, e, h1, h3, Ms, l, rfl, ha.same sH, hT.same sH, l0, lm, by omega, fun v' G2 s4 tv => ⟨(by show 2 ≤ sizeLine; decide), fun tp ntp => hC _ _ (RX.of (s4.trans (same_new ntp))) ⟨tp, v', l, rfl, upd_same, el, tv.same (same_new ntp)⟩⟩⟩)⟩⟩
      · refine q Da G ts (s2.trans s.same) ?_ hDa ⟨hl, hE⟩
        cases z : H Da with
        | none => rfl
        | some o => rw [s2 _ _ z] at nDa; cases nDa
end
end T81
set_option Elab.async false
set_option linter.all false
set_option maxRecDepth 100000
set_option maxHeartbeats 4000000
namespace T81
open PySem PySem.Spec PyProof.Rows L2 Gd Zn Rp Dn Tb Gn En Zs Ct Op Oc Rg Rt Ro Dm
section
variable {n : Nat} {h1 : 1 ≤ n} {h3 : n ≤ 3} {Ms : List (GL n)}
/-- the matrices that words of at most k letters give -/
inductive Rch (h1 : 1 ≤ n) (h3 : n ≤ 3) (Ms : List (GL n)) : Nat → List (List Int) → Prop
  | unit (k : Nat) : Rch h1 h3 Ms k (unitM n)
  | step {k : Nat} {N : List (List Int)} {l : Int} : Rch h1 h3 Ms k N → l ≠ 0 → l.natAbs ≤ Ms.length → Rch h1 h3 Ms (k + 1) (mulM n N (letG h1 h3 Ms l).val)
theorem Rch.up {k : Nat} {M : List (List Int)} (h : Rch h1 h3 Ms k M) : Rch h1 h3 Ms (k + 1) M := by
  induction h with
  | unit k => exact .unit _
  | step _ a b ih => exact .step ih a b
theorem Rch.mono {j k : Nat} {M : List (List Int)} (h : Rch h1 h3 Ms j M) (e : j ≤ k) : Rch h1 h3 Ms k M := by
  induction k with
  | zero =>
    have : j = 0 := by omega
    subst this
    exact h
  | succ k ih =>
    by_cases z : j = k + 1
    · subst z; exact h
    · exact (ih (by omega)).up
theorem rch_succ {k : Nat} {M : List (List Int)} : Rch h1 h3 Ms (k + 1) M ↔ Rch h1 h3 Ms k M ∨ ∃ N l, Rch h1 h3 Ms k N ∧ l ≠ 0 ∧ l.natAbs ≤ Ms.length ∧ M = mulM n N (letG h1 h3 Ms l).val := by
  constructor
  · intro h
    cases h with
    | unit => exact .inl (.unit k)
    | step a b c => exact .inr ⟨_, _, a, b, c, rfl⟩
  · rintro (h | ⟨N, l, a, b, c, rfl⟩)
    · exact h.up
    · exact .step a b c
/-- found and edge, told -/
structure Front (h1 : 1 ≤ n) (h3 : n ≤ 3) (Ms : List (GL n)) (k : Nat) (fnd edge : List (List (List Int))) : Prop where
  all : ∀ M, M ∈ fnd ↔ Rch h1 h3 Ms k M
  sub : ∀ M, M ∈ edge → M ∈ fnd
  out : ∀ N l, N ∈ fnd → N ∉ edge → l ≠ 0 → l.natAbs ≤ Ms.length → mulM n N (letG h1 h3 Ms l).val ∈ fnd
/-- the next level: what is new among the products -/
theorem Front.next {k : Nat} {fnd edge edge' fnd' : List (List (List Int))} (F : Front h1 h3 Ms k fnd edge) (he : ∀ M, M ∈ edge' ↔ (∃ N l, N ∈ edge ∧ l ≠ 0 ∧ l.natAbs ≤ Ms.length ∧ M = mulM n N (letG h1 h3 Ms l).val) ∧ M ∉ fnd) (hf : ∀ M, M ∈ fnd' ↔ M ∈ fnd ∨ M ∈ edge') : Front h1 h3 Ms (k + 1) fnd' edge' := by
  refine ⟨fun M => ?_, fun M h => (hf M).mpr (.inr h), fun N l hN hn l0 lm => ?_⟩
  · rw [hf, rch_succ]
    constructor
    · rintro (a | a)
      · exact .inl ((F.all M).mp a)
      · obtain ⟨⟨N, l, a1, a2, a3, rfl⟩, _⟩ := (he M).mp a
        exact .inr ⟨N, l, (F.all N).mp (F.sub N a1), a2, a3, rfl⟩
    · rintro (a | ⟨N, l, a, b, c, rfl⟩)
      · exact .inl ((F.all M).mpr a)
      · by_cases z : mulM n N (letG h1 h3 Ms l).val ∈ fnd
        · exact .inl z
        · refine .inr ((he _).mpr ⟨⟨N, l, ?_, b, c, rfl⟩, z⟩)
          by_cases y : N ∈ edge
          · exact y
          · exact absurd (F.out N l ((F.all N).mpr a) y b c) z
  · rcases (hf N).mp hN with a | a
    · by_cases z : mulM n N (letG h1 h3 Ms l).val ∈ fnd
      · exact (hf _).mpr (.inl z)
      · refine (hf _).mpr (.inr ((he _).mpr ⟨⟨N, l, ?_, l0, lm, rfl⟩, z⟩))
        by_cases y : N ∈ edge
        · exact y
        · exact absurd (F.out N l a y l0 lm) z
    · exact absurd a hn
end
end T81
set_option Elab.async false
set_option linter.all false
set_option maxRecDepth 100000
set_option maxHeartbeats 4000000
namespace T81
open PySem PySem.Spec PyProof.Rows L2 Gd Zn Rp Dn Tb Gn En Zs Ct Op Oc Rg Rt Ro Dm
theorem tv_by {C : Addr} {H H' : Hp} (k : ∀ b o, H b = some o → (∀ ps, o ≠ .tbl ps) → H' b = some o) {v : V} {n b : Nat} {M : List (List Int)} (h : Tv C H v n b M) : Tv C H' v n b M := by
  obtain ⟨⟨a, dx, r, rfl, ha, hm⟩, g, bd⟩ := h
  exact ⟨⟨a, dx, r, rfl, k _ _ ha (fun _ z => by cases z), Is.mx_by (fun b xs e => k b _ e fun _ z => by cases z) hm⟩, g, bd⟩
theorem tv_ins {C : Addr} {H : Hp} {a : Addr} {n b : Nat} {M : List (List Int)} (h : Tv C H (.ref a) n b M) : Kp.InsM H C "_rows" (a, M) := by
  have h0 := h.gr.h1
  have hl := h.gr.sh.len
  obtain ⟨⟨a', dx, r, e, ha, hm⟩, g, bd⟩ := h
  cases e
  obtain ⟨rb, rvs, rfl, hrb, hrr⟩ := id hm
  refine ⟨dx, _, rb, ha, rfl, hm, fun z => ?_⟩
  have z : M = [] := z
  rw [z] at hl
  simp at hl
  omega
/-- all but things told by their one object stay -/
def XE (H H' : Hp) : Prop := ∀ b o, (∀ φ, o ≠ .ext φ) → H b = some o → H' b = some o
theorem XE.refl (H : Hp) : XE H H := fun _ _ _ e => e
theorem XE.of {H H' : Hp} (s : Same H H') : XE H H' := fun b o _ e => s b o e
theorem XE.trans {H H1 H2 : Hp} (a : XE H H1) (b : XE H1 H2) : XE H H2 := fun c o n e => b c o n (a c o n e)
theorem XE.upd {H : Hp} {d : Addr} {φ : Heap → Prop} {o : HO} (e : H d = some (.ext φ)) : XE H (upd H d o) := fun b u n eb => by
  rw [upd_ne (fun z => by subst z; rw [e] at eb; cases eb; exact n φ rfl)]
  exact eb
theorem r_nfor {K : PySem.W.Frag} {tl : TE} {g : TG} {tb : TS} {D : Ends} {σ : L2.St} {H : Hp} {rt : VK} {bk ct : L2.St → Hp → Prop} (h : tl σ H fun x H1 => ∃ t a xs, x = .ref a ∧ SqV K H1 t a xs ∧ tFor (fun _ H R => R (Its t K a) H) g tb D σ H1) : tNext ⟨tFor (iSeq K tl) g tb D, rt, bk, ct⟩ σ H := h
end T81
set_option Elab.async false
set_option linter.all false
set_option maxRecDepth 100000
set_option maxHeartbeats 4000000
namespace T81
open PySem PySem.Spec PyProof.Rows L2 Gd Zn Rp Dn Tb Gn En Zs Ct Op Oc Rg Rt Ro Dm
structure MxL (H : Hp) (vs : List V) (L : List (List (List Int))) : Prop where
  len : vs.length = L.length
  get : ∀ (i : Nat) (v : V), vs[i]? = some v → ∃ M, L[i]? = some M ∧ Mx H v M
theorem MxL.nil (H : Hp) : MxL H [] [] := ⟨rfl, fun i v e => by simp at e⟩
theorem MxL.ks {H H' : Hp} {vs : List V} {L : List (List (List Int))} (s : KS H H') (h : MxL H vs L) : MxL H' vs L := ⟨h.len, fun i v e => by
  obtain ⟨M, a, b⟩ := h.get i v e
  exact ⟨M, a, b.mono s⟩⟩
theorem MxL.same {H H' : Hp} {vs : List V} {L : List (List (List Int))} (s : Same H H') (h : MxL H vs L) : MxL H' vs L := h.ks (KS.of s)
theorem MxL.app {H : Hp} {vs ws : List V} {L N : List (List (List Int))} (h : MxL H vs L) (k : MxL H ws N) : MxL H (vs ++ ws) (L ++ N) := ⟨by rw [List.length_append, List.length_append, h.len, k.len], fun i v e => by
  by_cases z : i < vs.length
  · rw [List.getElem?_append_left z] at e
    obtain ⟨M, a, b⟩ := h.get i v e
    exact ⟨M, by rw [List.getElem?_append_left (by rw [← h.len]; exact z)]; exact a, b⟩
  · rw [List.getElem?_append_right (by omega)] at e
    obtain ⟨M, a, b⟩ := k.get _ v e
    exact ⟨M, by rw [List.getElem?_append_right (by rw [← h.len]; omega), ← h.len]; exact a, b⟩⟩
theorem MxL.one {H : Hp} {v : V} {M : List (List Int)} (h : Mx H v M) : MxL H [v] [M] := ⟨rfl, fun i w e => by
  cases i with
  | zero => cases e; exact ⟨M, rfl, h⟩
  | succ i => simp at e⟩
theorem MxL.tail {H : Hp} {v : V} {vs : List V} {M : List (List Int)} {L : List (List (List Int))} (h : MxL H (v :: vs) (M :: L)) : Mx H v M ∧ MxL H vs L := by
  refine ⟨?_, ?_⟩
  · obtain ⟨N, e, m⟩ := h.get 0 v rfl
    cases e
    exact m
  · exact ⟨by have := h.len; simpa using this, fun i w e => h.get (i + 1) w e⟩
theorem dps_mx {K : PySem.W.Frag} {H : Hp} : ∀ {vs : List V} {L : List (List (List Int))}, MxL H vs L → DpAll K H vs (L.map mxD)
  | [], [], _ => .nil
  | [], _ :: _, h => by have := h.len; simp at this
  | _ :: _, [], h => by have := h.len; simp at this
  | v :: vs, M :: L, h => .cons (dp_mx h.tail.1) (dps_mx h.tail.2)
theorem lay_mxs : ∀ L : List (List (List Int)), PyData.canLayAll0 (L.map mxD) = true
  | [] => rfl
  | M :: L => by
    rw [List.map_cons, PyData.canLayAll0, lay_mxs L]
    unfold mxD
    rw [PyData.canLay0, lay_rows]
    rfl
theorem depth_mxs : ∀ L : List (List (List Int)), PyData.depthAll (L.map mxD) ≤ 2
  | [] => by show 0 ≤ 2; decide
  | M :: L => by
    have h1 := depth_mxs L
    have h2 := depth_rows M
    rw [List.map_cons, PyData.depthAll]
    unfold mxD at h1 ⊢
    rw [PyData.depth]
    omega
theorem shaped_mxs (L : List (List (List Int))) : SeqAt.shaped (.list (L.map mxD)) = true := by
  unfold SeqAt.shaped
  rw [PyData.canLay0, lay_mxs, PyData.depth]
  have := depth_mxs L
  simp
  omega
theorem any_mx (M : List (List Int)) : ∀ L : List (List (List Int)), ((L.map mxD).any fun z => PyData.eqv z (mxD M)) = decide (M ∈ L)
  | [] => by simp
  | N :: L => by
    rw [List.map_cons, List.any_cons, any_mx M L, eqv_mx]
    by_cases z : N = M
    · rw [decide_eq_true z, decide_eq_true (show M ∈ N :: L by rw [z]; exact List.mem_cons_self)]
      rfl
    · rw [decide_eq_false z, Bool.false_or]
      exact decide_eq_decide.mpr ⟨List.mem_cons_of_mem _, fun h => by
        rcases List.mem_cons.mp h with e | h
        · exact absurd e.symm z
        · exact h⟩
theorem eqv_mxs : ∀ L N : List (List (List Int)), PyData.eqvAll (L.map mxD) (N.map mxD) = decide (L = N)
  | [], [] => by simp [PyData.eqvAll]
  | [], _ :: _ => by simp [PyData.eqvAll]
  | _ :: _, [] => by simp [PyData.eqvAll]
  | M :: L, N :: K => by
    rw [List.map_cons, List.map_cons, PyData.eqvAll, eqv_mx, eqv_mxs L K]
    by_cases a : M = N <;> by_cases b : L = K <;> simp [a, b]
/-- x not in [..], matrices -/
theorem r_notInM {K : PySem.W.Frag} {H : Hp} {x : V} {D : Addr} {vs : List V} {M : List (List Int)} {L : List (List (List Int))} {Q : VK} (hx : Mx H x M) (hD : H D = some (.lst vs)) (hv : MxL H vs L) (q : Q (.bl (!decide (M ∈ L))) H) : rNotInD K x (.ref D) H Q := by
  refine ⟨mxD M, L.map mxD, dp_mx hx, .lst (.inl (.inl hD)) (dps_mx hv), shaped_mx M, shaped_mxs L, ?_⟩
  rw [any_mx]
  exact q
/-- two lists of matrices are compared -/
theorem r_neMxs {K : PySem.W.Frag} {H : Hp} {D D' : Addr} {vs ws : List V} {L N : List (List (List Int))} {Q : VK} (hD : H D = some (.lst vs)) (hv : MxL H vs L) (hD' : H D' = some (.lst ws)) (hw : MxL H ws N) (q : Q (.bl (!decide (L = N))) H) : rNeD K (.ref D) (.ref D') H Q := by
  refine ⟨.list (L.map mxD), .list (N.map mxD), .lst (.inl (.inl hD)) (dps_mx hv), .lst (.inl (.inl hD')) (dps_mx hw), shaped_mxs L, shaped_mxs N, ?_⟩
  rw [PyData.eqv, eqv_mxs]
  exact q
end T81
set_option Elab.async false
set_option linter.all false
set_option maxRecDepth 100000
set_option maxHeartbeats 4000000
namespace T81
open PySem PySem.Spec PyProof.Rows L2 Gd Zn Rp Dn Tb Gn En Zs Ct Op Oc Rg Rt Ro Dm
def toGm {n : Nat} : (L : List (List (List Int))) → (∀ M ∈ L, Gr n M) → List (GL n)
  | [], _ => []
  | M :: L, h => GL.mk M (h M List.mem_cons_self) :: toGm L fun N hN => h N (List.mem_cons_of_mem _ hN)
theorem toGm_map {n : Nat} : ∀ {L : List (List (List Int))} {h : ∀ M ∈ L, Gr n M}, (toGm L h).map (fun M : GL n => M.val) = L
  | [], _ => rfl
  | M :: L, h => by
    show M :: (toGm L _).map _ = _
    rw [toGm_map]
theorem r_and {t u : TT} {σ : L2.St} {H : Hp} {Q : Bool → Hp → Prop} (h : t σ H fun c H1 => if c = true then u σ H1 Q else Q false H1) : tAnd t u σ H Q := h
theorem ifT {c : Bool} {A B : Prop} (h : c = true) (a : A) : if c = true then A else B := by rw [if_pos h]; exact a
theorem ifF {c : Bool} {A B : Prop} (h : c = false) (b : B) : if c = true then A else B := by rw [if_neg (by rw [h]; decide)]; exact b
theorem d_bm {K : PySem.W.Frag} {T : String} {r : V → List V → Hp → VK → Prop} {to : TE} {t : TA} {D : Ends} {σ : L2.St} {H : Hp} (h : to σ H fun x H1 => tyV K T x H1 ∧ t σ H1 fun xs H2 => r x xs H2 fun _ H3 => D.nx σ H3) : tDrop (tBM K T r to t) D σ H := h
theorem r_nx {t : TS} {D : Ends} {σ : L2.St} {H : Hp} {rt : VK} {bk ct : L2.St → Hp → Prop} (h : t D σ H) : tNext ⟨t D, rt, bk, ct⟩ σ H := h
theorem mxl_ps {H : Hp} : ∀ {vs : List V} {L : List (List (List Int))}, MxL H vs L → ∃ ps : List (Addr × List (List Int)), vs = ps.map (fun p => V.ref p.1) ∧ L = ps.map (·.2) ∧ ∀ p ∈ ps, Mx H (.ref p.1) p.2
  | [], [], _ => ⟨[], rfl, rfl, fun p hp => (nomatch hp)⟩
  | [], _ :: _, h => by have := h.len; simp at this
  | _ :: _, [], h => by have := h.len; simp at this
  | v :: vs, M :: L, h => by
    obtain ⟨hm, ht⟩ := h.tail
    obtain ⟨ps, e1, e2, e3⟩ := mxl_ps ht
    obtain ⟨a, ws, rfl, h1, h2⟩ := id hm
    refine ⟨(a, M) :: ps, by rw [e1]; rfl, by rw [e2]; rfl, fun p hp => ?_⟩
    rcases List.mem_cons.mp hp with rfl | hp
    · exact hm
    · exact e3 p hp
theorem ps_mxl {H : Hp} : ∀ {ps : List (Addr × List (List Int))}, (∀ p ∈ ps, Mx H (.ref p.1) p.2) → MxL H (ps.map fun p => V.ref p.1) (ps.map (·.2)) := fun {ps} h => ⟨by rw [List.length_map, List.length_map], fun i v e => by
  rw [List.getElem?_map] at e
  obtain ⟨p, ep, rfl⟩ := Option.map_eq_some_iff.mp e
  exact ⟨p.2, by rw [List.getElem?_map, ep]; rfl, h p (List.mem_of_getElem? ep)⟩⟩
/-- later, told -/
structure Later (n : Nat) (b : Nat) (Fn : List (List (List Int))) (L : List (List (List Int))) (Lt : List (List (List Int))) : Prop where
  nd : Lt.Nodup
  mem : ∀ M, M ∈ Lt ↔ M ∈ L ∧ M ∉ Fn
  gr : ∀ M ∈ Lt, Gr n M ∧ SqE n b M
  len : Lt.length ≤ L.length
theorem Later.skip {n b : Nat} {Fn L Lt : List (List (List Int))} {M : List (List Int)} (h : Later n b Fn L Lt) (k : M ∈ Fn ∨ M ∈ Lt) : Later n b Fn (L ++ [M]) Lt := ⟨h.nd, fun N => by
  rw [h.mem, List.mem_append, List.mem_singleton]
  constructor
  · rintro ⟨a, b⟩
    exact ⟨.inl a, b⟩
  · rintro ⟨a | rfl, b⟩
    · exact ⟨a, b⟩
    · rcases k with k | k
      · exact absurd k b
      · exact ⟨((h.mem _).mp k).1, b⟩, h.gr, by rw [List.length_append]; exact Nat.le_trans h.len (Nat.le_add_right _ _)⟩
theorem Later.add {n b : Nat} {Fn L Lt : List (List (List Int))} {M : List (List Int)} (h : Later n b Fn L Lt) (k : M ∉ Fn) (k2 : M ∉ Lt) (g : Gr n M ∧ SqE n b M) : Later n b Fn (L ++ [M]) (Lt ++ [M]) := ⟨List.nodup_append.mpr ⟨h.nd, by simp, fun a ha c hc e => by
    simp only [List.mem_singleton] at hc
    subst hc
    subst e
    exact k2 ha⟩, fun N => by
  rw [List.mem_append, List.mem_singleton, h.mem, List.mem_append, List.mem_singleton]
  constructor
  · rintro (⟨a, b⟩ | rfl)
    · exact ⟨.inl a, b⟩
    · exact ⟨.inr rfl, k⟩
  · rintro ⟨a | rfl, b⟩
    · exact .inl ⟨a, b⟩
    · exact .inr rfl, fun N hN => by
  rcases List.mem_append.mp hN with q | q
  · exact h.gr N q
  · simp only [List.mem_singleton] at q
    subst q
    exact g, by rw [List.length_append, List.length_append]; exact Nat.add_le_add_right h.len _⟩
theorem room65 {k : Nat} {A : Around} (hr : Room k A) : A.units + 65 < cLine := by have := hr.un; omega
end T81
set_option Elab.async false
set_option linter.all false
set_option maxRecDepth 100000
set_option maxHeartbeats 4000000
namespace T81
open PySem PySem.Spec PyProof.Rows L2 Gd Zn Rp Dn Tb Gn En Zs Ct Op Oc Rg Rt Ro Dm
def Lit (t : TA) (r : List Int) : Prop := ∀ (σ : L2.St) (H : Hp) (Q : List V → Hp → Prop), Q (r.map V.int) H → t σ H Q
theorem lit_nil : Lit tNil [] := fun σ H Q q => q
theorem lit_c {t : TA} {r : List Int} (a : Int) (h : Lit t r) : Lit (tCons (tC (.int a)) t) (a :: r) := fun σ H Q q => h σ H (fun xs H2 => Q (V.int a :: xs) H2) q
theorem lit_n {t : TA} {r : List Int} (a : Int) (h : Lit t r) : Lit (tCons (tUn (rU fun i => .int (-i)) (tC (.int a))) t) (-a :: r) := fun σ H Q q => ⟨a, rfl, h σ H (fun xs H2 => Q (V.int (-a) :: xs) H2) q⟩
def RowT (t : TE) (r : List Int) : Prop := ∀ (σ : L2.St) (H : Hp) (Q : VK), (∀ v H', Same H H' → RowV H' v r → Q v H') → t σ H Q
theorem rowT {t : TA} {r : List Int} (h : Lit t r) (l : r.length ≤ 3 := by decide) : RowT (tTup t) r := fun σ H Q q => r_tup (h σ H _ ⟨by rw [List.length_map]; exact Nat.le_trans l (by decide), fun D nD => q (.ref D) _ (same_new nD) ⟨D, rfl, upd_same⟩⟩)
def MxT (t : TE) (M : List (List Int)) : Prop := ∀ (σ : L2.St) (H : Hp) (Q : VK), (∀ v H', Same H H' → Mx H' v M → Q v H') → t σ H Q
def MxsT (t : TA) (L : List (List (List Int))) : Prop := ∀ (σ : L2.St) (H : Hp) (Q : List V → Hp → Prop), (∀ vs H', Same H H' → MxL H' vs L → Q vs H') → t σ H Q
theorem mxsN : MxsT tNil [] := fun σ H Q q => q [] H (Same.refl _) (MxL.nil _)
theorem mxsC {t : TE} {ts : TA} {M : List (List Int)} {L : List (List (List Int))} (h : MxT t M) (k : MxsT ts L) : MxsT (tCons t ts) (M :: L) := fun σ H Q q =>
  h σ H _ fun v H1 s1 m1 => k σ H1 _ fun vs H2 s2 ml => q (v :: vs) H2 (s1.trans s2) ((MxL.one (m1.mono (KS.of s2))).app ml)
end T81
set_option Elab.async false
set_option linter.all false
set_option maxRecDepth 100000
set_option maxHeartbeats 4000000
namespace T81
open PySem PySem.Spec PyProof.Rows L2 Gd Zn Rp Dn Tb Gn En Zs Ct Op Oc Rg Rt Ro Dm
section
variable {n : Nat} {h1 : 1 ≤ n} {h3 : n ≤ 3}
def Let (h1 : 1 ≤ n) (h3 : n ≤ 3) (Ms : List (GL n)) (M : List (List Int)) : Prop := ∃ l : Int, l ≠ 0 ∧ l.natAbs ≤ Ms.length ∧ (letG h1 h3 Ms l).val = M
/-- the letters are the makers and what undoes them -/
theorem let_iff {Ms : List (GL n)} {M : List (List Int)} : Let h1 h3 Ms M ↔ ∃ S ∈ Ms, S.val = M ∨ undM n S.val = M := by
  constructor
  · rintro ⟨l, l0, lm, rfl⟩
    have hl : l.natAbs - 1 < Ms.length := by omega
    refine ⟨Ms[l.natAbs - 1], List.getElem_mem hl, ?_⟩
    unfold letG
    rw [List.getD_eq_getElem?_getD, List.getElem?_eq_getElem hl]
    by_cases z : 0 < l
    · rw [if_pos z]; exact .inl rfl
    · rw [if_neg z]; exact .inr rfl
  · rintro ⟨S, hS, e⟩
    obtain ⟨j, hj, ej⟩ := List.getElem_of_mem hS
    rcases e with rfl | rfl
    · refine ⟨((j + 1 : Nat) : Int), by omega, by omega, ?_⟩
      unfold letG
      rw [if_pos (by omega), show (((j + 1 : Nat) : Int)).natAbs - 1 = j by omega, List.getD_eq_getElem?_getD, List.getElem?_eq_getElem hj, ej]
      rfl
    · refine ⟨-((j + 1 : Nat) : Int), by omega, by omega, ?_⟩
      unfold letG
      rw [if_neg (by omega), show (-((j + 1 : Nat) : Int)).natAbs - 1 = j by omega, List.getD_eq_getElem?_getD, List.getElem?_eq_getElem hj, ej]
      rfl
theorem rch_gl {Ms : List (GL n)} {k : Nat} {M : List (List Int)} (r : Rch h1 h3 Ms k M) : ∃ g : GL n, g.val = M := by
  induction r with
  | unit k => exact ⟨GL.one h1 h3, rfl⟩
  | @step k N l a l0 lm ih =>
    obtain ⟨g, rfl⟩ := ih
    exact ⟨g * letG h1 h3 Ms l, rfl⟩
theorem rch_left {Ms : List (GL n)} {k : Nat} {M : List (List Int)} (r : Rch h1 h3 Ms k M) {l : Int} (e0 : l ≠ 0) (em : l.natAbs ≤ Ms.length) : Rch h1 h3 Ms (k + 1) (mulM n (letG h1 h3 Ms l).val M) := by
  induction r with
  | unit k =>
    have e : mulM n (letG h1 h3 Ms l).val (unitM n) = mulM n (unitM n) (letG h1 h3 Ms l).val := by
      rw [mul_unitS h1 h3 (letG h1 h3 Ms l).property.sh, unit_mulS h1 h3 (letG h1 h3 Ms l).property.sh]
    rw [e]
    exact .step (.unit k) e0 em
  | @step k N l' a l0 lm ih =>
    obtain ⟨g, rfl⟩ := rch_gl a
    rw [← mul_assocS h1 h3 (letG h1 h3 Ms l).property.sh g.property.sh (letG h1 h3 Ms l').property.sh]
    exact .step ih l0 lm
end
end T81
set_option Elab.async false
set_option linter.all false
set_option maxRecDepth 100000
set_option maxHeartbeats 1000000
set_option Elab.async false
set_option linter.all false
set_option maxRecDepth 100000
set_option maxHeartbeats 1000000
namespace Gx
open PySem PySem.Spec PyProof.Rows L2 Gd Dn Tb Lm LamX
/-- all but tables stays; tables stay tables of their names -/
structure GT (T : List (Addr × Str)) (H H' : Hp) : Prop where
  n : ∀ b o, (∀ ps, o ≠ .tbl ps) → H b = some o → H' b = some o
  t : Tabs T H → Tabs T H'
section
variable {T : List (Addr × Str)} {H H' H1 H2 : Hp}
theorem GT.refl (H : Hp) : GT T H H := ⟨fun _ _ _ e => e, fun t => t⟩
theorem GT.trans (a : GT T H H1) (b : GT T H1 H2) : GT T H H2 := ⟨fun c o n e => b.n c o n (a.n c o n e), fun t => b.t (a.t t)⟩
theorem GT.of (s : Same H H') : GT T H H' := ⟨fun b o _ e => s b o e, fun t => t.ext s⟩
theorem GT.ext (e : ExtT H H') (t : Tabs T H') : GT T H H' := ⟨fun b o n h => Is.ext_no e h n, fun _ => t⟩
theorem GT.new {a : Addr} {o : HO} (h : H a = none) : GT T H (upd H a o) := .of (same_new h)
theorem tabs_lst {a : Addr} {xs ys : List V} (t : Tabs T H) (e : H a = some (.lst xs)) : Tabs T (upd H a (.lst ys)) := fun p hp => by
  obtain ⟨ps, e1, e2, e3⟩ := t p hp
  refine ⟨ps, by rw [upd_ne (fun z => by rw [← z, e1] at e; cases e)]; exact e1, e2, fun pos cv hc => ?_⟩
  obtain ⟨c, e4, e5⟩ := e3 pos cv hc
  exact ⟨c, e4, by rw [upd_ne (fun z => by rw [← z, e5] at e; unfold CodeO at e; cases e)]; exact e5⟩
/-- a list that H did not know is changed -/
theorem GT.mut {a : Addr} {xs ys : List V} (s : GT T H H') (h : H a = none) (e : H' a = some (.lst xs)) : GT T H (upd H' a (.lst ys)) := ⟨fun b o n q => by
  rw [upd_ne (ne_of_none q h)]
  exact s.n b o n q, fun t => tabs_lst (s.t t) e⟩
/-- .. the pot -/
theorem tabs_rx {p : Option Addr} (s : RX p H H') (hp : Has p H) (t : Tabs T H) : Tabs T H' := fun q hq => by
  obtain ⟨ps, e1, e2, e3⟩ := t q hq
  have off : ∀ {b : Addr} {o : HO}, H b = some o → (∀ xs, o ≠ .lst xs) → H' b = some o := fun {b o} e n => by
    refine s.keep b o (fun z => ?_) e
    obtain ⟨x, y, k, _⟩ := hp b z
    rw [k] at e
    cases e
    exact n _ rfl
  refine ⟨ps, off e1 (fun _ z => by cases z), e2, fun pos cv hc => ?_⟩
  obtain ⟨c, e4, e5⟩ := e3 pos cv hc
  exact ⟨c, e4, off e5 (fun _ z => by unfold CodeO at z; cases z)⟩
theorem GT.mx {v : V} {M : List (List Int)} (s : GT T H H') (h : Mx H v M) : Mx H' v M := Is.mx_by (fun b xs e => s.n b _ (fun _ z => by cases z) e) h
theorem GT.lst {a : Addr} {xs : List V} (s : GT T H H') (h : H a = some (.lst xs)) : H' a = some (.lst xs) := s.n _ _ (fun _ z => by cases z) h
theorem GT.tup {a : Addr} {xs : List V} (s : GT T H H') (h : H a = some (.tup xs)) : H' a = some (.tup xs) := s.n _ _ (fun _ z => by cases z) h
theorem GT.pot {p : Addr} (s : GT T H H') (h : PotOk H p) : PotOk H' p := by
  obtain ⟨a, b, e, r⟩ := h
  exact ⟨a, b, s.lst e, r⟩
end
theorem nd_len {α : Type} [BEq α] [LawfulBEq α] : ∀ {L N : List α}, L.Nodup → (∀ x ∈ L, x ∈ N) → L.length ≤ N.length
  | [], _, _, _ => Nat.zero_le _
  | x :: L, N, h, s => by
    obtain ⟨h1, h2⟩ := List.nodup_cons.mp h
    have hx := s x List.mem_cons_self
    have := nd_len (N := N.erase x) h2 fun y hy => (List.mem_erase_of_ne (fun e => by subst e; exact h1 hy)).mpr (s y (List.mem_cons_of_mem _ hy))
    rw [List.length_erase_of_mem hx] at this
    have : 0 < N.length := List.length_pos_of_mem hx
    rw [List.length_cons]
    omega
theorem all_bl {xs : List V} {n : Nat} {b : Bool} (hl : xs.length = n) (h : ∀ (i : Nat) (v : V), xs[i]? = some v → v = .bl b) : xs = (List.replicate n b).map V.bl := by
  subst hl
  refine List.ext_getElem? fun i => ?_
  by_cases hi : i < xs.length
  · rw [List.getElem?_eq_getElem hi, h i _ (List.getElem?_eq_getElem hi), List.getElem?_map, List.getElem?_replicate, if_pos hi]
    rfl
  · rw [List.getElem?_eq_none (by omega), List.getElem?_eq_none (by simp; omega)]
end Gx
set_option Elab.async false
set_option linter.all false
set_option maxRecDepth 100000
set_option maxHeartbeats 4000000
namespace T81
open PySem PySem.Spec PyProof.Rows L2 Gd Zn Rp Dn Tb Gn En Zs Ct Op Oc Rg Rt Ro Dm Gx
theorem MxL.gt {T : List (Addr × Str)} {H H' : Hp} {vs : List V} {L : List (List (List Int))} (s : GT T H H') (h : MxL H vs L) : MxL H' vs L := ⟨h.len, fun i v e => by
  obtain ⟨M, a, b⟩ := h.get i v e
  exact ⟨M, a, s.mx b⟩⟩
theorem Tv.gt {T : List (Addr × Str)} {C : Addr} {H H' : Hp} {v : V} {n b : Nat} {M : List (List Int)} (s : GT T H H') (h : Tv C H v n b M) : Tv C H' v n b M := tv_by (fun b o e k => s.n b o k e) h
theorem Tabs.gt {T : List (Addr × Str)} {C : Addr} {H H' : Hp} {n e : Nat} {vs : List V} {Ms : List (GL n)} (s : GT T H H') (h : Tabs C H e vs Ms) : Tabs C H' e vs Ms := ⟨h.len, fun i v q => by
  obtain ⟨M, a, b⟩ := h.get i v q
  exact ⟨M, a, b.gt s⟩⟩
end T81
set_option Elab.async false
set_option linter.all false
set_option maxRecDepth 100000
set_option maxHeartbeats 4000000
namespace T81
open PySem PySem.Spec PyProof.Rows L2 Gd Zn Rp Dn Tb Gn En Zs Ct Op Oc Rg Rt Ro Dm Gx
theorem r_tif {c : TT} {ta tb : TE} {σ : L2.St} {H : Hp} {Q : VK} (T : V → Hp → Prop) (hT : ∀ v H', T v H' → Q v H') (h : ∀ Q' : VK, (∀ v H', T v H' → Q' v H') → tIf c ta tb σ H Q') : tIf c ta tb σ H Q := h Q hT
theorem r_c0 {v : V} {σ : L2.St} {H : Hp} {Q : VK} (h : Q v H) : tC v σ H Q := h
theorem r_ifx {c : TT} {ta tb : TE} {σ : L2.St} {H : Hp} {Q : VK} (h : c σ H fun b H1 => if b = true then ta σ H1 Q else tb σ H1 Q) : tIf c ta tb σ H Q := h
section
variable {P : Program} {w : World} {K : PySem.W.Frag} {mg : Str → Option Value} {base : Heap} {C : Addr}
/-- what is known once the words are told -/
structure Kn (TT : List (Addr × Str)) (C : Addr) (H : Hp) {n : Nat} (h1 : 1 ≤ n) (h3 : n ≤ 3) (Ms : List (GL n)) (k : Nat) (L : List (List (List Int))) (pt pm pd pl : Addr) (xt xm xd : List V) (ps : List (Addr × List (List Int))) : Prop where
  tabs : LamX.Tabs TT H
  t : H pt = some (.lst xt)
  tM : MxL H xt (Ms.map fun M : GL n => M.val)
  m : H pm = some (.lst xm)
  mT : T81.Tabs C H 18 xm Ms
  l1 : 1 ≤ Ms.length
  l3 : Ms.length ≤ 3
  k3 : k ≤ 3
  nL : L.Nodup
  mL : ∀ M, M ∈ L ↔ Rch h1 h3 Ms k M
  lL : L.length ≤ 1000
  d : H pd = some (.lst xd)
  dM : MxL H xd (L.mergeSort Sm.leX)
  tl : H pl = some (.lst (ps.map fun p => V.ref p.1))
  tv : ∀ p ∈ ps, Tv C H (.ref p.1) n 118 p.2
  eq : ps.map (·.2) = L.mergeSort Sm.leX
  npm : pm ≠ pl
  npd : pd ≠ pl
theorem Kn.gt {TT : List (Addr × Str)} {C : Addr} {H H' : Hp} {n : Nat} {h1 : 1 ≤ n} {h3 : n ≤ 3} {Ms : List (GL n)} {k : Nat} {L : List (List (List Int))} {pt pm pd pl : Addr} {xt xm xd : List V} {ps : List (Addr × List (List Int))} (s : GT TT H H') (h : Kn TT C H h1 h3 Ms k L pt pm pd pl xt xm xd ps) : Kn TT C H' h1 h3 Ms k L pt pm pd pl xt xm xd ps :=
  ⟨s.t h.tabs, s.lst h.t, h.tM.gt s, s.lst h.m, h.mT.gt s, h.l1, h.l3, h.k3, h.nL, h.mL, h.lL, s.lst h.d, h.dM.gt s, s.lst h.tl, fun p hp => (h.tv p hp).gt s, h.eq, h.npm, h.npd⟩
theorem Tabs.app {C : Addr} {H : Hp} {n e : Nat} {vs ws : List V} {Ms Ns : List (GL n)} (h : T81.Tabs C H e vs Ms) (k : T81.Tabs C H e ws Ns) : T81.Tabs C H e (vs ++ ws) (Ms ++ Ns) := ⟨by rw [List.length_append, List.length_append, h.len, k.len], fun i v q => by
  have hl := h.len
  by_cases z : i < vs.length
  · rw [List.getElem?_append_left z] at q
    obtain ⟨M, a, b⟩ := h.get i v q
    exact ⟨M, by rw [List.getElem?_append_left (by omega)]; exact a, b⟩
  · rw [List.getElem?_append_right (by omega)] at q
    obtain ⟨M, a, b⟩ := k.get _ v q
    exact ⟨M, by rw [List.getElem?_append_right (by omega), ← hl]; exact a, b⟩⟩
theorem Tabs.take {C : Addr} {H : Hp} {n e : Nat} {vs : List V} {Ms : List (GL n)} (h : T81.Tabs C H e vs Ms) (j : Nat) : T81.Tabs C H e (vs.take j) (Ms.take j) := ⟨by rw [List.length_take, List.length_take, h.len], fun i v q => by
  rw [List.getElem?_take] at q ⊢
  split at q
  · rename_i z
    rw [if_pos z]
    exact h.get i v q
  · cases q⟩
theorem Tabs.drop {C : Addr} {H : Hp} {n e : Nat} {vs : List V} {Ms : List (GL n)} (h : T81.Tabs C H e vs Ms) (j : Nat) : T81.Tabs C H e (vs.drop j) (Ms.drop j) := ⟨by rw [List.length_drop, List.length_drop, h.len], fun i v q => by
  rw [List.getElem?_drop] at q ⊢
  exact h.get _ v q⟩
theorem Tabs.one {C : Addr} {H : Hp} {n e : Nat} {v : V} {M : GL n} (h : Tv C H v n e M.val) : T81.Tabs C H e [v] [M] := ⟨rfl, fun i w q => by
  cases i with
  | zero => cases q; exact ⟨M, rfl, h⟩
  | succ i => simp at q⟩
theorem Tabs.up {C : Addr} {H : Hp} {n e e' : Nat} {vs : List V} {Ms : List (GL n)} (h : T81.Tabs C H e vs Ms) (l : e ≤ e') : T81.Tabs C H e' vs Ms := ⟨h.len, fun i v q => by
  obtain ⟨M, a, b⟩ := h.get i v q
  exact ⟨M, a, b.up l⟩⟩
end
end T81
set_option Elab.async false
set_option linter.all false
set_option maxRecDepth 100000
set_option maxHeartbeats 4000000
namespace T81
open PySem PySem.Spec PyProof.Rows L2 Gd Zn Rp Dn Tb Gn En Zs Ct Op Oc Rg Rt Ro Dm Gx
section
variable {P : Program} {w : World} {K : PySem.W.Frag} {mg : Str → Option Value} {base : Heap} {C : Addr}
section
open Lm LamX Sm Kp Is
abbrev st_inseq : Stmt := top 38
theorem sc_inseq : FnScope ["tables"] ["tables"] (defScope st_inseq) := ⟨rfl, rfl, rfl, by decide +kernel, rfl, by decide +kernel, by decide +kernel⟩
theorem ok_inseq {f c P0 : Addr} {fd : FuncData} {T : List (Addr × Str)} (F : Di.FunC K "in_sequence" "in_sequence" st_inseq f fd c) (hs : mg "sorted" = none) (tb : TabB base mg c P0) (hm : (P0, ("in_sequence.<locals>.<lambda>" : Str)) ∈ T) (ho : ∀ p ∈ T, p.1 = P0 → p.2 = ("in_sequence.<locals>.<lambda>" : Str))
    (cc : Cls K C) (n : NoAttr K C "_rows") (G : Getter K C "rows" "_rows") : FnOk P w K mg base CX0 7 f fd ["tables"] (sp_inseq T C "_rows") := by
  refine okC F sc_inseq (fun vs H Q E h => ?_) (fun A outer s H vs Q E hr h => ?_)
  · obtain ⟨a, ps, rfl, _⟩ := h
    rfl
  · obtain ⟨a, ps, rfl, hT, ha, hi, hl, q⟩ := h
    refine ⟨_, pss_one (ps_ret (pe_callBK (cr_sortedL (nm := "rows") (x := "table") (qual := "in_sequence.<locals>.<lambda>") (params := lamA st_inseq) (body := lamB st_inseq) (scope := lamS st_inseq) cc n G ?_ (hr.mono (by decide))) (by rfl) hs (by rfl) (pa_cons (pe_var (i := 0) rfl (Or.inl rfl)) pa_nil) (pk_cons (pe_lamV (T := T) (c := c) (P := P0) ⟨tb, rfl, ?_, ?_⟩ (by decide +kernel) rfl) pk_nil))), ?_⟩
    · exact ⟨⟨_, _, rfl, fun _ => rfl⟩, rfl, rfl, rfl, by decide +kernel, by decide +kernel, by decide +kernel, fun _ _ _ _ _ => rfl⟩
    · exact hm
    · exact ho
    · exact r_ret (c_inseq rfl hT ha hi hl q)
end
def sp_lawT (K : PySem.W.Frag) (TT : List (Addr × Str)) : Sp := fun vs H Q _ => ∃ (a : Addr) (ns : List Int), vs = [.ref a] ∧ LamX.Tabs TT H ∧ SqL K H a (ns.map V.int) ∧ ns.length ≤ 63 ∧ ∀ H', Q (.bl true) H'
end
end T81
namespace T81
open PySem PySem.Spec PyProof.Rows L2
theorem getter_rows {K : PySem.W.Frag} {C p f : Addr} {rs : List Value} {kV dc pm cd ct oc : Value} {an od : Option Addr} {sl : Array (Option Value)} (h : PropOf K C "rows" p f)
    (l : K.lookup f = some ⟨oc, od, .func (PySem.W.fnOf "rows" "Table.rows" (defArgs (st_T 1)) (defBody (st_T 1)) (defScope (st_T 1)) .none kV dc pm an cd ct), sl⟩) (c : PySem.W.codeIn K cd "Table.rows" = true) : Kp.Getter K C "rows" "_rows" :=
  ⟨p, f, "rows", "Table.rows", defArgs (st_T 1), defScope (st_T 1), .none, kV, dc, pm, cd, ct, oc, an, od, sl, _, _, _, _, h, l, c, sc_rows, rfl, fun _ _ => .of_eq rfl⟩
end T81
set_option Elab.async false
set_option linter.all false
set_option maxRecDepth 100000
set_option maxHeartbeats 2000000
namespace Dm
open PySem PySem.Spec PyProof.Rows L2 Dn Tb
/-- locked: it is this object that nobody changes any more -/
def mdF (P : Program) (w : World) (d : Addr) (xs : List En) (o : Obj) : HO := .ext fun h => ((d == sysModules) = false ∧ ∃ es ep, o.ExactDict ∧ o.data = .dict es ep ∧ es.toList = (ents xs).map (entryOfKey (nestedKind P w))) ∧ h.get? d = some o
structure ML (P : Program) (w : World) (H : Hp) (d : Addr) (xs : List En) (o : Obj) : Prop where
  at_ : H d = some (mdF P w d xs o)
  key : ∀ x ∈ xs, Mx H (.ref x.2.1) x.1
  nd : (xs.map (·.1)).Nodup
  len : xs.length ≤ 100000
/-- it may be read -/
def MRd (P : Program) (w : World) (H : Hp) (d : Addr) (xs : List En) : Prop := MD P w H d xs ∨ ∃ o, ML P w H d xs o
section
variable {P : Program} {w : World} {H H' : Hp} {h : Heap} {d : Addr} {xs : List En} {o : Obj}
theorem ML.raw (m : ML P w H d xs o) (ok : HOk P w H h) : (d == sysModules) = false ∧ h.get? d = some o ∧ o.ExactDict ∧ ∃ es ep, o.data = .dict es ep ∧ es.toList = (ents xs).map (entryOfKey (nestedKind P w)) ∧ es.size = xs.length := by
  obtain ⟨⟨⟨ns, es, ep, h2, h3, h4⟩, h1⟩, _, _⟩ := (show ObjOk P w H h d (mdF P w d xs o) from ok d _ m.at_)
  refine ⟨ns, h1, h2, es, ep, h3, h4, ?_⟩
  rw [← Array.length_toList, h4]
  unfold ents
  rw [List.length_map, List.length_map]
theorem ML.dict (m : ML P w H d xs o) (ok : HOk P w H h) : (d == sysModules) = false ∧ h.DictOfH (nestedKind P w) d (ents xs) := by
  obtain ⟨ns, h1, h2, es, ep, h3, h4, _⟩ := m.raw ok
  refine ⟨ns, o, es, ep, h1, h2, h3, h4, fun x hx => ?_, ents_nd m.nd⟩
  obtain ⟨y, hy, rfl⟩ := List.mem_map.mp hx
  exact mx_is ok (m.key y hy)
theorem MRd.dict (m : MRd P w H d xs) (ok : HOk P w H h) : (d == sysModules) = false ∧ h.DictOfH (nestedKind P w) d (ents xs) := by
  rcases m with m | ⟨o, m⟩
  · exact m.dict ok
  · exact m.dict ok
theorem MRd.len (m : MRd P w H d xs) : xs.length ≤ 100000 := m.elim (·.len) fun ⟨_, m⟩ => m.len
theorem MRd.nd (m : MRd P w H d xs) : (xs.map (·.1)).Nodup := m.elim (·.nd) fun ⟨_, m⟩ => m.nd
theorem ML.by (k : ∀ b u, H b = some u → (∀ vs, u ≠ .lst vs) → (∀ ps, u ≠ .tbl ps) → H' b = some u) (m : ML P w H d xs o) : ML P w H' d xs o := by
  have row : ∀ {v : V} {r : List Int}, RowV H v r → RowV H' v r := fun {v r} q => by
    obtain ⟨b, rfl, hb⟩ := q
    exact ⟨b, rfl, k _ _ hb (fun _ z => by cases z) (fun _ z => by cases z)⟩
  have rows : ∀ {vs : List V} {M : List (List Int)}, RowsV H vs M → RowsV H' vs M := fun {vs M} q => by
    induction q with
    | nil => exact .nil
    | cons x _ ih => exact .cons (row x) ih
  refine ⟨k _ _ m.at_ (fun _ z => by cases z) (fun _ z => by cases z), fun x hx => ?_, m.nd, m.len⟩
  obtain ⟨a, vs, e, ha, hr⟩ := m.key x hx
  exact ⟨a, vs, e, k _ _ ha (fun _ z => by cases z) (fun _ z => by cases z), rows hr⟩
theorem ML.same (s : Same H H') (m : ML P w H d xs o) : ML P w H' d xs o := m.by fun b u e _ _ => s b u e
theorem mdF_ok {h : Heap} {es : Array DictEntry} {ep : Nat} (ns : (d == sysModules) = false) (h1 : h.get? d = some o) (h2 : o.ExactDict) (h3 : o.data = .dict es ep) (h4 : es.toList = (ents xs).map (entryOfKey (nestedKind P w))) : ObjOk P w H h d (mdF P w d xs o) :=
  ⟨⟨⟨ns, es, ep, h2, h3, h4⟩, h1⟩, ⟨o, h1⟩, fun g1 g2 q k => ⟨q.1, k o q.2⟩⟩
/-- the value that stands at M -/
def atM (xs : List En) (M : List (List Int)) : Option Addr := (xs.find? fun x => decide (x.1 = M)).map (·.2.2)
theorem atM_of (n : (xs.map (·.1)).Nodup) {x : En} (h : x ∈ xs) : atM xs x.1 = some x.2.2 := by
  unfold atM
  induction xs with
  | nil => cases h
  | cons y ys ih =>
    rw [List.map_cons, List.nodup_cons] at n
    rw [List.find?_cons]
    rcases List.mem_cons.mp h with rfl | h
    · rw [decide_eq_true rfl]
      rfl
    · rw [decide_eq_false (show ¬ y.1 = x.1 from fun e => n.1 (by rw [e]; exact List.mem_map.mpr ⟨x, h, rfl⟩))]
      exact ih n.2 h
theorem at_ents2 (xs : List En) (M : List (List Int)) {v : Addr} (h : atM xs M = some v) : ∃ p, atKey (ents xs) (mK M) = some p ∧ p.2 = Value.ref v := by
  unfold atM at h
  obtain ⟨x, hx, rfl⟩ := Option.map_eq_some_iff.mp h
  refine ⟨(x.2.1, .ref x.2.2), ?_, rfl⟩
  unfold atKey
  rw [find_ents, hx]
  rfl
end
section
variable {X : Cx}
/-- d[y] -/
def rIxM (P : Program) (w : World) : R2 := fun x y H Q => ∃ (a b : Addr) (xs : List En) (M : List (List Int)) (v : Addr), x = .ref a ∧ y = .ref b ∧ MRd P w H a xs ∧ Mx H y M ∧ atM xs M = some v ∧ Q (.ref v) H
theorem ix_mdict (hu : X.A.units + 10 < cLine) : IxR X (rIxM X.prog X.w) := by
  intro value slice pins s σ H x y v u Q I rx ry h hs
  obtain ⟨a, b, xs, M, c, rfl, rfl, m, hm, ev, q⟩ := h
  cases rx
  cases ry
  obtain ⟨ns, dd⟩ := m.dict I.hok
  obtain ⟨p, hp, hv⟩ := at_ents2 xs M ev
  obtain ⟨o, es, ep, h1, h2, h3⟩ := id dd
  refine tail_any (T := "dict") ⟨o, h1, h2.1⟩ slot_dict_getitem.lookup (wpAny_getItem_heap (room_nested hu) (mx_is I.hok hm) dd hp ?_) hs
  rw [hv]
  exact ⟨.ref c, H, I.tok _, rfl, q⟩
/-- len(d) -/
def rLenM (P : Program) (w : World) : List V → Hp → VK → Prop := fun vs H Q => ∃ (a : Addr) (xs : List En), vs = [.ref a] ∧ MRd P w H a xs ∧ Q (.int xs.length) H
theorem call_lenM : CallR X (.builtin "len") (rLenM X.prog X.w) := by
  intro pins s σ H vs us Q I r h
  obtain ⟨a, xs, rfl, m, q⟩ := h
  obtain rfl := Vals.ref1 r
  obtain ⟨ns, dd⟩ := m.dict I.hok
  have hl : (ents xs).length = xs.length := List.length_map ..
  have ml := m.len
  refine call_len_dictH ns dd (by rw [hl]; omega) ?_
  rw [hl]
  exact ⟨.int (xs.length : Int), H, I.tok _, ⟨_, rfl⟩, q⟩
/-- a value that is such a dict: from here on locked -/
def tMLock (P : Program) (w : World) (te : TE) : TE := fun σ H Q => te σ H fun x H1 => ∃ d xs, x = .ref d ∧ MD P w H1 d xs ∧ ∀ o, ML P w (upd H1 d (mdF P w d xs o)) d xs o → Q (.ref d) (upd H1 d (mdF P w d xs o))
theorem md_lock {P : Program} {w : World} {H : Hp} {d : Addr} {xs : List En} {o : Obj} (m : MD P w H d xs) : ML P w (upd H d (mdF P w d xs o)) d xs o := ⟨upd_same, fun x hx => md_mx m.at_ (m.key x hx), m.nd, m.len⟩
theorem pe_mlock {e : Expr} {te : TE} (he : PE X e te) : PE X e (tMLock X.prog X.w te) := by
  refine ⟨fun pins s σ H Q I h => ?_⟩
  refine thn (he.run pins s σ H _ I h) fun u s1 ⟨x, H1, I1, rx, d, xs, ex, m, q⟩ => ?_
  subst ex
  obtain rfl : u = Value.ref d := rx
  obtain ⟨⟨ns, o, es, ep, h1, h2, h3, h4⟩, _, _⟩ := (show ObjOk X.prog X.w H1 s1.heap d (mdO X.prog X.w d xs) from I1.hok d _ m.at_)
  exact ⟨.ref d, _, d_write (t' := s1.toks) I1 (by rw [m.at_]; exact True.intro) ⟨rfl, fun _ _ => rfl⟩ ⟨o, h1⟩ (mdF_ok ns h1 h2 h3 h4), rfl, q o (md_lock m)⟩
end
def Itm (P : Program) (w : World) (d : Addr) (xs : List En) (o : Obj) : It :=
  ⟨fun i H => ML P w H d xs o ∧ i < xs.length, fun i H x H' => H' = H ∧ ∃ y, xs[i]? = some y ∧ x = .ref y.2.1, fun i H => ML P w H d xs o ∧ xs.length ≤ i⟩
section
variable {P : Program} {w : World} {K : PySem.W.Frag} {tg : Expr} {d : Addr} {o : Obj} {es : Array DictEntry} {ep : Nat}
theorem turn_mkeys {xs : List En} (it : Addr) (hod : o.data = .dict es ep) : Turn P w K tg (Itm P w d xs o) [it] it (fun i h => h.IsKeyIter it d i xs.length ep) where
  mem := by simp
  obj := fun i h st b hb => by
    have e : b = it := by simpa using hb
    subst e
    obtain ⟨oi, e, c, dd⟩ := st
    exact ⟨oi, e, fun v z => by rw [dd] at z; cases z⟩
  keep := fun i h h' st k => st.at fun oi e => k it (by simp) oi e
  item := by
    intro X hP hw hK hc i pins s σ H E I hf st hg
    subst hP hw hK
    obtain ⟨hd, hi⟩ := hg
    obtain ⟨f0, f1, f2, f3, f4, f5⟩ := hf it (by simp)
    obtain ⟨hs, hgd, hx, es', ep', hdt, he, hsz⟩ := hd.raw I.hok
    obtain ⟨rfl, rfl⟩ := dict_ep hod hdt
    have hen : es'[i]? = some (entryOfKey (nestedKind X.prog X.w) (mK xs[i].1, xs[i].2.1, Value.ref xs[i].2.2)) := by
      have hi' : i < es'.size := by omega
      have e : es'.toList[i]? = some es'[i] := by rw [List.getElem?_eq_getElem (by rw [Array.length_toList]; exact hi'), Array.getElem_toList]
      rw [he] at e
      unfold ents at e
      rw [List.getElem?_map, List.getElem?_map, List.getElem?_eq_getElem hi] at e
      rw [Array.getElem?_eq_getElem hi', ← Option.some.inj e]
    refine next_key_item st hgd hdt hsz hen fun h' st' sb => ?_
    have I1 : Inv X pins σ H { s with heap := h' } := I.turned (t' := s.toks) (fun b ob hb e => (sb.2 b hb).trans e) f0 f1 f3 f4 f5
    obtain ⟨oi, e, c, dd⟩ := id st'
    exact ⟨_, rfl, go_of (s := { s with heap := h' }) e c dd (by decide) ⟨.ref xs[i].2.1, H, I1, rfl, ⟨rfl, xs[i], List.getElem?_eq_getElem hi, rfl⟩, st', fun b hb => (hf b hb).1⟩⟩
  done := by
    intro X hP hw hK hc i pins s σ H E I hf st hg
    subst hP hw hK
    obtain ⟨hd, hi⟩ := hg
    obtain ⟨f0, f1, f2, f3, f4, f5⟩ := hf it (by simp)
    obtain ⟨hs, hgd, hx, es', ep', hdt, he, hsz⟩ := hd.raw I.hok
    obtain ⟨rfl, rfl⟩ := dict_ep hod hdt
    exact next_key_end (I.ok.hd hc) st hgd hdt hsz hi fun h' eb => ⟨rfl, I.turned (t' := s.toks) (fun b ob hb e => eb b ob hb e) f0 f1 f3 f4 f5⟩
  self := fun A i s Q E st h => by
    refine wpAny_pyIter_slot st.typeIs F.slot_dict_keyiterator_iter (wpAny_call_entry F.slot_dict_keyiterator_iter st.typeIs F.entry_dict_keyiterator_iter ?_ (F.args_dict_keyiterator_iter_1 _))
    show wpAny _ _ (ret (.ref it)) _ _ s
    exact wpAny_pure ⟨_, rfl, "dict_keyiterator", _, st.typeIs, F.slot_dict_keyiterator_next.lookup, h⟩
def iMK (P : Program) (w : World) (td : TE) : TI := fun σ H R => td σ H fun x H1 => ∃ d xs o, x = .ref d ∧ ML P w H1 d xs o ∧ R (Itm P w d xs o) H1
theorem pi_mkeys {X : Cx} {e : Expr} {td : TE} (he : PE X e td) : PI X tg e (iMK X.prog X.w td) := by
  refine ⟨fun pins s σ H R I h => ?_⟩
  refine thn (he.run pins s σ H _ I h) fun u s1 ⟨x, H1, I1, rx, d, xs, o, ex, hd, q⟩ => ?_
  subst ex
  obtain rfl : u = Value.ref d := rx
  obtain ⟨hs, hgd, hx, es, ep, hdt, he, hsz⟩ := hd.raw I1.hok
  refine iter_keys hs hgd hx hdt (pi_one (tk := s1.toks) I1 _ (turn_mkeys _ hdt) ⟨_, Heap.get?_push_size _ rfl, rfl, ?_⟩ q)
  rw [hsz] <;> rfl
end
end Dm
set_option Elab.async false
set_option linter.all false
namespace Wl
open PySem PySem.Spec PyProof.Rows L2
/-- while: the test hands over to the body or to what follows -/
theorem while_in {c : L2.TT} {tb : TS} {D : Ends} {σ : L2.St} {H : Hp} (Pv : L2.St → Hp → Prop) (μ : L2.St → Hp → Nat) (h0 : Pv σ H)
    (hs : ∀ σ H (Q : Bool → Hp → Prop), Pv σ H → (∀ H1, tb { D with nx := fun σ' H' => Pv σ' H' ∧ μ σ' H' < μ σ H, ct := fun σ' H' => Pv σ' H' ∧ μ σ' H' < μ σ H, bk := D.nx } σ H1 → Q true H1) → (∀ H1, D.nx σ H1 → Q false H1) → c σ H Q) : tWhile c tb D σ H := by
  refine ⟨fun m σ H => m = μ σ H ∧ Pv σ H, ⟨_, rfl, h0⟩, ?_⟩
  rintro m σ H ⟨rfl, p⟩
  exact hs σ H _ p (fun H1 q => ⟨_, fun σ' H' ⟨p', l⟩ => ⟨_, l, rfl, p'⟩, q⟩) (fun H1 q => q)
end Wl
set_option Elab.async false
set_option linter.all false
set_option maxRecDepth 100000
set_option maxHeartbeats 4000000
namespace T81
open PySem PySem.Spec PyProof.Rows L2 Gd Zn Rp Dn Tb Gn En Zs Ct Op Oc Rg Rt Ro Dm Gx
def mostN (n : Nat) : Nat := if n = 1 then 2 else if n = 2 then 12 else 48
theorem most_le (n : Nat) : mostN n ≤ 48 := by unfold mostN; split <;> (try split) <;> omega
/-- the product of a word's letters -/
def wMat {n : Nat} (h1 : 1 ≤ n) (h3 : n ≤ 3) (Ms : List (GL n)) (l : List Int) : GL n := l.foldl (fun g x => g * letG h1 h3 Ms x) (GL.one h1 h3)
theorem wMat_app {n : Nat} {h1 : 1 ≤ n} {h3 : n ≤ 3} {Ms : List (GL n)} (l : List Int) (x : Int) : wMat h1 h3 Ms (l ++ [x]) = wMat h1 h3 Ms l * letG h1 h3 Ms x := by
  unfold wMat
  rw [List.foldl_append]
  rfl
/-- letters alone -/
def WL {n : Nat} (Ms : List (GL n)) (l : List Int) : Prop := ∀ x ∈ l, x ≠ 0 ∧ x.natAbs ≤ Ms.length
/-- what walked tells: words under the rows of their products -/
structure WkR (H : Hp) (ys : List En) {n : Nat} (h1 : 1 ≤ n) (h3 : n ≤ 3) (Ms : List (GL n)) (e : Nat) : Prop where
  one : unitM n ∈ ys.map (·.1)
  en : ∀ y ∈ ys, ∃ l : List Int, H y.2.2 = some (.lst (l.map V.int)) ∧ WL Ms l ∧ (wMat h1 h3 Ms l).val = y.1 ∧ l.length < ys.length ∧ SqE n (1 + l.length * (2 * e + 3)) y.1
  len : ys.length ≤ mostN n + 1
  clo : ys.length ≤ mostN n → ∀ y ∈ ys, ∀ x : Int, x ≠ 0 → x.natAbs ≤ Ms.length → mulM n y.1 (letG h1 h3 Ms x).val ∈ ys.map (·.1)
/-- on the way -/
structure Wy (P : Program) (w : World) (C : Addr) (H0 H : Hp) (dw dl : Addr) (ys : List En) (vs : List V) {n : Nat} (h1 : 1 ≤ n) (h3 : n ≤ 3) (Ms : List (GL n)) (e : Nat) : Prop where
  md : MD P w H dw ys
  ln : H dl = some (.lst vs)
  sz : vs.length = ys.length
  one : unitM n ∈ ys.map (·.1)
  en : ∀ (i : Nat) (y : En), ys[i]? = some y → (y.2.2 ≠ dl ∧ H0 y.2.2 = none) ∧ ∃ (v : V) (l : List Int), vs[i]? = some v ∧ H y.2.2 = some (.lst (l.map V.int)) ∧ WL Ms l ∧ (wMat h1 h3 Ms l).val = y.1 ∧ l.length < ys.length ∧ Tv C H v n (1 + l.length * (2 * e + 3)) y.1
  len : ys.length ≤ mostN n + 1
section
variable {P : Program} {w : World} {C : Addr} {H0 H H' : Hp} {dw dl : Addr} {ys : List En} {vs : List V} {n : Nat} {h1 : 1 ≤ n} {h3 : n ≤ 3} {Ms : List (GL n)} {e : Nat}
theorem Wy.same (s : Same H H') (h : Wy P w C H0 H dw dl ys vs h1 h3 Ms e) : Wy P w C H0 H' dw dl ys vs h1 h3 Ms e := ⟨h.md.same s, s _ _ h.ln, h.sz, h.one, fun i y ey => by
  obtain ⟨a, v, l, b, c, d, f, g, t⟩ := h.en i y ey
  exact ⟨a, v, l, b, s _ _ c, d, f, g, t.same s⟩, h.len⟩
theorem put_new {ys : List En} {M : List (List Int)} {b v : Addr} (z : hasM ys M = false) : putM ys M b v = ys ++ [(M, b, v)] := by
  unfold putM
  rw [if_neg (by rw [z]; decide)]
/-- one more -/
theorem Wy.add {M : List (List Int)} {b c : Addr} {u : V} {l : List Int} (h : Wy P w C H0 H dw dl ys vs h1 h3 Ms e) (z : hasM ys M = false) (hb : Mx H (.ref b) M) (hc : H c = some (.lst (l.map V.int))) (nc : c ≠ dl) (nf : H0 c = none) (wl : WL Ms l) (em : (wMat h1 h3 Ms l).val = M) (ll : l.length ≤ ys.length) (tu : Tv C H u n (1 + l.length * (2 * e + 3)) M) (lm : ys.length ≤ mostN n) :
    Wy P w C H0 (upd (upd H dw (mdO P w dw (putM ys M b c))) dl (.lst (vs ++ [u]))) dw dl (ys ++ [(M, b, c)]) (vs ++ [u]) h1 h3 Ms e := by
  have m48 := most_le n
  have nd : dl ≠ dw := ne_of h.ln h.md.at_ (fun z => by cases z)
  have mp := h.md.put (v := c) hb (by omega)
  rw [put_new z] at mp ⊢
  have hl2 : upd H dw (mdO P w dw (ys ++ [(M, b, c)])) dl = some (.lst vs) := by rw [upd_ne nd]; exact h.ln
  have k2 : KS (upd H dw (mdO P w dw (ys ++ [(M, b, c)]))) (upd (upd H dw (mdO P w dw (ys ++ [(M, b, c)]))) dl (.lst (vs ++ [u]))) := fun a o nl q => by
    rw [upd_ne (fun z => by subst z; rw [hl2] at q; cases q; exact nl _ rfl)]
    exact q
  refine ⟨mp.ks k2 (by rw [upd_ne (Ne.symm nd)]), upd_same, by rw [List.length_append, List.length_append, h.sz]; rfl, ?_, fun i y ey => ?_, by rw [List.length_append]; show _ + 1 ≤ _; omega⟩
  · rw [List.map_append, List.mem_append]
    exact .inl h.one
  · by_cases hi : i < ys.length
    · rw [List.getElem?_append_left hi] at ey
      obtain ⟨a, v, l', b', c', d', f', g', t'⟩ := h.en i y ey
      refine ⟨a, v, l', by rw [List.getElem?_append_left (by rw [h.sz]; exact hi)]; exact b', ?_, d', f', by rw [List.length_append]; show _ < _ + 1; omega, (tv_ext h.md.at_ t').ks k2⟩
      rw [upd_ne a.1, upd_ne (ne_of c' h.md.at_ (fun z => by cases z))]
      exact c'
    · rw [List.getElem?_append_right (by omega)] at ey
      have : i - ys.length = 0 := by
        by_cases q : i - ys.length = 0
        · exact q
        · rw [List.getElem?_eq_none (by simp; omega)] at ey; cases ey
      rw [this] at ey
      cases ey
      have ei : i = ys.length := by omega
      refine ⟨⟨nc, nf⟩, u, l, by rw [ei, ← h.sz, List.getElem?_append_right (Nat.le_refl _), Nat.sub_self]; rfl, ?_, wl, em, by rw [List.length_append]; show _ < _ + 1; omega, (tv_ext h.md.at_ tu).ks k2⟩
      rw [upd_ne nc, upd_ne (ne_of hc h.md.at_ (fun z => by cases z))]
      exact hc
end
section
variable {P : Program} {w : World} {K : PySem.W.Frag} {mg : Str → Option Value} {base : Heap} {C : Addr}
theorem r_put {P : Program} {w : World} {td ty tv : TE} {D : Ends} {σ : L2.St} {H : Hp} (h : tv σ H fun v H1 => td σ H1 fun x H2 => ty σ H2 fun y H3 => ∃ (a b c : Addr) (xs : List En) (M : List (List Int)), x = .ref a ∧ y = .ref b ∧ v = .ref c ∧ MD P w H3 a xs ∧ Mx H3 y M ∧ xs.length < 100000 ∧ D.nx σ (upd H3 a (mdO P w a (putM xs M b c)))) : sMPut P w td ty tv D σ H := h
abbrev st_wk : Stmt := top 53
abbrev N_wk : List Str := ["makers", "start", "most", "steps", "words", "line", "at", "table", "letter", "step", "further"]
theorem sc_wk : FnScope N_wk ["makers"] (defScope st_wk) := ⟨rfl, rfl, rfl, by decide +kernel, rfl, by decide +kernel, by decide +kernel⟩
def sp_wk (P : Program) (w : World) (C : Addr) : Sp := fun vs H Q _ => ∃ (t : Bool) (a : Addr) (xs : List V) (n e : Nat) (h1 : 1 ≤ n) (h3 : n ≤ 3) (Ms : List (GL n)), vs = [.ref a] ∧ LT H t a xs ∧ Tabs C H e xs Ms ∧ 1 ≤ Ms.length ∧ Ms.length ≤ 4 ∧ e ≤ 150 ∧
  ∀ d H' ys o, Same H H' → H d = none → (∀ y ∈ ys, H y.2.2 = none) → ML P w H' d ys o → WkR H' ys h1 h3 Ms e → Q (.ref d) H'
theorem ok_wk {f : Addr} {fd : FuncData} (F : Fun K "walked" "walked" st_wk f fd) (T : Txt mg) (Tc : Tcl K mg C) (D1 : Def P w K mg base "idle" 10 ["size"] (sp_idle C)) (P1 : Prp P w K mg base C "size" 1 (sp_size C)) (P2 : Prp P w K mg base C "rows" 1 (sp_rows C)) {T0 : Addr} (hMM : mg "MOST_MEMBERS" = some (.ref T0)) (tMM : ∀ H, SqT K H T0 [.int 2, .int 12, .int 48])
    (D2 : Def P w K mg base "letter_steps" 12 ["makers"] (sp_ls C)) (DM : MulP P w K mg base C) : FnOk P w K mg base CX0 13 f fd ["makers"] (sp_wk P w C) := by
  refine F.ok sc_wk (fun vs H Q E h => ?_) (fun cdv A outer s H vs Q E hr h => ?_)
  · obtain ⟨t, a, xs, n, e, h1, h3, Ms, rfl, _⟩ := h
    rfl
  · obtain ⟨t, a, xs, n, e, h1, h3, Ms, rfl, ha, hT, l1, l4, he, q⟩ := h
    have hu := Nat.lt_of_le_of_lt (Nat.add_le_add_left (by decide : 10 ≤ 64) _) hr.units
    refine ⟨_, pss_cons (ps_set (i := 1) sc_wk.nd rfl (Or.inl rfl) (pe_def D1 hr (pa_cons (pe_prp P1 Tc.cl hr (pe_ix (r := rIxS2 K) ix_sq (pv 0) pe_int (fun _ _ => rfl))) pa_nil)))
      (pss_cons (ps_set (i := 2) sc_wk.nd rfl (Or.inl rfl) (pe_ix (r := rIxS2 K) ix_sq (pe_glob (v := .ref T0) (by rfl) hMM rfl) (pe_op op_sub (pe_prp P1 Tc.cl hr (pv 1)) pe_int) (fun _ _ => rfl)))
      (pss_cons (ps_set (i := 3) sc_wk.nd rfl (Or.inl rfl) (pe_def D2 hr (pa_cons (pv 0) pa_nil)))
      (pss_cons (ps_par3 (i := 4) (j := 5) (l := 6) rfl sc_wk.nd rfl rfl rfl (by decide) (by decide) (by decide) rfl rfl rfl (pa_cons (pe_mdisp hu (pe_prp P2 Tc.cl hr (pv 1)) (pe_lst pa_nil)) (pa_cons (pe_lst (pa_cons (pv 1) pa_nil)) (pa_cons pe_int pa_nil))) (by rfl))
      (pss_cons (ps_while PassesOwn.never (PW.pt (pw_and (pt_cmpR op_lt (pv 6) (pe_callB (r := Dn.rLen K) c_len (by rfl) T.len PySem.boot_len (pa_cons (pv 5) pa_nil)) (nomark _))
            (pw_and1 (pt_cmpR op_le (pe_callB (r := rLenM P w) call_lenM (by rfl) T.len PySem.boot_len (pa_cons (pv 4) pa_nil)) (pv 2) (nomark _)))))
          (pss_cons (ps_set (i := 7) sc_wk.nd rfl (Or.inl rfl) (pe_ix (r := rIxS2 K) ix_sq (pv 5) (pv 6) (fun _ _ => rfl)))
          (pss_cons (ps_aug (i := 6) sc_wk.nd rfl (.inl rfl) pe_int ip_add)
          (pss_one (ps_for PassesOwn.never rfl (pi_seq (pv 3)) (pg_tup rfl (pgs_cons (pg_name (i := 8) sc_wk.nd rfl (Or.inl rfl)) (pgs_cons (pg_name (i := 9) sc_wk.nd rfl (Or.inl rfl)) pgs_nil)))
            (pss_cons (ps_set (i := 10) sc_wk.nd rfl (Or.inl rfl) (pe_mulT DM hr (pv 7) (pv 9)))
            (pss_one (ps_if (PW.pt (pw_and (pt_cmp (pc_mnotin hu (pe_prp P2 Tc.cl hr (pv 10)) (pv 4)) (by rfl)) (pw_and1 (pt_cmpR op_le (pe_callB (r := rLenM P w) call_lenM (by rfl) T.len PySem.boot_len (pa_cons (pv 4) pa_nil)) (pv 2) (nomark _)))))
              (pss_cons (ps_mput hu (pv 4) (pe_prp P2 Tc.cl hr (pv 10)) (pe_op (r := L2.rCat) op_cat (pe_ix (r := rIxM P w) (ix_mdict hu) (pv 4) (pe_prp P2 Tc.cl hr (pv 7)) (fun _ _ => rfl)) (pe_lst (pa_cons (pv 8) pa_nil))) rfl)
              (pss_one (ps_expr (pe_bm PySem.F.plainAttrs_list PySem.F.slot_list_append PySem.F.type_list_append mt_append (pv 5) (pa_cons (pv 10) pa_nil))))) pss_nil))))))))
      (pss_one (ps_ret (pe_mlock (pv 4)))))))), ?_⟩
    have m48 := most_le n
    have lx : xs.length = Ms.length := hT.len
    obtain ⟨v0, ev0, tv0⟩ := hT.at (i := 0) (by omega)
    refine r_seq (r_asg (a1 (r_prop ⟨_, rfl, t, a, xs, ((0 : Nat) : Int), v0, rfl, rfl, ha.sq, atI_nat ev0, p_size tv0.tab ?_⟩)))
    rw [tv0.mx]
    refine c_idle h1 h3 fun d0 H1 s1 t0 => ?_
    refine r_next (r_nseq (r_asg (r_op (r_c0 (r_op (r_prop ⟨_, rfl, p_size t0.tab ⟨_, _, rfl, rfl, ?_⟩⟩))))))
    refine ⟨true, T0, _, ((n - 1 : Nat) : Int), .int (mostN n : Nat), rfl, congrArg V.int (by rw [t0.mx]; omega), tMM _, atI_nat ?_, ?_⟩
    · have : n = 1 ∨ n = 2 ∨ n = 3 := by omega
      rcases this with rfl | rfl | rfl <;> rfl
    refine r_next (r_nseq (r_asg (a1 ⟨_, rfl, t, a, xs, n, e, h1, h3, Ms, rfl, ha.same s1, hT.same s1, l1, l4, by omega, fun Ds H2 ts s2 nDs hDs pr => ?_⟩)))
    have t02 := t0.same s2
    -- words, line, at
    refine r_next (r_nseq (r_par3 (r_cons fun dw ndw => r_prop ⟨_, rfl, p_rows (t02.same (same_new ndw)).tab fun r mr => ?_⟩)))
    obtain ⟨rb, rvs, rfl, hrb, hrr⟩ := id mr
    have sdw : Same H2 (upd H2 dw (mdO P w dw [])) := same_new ndw
    have edw : upd H2 dw (mdO P w dw []) dw = some (mdO P w dw []) := upd_same
    refine r_lst ⟨(by show 0 ≤ sizeLine; decide), fun le nle => ?_⟩
    have nle' : upd H2 dw (mdO P w dw []) le = none := nle
    obtain ⟨H3, eH3⟩ : ∃ H3, H3 = upd H2 dw (mdO P w dw []) := ⟨_, rfl⟩
    have mr3 : Mx H3 (.ref rb) (unitM n) := eH3 ▸ mr
    rw [← eH3] at sdw edw nle'
    have sle : Same H3 (upd H3 le (.lst [])) := same_new nle'
    have ele : upd H3 le (.lst []) le = some (.lst (([] : List Int).map V.int)) := upd_same
    obtain ⟨H4, eH4⟩ : ∃ H4, H4 = upd H3 le (.lst []) := ⟨_, rfl⟩
    rw [← eH4] at sle ele
    have mr4 := mr3.mono (KS.of sle)
    have nleH : H2 le = none := by
      cases z : H2 le with
      | none => rfl
      | some o => rw [sdw _ _ z] at nle'; cases nle'
    have g4 : Mx H4 (.ref rb) (unitM n) ∧ H4 dw = some (mdO P w dw []) := ⟨mr4, sle _ _ edw⟩
    subst eH3
    subst eH4
    refine ⟨rb, le, unitM n, rfl, rfl, g4.1, g4.2, ?_⟩
    have x5 := XE.upd (o := mdO P w dw [(unitM n, rb, le)]) g4.2
    have s5 : Same H2 (upd (upd (upd H2 dw (mdO P w dw [])) le (.lst [])) dw (mdO P w dw [(unitM n, rb, le)])) := same_upd (sdw.trans sle) ndw
    have md5 : MD P w (upd (upd (upd H2 dw (mdO P w dw [])) le (.lst [])) dw (mdO P w dw [(unitM n, rb, le)])) dw [(unitM n, rb, le)] := ⟨upd_same, fun x hx => by
      rw [List.mem_singleton] at hx
      subst hx
      exact mx_ext (φ := _) g4.2 g4.1, by simp, by show 1 ≤ 100000; decide⟩
    have ele5 := x5 _ _ (fun _ z => by cases z) ele
    refine r_cons (r_lst (r_cons ⟨_, rfl, (by show 1 ≤ sizeLine; decide), fun dl ndl => ?_⟩))
    have s6 : Same _ (upd (upd (upd (upd H2 dw (mdO P w dw [])) le (.lst [])) dw (mdO P w dw [(unitM n, rb, le)])) dl (.lst [.ref d0])) := same_new ndl
    have edl : upd (upd (upd (upd H2 dw (mdO P w dw [])) le (.lst [])) dw (mdO P w dw [(unitM n, rb, le)])) dl (.lst [.ref d0]) dl = some (.lst [.ref d0]) := upd_same
    have s26 := s5.trans s6
    have W6 : Wy P w C H2 (upd (upd (upd (upd H2 dw (mdO P w dw [])) le (.lst [])) dw (mdO P w dw [(unitM n, rb, le)])) dl (.lst [.ref d0])) dw dl [(unitM n, rb, le)] [.ref d0] h1 h3 Ms e := by
      refine ⟨md5.same s6, edl, rfl, by simp, fun i y ey => ?_, by show 1 ≤ _; omega⟩
      cases i with
      | succ i => simp at ey
      | zero =>
        cases ey
        exact ⟨⟨ne_of_none ele5 ndl, nleH⟩, .ref d0, [], rfl, s6 _ _ ele5, fun x hx => (nomatch hx), rfl, by show 0 < 1; decide, (t02.same s26).up (by show 1 ≤ 1 + 0 * _; omega)⟩
    refine ⟨_, _, _, rfl, ?_⟩
    have ndl2 : H2 dl = none := by
      cases z : H2 dl with
      | none => rfl
      | some o => exact absurd ((s5 _ _ z).symm.trans ndl) (by simp)
    have nH : ∀ {b : Addr}, H2 b = none → H b = none := fun {b} z => by
      cases y : H b with
      | none => rfl
      | some o => rw [(s1.trans s2) _ _ y] at z; cases z
    refine r_next (r_nseq (Wl.while_in (fun σ H' => ∃ (ys : List En) (vs : List V) (k : Nat) (x7 x8 x9 x10 : Option V), σ = [some (.ref a), some (.ref d0), some (.int (mostN n : Nat)), some (.ref Ds), some (.ref dw), some (.ref dl), some (.int (k : Nat)), x7, x8, x9, x10] ∧ Same H2 H' ∧ Wy P w C H2 H' dw dl ys vs h1 h3 Ms e ∧ k ≤ ys.length ∧
        (∀ (i : Nat) (y : En), i < k → ys[i]? = some y → ∀ x : Int, x ≠ 0 → x.natAbs ≤ Ms.length → mulM n y.1 (letG h1 h3 Ms x).val ∈ ys.map (·.1) ∨ mostN n < ys.length))
      (fun σ _ => match (σ[6]? : Option (Option V)) with | some (some (V.int b)) => ((mostN n : Int) + 1 - b).toNat | _ => 0) ⟨_, _, 0, _, _, _, _, rfl, s26, W6, Nat.zero_le _, fun i y hi => absurd hi (Nat.not_lt_zero _)⟩ (fun σ H' Q' hP qT qF => ?_)))
    obtain ⟨ys, vs, k, x7, x8, x9, x10, rfl, s, W, hk, hdone⟩ := hP
    have sz := W.sz
    have fr : ∀ y ∈ ys, H2 y.2.2 = none := fun y hy => by
      obtain ⟨i, hi, ei⟩ := List.getElem_of_mem hy
      exact (W.en i y (by rw [List.getElem?_eq_getElem hi, ei])).1.2
    have fin : ((∀ (i : Nat) (y : En), ys[i]? = some y → ∀ x : Int, x ≠ 0 → x.natAbs ≤ Ms.length → mulM n y.1 (letG h1 h3 Ms x).val ∈ ys.map (·.1) ∨ mostN n < ys.length)) → Q' false H' := fun hc => qF _ (r_next (r_nret ⟨_, rfl, dw, ys, rfl, W.md, fun o ml => q dw _ ys o (same_upd (s1.trans (s2.trans s)) (nH ndw)) (nH ndw) (fun y hy => nH (fr y hy)) ml ⟨W.one, fun y hy => ?_, W.len, fun hl y hy x x0 xm => ?_⟩⟩))
    rotate_left
    · obtain ⟨i, hi, ei⟩ := List.getElem_of_mem hy
      obtain ⟨_, v, l, _, hl, wl, em, ll, tv⟩ := W.en i y (by rw [List.getElem?_eq_getElem hi, ei])
      exact ⟨l, by rw [upd_ne (ne_of hl W.md.at_ (fun z => by cases z))]; exact hl, wl, em, ll, tv.bd⟩
    · obtain ⟨i, hi, ei⟩ := List.getElem_of_mem hy
      rcases hc i y (by rw [List.getElem?_eq_getElem hi, ei]) x x0 xm with z | z
      · exact z
      · omega
    refine r_and (r_tt (r_op ⟨_, rfl, cb1 ⟨_, rfl, dl, vs, rfl, .inl (SqL.of W.ln), _, _, rfl, rfl, _, rfl, ?_⟩⟩))
    by_cases zk : k < vs.length
    · refine ifT (decide_eq_true (by omega)) (r_tt (r_op (cb1 ⟨_, rfl, dw, ys, rfl, .inl W.md, _, rfl, _, _, rfl, rfl, _, rfl, ?_⟩)))
      by_cases zm : ys.length ≤ mostN n
      · rw [decide_eq_true (show (ys.length : Int) ≤ (mostN n : Nat) by omega)]
        refine qT _ ?_
        have hky : k < ys.length := by omega
        have ey0 : ys[k]? = some ys[k] := List.getElem?_eq_getElem hky
        obtain ⟨_, v, _, ev, _⟩ := W.en k _ ey0
        generalize ys[k] = y0 at ey0
        refine r_seq (r_asg (r_op ⟨_, rfl, _, rfl, false, dl, vs, (k : Int), v, rfl, rfl, SqL.of W.ln, atI_nat ev, ?_⟩))
        refine r_next (r_nseq ⟨_, rfl, _, _, rfl, rfl, ?_⟩)
        refine r_next (r_nfor ⟨_, rfl, false, Ds, ts, rfl, SqL.of (s _ _ hDs), ?_⟩)
        refine for_by ts.length (fun j σ H' => ∃ (ys : List En) (vs : List V) (x8 x9 x10 : Option V), σ = [some (.ref a), some (.ref d0), some (.int (mostN n : Nat)), some (.ref Ds), some (.ref dw), some (.ref dl), some (.int ((k : Int) + 1)), some v, x8, x9, x10] ∧ Same H2 H' ∧ Wy P w C H2 H' dw dl ys vs h1 h3 Ms e ∧ ys[k]? = some y0 ∧ vs[k]? = some v ∧
            (∀ (i : Nat) (y : En), i < k → ys[i]? = some y → ∀ x : Int, x ≠ 0 → x.natAbs ≤ Ms.length → mulM n y.1 (letG h1 h3 Ms x).val ∈ ys.map (·.1) ∨ mostN n < ys.length) ∧
            (∀ x ∈ (ltrs Ms.length).take j, mulM n y0.1 (letG h1 h3 Ms x).val ∈ ys.map (·.1) ∨ mostN n < ys.length))
          ⟨ys, vs, _, _, _, rfl, s, W, ey0, ev, hdone, fun x hx => by simp at hx⟩ (fun j σ Hx hj hP => ?_) (fun σ Hx hP => ?_) (fun j x σ Hx Hy hj hP hy => ?_) (fun σ Hx hP => ?_)
        · obtain ⟨_, _, _, _, _, _, sx, _⟩ := hP
          exact its_go (t := false) (SqL.of (sx _ _ hDs)) (List.getElem?_eq_getElem hj)
        · obtain ⟨_, _, _, _, _, _, sx, _⟩ := hP
          exact its_stop (t := false) (SqL.of (sx _ _ hDs)) (Nat.le_refl _)
        · obtain ⟨ys, vs, x8, x9, x10, rfl, sx, W, ey0, ev, hdone, hj2⟩ := hP
          obtain ⟨rfl, ex⟩ := its_yld (t := false) hy (SqL.of (sx _ _ hDs))
          obtain ⟨pp, u, lt, rfl, hpp, elt, tu⟩ := pr.get j x ex
          obtain ⟨lt0, ltm⟩ := ltrs_mem.mp (List.mem_of_getElem? elt)
          refine ⟨pp, _, rfl, .inl (.inl (sx _ _ hpp)), rfl, _, _, rfl, _, _, rfl, rfl, ?_⟩
          obtain ⟨_, v', l0, ev', hl0, wl0, em0, ll0, tv0⟩ := W.en k y0 ey0
          obtain rfl : v' = v := by rw [ev] at ev'; exact (Option.some.inj ev').symm
          have tak : (ltrs Ms.length).take (j + 1) = (ltrs Ms.length).take j ++ [lt] := by rw [List.take_add_one, elt]; rfl
          have lb : l0.length * (2 * e + 3) ≤ 48 * (2 * e + 3) := Nat.mul_le_mul_right _ (by have := W.len; omega)
          refine r_seq (r_asg (r_op ⟨_, rfl, _, rfl, o_mul tv0 (tu.same sx) (fun c H4 s4 t4 => ?_) (by omega)⟩))
          have W4 := W.same s4
          have s24 := sx.trans s4
          refine r_next (r_nif (r_and (r_b (r_prop ⟨_, rfl, p_rows t4.tab fun r8 mr8 => ?_⟩))))
          obtain ⟨b8, _, rfl, _, _⟩ := id mr8
          refine ⟨_, rfl, dw, b8, ys, _, rfl, rfl, W4.md, mr8, _, rfl, ?_⟩
          have stay : (mulM n y0.1 (letG h1 h3 Ms lt).val ∈ ys.map (·.1) ∨ mostN n < ys.length) → ∀ x ∈ (ltrs Ms.length).take (j + 1), mulM n y0.1 (letG h1 h3 Ms x).val ∈ ys.map (·.1) ∨ mostN n < ys.length := fun z x hx => by
            rw [tak, List.mem_append, List.mem_singleton] at hx
            rcases hx with hx | rfl
            · exact hj2 x hx
            · exact z
          by_cases zh : hasM ys (mulM n y0.1 (letG h1 h3 Ms lt).val) = true
          · rw [zh]
            exact ifF rfl ⟨ys, vs, _, _, _, rfl, s24, W4, ey0, ev, hdone, stay (.inl (has_mem.mp zh))⟩
          · have zh : hasM ys (mulM n y0.1 (letG h1 h3 Ms lt).val) = false := by simpa using zh
            rw [zh]
            refine ifT rfl (r_tt (r_op (cb1 ⟨_, rfl, dw, ys, rfl, .inl W4.md, _, rfl, _, _, rfl, rfl, _, rfl, ?_⟩)))
            by_cases zm2 : ys.length ≤ mostN n
            · rw [decide_eq_true (show (ys.length : Int) ≤ (mostN n : Nat) by omega)]
              refine iteT (r_seq (r_put (r_op (r_op ⟨_, rfl, r_prop ⟨_, rfl, p_rows (tv0.same s4).tab fun r7 m7 => ?_⟩⟩))))
              obtain ⟨b7, _, rfl, _, _⟩ := id m7
              refine ⟨dw, b7, ys, y0.1, y0.2.2, rfl, rfl, .inl W4.md, m7, atM_of W4.md.nd (List.mem_of_getElem? ey0), r_lst (r_cons ⟨_, rfl, (by show 1 ≤ sizeLine; decide), fun n1 nn1 => ?_⟩)⟩
              have s5' : Same H4 (upd H4 n1 (.lst [.int lt])) := same_new nn1
              have e5' : upd H4 n1 (.lst [.int lt]) n1 = some (.lst [.int lt]) := upd_same
              generalize upd H4 n1 (.lst [.int lt]) = G5 at s5' e5'
              refine ⟨y0.2.2, n1, _, _, rfl, rfl, (s4.trans s5') _ _ hl0, e5', by rw [List.length_map]; exact Nat.le_trans (by have := W.len; show _ + 1 ≤ 60; omega : _ ≤ 60) (by decide), fun n2 nn2 => ?_⟩
              have s6' : Same G5 (upd G5 n2 (.lst (l0.map V.int ++ [.int lt]))) := same_new nn2
              have e6' : upd G5 n2 (.lst (l0.map V.int ++ [.int lt])) n2 = some (.lst ((l0 ++ [lt]).map V.int)) := by rw [upd_same, List.map_append]; rfl
              generalize upd G5 n2 (.lst (l0.map V.int ++ [.int lt])) = G6 at s6' e6'
              have s46 := s5'.trans s6'
              have W6' := W4.same s46
              have nn : n2 ≠ dl := fun z => by subst z; rw [s5' _ _ W4.ln] at nn2; cases nn2
              refine ⟨_, rfl, r_prop ⟨_, rfl, p_rows (t4.same s46).tab fun r9 mr9 => ?_⟩⟩
              obtain ⟨b9, _, rfl, _, _⟩ := id mr9
              have ndd : dl ≠ dw := ne_of W6'.ln W6'.md.at_ (fun z => by cases z)
              refine ⟨dw, b9, n2, ys, _, rfl, rfl, rfl, W6'.md, mr9, by omega, ?_⟩
              have hdl : upd G6 dw (mdO P w dw (putM ys (mulM n y0.1 (letG h1 h3 Ms lt).val) b9 n2)) dl = some (.lst vs) := by rw [upd_ne ndd]; exact W6'.ln
              have szs := W.sz
              refine r_nx (d_bm ⟨_, rfl, .inl ⟨rfl, _, .inl (.inl hdl)⟩, _, rfl, dl, _, .ref c, rfl, rfl, hdl, Nat.lt_of_le_of_lt (by omega : vs.length ≤ 60) (by decide), ?_⟩)
              have nf2 : H2 n2 = none := by
                cases z : H2 n2 with
                | none => rfl
                | some o => rw [s5' _ _ (s24 _ _ z)] at nn2; cases nn2
              have Wn := W6'.add zh mr9 e6' nn nf2 (l := l0 ++ [lt]) (fun x hx => by
                rcases List.mem_append.mp hx with hx | hx
                · exact wl0 x hx
                · rw [List.mem_singleton] at hx; subst hx; exact ⟨lt0, ltm⟩) (by rw [wMat_app, ← em0]; rfl) (by rw [List.length_append]; exact ll0) ((t4.same s46).up (by rw [List.length_append]; show _ ≤ 1 + (l0.length + 1) * (2 * e + 3); rw [Nat.add_mul]; omega)) zm2
              have app : ∀ {M : List (List Int)}, M ∈ ys.map (·.1) → M ∈ (ys ++ [(mulM n y0.1 (letG h1 h3 Ms lt).val, b9, n2)]).map (·.1) := fun {M} q => by rw [List.map_append, List.mem_append]; exact .inl q
              refine ⟨_, _, _, _, _, rfl, same_upd (same_upd (s24.trans s46) ndw) ndl2, Wn, ?_, ?_, fun i y hi ey x x0 xm => ?_, fun x hx => ?_⟩
              · rw [List.getElem?_append_left (List.getElem?_eq_some_iff.mp ey0).1]
                exact ey0
              · rw [List.getElem?_append_left (List.getElem?_eq_some_iff.mp ev).1]
                exact ev
              · have hi2 : i < ys.length := Nat.lt_trans hi (List.getElem?_eq_some_iff.mp ey0).1
                rw [List.getElem?_append_left hi2] at ey
                rcases hdone i y hi ey x x0 xm with z | z
                · exact .inl (app z)
                · exact .inr (by rw [List.length_append]; omega)
              · rw [tak, List.mem_append, List.mem_singleton] at hx
                rcases hx with hx | rfl
                · rcases hj2 x hx with z | z
                  · exact .inl (app z)
                  · exact .inr (by rw [List.length_append]; omega)
                · exact .inl (by rw [List.map_append, List.mem_append]; exact .inr (List.mem_singleton_self _))
            · rw [decide_eq_false (show ¬ (ys.length : Int) ≤ (mostN n : Nat) by omega)]
              exact iteF ⟨ys, vs, _, _, _, rfl, s24, W4, ey0, ev, hdone, stay (.inr (by omega))⟩
        · obtain ⟨ys, vs, x8, x9, x10, rfl, sx, W, ey0, ev, hdone, hj2⟩ := hP
          have hky2 := (List.getElem?_eq_some_iff.mp ey0).1
          have all : (ltrs Ms.length).take ts.length = ltrs Ms.length := List.take_of_length_le (by rw [pr.len, ltrs_len]; exact Nat.le_refl _)
          rw [all] at hj2
          refine ⟨⟨ys, vs, k + 1, _, _, _, _, rfl, sx, W, hky2, fun i y hi ey x x0 xm => ?_⟩, ?_⟩
          · by_cases z : i = k
            · subst z
              rw [ey0] at ey
              cases ey
              exact hj2 x (ltrs_mem.mpr ⟨x0, xm⟩)
            · exact hdone i y (by omega) ey x x0 xm
          · show ((mostN n : Int) + 1 - ((k : Int) + 1)).toNat < ((mostN n : Int) + 1 - (k : Int)).toNat
            omega
      · rw [decide_eq_false (show ¬ (ys.length : Int) ≤ (mostN n : Nat) by omega)]
        exact fin fun i y ey x x0 xm => .inr (by omega)
    · refine ifF (decide_eq_false (by omega)) (fin fun i y ey x x0 xm => hdone i y ?_ ey x x0 xm)
      have := (List.getElem?_eq_some_iff.mp ey).1
      omega
end
end T81
set_option Elab.async false
set_option linter.all false
set_option maxRecDepth 100000
set_option maxHeartbeats 4000000
namespace T81
open PySem PySem.Spec PyProof.Rows L2 Gd Zn Rp Dn Tb Gn En Zs Ct Op Oc Rg Rt Ro Dm Gx
abbrev st_L (i : Nat) : Stmt := inClass (top 52) i
def fldsL (m w : V) : List (Str × V) := putF "_words" w (putF "_makers" m [])
theorem fldsL_m (m w : V) : (fldsL m w).lookup ("_makers" : Str) = some m := by
  unfold fldsL
  rw [lookup_putF, if_neg (by decide +kernel), lookup_putF, if_pos rfl]
theorem fldsL_w (m w : V) : (fldsL m w).lookup ("_words" : Str) = some w := by
  unfold fldsL
  rw [lookup_putF, if_pos rfl]
theorem fldsL_no {m w : V} {x : Str} (e : ¬ x = ("_words" : Str) := by decide +kernel) (e2 : ¬ x = ("_makers" : Str) := by decide +kernel) : (fldsL m w).lookup x = none := by
  unfold fldsL
  rw [lookup_putF, if_neg e, lookup_putF, if_neg e2]
  rfl
structure Lcl (K : PySem.W.Frag) (mg : Str → Option Value) (C : Addr) : Prop where
  cl : Cls K C
  nM : NoAttr K C "_makers"
  nW : NoAttr K C "_words"
  mgC : mg "Lot" = some (.ref C)
  cc : PySem.W.findIn K (.ref C) "__class__" = some (some (.builtin "object.__class__"))
  cg : PySem.W.specialIn K (.builtin "object.__class__") "__get__" = some (some (.builtin "getset_descriptor.__get__"))
  ct : PySem.W.takesIn K (.builtin "object.__class__") = some true
  cm : PySem.W.mroIn K C (.type "object") = some true
theorem Lcl.ty {K : PySem.W.Frag} {mg : Str → Option Value} {C : Addr} (T : Lcl K mg C) {H : Hp} {p dx : Addr} {fs : List (Str × V)} (h : H p = some (.ins C dx fs)) : TyX K H (.ref p) (.ref C) := .base (.ins h T.cl T.cc T.cg T.ct T.cm)
/-- a Lot -/
structure LotV (P : Program) (w : World) (C CL : Addr) (H : Hp) (v : V) {n : Nat} (h1 : 1 ≤ n) (h3 : n ≤ 3) (Ms : List (GL n)) (e : Nat) (ys : List En) : Prop where
  ex : ∃ (p dx m : Addr) (xs : List V) (d : Addr) (o : Obj), v = .ref p ∧ H p = some (.ins CL dx (fldsL (.ref m) (.ref d))) ∧ H m = some (.lst xs) ∧ Tabs C H e xs Ms ∧ ML P w H d ys o
  wk : WkR H ys h1 h3 Ms e
  l1 : 1 ≤ Ms.length
  l4 : Ms.length ≤ 4
  be : e ≤ 150
section
variable {P : Program} {w : World} {C CL : Addr} {H H' : Hp} {v : V} {n : Nat} {h1 : 1 ≤ n} {h3 : n ≤ 3} {Ms : List (GL n)} {e : Nat} {ys : List En} {T : List (Addr × Str)}
theorem WkR.by (k : ∀ b xs, H b = some (.lst xs) → H' b = some (.lst xs)) (h : WkR H ys h1 h3 Ms e) : WkR H' ys h1 h3 Ms e := ⟨h.one, fun y hy => by
  obtain ⟨l, a, b⟩ := h.en y hy
  exact ⟨l, k _ _ a, b⟩, h.len, h.clo⟩
theorem LotV.gt (s : GT T H H') (h : LotV P w C CL H v h1 h3 Ms e ys) : LotV P w C CL H' v h1 h3 Ms e ys := by
  obtain ⟨⟨p, dx, m, xs, d, o, ev, hp, hm, ht, hl⟩, wk, l1, l4, be⟩ := h
  exact ⟨⟨p, dx, m, xs, d, o, ev, s.n _ _ (fun _ z => by cases z) hp, s.lst hm, ht.gt s, hl.by fun b u q n1 n2 => s.n b u n2 q⟩, wk.by fun b xs q => s.lst q, l1, l4, be⟩
theorem LotV.same (s : Same H H') (h : LotV P w C CL H v h1 h3 Ms e ys) : LotV P w C CL H' v h1 h3 Ms e ys := h.gt (T := []) (.of s)
/-- all but one instance stays -/
def KP (p : Addr) (H H' : Hp) : Prop := ∀ c o, c ≠ p → H c = some o → H' c = some o
theorem KP.trans {p : Addr} {H H1 H2 : Hp} (a : KP p H H1) (b : KP p H1 H2) : KP p H H2 := fun c o n e => b c o n (a c o n e)
theorem KP.of {p : Addr} (s : Same H H') : KP p H H' := fun c o _ e => s c o e
theorem KP.upd {p : Addr} {o : HO} : KP p H (upd H p o) := fun c u n e => by rw [upd_ne n]; exact e
theorem tv_kp {p CQ dx : Addr} {fs : List (Str × V)} {M : List (List Int)} {b : Nat} (k : KP p H H') (hp : H p = some (.ins CQ dx fs)) (nl : fs.lookup ("_rows" : Str) = none) (h : Tv C H v n b M) : Tv C H' v n b M := by
  obtain ⟨⟨a, dx', r, rfl, ha, hm⟩, g, bd⟩ := h
  refine ⟨⟨a, dx', r, rfl, k _ _ (fun z => ?_) ha, Is.mx_by (fun b xs q => k _ _ (fun z => by rw [z, hp] at q; cases q) q) hm⟩, g, bd⟩
  rw [z, hp] at ha
  injection ha with ha
  injection ha with _ _ ha
  rw [ha, fldsT_rows] at nl
  cases nl
theorem tabs_kp {p CQ dx : Addr} {fs : List (Str × V)} {xs : List V} (k : KP p H H') (hp : H p = some (.ins CQ dx fs)) (nl : fs.lookup ("_rows" : Str) = none) (h : Tabs C H e xs Ms) : Tabs C H' e xs Ms := ⟨h.len, fun i v q => by
  obtain ⟨M, a, b⟩ := h.get i v q
  exact ⟨M, a, tv_kp k hp nl b⟩⟩
theorem ml_kp {p CQ dx d : Addr} {fs : List (Str × V)} {o : Obj} (k : KP p H H') (hp : H p = some (.ins CQ dx fs)) (h : ML P w H d ys o) : ML P w H' d ys o := ⟨k _ _ (fun z => by have := h.at_; rw [z, hp] at this; cases this) h.at_, fun x hx => Is.mx_by (fun b xs q => k _ _ (fun z => by rw [z, hp] at q; cases q) q) (h.key x hx), h.nd, h.len⟩
end
section
variable {P : Program} {w : World} {K : PySem.W.Frag} {mg : Str → Option Value} {base : Heap} {C CL : Addr}
theorem sc_initL : FnScope ["self", "makers"] ["self", "makers"] (defScope (st_L 0)) := ⟨rfl, rfl, rfl, by decide +kernel, rfl, by decide +kernel, by decide +kernel⟩
def sp_initL (P : Program) (w : World) (C CL : Addr) : Sp := fun vs H Q _ => ∃ (p dx : Addr) (t : Bool) (a : Addr) (xs : List V) (n e : Nat) (h1 : 1 ≤ n) (h3 : n ≤ 3) (Ms : List (GL n)), vs = [.ref p, .ref a] ∧ H p = some (.ins CL dx []) ∧ LT H t a xs ∧ Tabs C H e xs Ms ∧ 1 ≤ Ms.length ∧ Ms.length ≤ 4 ∧ e ≤ 150 ∧
  ∀ H' ys, KP p H H' → (∀ y ∈ ys, H y.2.2 = none) → LotV P w C CL H' (.ref p) h1 h3 Ms e ys → Q .non H'
theorem ok_initL {f : Addr} {fd : FuncData} (F : Fun K "__init__" "Lot.__init__" (st_L 0) f fd) (T : Txt mg) (Lc : Lcl K mg CL) (D1 : Def P w K mg base "check_makers" 3 ["makers"] (sp_cm C)) (D2 : Def P w K mg base "walked" 13 ["makers"] (sp_wk P w C)) : FnOk P w K mg base CX0 14 f fd ["self", "makers"] (sp_initL P w C CL) := by
  refine F.ok sc_initL (fun vs H Q E h => ?_) (fun cdv A outer s H vs Q E hr h => ?_)
  · obtain ⟨p, dx, t, a, xs, n, e, h1, h3, Ms, rfl, _⟩ := h
    rfl
  · obtain ⟨p, dx, t, a, xs, n, e, h1, h3, Ms, rfl, hp, ha, hT, l1, l4, he, q⟩ := h
    refine ⟨_, pss_cons (ps_expr (pe_def D1 hr (pa_cons (pv 1) pa_nil)))
      (pss_cons (ps_fld (pv 0) (pe_callTy (r := rLst K) c_lst (by rfl) T.list PyProof.Rows.boot_list (pa_cons (pv 1) pa_nil)) rfl)
      (pss_one (ps_fld (pv 0) (pe_def D2 hr (pa_cons (pv 1) pa_nil)) rfl))), ?_⟩
    refine r_seq (a1 ⟨_, rfl, t, a, xs, n, e, Ms, rfl, ha, hT, l1, l4, fun H1 s1 => ?_⟩)
    have ha1 := ha.same s1
    refine r_next (r_nseq ⟨_, rfl, a, xs, rfl, sq_or ha1.sq, fun m nm => ⟨_, rfl, p, CL, dx, [], rfl, ?_, Lc.cl, Lc.nM, by decide, ?_⟩⟩)
    · exact (s1.trans (same_new nm)) _ _ hp
    have s2 : Same H1 (upd H1 m (.lst xs)) := same_new nm
    have em : upd H1 m (.lst xs) m = some (.lst xs) := upd_same
    have hp2 := (s1.trans s2) _ _ hp
    generalize upd H1 m (.lst xs) = H2 at s2 em hp2
    have k3 : KP p H2 (upd H2 p (.ins CL dx (putF "_makers" (.ref m) []))) := KP.upd
    have hp3 : upd H2 p (.ins CL dx (putF "_makers" (.ref m) [])) p = some (.ins CL dx (putF "_makers" (.ref m) [])) := upd_same
    have npm : m ≠ p := ne_of em hp2 (fun z => by cases z)
    have hm3 : upd H2 p (.ins CL dx (putF "_makers" (.ref m) [])) m = some (.lst xs) := by rw [upd_ne npm]; exact em
    have ha3 : LT (upd H2 p (.ins CL dx (putF "_makers" (.ref m) []))) t a xs := k3 _ _ (fun z => by
      have := ha1.same s2
      unfold LT at this
      rw [z, hp2] at this
      cases t <;> cases this) (ha1.same s2)
    have hT3 := tabs_kp k3 hp2 rfl (hT.same (s1.trans s2))
    generalize upd H2 p (.ins CL dx (putF "_makers" (.ref m) [])) = H3 at k3 hp3 hm3 ha3 hT3
    refine r_next ?_
    refine ⟨_, rfl, t, a, xs, n, e, h1, h3, Ms, rfl, ha3, hT3, l1, l4, he, fun d H4 ys o s4 nd fr ml wk => ⟨_, rfl, p, CL, dx, _, rfl, s4 _ _ hp3, Lc.cl, Lc.nW, by show 1 < 1000; decide, ?_⟩⟩
    have hp4 := s4 _ _ hp3
    have k5 : KP p H4 (upd H4 p (.ins CL dx (putF "_words" (.ref d) (putF "_makers" (.ref m) [])))) := KP.upd
    have hT4 := hT3.same s4
    refine q _ ys ((KP.of (s1.trans s2)).trans (k3.trans ((KP.of s4).trans k5))) (fun y hy => by
      cases z : H y.2.2 with
      | none => rfl
      | some u =>
        have q3 := fr y hy
        by_cases e : y.2.2 = p
        · rw [e, hp3] at q3; cases q3
        · rw [k3 _ _ e ((s1.trans s2) _ _ z)] at q3; cases q3) ⟨⟨p, dx, m, xs, d, o, rfl, upd_same, ?_, tabs_kp k5 hp4 ?_ hT4, ml_kp k5 hp4 ml⟩, wk.by fun b xs q => k5 _ _ (fun z => by rw [z, hp4] at q; cases q) q, l1, l4, he⟩
    · exact k5 _ _ npm (s4 _ _ hm3)
    · rw [lookup_putF, if_neg (by decide +kernel)]
      rfl
end
end T81
set_option Elab.async false
set_option linter.all false
set_option maxRecDepth 100000
set_option maxHeartbeats 4000000
namespace T81
open PySem PySem.Spec PyProof.Rows L2 Gd Zn Rp Dn Tb Gn En Zs Ct Op Oc Rg Rt Ro Dm Gx
/-- how great the numbers of members may be -/
def bN (e : Nat) : Nat := 1 + 48 * (2 * e + 3)
theorem tv_ps {C : Addr} {H : Hp} {n b : Nat} : ∀ {xs : List V} {ys : List En}, xs.length = ys.length → (∀ (i : Nat) (v : V), xs[i]? = some v → ∃ y, ys[i]? = some y ∧ Tv C H v n b y.1) → ∃ ps : List (Addr × List (List Int)), xs = ps.map (fun p => V.ref p.1) ∧ ps.map (·.2) = ys.map (·.1) ∧ ∀ p ∈ ps, Tv C H (.ref p.1) n b p.2
  | [], [], _, _ => ⟨[], rfl, rfl, fun p hp => (nomatch hp)⟩
  | [], _ :: _, h, _ => by simp at h
  | _ :: _, [], h, _ => by simp at h
  | v :: xs, y :: ys, h, k => by
    obtain ⟨y', e, t⟩ := k 0 v rfl
    cases e
    obtain ⟨ps, e1, e2, e3⟩ := tv_ps (xs := xs) (ys := ys) (by simpa using h) fun i v e => k (i + 1) v e
    obtain ⟨⟨a, dx, r, rfl, ha, hm⟩, g, bd⟩ := id t
    refine ⟨(a, y.1) :: ps, by rw [e1]; rfl, by rw [List.map_cons, List.map_cons, e2], fun p hp => ?_⟩
    rcases List.mem_cons.mp hp with rfl | hp
    · exact t
    · exact e3 p hp
section
variable {P : Program} {w : World} {K : PySem.W.Frag} {mg : Str → Option Value} {base : Heap} {C CL : Addr}
theorem sc_sizeL : FnScope ["self"] ["self"] (defScope (st_L 1)) := ⟨rfl, rfl, rfl, by decide +kernel, rfl, by decide +kernel, by decide +kernel⟩
def sp_sizeL (P : Program) (w : World) (C CL : Addr) : Sp := fun vs H Q _ => ∃ (v : V) (n e : Nat) (h1 : 1 ≤ n) (h3 : n ≤ 3) (Ms : List (GL n)) (ys : List En), vs = [v] ∧ LotV P w C CL H v h1 h3 Ms e ys ∧ Q (.int n) H
theorem ok_sizeL {f : Addr} {fd : FuncData} (F : Fun K "size" "Lot.size" (st_L 1) f fd) (Tc : Tcl K mg C) (Lc : Lcl K mg CL) (P1 : Prp P w K mg base C "size" 1 (sp_size C)) : FnOk P w K mg base CX0 3 f fd ["self"] (sp_sizeL P w C CL) := by
  refine F.ok sc_sizeL (fun vs H Q E h => ?_) (fun cdv A outer s H vs Q E hr h => ?_)
  · obtain ⟨v, n, e, h1, h3, Ms, ys, rfl, _⟩ := h
    rfl
  · obtain ⟨v, n, e, h1, h3, Ms, ys, rfl, ⟨⟨p, dx, m, xs, d, o, rfl, hp, hm, ht, ml⟩, wk, l1, l4, be⟩, q⟩ := h
    obtain ⟨v0, ev0, tv0⟩ := ht.at (i := 0) (by omega)
    refine ⟨_, pss_one (ps_ret (pe_prp P1 Tc.cl hr (pe_ix (r := rIxS2 K) ix_sq (pe_fld (pv 0) rfl) pe_int (fun _ _ => rfl)))), ?_⟩
    refine r_ret (r_prop (r_op ⟨_, rfl, p, CL, dx, _, _, rfl, hp, Lc.cl, Lc.nM, fldsL_m _ _, false, m, xs, ((0 : Nat) : Int), v0, rfl, rfl, SqL.of hm, atI_nat ev0, p_size tv0.tab ?_⟩))
    rw [tv0.mx]
    exact q
theorem p_sizeL {H : Hp} {v : V} {n e : Nat} {h1 : 1 ≤ n} {h3 : n ≤ 3} {Ms : List (GL n)} {ys : List En} {Q : VK} {E : XK} (h : LotV P w C CL H v h1 h3 Ms e ys) (q : Q (.int n) H) : ∃ a dx fs, v = .ref a ∧ H a = some (.ins CL dx fs) ∧ sp_sizeL P w C CL (.ref a :: []) H Q E := by
  obtain ⟨p, dx, m, xs, d, o, rfl, hp, hm, ht, ml⟩ := h.ex
  exact ⟨p, dx, _, rfl, hp, _, n, e, h1, h3, Ms, ys, rfl, h, q⟩
theorem sc_finL : FnScope ["self"] ["self"] (defScope (st_L 2)) := ⟨rfl, rfl, rfl, by decide +kernel, rfl, by decide +kernel, by decide +kernel⟩
def sp_finL (P : Program) (w : World) (C CL : Addr) : Sp := fun vs H Q _ => ∃ (v : V) (n e : Nat) (h1 : 1 ≤ n) (h3 : n ≤ 3) (Ms : List (GL n)) (ys : List En), vs = [v] ∧ LotV P w C CL H v h1 h3 Ms e ys ∧ Q (.bl (decide (ys.length ≤ mostN n))) H
theorem ok_finL {f : Addr} {fd : FuncData} (F : Fun K "is_finite" "Lot.is_finite" (st_L 2) f fd) (T : Txt mg) (Lc : Lcl K mg CL) {T0 : Addr} (hMM : mg "MOST_MEMBERS" = some (.ref T0)) (tMM : ∀ H, SqT K H T0 [.int 2, .int 12, .int 48]) (D1 : Prp P w K mg base CL "size" 3 (sp_sizeL P w C CL)) : FnOk P w K mg base CX0 5 f fd ["self"] (sp_finL P w C CL) := by
  refine F.ok sc_finL (fun vs H Q E h => ?_) (fun cdv A outer s H vs Q E hr h => ?_)
  · obtain ⟨v, n, e, h1, h3, Ms, ys, rfl, _⟩ := h
    rfl
  · obtain ⟨v, n, e, h1, h3, Ms, ys, rfl, hL, q⟩ := h
    obtain ⟨p, dx, m, xs, d, o, rfl, hp, hm, ht, ml⟩ := hL.ex
    refine ⟨_, pss_one (ps_ret (pe_cmpR op_le (pe_callB (r := rLenM P w) call_lenM (by rfl) T.len PySem.boot_len (pa_cons (pe_fld (pv 0) rfl) pa_nil)) (pe_ix (r := rIxS2 K) ix_sq (pe_glob (v := .ref T0) (by rfl) hMM rfl) (pe_op op_sub (pe_prp D1 Lc.cl hr (pv 0)) pe_int) (fun _ _ => rfl)) (nomark _))), ?_⟩
    refine r_ret (r_op (cb1 ⟨_, rfl, p, CL, dx, _, _, rfl, hp, Lc.cl, Lc.nW, fldsL_w _ _, d, ys, rfl, .inr ⟨o, ml⟩, r_op (r_c0 (r_op (r_prop ⟨_, rfl, p_sizeL hL ⟨_, _, rfl, rfl, ?_⟩⟩)))⟩))
    refine ⟨true, T0, _, ((n - 1 : Nat) : Int), .int (mostN n : Nat), rfl, congrArg V.int (by omega), tMM _, atI_nat ?_, _, _, rfl, rfl, ?_⟩
    · have : n = 1 ∨ n = 2 ∨ n = 3 := by omega
      rcases this with rfl | rfl | rfl <;> rfl
    show Q (.bl (decide ((ys.length : Int) ≤ (mostN n : Nat)))) H
    rw [show decide ((ys.length : Int) ≤ (mostN n : Nat)) = decide (ys.length ≤ mostN n) from decide_eq_decide.mpr (by omega)]
    exact q
theorem p_finL {H : Hp} {v : V} {n e : Nat} {h1 : 1 ≤ n} {h3 : n ≤ 3} {Ms : List (GL n)} {ys : List En} {Q : VK} {E : XK} (h : LotV P w C CL H v h1 h3 Ms e ys) (q : Q (.bl (decide (ys.length ≤ mostN n))) H) : ∃ a dx fs, v = .ref a ∧ H a = some (.ins CL dx fs) ∧ sp_finL P w C CL (.ref a :: []) H Q E := by
  obtain ⟨p, dx, m, xs, d, o, rfl, hp, hm, ht, ml⟩ := h.ex
  exact ⟨p, dx, _, rfl, hp, _, n, e, h1, h3, Ms, ys, rfl, h, q⟩
abbrev st_cl : Stmt := top 54
theorem sc_cl : FnScope ["lot"] ["lot"] (defScope st_cl) := ⟨rfl, rfl, rfl, by decide +kernel, rfl, by decide +kernel, by decide +kernel⟩
def sp_cl (CL : Addr) : Sp := fun vs H Q _ => ∃ (p dx : Addr) (fs : List (Str × V)), vs = [.ref p] ∧ H p = some (.ins CL dx fs) ∧ Q .non H
theorem ok_cl {f : Addr} {fd : FuncData} (F : Fun K "check_lot" "check_lot" st_cl f fd) (T : Txt mg) (Lc : Lcl K mg CL) : FnOk P w K mg base CX0 1 f fd ["lot"] (sp_cl CL) := by
  refine F.ok sc_cl (fun vs H Q E h => ?_) (fun cdv A outer s H vs Q E hr h => ?_)
  · obtain ⟨p, dx, fs, rfl, _⟩ := h
    rfl
  · obtain ⟨p, dx, fs, rfl, hp, q⟩ := h
    refine ⟨_, pss_one (ps_if (pt_not (pt_val (pe_callB (r := rIsi K) call_isi (by rfl) T.isi boot_isinstance (pa_cons (pv 0) (pa_cons (pe_glob (v := .ref CL) (by rfl) Lc.mgC rfl) pa_nil))))) pss_dead pss_nil), ?_⟩
    refine ⟨_, rfl, .ref p, .ref CL, _, _, _, rfl, .own CL, Lc.ty hp, kit_own K CL, _, rfl, ?_⟩
    exact iteF q
abbrev st_cf : Stmt := top 55
theorem sc_cf : FnScope ["lot"] ["lot"] (defScope st_cf) := ⟨rfl, rfl, rfl, by decide +kernel, rfl, by decide +kernel, by decide +kernel⟩
def sp_cf (P : Program) (w : World) (C CL : Addr) : Sp := fun vs H Q _ => ∃ (v : V) (n e : Nat) (h1 : 1 ≤ n) (h3 : n ≤ 3) (Ms : List (GL n)) (ys : List En), vs = [v] ∧ LotV P w C CL H v h1 h3 Ms e ys ∧ ys.length ≤ mostN n ∧ Q .non H
theorem ok_cf {f : Addr} {fd : FuncData} (F : Fun K "check_finite" "check_finite" st_cf f fd) (Lc : Lcl K mg CL) (D1 : Prp P w K mg base CL "is_finite" 5 (sp_finL P w C CL)) : FnOk P w K mg base CX0 7 f fd ["lot"] (sp_cf P w C CL) := by
  refine F.ok sc_cf (fun vs H Q E h => ?_) (fun cdv A outer s H vs Q E hr h => ?_)
  · obtain ⟨v, n, e, h1, h3, Ms, ys, rfl, _⟩ := h
    rfl
  · obtain ⟨v, n, e, h1, h3, Ms, ys, rfl, hL, fin, q⟩ := h
    refine ⟨_, pss_one (ps_if (pt_not (pt_val (pe_prp D1 Lc.cl hr (pv 0)))) pss_dead pss_nil), ?_⟩
    refine r_if (r_not (r_tt (r_prop ⟨_, rfl, p_finL hL ⟨_, rfl, ?_⟩⟩)))
    rw [decide_eq_true fin]
    exact iteF q
theorem sc_mem : FnScope ["self", "rows"] ["self"] (defScope (st_L 7)) := ⟨rfl, rfl, rfl, by decide +kernel, rfl, by decide +kernel, by decide +kernel⟩
def sp_mem (P : Program) (w : World) (TT : List (Addr × Str)) (C CL : Addr) : Sp := fun vs H Q _ => ∃ (v : V) (n e : Nat) (h1 : 1 ≤ n) (h3 : n ≤ 3) (Ms : List (GL n)) (ys : List En), vs = [v] ∧ LotV P w C CL H v h1 h3 Ms e ys ∧ ys.length ≤ mostN n ∧ LamX.Tabs TT H ∧
  ∀ c H' (ps : List (Addr × List (List Int))), GT TT H H' → H c = none → H' c = some (.lst (ps.map fun p => V.ref p.1)) → (∀ p ∈ ps, Tv C H' (.ref p.1) n (bN e) p.2) → ps.map (·.2) = (ys.map (·.1)).mergeSort Sm.leX → Q (.ref c) H'
theorem ok_mem {f : Addr} {fd : FuncData} {TT : List (Addr × Str)} (F : Fun K "members" "Lot.members" (st_L 7) f fd) (Tc : Tcl K mg C) (Lc : Lcl K mg CL) (D1 : Def P w K mg base "check_finite" 7 ["lot"] (sp_cf P w C CL)) (D2 : Def P w K mg base "in_sequence" 7 ["tables"] (Is.sp_inseq TT C "_rows")) (D3 : Mkr P w K mg base C) :
    FnOk P w K mg base CX0 10 f fd ["self"] (sp_mem P w TT C CL) := by
  refine F.ok sc_mem (fun vs H Q E h => ?_) (fun cdv A outer s H vs Q E hr h => ?_)
  · obtain ⟨v, n, e, h1, h3, Ms, ys, rfl, _⟩ := h
    rfl
  · obtain ⟨v, n, e, h1, h3, Ms, ys, rfl, hL, fin, hTT, q⟩ := h
    obtain ⟨p, dx, m, xs, d, o, rfl, hp, hm, ht, ml⟩ := hL.ex
    have m48 := most_le n
    refine ⟨_, pss_cons (ps_expr (pe_def D1 hr (pa_cons (pv 0) pa_nil)))
      (pss_one (ps_ret (pe_def D2 hr (pa_cons (pe_lc (own := [("rows", 1)]) (g := gName 1) (tt := tYes) rfl sc_mem.nd (pi_mkeys (pe_fld (pv 0) rfl)) (blkOk_by (N := ["self", "rows"]) (sc := defScope (st_L 7)) (by decide +kernel)) (fun _ _ _ _ _ => pg_name (i := 1) sc_mem.nd rfl (Or.inl rfl) (Or.inr rfl)) (fun _ _ _ _ _ => pts_nil)
        (fun _ _ _ _ _ => pe_mkr (X := Cx.blk _ _ _ _ _ _) D3 Tc hr (pa_cons (pv 1) pa_nil))) pa_nil)))), ?_⟩
    refine r_seq (a1 ⟨_, rfl, _, n, e, h1, h3, Ms, ys, rfl, hL, fin, ?_⟩)
    refine r_next (r_nret (a1 (tlc_call ⟨_, rfl, p, CL, dx, _, _, rfl, hp, Lc.cl, Lc.nW, fldsL_w _ _, d, ys, o, rfl, ml, ?_⟩)))
    refine lc_ks (p := none) ys.length (fun i v G => ∃ y, ys[i]? = some y ∧ Tv C G v n (bN e) y.1) (fun i v G G' kk h => by obtain ⟨y, e1, e2⟩ := h; exact ⟨y, e1, e2.ks kk⟩) has_none (by omega) (fun i G hi s => ⟨ml.same s.same, hi⟩) (fun G s => ⟨ml.same s.same, Nat.le_refl _⟩) (fun i x G G' C' hi s _ hy hC => ?_) fun D H' vs nD s hD hl hE => ?_
    · obtain ⟨rfl, y, ey, rfl⟩ := hy
      have my := List.mem_of_getElem? ey
      obtain ⟨l, hl, wl, em, ll, bd⟩ := hL.wk.en y my
      have lb : l.length * (2 * e + 3) ≤ 47 * (2 * e + 3) := Nat.mul_le_mul_right _ (by omega)
      have be := hL.be
      refine ⟨rfl, mk_v (n := n) (b := bN e) (M := y.1) rfl ((ml.key y my).mono (KS.of s.same)) (by rw [← em]; exact (wMat h1 h3 Ms l).property) (bd.mono (by unfold bN; omega)) (by unfold bN; omega) fun d' H7 s7 u => hC (.ref d') H7 (RX.of s7) ⟨y, ey, u⟩⟩
    · obtain ⟨ps, rfl, e2, tv⟩ := tv_ps hl hE
      refine ⟨D, ps, rfl, hTT.ext s.same, hD, fun p hp => tv_ins (tv p hp), ?_, fun z H2 ex tx nz hz => ?_⟩
      · have : ps.length = ys.length := by have := congrArg List.length e2; simpa using this
        omega
      · have g2 : GT TT H' H2 := .ext ex tx
        refine q z H2 _ ((GT.of s.same).trans g2) ?_ hz (fun p hp => ?_) ?_
        · cases z0 : H z with
          | none => rfl
          | some o => rw [s.same _ _ z0] at nz; cases nz
        · exact (tv p (Sm.sort_mem.mp hp)).gt g2
        · rw [Sm.sort_mats, e2]
end
end T81
set_option Elab.async false
set_option linter.all false
set_option maxRecDepth 100000
set_option maxHeartbeats 4000000
namespace T81
open PySem PySem.Spec PyProof.Rows L2 Gd Zn Rp Dn Tb Gn En Zs Ct Op Oc Rg Rt Ro Dm Gx
/-- the first numbers, as a list -/
def spots (n : Nat) : List V := (List.range n).map fun i => V.int (i : Nat)
theorem spots_len (n : Nat) : (spots n).length = n := by unfold spots; simp
theorem spots_at {n i : Nat} (h : i < n) : (spots n)[i]? = some (V.int (i : Nat)) := by
  unfold spots
  rw [List.getElem?_map, List.getElem?_range h]
  rfl
theorem rg_spots (n : Nat) : rgV 0 ((n : Nat) : Int) = spots n := by
  unfold rgV spots
  rw [show (((n : Nat) : Int) - 0).toNat = n by omega]
  exact List.map_congr_left fun i _ => by rw [Int.zero_add]
theorem col_at {n j k : Nat} {N : List (List Int)} {r : List Int} (er : N[k]? = some r) : (colsM n N j)[k]? = some (r.getD j 0) := by
  unfold colsM
  rw [List.getElem?_map, er]
  rfl
section
variable {P : Program} {w : World} {K : PySem.W.Frag} {mg : Str → Option Value} {base : Heap} {C CL : Addr}
abbrev st_by : Stmt := top 64
abbrev N_by : List Str := ["_law_one", "_law_other", "_law_spots", "_law_row_here", "_law_j", "_law_k"]
theorem sc_by : FnScope N_by ["_law_one", "_law_other"] (defScope st_by) := ⟨rfl, rfl, rfl, by decide +kernel, rfl, by decide +kernel, by decide +kernel⟩
def sp_by : Sp := fun vs H Q _ => ∃ v o M N, ∃ n : Nat, vs = [v, o] ∧ Mx H v M ∧ Mx H o N ∧ n ≤ 3 ∧ Sq n M ∧ Sq n N ∧ ∀ v' H', Same H H' → Mx H' v' (mulM n M N) → Q v' H'
theorem ok_by {f : Addr} {fd : FuncData} (F : Fun K "_law_by" "_law_by" st_by f fd) (T : Txt mg) : FnOk P w K mg base CX0 1 f fd ["_law_one", "_law_other"] sp_by := by
  refine F.ok sc_by (fun vs H Q E h => ?_) (fun cdv A outer s H vs Q E hr h => ?_)
  · obtain ⟨v, o, M, N, n, rfl, _⟩ := h
    rfl
  · obtain ⟨v, o, M, N, n, rfl, hM, hN, h3, sM, sN, q⟩ := h
    refine ⟨_, pss_cons (ps_set (i := 2) sc_by.nd rfl (Or.inr rfl) (pe_listRg rfl (by rfl) T.list (prg_1 (by rfl) T.range (pe_callB (r := Dn.rLen K) c_len (by rfl) T.len PySem.boot_len (pa_cons (pv 0) pa_nil)))))
      (pss_one (ps_ret (pe_callTy (r := rTup K) c_tup (by rfl) T.tuple PyProof.Rows.boot_tuple (pa_cons (pe_lc (own := [("_law_row_here", 3)]) (g := gName 3) (tt := tYes) rfl sc_by.nd (pi_seq (pv 0))
        (blkOk_by (N := N_by) (sc := defScope st_by) (by decide +kernel))
        (fun _ _ _ _ _ => pg_name (i := 3) sc_by.nd rfl (Or.inr rfl) (Or.inl rfl)) (fun _ _ _ _ _ => pts_nil)
        (fun s' H' C' cl' fp' => by
          refine pe_callTy (r := rTup K) c_tup (by rfl) T.tuple PyProof.Rows.boot_tuple (pa_cons (pe_lc (own := [("_law_j", 4)]) (wi := iSeq K (tVar 2)) (g := gName 4) (tt := tYes)
            (te := tCB (rSum K) (tCons (tLc (iSeq K (tVar 2)) (gName 5) tYes (tOp (rI CMulX fun i j => .int (i * j)) (tOp (rIxS2 K) (tVar 3) (tVar 5)) (tOp (rIxS2 K) (tOp (rIxS2 K) (tVar 1) (tVar 5)) (tVar 4))) [5]) tNil)) rfl sc_by.nd ?p1 ?p2 ?p3 ?p4 ?p5) pa_nil)
          case p1 => exact pi_seq (pv 2)
          case p2 => exact blkOk_by (N := N_by) (by rfl)
          case p3 => exact (fun _ _ _ _ _ => pg_name (i := 4) sc_by.nd rfl (Or.inr rfl) (Or.inl rfl))
          case p4 => exact (fun _ _ _ _ _ => pts_nil)
          case p5 =>
            intro s2 H2 C2 cl2 fp2
            refine pe_callB (r := rSum K) (cr_sum rfl) (by rfl) T.sum boot_sum (pa_cons (pe_lc (own := [("_law_k", 5)]) (wi := iSeq K (tVar 2)) (g := gName 5) (tt := tYes)
              (te := tOp (rI CMulX fun i j => .int (i * j)) (tOp (rIxS2 K) (tVar 3) (tVar 5)) (tOp (rIxS2 K) (tOp (rIxS2 K) (tVar 1) (tVar 5)) (tVar 4))) rfl sc_by.nd ?q1 ?q2 ?q3 ?q4 ?q5) pa_nil)
            case q1 => exact pi_seq (pv 2)
            case q2 => exact blkOk_by (N := N_by) (by rfl)
            case q3 => exact (fun _ _ _ _ _ => pg_name (i := 5) sc_by.nd rfl (Or.inl rfl) (Or.inr rfl))
            case q4 => exact (fun _ _ _ _ _ => pts_nil)
            case q5 => exact (fun _ _ _ _ _ => pe_op op_mulX (pe_ix ix_sq (pv 3) (pv 5) (fun _ _ => rfl)) (pe_ix ix_sq (pe_ix ix_sq (pv 1) (pv 5) (fun _ _ => rfl)) (pv 4) (fun _ _ => rfl))))) pa_nil)))), ?_⟩
    obtain ⟨a, vx, rfl, ha, hR⟩ := id hM
    obtain ⟨b, vy, rfl, hb, hS⟩ := id hN
    have hvl : vx.length = n := by rw [hR.len]; exact sM.len
    have hwl : vy.length = n := by rw [hS.len]; exact sN.len
    have qx : ∀ H', Same H H' → SqV K H' true a vx := fun H' s => .inl (.inl (s _ _ ha))
    have qy : ∀ H', Same H H' → SqV K H' true b vy := fun H' s => .inl (.inl (s _ _ hb))
    refine r_seq (r_asg (cb1 ⟨_, rfl, a, _, rfl, sq_or (qx _ (Same.refl _)), _, rfl, ?_, fun pl npl => ?_⟩))
    · rw [hvl]
      exact RgOk.of_le (by omega) (by omega) (by omega) (by omega)
    have e0 : rgV 0 ((vx.length : Nat) : Int) = spots n := by rw [hvl, rg_spots]
    rw [e0] at *
    have s1 : Same H (upd H pl (.lst (spots n))) := same_new npl
    have hpl : upd H pl (.lst (spots n)) pl = some (.lst (spots n)) := upd_same
    generalize upd H pl (.lst (spots n)) = H1 at s1 hpl
    have qs : ∀ H', Same H1 H' → SqV K H' false pl (spots n) := fun H' s => .inl (.inl (s _ _ hpl))
    refine r_next (r_nret (r_cb (r_cons ?_)))
    refine tlc_of (Its true K a) (H1 := H1) (fun R hR' => ⟨_, rfl, true, a, vx, rfl, qx H1 s1, hR'⟩) ?_
    refine lc_ks (p := none) n (fun i v H => ∃ r, (M.map fun r => (List.range n).map fun j => dot r (colsM n N j))[i]? = some r ∧ RowV H v r) (fun i v H H' k h => ?_) has_none (by omega) (fun i H3 hi s3 => ?_) (fun H3 s3 => ?_) (fun i x H3 H4 C' hi s3 _ hy hC => ?_) fun Da H3 rs nD s3 hD hrl hE => ?_
    · obtain ⟨r, e, h⟩ := h
      exact ⟨r, e, h.mono k⟩
    · exact its_go (qx H3 (s1.trans s3.same)) (List.getElem?_eq_getElem (by omega))
    · exact its_stop (qx H3 (s1.trans s3.same)) (by omega)
    · have S3 := s1.trans s3.same
      obtain ⟨rfl, ex⟩ := its_yld hy (qx _ S3)
      obtain ⟨r, er, c, ec, hc⟩ := hR.get ex
      subst ec
      have lr := sM.row r (List.mem_of_getElem? er)
      have smr := sM.small r (List.mem_of_getElem? er)
      have hc3 := S3 _ _ hc
      have eM : (M.map fun r => (List.range n).map fun j => dot r (colsM n N j))[i]? = some ((List.range n).map fun j => dot r (colsM n N j)) := by rw [List.getElem?_map, er]; rfl
      refine ⟨rfl, ?_⟩
      refine r_cb (r_cons ?_)
      refine tlc_of (Its false K pl) (H1 := H4) (fun R hR' => ⟨_, rfl, false, pl, _, rfl, qs H4 s3.same, hR'⟩) ?_
      refine lc_el (p := none) n (fun j v => v = .int (dot r (colsM n N j))) has_none (by omega) (fun j H5 hj s5 => its_go (qs H5 (s3.same.trans s5.same)) (spots_at hj)) (fun H5 s5 => its_stop (qs H5 (s3.same.trans s5.same)) (by rw [spots_len]; exact Nat.le_refl _)) (fun j x H5 H6 C2 hj s5 _ hy2 hC2 => ?_) fun Db H5 ys nDb s5 hDb hyl hyE => ?_
      · obtain ⟨rfl, ex2⟩ := its_yld hy2 (qs H5 (s3.same.trans s5.same))
        rw [spots_at hj] at ex2
        cases ex2
        have S5 := S3.trans s5.same
        have hc5 := s5.same _ _ hc3
        refine ⟨rfl, ?_⟩
        refine r_cb (r_cons ?_)
        have smc : ∀ x ∈ colsM n N j, Small x := fun x hx => by
          unfold colsM at hx
          obtain ⟨r', hr', rfl⟩ := List.mem_map.mp hx
          have lr' := sN.row r' hr'
          rw [List.getD_eq_getElem?_getD, List.getElem?_eq_getElem (by omega)]
          exact sN.small r' hr' _ (List.getElem_mem _)
        have lcj : (colsM n N j).length = n := by unfold colsM; rw [List.length_map]; exact sN.len
        have S15 := s3.same.trans s5.same
        refine tlc_of (Its false K pl) (H1 := H6) (fun R hR' => ⟨_, rfl, false, pl, _, rfl, qs H6 S15, hR'⟩) ?_
        refine lc_el (p := none) n (fun l v => ∃ x y, r[l]? = some x ∧ (colsM n N j)[l]? = some y ∧ v = .int (x * y)) has_none (by omega) (fun l H7 hl s7 => its_go (qs H7 (S15.trans s7.same)) (spots_at hl)) (fun H7 s7 => its_stop (qs H7 (S15.trans s7.same)) (by rw [spots_len]; exact Nat.le_refl _)) (fun l x H7 H8 C3 hl s7 _ hy3 hC3 => ?_) fun Dd H7 zs nDd s7 hDd hzl hzE => ?_
        · obtain ⟨rfl, ex3⟩ := its_yld hy3 (qs H7 (S15.trans s7.same))
          rw [spots_at hl] at ex3
          cases ex3
          have l1 : l < r.length := by omega
          have l2 : l < N.length := by rw [sN.len]; exact hl
          obtain ⟨c2, ec2, e2, d2, ed2⟩ := hS.get (i := l) (List.getElem?_eq_getElem (by omega : l < vy.length))
          have lr2 := sN.row c2 (List.mem_of_getElem? ec2)
          have ecol := col_at (n := n) (j := j) ec2
          have l3 : j < c2.length := by rw [lr2]; exact hj
          have eg : c2.getD j 0 = c2[j] := by rw [List.getD_eq_getElem?_getD, List.getElem?_eq_getElem l3]; rfl
          refine ⟨rfl, r_op (r_op ⟨_, rfl, _, rfl, true, c, _, ((l : Nat) : Int), .int r[l], rfl, rfl, .inl (.inl (s7.same _ _ hc5)), atI_nat (by rw [List.getElem?_map, List.getElem?_eq_getElem l1]; rfl), ?_⟩)⟩
          refine r_op (r_op ⟨_, rfl, _, rfl, true, b, vy, ((l : Nat) : Int), vy[l]'(by omega), rfl, rfl, qy _ (S5.trans s7.same), atI_nat (List.getElem?_eq_getElem (by omega)), ?_⟩)
          refine ⟨_, rfl, true, e2, _, ((j : Nat) : Int), .int c2[j], d2, rfl, .inl (.inl ((S5.trans s7.same) _ _ ed2)), atI_nat (by rw [List.getElem?_map, List.getElem?_eq_getElem l3]; rfl), ?_⟩
          exact ⟨_, _, rfl, rfl, Wd.mul (smr _ (List.getElem_mem l1)) (sN.small c2 (List.mem_of_getElem? ec2) _ (List.getElem_mem l3)), hC3 _ _ (RX.refl _) ⟨_, _, List.getElem?_eq_getElem l1, by rw [ecol, eg], rfl⟩⟩
        · have ez : zs = (r.zip (colsM n N j)).map fun (p : Int × Int) => V.int (p.1 * p.2) := map_of_get (n := 0) _ (by simp [hzl, lr, lcj]) fun i v e => by
            obtain ⟨x, y, e1, e2, e3⟩ := hzE i v e
            exact ⟨(x, y), by rw [List.getElem?_zip_eq_some]; exact ⟨e1, e2⟩, e3⟩
          refine ⟨Dd, (r.zip (colsM n N j)).map (fun (p : Int × Int) => p.1 * p.2), rfl, .inl (.inl ?_), hC2 _ _ s7 rfl⟩
          rw [hDd, ez, List.map_map]
          rfl
      · have ey : ys = (List.range n).map fun j => V.int (dot r (colsM n N j)) := map_of_get (n := 0) _ (by rw [hyl, List.length_range]) fun j v e => by
          have hj : j < n := by rw [← hyl]; exact (List.getElem?_eq_some_iff.mp e).1
          exact ⟨j, List.getElem?_range hj, hyE j v e⟩
        refine ⟨Db, ys, rfl, .inl ⟨.inl (.inl hDb), fun l nl => ?_⟩⟩
        refine hC _ _ (RX.of (s5.same.trans (same_new nl))) ⟨_, eM, l, rfl, ?_⟩
        rw [upd_same, ey, List.map_map]
        rfl
    · refine ⟨Da, rs, rfl, .inl ⟨.inl (.inl hD), fun l nl => ?_⟩⟩
      have k : Same H3 (upd H3 l (.tup rs)) := same_new nl
      have hx := (rows_of (by rw [hrl, List.length_map, sM.len]) hE).mono (KS.of k)
      rw [times_eq] at hx
      exact q _ _ (s1.trans (s3.same.trans k)) ⟨l, rs, rfl, upd_same, hx⟩
end
end T81
set_option Elab.async false
set_option linter.all false
set_option maxRecDepth 100000
set_option maxHeartbeats 1000000
namespace Ln
open PySem PySem.Spec PyProof.Rows L2 Gd Zn Rp Dn Tb
theorem rx_none {p : Option Addr} {H H' : Hp} {q : Addr} (s : RX p H H') (hp : Has p H) (n : H' q = none) : H q = none := by
  cases e : H q with
  | none => rfl
  | some o =>
    by_cases z : p = some q
    · obtain ⟨x, y, e1, _⟩ := s.pot q z (hp q z)
      rw [n] at e1
      cases e1
    · have := s.keep q o z e
      rw [n] at this
      cases this
/-- new objects, one for each turn -/
theorem lc_new {p : Option Addr} {J : It} {g : TG} {te : TE} {vs : List Nat} {σ : L2.St} {H1 : Hp} {Q : VK} (n : Nat) (Ok : Nat → HO → Prop) (hp : Has p H1) (hn : n ≤ 1000)
    (hgo : ∀ i H, i < n → RX p H1 H → J.go i H) (hst : ∀ H, RX p H1 H → J.stop n H)
    (hs : ∀ i x H H' (C : VK), i < n → RX p H1 H → Has p H → J.yld i H x H' → (∀ q H4 o, RX p H H4 → H q = none → H4 q = some o → Ok i o → C (.ref q) H4) → g x (wipe σ vs) H' fun σ2 H2 => wipe σ2 vs = wipe σ vs ∧ te σ2 H2 C)
    (hd : ∀ D H (bs : List Addr), H1 D = none → RX p H1 H → H D = some (.lst (bs.map V.ref)) → bs.length = n → bs.Nodup → D ∉ bs → (∀ b ∈ bs, H1 b = none) → (∀ i b, bs[i]? = some b → ∃ o, H b = some o ∧ Ok i o) → Q (.ref D) H) : LcB g tYes te vs σ Q J H1 := by
  intro D nD
  have nP : p ≠ some D := hp.ne nD
  refine ⟨fun i m H => i ≤ n ∧ m = n - i ∧ RX p H1 H ∧ ∃ bs : List Addr, H D = some (.lst (bs.map V.ref)) ∧ bs.length = i ∧ bs.Nodup ∧ D ∉ bs ∧ (∀ b ∈ bs, H1 b = none) ∧ (∀ j b, bs[j]? = some b → ∃ o, H b = some o ∧ Ok j o),
    ⟨n, Nat.zero_le _, rfl, RX.new nD, [], upd_same, rfl, .nil, by simp, by simp, fun j v e => by simp at e⟩, ?_⟩
  rintro i m H ⟨hi, rfl, s1, bs, hD, hl, nd, nDb, fr, hE⟩
  by_cases hlt : i < n
  · refine .inr ⟨hgo i H hlt s1, fun H' => i + 1 ≤ n ∧ RX p H1 H' ∧ ∃ bs : List Addr, H' D = some (.lst (bs.map V.ref)) ∧ bs.length = i + 1 ∧ bs.Nodup ∧ D ∉ bs ∧ (∀ b ∈ bs, H1 b = none) ∧ (∀ j b, bs[j]? = some b → ∃ o, H' b = some o ∧ Ok j o), fun H' h => ⟨n - (i + 1), by omega, h.1, rfl, h.2⟩, fun x H' hy => ?_⟩
    have hpH := hp.to s1
    refine hs i x H H' _ hlt s1 hpH hy fun q H4 o s4 nq e4 ok => ?_
    have hD4 := s4.keep D _ nP hD
    have qD : q ≠ D := (ne_of_none hD nq).symm
    have nq1 : H1 q = none := rx_none s1 hp nq
    have qb : q ∉ bs := fun z => by
      obtain ⟨j, hj, ej⟩ := List.getElem_of_mem z
      obtain ⟨o', e', _⟩ := hE j q (by rw [List.getElem?_eq_getElem hj, ej])
      rw [nq] at e'
      cases e'
    refine ⟨bs.map V.ref, hD4, by rw [List.length_map]; exact Nat.lt_of_lt_of_le (by omega : bs.length < 1001) (by decide), hlt, (s1.trans s4).mut nD hp, bs ++ [q], by rw [upd_same, List.map_append]; rfl, by simp [hl], ?_, ?_, ?_, fun j b e => ?_⟩
    · rw [List.nodup_append]
      exact ⟨nd, by simp, fun a ha b hb => by rw [List.mem_singleton.mp hb]; exact fun z => qb (z ▸ ha)⟩
    · rw [List.mem_append, List.mem_singleton]
      rintro (z | z)
      · exact nDb z
      · exact qD z.symm
    · intro b hb
      rcases List.mem_append.mp hb with hb | hb
      · exact fr b hb
      · rw [List.mem_singleton.mp hb]; exact nq1
    · by_cases hj : j < bs.length
      · rw [List.getElem?_append_left hj] at e
        obtain ⟨o', e1, e2⟩ := hE j b e
        have hb : b ∈ bs := List.mem_of_getElem? e
        have bD : b ≠ D := fun z => nDb (z ▸ hb)
        have bp : p ≠ some b := fun z => by
          have := fr b hb
          obtain ⟨x, y, e9, _⟩ := hp b z
          rw [this] at e9
          cases e9
        exact ⟨o', by rw [upd_ne bD]; exact s4.keep b _ bp e1, e2⟩
      · rw [List.getElem?_append_right (by omega)] at e
        have z : j - bs.length = 0 := by
          by_cases w : j - bs.length = 0
          · exact w
          · rw [List.getElem?_eq_none (by simp; omega)] at e; cases e
        rw [z] at e
        cases e
        have : j = i := by omega
        subst this
        exact ⟨o, by rw [upd_ne qD]; exact e4, ok⟩
  · have e : i = n := by omega
    subst e
    exact .inl ⟨hst H s1, hd D H bs nD s1 hD hl nd nDb fr hE⟩
end Ln
set_option Elab.async false
set_option linter.all false
set_option maxRecDepth 100000
set_option maxHeartbeats 4000000
namespace T81
open PySem PySem.Spec PyProof.Rows L2 Gd Zn Rp Dn Tb Gn En Zs Ct Op Oc Rg Rt Ro Dm Gx
section
variable {P : Program} {w : World} {K : PySem.W.Frag} {mg : Str → Option Value} {base : Heap} {C CL : Addr}
abbrev st_pt : Stmt := top 65
abbrev N_pt : List Str := ["_law_one", "_law_row_here", "_law_line", "_law_entry", "_law_number"]
theorem sc_pt : FnScope N_pt ["_law_one", "_law_row_here"] (defScope st_pt) := ⟨rfl, rfl, rfl, by decide +kernel, rfl, by decide +kernel, by decide +kernel⟩
def sp_pt : Sp := fun vs H Q _ => ∃ (v : V) (t : Bool) (b : Addr) (M : List (List Int)) (xs : List Int) (n : Nat), vs = [v, .ref b] ∧ Mx H v M ∧ LT H t b (xs.map V.int) ∧ n ≤ 3 ∧ Sq n M ∧ xs.length = n ∧ (∀ x ∈ xs, Small x) ∧ ∀ v' H', Same H H' → RowV H' v' (M.map fun r => dot r xs) → Q v' H'
theorem ok_pt {f : Addr} {fd : FuncData} (F : Fun K "_law_point" "_law_point" st_pt f fd) (T : Txt mg) : FnOk P w K mg base CX0 1 f fd ["_law_one", "_law_row_here"] sp_pt := by
  refine F.ok sc_pt (fun vs H Q E h => ?_) (fun cdv A outer s H vs Q E hr h => ?_)
  · obtain ⟨v, t, b, M, xs, n, rfl, _⟩ := h
    rfl
  · obtain ⟨v, t, b, M, xs, n, rfl, hM, hb, h3, sM, lx, smx, q⟩ := h
    refine ⟨_, pss_one (ps_ret (pe_callTy (r := rTup K) c_tup (by rfl) T.tuple PyProof.Rows.boot_tuple (pa_cons (pe_lc (own := [("_law_line", 2)]) (g := gName 2) (tt := tYes)
        (te := tCB (rSum K) (tCons (tLc (iZn K (tCons (tVar 2) (tCons (tVar 1) tNil))) (gTup K 2 (gCons (gName 3) (gCons (gName 4) gNil))) tYes (tOp (rI CMulX fun i j => .int (i * j)) (tVar 3) (tVar 4)) [3, 4]) tNil)) rfl sc_pt.nd (pi_seq (pv 0))
        (blkOk_by (N := N_pt) (sc := defScope st_pt) (by decide +kernel))
        (fun _ _ _ _ _ => pg_name (i := 2) sc_pt.nd rfl (Or.inl rfl) (Or.inr rfl)) (fun _ _ _ _ _ => pts_nil)
        (fun s2 H2 C2 cl2 fp2 => by
            refine pe_callB (r := rSum K) (cr_sum rfl) (by rfl) T.sum boot_sum (pa_cons (pe_lc (own := [("_law_entry", 3), ("_law_number", 4)]) (wi := iZn K (tCons (tVar 2) (tCons (tVar 1) tNil))) (g := gTup K 2 (gCons (gName 3) (gCons (gName 4) gNil))) (tt := tYes)
              (te := tOp (rI CMulX fun i j => .int (i * j)) (tVar 3) (tVar 4)) rfl sc_pt.nd ?q1 ?q2 ?q3 ?q4 ?q5) pa_nil)
            case q1 => exact pi_zipn (by rfl) T.zip (pa_cons (pv 2) (pa_cons (pv 1) pa_nil))
            case q2 => exact blkOk_by (N := N_pt) (by rfl)
            case q3 => exact (fun _ _ _ _ _ => pg_tup rfl (pgs_cons (pg_name (i := 3) sc_pt.nd rfl (Or.inl rfl) (Or.inr rfl)) (pgs_cons (pg_name (i := 4) sc_pt.nd rfl (Or.inl rfl) (Or.inr rfl)) pgs_nil)))
            case q4 => exact (fun _ _ _ _ _ => pts_nil)
            case q5 => exact (fun _ _ _ _ _ => pe_op op_mulX (pv 3) (pv 4)))) pa_nil))), ?_⟩
    obtain ⟨a, vx, rfl, ha, hR⟩ := id hM
    have hvl : vx.length = n := by rw [hR.len]; exact sM.len
    have qx : ∀ H', Same H H' → SqV K H' true a vx := fun H' s => .inl (.inl (s _ _ ha))
    refine r_ret (r_cb (r_cons ?_))
    refine tlc_of (Its true K a) (H1 := H) (fun R hR' => ⟨_, rfl, true, a, vx, rfl, qx H (Same.refl _), hR'⟩) ?_
    refine lc_el (p := none) n (fun i v => ∃ r, M[i]? = some r ∧ v = .int (dot r xs)) has_none (by omega) (fun i H3 hi s3 => its_go (qx H3 s3.same) (List.getElem?_eq_getElem (by omega))) (fun H3 s3 => its_stop (qx H3 s3.same) (by omega)) (fun i x H3 H4 C' hi s3 _ hy hC => ?_) fun Da H3 rs nD s3 hD hrl hE => ?_
    · obtain ⟨rfl, ex⟩ := its_yld hy (qx _ s3.same)
      obtain ⟨r, er, c, ec, hc⟩ := hR.get ex
      subst ec
      have lr := sM.row r (List.mem_of_getElem? er)
      have smr := sM.small r (List.mem_of_getElem? er)
      have hc3 := s3.same _ _ hc
      refine ⟨rfl, ?_⟩
      refine r_cb (r_cons ?_)
      have q1 : ∀ H', Same H4 H' → SqV K H' true c (r.map V.int) := fun H' s => .inl (.inl (s _ _ hc3))
      have q2 : ∀ H', Same H4 H' → SqV K H' t b (xs.map V.int) := fun H' s => (hb.same (s3.same.trans s)).sq
      have sq : ∀ H7, Same H4 H7 → AllSq K H7 [(true, c), (t, b)] := fun H7 s7 z hz => by
        rcases List.mem_cons.mp hz with rfl | hz
        · exact ⟨_, q1 H7 s7⟩
        · rcases List.mem_cons.mp hz with rfl | hz
          · exact ⟨_, q2 H7 s7⟩
          · cases hz
      refine tlc_of (Itn K [(true, c), (t, b)]) (H1 := H4) (fun R hR' => ⟨_, rfl, _, rfl, [(true, c), (t, b)], rfl, Nat.zero_lt_succ _, (by show 2 ≤ 3; decide), sq H4 (Same.refl H4), hR'⟩) ?_
      refine lc_el (p := none) n (fun l v => ∃ x y, r[l]? = some x ∧ xs[l]? = some y ∧ v = .int (x * y)) has_none (by omega) (fun l H7 hl s7 => ?_) (fun H7 s7 => ?_) (fun l x H7 H8 C3 hl s7 _ hy3 hC3 => ?_) fun Dd H7 zs nDd s7 hDd hzl hzE => ?_
      · exact ⟨[.int (r[l]'(by omega)), .int (xs[l]'(by omega))], row2 (q1 H7 s7.same) (by simp [(by omega : l < r.length)]) (q2 H7 s7.same) (by simp [(by omega : l < xs.length)])⟩
      · exact ⟨sq H7 s7.same, (true, c), List.mem_cons_self, _, q1 H7 s7.same, by simp; omega⟩
      · have l1 : l < r.length := by omega
        have l2 : l < xs.length := by omega
        obtain ⟨T2, ws, rfl, nT, rfl, hu⟩ := hy3
        have ez : ws = [.int r[l], .int xs[l]] := (hu _ (row2 (q1 H7 s7.same) (by simp [l1]) (q2 H7 s7.same) (by simp [l2]))).symm
        subst ez
        refine ⟨T2, _, rfl, .inl (.inl upd_same), rfl, _, _, rfl, _, _, rfl, rfl, rfl, ?_⟩
        exact ⟨_, rfl, _, rfl, _, _, rfl, rfl, Wd.mul (smr _ (List.getElem_mem l1)) (smx _ (List.getElem_mem l2)), hC3 _ _ (RX.new nT) ⟨_, _, List.getElem?_eq_getElem l1, List.getElem?_eq_getElem l2, rfl⟩⟩
      · have ez : zs = (r.zip xs).map fun (p : Int × Int) => V.int (p.1 * p.2) := map_of_get (n := 0) _ (by simp [hzl, lr, lx]) fun i v e => by
          obtain ⟨x, y, e1, e2, e3⟩ := hzE i v e
          exact ⟨(x, y), by rw [List.getElem?_zip_eq_some]; exact ⟨e1, e2⟩, e3⟩
        refine ⟨Dd, (r.zip xs).map (fun (p : Int × Int) => p.1 * p.2), rfl, .inl (.inl ?_), hC _ _ s7 ⟨r, er, rfl⟩⟩
        rw [hDd, ez, List.map_map]
        rfl
    · have ey : rs = M.map fun r => V.int (dot r xs) := map_of_get (n := 0) _ (by rw [hrl, sM.len]) hE
      refine ⟨Da, rs, rfl, .inl ⟨.inl (.inl hD), fun l nl => q _ _ (s3.same.trans (same_new nl)) ⟨l, rfl, ?_⟩⟩⟩
      rw [upd_same, ey, List.map_map]
      rfl
abbrev st_stp : Stmt := top 67
abbrev N_stp : List Str := ["_law_size", "_law_i", "_law_j", "_law_many", "_law_rows", "_law_row_here"]
theorem sc_stp : FnScope N_stp ["_law_size", "_law_i", "_law_j", "_law_many"] (defScope st_stp) := ⟨rfl, rfl, rfl, by decide +kernel, rfl, by decide +kernel, by decide +kernel⟩
def stepM (n i j : Nat) (m : Int) : List (List Int) := (unitM n).set i (((unitM n).getD i []).set j m)
def sp_stp : Sp := fun vs H Q _ => ∃ (n i j : Nat) (m : Int), vs = [.int n, .int i, .int j, .int m] ∧ 1 ≤ n ∧ n ≤ 3 ∧ i < n ∧ j < n ∧ ∀ v' H', Same H H' → Mx H' v' (stepM n i j m) → Q v' H'
theorem ok_stp {f : Addr} {fd : FuncData} (F : Fun K "_law_step" "_law_step" st_stp f fd) (T : Txt mg) (D1 : Def P w K mg base "_law_idle" 1 ["_law_size"] sp_unit_rows) : FnOk P w K mg base CX0 2 f fd ["_law_size", "_law_i", "_law_j", "_law_many"] sp_stp := by
  refine F.ok sc_stp (fun vs H Q E h => ?_) (fun cdv A outer s H vs Q E hr h => ?_)
  · obtain ⟨n, i, j, m, rfl, _⟩ := h
    rfl
  · obtain ⟨n, i, j, m, rfl, h1, h3, hi, hj, q⟩ := h
    refine ⟨_, pss_cons (ps_setLc (i := 4) (own := [("_law_row_here", 5)]) (g := gName 5) (tt := tYes) rfl sc_stp.nd rfl rfl (sw_true rfl rfl rfl (by decide +kernel)) (pi_seq (pe_def D1 hr (pa_cons (pv 0) pa_nil)))
        (blkOk_by (N := N_stp) (sc := defScope st_stp) (by decide +kernel)) (fun _ _ _ _ _ => pg_name (i := 5) sc_stp.nd rfl (Or.inl rfl) (Or.inr rfl)) (fun _ _ _ _ _ => pts_nil)
        (fun _ _ _ _ _ => pe_callTy (r := rLst K) c_lst (by rfl) T.list PyProof.Rows.boot_list (pa_cons (pv 5) pa_nil)))
      (pss_cons (ps_asg (pv 3) (pg_sub (pe_ix (r := rIxS2 K) ix_sq (pv 4) (pv 1) (fun _ _ => rfl)) (pv 2) set_list))
      (pss_one (ps_ret (pe_callTy (r := rTup K) c_tup (by rfl) T.tuple PyProof.Rows.boot_tuple (pa_cons (pe_lc (own := [("_law_row_here", 5)]) (g := gName 5) (tt := tYes) rfl sc_stp.nd (pi_seq (pv 4))
        (blkOk_by (N := N_stp) (sc := defScope st_stp) (by decide +kernel)) (fun _ _ _ _ _ => pg_name (i := 5) sc_stp.nd rfl (Or.inl rfl) (Or.inr rfl)) (fun _ _ _ _ _ => pts_nil)
        (fun _ _ _ _ _ => pe_callTy (r := rTup K) c_tup (by rfl) T.tuple PyProof.Rows.boot_tuple (pa_cons (pv 5) pa_nil))) pa_nil))))), ?_⟩
    have lu : (unitM n).length = n := unit_sh.len
    refine r_seq (r_asg (tlc_call (i_seq (a1 ⟨_, rfl, n, rfl, h3, fun v1 H1 s1 m1 => ?_⟩))))
    obtain ⟨a, vs, rfl, ha, hR⟩ := id m1
    have lv : vs.length = n := by rw [hR.len, lu]
    have qa : ∀ H', Same H1 H' → SqV K H' true a vs := fun H' s => .inl (.inl (s _ _ ha))
    refine ⟨true, a, vs, rfl, qa _ (Same.refl _), ?_⟩
    refine Ln.lc_new (p := none) n (fun k o => o = .lst (((unitM n).getD k []).map V.int)) has_none (by omega) (fun k G hk s => its_go (qa G s.same) (List.getElem?_eq_getElem (by omega))) (fun G s => its_stop (qa G s.same) (by omega)) (fun k x G G' C' hk s _ hy hC => ?_) fun D H2 bs nD s2 hD hl nd nDb fr hE => ?_
    · obtain ⟨rfl, ex⟩ := its_yld hy (qa _ s.same)
      obtain ⟨r, er, c, rfl, hc⟩ := hR.get ex
      have eg : (unitM n).getD k [] = r := by rw [List.getD_eq_getElem?_getD, er]; rfl
      exact ⟨rfl, cb1 ⟨_, rfl, c, _, rfl, .inr (.inl (.inl (s.same _ _ hc))), fun l nl => hC l _ _ (RX.new nl) nl upd_same (by rw [eg])⟩⟩
    have hib : i < bs.length := by omega
    have ebi : bs[i]? = some bs[i] := List.getElem?_eq_getElem hib
    obtain ⟨o, ho, eo⟩ := hE i _ ebi
    subst eo
    refine r_next (r_nseq (r_asg ⟨_, rfl, ?_⟩))
    have lrow : ((unitM n).getD i []).length = n := by
      have hi' : i < (unitM n).length := by omega
      rw [List.getD_eq_getElem?_getD, List.getElem?_eq_getElem hi']
      exact unit_sh.row _ (List.getElem_mem hi')
    refine ⟨_, rfl, _, rfl, false, D, _, ((i : Nat) : Int), .ref bs[i], rfl, rfl, SqL.of hD, atI_nat (by rw [List.getElem?_map, ebi]; rfl), _, rfl, bs[i], _, ((j : Nat) : Int), j, rfl, rfl, ho, ?_, ?_⟩
    · rw [List.length_map, lrow]
      unfold ixN
      rw [if_pos (by omega), if_pos (by omega)]
      rfl
    have lb : ∀ k b, bs[k]? = some b → upd H2 bs[i] (.lst ((((unitM n).getD i []).map V.int).set j (.int m))) b = some (.lst (((stepM n i j m).getD k []).map V.int)) := fun k b eb => by
      obtain ⟨o, ho2, eo⟩ := hE k b eb
      subst eo
      have hk : k < bs.length := (List.getElem?_eq_some_iff.mp eb).1
      by_cases z : k = i
      · subst z
        rw [ebi] at eb
        cases eb
        rw [upd_same]
        unfold stepM
        rw [List.getD_eq_getElem?_getD (l := List.set _ _ _), List.getElem?_set_self (by omega), Option.getD_some, List.map_set]
      · have nb : b ≠ bs[i] := fun e => by
          obtain ⟨hk', e2⟩ := List.getElem?_eq_some_iff.mp eb
          exact z ((List.getElem_inj nd).mp (e2.trans e))
        rw [upd_ne nb, ho2]
        unfold stepM
        rw [List.getD_eq_getElem?_getD (l := List.set _ _ _), List.getElem?_set_ne (Ne.symm z), ← List.getD_eq_getElem?_getD]
    have nH1 : ∀ b ∈ bs, H b = none := fun b hb => by
      cases z : H b with
      | none => rfl
      | some o => have := fr b hb; rw [s1 _ _ z] at this; cases this
    have s3 : Same H (upd H2 bs[i] (.lst ((((unitM n).getD i []).map V.int).set j (.int m)))) := same_upd (s1.trans s2.same) (nH1 _ (List.getElem_mem hib))
    have hD3 : upd H2 bs[i] (.lst ((((unitM n).getD i []).map V.int).set j (.int m))) D = some (.lst (bs.map V.ref)) := by
      rw [upd_ne (fun z => nDb (by rw [z]; exact List.getElem_mem hib))]
      exact hD
    generalize upd H2 bs[i] (.lst ((((unitM n).getD i []).map V.int).set j (.int m))) = H3 at lb s3 hD3
    refine r_next (r_nret (r_cb (r_cons (tlc_call ⟨_, rfl, false, D, _, rfl, SqL.of hD3, ?_⟩))))
    have qD : ∀ H', Same H3 H' → SqV K H' false D (bs.map V.ref) := fun H' s => SqL.of (s _ _ hD3)
    have ls : (stepM n i j m).length = n := by unfold stepM; rw [List.length_set, lu]
    refine lc_ks (p := none) n (fun k v G => ∃ r, (stepM n i j m)[k]? = some r ∧ RowV G v r) (fun k v G G' kk h => by obtain ⟨r, e1, e2⟩ := h; exact ⟨r, e1, e2.mono kk⟩) has_none (by omega) (fun k G hk s => its_go (qD G s.same) (List.getElem?_eq_getElem (by rw [List.length_map]; omega))) (fun G s => its_stop (qD G s.same) (by rw [List.length_map]; omega)) (fun k x G G' C' hk s _ hy hC => ?_) fun Da H4 rs nDa s4 hDa hrl hrE => ?_
    · obtain ⟨rfl, ex⟩ := its_yld hy (qD _ s.same)
      rw [List.getElem?_map] at ex
      obtain ⟨b, eb, rfl⟩ := Option.map_eq_some_iff.mp ex
      have er : (stepM n i j m)[k]? = some ((stepM n i j m).getD k []) := by
        rw [List.getD_eq_getElem?_getD, List.getElem?_eq_getElem (by omega)]
        rfl
      exact ⟨rfl, cb1 ⟨_, rfl, b, _, rfl, .inl ⟨SqL.of (s.same _ _ (lb k b eb)), fun l nl => hC _ _ (RX.new nl) ⟨_, er, l, rfl, upd_same⟩⟩⟩⟩
    · refine ⟨Da, rs, rfl, .inl ⟨SqL.of hDa, fun l nl => ?_⟩⟩
      have k : Same H4 (upd H4 l (.tup rs)) := same_new nl
      exact q _ _ (s3.trans (s4.same.trans k)) ⟨l, rs, rfl, upd_same, (rows_of (by rw [hrl, ls]) hrE).mono (KS.of k)⟩
end
end T81
set_option Elab.async false
set_option linter.all false
set_option maxRecDepth 100000
set_option maxHeartbeats 4000000
namespace T81
open PySem PySem.Spec PyProof.Rows L2 Gd Zn Rp Dn Tb Gn En Zs Ct Op Oc Rg Rt Ro Dm Gx
theorem step_cases {n i j : Nat} (h3 : n ≤ 3) (hi : i < n) (hj : j < n) (ne : i ≠ j) : (n = 2 ∧ ((i = 0 ∧ j = 1) ∨ (i = 1 ∧ j = 0))) ∨ (n = 3 ∧ ((i = 0 ∧ (j = 1 ∨ j = 2)) ∨ (i = 1 ∧ (j = 0 ∨ j = 2)) ∨ (i = 2 ∧ (j = 0 ∨ j = 1)))) := by omega
theorem gr_step {n i j : Nat} {m : Int} (h1 : 1 ≤ n) (h3 : n ≤ 3) (hi : i < n) (hj : j < n) (ne : i ≠ j) : Gr n (stepM n i j m) := by
  rcases step_cases h3 hi hj ne with ⟨rfl, ⟨rfl, rfl⟩ | ⟨rfl, rfl⟩⟩ | ⟨rfl, ⟨rfl, rfl | rfl⟩ | ⟨rfl, rfl | rfl⟩ | ⟨rfl, rfl | rfl⟩⟩
  all_goals refine ⟨h1, h3, ⟨rfl, by simp [stepM, unitE2, unitE3]⟩, .inl ?_⟩
  · show detM 2 [[1, m], [0, 1]] = 1
    rw [det2]; omega
  · show detM 2 [[1, 0], [m, 1]] = 1
    rw [det2]; omega
  · show detM 3 [[1, m, 0], [0, 1, 0], [0, 0, 1]] = 1
    simp [detM, cofM, outM, outW, cutAt, List.range_succ, List.getD]
  · show detM 3 [[1, 0, m], [0, 1, 0], [0, 0, 1]] = 1
    simp [detM, cofM, outM, outW, cutAt, List.range_succ, List.getD]
  · show detM 3 [[1, 0, 0], [m, 1, 0], [0, 0, 1]] = 1
    simp [detM, cofM, outM, outW, cutAt, List.range_succ, List.getD]
  · show detM 3 [[1, 0, 0], [0, 1, m], [0, 0, 1]] = 1
    simp [detM, cofM, outM, outW, cutAt, List.range_succ, List.getD]
  · show detM 3 [[1, 0, 0], [0, 1, 0], [m, 0, 1]] = 1
    simp [detM, cofM, outM, outW, cutAt, List.range_succ, List.getD]
  · show detM 3 [[1, 0, 0], [0, 1, 0], [0, m, 1]] = 1
    simp [detM, cofM, outM, outW, cutAt, List.range_succ, List.getD]
theorem mul_step {n i j : Nat} {m : Int} (h3 : n ≤ 3) (hi : i < n) (hj : j < n) (ne : i ≠ j) : mulM n (stepM n i j m) (stepM n i j (-m)) = unitM n := by
  rcases step_cases h3 hi hj ne with ⟨rfl, ⟨rfl, rfl⟩ | ⟨rfl, rfl⟩⟩ | ⟨rfl, ⟨rfl, rfl | rfl⟩ | ⟨rfl, rfl | rfl⟩ | ⟨rfl, rfl | rfl⟩⟩
  · show mulM 2 [[1, m], [0, 1]] [[1, -m], [0, 1]] = _
    rw [mulE2, unitE2]; simp <;> omega
  · show mulM 2 [[1, 0], [m, 1]] [[1, 0], [-m, 1]] = _
    rw [mulE2, unitE2]; simp <;> omega
  · show mulM 3 [[1, m, 0], [0, 1, 0], [0, 0, 1]] [[1, -m, 0], [0, 1, 0], [0, 0, 1]] = _
    rw [mulE3, unitE3]; simp <;> omega
  · show mulM 3 [[1, 0, m], [0, 1, 0], [0, 0, 1]] [[1, 0, -m], [0, 1, 0], [0, 0, 1]] = _
    rw [mulE3, unitE3]; simp <;> omega
  · show mulM 3 [[1, 0, 0], [m, 1, 0], [0, 0, 1]] [[1, 0, 0], [-m, 1, 0], [0, 0, 1]] = _
    rw [mulE3, unitE3]; simp <;> omega
  · show mulM 3 [[1, 0, 0], [0, 1, m], [0, 0, 1]] [[1, 0, 0], [0, 1, -m], [0, 0, 1]] = _
    rw [mulE3, unitE3]; simp <;> omega
  · show mulM 3 [[1, 0, 0], [0, 1, 0], [m, 0, 1]] [[1, 0, 0], [0, 1, 0], [-m, 0, 1]] = _
    rw [mulE3, unitE3]; simp <;> omega
  · show mulM 3 [[1, 0, 0], [0, 1, 0], [0, m, 1]] [[1, 0, 0], [0, 1, 0], [0, -m, 1]] = _
    rw [mulE3, unitE3]; simp <;> omega
theorem step_e {n i j : Nat} {m : Int} (h3 : n ≤ 3) (hi : i < n) (hj : j < n) (hm : m.natAbs ≤ 2) : SqE n 2 (stepM n i j m) := by
  have lu : (unitM n).length = n := unit_sh.len
  have ub : ∀ r ∈ unitM n, ∀ x ∈ r, x.natAbs ≤ 1 := by
    have : n = 1 ∨ n = 2 ∨ n = 3 := by omega
    rcases this with rfl | rfl | rfl
    · rw [unitE1]; decide
    · rw [unitE2]; decide
    · rw [unitE3]; decide
  have eg : (unitM n).getD i [] ∈ unitM n := by
    rw [List.getD_eq_getElem?_getD, List.getElem?_eq_getElem (by omega)]
    exact List.getElem_mem _
  refine ⟨by unfold stepM; rw [List.length_set, lu], fun r hr => ?_, fun r hr x hx => ?_⟩
  · unfold stepM at hr
    rcases List.mem_or_eq_of_mem_set hr with h | rfl
    · exact unit_sh.row r h
    · rw [List.length_set]; exact unit_sh.row _ eg
  · have : x.natAbs ≤ 2 := by
      unfold stepM at hr
      rcases List.mem_or_eq_of_mem_set hr with h | rfl
      · exact Nat.le_trans (ub r h x hx) (by decide)
      · rcases List.mem_or_eq_of_mem_set hx with h | rfl
        · exact Nat.le_trans (ub _ eg x h) (by decide)
        · exact hm
    show x.natAbs < 2 ^ 2
    omega
theorem a4 {sp : Sp} {E : XK} {ta tb tc td : TE} {σ : L2.St} {H : Hp} {Q : VK} (h : ta σ H fun x H1 => tb σ H1 fun y H2 => tc σ H2 fun z H3 => td σ H3 fun u H4 => sp [x, y, z, u] H4 Q E) : tCall sp [] E (tCons ta (tCons tb (tCons tc (tCons td tNil)))) σ H Q := h
theorem mx_rx {p : Addr} {H H' : Hp} {v : V} {M : List (List Int)} (s : RX (some p) H H') (hp : PotOk H p) (h : Mx H v M) : Mx H' v M := h.mono (KS.rx s fun q e => by cases e; exact hp)
section
variable {P : Program} {w : World} {K : PySem.W.Frag} {mg : Str → Option Value} {base : Heap} {C CL : Addr}
abbrev st_tn : Stmt := top 68
abbrev N_tn : List Str := ["_law_pot_here", "_law_size", "_law_made", "_law_back", "_law_turn", "_law_i", "_law_j", "_law_many"]
theorem sc_tn : FnScope N_tn ["_law_pot_here", "_law_size"] (defScope st_tn) := ⟨rfl, rfl, rfl, by decide +kernel, rfl, by decide +kernel, by decide +kernel⟩
def sp_tn : Sp := fun vs H Q _ => ∃ (p : Addr) (n : Nat), vs = [.ref p, .int n] ∧ PotOk H p ∧ 1 ≤ n ∧ n ≤ 3 ∧ ∀ c H' v u (g : GL n), RX (some p) H H' → H' c = some (.tup [v, u]) → Mx H' v g.val → Mx H' u (GL.inv g).val → SqE n 9 g.val → SqE n 9 (GL.inv g).val → Q (.ref c) H'
theorem ok_tn {f : Addr} {fd : FuncData} (F : Fun K "_law_turning" "_law_turning" st_tn f fd) (T : Txt mg) (D1 : Def P w K mg base "_law_idle" 1 ["_law_size"] sp_unit_rows) (D2 : Def P w K mg base "_law_draw" 1 ["_law_pot_here", "_law_size"] sp_draw) (D3 : Def P w K mg base "_law_pick" 2 ["_law_pot_here", "_law_some"] sp_pick) (D4 : Def P w K mg base "_law_by" 1 ["_law_one", "_law_other"] sp_by) (D5 : Def P w K mg base "_law_step" 2 ["_law_size", "_law_i", "_law_j", "_law_many"] sp_stp) : FnOk P w K mg base CX0 3 f fd ["_law_pot_here", "_law_size"] sp_tn := by
  refine F.ok sc_tn (fun vs H Q E h => ?_) (fun cdv A outer s H vs Q E hr h => ?_)
  · obtain ⟨p, n, rfl, _⟩ := h
    rfl
  · obtain ⟨p, n, rfl, hp, h1, h3, q⟩ := h
    refine ⟨_, pss_cons (ps_par (i := 2) (j := 3) rfl sc_tn.nd rfl rfl (by decide) rfl rfl (pa_cons (pe_def D1 hr (pa_cons (pv 1) pa_nil)) (pa_cons (pe_def D1 hr (pa_cons (pv 1) pa_nil)) pa_nil)) (by rfl))
      (pss_cons (ps_for PassesOwn.never rfl (pi_range1 (by rfl) T.range (pa_cons (pe_ifExp (pt_cmpR op_gt (pv 1) pe_int (nomark _)) (pe_def D2 hr (pa_cons (pv 0) (pa_cons pe_int pa_nil))) pe_int) pa_nil)) (pg_name (i := 4) sc_tn.nd rfl (Or.inl rfl))
        (pss_cons (ps_set (i := 5) sc_tn.nd rfl (Or.inl rfl) (pe_def D2 hr (pa_cons (pv 0) (pa_cons (pv 1) pa_nil))))
        (pss_cons (ps_par (i := 6) (j := 7) rfl sc_tn.nd rfl rfl (by decide) rfl rfl (pa_cons (pe_op op_mod (pe_op op_add (pe_op op_add (pv 5) pe_int) (pe_def D2 hr (pa_cons (pv 0) (pa_cons (pe_op op_sub (pv 1) pe_int) pa_nil)))) (pv 1))
            (pa_cons (pe_def D3 hr (pa_cons (pv 0) (pa_cons (pe_lst (pa_cons pe_int (pa_cons (pe_un un_neg pe_int) (pa_cons pe_int pa_nil)))) pa_nil))) pa_nil)) (by rfl))
        (pss_one (ps_par (i := 2) (j := 3) rfl sc_tn.nd rfl rfl (by decide) rfl rfl (pa_cons (pe_def D4 hr (pa_cons (pe_def D5 hr (pa_cons (pv 1) (pa_cons (pv 5) (pa_cons (pv 6) (pa_cons (pv 7) pa_nil))))) (pa_cons (pv 2) pa_nil)))
            (pa_cons (pe_def D4 hr (pa_cons (pv 3) (pa_cons (pe_def D5 hr (pa_cons (pv 1) (pa_cons (pv 5) (pa_cons (pv 6) (pa_cons (pe_un un_neg (pv 7)) pa_nil))))) pa_nil))) pa_nil)) (by rfl))))))
      (pss_one (ps_ret (pe_tup (pa_cons (pv 2) (pa_cons (pv 3) pa_nil)))))), ?_⟩
    have hh : Has (some p) H := fun q e => by cases e; exact hp
    refine r_seq (r_par2 (r_cons (a1 ⟨_, rfl, n, rfl, h3, fun v1 H1 s1 m1 => r_cons (a1 ⟨_, rfl, n, rfl, h3, fun v2 H2 s2 m2 => ⟨_, _, rfl, ?_⟩⟩)⟩)))
    have s02 := s1.trans s2
    have m12 := m1.mono (KS.of s2)
    have hp2 := (RX.of (p := some p) s02).pot p rfl hp
    refine r_next (r_nseq (r_tif (fun v H' => RX (some p) H2 H' ∧ ∃ k : Nat, v = .int k ∧ k ≤ 2 ∧ (0 < k → 2 ≤ n)) (fun v H3 hv => ?_) fun Q' hQ' => r_ifx (r_tt (r_op ⟨_, rfl, _, _, rfl, rfl, _, rfl, ?_⟩))))
    rotate_left
    · by_cases z : (1 : Int) < (n : Int)
      · rw [decide_eq_true z]
        refine iteT (a2 ⟨_, rfl, p, 3, rfl, hp2, by decide, by decide, fun r H3 r0 r3 s3 => hQ' _ _ ⟨s3, r.toNat, congrArg V.int (by omega), by omega, fun _ => by omega⟩⟩)
      · rw [decide_eq_false z]
        exact iteF (hQ' _ _ ⟨RX.refl _, 0, rfl, by decide, fun h => absurd h (by decide)⟩)
    obtain ⟨s3, k, rfl, k2, kn⟩ := hv
    have eu : SqE n 1 (unitM n) := (unit_sqB n).e (by decide)
    refine ⟨(k : Int), rfl, by omega, by omega, ?_⟩
    rw [Int.toNat_natCast]
    have S3 := (RX.of (p := some p) s02).trans s3
    refine for_range (lo := 0) (n := k) (fun i σ H' => ∃ (v u : V) (g : GL n) (x4 x5 x6 x7 : Option V), σ = [some (.ref p), some (.int (n : Nat)), some v, some u, x4, x5, x6, x7] ∧ RX (some p) H H' ∧ Mx H' v g.val ∧ Mx H' u (GL.inv g).val ∧ SqE n (1 + 4 * i) g.val ∧ SqE n (1 + 4 * i) (GL.inv g).val)
      ⟨v1, v2, GL.one h1 h3, _, _, _, _, rfl, S3, mx_rx s3 hp2 m12, by rw [GL.inv_one]; exact mx_rx s3 hp2 m2, eu, by rw [GL.inv_one]; exact eu⟩ (fun i σ G0 hi hP => ?_) (fun σ G0 hP => ?_)
    · obtain ⟨v, u, g, x4, x5, x6, x7, rfl, s, mv, mu, bv, bu⟩ := hP
      have hpG := s.pot p rfl hp
      have n2 := kn (by omega)
      refine r_seq (r_asg (a2 ⟨_, rfl, _, rfl, p, n, rfl, hpG, by omega, by omega, fun r1 Ha r10 r11 sa => ?_⟩))
      obtain ⟨i0, ei0⟩ : ∃ i0 : Nat, r1 = (i0 : Int) := ⟨r1.toNat, by omega⟩
      subst ei0
      have hpa := sa.pot p rfl hpG
      refine r_next (r_nseq (r_par2 (r_cons (r_op (r_op (r_op ⟨_, rfl, _, _, rfl, rfl, a2 ⟨_, rfl, r_op ⟨_, rfl, _, _, rfl, rfl, p, ((n : Int) - 1), rfl, hpa, by omega, by omega, fun r2 Hb r20 r21 sb => ⟨_, _, rfl, rfl, _, rfl, _, _, rfl, rfl, by omega, ?_⟩⟩⟩⟩))))))
      have hpb := sb.pot p rfl hpa
      obtain ⟨j0, ej0⟩ : ∃ j0 : Nat, ((i0 : Int) + 1 + r2) % (n : Int) = (j0 : Int) := ⟨(((i0 : Int) + 1 + r2) % (n : Int)).toNat, by have := Int.emod_nonneg ((i0 : Int) + 1 + r2) (show (n : Int) ≠ 0 by omega); omega⟩
      have hj0 : j0 < n := by have := Int.emod_lt_of_pos ((i0 : Int) + 1 + r2) (show (0 : Int) < n by omega); omega
      have hi0 : i0 < n := by omega
      have ne : i0 ≠ j0 := fun z => by
        subst z
        have h5 := Int.mul_ediv_add_emod ((i0 : Int) + 1 + r2) (n : Int)
        rw [ej0] at h5
        have h6 : (n : Int) * (((i0 : Int) + 1 + r2) / (n : Int)) = 1 + r2 := by omega
        have h7 : 0 < ((i0 : Int) + 1 + r2) / (n : Int) := by
          by_cases z : 0 < ((i0 : Int) + 1 + r2) / (n : Int)
          · exact z
          · have := Int.mul_nonpos_of_nonneg_of_nonpos (show (0 : Int) ≤ n by omega) (show ((i0 : Int) + 1 + r2) / (n : Int) ≤ 0 by omega)
            omega
        have h8 := Int.mul_le_mul_of_nonneg_left (show (1 : Int) ≤ ((i0 : Int) + 1 + r2) / (n : Int) by omega) (show (0 : Int) ≤ n by omega)
        omega
      have ev : (fun i j : Int => V.int (i % j)) ((i0 : Int) + 1 + r2) (n : Int) = V.int (j0 : Int) := congrArg V.int ej0
      rw [ev]
      refine r_cons (a2 ⟨_, rfl, r_lst ?_⟩)
      refine lit_c 1 (lit_n 1 (lit_c 2 lit_nil)) _ _ _ ⟨(by show 3 ≤ sizeLine; decide), fun D nD => ?_⟩
      have sd : Same Hb (upd Hb D (.lst (([1, -1, 2] : List Int).map V.int))) := same_new nD
      have hD : upd Hb D (.lst (([1, -1, 2] : List Int).map V.int)) D = some (.lst (([1, -1, 2] : List Int).map V.int)) := upd_same
      have Dp : D ≠ p := fun z => by subst z; exact hpb.some_ nD
      generalize upd Hb D (.lst (([1, -1, 2] : List Int).map V.int)) = Hb2 at sd hD
      have hpb2 := (RX.of (p := some p) sd).pot p rfl hpb
      refine ⟨p, D, _, rfl, hpb2, hD, Dp, by decide, by decide, fun ix x Hc ex sc => ?_⟩
      rw [List.getElem?_map] at ex
      obtain ⟨m, em, rfl⟩ := Option.map_eq_some_iff.mp ex
      have hm : m.natAbs ≤ 2 := by
        have := List.mem_of_getElem? em
        simp only [List.mem_cons, List.not_mem_nil, or_false] at this
        rcases this with rfl | rfl | rfl <;> decide
      have sGc : RX (some p) G0 Hc := sa.trans (sb.trans ((RX.of sd).trans sc))
      have mv' := mx_rx sGc hpG mv
      have mu' := mx_rx sGc hpG mu
      refine ⟨_, _, rfl, ?_⟩
      have gS := gr_step (m := m) h1 h3 hi0 hj0 ne
      have eS := step_e (m := m) h3 hi0 hj0 hm
      have eS' := step_e (m := -m) h3 hi0 hj0 (by omega)
      have eI : (GL.inv (GL.mk _ gS)).val = stepM n i0 j0 (-m) := congrArg Subtype.val (GL.inv_of_mul (h1 := h1) (h3 := h3) (a := GL.mk _ gS) (b := GL.mk _ (gr_step (m := -m) h1 h3 hi0 hj0 ne)) (Subtype.ext (mul_step h3 hi0 hj0 ne))).symm
      refine r_next (r_nx (r_par2 (r_cons (a2 (a4 ⟨_, rfl, _, rfl, _, rfl, _, rfl, n, i0, j0, m, rfl, h1, h3, hi0, hj0, fun w1 Hd sd2 md => ⟨_, rfl, w1, v, _, g.val, n, rfl, md, mv'.mono (KS.of sd2), h3, eS.sq (by decide), bv.sq (by omega), fun w2 He se me => ?_⟩⟩)))))
      refine r_cons (a2 ⟨_, rfl, a4 ⟨_, rfl, _, rfl, _, rfl, _, rfl, m, rfl, n, i0, j0, -m, rfl, h1, h3, hi0, hj0, fun w3 Hf sf mf => ?_⟩⟩)
      refine ⟨u, w3, _, _, n, rfl, mu'.mono (KS.of (sd2.trans (se.trans sf))), mf, h3, bu.sq (by omega), eS'.sq (by decide), fun w4 Hg sg mg => ⟨_, _, rfl, ?_⟩⟩
      refine ⟨w2, w4, GL.mk _ gS * g, _, _, _, _, rfl, s.trans (sGc.trans (RX.of (sd2.trans (se.trans (sf.trans sg))))), me.mono (KS.of (sf.trans sg)), ?_, ?_, ?_⟩
      · rw [GL.inv_mul_rev, GL.val_mul, eI]
        exact mg
      · exact (eS.mul bv h1 h3).mono (by omega)
      · rw [GL.inv_mul_rev, GL.val_mul, eI]
        exact (bu.mul eS' h1 h3).mono (by omega)
    · obtain ⟨v, u, g, x4, x5, x6, x7, rfl, s, mv, mu, bv, bu⟩ := hP
      refine r_nret (r_tup ⟨_, rfl, _, rfl, (by show 2 ≤ sizeLine; decide), fun c nc => ?_⟩)
      have sn : Same G0 (upd G0 c (.tup [v, u])) := same_new nc
      exact q c _ v u g (s.trans (RX.of sn)) upd_same (mv.mono (KS.of sn)) (mu.mono (KS.of sn)) (bv.mono (by omega)) (bu.mono (by omega))
end
end T81
set_option Elab.async false
set_option linter.all false
set_option maxRecDepth 100000
set_option maxHeartbeats 4000000
namespace T81
open PySem PySem.Spec PyProof.Rows L2 Gd Zn Rp Dn Tb Gn En Zs Ct Op Oc Rg Rt Ro Dm Gx
def RowsT (t : TA) (M : List (List Int)) : Prop := ∀ (σ : L2.St) (H : Hp) (Q : List V → Hp → Prop), (∀ vs H', Same H H' → RowsV H' vs M → Q vs H') → t σ H Q
theorem rowsN : RowsT tNil [] := fun σ H Q q => q [] H (Same.refl _) .nil
theorem rowsC {t : TE} {ts : TA} {r : List Int} {M : List (List Int)} (h : RowT t r) (k : RowsT ts M) : RowsT (tCons t ts) (r :: M) := fun σ H Q q =>
  h σ H _ fun v H1 s1 m1 => k σ H1 _ fun vs H2 s2 ml => q (v :: vs) H2 (s1.trans s2) (.cons (RowV.mono (KS.of s2) m1) ml)
theorem mxT {t : TA} {M : List (List Int)} (h : RowsT t M) (l : M.length ≤ 3 := by decide) : MxT (tTup t) M := fun σ H Q q =>
  r_tup (h σ H _ fun vs H1 s1 ml => ⟨by rw [ml.len]; exact Nat.le_trans l (by decide), fun D nD => q (.ref D) _ (s1.trans (same_new nD)) ⟨D, vs, rfl, upd_same, ml.mono (KS.of (same_new nD))⟩⟩)
theorem free_of {H H' : Hp} {c : Addr} (s : Same H H') (n : H' c = none) : H c = none := by
  cases z : H c with
  | none => rfl
  | some o => rw [s _ _ z] at n; cases n
/-- lists of lists of matrices -/
structure MLL (H : Hp) (vs : List V) (Ls : List (List (List (List Int)))) : Prop where
  len : vs.length = Ls.length
  get : ∀ (i : Nat) (v : V), vs[i]? = some v → ∃ (D : Addr) (xs : List V) (L : List (List (List Int))), Ls[i]? = some L ∧ v = .ref D ∧ H D = some (.lst xs) ∧ MxL H xs L
theorem MLL.same {H H' : Hp} {vs : List V} {Ls : List (List (List (List Int)))} (h : MLL H vs Ls) (s : Same H H') : MLL H' vs Ls := ⟨h.len, fun i v e => by
  obtain ⟨D, xs, L, a, b, c, d⟩ := h.get i v e
  exact ⟨D, xs, L, a, b, s _ _ c, d.same s⟩⟩
def VsT (σ : L2.St) (H0 : Hp) (t : TA) (L : List (List (List Int))) : Prop := ∀ H, Same H0 H → ∀ Q : List V → Hp → Prop, (∀ vs H', Same H H' → MxL H' vs L → Q vs H') → t σ H Q
def LlT (σ : L2.St) (H0 : Hp) (t : TA) (Ls : List (List (List (List Int)))) : Prop := ∀ H, Same H0 H → ∀ Q : List V → Hp → Prop, (∀ vs H', Same H H' → MLL H' vs Ls → Q vs H') → t σ H Q
section
variable {σ : L2.St} {H0 : Hp} {t : TA} {D : Ends}
theorem vsN : VsT σ H0 tNil [] := fun H s Q q => q [] H (Same.refl _) (MxL.nil _)
theorem vsL {te : TE} {M : List (List Int)} {L : List (List (List Int))} (h : MxT te M) (k : VsT σ H0 t L) : VsT σ H0 (tCons te t) (M :: L) := fun H s Q q =>
  h σ H _ fun v H1 s1 m1 => k H1 (s.trans s1) _ fun vs H2 s2 ml => q (v :: vs) H2 (s1.trans s2) ((MxL.one (m1.mono (KS.of s2))).app ml)
theorem vsV {i : Nat} {v : V} {M : List (List Int)} {L : List (List (List Int))} (e : σ[i]? = some (some v)) (m : Mx H0 v M) (k : VsT σ H0 t L) : VsT σ H0 (tCons (tVar i) t) (M :: L) := fun H s Q q =>
  ⟨v, e, k H s _ fun vs H2 s2 ml => q (v :: vs) H2 s2 ((MxL.one (m.mono (KS.of (s.trans s2)))).app ml)⟩
theorem llN : LlT σ H0 tNil [] := fun H s Q q => q [] H (Same.refl _) ⟨rfl, fun i v e => by simp at e⟩
theorem llC {ta : TA} {L : List (List (List Int))} {Ls : List (List (List (List Int)))} (h : VsT σ H0 ta L) (l : L.length ≤ 4) (k : LlT σ H0 t Ls) : LlT σ H0 (tCons (tLst ta) t) (L :: Ls) := fun H s Q q =>
  h H s _ fun xs H1 s1 ml => ⟨by rw [ml.len]; exact Nat.le_trans l (by decide), fun c nc => k _ (s.trans (s1.trans (same_new nc))) _ fun vs H2 s2 mll => q (.ref c :: vs) H2 (s1.trans ((same_new nc).trans s2)) ⟨by rw [List.length_cons, List.length_cons, mll.len], fun i v e => by
    cases i with
    | zero => cases e; exact ⟨c, xs, L, rfl, rfl, s2 _ _ upd_same, ml.same ((same_new nc).trans s2)⟩
    | succ i => exact mll.get i v e⟩⟩
theorem mx3 {H : Hp} {vs : List V} {A B C : List (List Int)} (h : MxL H vs [A, B, C]) : ∃ u v w, vs = [u, v, w] ∧ Mx H u A ∧ Mx H v B ∧ Mx H w C := by
  match vs, h with
  | [u, v, w], h => exact ⟨u, v, w, rfl, h.tail.1, h.tail.2.tail.1, h.tail.2.tail.2.tail.1⟩
  | [], h => have := h.len; simp at this
  | [_], h => have := h.len; simp at this
  | [_, _], h => have := h.len; simp at this
  | _ :: _ :: _ :: _ :: _, h => have := h.len; simp at this
theorem mx4 {H : Hp} {vs : List V} {A B C E : List (List Int)} (h : MxL H vs [A, B, C, E]) : ∃ u v w x, vs = [u, v, w, x] ∧ Mx H u A ∧ Mx H v B ∧ Mx H w C ∧ Mx H x E := by
  match vs, h with
  | u :: ws, h =>
    obtain ⟨v, w, x, rfl, a, b, c⟩ := mx3 h.tail.2
    exact ⟨u, v, w, x, rfl, h.tail.1, a, b, c⟩
  | [], h => have := h.len; simp at this
theorem asg3T {K : PySem.W.Frag} {i j l : Nat} {A B C : List (List Int)} {H : Hp} (h : MxsT t [A, B, C]) (k : ∀ u v w H', Same H H' → Mx H' u A → Mx H' v B → Mx H' w C → D.nx (((σ.set i (some u)).set j (some v)).set l (some w)) H') : tAsg (tTup t) (gTup K 3 (gCons (gName i) (gCons (gName j) (gCons (gName l) gNil)))) D σ H :=
  r_asg (r_tup (h σ H _ fun vs H' s ml => by
    obtain ⟨u, v, w, rfl, a, b, c⟩ := mx3 ml
    refine ⟨(by show 3 ≤ sizeLine; decide), fun tp ntp => ⟨tp, _, rfl, .inl (.inl upd_same), rfl, _, _, rfl, _, _, rfl, _, _, rfl, rfl, ?_⟩⟩
    have sn : Same H' (upd H' tp (.tup [u, v, w])) := same_new ntp
    exact k u v w _ (s.trans sn) (a.mono (KS.of sn)) (b.mono (KS.of sn)) (c.mono (KS.of sn))))
theorem asg4T {K : PySem.W.Frag} {i j l o : Nat} {A B C E : List (List Int)} {H : Hp} (h : MxsT t [A, B, C, E]) (k : ∀ u v w x H', Same H H' → Mx H' u A → Mx H' v B → Mx H' w C → Mx H' x E → D.nx ((((σ.set i (some u)).set j (some v)).set l (some w)).set o (some x)) H') : tAsg (tTup t) (gTup K 4 (gCons (gName i) (gCons (gName j) (gCons (gName l) (gCons (gName o) gNil))))) D σ H :=
  r_asg (r_tup (h σ H _ fun vs H' s ml => by
    obtain ⟨u, v, w, x, rfl, a, b, c, d⟩ := mx4 ml
    refine ⟨(by show 4 ≤ sizeLine; decide), fun tp ntp => ⟨tp, _, rfl, .inl (.inl upd_same), rfl, _, _, rfl, _, _, rfl, _, _, rfl, _, _, rfl, rfl, ?_⟩⟩
    have sn : Same H' (upd H' tp (.tup [u, v, w, x])) := same_new ntp
    exact k u v w x _ (s.trans sn) (a.mono (KS.of sn)) (b.mono (KS.of sn)) (c.mono (KS.of sn)) (d.mono (KS.of sn))))
end
section
variable {P : Program} {w : World} {K : PySem.W.Frag} {mg : Str → Option Value} {base : Heap} {C CL : Addr}
abbrev st_kn : Stmt := top 69
abbrev N_kn : List Str := ["_law_size", "_law_six", "_law_three", "_law_four", "_law_swap", "_law_flip", "_law_back", "_law_half", "_law_ring", "_law_less"]
theorem sc_kn : FnScope N_kn ["_law_size"] (defScope st_kn) := ⟨rfl, rfl, rfl, by decide +kernel, rfl, by decide +kernel, by decide +kernel⟩
def KN : Nat → List (List (List (List Int)))
  | 1 => [[[[1]]], [[[-1]]], [[[-1]], [[1]]]]
  | 2 => [[[[1, 0], [0, 1]]], [[[-1, 0], [0, -1]]], [[[0, -1], [1, -1]]], [[[0, -1], [1, 0]]], [[[0, -1], [1, 1]]], [[[1, 0], [0, -1]]], [[[0, 1], [1, 0]]], [[[1, 0], [0, -1]], [[-1, 0], [0, -1]]], [[[0, 1], [1, 0]], [[-1, 0], [0, -1]]], [[[0, -1], [1, -1]], [[0, 1], [1, 0]]], [[[0, -1], [1, -1]], [[0, -1], [-1, 0]]], [[[0, -1], [1, 0]], [[1, 0], [0, -1]]], [[[0, -1], [1, 1]], [[0, 1], [1, 0]]]]
  | 3 => [[[[1, 0, 0], [0, 1, 0], [0, 0, 1]]], [[[-1, 0, 0], [0, -1, 0], [0, 0, -1]]], [[[-1, 0, 0], [0, -1, 0], [0, 0, 1]]], [[[1, 0, 0], [0, 1, 0], [0, 0, -1]]], [[[-1, 0, 0], [0, -1, 0], [0, 0, 1]], [[1, 0, 0], [0, 1, 0], [0, 0, -1]]], [[[0, 0, 1], [1, 0, 0], [0, 1, 0]]], [[[0, 0, 1], [1, 0, 0], [0, 1, 0]], [[-1, 0, 0], [0, -1, 0], [0, 0, 1]]], [[[0, 0, 1], [1, 0, 0], [0, 1, 0]], [[-1, 0, 0], [0, -1, 0], [0, 0, -1]]], [[[0, 0, 1], [1, 0, 0], [0, 1, 0]], [[0, 1, 0], [1, 0, 0], [0, 0, 1]]], [[[0, -1, 0], [1, 0, 0], [0, 0, 1]]], [[[0, -1, 0], [1, 0, 0], [0, 0, 1]], [[1, 0, 0], [0, 1, 0], [0, 0, -1]]], [[[0, -1, 0], [1, 1, 0], [0, 0, 1]]], [[[0, -1, 0], [1, 1, 0], [0, 0, 1]], [[1, 0, 0], [0, 1, 0], [0, 0, -1]]], [[[0, -1, 0], [1, 1, 0], [0, 0, 1]], [[0, 1, 0], [1, 0, 0], [0, 0, 1]]], [[[0, -1, 0], [1, 0, 0], [0, 0, 1]], [[0, 1, 0], [1, 0, 0], [0, 0, 1]]], [[[0, 0, 1], [1, 0, 0], [0, 1, 0]], [[0, -1, 0], [1, 0, 0], [0, 0, 1]]], [[[0, 0, 1], [1, 0, 0], [0, 1, 0]], [[-1, 0, 0], [0, -1, 0], [0, 0, 1]], [[-1, 0, 0], [0, -1, 0], [0, 0, -1]]]]
  | _ => []
def sp_kn : Sp := fun vs H Q _ => ∃ n : Nat, vs = [.int n] ∧ 1 ≤ n ∧ n ≤ 3 ∧ ∀ c H' vs, Same H H' → H c = none → H' c = some (.lst vs) → MLL H' vs (KN n) → Q (.ref c) H'
theorem ok_kn {f : Addr} {fd : FuncData} (F : Fun K "_law_known" "_law_known" st_kn f fd) : FnOk P w K mg base CX0 1 f fd ["_law_size"] sp_kn := by
  refine F.ok sc_kn (fun vs H Q E h => ?_) (fun cdv A outer s H vs Q E hr h => ?_)
  · obtain ⟨n, rfl, _⟩ := h
    rfl
  · obtain ⟨n, rfl, h1, h3, q⟩ := h
    refine ⟨_, (pss_cons (ps_if (pt_cmpR op_eq (pv 0) pe_int (nomark _))
        (pss_one (ps_ret (pe_lst (pa_cons (pe_lst (pa_cons (pe_tup (pa_cons (pe_tup (pa_cons pe_int pa_nil)) pa_nil)) pa_nil)) (pa_cons (pe_lst (pa_cons (pe_tup (pa_cons (pe_tup (pa_cons (pe_un un_neg pe_int) pa_nil)) pa_nil)) pa_nil)) (pa_cons (pe_lst (pa_cons (pe_tup (pa_cons (pe_tup (pa_cons (pe_un un_neg pe_int) pa_nil)) pa_nil)) (pa_cons (pe_tup (pa_cons (pe_tup (pa_cons pe_int pa_nil)) pa_nil)) pa_nil))) pa_nil)))))) pss_nil)
      (pss_cons (ps_if (pt_cmpR op_eq (pv 0) pe_int (nomark _))
        (pss_cons (ps_asg (pe_tup (pa_cons (pe_tup (pa_cons (pe_tup (pa_cons pe_int (pa_cons (pe_un un_neg pe_int) pa_nil))) (pa_cons (pe_tup (pa_cons pe_int (pa_cons pe_int pa_nil))) pa_nil))) (pa_cons (pe_tup (pa_cons (pe_tup (pa_cons pe_int (pa_cons (pe_un un_neg pe_int) pa_nil))) (pa_cons (pe_tup (pa_cons pe_int (pa_cons (pe_un un_neg pe_int) pa_nil))) pa_nil))) (pa_cons (pe_tup (pa_cons (pe_tup (pa_cons pe_int (pa_cons (pe_un un_neg pe_int) pa_nil))) (pa_cons (pe_tup (pa_cons pe_int (pa_cons pe_int pa_nil))) pa_nil))) pa_nil)))) (pg_tup rfl (pgs_cons (pg_name (i := 1) sc_kn.nd rfl (Or.inl rfl)) (pgs_cons (pg_name (i := 2) sc_kn.nd rfl (Or.inl rfl)) (pgs_cons (pg_name (i := 3) sc_kn.nd rfl (Or.inl rfl)) pgs_nil)))))
        (pss_cons (ps_asg (pe_tup (pa_cons (pe_tup (pa_cons (pe_tup (pa_cons pe_int (pa_cons pe_int pa_nil))) (pa_cons (pe_tup (pa_cons pe_int (pa_cons pe_int pa_nil))) pa_nil))) (pa_cons (pe_tup (pa_cons (pe_tup (pa_cons pe_int (pa_cons pe_int pa_nil))) (pa_cons (pe_tup (pa_cons pe_int (pa_cons (pe_un un_neg pe_int) pa_nil))) pa_nil))) (pa_cons (pe_tup (pa_cons (pe_tup (pa_cons pe_int (pa_cons (pe_un un_neg pe_int) pa_nil))) (pa_cons (pe_tup (pa_cons (pe_un un_neg pe_int) (pa_cons pe_int pa_nil))) pa_nil))) (pa_cons (pe_tup (pa_cons (pe_tup (pa_cons (pe_un un_neg pe_int) (pa_cons pe_int pa_nil))) (pa_cons (pe_tup (pa_cons pe_int (pa_cons (pe_un un_neg pe_int) pa_nil))) pa_nil))) pa_nil))))) (pg_tup rfl (pgs_cons (pg_name (i := 4) sc_kn.nd rfl (Or.inl rfl)) (pgs_cons (pg_name (i := 5) sc_kn.nd rfl (Or.inl rfl)) (pgs_cons (pg_name (i := 6) sc_kn.nd rfl (Or.inl rfl)) (pgs_cons (pg_name (i := 7) sc_kn.nd rfl (Or.inl rfl)) pgs_nil))))))
        (pss_one (ps_ret (pe_lst (pa_cons (pe_lst (pa_cons (pe_tup (pa_cons (pe_tup (pa_cons pe_int (pa_cons pe_int pa_nil))) (pa_cons (pe_tup (pa_cons pe_int (pa_cons pe_int pa_nil))) pa_nil))) pa_nil)) (pa_cons (pe_lst (pa_cons (pv 7) pa_nil)) (pa_cons (pe_lst (pa_cons (pv 2) pa_nil)) (pa_cons (pe_lst (pa_cons (pv 3) pa_nil)) (pa_cons (pe_lst (pa_cons (pv 1) pa_nil)) (pa_cons (pe_lst (pa_cons (pv 5) pa_nil)) (pa_cons (pe_lst (pa_cons (pv 4) pa_nil)) (pa_cons (pe_lst (pa_cons (pv 5) (pa_cons (pv 7) pa_nil))) (pa_cons (pe_lst (pa_cons (pv 4) (pa_cons (pv 7) pa_nil))) (pa_cons (pe_lst (pa_cons (pv 2) (pa_cons (pv 4) pa_nil))) (pa_cons (pe_lst (pa_cons (pv 2) (pa_cons (pv 6) pa_nil))) (pa_cons (pe_lst (pa_cons (pv 3) (pa_cons (pv 5) pa_nil))) (pa_cons (pe_lst (pa_cons (pv 1) (pa_cons (pv 4) pa_nil))) pa_nil)))))))))))))))))) pss_nil)
      (pss_cons (ps_asg (pe_tup (pa_cons (pe_tup (pa_cons (pe_tup (pa_cons pe_int (pa_cons pe_int (pa_cons pe_int pa_nil)))) (pa_cons (pe_tup (pa_cons pe_int (pa_cons pe_int (pa_cons pe_int pa_nil)))) (pa_cons (pe_tup (pa_cons pe_int (pa_cons pe_int (pa_cons pe_int pa_nil)))) pa_nil)))) (pa_cons (pe_tup (pa_cons (pe_tup (pa_cons (pe_un un_neg pe_int) (pa_cons pe_int (pa_cons pe_int pa_nil)))) (pa_cons (pe_tup (pa_cons pe_int (pa_cons (pe_un un_neg pe_int) (pa_cons pe_int pa_nil)))) (pa_cons (pe_tup (pa_cons pe_int (pa_cons pe_int (pa_cons pe_int pa_nil)))) pa_nil)))) (pa_cons (pe_tup (pa_cons (pe_tup (pa_cons pe_int (pa_cons pe_int (pa_cons pe_int pa_nil)))) (pa_cons (pe_tup (pa_cons pe_int (pa_cons pe_int (pa_cons pe_int pa_nil)))) (pa_cons (pe_tup (pa_cons pe_int (pa_cons pe_int (pa_cons (pe_un un_neg pe_int) pa_nil)))) pa_nil)))) pa_nil)))) (pg_tup rfl (pgs_cons (pg_name (i := 8) sc_kn.nd rfl (Or.inl rfl)) (pgs_cons (pg_name (i := 7) sc_kn.nd rfl (Or.inl rfl)) (pgs_cons (pg_name (i := 5) sc_kn.nd rfl (Or.inl rfl)) pgs_nil)))))
        (pss_cons (ps_asg (pe_tup (pa_cons (pe_tup (pa_cons (pe_tup (pa_cons pe_int (pa_cons (pe_un un_neg pe_int) (pa_cons pe_int pa_nil)))) (pa_cons (pe_tup (pa_cons pe_int (pa_cons pe_int (pa_cons pe_int pa_nil)))) (pa_cons (pe_tup (pa_cons pe_int (pa_cons pe_int (pa_cons pe_int pa_nil)))) pa_nil)))) (pa_cons (pe_tup (pa_cons (pe_tup (pa_cons pe_int (pa_cons pe_int (pa_cons pe_int pa_nil)))) (pa_cons (pe_tup (pa_cons pe_int (pa_cons pe_int (pa_cons pe_int pa_nil)))) (pa_cons (pe_tup (pa_cons pe_int (pa_cons pe_int (pa_cons pe_int pa_nil)))) pa_nil)))) (pa_cons (pe_tup (pa_cons (pe_tup (pa_cons (pe_un un_neg pe_int) (pa_cons pe_int (pa_cons pe_int pa_nil)))) (pa_cons (pe_tup (pa_cons pe_int (pa_cons (pe_un un_neg pe_int) (pa_cons pe_int pa_nil)))) (pa_cons (pe_tup (pa_cons pe_int (pa_cons pe_int (pa_cons (pe_un un_neg pe_int) pa_nil)))) pa_nil)))) pa_nil)))) (pg_tup rfl (pgs_cons (pg_name (i := 3) sc_kn.nd rfl (Or.inl rfl)) (pgs_cons (pg_name (i := 4) sc_kn.nd rfl (Or.inl rfl)) (pgs_cons (pg_name (i := 9) sc_kn.nd rfl (Or.inl rfl)) pgs_nil)))))
        (pss_cons (ps_set (i := 1) sc_kn.nd rfl (Or.inl rfl) (pe_tup (pa_cons (pe_tup (pa_cons pe_int (pa_cons (pe_un un_neg pe_int) (pa_cons pe_int pa_nil)))) (pa_cons (pe_tup (pa_cons pe_int (pa_cons pe_int (pa_cons pe_int pa_nil)))) (pa_cons (pe_tup (pa_cons pe_int (pa_cons pe_int (pa_cons pe_int pa_nil)))) pa_nil)))))
        (pss_one (ps_ret (pe_lst (pa_cons (pe_lst (pa_cons (pe_tup (pa_cons (pe_tup (pa_cons pe_int (pa_cons pe_int (pa_cons pe_int pa_nil)))) (pa_cons (pe_tup (pa_cons pe_int (pa_cons pe_int (pa_cons pe_int pa_nil)))) (pa_cons (pe_tup (pa_cons pe_int (pa_cons pe_int (pa_cons pe_int pa_nil)))) pa_nil)))) pa_nil)) (pa_cons (pe_lst (pa_cons (pv 9) pa_nil)) (pa_cons (pe_lst (pa_cons (pv 7) pa_nil)) (pa_cons (pe_lst (pa_cons (pv 5) pa_nil)) (pa_cons (pe_lst (pa_cons (pv 7) (pa_cons (pv 5) pa_nil))) (pa_cons (pe_lst (pa_cons (pv 8) pa_nil)) (pa_cons (pe_lst (pa_cons (pv 8) (pa_cons (pv 7) pa_nil))) (pa_cons (pe_lst (pa_cons (pv 8) (pa_cons (pv 9) pa_nil))) (pa_cons (pe_lst (pa_cons (pv 8) (pa_cons (pv 4) pa_nil))) (pa_cons (pe_lst (pa_cons (pv 3) pa_nil)) (pa_cons (pe_lst (pa_cons (pv 3) (pa_cons (pv 5) pa_nil))) (pa_cons (pe_lst (pa_cons (pv 1) pa_nil)) (pa_cons (pe_lst (pa_cons (pv 1) (pa_cons (pv 5) pa_nil))) (pa_cons (pe_lst (pa_cons (pv 1) (pa_cons (pv 4) pa_nil))) (pa_cons (pe_lst (pa_cons (pv 3) (pa_cons (pv 4) pa_nil))) (pa_cons (pe_lst (pa_cons (pv 8) (pa_cons (pv 3) pa_nil))) (pa_cons (pe_lst (pa_cons (pv 8) (pa_cons (pv 7) (pa_cons (pv 9) pa_nil)))) pa_nil))))))))))))))))))))))))), ?_⟩
    have : n = 1 ∨ n = 2 ∨ n = 3 := by omega
    rcases this with rfl | rfl | rfl
    · refine r_seq (r_if (r_tt (r_op ⟨_, rfl, rfl, _, rfl, ?_⟩)))
      refine ifT (decide_eq_true rfl) ?_
      refine r_ret (r_lst ((llC (vsL (mxT (rowsC (rowT (lit_c 1 lit_nil)) rowsN)) vsN) (by decide) (llC (vsL (mxT (rowsC (rowT (lit_n 1 lit_nil)) rowsN)) vsN) (by decide) (llC (vsL (mxT (rowsC (rowT (lit_n 1 lit_nil)) rowsN)) (vsL (mxT (rowsC (rowT (lit_c 1 lit_nil)) rowsN)) vsN)) (by decide) llN))) _ (Same.refl _) _ fun vs H9 s9 ml => ⟨?_, fun c nc => ?_⟩))
      · rw [ml.len]; exact Nat.le_trans (by decide : _ ≤ 20) (by decide)
      · exact q c _ vs ((s9).trans (same_new nc)) (free_of (s9) nc) upd_same (ml.same (same_new nc))
    · refine r_seq (r_if (r_tt (r_op ⟨_, rfl, rfl, _, rfl, ?_⟩)))
      refine ifF (decide_eq_false (by decide)) ?_
      refine r_next (r_nseq (r_if (r_tt (r_op ⟨_, rfl, rfl, _, rfl, ?_⟩))))
      refine ifT (decide_eq_true rfl) ?_
      refine r_seq (asg3T (mxsC (mxT (rowsC (rowT (lit_c 0 (lit_n 1 lit_nil))) (rowsC (rowT (lit_c 1 (lit_c 1 lit_nil))) rowsN))) (mxsC (mxT (rowsC (rowT (lit_c 0 (lit_n 1 lit_nil))) (rowsC (rowT (lit_c 1 (lit_n 1 lit_nil))) rowsN))) (mxsC (mxT (rowsC (rowT (lit_c 0 (lit_n 1 lit_nil))) (rowsC (rowT (lit_c 1 (lit_c 0 lit_nil))) rowsN))) mxsN))) fun v__law_six v__law_three v__law_four H1 s1 m__law_six m__law_three m__law_four => ?_)
      refine r_next (r_nseq (asg4T (mxsC (mxT (rowsC (rowT (lit_c 0 (lit_c 1 lit_nil))) (rowsC (rowT (lit_c 1 (lit_c 0 lit_nil))) rowsN))) (mxsC (mxT (rowsC (rowT (lit_c 1 (lit_c 0 lit_nil))) (rowsC (rowT (lit_c 0 (lit_n 1 lit_nil))) rowsN))) (mxsC (mxT (rowsC (rowT (lit_c 0 (lit_n 1 lit_nil))) (rowsC (rowT (lit_n 1 (lit_c 0 lit_nil))) rowsN))) (mxsC (mxT (rowsC (rowT (lit_n 1 (lit_c 0 lit_nil))) (rowsC (rowT (lit_c 0 (lit_n 1 lit_nil))) rowsN))) mxsN)))) fun v__law_swap v__law_flip v__law_back v__law_half H2 s2 m__law_swap m__law_flip m__law_back m__law_half => ?_))
      replace m__law_six := m__law_six.mono (KS.of s2)
      replace m__law_three := m__law_three.mono (KS.of s2)
      replace m__law_four := m__law_four.mono (KS.of s2)
      refine r_next (r_nret (r_lst ((llC (vsL (mxT (rowsC (rowT (lit_c 1 (lit_c 0 lit_nil))) (rowsC (rowT (lit_c 0 (lit_c 1 lit_nil))) rowsN))) vsN) (by decide) (llC (vsV rfl (m__law_half) vsN) (by decide) (llC (vsV rfl (m__law_three) vsN) (by decide) (llC (vsV rfl (m__law_four) vsN) (by decide) (llC (vsV rfl (m__law_six) vsN) (by decide) (llC (vsV rfl (m__law_flip) vsN) (by decide) (llC (vsV rfl (m__law_swap) vsN) (by decide) (llC (vsV rfl (m__law_flip) (vsV rfl (m__law_half) vsN)) (by decide) (llC (vsV rfl (m__law_swap) (vsV rfl (m__law_half) vsN)) (by decide) (llC (vsV rfl (m__law_three) (vsV rfl (m__law_swap) vsN)) (by decide) (llC (vsV rfl (m__law_three) (vsV rfl (m__law_back) vsN)) (by decide) (llC (vsV rfl (m__law_four) (vsV rfl (m__law_flip) vsN)) (by decide) (llC (vsV rfl (m__law_six) (vsV rfl (m__law_swap) vsN)) (by decide) llN))))))))))))) _ (Same.refl _) _ fun vs H9 s9 ml => ⟨?_, fun c nc => ?_⟩)))
      · rw [ml.len]; exact Nat.le_trans (by decide : _ ≤ 20) (by decide)
      · exact q c _ vs ((s1.trans (s2.trans (s9))).trans (same_new nc)) (free_of (s1.trans (s2.trans (s9))) nc) upd_same (ml.same (same_new nc))
    · refine r_seq (r_if (r_tt (r_op ⟨_, rfl, rfl, _, rfl, ?_⟩)))
      refine ifF (decide_eq_false (by decide)) ?_
      refine r_next (r_nseq (r_if (r_tt (r_op ⟨_, rfl, rfl, _, rfl, ?_⟩))))
      refine ifF (decide_eq_false (by decide)) ?_
      refine r_next (r_nseq (asg3T (mxsC (mxT (rowsC (rowT (lit_c 0 (lit_c 0 (lit_c 1 lit_nil)))) (rowsC (rowT (lit_c 1 (lit_c 0 (lit_c 0 lit_nil)))) (rowsC (rowT (lit_c 0 (lit_c 1 (lit_c 0 lit_nil)))) rowsN)))) (mxsC (mxT (rowsC (rowT (lit_n 1 (lit_c 0 (lit_c 0 lit_nil)))) (rowsC (rowT (lit_c 0 (lit_n 1 (lit_c 0 lit_nil)))) (rowsC (rowT (lit_c 0 (lit_c 0 (lit_c 1 lit_nil)))) rowsN)))) (mxsC (mxT (rowsC (rowT (lit_c 1 (lit_c 0 (lit_c 0 lit_nil)))) (rowsC (rowT (lit_c 0 (lit_c 1 (lit_c 0 lit_nil)))) (rowsC (rowT (lit_c 0 (lit_c 0 (lit_n 1 lit_nil)))) rowsN)))) mxsN))) fun v__law_ring v__law_half v__law_flip H1 s1 m__law_ring m__law_half m__law_flip => ?_))
      refine r_next (r_nseq (asg3T (mxsC (mxT (rowsC (rowT (lit_c 0 (lit_n 1 (lit_c 0 lit_nil)))) (rowsC (rowT (lit_c 1 (lit_c 0 (lit_c 0 lit_nil)))) (rowsC (rowT (lit_c 0 (lit_c 0 (lit_c 1 lit_nil)))) rowsN)))) (mxsC (mxT (rowsC (rowT (lit_c 0 (lit_c 1 (lit_c 0 lit_nil)))) (rowsC (rowT (lit_c 1 (lit_c 0 (lit_c 0 lit_nil)))) (rowsC (rowT (lit_c 0 (lit_c 0 (lit_c 1 lit_nil)))) rowsN)))) (mxsC (mxT (rowsC (rowT (lit_n 1 (lit_c 0 (lit_c 0 lit_nil)))) (rowsC (rowT (lit_c 0 (lit_n 1 (lit_c 0 lit_nil)))) (rowsC (rowT (lit_c 0 (lit_c 0 (lit_n 1 lit_nil)))) rowsN)))) mxsN))) fun v__law_four v__law_swap v__law_less H2 s2 m__law_four m__law_swap m__law_less => ?_))
      replace m__law_ring := m__law_ring.mono (KS.of s2)
      replace m__law_half := m__law_half.mono (KS.of s2)
      replace m__law_flip := m__law_flip.mono (KS.of s2)
      refine r_next (r_nseq (r_asg ((mxT (rowsC (rowT (lit_c 0 (lit_n 1 (lit_c 0 lit_nil)))) (rowsC (rowT (lit_c 1 (lit_c 1 (lit_c 0 lit_nil)))) (rowsC (rowT (lit_c 0 (lit_c 0 (lit_c 1 lit_nil)))) rowsN)))) _ _ _ fun v__law_six H3 s3 m__law_six => ?_)))
      replace m__law_ring := m__law_ring.mono (KS.of s3)
      replace m__law_half := m__law_half.mono (KS.of s3)
      replace m__law_flip := m__law_flip.mono (KS.of s3)
      replace m__law_four := m__law_four.mono (KS.of s3)
      replace m__law_swap := m__law_swap.mono (KS.of s3)
      replace m__law_less := m__law_less.mono (KS.of s3)
      refine r_next (r_nret (r_lst ((llC (vsL (mxT (rowsC (rowT (lit_c 1 (lit_c 0 (lit_c 0 lit_nil)))) (rowsC (rowT (lit_c 0 (lit_c 1 (lit_c 0 lit_nil)))) (rowsC (rowT (lit_c 0 (lit_c 0 (lit_c 1 lit_nil)))) rowsN)))) vsN) (by decide) (llC (vsV rfl (m__law_less) vsN) (by decide) (llC (vsV rfl (m__law_half) vsN) (by decide) (llC (vsV rfl (m__law_flip) vsN) (by decide) (llC (vsV rfl (m__law_half) (vsV rfl (m__law_flip) vsN)) (by decide) (llC (vsV rfl (m__law_ring) vsN) (by decide) (llC (vsV rfl (m__law_ring) (vsV rfl (m__law_half) vsN)) (by decide) (llC (vsV rfl (m__law_ring) (vsV rfl (m__law_less) vsN)) (by decide) (llC (vsV rfl (m__law_ring) (vsV rfl (m__law_swap) vsN)) (by decide) (llC (vsV rfl (m__law_four) vsN) (by decide) (llC (vsV rfl (m__law_four) (vsV rfl (m__law_flip) vsN)) (by decide) (llC (vsV rfl (m__law_six) vsN) (by decide) (llC (vsV rfl (m__law_six) (vsV rfl (m__law_flip) vsN)) (by decide) (llC (vsV rfl (m__law_six) (vsV rfl (m__law_swap) vsN)) (by decide) (llC (vsV rfl (m__law_four) (vsV rfl (m__law_swap) vsN)) (by decide) (llC (vsV rfl (m__law_ring) (vsV rfl (m__law_four) vsN)) (by decide) (llC (vsV rfl (m__law_ring) (vsV rfl (m__law_half) (vsV rfl (m__law_less) vsN))) (by decide) llN))))))))))))))))) _ (Same.refl _) _ fun vs H9 s9 ml => ⟨?_, fun c nc => ?_⟩)))
      · rw [ml.len]; exact Nat.le_trans (by decide : _ ≤ 20) (by decide)
      · exact q c _ vs ((s1.trans (s2.trans (s3.trans (s9)))).trans (same_new nc)) (free_of (s1.trans (s2.trans (s3.trans (s9)))) nc) upd_same (ml.same (same_new nc))
end
end T81
set_option Elab.async false
set_option linter.all false
set_option maxRecDepth 100000
set_option maxHeartbeats 4000000
namespace T81
open PySem PySem.Spec PyProof.Rows L2 Gd Zn Rp Dn Tb Gn En Zs Ct Op Oc Rg Rt Ro Dm Gx
section
variable {n : Nat}
/-- what makers reach from the idle one, ahead -/
inductive LR (Ms : List (GL n)) : List (List Int) → Prop
  | unit : LR Ms (unitM n)
  | step {g : GL n} {M : List (List Int)} : g ∈ Ms → LR Ms M → LR Ms (mulM n g.val M)
structure FinG (Ms : List (GL n)) (b : Nat) : Prop where
  ex : ∃ N : List (List (List Int)), N.length ≤ mostN n ∧ unitM n ∈ N ∧ (∀ M ∈ N, ∀ S ∈ Ms, mulM n M S.val ∈ N ∧ mulM n M (undM n S.val) ∈ N) ∧ (∀ M ∈ N, LR Ms M) ∧ ∀ M ∈ N, SqE n b M
variable {h1 : 1 ≤ n} {h3 : n ≤ 3} {Ms : List (GL n)} {b : Nat}
theorem let_mem {l : Int} (l0 : l ≠ 0) (lm : l.natAbs ≤ Ms.length) : ∃ S ∈ Ms, S.val = (letG h1 h3 Ms l).val ∨ undM n S.val = (letG h1 h3 Ms l).val := let_iff.mp ⟨l, l0, lm, rfl⟩
theorem lr_rch {M : List (List Int)} (h : LR Ms M) : ∃ k, Rch h1 h3 Ms k M := by
  induction h with
  | unit => exact ⟨0, .unit 0⟩
  | @step g M hg _ ih =>
    obtain ⟨k, r⟩ := ih
    obtain ⟨l, l0, lm, el⟩ := (let_iff (h1 := h1) (h3 := h3)).mpr ⟨g, hg, .inl rfl⟩
    exact ⟨k + 1, by rw [← el]; exact rch_left r l0 lm⟩
theorem rch_in {N : List (List (List Int))} (u : unitM n ∈ N) (c : ∀ M ∈ N, ∀ S ∈ Ms, mulM n M S.val ∈ N ∧ mulM n M (undM n S.val) ∈ N) {k : Nat} {M : List (List Int)} (r : Rch h1 h3 Ms k M) : M ∈ N := by
  induction r with
  | unit => exact u
  | step a l0 lm ih =>
    obtain ⟨S, hS, e⟩ := let_mem (h1 := h1) (h3 := h3) l0 lm
    rcases e with e | e
    · rw [← e]; exact (c _ ih S hS).1
    · rw [← e]; exact (c _ ih S hS).2
theorem rch_fold : ∀ (l : List Int) (g : GL n) (k : Nat), Rch h1 h3 Ms k g.val → WL Ms l → Rch h1 h3 Ms (k + l.length) (l.foldl (fun g x => g * letG h1 h3 Ms x) g).val
  | [], g, k, r, _ => r
  | x :: l, g, k, r, wl => by
    have hx := wl x List.mem_cons_self
    have := rch_fold l (g * letG h1 h3 Ms x) (k + 1) (.step r hx.1 hx.2) fun y hy => wl y (List.mem_cons_of_mem _ hy)
    rw [List.length_cons, show k + (l.length + 1) = k + 1 + l.length by omega]
    exact this
theorem rch_word {l : List Int} (wl : WL Ms l) : Rch h1 h3 Ms l.length (wMat h1 h3 Ms l).val := by
  have := rch_fold (h1 := h1) (h3 := h3) l (GL.one h1 h3) 0 (.unit 0) wl
  rw [Nat.zero_add] at this
  exact this
/-- a walked finite lot has just what its makers reach -/
theorem wk_fin {H : Hp} {ys : List En} {e : Nat} (wk : WkR H ys h1 h3 Ms e) (nd : (ys.map (·.1)).Nodup) (f : FinG Ms b) : ys.length ≤ mostN n ∧ (∀ M, M ∈ ys.map (·.1) ↔ LR Ms M) ∧ ∀ M, M ∈ ys.map (·.1) → SqE n b M := by
  obtain ⟨N, lN, uN, cN, rN, bN⟩ := f.ex
  have sub : ∀ M ∈ ys.map (·.1), M ∈ N := fun M hM => by
    obtain ⟨y, hy, rfl⟩ := List.mem_map.mp hM
    obtain ⟨l, _, wl, em, _⟩ := wk.en y hy
    rw [← em]
    exact rch_in uN cN (rch_word wl)
  have hl : ys.length ≤ mostN n := by
    have := nd_len nd sub
    rw [List.length_map] at this
    omega
  refine ⟨hl, fun M => ⟨fun h => rN M (sub M h), fun h => ?_⟩, fun M h => bN M (sub M h)⟩
  obtain ⟨k, r⟩ := lr_rch (h1 := h1) (h3 := h3) h
  refine rch_in (Ms := Ms) (h1 := h1) (h3 := h3) wk.one (fun M hM S hS => ?_) r
  obtain ⟨y, hy, rfl⟩ := List.mem_map.mp hM
  obtain ⟨l, l0, lm, el⟩ := (let_iff (h1 := h1) (h3 := h3)).mpr ⟨S, hS, .inl rfl⟩
  obtain ⟨l', l0', lm', el'⟩ := (let_iff (h1 := h1) (h3 := h3)).mpr ⟨S, hS, .inr rfl⟩
  exact ⟨by rw [← el]; exact wk.clo hl y hy l l0 lm, by rw [← el']; exact wk.clo hl y hy l' l0' lm'⟩
def cjM (g : GL n) (M : List (List Int)) : List (List Int) := mulM n (mulM n g.val M) (GL.inv g).val
def cjG (g m : GL n) : GL n := g * m * GL.inv g
theorem cj_mul (g a c : GL n) : cjG g a * cjG g c = cjG g (a * c) := by
  unfold cjG
  rw [GL.mul_assoc, GL.mul_assoc, GL.mul_assoc, GL.mul_assoc, GL.mul_assoc, GL.inv_mul_left]
theorem cj_inv (g a : GL n) : GL.inv (cjG g a) = cjG g (GL.inv a) := by
  unfold cjG
  rw [GL.inv_mul_rev, GL.inv_mul_rev, GL.inv_inv, GL.mul_assoc]
theorem cj_one (g : GL n) : cjG g (GL.one h1 h3) = GL.one h1 h3 := by
  unfold cjG
  rw [GL.mul_one, GL.mul_inv]
theorem lr_gl {M : List (List Int)} (h : LR Ms M) (h1 : 1 ≤ n) (h3 : n ≤ 3) : ∃ a : GL n, a.val = M := by
  induction h with
  | unit => exact ⟨GL.one h1 h3, rfl⟩
  | @step g M _ _ ih =>
    obtain ⟨a, rfl⟩ := ih
    exact ⟨g * a, rfl⟩
theorem lr_cj (g : GL n) {M : List (List Int)} (h1 : 1 ≤ n) (h3 : n ≤ 3) (h : LR Ms M) : LR (Ms.map (cjG g)) (cjM g M) := by
  induction h with
  | unit =>
    have : cjM g (unitM n) = unitM n := congrArg Subtype.val (cj_one (h1 := h1) (h3 := h3) g)
    rw [this]
    exact .unit
  | @step m M hm a ih =>
    obtain ⟨x, rfl⟩ := lr_gl a h1 h3
    have : cjM g (mulM n m.val x.val) = mulM n (cjG g m).val (cjM g x.val) := (congrArg Subtype.val (cj_mul g m x)).symm
    rw [this]
    exact .step (List.mem_map.mpr ⟨m, hm, rfl⟩) ih
theorem FinG.cj (g : GL n) {c : Nat} (h1 : 1 ≤ n) (h3 : n ≤ 3) (bg : SqE n c g.val) (bi : SqE n c (GL.inv g).val) (f : FinG Ms b) : FinG (Ms.map (cjG g)) (b + 2 * c + 4) := by
  obtain ⟨N, lN, uN, cN, rN, bN⟩ := f.ex
  refine ⟨N.map (cjM g), by rw [List.length_map]; exact lN, List.mem_map.mpr ⟨_, uN, congrArg Subtype.val (cj_one (h1 := h1) (h3 := h3) g)⟩, fun M hM S hS => ?_, fun M hM => ?_, fun M hM => ?_⟩
  · obtain ⟨A, hA, rfl⟩ := List.mem_map.mp hM
    obtain ⟨s, hs, rfl⟩ := List.mem_map.mp hS
    obtain ⟨a, rfl⟩ := lr_gl (rN A hA) h1 h3
    refine ⟨List.mem_map.mpr ⟨_, (cN _ hA s hs).1, (congrArg Subtype.val (cj_mul g a s)).symm⟩, List.mem_map.mpr ⟨_, (cN _ hA s hs).2, ?_⟩⟩
    have e : undM n (cjG g s).val = (cjG g (GL.inv s)).val := congrArg Subtype.val (cj_inv g s)
    rw [e]
    exact (congrArg Subtype.val (cj_mul g a (GL.inv s))).symm
  · obtain ⟨A, hA, rfl⟩ := List.mem_map.mp hM
    exact lr_cj g h1 h3 (rN A hA)
  · obtain ⟨A, hA, rfl⟩ := List.mem_map.mp hM
    exact ((bg.mul (bN A hA) h1 h3).mul bi h1 h3).mono (by omega)
theorem gr_pair (h1 : 1 ≤ n) (h3 : n ≤ 3) {S T : List (List Int)} (hS : Sh n S) (hT : Sh n T) (e : mulM n S T = unitM n) : Gr n S := by
  refine ⟨h1, h3, hS, ?_⟩
  have := mul_detS h1 h3 hS hT
  rw [e, det_unit n h3] at this
  have hu : detM n S ∣ 1 := ⟨_, this⟩
  have h4 := Int.natAbs_dvd_natAbs.mpr hu
  have h5 : (detM n S).natAbs = 1 := Nat.dvd_one.mp h4
  omega
def memStep (n : Nat) (here : List (List Int)) (fl : List (List (List Int)) × List (List (List Int))) (g : List (List Int)) : List (List (List Int)) × List (List (List Int)) := if mulM n g here ∈ fl.1 then fl else (fl.1 ++ [mulM n g here], fl.2 ++ [mulM n g here])
def memL (n : Nat) (Ms : List (List (List Int))) : Nat → List (List (List Int)) → List (List (List Int)) → List (List (List Int))
  | 0, f, _ => f
  | _ + 1, f, [] => f
  | k + 1, f, here :: l => memL n Ms k (Ms.foldl (memStep n here) (f, l)).1 (Ms.foldl (memStep n here) (f, l)).2
def bdB (n : Nat) (M : List (List Int)) : Bool := decide (M.length = n) && M.all fun r => decide (r.length = n) && r.all fun x => decide (x.natAbs < 2 ^ 2)
theorem bd_sh {M : List (List Int)} (h : bdB n M = true) : Sh n M ∧ SqE n 2 M := by
  unfold bdB at h
  simp only [Bool.and_eq_true, decide_eq_true_eq, List.all_eq_true] at h
  exact ⟨⟨h.1, fun r hr => (h.2 r hr).1⟩, ⟨h.1, fun r hr => (h.2 r hr).1, fun r hr x hx => (h.2 r hr).2 x hx⟩⟩
/-- S stays within N, and so does what undoes it -/
def inB (n : Nat) (N : List (List (List Int))) (S : List (List Int)) : Bool := bdB n S && (N.all fun M => decide (mulM n M S ∈ N)) && N.any fun T => decide (mulM n S T = unitM n) && N.all fun M => decide (mulM n M T ∈ N)
def finB (n : Nat) (Ms N : List (List (List Int))) : Bool := decide (N.length ≤ mostN n) && decide (unitM n ∈ N) && N.all (bdB n) && Ms.all (inB n N) && decide (1 ≤ Ms.length) && decide (Ms.length ≤ 3)
theorem fold_lr {here : List (List Int)} (hh : LR Ms here) : ∀ (Gs : List (GL n)) (fl : List (List (List Int)) × List (List (List Int))), (∀ g ∈ Gs, g ∈ Ms) → (∀ M ∈ fl.1, LR Ms M) → (∀ M ∈ fl.2, LR Ms M) → (∀ M ∈ ((Gs.map (fun M : GL n => M.val)).foldl (memStep n here) fl).1, LR Ms M) ∧ ∀ M ∈ ((Gs.map (fun M : GL n => M.val)).foldl (memStep n here) fl).2, LR Ms M
  | [], fl, _, a, c => ⟨a, c⟩
  | g :: Gs, fl, hG, a, c => by
    refine fold_lr hh Gs _ (fun x hx => hG x (List.mem_cons_of_mem _ hx)) ?_ ?_
    all_goals
      unfold memStep
      split
      · assumption
      · intro M hM
        rcases List.mem_append.mp hM with h | h
        · first | exact a M h | exact c M h
        · rw [List.mem_singleton] at h
          subst h
          exact .step (hG g List.mem_cons_self) hh
theorem mem_lr : ∀ (k : Nat) (f l : List (List (List Int))), (∀ M ∈ f, LR Ms M) → (∀ M ∈ l, LR Ms M) → ∀ M ∈ memL n (Ms.map (fun M : GL n => M.val)) k f l, LR Ms M
  | 0, f, _, a, _ => a
  | _ + 1, f, [], a, _ => a
  | k + 1, f, here :: l, a, c => by
    have q := fold_lr (c here List.mem_cons_self) Ms (f, l) (fun g hg => hg) a fun M hM => c M (List.mem_cons_of_mem _ hM)
    exact mem_lr k _ _ q.1 q.2
theorem fin_all (h1 : 1 ≤ n) (h3 : n ≤ 3) {L : List (List (List Int))} (h : finB n L (memL n L 60 [unitM n] [unitM n]) = true) : ∃ Ms : List (GL n), L = Ms.map (fun M : GL n => M.val) ∧ 1 ≤ Ms.length ∧ Ms.length ≤ 3 ∧ FinG Ms 2 := by
  obtain ⟨N, eN⟩ : ∃ N, N = memL n L 60 [unitM n] [unitM n] := ⟨_, rfl⟩
  rw [← eN] at h
  unfold finB at h
  simp only [Bool.and_eq_true, decide_eq_true_eq, List.all_eq_true] at h
  obtain ⟨⟨⟨⟨⟨a, b⟩, d⟩, c⟩, l1⟩, l3⟩ := h
  have cc : ∀ S ∈ L, ∃ T ∈ N, Sh n S ∧ Sh n T ∧ mulM n S T = unitM n ∧ (∀ M ∈ N, mulM n M S ∈ N) ∧ ∀ M ∈ N, mulM n M T ∈ N := fun S hS => by
    have q := c S hS
    unfold inB at q
    simp only [Bool.and_eq_true, decide_eq_true_eq, List.all_eq_true, List.any_eq_true] at q
    obtain ⟨⟨q1, q2⟩, T, hT, q3, q4⟩ := q
    exact ⟨T, hT, (bd_sh q1).1, (bd_sh (d T hT)).1, q3, q2, q4⟩
  have gr : ∀ S ∈ L, Gr n S := fun S hS => by
    obtain ⟨T, _, s1, s2, e, _⟩ := cc S hS
    exact gr_pair h1 h3 s1 s2 e
  obtain ⟨Ms, eL⟩ : ∃ Ms : List (GL n), L = Ms.map (fun M : GL n => M.val) := ⟨toGm L gr, (toGm_map (L := L) (h := gr)).symm⟩
  refine ⟨Ms, eL, by rw [eL, List.length_map] at l1; exact l1, by rw [eL, List.length_map] at l3; exact l3, N, a, b, fun M hM S hS => ?_, ?_, fun M hM => (bd_sh (d M hM)).2⟩
  · have hSL : S.val ∈ L := by rw [eL]; exact List.mem_map.mpr ⟨S, hS, rfl⟩
    obtain ⟨T, hT, s1, s2, e, k1, k2⟩ := cc S.val hSL
    refine ⟨k1 M hM, ?_⟩
    have gT : Gr n T := by
      have hd := mul_detS h1 h3 s1 s2
      rw [e, det_unit n h3] at hd
      refine ⟨h1, h3, s2, ?_⟩
      have hu : detM n T ∣ 1 := ⟨_, by rw [Int.mul_comm]; exact hd⟩
      have h5 : (detM n T).natAbs = 1 := Nat.dvd_one.mp (Int.natAbs_dvd_natAbs.mpr hu)
      omega
    have eT : T = undM n S.val := congrArg Subtype.val (GL.inv_of_mul (h1 := h1) (h3 := h3) (a := S) (b := GL.mk T gT) (Subtype.ext e))
    rw [← eT]
    exact k2 M hM
  · rw [eN, eL]
    exact mem_lr 60 _ _ (fun M hM => by rw [List.mem_singleton] at hM; subst hM; exact .unit) fun M hM => by rw [List.mem_singleton] at hM; subst hM; exact .unit
end
/-- all told makers, the last of 48 members -/
def KX : Nat → List (List (List (List Int)))
  | 3 => KN 3 ++ [(KN 3).getD 15 [] ++ (KN 3).getD 1 []]
  | n => KN n
theorem kx1 : (KX 1).all (fun L => finB 1 L (memL 1 L 60 [unitM 1] [unitM 1])) = true := by decide +kernel
theorem kx2 : (KX 2).all (fun L => finB 2 L (memL 2 L 60 [unitM 2] [unitM 2])) = true := by decide +kernel
theorem kx3 : (KX 3).all (fun L => finB 3 L (memL 3 L 60 [unitM 3] [unitM 3])) = true := by decide +kernel
theorem kx_fin {n : Nat} (h1 : 1 ≤ n) (h3 : n ≤ 3) {L : List (List (List Int))} (h : L ∈ KX n) : ∃ Ms : List (GL n), L = Ms.map (fun M : GL n => M.val) ∧ 1 ≤ Ms.length ∧ Ms.length ≤ 3 ∧ FinG Ms 2 := by
  refine fin_all h1 h3 ?_
  have : n = 1 ∨ n = 2 ∨ n = 3 := by omega
  rcases this with rfl | rfl | rfl
  · exact List.all_eq_true.mp kx1 L h
  · exact List.all_eq_true.mp kx2 L h
  · exact List.all_eq_true.mp kx3 L h
end T81
set_option Elab.async false
set_option linter.all false
set_option maxRecDepth 100000
set_option maxHeartbeats 4000000
namespace T81
open PySem PySem.Spec PyProof.Rows L2 Gd Zn Rp Dn Tb Gn En Zs Ct Op Oc Rg Rt Ro Dm Gx
abbrev valM {n : Nat} (Ms : List (GL n)) : List (List (List Int)) := Ms.map fun M : GL n => M.val
abbrev rAbs : List V → Hp → VK → Prop := fun xs H Q => ∃ i : Int, xs = [.int i] ∧ Q (.int (if i < 0 then -i else i)) H
theorem ints_of : ∀ {xs : List V}, (∀ (i : Nat) (v : V), xs[i]? = some v → ∃ t : Int, v = .int t) → ∃ ns : List Int, xs = ns.map V.int
  | [], _ => ⟨[], rfl⟩
  | x :: xs, h => by
    obtain ⟨t, rfl⟩ := h 0 x rfl
    obtain ⟨ns, rfl⟩ := ints_of (xs := xs) fun i v e => h (i + 1) v e
    exact ⟨t :: ns, rfl⟩
theorem max_len {H : Hp} {K : PySem.W.Frag} {D : Addr} {xs : List V} {k : Nat} {Q : VK} (hD : H D = some (.lst xs)) (hl : xs.length = k) (k0 : 0 < k) (hi : ∀ (i : Nat) (v : V), xs[i]? = some v → ∃ t : Int, v = .int t) (q : ∀ t : Int, Q (.int t) H) : rMax K [.ref D] H Q := by
  obtain ⟨ns, rfl⟩ := ints_of hi
  rw [List.length_map] at hl
  exact ⟨D, ns, rfl, SqL.of hD, by omega, fun m _ _ => q m⟩
section
variable {P : Program} {w : World} {K : PySem.W.Frag} {mg : Str → Option Value} {base : Heap} {C CL : Addr}
abbrev st_lm : Stmt := top 70
abbrev N_lm : List Str := ["_law_makers", "_law_pair", "_law_found", "_law_top", "_law_one", "_law_row_here", "_law_number"]
theorem sc_lm : FnScope N_lm ["_law_makers", "_law_pair"] (defScope st_lm) := ⟨rfl, rfl, rfl, by decide +kernel, rfl, by decide +kernel, by decide +kernel⟩
def sp_lm : Sp := fun vs H Q _ => ∃ (a c : Addr) (xs : List V) (v u : V) (n : Nat) (Ms : List (GL n)) (g : GL n), vs = [.ref a, .ref c] ∧ H a = some (.lst xs) ∧ MxL H xs (valM Ms) ∧ 1 ≤ n ∧ n ≤ 3 ∧ 1 ≤ Ms.length ∧ Ms.length ≤ 4 ∧ FinG Ms 2 ∧ (∀ M ∈ Ms, SqE n 2 M.val) ∧ H c = some (.tup [v, u]) ∧ Mx H v g.val ∧ Mx H u (GL.inv g).val ∧ SqE n 9 g.val ∧ SqE n 9 (GL.inv g).val ∧
  ∀ d H' ys (Ms' : List (GL n)), Same H H' → H' d = some (.lst ys) → MxL H' ys (valM Ms') → Ms'.length = Ms.length → FinG Ms' 24 → (∀ M ∈ Ms', SqE n 24 M.val) → (Ms' = Ms ∨ Ms' = Ms.map (cjG g)) → Q (.ref d) H'
theorem ok_lm {f : Addr} {fd : FuncData} (F : Fun K "_law_led_makers" "_law_led_makers" st_lm f fd) (T : Txt mg) (D1 : Def P w K mg base "_law_by" 1 ["_law_one", "_law_other"] sp_by) : FnOk P w K mg base CX0 2 f fd ["_law_makers", "_law_pair"] sp_lm := by
  refine F.ok sc_lm (fun vs H Q E h => ?_) (fun cdv A outer s H vs Q E hr h => ?_)
  · obtain ⟨a, c, xs, v, u, n, Ms, g, rfl, _⟩ := h
    rfl
  · obtain ⟨a, c, xs, v, u, n, Ms, g, rfl, ha, hx, h1, h3, l1, l4, fin, bM, hc, mv, mu, bg, bi, q⟩ := h
    refine ⟨_, pss_cons (ps_setLc (i := 2) (own := [("_law_one", 4)]) (g := gName 4) (tt := tYes) rfl sc_lm.nd rfl rfl (sw_true rfl rfl rfl (by decide +kernel)) (pi_seq (pv 0))
        (blkOk_by (N := N_lm) (sc := defScope st_lm) (by decide +kernel)) (fun _ _ _ _ _ => pg_name (i := 4) sc_lm.nd rfl (Or.inl rfl) (Or.inr rfl)) (fun _ _ _ _ _ => pts_nil)
        (fun _ _ _ _ _ => pe_def (X := Cx.blk _ _ _ _ _ _) D1 hr (pa_cons (pe_def (X := Cx.blk _ _ _ _ _ _) D1 hr (pa_cons (pe_ix (X := Cx.blk _ _ _ _ _ _) (r := rIxS2 K) ix_sq (pv 1) pe_int (fun _ _ => rfl)) (pa_cons (pv 4) pa_nil))) (pa_cons (pe_ix (X := Cx.blk _ _ _ _ _ _) (r := rIxS2 K) ix_sq (pv 1) pe_int (fun _ _ => rfl)) pa_nil))))
      (pss_cons (ps_set (i := 3) sc_lm.nd rfl (Or.inl rfl) (pe_callB (r := rMax K) (cr_max rfl) (by rfl) T.max boot_max (pa_cons (pe_lc (own := [("_law_one", 4)]) (g := gName 4) (tt := tYes)
          (te := tCB (rMax K) (tCons (tLc (iSeq K (tVar 4)) (gName 5) tYes (tCB (rMax K) (tCons (tLc (iSeq K (tVar 5)) (gName 6) tYes (tCB rAbs (tCons (tVar 6) tNil)) [6]) tNil)) [5]) tNil)) rfl sc_lm.nd (pi_seq (pv 2))
          (blkOk_by (N := N_lm) (sc := defScope st_lm) (by decide +kernel)) (fun _ _ _ _ _ => pg_name (i := 4) sc_lm.nd rfl (Or.inl rfl) (Or.inr rfl)) (fun _ _ _ _ _ => pts_nil)
          (fun s' H' C' cl' fp' => by
            refine pe_callB (r := rMax K) (cr_max rfl) (by rfl) T.max boot_max (pa_cons (pe_lc (own := [("_law_row_here", 5)]) (wi := iSeq K (tVar 4)) (g := gName 5) (tt := tYes)
              (te := tCB (rMax K) (tCons (tLc (iSeq K (tVar 5)) (gName 6) tYes (tCB rAbs (tCons (tVar 6) tNil)) [6]) tNil)) rfl sc_lm.nd ?p1 ?p2 ?p3 ?p4 ?p5) pa_nil)
            case p1 => exact pi_seq (pv 4)
            case p2 => exact blkOk_by (N := N_lm) (by rfl)
            case p3 => exact (fun _ _ _ _ _ => pg_name (i := 5) sc_lm.nd rfl (Or.inl rfl) (Or.inr rfl))
            case p4 => exact (fun _ _ _ _ _ => pts_nil)
            case p5 =>
              intro s2 H2 C2 cl2 fp2
              refine pe_callB (r := rMax K) (cr_max rfl) (by rfl) T.max boot_max (pa_cons (pe_lc (own := [("_law_number", 6)]) (wi := iSeq K (tVar 5)) (g := gName 6) (tt := tYes) (te := tCB rAbs (tCons (tVar 6) tNil)) rfl sc_lm.nd ?q1 ?q2 ?q3 ?q4 ?q5) pa_nil)
              case q1 => exact pi_seq (pv 5)
              case q2 => exact blkOk_by (N := N_lm) (by rfl)
              case q3 => exact (fun _ _ _ _ _ => pg_name (i := 6) sc_lm.nd rfl (Or.inl rfl) (Or.inr rfl))
              case q4 => exact (fun _ _ _ _ _ => pts_nil)
              case q5 => exact (fun _ _ _ _ _ => pe_callB call_abs (by rfl) T.abs boot_abs (pa_cons (pv 6) pa_nil)))) pa_nil)))
      (pss_one (ps_ret (pe_ifExp (pt_cmpR op_le (pv 3) pe_int (nomark _)) (pv 2) (pv 0))))), ?_⟩
    have lx : xs.length = Ms.length := by rw [hx.len, List.length_map]
    have qa : ∀ H', Same H H' → SqV K H' false a xs := fun H' s => SqL.of (s _ _ ha)
    have qc : ∀ H', Same H H' → SqV K H' true c [v, u] := fun H' s => .inl (.inl (s _ _ hc))
    refine r_seq (r_asg (tlc_call (i_seq ⟨_, rfl, false, a, xs, rfl, qa _ (Same.refl _), ?_⟩)))
    refine lc_ks (p := none) Ms.length (fun i v G => ∃ M, (valM (Ms.map (cjG g)))[i]? = some M ∧ Mx G v M) (fun i v G G' kk h => by obtain ⟨M, e1, e2⟩ := h; exact ⟨M, e1, e2.mono kk⟩) has_none (by omega) (fun i G hi s => its_go (qa G s.same) (List.getElem?_eq_getElem (by omega))) (fun G s => its_stop (qa G s.same) (by omega)) (fun i x G G' C' hi s _ hy hC => ?_) fun D H1 fs nD s1' hD hl hE => ?_
    · obtain ⟨rfl, ex⟩ := its_yld hy (qa _ s.same)
      obtain ⟨N, e1, e2⟩ := hx.get i x ex
      rw [List.getElem?_map] at e1
      obtain ⟨M, e3, rfl⟩ := Option.map_eq_some_iff.mp e1
      have bm := bM M (List.mem_of_getElem? e3)
      refine ⟨rfl, a2 (a2 (r_op ⟨_, rfl, true, c, _, ((0 : Nat) : Int), v, rfl, rfl, qc _ s.same, atI_nat rfl, _, rfl, v, x, _, M.val, n, rfl, mv.mono (KS.of s.same), e2.mono (KS.of s.same), h3, bg.sq (by decide), bm.sq (by decide), fun w1 Ga sa ma => ?_⟩))⟩
      refine r_op ⟨_, rfl, true, c, _, ((1 : Nat) : Int), u, rfl, rfl, qc _ (s.same.trans sa), atI_nat rfl, w1, u, _, _, n, rfl, ma, mu.mono (KS.of (s.same.trans sa)), h3, (bg.mul bm h1 h3).sq (by decide), bi.sq (by decide), fun w2 Gb sb mb => hC _ _ (RX.of (sa.trans sb)) ⟨_, ?_, mb⟩⟩
      rw [List.getElem?_map, List.getElem?_map, e3]
      rfl
    have s1 := s1'.same
    have ml : MxL H1 fs (valM (Ms.map (cjG g))) := ⟨by rw [hl, List.length_map, List.length_map], hE⟩
    have lf : fs.length = Ms.length := hl
    have qD : ∀ H', Same H1 H' → SqV K H' false D fs := fun H' s => SqL.of (s _ _ hD)
    refine r_next (r_nseq (r_asg (cb1 (tlc_call (i_seq ⟨_, rfl, false, D, fs, rfl, qD _ (Same.refl _), ?_⟩)))))
    refine lc_el (p := none) Ms.length (fun i v => ∃ t : Int, v = .int t) has_none (by omega) (fun i G hi s => its_go (qD G s.same) (List.getElem?_eq_getElem (by omega))) (fun G s => its_stop (qD G s.same) (by omega)) (fun i x G G' C' hi s _ hy hC => ?_) fun D2 H2 ts nD2 s2 hD2 hl2 hE2 => max_len hD2 hl2 (by omega) hE2 fun t => ?_
    · obtain ⟨rfl, ex⟩ := its_yld hy (qD _ s.same)
      obtain ⟨N, e1, e2⟩ := ml.get i x ex
      rw [List.getElem?_map] at e1
      obtain ⟨M, e3, rfl⟩ := Option.map_eq_some_iff.mp e1
      have shM := M.property.sh
      obtain ⟨b, vx, rfl, hb, hR⟩ := e2.mono (KS.of s.same)
      have lv : vx.length = n := by rw [hR.len, shM.len]
      have qb : ∀ H', Same G' H' → SqV K H' true b vx := fun H' s => .inl (.inl (s _ _ hb))
      refine ⟨rfl, cb1 (tlc_call (i_seq ⟨_, rfl, true, b, vx, rfl, qb _ (Same.refl _), ?_⟩))⟩
      refine lc_el (p := none) n (fun i v => ∃ t : Int, v = .int t) has_none (by omega) (fun j G2 hj s2 => its_go (qb G2 s2.same) (List.getElem?_eq_getElem (by omega))) (fun G2 s2 => its_stop (qb G2 s2.same) (by omega)) (fun j x2 G2 G3 C2 hj s2 _ hy2 hC2 => ?_) fun D3 H3 ts nD3 s3 hD3 hl3 hE3 => max_len hD3 hl3 (by omega) hE3 fun t => hC _ _ s3 ⟨t, rfl⟩
      obtain ⟨rfl, ex2⟩ := its_yld hy2 (qb _ s2.same)
      obtain ⟨r, er, b2, rfl, hb2⟩ := hR.get ex2
      have lr := shM.row r (List.mem_of_getElem? er)
      have hb3 := s2.same _ _ hb2
      have qb2 : ∀ H', Same G3 H' → SqV K H' true b2 (r.map V.int) := fun H' s => .inl (.inl (s _ _ hb3))
      refine ⟨rfl, cb1 (tlc_call (i_seq ⟨_, rfl, true, b2, _, rfl, qb2 _ (Same.refl _), ?_⟩))⟩
      refine lc_el (p := none) n (fun i v => ∃ t : Int, v = .int t) has_none (by omega) (fun j G4 hj s4 => its_go (qb2 G4 s4.same) (List.getElem?_eq_getElem (by rw [List.length_map]; omega))) (fun G4 s4 => its_stop (qb2 G4 s4.same) (by rw [List.length_map]; omega)) (fun j x3 G4 G5 C3 hj s4 _ hy3 hC3 => ?_) fun D4 H4 ts nD4 s4 hD4 hl4 hE4 => max_len hD4 hl4 (by omega) hE4 fun t => hC2 _ _ s4 ⟨t, rfl⟩
      obtain ⟨rfl, ex3⟩ := its_yld hy3 (qb2 _ s4.same)
      rw [List.getElem?_map] at ex3
      obtain ⟨z, ez, rfl⟩ := Option.map_eq_some_iff.mp ex3
      exact ⟨rfl, cb1 ⟨_, rfl, z, rfl, hC3 _ _ (RX.refl _) ⟨_, rfl⟩⟩⟩
    have s12 := s1.trans s2.same
    refine r_next (r_nret (r_ifx (r_tt (r_op ⟨_, rfl, _, _, rfl, rfl, _, rfl, ?_⟩))))
    by_cases z : t ≤ (40 : Int)
    · rw [decide_eq_true z]
      refine iteT ⟨_, rfl, q D H2 fs (Ms.map (cjG g)) s12 (s2.same _ _ hD) (ml.same s2.same) (List.length_map ..) (fin.cj g h1 h3 bg bi) (fun M hM => ?_) (.inr rfl)⟩
      obtain ⟨m, hm, rfl⟩ := List.mem_map.mp hM
      exact ((bg.mul (bM m hm) h1 h3).mul bi h1 h3).mono (by decide)
    · rw [decide_eq_false z]
      refine iteF ⟨_, rfl, q a H2 xs Ms s12 (s12 _ _ ha) (hx.same s12) rfl ?_ (fun M hM => (bM M hM).mono (by decide)) (.inl rfl)⟩
      obtain ⟨N, a1', a2', a3', a4', a5'⟩ := fin.ex
      exact ⟨N, a1', a2', a3', a4', fun M hM => (a5' M hM).mono (by decide)⟩
end
end T81
set_option Elab.async false
set_option linter.all false
set_option maxRecDepth 100000
set_option maxHeartbeats 4000000
namespace T81
open PySem PySem.Spec PyProof.Rows L2 Gd Zn Rp Dn Tb Gn En Zs Ct Op Oc Rg Rt Ro Dm Gx
section
variable {n : Nat}
/-- on the way: found, left -/
structure Mw (Ms : List (GL n)) (F L : List (List (List Int))) : Prop where
  nd : F.Nodup
  lr : ∀ M ∈ F, LR Ms M
  one : unitM n ∈ F
  sub : ∀ M ∈ L, M ∈ F
  out : ∀ M ∈ F, M ∉ L → ∀ g ∈ Ms, mulM n g.val M ∈ F
/-- .. while one is led by maker after maker -/
structure Mi (Ms : List (GL n)) (Y : List (List Int)) (j : Nat) (F L : List (List (List Int))) : Prop where
  nd : F.Nodup
  lr : ∀ M ∈ F, LR Ms M
  one : unitM n ∈ F
  sub : ∀ M ∈ L, M ∈ F
  here : Y ∈ F
  out : ∀ M ∈ F, M ∉ L → M ≠ Y → ∀ g ∈ Ms, mulM n g.val M ∈ F
  part : ∀ g ∈ Ms.take j, mulM n g.val Y ∈ F
theorem Mi.skip {Ms : List (GL n)} {Y : List (List Int)} {j : Nat} {F L : List (List (List Int))} (h : Mi Ms Y j F L) {g : GL n} (eg : Ms[j]? = some g) (hin : mulM n g.val Y ∈ F) : Mi Ms Y (j + 1) F L := ⟨h.nd, h.lr, h.one, h.sub, h.here, h.out, fun x hx => by
  rw [List.take_add_one, eg, List.mem_append] at hx
  rcases hx with hx | hx
  · exact h.part x hx
  · simp at hx; subst hx; exact hin⟩
theorem Mi.add {Ms : List (GL n)} {Y : List (List Int)} {j : Nat} {F L : List (List (List Int))} (h : Mi Ms Y j F L) {g : GL n} (eg : Ms[j]? = some g) (hin : mulM n g.val Y ∉ F) : Mi Ms Y (j + 1) (F ++ [mulM n g.val Y]) (L ++ [mulM n g.val Y]) := by
  have app : ∀ {M}, M ∈ F → M ∈ F ++ [mulM n g.val Y] := fun {M} q => List.mem_append_left _ q
  refine ⟨List.nodup_append.mpr ⟨h.nd, by simp, fun a ha c hc e => ?_⟩, fun M hM => ?_, app h.one, fun M hM => ?_, app h.here, fun M hM nL ny x hx => ?_, fun x hx => ?_⟩
  · rw [List.mem_singleton] at hc
    subst hc
    subst e
    exact hin ha
  · rcases List.mem_append.mp hM with q | q
    · exact h.lr M q
    · rw [List.mem_singleton] at q
      subst q
      exact .step (List.mem_of_getElem? eg) (h.lr _ h.here)
  · rcases List.mem_append.mp hM with q | q
    · exact app (h.sub M q)
    · exact List.mem_append_right _ q
  · rcases List.mem_append.mp hM with q | q
    · exact app (h.out M q (fun z => nL (List.mem_append_left _ z)) ny x hx)
    · exact absurd (List.mem_append_right _ q) nL
  · rw [List.take_add_one, eg, List.mem_append] at hx
    rcases hx with hx | hx
    · exact app (h.part x hx)
    · simp at hx; subst hx; exact List.mem_append_right _ (List.mem_singleton_self _)
theorem Mw.done {Ms : List (GL n)} {F : List (List (List Int))} (h : Mw Ms F []) : ∀ M, M ∈ F ↔ LR Ms M := fun M => ⟨h.lr M, fun r => by
  induction r with
  | unit => exact h.one
  | step hg _ ih => exact h.out _ ih (by simp) _ hg⟩
theorem fin_in {h1 : 1 ≤ n} {h3 : n ≤ 3} {Ms : List (GL n)} {N : List (List (List Int))} (u : unitM n ∈ N) (c : ∀ M ∈ N, ∀ S ∈ Ms, mulM n M S.val ∈ N ∧ mulM n M (undM n S.val) ∈ N) {M : List (List Int)} (h : LR Ms M) : M ∈ N := by
  obtain ⟨k, r⟩ := lr_rch (h1 := h1) (h3 := h3) h
  exact rch_in u c r
theorem ne_emp {M : List (List Int)} (h1 : 1 ≤ n) (hM : Sh n M) : M ≠ [] := fun z => by
  have := hM.len
  rw [z] at this
  simp at this
  omega
end
theorem MxL.dl {H : Hp} {vs : List V} {L : List (List (List Int))} (h : MxL H vs L) : MxL H vs.dropLast L.dropLast := ⟨by rw [List.length_dropLast, List.length_dropLast, h.len], fun i v e => by
  rw [List.getElem?_dropLast] at e
  split at e
  · rename_i z
    obtain ⟨M, a, b⟩ := h.get i v e
    exact ⟨M, by rw [List.getElem?_dropLast, if_pos (by rw [← h.len]; exact z)]; exact a, b⟩
  · cases e⟩
theorem mem_dl {α : Type} {L : List α} {x : α} (h : L[L.length - 1]? = some x) {y : α} : y ∈ L ↔ y ∈ L.dropLast ∨ y = x := by
  have ne : L ≠ [] := fun z => by rw [z] at h; simp at h
  have e : L = L.dropLast ++ [x] := by
    have := List.dropLast_concat_getLast ne
    rw [List.getLast_eq_getElem] at this
    rw [List.getElem?_eq_getElem (by have := List.length_pos_iff.mpr ne; omega)] at h
    rw [← Option.some.inj h]
    exact this.symm
  constructor
  · intro hy
    rw [e] at hy
    simpa using hy
  · intro hy
    rw [e]
    simpa using hy
section
variable {P : Program} {w : World} {K : PySem.W.Frag} {mg : Str → Option Value} {base : Heap} {C CL : Addr}
abbrev st_mem : Stmt := top 71
abbrev N_mem : List Str := ["_law_makers", "_law_found", "_law_left", "_law_here", "_law_one", "_law_more"]
theorem sc_lmem : FnScope N_mem ["_law_makers"] (defScope st_mem) := ⟨rfl, rfl, rfl, by decide +kernel, rfl, by decide +kernel, by decide +kernel⟩
def sp_lmem : Sp := fun vs H Q _ => ∃ (a : Addr) (xs : List V) (n b : Nat) (Ms : List (GL n)), vs = [.ref a] ∧ H a = some (.lst xs) ∧ MxL H xs (valM Ms) ∧ 1 ≤ n ∧ n ≤ 3 ∧ 1 ≤ Ms.length ∧ Ms.length ≤ 4 ∧ FinG Ms b ∧ b ≤ 5000 ∧ (∀ M ∈ Ms, SqE n b M.val) ∧
  ∀ c H' ws (F : List (List (List Int))), Same H H' → H c = none → H' c = some (.lst ws) → F.Nodup → (∀ M, M ∈ F ↔ LR Ms M) → MxL H' ws (F.mergeSort Sm.leX) → Q (.ref c) H'
theorem ok_lmem {f : Addr} {fd : FuncData} (F : Fun K "_law_members" "_law_members" st_mem f fd) (T : Txt mg) (hsort : mg "sorted" = none) (D1 : Def P w K mg base "_law_idle" 1 ["_law_size"] sp_unit_rows) (D2 : Def P w K mg base "_law_by" 1 ["_law_one", "_law_other"] sp_by) : FnOk P w K mg base CX0 2 f fd ["_law_makers"] sp_lmem := by
  refine F.ok sc_lmem (fun vs H Q E h => ?_) (fun cdv A outer s H vs Q E hr h => ?_)
  · obtain ⟨a, xs, n, b, Ms, rfl, _⟩ := h
    rfl
  · obtain ⟨a, xs, n, b, Ms, rfl, ha, hx, h1, h3, l1, l4, fin, b5, bM, q⟩ := h
    have hu := room65 hr
    have hu0 := Nat.lt_of_le_of_lt (Nat.add_le_add_left (by decide : 64 ≤ 65) _) hu
    refine ⟨_, pss_cons (ps_par (i := 1) (j := 2) rfl sc_lmem.nd rfl rfl (by decide) rfl rfl (pa_cons (pe_lst (pa_cons (pe_def D1 hr (pa_cons (pe_callB (r := Dn.rLen K) c_len (by rfl) T.len PySem.boot_len (pa_cons (pe_ix (r := rIxS2 K) ix_sq (pv 0) pe_int (fun _ _ => rfl)) pa_nil)) pa_nil)) pa_nil))
          (pa_cons (pe_lst (pa_cons (pe_def D1 hr (pa_cons (pe_callB (r := Dn.rLen K) c_len (by rfl) T.len PySem.boot_len (pa_cons (pe_ix (r := rIxS2 K) ix_sq (pv 0) pe_int (fun _ _ => rfl)) pa_nil)) pa_nil)) pa_nil)) pa_nil)) (by rfl))
      (pss_cons (ps_while PassesOwn.never (pt_cmpR (op_neD hu0) (pv 2) (pe_lst pa_nil) (nomark _))
        (pss_cons (ps_set (i := 3) sc_lmem.nd rfl (Or.inl rfl) (pe_bm0 PySem.F.plainAttrs_list PySem.F.slot_list_pop PySem.F.type_list_pop mt_pop (pv 2)))
        (pss_one (ps_for PassesOwn.never rfl (pi_seq (pv 0)) (pg_name (i := 4) sc_lmem.nd rfl (Or.inl rfl))
          (pss_cons (ps_set (i := 5) sc_lmem.nd rfl (Or.inl rfl) (pe_def D2 hr (pa_cons (pv 4) (pa_cons (pv 3) pa_nil))))
          (pss_one (ps_if (pt_cmpR (op_notInD hu) (pv 5) (pv 1) (by rfl))
            (pss_cons (ps_expr (pe_bm PySem.F.plainAttrs_list PySem.F.slot_list_append PySem.F.type_list_append mt_append (pv 1) (pa_cons (pv 5) pa_nil)))
            (pss_one (ps_expr (pe_bm PySem.F.plainAttrs_list PySem.F.slot_list_append PySem.F.type_list_append mt_append (pv 2) (pa_cons (pv 5) pa_nil))))) pss_nil)))))))
      (pss_one (ps_ret (pe_callB (Sm.cr_sortedM hr.units) (by rfl) hsort (by rfl) (pa_cons (pv 1) pa_nil))))), ?_⟩
    obtain ⟨N, lN, uN, cN, rN, bN⟩ := fin.ex
    have m48 := most_le n
    have toN : ∀ {M}, LR Ms M → M ∈ N := fun {M} h => fin_in (h1 := h1) (h3 := h3) uN cN h
    have lx : xs.length = Ms.length := by rw [hx.len, List.length_map]
    have qa : ∀ H', Same H H' → SqV K H' false a xs := fun H' s => SqL.of (s _ _ ha)
    have gx : ∀ (i : Nat) (v : V) (G : Hp), Same H G → xs[i]? = some v → ∃ M : GL n, Ms[i]? = some M ∧ Mx G v M.val := fun i v G s ev => by
      obtain ⟨A, e1, e2⟩ := hx.get i v ev
      rw [List.getElem?_map] at e1
      obtain ⟨M, e3, rfl⟩ := Option.map_eq_some_iff.mp e1
      exact ⟨M, e3, e2.mono (KS.of s)⟩
    have h0x : 0 < xs.length := by omega
    obtain ⟨M0, eM0, mM0⟩ := gx 0 xs[0] H (Same.refl _) (List.getElem?_eq_getElem h0x)
    have lM0 := M0.property.sh.len
    obtain ⟨b0, vs0, ev0, hb0, hr0⟩ := id mM0
    have lv0 : vs0.length = n := by rw [← lM0, hr0.len]
    refine r_seq (r_par2 (r_cons (r_lst (r_cons (a1 (cb1 ⟨_, rfl, false, a, xs, ((0 : Nat) : Int), xs[0], rfl, rfl, qa _ (Same.refl _), atI_nat (List.getElem?_eq_getElem h0x), b0, vs0, by rw [ev0], sq_or (t := true) (.inl (.inl hb0)), ?_⟩))))))
    rw [lv0]
    refine ⟨n, rfl, h3, fun v1 H1 s1 m1 => ⟨(by show 1 ≤ sizeLine; decide), fun Df nDf => ?_⟩⟩
    have s2 : Same H1 (upd H1 Df (.lst [v1])) := same_new nDf
    have hDf : upd H1 Df (.lst [v1]) Df = some (.lst [v1]) := upd_same
    have m2 := m1.mono (KS.of s2)
    have nDfH : H Df = none := free_of s1 nDf
    generalize upd H1 Df (.lst [v1]) = H2 at s2 hDf m2
    have s02 := s1.trans s2
    refine r_cons (r_lst (r_cons (a1 (cb1 ⟨_, rfl, false, a, xs, ((0 : Nat) : Int), xs[0], rfl, rfl, qa _ s02, atI_nat (List.getElem?_eq_getElem h0x), b0, vs0, by rw [ev0], sq_or (t := true) (.inl (.inl (s02 _ _ hb0))), ?_⟩))))
    rw [lv0]
    refine ⟨n, rfl, h3, fun v2 H3 s3 m3 => ⟨(by show 1 ≤ sizeLine; decide), fun Dl nDl => ⟨_, _, rfl, ?_⟩⟩⟩
    have s4 : Same H3 (upd H3 Dl (.lst [v2])) := same_new nDl
    have hDl : upd H3 Dl (.lst [v2]) Dl = some (.lst [v2]) := upd_same
    have m4 := m3.mono (KS.of s4)
    have nDlH : H Dl = none := free_of (s02.trans s3) nDl
    have dfl : Df ≠ Dl := ne_of_none (s3 _ _ hDf) nDl
    have hDf4 := (s3.trans s4) _ _ hDf
    have m24 := m2.mono (KS.of (s3.trans s4))
    generalize upd H3 Dl (.lst [v2]) = H4 at s4 hDl m4 hDf4 m24
    have s04 := s02.trans (s3.trans s4)
    refine r_next (r_nseq (Wl.while_in (fun σ H' => ∃ (fs ls : List V) (Fn L : List (List (List Int))) (x3 x4 x5 : Option V), σ = [some (.ref a), some (.ref Df), some (.ref Dl), x3, x4, x5] ∧ Same H H' ∧ H' Df = some (.lst fs) ∧ MxL H' fs Fn ∧ H' Dl = some (.lst ls) ∧ MxL H' ls L ∧ Mw Ms Fn L ∧ ls.length ≤ fs.length)
      (fun σ H' => match H' Df, H' Dl with | some (.lst fs), some (.lst ls) => 2 * (60 - fs.length) + ls.length | _, _ => 0)
      ⟨[v1], [v2], [unitM n], [unitM n], _, _, _, rfl, s04, hDf4, MxL.one m24, hDl, MxL.one m4, ⟨by simp, fun M hM => by rw [List.mem_singleton] at hM; subst hM; exact .unit, List.mem_singleton_self _, fun M hM => hM, fun M hM hn => absurd hM hn⟩, by simp⟩ (fun σ H' Q' hP qT qF => ?_)))
    obtain ⟨fs, ls, Fn, L, x3, x4, x5, rfl, s, hF, mF, hL, mL, W, lfl⟩ := hP
    refine r_tt (r_op ⟨_, rfl, r_lst ⟨(by show 0 ≤ sizeLine; decide), fun e0 ne0 => ?_⟩⟩)
    have se : Same H' (upd H' e0 (.lst [])) := same_new ne0
    have he0 : upd H' e0 (.lst []) e0 = some (.lst []) := upd_same
    have hF' := se _ _ hF
    have hL' := se _ _ hL
    have mF' := mF.same se
    have mL' := mL.same se
    refine r_neMxs hL' mL' he0 (MxL.nil _) ⟨_, rfl, ?_⟩
    have lFn : Fn.length ≤ 48 := Nat.le_trans (nd_len W.nd fun M hM => toN (W.lr M hM)) (Nat.le_trans lN m48)
    have lls : ls.length = L.length := mL.len
    have mu0 : (match H' Df, H' Dl with | some (.lst fs), some (.lst ls) => 2 * (60 - fs.length) + ls.length | _, _ => 0) = 2 * (60 - fs.length) + ls.length := by rw [hF, hL]
    have sse := s.trans se
    generalize upd H' e0 (.lst []) = G at se he0 hF' hL' mF' mL' sse
    by_cases zL : L = []
    · rw [decide_eq_true zL]
      subst zL
      refine qF _ (r_next (r_nret (r_cb (r_cons ?_))))
      obtain ⟨ps, e1, e2, e3⟩ := mxl_ps mF'
      have lps : ps.length = Fn.length := by rw [e2, List.length_map]
      refine ⟨_, rfl, Df, ps, rfl, .inl (.inl (by rw [← e1]; exact hF')), fun p hp => ⟨e3 p hp, ?_⟩, by omega, fun c nc => ?_⟩
      · have hp2 : p.2 ∈ Fn := by rw [e2]; exact List.mem_map_of_mem hp
        exact ne_emp h1 (bN _ (toN (W.lr _ hp2))).sh
      · have sc : Same G (upd G c (.lst ((ps.mergeSort Sm.leM).map fun p => V.ref p.1))) := same_new nc
        refine q c _ _ Fn (sse.trans sc) (free_of sse nc) upd_same W.nd W.done ?_
        have em : Fn.mergeSort Sm.leX = (ps.mergeSort Sm.leM).map (·.2) := by rw [Sm.sort_mats, ← e2]
        rw [em]
        exact ps_mxl fun p hp => (e3 p (Sm.sort_mem.mp hp)).mono (KS.of sc)
    · rw [decide_eq_false zL]
      refine qT _ ?_
      have l0 : 0 < L.length := List.length_pos_iff.mpr zL
      have eyl : ls[ls.length - 1]? = some (ls[ls.length - 1]'(by omega)) := List.getElem?_eq_getElem _
      obtain ⟨Y, eY, mY⟩ := mL'.get _ _ eyl
      rw [lls] at eY
      generalize ls[ls.length - 1]'(by omega) = y at eyl mY
      refine r_seq (r_asg ⟨_, rfl, .inl ⟨rfl, _, .inl (.inl hL')⟩, Dl, ls, y, rfl, rfl, hL', eyl, ?_⟩)
      have kp : KS G (upd G Dl (.lst ls.dropLast)) := fun c o nl e => by
        rw [upd_ne (fun z => by rw [z, hL'] at e; cases e; exact nl _ rfl)]
        exact e
      have hLp : upd G Dl (.lst ls.dropLast) Dl = some (.lst ls.dropLast) := upd_same
      have hFp : upd G Dl (.lst ls.dropLast) Df = some (.lst fs) := by rw [upd_ne dfl]; exact hF'
      have ssp : Same H (upd G Dl (.lst ls.dropLast)) := same_upd sse nDlH
      have mFp := mF'.ks kp
      have mLp := (mL'.dl).ks kp
      have mYp := mY.mono kp
      generalize upd G Dl (.lst ls.dropLast) = Gp at hLp hFp ssp mFp mLp mYp
      have hY : Y ∈ L := List.mem_of_getElem? eY
      have bY := bN Y (toN (W.lr Y (W.sub Y hY)))
      refine r_next (r_nfor ⟨_, rfl, false, a, xs, rfl, qa _ ssp, ?_⟩)
      refine for_by Ms.length (fun j σ H' => ∃ (fs' ls' : List V) (Fn' L' : List (List (List Int))) (x4 x5 : Option V), σ = [some (.ref a), some (.ref Df), some (.ref Dl), some y, x4, x5] ∧ Same H H' ∧ KS Gp H' ∧ H' Df = some (.lst fs') ∧ MxL H' fs' Fn' ∧ H' Dl = some (.lst ls') ∧ MxL H' ls' L' ∧ Mi Ms Y j Fn' L' ∧ 2 * (60 - fs'.length) + ls'.length ≤ 2 * (60 - fs.length) + (ls.length - 1) ∧ ls'.length ≤ fs'.length)
        ⟨fs, ls.dropLast, Fn, L.dropLast, _, _, rfl, ssp, KS.refl _, hFp, mFp, hLp, mLp, ⟨W.nd, W.lr, W.one, fun M hM => W.sub M ((mem_dl eY).mpr (.inl hM)), W.sub Y hY, fun M hM nL ny => W.out M hM fun z => ((mem_dl eY).mp z).elim nL ny, fun g hg => by simp at hg⟩, by rw [List.length_dropLast]; exact Nat.le_refl _, by rw [List.length_dropLast]; omega⟩ (fun j σ Hx hj hP => ?_) (fun σ Hx hP => ?_) (fun j x σ Hx Hy hj hP hy => ?_) (fun σ Hx hP => ?_)
      · obtain ⟨_, _, _, _, _, _, _, sx, _⟩ := hP
        exact its_go (qa _ sx) (List.getElem?_eq_getElem (by omega))
      · obtain ⟨_, _, _, _, _, _, _, sx, _⟩ := hP
        exact its_stop (qa _ sx) (by omega)
      · obtain ⟨fs', ls', Fn', L', x4, x5, rfl, sx, kx, hFx, mFx, hLx, mLx, I, mu, lfl'⟩ := hP
        obtain ⟨rfl, ex⟩ := its_yld hy (qa _ sx)
        obtain ⟨g, eg, mg'⟩ := gx j x _ sx ex
        refine g_nm (r_seq (r_asg (a2 ⟨_, rfl, _, rfl, x, y, g.val, Y, n, rfl, mg', mYp.mono kx, h3, (bM g (List.mem_of_getElem? eg)).sq (by omega), bY.sq (by omega), fun v' G2 s2 m2 => ?_⟩)))
        have hF2 := s2 _ _ hFx
        have hL2 := s2 _ _ hLx
        have mF2 := mFx.same s2
        have mL2 := mLx.same s2
        have sx2 := sx.trans s2
        have lF2 : Fn'.length ≤ 48 := Nat.le_trans (nd_len I.nd fun M hM => toN (I.lr M hM)) (Nat.le_trans lN m48)
        have lfs' : fs'.length = Fn'.length := mF2.len
        have lls' : ls'.length ≤ 200 := by omega
        refine r_next (r_nif (r_tt (r_op ⟨_, rfl, _, rfl, r_notInM m2 hF2 mF2 ⟨_, rfl, ?_⟩⟩)))
        by_cases zi : mulM n g.val Y ∈ Fn'
        · rw [decide_eq_true zi]
          exact iteF ⟨fs', ls', Fn', L', _, _, rfl, sx2, kx.trans (KS.of s2), hF2, mF2, hL2, mL2, I.skip eg zi, mu, lfl'⟩
        · rw [decide_eq_false zi]
          have lF3 := nd_len (I.add eg zi).nd fun M hM => toN ((I.add eg zi).lr M hM)
          rw [List.length_append] at lF3
          refine iteT (r_seq (d_bm ⟨_, rfl, .inl ⟨rfl, _, .inl (.inl hF2)⟩, _, rfl, Df, _, v', rfl, rfl, hF2, Nat.lt_of_le_of_lt (by omega : fs'.length ≤ 48) (by decide), ?_⟩))
          have hL3 : upd G2 Df (.lst (fs' ++ [v'])) Dl = some (.lst ls') := by rw [upd_ne (Ne.symm dfl)]; exact hL2
          refine r_nx (d_bm ⟨_, rfl, .inl ⟨rfl, _, .inl (.inl hL3)⟩, _, rfl, Dl, _, v', rfl, rfl, hL3, Nat.lt_of_le_of_lt lls' (by decide), ?_⟩)
          have k3 : KS G2 (upd (upd G2 Df (.lst (fs' ++ [v']))) Dl (.lst (ls' ++ [v']))) := fun c o nl e => by
            rw [upd_ne (fun z => by rw [z, hL2] at e; cases e; exact nl _ rfl), upd_ne (fun z => by rw [z, hF2] at e; cases e; exact nl _ rfl)]
            exact e
          refine ⟨fs' ++ [v'], ls' ++ [v'], _, _, _, _, rfl, same_upd (same_upd sx2 nDfH) nDlH, kx.trans ((KS.of s2).trans k3), ?_, (mF2.app (MxL.one m2)).ks k3, upd_same, (mL2.app (MxL.one m2)).ks k3, I.add eg zi, ?_, by rw [List.length_append, List.length_append]; show _ + 1 ≤ _ + 1; omega⟩
          · rw [upd_ne dfl]
            exact upd_same
          · rw [List.length_append, List.length_append]
            show 2 * (60 - (fs'.length + 1)) + (ls'.length + 1) ≤ _
            omega
      · obtain ⟨fs', ls', Fn', L', x4, x5, rfl, sx, kx, hFx, mFx, hLx, mLx, I, mu, lfl'⟩ := hP
        refine ⟨⟨fs', ls', Fn', L', _, _, _, rfl, sx, hFx, mFx, hLx, mLx, ⟨I.nd, I.lr, I.one, I.sub, fun M hM nL g hg => ?_⟩, lfl'⟩, ?_⟩
        · by_cases z : M = Y
          · rw [z]
            exact I.part g (by rw [List.take_length]; exact hg)
          · exact I.out M hM nL z g hg
        · show (match Hx Df, Hx Dl with | some (.lst fs), some (.lst ls) => 2 * (60 - fs.length) + ls.length | _, _ => 0) < (match H' Df, H' Dl with | some (.lst fs), some (.lst ls) => 2 * (60 - fs.length) + ls.length | _, _ => 0)
          rw [mu0, hFx, hLx]
          show 2 * (60 - fs'.length) + ls'.length < _
          omega
end
end T81
set_option Elab.async false
set_option linter.all false
set_option maxRecDepth 100000
set_option maxHeartbeats 4000000
namespace T81
open PySem PySem.Spec PyProof.Rows L2 Gd Zn Rp Dn Tb Gn En Zs Ct Op Oc Rg Rt Ro Dm Gx
structure MkrL (P : Program) (w : World) (K : PySem.W.Frag) (mg : Str → Option Value) (base : Heap) (C CL : Addr) : Prop where
  ex : ∃ (f : Addr) (fd : FuncData), Mk K CL f ∧ FnOk P w K mg base CX0 14 f fd ["self", "makers"] (sp_initL P w C CL) ∧ Binds K fd ["self", "makers"] []
theorem pe_mkl {X : Cx} {C CL : Addr} {j : Nat} {e : Expr} {t : TA} {p pos : Pos} (D : MkrL X.prog X.w X.K X.mg X.base C CL) (Lc : Lcl X.K X.mg CL) (room : Room j X.A) (ha : PA X [e] t) (hkj : 15 ≤ j := by decide) (hg : Gl X "Lot" := by rfl)
    (he : starEach [e] X.env = (false, eval e X.env) :: starEach [] X.env := by rfl) (hpl : (backTo pos (starEach [] X.env)).any (·.1) = false := by rfl) :
    PE X (.Call (.Name "Lot" p) [e] [] pos) (tMake CL (sp_initL X.prog X.w C CL) [] E0 t) := by
  obtain ⟨f, fd, m, G, b⟩ := D.ex
  exact pe_make m G (room.mono hkj) hg Lc.mgC b .nil pass0 ha (by decide +kernel) he hpl
theorem mkL {P : Program} {w : World} {C CL : Addr} {ta : TE} {σ : L2.St} {H : Hp} {Q : VK} (h : ta σ H fun x H1 => ∀ z dx : Addr, H1 z = none → H1 dx = none → dx ≠ z → sp_initL P w C CL (V.ref z :: ([x] ++ [])) (upd (upd H1 dx (.own z)) z (.ins CL dx [])) (fun u H2 => u = V.non ∧ Q (.ref z) H2) E0) : tMake CL (sp_initL P w C CL) [] E0 (tCons ta tNil) σ H Q := h
/-- a Lot made of listed Tables -/
theorem make_lot {P : Program} {w : World} {C CL : Addr} {H : Hp} {t : Bool} {a : Addr} {xs : List V} {n e : Nat} {h1 : 1 ≤ n} {h3 : n ≤ 3} {Ms : List (GL n)} {Q : VK} (ha : LT H t a xs) (hT : Tabs C H e xs Ms) (l1 : 1 ≤ Ms.length) (l4 : Ms.length ≤ 4) (he : e ≤ 150)
    (q : ∀ c H' ys, Same H H' → H c = none → (∀ y ∈ ys, H y.2.2 = none) → LotV P w C CL H' (.ref c) h1 h3 Ms e ys → Q (.ref c) H') : ∀ z dx : Addr, H z = none → H dx = none → dx ≠ z → sp_initL P w C CL (V.ref z :: ([.ref a] ++ [])) (upd (upd H dx (.own z)) z (.ins CL dx [])) (fun u H2 => u = V.non ∧ Q (.ref z) H2) E0 := by
  intro z dx nz nd ne
  have s : Same H (upd (upd H dx (.own z)) z (.ins CL dx [])) := fun c o e => by
    rw [upd_ne (ne_of_none e nz), upd_ne (ne_of_none e nd)]
    exact e
  refine ⟨z, dx, t, a, xs, n, e, h1, h3, Ms, rfl, upd_same, ha.same s, hT.same s, l1, l4, he, fun H' ys kp fr hL => ⟨rfl, q z H' ys (fun c o e => ?_) nz (fun y hy => ?_) hL⟩⟩
  rotate_left
  · cases u : H y.2.2 with
    | none => rfl
    | some o => have := fr y hy; rw [s _ _ u] at this; cases this
  exact kp c o (ne_of_none e nz) (s c o e)
theorem mxl_get {n : Nat} {H : Hp} {xs : List V} {Ms : List (GL n)} (h : MxL H xs (valM Ms)) {i : Nat} {v : V} (ev : xs[i]? = some v) : ∃ M : GL n, Ms[i]? = some M ∧ Mx H v M.val := by
  obtain ⟨A, e1, e2⟩ := h.get i v ev
  rw [List.getElem?_map] at e1
  obtain ⟨M, e3, rfl⟩ := Option.map_eq_some_iff.mp e1
  exact ⟨M, e3, e2⟩
theorem fin_sq {n b : Nat} {h1 : 1 ≤ n} {h3 : n ≤ 3} {Ms : List (GL n)} (f : FinG Ms b) {M : GL n} (hM : M ∈ Ms) : SqE n b M.val := by
  obtain ⟨N, _, uN, cN, _, bN⟩ := f.ex
  have := fin_in (h1 := h1) (h3 := h3) uN cN (LR.step hM LR.unit)
  rw [mul_unitS h1 h3 M.property.sh] at this
  exact bN _ this
theorem mxl_pot {H : Hp} {d p : Addr} {ys : List V} {L : List (List (List Int))} (hd : H d = some (.lst ys)) (h : MxL H ys L) (l : 1 ≤ L.length) (hp : PotOk H p) : d ≠ p := fun z => by
  subst z
  obtain ⟨a, b, e, _⟩ := hp
  rw [hd] at e
  cases e
  obtain ⟨M, _, x, vs, e, _⟩ := h.get 0 (.int a) rfl
  cases e
theorem MLL.app {H : Hp} {vs ws : List V} {Ls Ns : List (List (List (List Int)))} (h : MLL H vs Ls) (k : MLL H ws Ns) : MLL H (vs ++ ws) (Ls ++ Ns) := ⟨by rw [List.length_append, List.length_append, h.len, k.len], fun i v e => by
  have hl := h.len
  by_cases z : i < vs.length
  · rw [List.getElem?_append_left z] at e
    obtain ⟨D, xs, L, a, b⟩ := h.get i v e
    exact ⟨D, xs, L, by rw [List.getElem?_append_left (by omega)]; exact a, b⟩
  · rw [List.getElem?_append_right (by omega)] at e
    obtain ⟨D, xs, L, a, b⟩ := k.get _ v e
    exact ⟨D, xs, L, by rw [List.getElem?_append_right (by omega), ← hl]; exact a, b⟩⟩
theorem MLL.at {H : Hp} {vs : List V} {Ls : List (List (List (List Int)))} (h : MLL H vs Ls) {i : Nat} (hi : i < Ls.length) : ∃ (D : Addr) (xs : List V), vs[i]? = some (.ref D) ∧ H D = some (.lst xs) ∧ MxL H xs (Ls.getD i []) := by
  have hi' : i < vs.length := by rw [h.len]; exact hi
  obtain ⟨D, xs, L, a, b, c, d⟩ := h.get i vs[i] (List.getElem?_eq_getElem hi')
  rw [List.getElem?_eq_getElem hi', b]
  have : Ls.getD i [] = L := by rw [List.getD_eq_getElem?_getD, a]; rfl
  rw [this]
  exact ⟨D, xs, rfl, c, d⟩
section
variable {P : Program} {w : World} {K : PySem.W.Frag} {mg : Str → Option Value} {base : Heap} {C CL : Addr}
abbrev st_lot : Stmt := top 72
abbrev N_lot : List Str := ["_law_makers", "_law_one", "_law_row_here"]
theorem sc_lot : FnScope N_lot ["_law_makers"] (defScope st_lot) := ⟨rfl, rfl, rfl, by decide +kernel, rfl, by decide +kernel, by decide +kernel⟩
def sp_lot (P : Program) (w : World) (C CL : Addr) : Sp := fun vs H Q _ => ∃ (a : Addr) (xs : List V) (n e : Nat) (h1 : 1 ≤ n) (h3 : n ≤ 3) (Ms : List (GL n)), vs = [.ref a] ∧ H a = some (.lst xs) ∧ MxL H xs (valM Ms) ∧ 1 ≤ Ms.length ∧ Ms.length ≤ 4 ∧ e ≤ 150 ∧ (∀ M ∈ Ms, SqE n e M.val) ∧
  ∀ c H' ys, Same H H' → H c = none → (∀ y ∈ ys, H y.2.2 = none) → LotV P w C CL H' (.ref c) h1 h3 Ms e ys → Q (.ref c) H'
theorem ok_lot {f : Addr} {fd : FuncData} (F : Fun K "_law_lot" "_law_lot" st_lot f fd) (T : Txt mg) (Tc : Tcl K mg C) (Lc : Lcl K mg CL) (D1 : Mkr P w K mg base C) (D2 : MkrL P w K mg base C CL) : FnOk P w K mg base CX0 16 f fd ["_law_makers"] (sp_lot P w C CL) := by
  refine F.ok sc_lot (fun vs H Q E h => ?_) (fun cdv A outer s H vs Q E hr h => ?_)
  · obtain ⟨a, xs, n, e, h1, h3, Ms, rfl, _⟩ := h
    rfl
  · obtain ⟨a, xs, n, e, h1, h3, Ms, rfl, ha, hx, l1, l4, he, bM, q⟩ := h
    refine ⟨_, pss_one (ps_ret (pe_mkl D2 Lc hr (pa_cons (pe_lc (own := [("_law_one", 1)]) (g := gName 1) (tt := tYes) (te := tMake C (sp_init C) [] E0 (tCons (tLc (iSeq K (tVar 1)) (gName 2) tYes (tCB (rLst K) (tCons (tVar 2) tNil)) [2]) tNil)) rfl sc_lot.nd (pi_seq (pv 0))
        (blkOk_by (N := N_lot) (sc := defScope st_lot) (by decide +kernel)) (fun _ _ _ _ _ => pg_name (i := 1) sc_lot.nd rfl (Or.inl rfl) (Or.inr rfl)) (fun _ _ _ _ _ => pts_nil)
        (fun s' H' C' cl' fp' => by
          refine pe_mkr (X := Cx.blk _ _ _ _ _ _) D1 Tc hr (pa_cons (pe_lc (X := Cx.blk _ _ _ _ _ _) (own := [("_law_row_here", 2)]) (wi := iSeq K (tVar 1)) (g := gName 2) (tt := tYes) (te := tCB (rLst K) (tCons (tVar 2) tNil)) rfl sc_lot.nd ?p1 ?p2 ?p3 ?p4 ?p5) pa_nil)
          case p1 => exact pi_seq (pv 1)
          case p2 => exact blkOk_by (N := N_lot) (by rfl)
          case p3 => exact (fun _ _ _ _ _ => pg_name (i := 2) sc_lot.nd rfl (Or.inl rfl) (Or.inr rfl))
          case p4 => exact (fun _ _ _ _ _ => pts_nil)
          case p5 => exact (fun _ _ _ _ _ => pe_callTy (r := rLst K) c_lst (by rfl) T.list PyProof.Rows.boot_list (pa_cons (pv 2) pa_nil)))) pa_nil))), ?_⟩
    have lx : xs.length = Ms.length := by rw [hx.len, List.length_map]
    have qa : ∀ H', Same H H' → SqV K H' false a xs := fun H' s => SqL.of (s _ _ ha)
    refine r_ret (mkL (tlc_call (i_seq ⟨_, rfl, false, a, xs, rfl, qa _ (Same.refl _), ?_⟩)))
    refine lc_ks (p := none) Ms.length (fun i v G => ∃ M : GL n, Ms[i]? = some M ∧ Tv C G v n e M.val) (fun i v G G' kk h => by obtain ⟨M, e1, e2⟩ := h; exact ⟨M, e1, e2.ks kk⟩) has_none (by omega) (fun i G hi s => its_go (qa G s.same) (List.getElem?_eq_getElem (by omega))) (fun G s => its_stop (qa G s.same) (by omega)) (fun i x G G' C' hi s _ hy hC => ?_) fun D H1 fs nD s1 hD hl hE => ?_
    · obtain ⟨rfl, ex⟩ := its_yld hy (qa _ s.same)
      obtain ⟨M, eM, mM⟩ := mxl_get hx ex
      have shM := M.property.sh
      obtain ⟨b, vx, rfl, hb, hR⟩ := mM.mono (KS.of s.same)
      have lv : vx.length = n := by rw [hR.len, shM.len]
      have qb : ∀ H', Same G' H' → SqV K H' true b vx := fun H' s => .inl (.inl (s _ _ hb))
      refine ⟨rfl, mkA (tlc_call (i_seq ⟨_, rfl, true, b, vx, rfl, qb _ (Same.refl _), ?_⟩))⟩
      refine lc_fresh (p := none) n (fun j => .lst ((M.val.getD j []).map V.int)) has_none (by omega) (fun j G2 hj s2 => its_go (qb G2 s2.same) (List.getElem?_eq_getElem (by omega))) (fun G2 s2 => its_stop (qb G2 s2.same) (by omega)) (fun j x2 G2 G3 C2 hj s2 _ hy2 hC2 => ?_) fun D2 G2 rs nD2 s2 hD2 hrl hrE => ?_
      · obtain ⟨rfl, ex2⟩ := its_yld hy2 (qb _ s2.same)
        obtain ⟨r, er, c, rfl, hc⟩ := hR.get ex2
        have eg : M.val.getD j [] = r := by rw [List.getD_eq_getElem?_getD, er]; rfl
        exact ⟨rfl, cb1 ⟨_, rfl, c, _, rfl, .inr (.inl (.inl (s2.same _ _ hc))), fun l nl => hC2 l _ (RX.new nl) nl (by rw [upd_same, eg])⟩⟩
      · exact MkA.of (.inl (py_lm hD2 (by rw [hrl, shM.len]) hrE)) (grid_lm _) M.property (bM M (List.mem_of_getElem? eM)) (by omega) fun c G4 s4 tv => hC _ _ (s2.trans (RX.of s4)) ⟨M, eM, tv⟩
    · exact make_lot (t := false) hD ⟨hl, hE⟩ l1 l4 he fun c H' ys s n fr hL => q c H' ys (s1.same.trans s) (free_of s1.same n) (fun y hy => free_of s1.same (fr y hy)) hL
def sp_mks : Sp := fun vs H Q _ => ∃ (p : Addr) (n : Nat), vs = [.ref p, .int n] ∧ PotOk H p ∧ 1 ≤ n ∧ n ≤ 3 ∧ ∀ d H' ys (Ms : List (GL n)), RX (some p) H H' → d ≠ p → H' d = some (.lst ys) → MxL H' ys (valM Ms) → 1 ≤ Ms.length → Ms.length ≤ 4 → FinG Ms 24 → (∀ M ∈ Ms, SqE n 24 M.val) → Q (.ref d) H'
end
end T81
set_option Elab.async false
set_option linter.all false
set_option maxRecDepth 100000
set_option maxHeartbeats 2000000
namespace Dm
open PySem PySem.Spec PyProof.Rows L2 Dn Tb
abbrev Es := List (List Int) × Addr × Value
def entS (xs : List Es) : List (NestedKey × Addr × Value) := xs.map fun x => (mK x.1, x.2.1, x.2.2)
def dsO (P : Program) (w : World) (d : Addr) (xs : List Es) : HO := .ext fun h => (d == sysModules) = false ∧ ∃ o es ep, h.get? d = some o ∧ o.ExactDict ∧ o.data = .dict es ep ∧ es.toList = (entS xs).map (entryOfKey (nestedKind P w))
structure DS (P : Program) (w : World) (H : Hp) (d : Addr) (xs : List Es) : Prop where
  at_ : H d = some (dsO P w d xs)
  key : ∀ x ∈ xs, Mx H (.ref x.2.1) x.1
  nd : (xs.map (·.1)).Nodup
  len : xs.length ≤ 100000
section
variable {P : Program} {w : World} {H H' : Hp} {h : Heap} {d : Addr} {xs : List Es}
theorem entS_nd (n : (xs.map (·.1)).Nodup) : ((entS xs).map (·.1)).Nodup := by
  have e : (entS xs).map (·.1) = (xs.map (·.1)).map mK := by
    unfold entS
    rw [List.map_map, List.map_map]
    rfl
  rw [e]
  exact List.Pairwise.map mK (fun a b ne z => ne (mK_inj z)) n
theorem DS.dict (m : DS P w H d xs) (ok : HOk P w H h) : (d == sysModules) = false ∧ h.DictOfH (nestedKind P w) d (entS xs) := by
  obtain ⟨⟨ns, o, es, ep, h1, h2, h3, h4⟩, _, _⟩ := (show ObjOk P w H h d (dsO P w d xs) from ok d _ m.at_)
  refine ⟨ns, o, es, ep, h1, h2, h3, h4, fun x hx => ?_, entS_nd m.nd⟩
  obtain ⟨y, hy, rfl⟩ := List.mem_map.mp hx
  exact mx_is ok (m.key y hy)
theorem DS.ks (k : KS H H') (e : H' d = H d) (m : DS P w H d xs) : DS P w H' d xs := ⟨by rw [e]; exact m.at_, fun x hx => (m.key x hx).mono k, m.nd, m.len⟩
theorem DS.same (s : Same H H') (m : DS P w H d xs) : DS P w H' d xs := ⟨s _ _ m.at_, fun x hx => (m.key x hx).mono (KS.of s), m.nd, m.len⟩
def hasS (xs : List Es) (M : List (List Int)) : Bool := (xs.find? fun x => decide (x.1 = M)).isSome
/-- what stands after d[M] = v, the key at b -/
def putS (xs : List Es) (M : List (List Int)) (b : Addr) (v : Value) : List Es := if hasS xs M then xs.map fun x => if x.1 = M then (x.1, x.2.1, v) else x else xs ++ [(M, b, v)]
theorem hasS_mem {xs : List Es} {M : List (List Int)} : hasS xs M = true ↔ M ∈ xs.map (·.1) := by
  unfold hasS
  rw [List.find?_isSome]
  constructor
  · rintro ⟨x, hx, e⟩
    exact List.mem_map.mpr ⟨x, hx, of_decide_eq_true e⟩
  · intro h
    obtain ⟨x, hx, e⟩ := List.mem_map.mp h
    exact ⟨x, hx, decide_eq_true e⟩
theorem putS_keys (xs : List Es) (M : List (List Int)) (b : Addr) (v : Value) : (putS xs M b v).map (·.1) = if hasS xs M then xs.map (·.1) else xs.map (·.1) ++ [M] := by
  unfold putS
  by_cases z : hasS xs M = true
  · rw [if_pos z, if_pos z, List.map_map]
    refine List.map_congr_left fun x _ => ?_
    simp only [Function.comp]
    split <;> rfl
  · rw [if_neg z, if_neg z, List.map_append]
    rfl
theorem putS_nd {xs : List Es} {M : List (List Int)} {b : Addr} {v : Value} (n : (xs.map (·.1)).Nodup) : ((putS xs M b v).map (·.1)).Nodup := by
  rw [putS_keys]
  split
  · exact n
  · rename_i z
    refine List.nodup_append.mpr ⟨n, by simp, fun a ha c hc e => ?_⟩
    simp only [List.mem_singleton] at hc
    subst hc
    subst e
    exact z (hasS_mem.mpr ha)
theorem putS_len (xs : List Es) (M : List (List Int)) (b : Addr) (v : Value) : (putS xs M b v).length ≤ xs.length + 1 := by
  unfold putS
  split
  · rw [List.length_map]; omega
  · rw [List.length_append]; exact Nat.le_refl _
theorem putS_mem {xs : List Es} {M : List (List Int)} {b : Addr} {v : Value} {x : Es} (hx : x ∈ putS xs M b v) : (∃ y ∈ xs, x.1 = y.1 ∧ x.2.1 = y.2.1 ∧ (x = y ∨ (y.1 = M ∧ x.2.2 = v))) ∨ x = (M, b, v) := by
  unfold putS at hx
  split at hx
  · obtain ⟨y, hy, rfl⟩ := List.mem_map.mp hx
    refine .inl ⟨y, hy, ?_⟩
    split
    · rename_i e; exact ⟨rfl, rfl, .inr ⟨e, rfl⟩⟩
    · exact ⟨rfl, rfl, .inl rfl⟩
  · rcases List.mem_append.mp hx with h | h
    · exact .inl ⟨x, h, rfl, rfl, .inl rfl⟩
    · simp only [List.mem_singleton] at h
      exact .inr h
/-- a dict changed: what is behind other addresses stays -/
theorem ds_mx {H : Hp} {d : Addr} {P : Program} {w : World} {xs : List Es} {o : HO} {v : V} {M : List (List Int)} (e : H d = some (dsO P w d xs)) (h : Mx H v M) : Mx (upd H d o) v M := by
  have row : ∀ {v : V} {r : List Int}, RowV H v r → RowV (upd H d o) v r := fun {v r} q => by
    obtain ⟨b, rfl, hb⟩ := q
    refine ⟨b, rfl, ?_⟩
    rw [upd_ne (ne_of hb e (fun z => by cases z))]
    exact hb
  obtain ⟨a, vs, rfl, ha, hr⟩ := h
  refine ⟨a, vs, rfl, ?_, ?_⟩
  · rw [upd_ne (ne_of ha e (fun z => by cases z))]
    exact ha
  · clear ha
    induction hr with
    | nil => exact .nil
    | cons x _ ih => exact .cons (row x) ih
theorem DS.put {M : List (List Int)} {b : Addr} {v : Value} (m : DS P w H d xs) (hb : Mx H (.ref b) M) (l : xs.length < 100000) : DS P w (upd H d (dsO P w d (putS xs M b v))) d (putS xs M b v) := by
  refine ⟨upd_same, fun x hx => ?_, putS_nd m.nd, Nat.le_trans (putS_len xs M b v) l⟩
  rcases putS_mem hx with ⟨y, hy, e1, e2, _⟩ | rfl
  · rw [e1, e2]
    exact ds_mx m.at_ (m.key y hy)
  · exact ds_mx m.at_ hb
end
end Dm
set_option Elab.async false
set_option linter.all false
set_option maxRecDepth 100000
set_option maxHeartbeats 2000000
namespace Dm
open PySem PySem.Spec PyProof.Rows L2 Dn Tb Sm
section
variable {X : Cx}
theorem DS.raw {P : Program} {w : World} {H : Hp} {h : Heap} {d : Addr} {xs : List Es} (m : DS P w H d xs) (ok : HOk P w H h) : (d == sysModules) = false ∧ ∃ es ep, h.DictRaw d es ep ∧ es.size = xs.length ∧ ∀ (i : Nat) (hi : i < es.size), ∃ x, xs[i]? = some x ∧ es[i].key = .ref x.2.1 := by
  obtain ⟨ns, o, es, ep, h1, h2, h3, h4, _⟩ := m.dict ok
  have hl : es.size = xs.length := by
    rw [← Array.length_toList, h4]
    unfold entS
    rw [List.length_map, List.length_map]
  refine ⟨ns, es, ep, ⟨o, h1, h2, h3⟩, hl, fun i hi => ?_⟩
  have hi2 : i < xs.length := by omega
  refine ⟨xs[i], List.getElem?_eq_getElem hi2, ?_⟩
  have e : es.toList[i]? = some es[i] := by rw [List.getElem?_eq_getElem (by rw [Array.length_toList]; exact hi), Array.getElem_toList]
  rw [h4] at e
  unfold entS at e
  rw [List.getElem?_map, List.getElem?_map, List.getElem?_eq_getElem hi2] at e
  rw [← Option.some.inj e]
  rfl
end
end Dm
set_option Elab.async false
set_option linter.all false
set_option maxRecDepth 100000
set_option maxHeartbeats 2000000
namespace Sr
open PySem PySem.Spec PyProof.Rows L2 Dn Tb Sm Dm
theorem alike_row (r s : List Int) : PySem.W.alike (rowD r) (rowD s) = true := by
  unfold rowD
  rw [PySem.W.alike]
  exact PySem.W.alike_ints r s
theorem toksR (t : List Int) : PySem.W.keyToks (rowD t) = PySem.W.keyToksAll (t.map PyData.int) := by unfold rowD; rw [PySem.W.keyToks]
theorem row_inj {r s : List Int} (h : PySem.W.keyToks (rowD r) = PySem.W.keyToks (rowD s)) : r = s := by
  rw [toksR, toksR] at h
  exact (toks_ints (l := []) (m := []) (by rw [List.append_nil, List.append_nil]; exact h)).1
def leR : List Int → List Int → Bool := PySem.W.dataLe false rowD
theorem leR_total : PySem.W.TotalLe leR := PySem.W.sortLe_total (listOrd itemOrd) false fun r => PySem.W.keyToks (rowD r)
theorem leR_anti {r s : List Int} (h1 : leR r s = true) (h2 : leR s r = true) : r = s := by
  refine row_inj ((listOrd itemOrd).total _ _ ?_ ?_)
  · have : (!(listOrd itemOrd).blt (PySem.W.keyToks (rowD r)) (PySem.W.keyToks (rowD s))) = true := h2
    simpa using this
  · have : (!(listOrd itemOrd).blt (PySem.W.keyToks (rowD s)) (PySem.W.keyToks (rowD r))) = true := h1
    simpa using this
/-- the same rows, none twice: sorted alike -/
theorem sort_sameR {L L' : List (List Int)} (n : L.Nodup) (n' : L'.Nodup) (h : ∀ r, r ∈ L ↔ r ∈ L') : L.mergeSort leR = L'.mergeSort leR := by
  have p : (L.mergeSort leR).Perm (L'.mergeSort leR) := by
    refine (List.perm_ext_iff_of_nodup ((List.mergeSort_perm L leR).nodup_iff.mpr n) ((List.mergeSort_perm L' leR).nodup_iff.mpr n')).mpr fun r => ?_
    rw [List.mem_mergeSort, List.mem_mergeSort, h]
  exact p.eq_of_pairwise (fun a b _ _ h1 h2 => leR_anti h1 h2) (PySem.W.sort_pairwise leR_total L) (PySem.W.sort_pairwise leR_total L')
def leP (p q : Addr × List Int) : Bool := PySem.W.dataLe false (fun x : Addr × List Int => rowD x.2) p q
theorem sort_rows (ps : List (Addr × List Int)) : (ps.mergeSort leP).map (·.2) = (ps.map (·.2)).mergeSort leR :=
  PySem.W.sort_maps (fun p : Addr × List Int => p.2) fun a _ b _ => rfl
theorem perm_map {α β : Type} {f : α → β} {l m : List β} (p : l.Perm m) : ∀ {L : List α}, m = L.map f → ∃ L' : List α, L'.Perm L ∧ l = L'.map f := by
  induction p with
  | nil => intro L e; cases L with
    | nil => exact ⟨[], .nil, rfl⟩
    | cons _ _ => cases e
  | cons x p ih => intro L e; cases L with
    | nil => cases e
    | cons y L =>
      rw [List.map_cons] at e
      injection e with e1 e2
      obtain ⟨L', pl, el⟩ := ih e2
      exact ⟨y :: L', pl.cons y, by rw [List.map_cons, e1, el]⟩
  | swap x y l =>
    intro L e
    match L, e with
    | a :: b :: L, e =>
      rw [List.map_cons, List.map_cons] at e
      injection e with e1 e2
      injection e2 with e2 e3
      exact ⟨b :: a :: L, List.Perm.swap a b L, by rw [List.map_cons, List.map_cons, e1, e2, e3]⟩
    | [], e => cases e
    | [_], e => cases e
  | trans _ _ ih1 ih2 =>
    intro L e
    obtain ⟨L1, p1, e1⟩ := ih2 e
    obtain ⟨L2, p2, e2⟩ := ih1 e1
    exact ⟨L2, p2.trans p1, e2⟩
section
variable {X : Cx}
/-- sorted(s), s a set of rows that are not empty -/
def rSortedS (P : Program) (w : World) : List V → Hp → VK → Prop := fun vs H Q => ∃ (a : Addr) (L : List (Addr × List Int)), vs = [V.ref a] ∧ H a = some (SetTO P w a L) ∧ (∀ p ∈ L, RowV H (.ref p.1) p.2 ∧ p.2 ≠ []) ∧
  ∀ (L' : List (Addr × List Int)) (q : Addr), L'.Perm L → (L.map (·.2)).Nodup → L.length < 64 → H q = none → Q (.ref q) (upd H q (.lst ((L'.mergeSort leP).map fun p => V.ref p.1)))
theorem each_rows : ∀ (ps : List (Addr × List Int)) (its : List Value), its = ps.map (fun p => Value.ref p.1) → PySem.W.EachIs (fun (v : Value) (p : Addr × List Int) => v = .ref p.1) its ps
  | [], its, e => by subst e; exact .nil
  | p :: ps, its, e => by subst e; exact .cons rfl (each_rows ps _ rfl)
theorem vals_rows : ∀ (ps : List (Addr × List Int)) (its : List Value), PySem.W.EachIs (fun (v : Value) (p : Addr × List Int) => v = .ref p.1) its ps → Vals (ps.map fun p => V.ref p.1) its
  | [], its, e => by cases e; exact .nil
  | p :: ps, its, e => by
    cases e with
    | cons a b => exact .cons a (vals_rows ps _ b)
theorem cr_sortedS (hu : X.A.units + 64 < cLine) (hc : X.calm = true) : CallR X (.builtin "sorted") (rSortedS X.prog X.w) := by
  intro pins s σ H vs us Q I r h
  obtain ⟨a, L, rfl, ha, hk, q⟩ := h
  obtain rfl := Vals.ref1 r
  have R0 : SetT0 X.prog X.w s.heap a L := (I.hok a _ ha).1
  have isT : ∀ p ∈ L, IsT X.prog X.w s.heap p.2 p.1 := fun p hp => by
    obtain ⟨b, e, hb⟩ := (hk p hp).1
    cases e
    exact I.isT (.inl (.inl hb))
  obtain ⟨es, ep, t, R⟩ := R0.full isT
  obtain ⟨o, ho, hex, hd⟩ := R.ob
  have few := R.few
  have hsz := R.size
  refine Calls.call_function_entry kind_sorted plain_sorted entry_sorted (args_sorted1 _) ?_
  unfold Builtin.«sorted»
  refine wpAny_bind (m := checkCount "sorted" 1 1 _) (wpAny_pure ?_)
  refine wpAny_bind (collect_set (A := X.A.in1) (I.ok.hd hc) ⟨o, ho, hex.1, hd⟩ R.fits (by unfold scanBound; omega) R.tab.ris R.led fun s1 vs k1 hz g1 o1 pm => ?_)
  have er : es.toList.map (·.2) = L.map fun p => Value.ref p.1 := by
    rw [R.rows, show rowsOf X.prog X.w L = L.map fun p => (thash X.prog X.w p.2, Value.ref p.1) from rfl, List.map_map]
    rfl
  obtain ⟨L', pL, eL⟩ := perm_map (f := fun p : Addr × List Int => Value.ref p.1) pm er
  have ei := each_rows L' vs eL
  have lL : L'.length < 64 := by rw [pL.length_eq]; exact few
  have lvs : vs.length = L'.length := by rw [eL, List.length_map]
  have z64 : (64 : Nat) ≤ sizeLine := by decide
  refine wpAny_bind (wpAny_newList ?_ (by omega))
  have keep : ∀ b o, s.heap.get? b = some o → (s1.heap.push { cls := .type "list", data := .seq vs.toArray }).get? b = some o := fun b o e => Heap.get?_push_of_some _ (k1 b o e)
  have I1 : Inv X pins σ H { s with heap := s1.heap.push { cls := .type "list", data := .seq vs.toArray }, toks := s.toks } := I.kept keep
  refine wpAny_bind (wpAny_holding (wpAny_mono (PySem.W.list_sort_data (s := { s1 with heap := s1.heap.push { cls := .type "list", data := .seq vs.toArray } }) (n := 0) (vs := vs) (bs := L') (enc := fun x : Addr × List Int => rowD x.2) (R := fun (v : Value) (p : Addr × List Int) => v = .ref p.1)
    (Q := fun v s' => v = .none ∧ ∃ (out : List Value), PySem.W.EachIs (fun (v : Value) (p : Addr × List Int) => v = .ref p.1) out (L'.mergeSort leP) ∧ s' = { s1 with heap := sortedHeap (s1.heap.push { cls := .type "list", data := .seq vs.toArray }) s1.heap.objs.size vs out.toArray })
    (Heap.get?_push_size _ rfl) ei (each_mono2 ei fun v p hp e => ?_) (PySem.W.AllAlike.of fun b b' => alike_row b.2 b'.2) (.inl fun d hd => ?_) (by omega) (fun b hb => ?_) fun out ho he => ⟨rfl, out, he, rfl⟩) (fun x s' hx => ?_) fun _ _ e => e))
  · subst e
    exact ⟨[], row_reads I1.hok (hk p (pL.mem_iff.mp hp)).1 rfl, by simp⟩
  · obtain ⟨p, hp, rfl⟩ := List.mem_map.mp hd
    have nz := (hk p (pL.mem_iff.mp hp)).2
    cases e : p.2 with
    | nil => exact absurd e nz
    | cons r M => exact ⟨.int r, M.map PyData.int, rfl⟩
  · have : (rowD b.2).depth = 1 := by
      unfold rowD
      rw [PyData.depth, PySem.W.depth_ints]
    show X.A.units + 1 + 1 + (rowD b.2).depth < cLine
    omega
  · obtain ⟨_, out, he, rfl⟩ := hx
    obtain ⟨c, hc2⟩ := sortedHeap_at (h := s1.heap.push { cls := .type "list", data := .seq vs.toArray }) (a := s1.heap.objs.size) (vs := vs) (n := 0) (out := out.toArray) (Heap.get?_push_size _ rfl)
    have hn : H s1.heap.objs.size = none := I.hok.fresh hz
    have kk : ∀ b o, s.heap.get? b = some o → (sortedHeap (s1.heap.push { cls := .type "list", data := .seq vs.toArray }) s1.heap.objs.size vs out.toArray).get? b = some o := fun b o e => by
      have hb := Heap.lt_size (k1 b o e)
      have hp : (s1.heap.push { cls := .type "list", data := .seq vs.toArray }).get? b = some o := keep b o e
      rw [sortedHeap_old (Nat.ne_of_lt hb) (Heap.lt_size hp)]
      exact hp
    have lo : ((L'.mergeSort leP).map fun p => V.ref p.1).length ≤ sizeLine := by rw [List.length_map, List.length_mergeSort]; omega
    have J : Inv X pins σ (upd H s1.heap.objs.size (.lst ((L'.mergeSort leP).map fun p => V.ref p.1))) { s with heap := sortedHeap (s1.heap.push { cls := .type "list", data := .seq vs.toArray }) s1.heap.objs.size vs out.toArray, gens := s1.gens, drawn := s1.drawn, toks := s1.toks } :=
      I.call (ch := []) (Un.laid kk hz hn) (I.hok.laid kk hz ⟨lo, out, c, vals_rows _ _ he, hc2⟩) (by rw [g1]; exact I.bare) (fun _ z => nomatch z)
    have e1 : ({ s1 with heap := sortedHeap (s1.heap.push { cls := .type "list", data := .seq vs.toArray }) s1.heap.objs.size vs out.toArray } : Shared) = { s with heap := sortedHeap (s1.heap.push { cls := .type "list", data := .seq vs.toArray }) s1.heap.objs.size vs out.toArray, gens := s1.gens, drawn := s1.drawn, toks := s1.toks } := by
      cases s1
      cases s
      cases o1
      rfl
    rw [e1]
    exact wpAny_pure ⟨_, rfl, ⟨.ref s1.heap.objs.size, _, J, rfl, q L' _ pL R.nd few hn⟩⟩
end
end Sr
set_option Elab.async false
set_option linter.all false
set_option maxRecDepth 100000
set_option maxHeartbeats 4000000
namespace T81
open PySem PySem.Spec PyProof.Rows L2 Gd Zn Rp Dn Tb Gn En Zs Ct Op Oc Rg Rt Ro Dm Gx
theorem led1 (a x : Int) : ledM [[a]] [x] = [a * x] := by simp [ledM, dot]
theorem led2 (a b c d x y : Int) : ledM [[a, b], [c, d]] [x, y] = [a * x + b * y, c * x + d * y] := by simp [ledM, dot]
theorem led3 (a b c d e f g h i x y z : Int) : ledM [[a, b, c], [d, e, f], [g, h, i]] [x, y, z] = [a * x + (b * y + c * z), d * x + (e * y + f * z), g * x + (h * y + i * z)] := by simp [ledM, dot]
theorem led_len {n : Nat} {M : List (List Int)} {xs : List Int} (hM : Sh n M) : (ledM M xs).length = n := by unfold ledM; rw [List.length_map, hM.len]
theorem led_noughts {n : Nat} {M : List (List Int)} (h1 : 1 ≤ n) (h3 : n ≤ 3) (hM : Sh n M) : ledM M (List.replicate n 0) = List.replicate n 0 := by
  have : n = 1 ∨ n = 2 ∨ n = 3 := by omega
  rcases this with rfl | rfl | rfl
  · obtain ⟨a, rfl⟩ := sh1 hM rfl
    show ledM [[a]] [0] = [0]
    rw [led1]; simp
  · obtain ⟨a, b, c, d, rfl⟩ := sh2 hM rfl
    show ledM [[a, b], [c, d]] [0, 0] = [0, 0]
    rw [led2]; simp
  · obtain ⟨a, b, c, d, e, f, g, h, i, rfl⟩ := sh3 hM rfl
    show ledM [[a, b, c], [d, e, f], [g, h, i]] [0, 0, 0] = [0, 0, 0]
    rw [led3]; simp
theorem small_le {x : Int} {b : Nat} (hb : b ≤ 20000) (h : x.natAbs < 2 ^ b) : Small x := ⟨b, hb, h⟩
theorem led_small {n b c : Nat} {M : List (List Int)} {xs : List Int} (h1 : 1 ≤ n) (h3 : n ≤ 3) (hM : SqE n b M) (hx : xs.length = n) (sx : ∀ x ∈ xs, x.natAbs < 2 ^ c) : ∀ y ∈ ledM M xs, y.natAbs < 2 ^ (b + c + 2) := by
  intro y hy
  unfold ledM at hy
  obtain ⟨r, hr, rfl⟩ := List.mem_map.mp hy
  have lr := hM.row r hr
  have br := hM.bd r hr
  have key : ∀ (r xs : List Int), (∀ x ∈ r, x.natAbs < 2 ^ b) → (∀ x ∈ xs, x.natAbs < 2 ^ c) → (dot r xs).natAbs ≤ r.length * 2 ^ (b + c) := fun r => by
    induction r with
    | nil => intro xs _ _; simp [dot]
    | cons a r ih =>
      intro xs ha hx
      cases xs with
      | nil => simp [dot]
      | cons x xs =>
        have e : dot (a :: r) (x :: xs) = a * x + dot r xs := by simp [dot]
        rw [e, List.length_cons, Nat.add_mul, Nat.one_mul]
        have i1 := ih xs (fun y hy => ha y (List.mem_cons_of_mem _ hy)) fun y hy => hx y (List.mem_cons_of_mem _ hy)
        have i2 : (a * x).natAbs ≤ 2 ^ (b + c) := by
          rw [Int.natAbs_mul, Nat.pow_add]
          exact Nat.mul_le_mul (Nat.le_of_lt (ha a List.mem_cons_self)) (Nat.le_of_lt (hx x List.mem_cons_self))
        have := Int.natAbs_add_le (a * x) (dot r xs)
        omega
  have := key r xs br sx
  have h2 : r.length * 2 ^ (b + c) ≤ 3 * 2 ^ (b + c) := Nat.mul_le_mul_right _ (by omega)
  have h4 : 3 * 2 ^ (b + c) < 2 ^ (b + c + 2) := by
    rw [Nat.pow_add 2 (b + c)]
    have := Nat.two_pow_pos (b + c)
    omega
  omega
theorem pot_of5 {H H' : Hp} {p : Addr} (h : PotOk H p) (s : Same H H') : PotOk H' p := (RX.of (p := some p) s).pot p rfl h
theorem mx_l {p : Addr} {H H' : Hp} {vs : List V} {L : List (List (List Int))} (s : RX (some p) H H') (hp : PotOk H p) (h : MxL H vs L) : MxL H' vs L := ⟨h.len, fun i v e => by
  obtain ⟨M, a, b⟩ := h.get i v e
  exact ⟨M, a, mx_rx s hp b⟩⟩
theorem LotV.rx {P : Program} {w : World} {C CL : Addr} {H H' : Hp} {v : V} {n : Nat} {h1 : 1 ≤ n} {h3 : n ≤ 3} {Ms : List (GL n)} {e : Nat} {ys : List En} {p : Addr} (s : RX (some p) H H') (hp : PotOk H p) (yp : ∀ y ∈ ys, y.2.2 ≠ p) (h : LotV P w C CL H v h1 h3 Ms e ys) : LotV P w C CL H' v h1 h3 Ms e ys := by
  obtain ⟨⟨a, dx, m, xs, d, o, ev, ha, hm, ht, hl⟩, wk, l1, l4, be⟩ := h
  have k : KS H H' := KS.rx s fun q e => by cases e; exact hp
  have np : m ≠ p := fun z => by
    subst z
    obtain ⟨x, y, e1, _⟩ := hp
    rw [hm] at e1
    cases e1
    obtain ⟨M, _, t⟩ := ht.get 0 (.int x) rfl
    obtain ⟨_, _, _, z, _⟩ := t.tab
    cases z
  refine ⟨⟨a, dx, m, xs, d, o, ev, k _ _ (fun _ z => by cases z) ha, s.keep _ _ (fun z => np (Option.some.inj z).symm) hm, ⟨ht.len, fun i v e => ?_⟩, hl.by fun b u q n1 _ => k b u n1 q⟩, ⟨wk.one, fun y hy => ?_, wk.len, wk.clo⟩, l1, l4, be⟩
  · obtain ⟨M, a, t⟩ := ht.get i v e
    exact ⟨M, a, t.ks k⟩
  · obtain ⟨l, a, b⟩ := wk.en y hy
    exact ⟨l, s.keep _ _ (fun z => yp y hy (Option.some.inj z).symm) a, b⟩
theorem ints_ofB {rs : List V} (h : ∀ (i : Nat) (v : V), rs[i]? = some v → ∃ x : Int, v = .int x ∧ x.natAbs ≤ 9) : ∃ xs : List Int, rs = xs.map V.int ∧ ∀ x ∈ xs, x.natAbs ≤ 9 := by
  induction rs with
  | nil => exact ⟨[], rfl, fun x hx => (nomatch hx)⟩
  | cons r rs ih =>
    obtain ⟨x, rfl, bx⟩ := h 0 r rfl
    obtain ⟨xs, rfl, b⟩ := ih fun i v e => h (i + 1) v e
    exact ⟨x :: xs, rfl, fun y hy => by
      rcases List.mem_cons.mp hy with rfl | hy
      · exact bx
      · exact b y hy⟩
theorem nd_map {α β : Type} {f : α → β} : ∀ {L : List α}, L.Nodup → (∀ a ∈ L, ∀ b ∈ L, f a = f b → a = b) → (L.map f).Nodup
  | [], _, _ => List.nodup_nil
  | x :: L, nd, h => by
    obtain ⟨n1, n2⟩ := List.nodup_cons.mp nd
    rw [List.map_cons]
    refine List.nodup_cons.mpr ⟨fun hm => ?_, nd_map n2 fun a ha b hb => h a (List.mem_cons_of_mem _ ha) b (List.mem_cons_of_mem _ hb)⟩
    obtain ⟨y, hy, e⟩ := List.mem_map.mp hm
    exact n1 (h x List.mem_cons_self y (List.mem_cons_of_mem _ hy) e.symm ▸ hy)
theorem fib_sum {α β : Type} [DecidableEq β] {f : α → β} : ∀ {D : List β} {S : List α}, D.Nodup → (∀ x ∈ S, f x ∈ D) → S.length = (D.map fun d => (S.filter fun x => decide (f x = d)).length).sum
  | [], S, _, h => by
    cases S with
    | nil => rfl
    | cons x S => exact absurd (h x List.mem_cons_self) (by simp)
  | d :: D, S, nd, h => by
    obtain ⟨n1, n2⟩ := List.nodup_cons.mp nd
    have ih := fib_sum (f := f) (D := D) (S := S.filter fun x => !decide (f x = d)) n2 fun x hx => by
      obtain ⟨a, b⟩ := List.mem_filter.mp hx
      rcases List.mem_cons.mp (h x a) with e | e
      · rw [e] at b; simp at b
      · exact e
    have e1 : S.length = (S.filter fun x => decide (f x = d)).length + (S.filter fun x => !decide (f x = d)).length := by
      clear ih h
      induction S with
      | nil => rfl
      | cons x S ihS =>
        rw [List.filter_cons, List.filter_cons]
        by_cases z : f x = d
        · rw [decide_eq_true z]; simp; omega
        · rw [decide_eq_false z]; simp; omega
    rw [List.map_cons, List.sum_cons, e1, ih]
    congr 2
    refine List.map_congr_left fun c hc => ?_
    rw [List.filter_filter]
    congr 1
    refine List.filter_congr fun x _ => ?_
    by_cases z : f x = c
    · have : f x ≠ d := fun e => n1 (by rw [← e, z]; exact hc)
      rw [decide_eq_true z, decide_eq_false this]; rfl
    · rw [decide_eq_false z]; rfl
theorem sum_const {α : Type} {k : Nat} {g : α → Nat} : ∀ {D : List α}, (∀ d ∈ D, g d = k) → (D.map g).sum = D.length * k
  | [], _ => by simp
  | d :: D, h => by
    rw [List.map_cons, List.sum_cons, h d List.mem_cons_self, sum_const fun d hd => h d (List.mem_cons_of_mem _ hd), List.length_cons, Nat.add_mul]
    omega
/-- nothing but a table may have stood there -/
def NewL (H : Hp) (c : Addr) : Prop := ∀ o, (∀ ps, o ≠ .tbl ps) → H c ≠ some o
theorem mthL {P : Program} {w : World} {C CL : Addr} {H : Hp} {v : V} {n e : Nat} {h1 : 1 ≤ n} {h3 : n ≤ 3} {Ms : List (GL n)} {ys : List En} {m : Str} {R : Prop} (h : LotV P w C CL H v h1 h3 Ms e ys) (k : R) (e1 : ¬ m = ("_words" : Str) := by decide +kernel) (e2 : ¬ m = ("_makers" : Str) := by decide +kernel) : ∃ a dx fs, v = .ref a ∧ H a = some (.ins CL dx fs) ∧ fs.lookup m = none ∧ R := by
  obtain ⟨p, dx, m', xs, d, o, rfl, hp, _⟩ := h.ex
  exact ⟨p, dx, _, rfl, hp, fldsL_no e1 e2, k⟩
section
variable {n b : Nat} {Ms : List (GL n)} {S : List (List (List Int))}
theorem lr_und (f : FinG Ms b) (h1 : 1 ≤ n) (h3 : n ≤ 3) {g : GL n} (h : LR Ms g.val) : LR Ms (GL.inv g).val := by
  obtain ⟨N, _, uN, cN, rN, _⟩ := f.ex
  have key : ∀ {M : List (List Int)}, LR Ms M → ∀ g : GL n, g.val = M → ∀ X ∈ N, mulM n X (GL.inv g).val ∈ N := by
    intro M h
    induction h with
    | unit =>
      intro g eg X hX
      obtain ⟨x, rfl⟩ := lr_gl (rN X hX) h1 h3
      have e1 : g = GL.one h1 h3 := Subtype.ext eg
      have e2 : mulM n x.val (GL.inv g).val = x.val := by
        rw [e1, GL.inv_one]
        exact congrArg Subtype.val (GL.mul_one (h1 := h1) (h3 := h3) x)
      rw [e2]
      exact hX
    | step hg hM ih =>
      rename_i s M
      intro g eg X hX
      obtain ⟨m, rfl⟩ := lr_gl hM h1 h3
      obtain ⟨x, rfl⟩ := lr_gl (rN X hX) h1 h3
      have e1 : g = s * m := Subtype.ext eg
      have e2 : mulM n x.val (GL.inv g).val = mulM n (mulM n x.val (GL.inv m).val) (undM n s.val) := by
        rw [e1, GL.inv_mul_rev]
        exact congrArg Subtype.val (GL.mul_assoc x (GL.inv m) (GL.inv s)).symm
      rw [e2]
      exact (cN _ (ih m rfl _ hX) s hg).2
  have := key h g rfl (unitM n) uN
  rw [show mulM n (unitM n) (GL.inv g).val = (GL.inv g).val from unit_mulS h1 h3 (GL.inv g).property.sh] at this
  exact rN _ this
theorem lr_mulL {Ms : List (GL n)} {A : GL n} {M : List (List Int)} (h1 : 1 ≤ n) (h3 : n ≤ 3) (hA : LR Ms A.val) (hM : LR Ms M) : LR Ms (mulM n A.val M) := by
  have key : ∀ {X}, LR Ms X → LR Ms (mulM n X M) := fun {X} hX => by
    obtain ⟨m, rfl⟩ := lr_gl hM h1 h3
    induction hX with
    | unit =>
      rw [show mulM n (unitM n) m.val = m.val from unit_mulS h1 h3 m.property.sh]
      exact hM
    | @step s X hs hX ih =>
      obtain ⟨x, rfl⟩ := lr_gl hX h1 h3
      rw [show mulM n (mulM n s.val x.val) m.val = mulM n s.val (mulM n x.val m.val) from congrArg Subtype.val (GL.mul_assoc s x m)]
      exact .step hs ih
  exact key hA
theorem fib_round (f : FinG Ms b) (h1 : 1 ≤ n) (h3 : n ≤ 3) (nd : S.Nodup) (hS : ∀ M, M ∈ S ↔ LR Ms M) {r : List Int} (lr : r.length = n) {A : GL n} (hA : LR Ms A.val) : (S.filter fun X => decide (ledM X r = ledM A.val r)).length = (S.filter fun X => decide (ledM X r = r)).length := by
  have hi := lr_und f h1 h3 hA
  refine Nat.le_antisymm ?_ ?_
  · have nm : ((S.filter fun X => decide (ledM X r = ledM A.val r)).map fun X => mulM n (GL.inv A).val X).Nodup := nd_map (nd.filter _) fun X hX Y hY e => by
      obtain ⟨x, rfl⟩ := lr_gl ((hS _).mp (List.mem_filter.mp hX).1) h1 h3
      obtain ⟨y, rfl⟩ := lr_gl ((hS _).mp (List.mem_filter.mp hY).1) h1 h3
      exact congrArg Subtype.val (GL.left_cancel (a := GL.inv A) (Subtype.ext e))
    have := nd_len (N := S.filter fun X => decide (ledM X r = r)) nm fun Z hZ => by
      obtain ⟨X, hX, rfl⟩ := List.mem_map.mp hZ
      obtain ⟨a, e⟩ := List.mem_filter.mp hX
      obtain ⟨x, rfl⟩ := lr_gl ((hS _).mp a) h1 h3
      refine List.mem_filter.mpr ⟨(hS _).mpr (lr_mulL h1 h3 hi ((hS _).mp a)), decide_eq_true ?_⟩
      rw [led_mul h1 h3 (GL.inv A).property.sh x.property.sh lr, of_decide_eq_true e]
      exact led_back A.property lr
    rwa [List.length_map] at this
  · have nm : ((S.filter fun X => decide (ledM X r = r)).map fun X => mulM n A.val X).Nodup := nd_map (nd.filter _) fun X hX Y hY e => by
      obtain ⟨x, rfl⟩ := lr_gl ((hS _).mp (List.mem_filter.mp hX).1) h1 h3
      obtain ⟨y, rfl⟩ := lr_gl ((hS _).mp (List.mem_filter.mp hY).1) h1 h3
      exact congrArg Subtype.val (GL.left_cancel (a := A) (Subtype.ext e))
    have := nd_len (N := S.filter fun X => decide (ledM X r = ledM A.val r)) nm fun Z hZ => by
      obtain ⟨X, hX, rfl⟩ := List.mem_map.mp hZ
      obtain ⟨a, e⟩ := List.mem_filter.mp hX
      obtain ⟨x, rfl⟩ := lr_gl ((hS _).mp a) h1 h3
      refine List.mem_filter.mpr ⟨(hS _).mpr (lr_mulL h1 h3 hA ((hS _).mp a)), decide_eq_true ?_⟩
      rw [led_mul h1 h3 A.property.sh x.property.sh lr, of_decide_eq_true e]
    rwa [List.length_map] at this
/-- as many rows in a round, times those that stay, as members -/
theorem count_round (f : FinG Ms b) (h1 : 1 ≤ n) (h3 : n ≤ 3) (nd : S.Nodup) (hS : ∀ M, M ∈ S ↔ LR Ms M) {r : List Int} (lr : r.length = n) {D : List (List Int)} (ndD : D.Nodup) (hD : ∀ X, X ∈ D ↔ ∃ A ∈ S, X = ledM A r) : D.length * (S.filter fun X => decide (ledM X r = r)).length = S.length := by
  rw [fib_sum (f := fun X => ledM X r) ndD fun X hX => (hD _).mpr ⟨X, hX, rfl⟩]
  refine (sum_const fun d hd => ?_).symm
  obtain ⟨A, hA, rfl⟩ := (hD d).mp hd
  obtain ⟨a, rfl⟩ := lr_gl ((hS A).mp hA) h1 h3
  exact fib_round f h1 h3 nd hS lr ((hS _).mp hA)
/-- one of a round has the same round -/
theorem round_same (f : FinG Ms b) (h1 : 1 ≤ n) (h3 : n ≤ 3) (hS : ∀ M, M ∈ S ↔ LR Ms M) {r : List Int} (lr : r.length = n) {A : GL n} (hA : LR Ms A.val) (X : List Int) : (∃ B ∈ S, X = ledM B (ledM A.val r)) ↔ ∃ B ∈ S, X = ledM B r := by
  have hi := lr_und f h1 h3 hA
  constructor
  · rintro ⟨B, hB, e⟩
    obtain ⟨x, rfl⟩ := lr_gl ((hS _).mp hB) h1 h3
    exact ⟨mulM n x.val A.val, (hS _).mpr (lr_mulL h1 h3 ((hS _).mp hB) hA), by rw [e, led_mul h1 h3 x.property.sh A.property.sh lr]⟩
  · rintro ⟨B, hB, e⟩
    obtain ⟨x, rfl⟩ := lr_gl ((hS _).mp hB) h1 h3
    refine ⟨mulM n x.val (GL.inv A).val, (hS _).mpr (lr_mulL h1 h3 ((hS _).mp hB) hi), ?_⟩
    rw [led_mul h1 h3 x.property.sh (GL.inv A).property.sh (by unfold ledM; rw [List.length_map]; exact A.property.sh.len), e, show ledM (GL.inv A).val (ledM A.val r) = r from led_back A.property lr]
end
end T81
set_option Elab.async false
set_option linter.all false
set_option maxRecDepth 100000
set_option maxHeartbeats 4000000
namespace T81
open PySem PySem.Spec PyProof.Rows L2 Gd Zn Rp Dn Tb Gn En Zs Ct Op Oc Rg Rt Ro Dm Gx
/-- [x for x in .. if ..]: what is told of the elements stays; W: what stands after so many steps -/
theorem lc_flt {α : Type} {T : List (Addr × Str)} {J : It} {g : TG} {tt : TT} {te : TE} {vs : List Nat} {σ : L2.St} {H1 : Hp} {Q : VK} (E : V → α → Hp → Prop) (mono : ∀ v x H H', GT T H H' → E v x H → E v x H') (kst : ∀ v x H H', KS H H' → E v x H → E v x H') (n : Nat) (W : Nat → List α) (hn : n ≤ 1000) (w0 : W 0 = []) (wl : ∀ i, i ≤ n → (W i).length ≤ i)
    (go : ∀ i H, i < n → GT T H1 H → J.go i H) (st : ∀ H, GT T H1 H → J.stop n H)
    (step : ∀ i x H H' (C : V → Hp → Prop) (C0 : Hp → Prop), i < n → GT T H1 H → J.yld i H x H' → (∀ y M H4, GT T H H4 → W (i + 1) = W i ++ [M] → E y M H4 → C y H4) → (∀ H4, GT T H H4 → W (i + 1) = W i → C0 H4) →
      g x (wipe σ vs) H' fun σ2 H2 => wipe σ2 vs = wipe σ vs ∧ tt σ2 H2 fun b H3 => if b = true then te σ2 H3 C else C0 H3)
    (fin : ∀ D H xs, H1 D = none → GT T H1 H → H D = some (.lst xs) → xs.length = (W n).length → (∀ (i : Nat) (v : V), xs[i]? = some v → ∃ x, (W n)[i]? = some x ∧ E v x H) → Q (.ref D) H) : LcB g tt te vs σ Q J H1 := by
  intro D nD
  refine ⟨fun i m H => i ≤ n ∧ m = n - i ∧ GT T H1 H ∧ ∃ xs, H D = some (.lst xs) ∧ xs.length = (W i).length ∧ ∀ (j : Nat) (v : V), xs[j]? = some v → ∃ x, (W i)[j]? = some x ∧ E v x H, ⟨n, Nat.zero_le _, rfl, GT.new nD, [], upd_same, by rw [w0]; rfl, fun j v e => by simp at e⟩, ?_⟩
  rintro i m H ⟨hi, rfl, s1, xs, hD, hl, hE⟩
  by_cases lt : i < n
  · refine .inr ⟨go i H lt s1, fun H' => i + 1 ≤ n ∧ GT T H1 H' ∧ ∃ xs, H' D = some (.lst xs) ∧ xs.length = (W (i + 1)).length ∧ ∀ (j : Nat) (v : V), xs[j]? = some v → ∃ x, (W (i + 1))[j]? = some x ∧ E v x H', fun H' h => ⟨n - (i + 1), by omega, h.1, rfl, h.2⟩, fun x H' hy => ?_⟩
    refine step i x H H' _ _ lt s1 hy (fun y M H4 s4 e4 r4 => ?_) fun H4 s4 e4 => ?_
    · have hD4 := s4.lst hD
      have k5 : KS H4 (upd H4 D (.lst (xs ++ [y]))) := KS.lst hD4
      refine ⟨xs, hD4, ?_, lt, GT.mut (s1.trans s4) nD hD4, _, upd_same, by rw [e4, List.length_append, List.length_append, hl]; rfl, fun j v e => ?_⟩
      · have h2 := wl i hi
        exact Nat.lt_of_lt_of_le (by omega : xs.length < 1001) (by decide)
      · rw [e4]
        by_cases z : j < xs.length
        · rw [List.getElem?_append_left z] at e
          obtain ⟨x', a, b⟩ := hE j v e
          exact ⟨x', by rw [List.getElem?_append_left (by omega)]; exact a, kst _ _ _ _ k5 (mono _ _ _ _ s4 b)⟩
        · rw [List.getElem?_append_right (by omega)] at e
          have j0 : j - xs.length = 0 := by
            have := (List.getElem?_eq_some_iff.mp e).1
            simp at this
            omega
          rw [j0] at e
          cases e
          exact ⟨M, by rw [List.getElem?_append_right (by omega), ← hl, j0]; rfl, kst _ _ _ _ k5 r4⟩
    · refine ⟨lt, s1.trans s4, xs, s4.lst hD, by rw [e4]; exact hl, fun j v e => ?_⟩
      rw [e4]
      obtain ⟨x', a, b⟩ := hE j v e
      exact ⟨x', a, mono _ _ _ _ s4 b⟩
  · have e : i = n := by omega
    subst e
    exact .inl ⟨st H s1, fin D H xs nD s1 hD hl hE⟩
theorem filter_take {α : Type} {p : α → Bool} {L : List α} {i : Nat} {x : α} (e : L[i]? = some x) : (L.take (i + 1)).filter p = (L.take i).filter p ++ (if p x = true then [x] else []) := by
  rw [List.take_add_one, e, List.filter_append]
  congr 1
  cases h : p x <;> simp [h]
section
variable {P : Program} {w : World} {K : PySem.W.Frag} {mg : Str → Option Value} {base : Heap} {C CL : Addr}
abbrev st_clr : Stmt := top 59
theorem sc_clr : FnScope ["lot", "row"] ["lot", "row"] (defScope st_clr) := ⟨rfl, rfl, rfl, by decide +kernel, rfl, by decide +kernel, by decide +kernel⟩
def sp_clr (P : Program) (w : World) (C CL : Addr) : Sp := fun vs H Q _ => ∃ (v o : V) (xs : List Int) (n e : Nat) (h1 : 1 ≤ n) (h3 : n ≤ 3) (Ms : List (GL n)) (ys : List En), vs = [v, o] ∧ LotV P w C CL H v h1 h3 Ms e ys ∧ SeqV H o (iD xs) ∧ xs.length = n ∧ ∀ H', Same H H' → Q .non H'
theorem ok_clr {f : Addr} {fd : FuncData} (F : Fun K "_check_lot_and_row" "_check_lot_and_row" st_clr f fd) (Lc : Lcl K mg CL) (D1 : Def P w K mg base "check_lot" 1 ["lot"] (sp_cl CL)) (D2 : Def P w K mg base "check_row" 4 ["size", "row"] sp_check_row) (P1 : Prp P w K mg base CL "size" 3 (sp_sizeL P w C CL)) : FnOk P w K mg base CX0 5 f fd ["lot", "row"] (sp_clr P w C CL) := by
  refine F.ok sc_clr (fun vs H Q E h => ?_) (fun cdv A outer s H vs Q E hr h => ?_)
  · obtain ⟨v, o, xs, n, e, h1, h3, Ms, ys, rfl, _⟩ := h
    rfl
  · obtain ⟨v, o, xs, n, e, h1, h3, Ms, ys, rfl, hL, ho, lx, q⟩ := h
    obtain ⟨p, dx, m', xs0, d, ob, rfl, hp, _⟩ := hL.ex
    refine ⟨_, pss_cons (ps_expr (pe_def D1 hr (pa_cons (pv 0) pa_nil))) (pss_one (ps_expr (pe_def D2 hr (pa_cons (pe_prp P1 Lc.cl hr (pv 0)) (pa_cons (pv 1) pa_nil))))), ?_⟩
    refine r_seq (a1 ⟨_, rfl, p, dx, _, rfl, hp, ?_⟩)
    obtain ⟨dd, av, ei, hd⟩ := T81.SeqV.any ho
    refine r_next ?_
    refine ⟨_, rfl, p_sizeL hL ?_⟩
    refine ⟨_, rfl, o, dd, n, rfl, av, ?_, row_true hd h1 h3 lx, fun H' s => q H' s⟩
    rw [ei]
    unfold iD
    rw [List.length_map]
    omega
end
end T81
set_option Elab.async false
set_option linter.all false
set_option maxRecDepth 100000
set_option maxHeartbeats 4000000
namespace T81
open PySem PySem.Spec PyProof.Rows L2 Gd Zn Rp Dn Tb Gn En Zs Ct Op Oc Rg Rt Ro Dm Gx
theorem row_ks {H : Hp} : ∀ {rs : List V} {L : List (List Int)}, rs.length = L.length → (∀ (i : Nat) (v : V), rs[i]? = some v → ∃ r, L[i]? = some r ∧ RowV H v r) → ∃ ks : List (Addr × List Int), rs = ks.map (fun p => V.ref p.1) ∧ L = ks.map (·.2) ∧ ∀ p ∈ ks, RowV H (.ref p.1) p.2
  | [], [], _, _ => ⟨[], rfl, rfl, fun p hp => (nomatch hp)⟩
  | [], _ :: _, h, _ => by simp at h
  | _ :: _, [], h, _ => by simp at h
  | v :: rs, r :: L, h, k => by
    obtain ⟨r', e, b, rfl, hb⟩ := k 0 v rfl
    cases e
    obtain ⟨ks, e1, e2, e3⟩ := row_ks (rs := rs) (L := L) (by simpa using h) fun i v e => k (i + 1) v e
    refine ⟨(b, r) :: ks, by rw [e1]; rfl, by rw [e2]; rfl, fun p hp => ?_⟩
    rcases List.mem_cons.mp hp with rfl | hp
    · exact ⟨b, rfl, hb⟩
    · exact e3 p hp
theorem ks_rows {H : Hp} : ∀ {ks : List (Addr × List Int)}, (∀ p ∈ ks, RowV H (.ref p.1) p.2) → RowsV H (ks.map fun p => V.ref p.1) (ks.map (·.2))
  | [], _ => .nil
  | p :: ks, h => .cons (h p List.mem_cons_self) (ks_rows fun q hq => h q (List.mem_cons_of_mem _ hq))
theorem rows_gt {T : List (Addr × Str)} {H H' : Hp} {vs : List V} {M : List (List Int)} (g : GT T H H') (h : RowsV H vs M) : RowsV H' vs M := by
  induction h with
  | nil => exact .nil
  | cons a _ ih =>
    obtain ⟨b, rfl, hb⟩ := a
    exact .cons ⟨b, rfl, g.tup hb⟩ ih
theorem noLd {r : V} : (fldsT r).lookup ("lead" : Str) = none := by unfold fldsT; rw [lookup_putF, if_neg (by decide +kernel)]; rfl
section
variable {P : Program} {w : World} {K : PySem.W.Frag} {mg : Str → Option Value} {base : Heap} {C CL : Addr}
abbrev st_ro : Stmt := top 57
abbrev N_ro : List Str := ["lot", "row", "member"]
theorem sc_ro : FnScope N_ro ["lot", "row"] (defScope st_ro) := ⟨rfl, rfl, rfl, by decide +kernel, rfl, by decide +kernel, by decide +kernel⟩
def sp_ro (P : Program) (w : World) (TT : List (Addr × Str)) (C CL : Addr) : Sp := fun vs H Q _ => ∃ (v o : V) (xs : List Int) (n e : Nat) (h1 : 1 ≤ n) (h3 : n ≤ 3) (Ms : List (GL n)) (ys : List En), vs = [v, o] ∧ LotV P w C CL H v h1 h3 Ms e ys ∧ ys.length ≤ mostN n ∧ LamX.Tabs TT H ∧ (∀ H', GT TT H H' → SeqV H' o (iD xs)) ∧ xs.length = n ∧ (∀ x ∈ xs, Small x) ∧
  ∀ c H' ws (F : List (List Int)), GT TT H H' → NewL H c → H' c = some (.lst ws) → F.Nodup → (∀ r, r ∈ F ↔ ∃ A ∈ ys.map (·.1), r = ledM A xs) → RowsV H' ws (F.mergeSort Sr.leR) → Q (.ref c) H'
theorem ok_ro {f : Addr} {fd : FuncData} {TT : List (Addr × Str)} (F : Fun K "round_of" "round_of" st_ro f fd) (hsort : mg "sorted" = none) (hset : mg "set" = none) (Tc : Tcl K mg C) (Lc : Lcl K mg CL) (D1 : Def P w K mg base "_check_lot_and_row" 5 ["lot", "row"] (sp_clr P w C CL)) (D3 : Mtd P w K mg base CL "members" 10 ["self"] (sp_mem P w TT C CL)) (D4 : Mtd P w K mg base C "lead" 5 ["self", "row"] (sp_lead C)) :
    FnOk P w K mg base CX0 12 f fd ["lot", "row"] (sp_ro P w TT C CL) := by
  refine F.ok sc_ro (fun vs H Q E h => ?_) (fun cdv A outer s H vs Q E hr h => ?_)
  · obtain ⟨v, o, xs, n, e, h1, h3, Ms, ys, rfl, _⟩ := h
    rfl
  · obtain ⟨v, o, xs, n, e, h1, h3, Ms, ys, rfl, hL, fin, hTT, ho, lx, sx, q⟩ := h
    obtain ⟨gb, gdb, mtb, Gb, bb⟩ := D3.ex
    obtain ⟨gl, gdl, mtl, Gl, bl⟩ := D4.ex
    have hr10 : Room 10 _ := hr.mono (by decide : 10 ≤ 11)
    have hr5 : Room 5 _ := hr.mono (by decide : 5 ≤ 11)
    refine ⟨_, pss_cons (ps_expr (pe_def D1 hr (pa_cons (pv 0) (pa_cons (pv 1) pa_nil))))
      (pss_one (ps_ret (pe_callB (Sr.cr_sortedS hr.units rfl) (by rfl) hsort (by rfl) (pa_cons (pe_callTy (r := rSetOfT K P w) (cr_setOfT rfl hr.units) (by rfl) hset (by rfl) (pa_cons (pe_lc (own := [("member", 2)]) (g := gName 2) (tt := tYes) rfl sc_ro.nd (pi_seq (pe_meth0 (pv 0) Lc.cl mtb Gb hr10 bb .nil pass0))
          (blkOk_by (N := N_ro) (sc := defScope st_ro) (by decide +kernel)) (fun _ _ _ _ _ => pg_name (i := 2) sc_ro.nd rfl (Or.inl rfl) (Or.inr rfl)) (fun _ _ _ _ _ => pts_nil)
          (fun _ _ _ _ _ => pe_meth (X := Cx.blk _ _ _ _ _ _) (pv 2) Tc.cl mtl Gl hr5 bl .nil pass0 (pa_cons (pv 1) pa_nil))) pa_nil)) pa_nil)))), ?_⟩
    refine r_seq (a2 ⟨_, rfl, _, rfl, v, o, xs, n, e, h1, h3, Ms, ys, rfl, hL, ho H (.of (Same.refl _)), lx, fun H1 s1 => ?_⟩)
    have hL1 := hL.same s1
    obtain ⟨p, dx, m', xs0, d, ob, rfl, hp, _⟩ := hL1.ex
    refine r_next (r_nret (r_cb (r_cons (r_cb (r_cons (tlc_call (i_seq (r_meth0 ?_))))))))
    refine ⟨_, rfl, mthL hL1 ⟨.ref p, n, e, h1, h3, Ms, ys, rfl, hL1, fin, hTT.ext s1, fun c H2 ps g2 nc hc tv eq => ⟨false, c, _, rfl, SqL.of hc, ?_⟩⟩⟩
    have mem : ∀ A, A ∈ ps.map (·.2) ↔ A ∈ ys.map (·.1) := fun A => by rw [eq, List.mem_mergeSort]
    have m48 := most_le n
    have lps : ps.length ≤ 48 := by
      have := congrArg List.length eq
      rw [List.length_map, List.length_mergeSort, List.length_map] at this
      omega
    have lm : (ps.map fun p => V.ref p.1).length = ps.length := List.length_map ..
    have gH2 : GT TT H H2 := (GT.of s1).trans g2
    have be := hL.be
    refine lc_ks (p := none) ps.length (fun i v G => ∃ r, ((ps.map (·.2)).map fun A => ledM A xs)[i]? = some r ∧ RowV G v r) (fun i v G G' kk h => by obtain ⟨r, e1, e2⟩ := h; exact ⟨r, e1, e2.mono kk⟩) has_none (by omega) (fun i G hi s => its_go (SqL.of (s.same _ _ hc)) (List.getElem?_eq_getElem (by omega))) (fun G s => its_stop (SqL.of (s.same _ _ hc)) (by omega)) (fun i x G G' C' hi s _ hy hC => ?_) fun D H3 rs nD s3 hD hl hE => ?_
    · obtain ⟨rfl, ex⟩ := its_yld hy (SqL.of (s.same _ _ hc))
      rw [List.getElem?_map, List.getElem?_eq_getElem hi] at ex
      cases ex
      have t := (tv _ (List.getElem_mem hi)).same s.same
      obtain ⟨a, da, r, ea, ha, hm⟩ := id t.tab
      refine ⟨rfl, r_meth1 ⟨_, rfl, a, da, _, ea, ha, noLd, _, rfl, _, o, ps[i].2, xs, n, by show [V.ref ps[i].1, _] = _; rw [ea], t.tab, ho _ (gH2.trans (.of s.same)), t.bd.sq (by unfold bN; omega), h1, h3, lx, sx, fun v' G2 s2 m2 => hC _ _ (RX.of s2) ⟨_, by rw [List.getElem?_map, List.getElem?_map, List.getElem?_eq_getElem hi]; rfl, m2⟩⟩⟩
    · obtain ⟨ks, rfl, e2, hk⟩ := row_ks (by rw [hl, List.length_map, List.length_map]) hE
      have lk : ks.length = ps.length := by have := hl; rwa [List.length_map] at this
      refine ⟨D, ks, rfl, SqL.of hD, fun p hp => ?_, by omega, fun a L na sub all => ?_⟩
      · obtain ⟨b, eb, hb⟩ := hk p hp
        cases eb
        exact .inl (.inl hb)
      have sa : Same H3 (upd H3 a (SetTO P w a L)) := same_new na
      have shk : ∀ p ∈ ks, ∃ A ∈ ys.map (·.1), p.2 = ledM A xs ∧ p.2.length = n := fun p hp => by
        have : p.2 ∈ ks.map (·.2) := List.mem_map_of_mem hp
        rw [← e2] at this
        obtain ⟨A, hA, e3⟩ := List.mem_map.mp this
        obtain ⟨p', hp', rfl⟩ := List.mem_map.mp hA
        exact ⟨_, (mem _).mp hA, e3.symm, by rw [← e3]; exact led_len (tv p' hp').bd.sh⟩
      refine ⟨a, L, rfl, upd_same, fun p hp => ⟨(hk p (sub p hp)).mono (KS.of sa), fun z => ?_⟩, fun L' q' pL nd few nq => ?_⟩
      · obtain ⟨A, hA, _, l⟩ := shk p (sub p hp)
        rw [z] at l
        simp at l
        omega
      · have sq' : Same (upd H3 a (SetTO P w a L)) (upd (upd H3 a (SetTO P w a L)) q' (.lst ((L'.mergeSort Sr.leP).map fun p => V.ref p.1))) := same_new nq
        have gA : GT TT H (upd H3 a (SetTO P w a L)) := gH2.trans (.of (s3.same.trans sa))
        refine q q' _ _ (L'.map (·.2)) (gA.trans (.of sq')) (fun o' nt u => ?_) upd_same ((pL.map (·.2)).nodup_iff.mpr nd) (fun r => ?_) ?_
        · rw [gA.n _ _ nt u] at nq
          cases nq
        · rw [(pL.map (·.2)).mem_iff]
          constructor
          · intro hr'
            obtain ⟨p, hp, rfl⟩ := List.mem_map.mp hr'
            obtain ⟨A, hA, e, _⟩ := shk p (sub p hp)
            exact ⟨A, hA, e⟩
          · rintro ⟨A, hA, rfl⟩
            have : ledM A xs ∈ ks.map (·.2) := by
              rw [← e2]
              exact List.mem_map.mpr ⟨A, (mem A).mpr hA, rfl⟩
            obtain ⟨p, hp, e⟩ := List.mem_map.mp this
            rw [← e]
            exact all p hp
        · rw [← Sr.sort_rows]
          exact ks_rows fun p hp => ((hk p (sub p (pL.mem_iff.mp (List.mem_mergeSort.mp hp)))).mono (KS.of sa)).mono (KS.of sq')
end
end T81
set_option Elab.async false
set_option linter.all false
set_option maxRecDepth 100000
set_option maxHeartbeats 4000000
namespace T81
open PySem PySem.Spec PyProof.Rows L2 Gd Zn Rp Dn Tb Gn En Zs Ct Op Oc Rg Rt Ro Dm Gx
theorem lt_seq {H : Hp} {t : Bool} {b : Addr} {xs : List Int} (h : LT H t b (xs.map V.int)) : SeqV H (.ref b) (iD xs) := by
  unfold LT at h
  cases t with
  | true => exact .inr (.tup h (py_ints xs))
  | false => exact .inl (.lst h (py_ints xs))
theorem LT.gt {T : List (Addr × Str)} {H H' : Hp} {t : Bool} {a : Addr} {vs : List V} (s : GT T H H') (h : LT H t a vs) : LT H' t a vs := by
  unfold LT at h ⊢
  cases t with
  | true => exact s.tup h
  | false => exact s.lst h
theorem seq_gt {T : List (Addr × Str)} {H H' : Hp} {t : Bool} {b : Addr} {xs : List Int} (s : GT T H H') (h : LT H t b (xs.map V.int)) : SeqV H' (.ref b) (iD xs) := lt_seq (h.gt s)
theorem c_tupLT {K : PySem.W.Frag} {H : Hp} {t : Bool} {b : Addr} {xs : List Int} {Q : VK} (h : LT H t b (xs.map V.int)) (q : ∀ v H', Same H H' → RowV H' v xs → Q v H') : rTup K [.ref b] H Q := by
  cases t with
  | false => exact ⟨b, _, rfl, .inl ⟨SqL.of h, fun l nl => q _ _ (same_new nl) ⟨l, rfl, upd_same⟩⟩⟩
  | true => exact ⟨b, _, rfl, .inr ⟨.inl (.inl h), q _ _ (Same.refl _) ⟨b, rfl, h⟩⟩⟩
section
variable {P : Program} {w : World} {K : PySem.W.Frag} {mg : Str → Option Value} {base : Heap} {C CL : Addr}
abbrev st_sy : Stmt := top 58
theorem sc_sy : FnScope N_ro ["lot", "row"] (defScope st_sy) := ⟨rfl, rfl, rfl, by decide +kernel, rfl, by decide +kernel, by decide +kernel⟩
def sp_sy (P : Program) (w : World) (TT : List (Addr × Str)) (C CL : Addr) : Sp := fun vs H Q _ => ∃ (v : V) (t : Bool) (b : Addr) (xs : List Int) (n e : Nat) (h1 : 1 ≤ n) (h3 : n ≤ 3) (Ms : List (GL n)) (ys : List En), vs = [v, .ref b] ∧ LotV P w C CL H v h1 h3 Ms e ys ∧ ys.length ≤ mostN n ∧ LamX.Tabs TT H ∧ LT H t b (xs.map V.int) ∧ xs.length = n ∧ (∀ x ∈ xs, Small x) ∧
  ∀ c H' (ps : List (Addr × List (List Int))), GT TT H H' → NewL H c → H' c = some (.lst (ps.map fun p => V.ref p.1)) → (∀ p ∈ ps, Tv C H' (.ref p.1) n (bN e) p.2) → ps.map (·.2) = ((ys.map (·.1)).mergeSort Sm.leX).filter (fun A => decide (ledM A xs = xs)) → Q (.ref c) H'
theorem ok_sy {f : Addr} {fd : FuncData} {TT : List (Addr × Str)} (F : Fun K "stayers" "stayers" st_sy f fd) (T : Txt mg) (Tc : Tcl K mg C) (Lc : Lcl K mg CL) (D1 : Def P w K mg base "_check_lot_and_row" 5 ["lot", "row"] (sp_clr P w C CL)) (D3 : Mtd P w K mg base CL "members" 10 ["self"] (sp_mem P w TT C CL)) (D4 : Mtd P w K mg base C "lead" 5 ["self", "row"] (sp_lead C)) :
    FnOk P w K mg base CX0 12 f fd ["lot", "row"] (sp_sy P w TT C CL) := by
  refine F.ok sc_sy (fun vs H Q E h => ?_) (fun cdv A outer s H vs Q E hr h => ?_)
  · obtain ⟨v, t, b, xs, n, e, h1, h3, Ms, ys, rfl, _⟩ := h
    rfl
  · obtain ⟨v, t, b, xs, n, e, h1, h3, Ms, ys, rfl, hL, fin, hTT, hb, lx, sx, q⟩ := h
    obtain ⟨gb, gdb, mtb, Gb, bb⟩ := D3.ex
    obtain ⟨gl, gdl, mtl, Gl, bl⟩ := D4.ex
    have hr10 : Room 10 _ := hr.mono (by decide : 10 ≤ 11)
    have hr5 : Room 5 _ := hr.mono (by decide : 5 ≤ 11)
    have hu0 := hr.units
    refine ⟨_, pss_cons (ps_expr (pe_def D1 hr (pa_cons (pv 0) (pa_cons (pv 1) pa_nil))))
      (pss_one (ps_ret (pe_lc (own := [("member", 2)]) (g := gName 2) (tt := tTest (tOp (rEqD K) (tMeth C "lead" (sp_lead C) [] E0 (tVar 2) (tCons (tVar 1) tNil)) (tCB (rTup K) (tCons (tVar 1) tNil)))) rfl sc_sy.nd (pi_seq (pe_meth0 (pv 0) Lc.cl mtb Gb hr10 bb .nil pass0))
          (blkOk_by (N := N_ro) (sc := defScope st_sy) (by decide +kernel)) (fun _ _ _ _ _ => pg_name (i := 2) sc_sy.nd rfl (Or.inl rfl) (Or.inr rfl))
          (fun _ _ _ _ _ => pts_one (pt_cmpR (r := rEqD K) (op_eqD hu0) (pe_meth (X := Cx.blk _ _ _ _ _ _) (pv 2) Tc.cl mtl Gl hr5 bl .nil pass0 (pa_cons (pv 1) pa_nil)) (pe_callTy (X := Cx.blk _ _ _ _ _ _) (r := rTup K) c_tup (by rfl) T.tuple PyProof.Rows.boot_tuple (pa_cons (pv 1) pa_nil)) (by rfl)))
          (fun _ _ _ _ _ => pv (X := Cx.blk _ _ _ _ _ _) 2)))), ?_⟩
    refine r_seq (a2 ⟨_, rfl, _, rfl, v, .ref b, xs, n, e, h1, h3, Ms, ys, rfl, hL, lt_seq hb, lx, fun H1 s1 => ?_⟩)
    have hL1 := hL.same s1
    obtain ⟨p, dx, m', xs0, d, ob, rfl, hp, _⟩ := hL1.ex
    refine r_next (r_nret (tlc_call (i_seq (r_meth0 ?_))))
    refine ⟨_, rfl, mthL hL1 ⟨.ref p, n, e, h1, h3, Ms, ys, rfl, hL1, fin, hTT.ext s1, fun c H2 ps g2 nc hc tv eq => ⟨false, c, _, rfl, SqL.of hc, ?_⟩⟩⟩
    have m48 := most_le n
    have lps : ps.length ≤ 48 := by
      have := congrArg List.length eq
      rw [List.length_map, List.length_mergeSort, List.length_map] at this
      omega
    have lm : (ps.map fun p => V.ref p.1).length = ps.length := List.length_map ..
    have gH2 : GT TT H H2 := (GT.of s1).trans g2
    have be := hL.be
    refine lc_flt (T := TT) (fun (v : V) (p : Addr × List (List Int)) G => v = .ref p.1 ∧ Tv C G v n (bN e) p.2) (fun v x G G' g h => ⟨h.1, h.2.gt g⟩) (fun v x G G' k h => ⟨h.1, h.2.ks k⟩) ps.length (fun i => (ps.take i).filter fun p => decide (ledM p.2 xs = xs)) (by omega) rfl (fun i hi => Nat.le_trans (List.length_filter_le _ _) (by rw [List.length_take]; omega)) (fun i G hi s => its_go (SqL.of (s.lst hc)) (List.getElem?_eq_getElem (by omega))) (fun G s => its_stop (SqL.of (s.lst hc)) (by omega)) (fun i x G G' C' C0 hi s hy hC hC0 => ?_) fun D H3 rs nD s3 hD hl hE => ?_
    · obtain ⟨rfl, ex⟩ := its_yld hy (SqL.of (s.lst hc))
      rw [List.getElem?_map, List.getElem?_eq_getElem hi] at ex
      cases ex
      have t := (tv _ (List.getElem_mem hi)).gt s
      obtain ⟨a, da, r, ea, ha, hm⟩ := id t.tab
      have hbG : LT G' _ b (xs.map V.int) := hb.gt (gH2.trans s)
      refine ⟨rfl, r_tt (r_op (r_meth1 ⟨_, rfl, a, da, _, ea, ha, noLd, _, rfl, _, .ref b, ps[i].2, xs, n, by show [V.ref ps[i].1, _] = _; rw [ea], t.tab, lt_seq hbG, t.bd.sq (by unfold bN; omega), h1, h3, lx, sx, fun v' G2 s2 m2 => cb1 ⟨_, rfl, c_tupLT (hbG.same s2) fun v2 G3 s3 m3 => r_eqRow (m2.mono (KS.of s3)) m3 ⟨_, rfl, ?_⟩⟩⟩))⟩
      have ft := filter_take (p := fun p : Addr × List (List Int) => decide (ledM p.2 xs = xs)) (List.getElem?_eq_getElem hi)
      have g4 : GT TT G' G3 := .of (s2.trans s3)
      by_cases z : ledM ps[i].2 xs = xs
      · rw [decide_eq_true z]
        rw [if_pos (decide_eq_true z)] at ft
        exact iteT ⟨_, rfl, hC _ ps[i] _ g4 ft ⟨rfl, t.gt g4⟩⟩
      · rw [decide_eq_false z]
        rw [if_neg (by rw [decide_eq_false z]; decide), List.append_nil] at ft
        exact iteF (hC0 _ g4 ft)
    · rw [List.take_length] at hl hE
      have gA := gH2.trans s3
      have er : rs = (ps.filter fun p => decide (ledM p.2 xs = xs)).map fun p => V.ref p.1 := by
        refine List.ext_getElem? fun i => ?_
        by_cases hi : i < rs.length
        · obtain ⟨x, ex, e1, _⟩ := hE i _ (List.getElem?_eq_getElem hi)
          rw [List.getElem?_eq_getElem hi, List.getElem?_map, ex, e1]
          rfl
        · rw [List.getElem?_eq_none (by omega), List.getElem?_eq_none (by rw [List.length_map]; omega)]
      refine q D H3 _ gA (fun o' nt u => ?_) (by rw [hD, er]) (fun p' hp' => ?_) ?_
      · rw [gH2.n _ _ nt u] at nD
        cases nD
      · exact (tv p' (List.mem_filter.mp hp').1).gt s3
      · rw [← eq, List.filter_map]
        rfl
end
end T81
set_option Elab.async false
set_option linter.all false
set_option maxRecDepth 100000
set_option maxHeartbeats 4000000
namespace T81
open PySem PySem.Spec PyProof.Rows L2 Gd Zn Rp Dn Tb Gn En Zs Ct Op Oc Rg Rt Ro Dm Gx
section
variable {P : Program} {w : World} {K : PySem.W.Frag} {mg : Str → Option Value} {base : Heap} {C CL : Addr}
abbrev st_dr : Stmt := top 73
abbrev N_dr : List Str := ["_law_pot_here", "_law_size", "_law_makers"]
theorem sc_dr : FnScope N_dr ["_law_pot_here", "_law_size"] (defScope st_dr) := ⟨rfl, rfl, rfl, by decide +kernel, rfl, by decide +kernel, by decide +kernel⟩
theorem ok_dr {f : Addr} {fd : FuncData} (F : Fun K "_law_drawn" "_law_drawn" st_dr f fd) (T : Txt mg) (D1 : Def P w K mg base "_law_known" 1 ["_law_size"] sp_kn) (D2 : Def P w K mg base "_law_pick" 2 ["_law_pot_here", "_law_some"] sp_pick) (D3 : Def P w K mg base "_law_turning" 3 ["_law_pot_here", "_law_size"] sp_tn) (D4 : Def P w K mg base "_law_led_makers" 2 ["_law_makers", "_law_pair"] sp_lm) : FnOk P w K mg base CX0 4 f fd ["_law_pot_here", "_law_size"] sp_mks := by
  refine F.ok sc_dr (fun vs H Q E h => ?_) (fun cdv A outer s H vs Q E hr h => ?_)
  · obtain ⟨p, n, rfl, _⟩ := h
    rfl
  · obtain ⟨p, n, rfl, hp, h1, h3, q⟩ := h
    refine ⟨_, pss_cons (ps_set (i := 2) sc_dr.nd rfl (Or.inl rfl) (pe_def D2 hr (pa_cons (pv 0) (pa_cons (pe_def D1 hr (pa_cons (pv 1) pa_nil)) pa_nil))))
      (pss_one (ps_ret (pe_def D4 hr (pa_cons (pv 2) (pa_cons (pe_def D3 hr (pa_cons (pv 0) (pa_cons (pv 1) pa_nil))) pa_nil))))), ?_⟩
    refine r_seq (r_asg (a2 ⟨_, rfl, a1 ⟨_, rfl, n, rfl, h1, h3, fun c2 H3 vs2 s03 n2 hc2 mall0 => ?_⟩⟩))
    have hp3 := pot_of5 hp s03
    have nDp : c2 ≠ p := fun z => by subst z; exact hp.some_ n2
    have lkx : 0 < (KN n).length ∧ (KN n).length < 1000 := by
      have : n = 1 ∨ n = 2 ∨ n = 3 := by omega
      rcases this with rfl | rfl | rfl <;> decide
    refine ⟨p, c2, vs2, rfl, hp3, hc2, nDp, by rw [mall0.len]; exact lkx.1, by rw [mall0.len]; exact lkx.2, fun ix x H4 ex s4 => ?_⟩
    obtain ⟨D', xs', L, eL, rfl, hD', ml'⟩ := mall0.get ix x ex
    have inX : L ∈ KX n := by
      have := List.mem_of_getElem? eL
      have e : n = 1 ∨ n = 2 ∨ n = 3 := by omega
      rcases e with rfl | rfl | rfl
      · exact List.mem_append_left _ this
      · exact List.mem_append_left _ this
      · exact List.mem_append_left _ this
    obtain ⟨Ms, rfl, l1, l3, fin⟩ := kx_fin h1 h3 inX
    have nD'p := mxl_pot hD' ml' (by rw [List.length_map]; exact l1) hp3
    have hp4 := s4.pot p rfl hp3
    have hD4 := s4.keep D' _ (fun z => nD'p (by cases z; rfl)) hD'
    have k34 : KS H3 H4 := KS.rx s4 fun q e => by cases e; exact hp3
    refine r_next (r_nret (a2 ⟨_, rfl, a2 ⟨_, rfl, _, rfl, p, n, rfl, hp4, h1, h3, fun c H5 v u g s5 hc mv mu bg bi => ?_⟩⟩))
    have hp5 := s5.pot p rfl hp4
    have hD5 := s5.keep D' _ (fun z => nD'p (by cases z; rfl)) hD4
    have k45 : KS H4 H5 := KS.rx s5 fun q e => by cases e; exact hp4
    refine ⟨D', c, xs', v, u, n, Ms, g, rfl, hD5, ml'.ks (k34.trans k45), h1, h3, l1, by omega, fin, fun M hM => fin_sq (h1 := h1) (h3 := h3) fin hM, hc, mv, mu, bg, bi, fun d H6 ys Ms' s6 hd mld len fin' b' _ => ?_⟩
    exact q d H6 ys Ms' ((RX.of s03).trans (s4.trans (s5.trans (RX.of s6)))) (mxl_pot hd mld (by rw [List.length_map]; omega) ((RX.of (p := some p) s6).pot p rfl hp5)) hd mld (by omega) (by omega) fin' b'
end
end T81
set_option Elab.async false
set_option linter.all false
set_option maxRecDepth 100000
set_option maxHeartbeats 4000000
namespace T81
open PySem PySem.Spec PyProof.Rows L2 Gd Zn Rp Dn Tb Gn En Zs Ct Op Oc Rg Rt Ro Dm Gx
def colS (R : List (List Int)) (j : Nat) : Int := (R.map fun r => r.getD j 0).sum
theorem sum_bd {B : Nat} : ∀ {l : List Int}, (∀ x ∈ l, x.natAbs < B) → l.sum.natAbs ≤ l.length * B
  | [], _ => by simp
  | x :: l, h => by
    rw [List.sum_cons, List.length_cons, Nat.add_mul, Nat.one_mul]
    have a := sum_bd (l := l) fun y hy => h y (List.mem_cons_of_mem _ hy)
    have b := h x List.mem_cons_self
    omega
theorem col_bd {n : Nat} {S : List (List (List Int))} {rs : List Int} (h1 : 1 ≤ n) (h3 : n ≤ 3) (bm : ∀ M ∈ S, SqE n 24 M) (lS : S.length ≤ 48) (lr : rs.length = n) (br : ∀ x ∈ rs, x.natAbs ≤ 9) {j : Nat} : (colS (S.map fun M => ledM M rs) j).natAbs < 2 ^ 40 := by
  unfold colS
  have k := sum_bd (B := 2 ^ 30) (l := (S.map fun M => ledM M rs).map fun r => r.getD j 0) fun x hx => by
    obtain ⟨r, hr, rfl⟩ := List.mem_map.mp hx
    obtain ⟨M, hM, rfl⟩ := List.mem_map.mp hr
    by_cases z : j < (ledM M rs).length
    · have e : (ledM M rs).getD j 0 = (ledM M rs)[j] := by rw [List.getD_eq_getElem?_getD, List.getElem?_eq_getElem z]; rfl
      rw [e]
      exact led_small (c := 4) h1 h3 (bm M hM) lr (fun x hx => Nat.lt_of_le_of_lt (br x hx) (by decide)) _ (List.getElem_mem z)
    · have e : (ledM M rs).getD j 0 = 0 := by rw [List.getD_eq_getElem?_getD, List.getElem?_eq_none (by omega)]; rfl
      rw [e]
      decide
  rw [List.length_map, List.length_map] at k
  have : S.length * 2 ^ 30 ≤ 48 * 2 ^ 30 := Nat.mul_le_mul_right _ lS
  have : 48 * 2 ^ 30 < 2 ^ 40 := by decide
  omega
section
variable {P : Program} {w : World} {K : PySem.W.Frag} {mg : Str → Option Value} {base : Heap} {C CL : Addr}
abbrev st_lrw : Stmt := top 74
abbrev N_lrw : List Str := ["_law_pot_here", "_law_makers", "_law_members_here", "_law_size", "_law_way", "_law_row_here", "_law_ends", "_law_near", "_law_place", "_law_one", "_law_end", "_law_other", "_law_number"]
theorem sc_lrw : FnScope N_lrw ["_law_pot_here", "_law_makers", "_law_members_here"] (defScope st_lrw) := ⟨rfl, rfl, rfl, by decide +kernel, rfl, by decide +kernel, by decide +kernel⟩
def sp_lrw : Sp := fun vs H Q _ => ∃ (p pk pm : Addr) (xk xm : List V) (n : Nat) (Ms : List (GL n)) (S : List (List (List Int))), vs = [.ref p, .ref pk, .ref pm] ∧ PotOk H p ∧ H pk = some (.lst xk) ∧ pk ≠ p ∧ MxL H xk (valM Ms) ∧ H pm = some (.lst xm) ∧ pm ≠ p ∧ MxL H xm S ∧ 1 ≤ n ∧ n ≤ 3 ∧ 1 ≤ Ms.length ∧ Ms.length ≤ 4 ∧ (∀ M ∈ Ms, SqE n 24 M.val) ∧ (∀ M ∈ S, SqE n 24 M) ∧ S.length ≤ 48 ∧
  ∀ c H' (r : List Int), RX (some p) H H' → H' c = some (.tup (r.map V.int)) → r.length = n → (∀ x ∈ r, x.natAbs < 2 ^ 40) → Q (.ref c) H'
theorem ok_lrw {f : Addr} {fd : FuncData} (F : Fun K "_law_row" "_law_row" st_lrw f fd) (T : Txt mg) (D1 : Def P w K mg base "_law_draw" 1 ["_law_pot_here", "_law_size"] sp_draw) (D2 : Def P w K mg base "_law_point" 1 ["_law_one", "_law_row_here"] sp_pt) : FnOk P w K mg base CX0 2 f fd ["_law_pot_here", "_law_makers", "_law_members_here"] sp_lrw := by
  refine F.ok sc_lrw (fun vs H Q E h => ?_) (fun cdv A outer s H vs Q E hr h => ?_)
  · obtain ⟨p, pk, pm, xk, xm, n, Ms, S, rfl, _⟩ := h
    rfl
  · obtain ⟨p, pk, pm, xk, xm, n, Ms, S, rfl, hp, hk, kp, mk, hm, mp, mm, h1, h3, l1, l4, bk, bm, lS, q⟩ := h
    refine ⟨_, pss_cons (ps_asg (pe_tup (pa_cons (pe_callB (r := Dn.rLen K) c_len (by rfl) T.len PySem.boot_len (pa_cons (pe_ix (r := rIxS2 K) ix_sq (pv 1) pe_int (fun _ _ => rfl)) pa_nil)) (pa_cons (pe_def D1 hr (pa_cons (pv 0) (pa_cons pe_int pa_nil))) pa_nil))) (pg_tup rfl (pgs_cons (pg_name (i := 3) sc_lrw.nd rfl (Or.inr rfl)) (pgs_cons (pg_name (i := 4) sc_lrw.nd rfl (Or.inr rfl)) pgs_nil))))
      (pss_cons (ps_set (i := 5) sc_lrw.nd rfl (Or.inr rfl) (pe_callTy (r := rTup K) c_tup (by rfl) T.tuple PyProof.Rows.boot_tuple (pa_cons (pe_lc (own := [("_law_place", 8)]) (g := gName 8) (tt := tYes) rfl sc_lrw.nd (pi_range1 (by rfl) T.range (pa_cons (pv 3) pa_nil))
          (blkOk_by (N := N_lrw) (sc := defScope st_lrw) (by decide +kernel)) (fun _ _ _ _ _ => pg_name (i := 8) sc_lrw.nd rfl (Or.inl rfl) (Or.inr rfl)) (fun _ _ _ _ _ => pts_nil)
          (fun _ _ _ _ _ => pe_op (X := Cx.blk _ _ _ _ _ _) op_sub (pe_def (X := Cx.blk _ _ _ _ _ _) D1 hr (pa_cons (pv 0) (pa_cons pe_int pa_nil))) pe_int)) pa_nil)))
      (pss_cons (ps_if (pt_cmpR op_eq (pv 4) pe_int (nomark _))
          (pss_cons (ps_set (i := 6) sc_lrw.nd rfl (Or.inr rfl) (pe_lc (own := [("_law_one", 9)]) (g := gName 9) (tt := tYes) rfl sc_lrw.nd (pi_seq (pv 2))
              (blkOk_by (N := N_lrw) (sc := defScope st_lrw) (by decide +kernel)) (fun _ _ _ _ _ => pg_name (i := 9) sc_lrw.nd rfl (Or.inl rfl) (Or.inr rfl)) (fun _ _ _ _ _ => pts_nil)
              (fun _ _ _ _ _ => pe_def (X := Cx.blk _ _ _ _ _ _) D2 hr (pa_cons (pv 9) (pa_cons (pv 5) pa_nil)))))
          (pss_one (ps_ret (pe_callTy (r := rTup K) c_tup (by rfl) T.tuple PyProof.Rows.boot_tuple (pa_cons (pe_lc (own := [("_law_place", 8)]) (g := gName 8) (tt := tYes)
              (te := tCB (rSum K) (tCons (tLc (iSeq K (tVar 6)) (gName 10) tYes (tOp (rIxS2 K) (tVar 10) (tVar 8)) [10]) tNil)) rfl sc_lrw.nd (pi_range1 (by rfl) T.range (pa_cons (pv 3) pa_nil))
              (blkOk_by (N := N_lrw) (sc := defScope st_lrw) (by decide +kernel)) (fun _ _ _ _ _ => pg_name (i := 8) sc_lrw.nd rfl (Or.inr rfl) (Or.inl rfl)) (fun _ _ _ _ _ => pts_nil)
              (fun s' H' C' cl' fp' => by
                refine pe_callB (r := rSum K) (cr_sum rfl) (by rfl) T.sum boot_sum (pa_cons (pe_lc (own := [("_law_end", 10)]) (wi := iSeq K (tVar 6)) (g := gName 10) (tt := tYes) (te := tOp (rIxS2 K) (tVar 10) (tVar 8)) rfl sc_lrw.nd ?q1 ?q2 ?q3 ?q4 ?q5) pa_nil)
                case q1 => exact pi_seq (pv 6)
                case q2 => exact blkOk_by (N := N_lrw) (by rfl)
                case q3 => exact (fun _ _ _ _ _ => pg_name (i := 10) sc_lrw.nd rfl (Or.inl rfl) (Or.inr rfl))
                case q4 => exact (fun _ _ _ _ _ => pts_nil)
                case q5 => exact (fun _ _ _ _ _ => pe_ix ix_sq (pv 10) (pv 8) (fun _ _ => rfl)))) pa_nil))))) pss_nil)
      (pss_cons (ps_if (pt_cmpR op_eq (pv 4) pe_int (nomark _))
          (pss_cons (ps_set (i := 7) sc_lrw.nd rfl (Or.inl rfl) (pe_def D2 hr (pa_cons (pe_ix (r := rIxS2 K) ix_sq (pv 1) pe_int (fun _ _ => rfl)) (pa_cons (pv 5) pa_nil))))
          (pss_one (ps_ret (pe_callTy (r := rTup K) c_tup (by rfl) T.tuple PyProof.Rows.boot_tuple (pa_cons (pe_lc (own := [("_law_one", 9), ("_law_other", 11)]) (g := gTup K 2 (gCons (gName 9) (gCons (gName 11) gNil))) (tt := tYes) rfl sc_lrw.nd (pi_zipn (by rfl) T.zip (pa_cons (pv 5) (pa_cons (pv 7) pa_nil)))
              (blkOk_by (N := N_lrw) (sc := defScope st_lrw) (by decide +kernel)) (fun _ _ _ _ _ => pg_tup rfl (pgs_cons (pg_name (i := 9) sc_lrw.nd rfl (Or.inl rfl) (Or.inr rfl)) (pgs_cons (pg_name (i := 11) sc_lrw.nd rfl (Or.inl rfl) (Or.inr rfl)) pgs_nil))) (fun _ _ _ _ _ => pts_nil)
              (fun _ _ _ _ _ => pe_op (X := Cx.blk _ _ _ _ _ _) op_add (pv 9) (pv 11))) pa_nil))))) pss_nil)
      (pss_one (ps_ret (pe_ifExp (pt_cmpR op_eq (pv 4) pe_int (nomark _)) (pv 5) (pe_callTy (r := rTup K) c_tup (by rfl) T.tuple PyProof.Rows.boot_tuple (pa_cons (pe_lc (own := [("_law_place", 8), ("_law_number", 12)]) (g := gTup K 2 (gCons (gName 8) (gCons (gName 12) gNil))) (tt := tYes) rfl sc_lrw.nd (pi_enumS (by rfl) T.enum (pa_cons (pv 5) pa_nil))
          (blkOk_by (N := N_lrw) (sc := defScope st_lrw) (by decide +kernel)) (fun _ _ _ _ _ => pg_tup rfl (pgs_cons (pg_name (i := 8) sc_lrw.nd rfl (Or.inl rfl) (Or.inr rfl)) (pgs_cons (pg_name (i := 12) sc_lrw.nd rfl (Or.inl rfl) (Or.inr rfl)) pgs_nil))) (fun _ _ _ _ _ => pts_nil)
          (fun _ _ _ _ _ => pe_op (X := Cx.blk _ _ _ _ _ _) op_mul (pv 12) (pe_callTy (X := Cx.blk _ _ _ _ _ _) (r := rInt1) call_int1 (by rfl) T.int PyProof.Rows.boot_int (pa_cons (pe_cmpR (X := Cx.blk _ _ _ _ _ _) op_eq (pv 8) (pe_op (X := Cx.blk _ _ _ _ _ _) op_mod (pv 4) (pv 3)) (nomark _)) pa_nil)))) pa_nil)))))))), ?_⟩
    have hh : Has (some p) H := fun q e => by cases e; exact hp
    have ne : ∀ {b : Addr}, b ≠ p → (some p : Option Addr) ≠ some b := fun n z => n (Option.some.inj z).symm
    have lk : xk.length = Ms.length := by rw [mk.len, List.length_map]
    have lm : xm.length = S.length := mm.len
    have h0 : 0 < xk.length := by omega
    have e0 : xk[0]? = some (xk[0]'h0) := List.getElem?_eq_getElem h0
    obtain ⟨M0, eM0, mM0⟩ := mxl_get mk e0
    generalize xk[0]'h0 = x0 at e0 mM0
    obtain ⟨b0, vs0, ev0, hb0, hr0⟩ := id mM0
    have lv0 : vs0.length = n := by rw [hr0.len, M0.property.sh.len]
    refine r_seq (r_asg (r_tup (r_cons (cb1 (r_op ⟨_, rfl, false, pk, xk, ((0 : Nat) : Int), x0, rfl, rfl, SqL.of hk, atI_nat e0, b0, vs0, by rw [ev0], sq_or (t := true) (.inl (.inl hb0)), ?_⟩)))))
    rw [lv0]
    refine r_cons (a2 ⟨_, rfl, p, 4, rfl, hp, by decide, by decide, fun way H1 w0 w4 s1 => ⟨(by show 2 ≤ sizeLine; decide), fun tp ntp => ⟨tp, _, rfl, .inl (.inl upd_same), rfl, _, _, rfl, _, _, rfl, rfl, ?_⟩⟩⟩)
    have s2 : Same H1 (upd H1 tp (.tup [.int n, .int way])) := same_new ntp
    have r2 : RX (some p) H (upd H1 tp (.tup [.int n, .int way])) := s1.trans (RX.of s2)
    generalize upd H1 tp (.tup [.int n, .int way]) = H2 at r2 ⊢
    have hp2 := r2.pot p rfl hp
    have hh2 : Has (some p) H2 := fun q e => by cases e; exact hp2
    refine r_next (r_nseq (r_asg (r_cb (r_cons ?_))))
    refine tlc_of (Itr 0 n) (H1 := H2) (fun R hR => ⟨_, rfl, (n : Int), rfl, by omega, by omega, hR⟩) ?_
    refine lc_el (p := some p) n (fun _ v => ∃ x : Int, v = .int x ∧ x.natAbs ≤ 9) hh2 (by omega) (fun i G hi s => hi) (fun G s => Nat.le_refl _) (fun i x G G' C' hi s hpG hy hC => ?_) fun Dr H3 zr nDr s3 hDr hlr hEr => ⟨Dr, zr, rfl, .inl ⟨SqL.of hDr, fun pr npr => ?_⟩⟩
    · obtain ⟨rfl, rfl⟩ := hy
      exact ⟨rfl, r_op ⟨_, rfl, p, 13, rfl, hpG p rfl, by decide, by decide, fun r G4 r0 r1 s4 => ⟨_, _, rfl, rfl, hC _ _ s4 ⟨_, rfl, by omega⟩⟩⟩⟩
    obtain ⟨rs, rfl, brs⟩ := ints_ofB hEr
    have lrs : rs.length = n := by rw [← hlr, List.length_map]
    have s4 : Same H3 (upd H3 pr (.tup (rs.map V.int))) := same_new npr
    have hpr : upd H3 pr (.tup (rs.map V.int)) pr = some (.tup (rs.map V.int)) := upd_same
    have r4 : RX (some p) H (upd H3 pr (.tup (rs.map V.int))) := r2.trans (s3.trans (RX.of s4))
    generalize upd H3 pr (.tup (rs.map V.int)) = H4 at hpr r4 ⊢
    have hk4 := r4.keep _ _ (ne kp) hk
    have hm4 := r4.keep _ _ (ne mp) hm
    have mk4 := mx_l r4 hp mk
    have mm4 := mx_l r4 hp mm
    have small : ∀ x ∈ rs, Small x := fun x hx => ⟨4, by decide, Nat.lt_of_le_of_lt (brs x hx) (by decide)⟩
    have lt9 : ∀ x ∈ rs, x.natAbs < 2 ^ 40 := fun x hx => Nat.lt_of_le_of_lt (brs x hx) (by decide)
    refine r_next (r_nseq (r_if (r_tt (r_op ⟨_, rfl, rfl, _, rfl, ?_⟩))))
    by_cases z0 : V.int way = V.int 0
    · rw [decide_eq_true z0]
      have qm : ∀ H', Same H4 H' → SqV K H' false pm xm := fun H' s => SqL.of (s _ _ hm4)
      refine iteT (r_seq (r_asg (tlc_call (i_seq ⟨_, rfl, false, pm, xm, rfl, qm _ (Same.refl _), ?_⟩))))
      refine lc_ks (p := none) S.length (fun i v G => ∃ r, (S.map fun M => ledM M rs)[i]? = some r ∧ RowV G v r) (fun i v G G' kk h => by obtain ⟨r, e1, e2⟩ := h; exact ⟨r, e1, e2.mono kk⟩) has_none (by omega) (fun i G hi s => its_go (qm _ s.same) (List.getElem?_eq_getElem (by omega))) (fun G s => its_stop (qm _ s.same) (by omega)) (fun i x G G' C' hi s _ hy hC => ?_) fun De H5 es nDe s5 hDe hle hEe => ?_
      · obtain ⟨rfl, ex⟩ := its_yld hy (qm _ s.same)
        obtain ⟨M, eM, mM⟩ := mm4.get _ _ ex
        have bM := bm M (List.mem_of_getElem? eM)
        exact ⟨rfl, a2 ⟨_, rfl, _, rfl, x, true, pr, M, rs, n, rfl, mM.mono (KS.of s.same), s.same _ _ hpr, h3, bM.sq (by decide), lrs, small, fun v' Gc sc mv => hC _ _ (RX.of sc) ⟨_, by rw [List.getElem?_map, eM]; rfl, mv⟩⟩⟩
      obtain ⟨ks, rfl, eks, hks⟩ := row_ks (by rw [hle, List.length_map]) hEe
      have lks : ks.length = S.length := by have := hle; rwa [List.length_map] at this
      have qe : ∀ H', Same H5 H' → SqV K H' false De (ks.map fun p => V.ref p.1) := fun H' s => SqL.of (s _ _ hDe)
      refine r_next (r_nret (r_cb (r_cons ?_)))
      refine tlc_of (Itr 0 n) (H1 := H5) (fun R hR => ⟨_, rfl, (n : Int), rfl, by omega, by omega, hR⟩) ?_
      refine lc_el (p := none) n (fun j v => v = .int (colS (S.map fun M => ledM M rs) j)) has_none (by omega) (fun i G hi s => hi) (fun G s => Nat.le_refl _) (fun j x G G' C' hj s _ hy hC => ?_) fun Du H6 us nDu s6 hDu hul huE => ⟨Du, us, rfl, .inl ⟨SqL.of hDu, fun c nc => ?_⟩⟩
      · obtain ⟨rfl, rfl⟩ := hy
        refine ⟨rfl, r_cb (r_cons (tlc_call (i_seq ⟨_, rfl, false, De, _, rfl, qe _ s.same, ?_⟩)))⟩
        refine lc_el (p := none) S.length (fun i v => ∃ r, (S.map fun M => ledM M rs)[i]? = some r ∧ v = .int (r.getD j 0)) has_none (by omega) (fun i G2 hi s2 => its_go (qe _ (s.same.trans s2.same)) (List.getElem?_eq_getElem (by rw [List.length_map]; omega))) (fun G2 s2 => its_stop (qe _ (s.same.trans s2.same)) (by rw [List.length_map]; omega)) (fun i y G2 G3 C2 hi s2 _ hy2 hC2 => ?_) fun Dy G2 ys nDy s2 hDy hyl hyE => ?_
        · obtain ⟨rfl, ey⟩ := its_yld hy2 (qe _ (s.same.trans s2.same))
          have hi' : i < ks.length := by omega
          rw [List.getElem?_map, List.getElem?_eq_getElem hi'] at ey
          cases ey
          obtain ⟨b, eb, hb⟩ := hks _ (List.getElem_mem hi')
          have hb' := (s.same.trans s2.same) _ _ hb
          have er : (S.map fun M => ledM M rs)[i]? = some ks[i].2 := by rw [eks, List.getElem?_map, List.getElem?_eq_getElem hi']; rfl
          have lr : ks[i].2.length = n := by
            obtain ⟨M, hM, e⟩ := List.mem_map.mp (List.mem_of_getElem? er)
            rw [← e]
            exact led_len (bm M hM).sh
          exact ⟨rfl, r_op ⟨_, rfl, _, rfl, true, b, _, ((j : Nat) : Int), .int (ks[i].2[j]'(by omega)), eb, by rw [show (0 : Int) + (j : Int) = (j : Int) by omega], .inl (.inl hb'), atI_nat (by rw [List.getElem?_map, List.getElem?_eq_getElem (by omega)]; rfl), hC2 _ _ (RX.refl _) ⟨_, er, by rw [List.getD_eq_getElem?_getD, List.getElem?_eq_getElem (by omega)]; rfl⟩⟩⟩
        · have ey : ys = (S.map fun M => ledM M rs).map fun r => V.int (r.getD j 0) := map_of_get (n := 0) _ (by rw [hyl, List.length_map]) hyE
          refine ⟨Dy, (S.map fun M => ledM M rs).map (fun r => r.getD j 0), rfl, .inl (.inl ?_), hC _ _ s2 rfl⟩
          rw [hDy, ey]
          simp only [List.map_map]
          rfl
      · have eu : us = ((List.range n).map fun j => colS (S.map fun M => ledM M rs) j).map V.int := by
          rw [List.map_map]
          exact map_of_get (n := 0) _ (by rw [hul, List.length_range]) fun j v e => by
            have hj : j < n := by rw [← hul]; exact (List.getElem?_eq_some_iff.mp e).1
            exact ⟨j, List.getElem?_range hj, huE j v e⟩
        refine q c _ ((List.range n).map fun j => colS (S.map fun M => ledM M rs) j) (r4.trans (RX.of (s5.same.trans (s6.same.trans (same_new nc))))) (by rw [upd_same, eu]) (by rw [List.length_map, List.length_range]) fun x hx => ?_
        obtain ⟨j, hj, rfl⟩ := List.mem_map.mp hx
        exact col_bd h1 h3 bm lS lrs brs
    rw [decide_eq_false z0]
    refine iteF (r_next (r_nseq (r_if (r_tt (r_op ⟨_, rfl, rfl, _, rfl, ?_⟩)))))
    have hn4 : ∀ H', Same H4 H' → SqV K H' true pr (rs.map V.int) := fun H' s => .inl (.inl (s _ _ hpr))
    by_cases z1 : V.int way = V.int 1
    · rw [decide_eq_true z1]
      have bM0 := bk M0 (List.mem_of_getElem? eM0)
      have k4 : KS H H4 := KS.rx r4 hh
      refine iteT (r_seq (r_asg (a2 (r_op ⟨_, rfl, false, pk, xk, ((0 : Nat) : Int), x0, rfl, rfl, SqL.of hk4, atI_nat e0, _, rfl, x0, true, pr, M0.val, rs, n, rfl, mM0.mono k4, hpr, h3, bM0.sq (by decide), lrs, small, fun v' H5 s5 m5 => ?_⟩))))
      obtain ⟨b5, rfl, hb5⟩ := m5
      obtain ⟨nr, enr⟩ : ∃ nr : List Int, nr = ledM M0.val rs := ⟨_, rfl⟩
      have hb5 : H5 b5 = some (.tup (nr.map V.int)) := by rw [enr]; exact hb5
      have lnr : nr.length = n := by rw [enr]; exact led_len M0.property.sh
      have bnr : ∀ x ∈ nr, x.natAbs < 2 ^ 30 := by
        rw [enr]
        exact led_small (c := 4) h1 h3 bM0 lrs fun x hx => Nat.lt_of_le_of_lt (brs x hx) (by decide)
      have q1 : ∀ H', Same H5 H' → SqV K H' true pr (rs.map V.int) := fun H' s => .inl (.inl (s _ _ (s5 _ _ hpr)))
      have q2 : ∀ H', Same H5 H' → SqV K H' true b5 (nr.map V.int) := fun H' s => .inl (.inl (s _ _ hb5))
      have sq : ∀ H7, Same H5 H7 → AllSq K H7 [(true, pr), (true, b5)] := fun H7 s7 z hz => by
        rcases List.mem_cons.mp hz with rfl | hz
        · exact ⟨_, q1 H7 s7⟩
        · rcases List.mem_cons.mp hz with rfl | hz
          · exact ⟨_, q2 H7 s7⟩
          · cases hz
      refine r_next (r_nret (r_cb (r_cons ?_)))
      refine tlc_of (Itn K [(true, pr), (true, b5)]) (H1 := H5) (fun R hR' => ⟨_, rfl, _, rfl, [(true, pr), (true, b5)], rfl, Nat.zero_lt_succ _, (by show 2 ≤ 3; decide), sq H5 (Same.refl H5), hR'⟩) ?_
      refine lc_el (p := none) n (fun l v => ∃ x y, rs[l]? = some x ∧ nr[l]? = some y ∧ v = .int (x + y)) has_none (by omega) (fun l H7 hl s7 => ?_) (fun H7 s7 => ?_) (fun l x H7 H8 C3 hl s7 _ hy3 hC3 => ?_) fun Dd H7 zs nDd s7 hDd hzl hzE => ⟨Dd, zs, rfl, .inl ⟨SqL.of hDd, fun c nc => ?_⟩⟩
      · exact ⟨[.int (rs[l]'(by omega)), .int (nr[l]'(by omega))], row2 (q1 H7 s7.same) (by simp [(by omega : l < rs.length)]) (q2 H7 s7.same) (by simp [(by omega : l < nr.length)])⟩
      · exact ⟨sq H7 s7.same, (true, pr), List.mem_cons_self, _, q1 H7 s7.same, by simp; omega⟩
      · have l1 : l < rs.length := by omega
        have l2 : l < nr.length := by omega
        obtain ⟨T2, ws, rfl, nT, rfl, hu⟩ := hy3
        have ez : ws = [.int rs[l], .int nr[l]] := (hu _ (row2 (q1 H7 s7.same) (by simp [l1]) (q2 H7 s7.same) (by simp [l2]))).symm
        subst ez
        refine ⟨T2, _, rfl, .inl (.inl upd_same), rfl, _, _, rfl, _, _, rfl, rfl, rfl, ?_⟩
        exact ⟨_, rfl, _, rfl, _, _, rfl, rfl, hC3 _ _ (RX.new nT) ⟨_, _, List.getElem?_eq_getElem l1, List.getElem?_eq_getElem l2, rfl⟩⟩
      · have ez : zs = ((rs.zip nr).map fun (p : Int × Int) => p.1 + p.2).map V.int := by
          rw [List.map_map]
          exact map_of_get (n := 0) _ (by simp [hzl, lrs, lnr]) fun i v e => by
            obtain ⟨x, y, e1, e2, e3⟩ := hzE i v e
            exact ⟨(x, y), by rw [List.getElem?_zip_eq_some]; exact ⟨e1, e2⟩, e3⟩
        refine q c _ ((rs.zip nr).map fun (p : Int × Int) => p.1 + p.2) (r4.trans (RX.of (s5.trans (s7.same.trans (same_new nc))))) (by rw [upd_same, ez]) (by simp [lrs, lnr]) fun x hx => ?_
        obtain ⟨y, hy, rfl⟩ := List.mem_map.mp hx
        have a := brs _ (List.of_mem_zip hy).1
        have b := bnr _ (List.of_mem_zip hy).2
        have : (2 : Nat) ^ 30 + 9 < 2 ^ 40 := by decide
        omega
    rw [decide_eq_false z1]
    refine iteF (r_next (r_nret (r_ifx (r_tt (r_op ⟨_, rfl, rfl, _, rfl, ?_⟩)))))
    by_cases z2 : V.int way = V.int 2
    · rw [decide_eq_true z2]
      exact iteT ⟨_, rfl, q pr _ rs r4 hpr lrs lt9⟩
    · rw [decide_eq_false z2]
      refine iteF (r_cb (r_cons ?_))
      refine tlc_of (Ite2 K true pr) (H1 := H4) (fun R hR => ⟨_, rfl, true, pr, _, rfl, hn4 H4 (Same.refl H4), hR⟩) ?_
      refine lc_el (p := none) n (fun l v => ∃ x : Int, v = .int x ∧ x.natAbs ≤ 9) has_none (by omega) (fun l H7 hl s7 => ?_) (fun H7 s7 => ?_) (fun l x H7 H8 C3 hl s7 _ hy3 hC3 => ?_) fun Dd H7 zs nDd s7 hDd hzl hzE => ⟨Dd, zs, rfl, .inl ⟨SqL.of hDd, fun c nc => ?_⟩⟩
      · exact ⟨_, .int (rs[l]'(by omega)), hn4 H7 s7.same, by rw [List.getElem?_map, List.getElem?_eq_getElem (by omega)]; rfl⟩
      · exact ⟨_, hn4 H7 s7.same, by rw [List.length_map]; omega⟩
      · obtain ⟨T2, y, rfl, nT, rfl, hu⟩ := hy3
        have ey := hu _ (hn4 H7 s7.same)
        have l1 : l < rs.length := by omega
        rw [List.getElem?_map, List.getElem?_eq_getElem l1] at ey
        cases ey
        refine ⟨T2, _, rfl, .inl (.inl upd_same), rfl, _, _, rfl, _, _, rfl, rfl, rfl, ?_⟩
        refine r_op ⟨_, rfl, r_cb (r_cons (r_op ⟨_, rfl, r_op ⟨_, rfl, _, rfl, _, _, rfl, rfl, by omega, rfl, .inr ⟨_, rfl, ?_⟩⟩⟩))⟩
        have b9 := brs _ (List.getElem_mem l1)
        generalize decide (V.int (l : Int) = V.int (way % (n : Int))) = kk
        refine ⟨_, _, rfl, rfl, .inl ⟨by omega, by omega⟩, hC3 _ _ (RX.new nT) ⟨_, rfl, ?_⟩⟩
        cases kk with
        | true => simpa using b9
        | false => simp
      · obtain ⟨zz, rfl, bz⟩ := ints_ofB hzE
        exact q c _ zz (r4.trans (RX.of (s7.same.trans (same_new nc)))) upd_same (by rw [← hzl, List.length_map]) fun x hx => Nat.lt_of_le_of_lt (bz x hx) (by decide)
end
end T81
set_option Elab.async false
set_option linter.all false
set_option maxRecDepth 100000
set_option maxHeartbeats 4000000
namespace T81
open PySem PySem.Spec PyProof.Rows L2 Gd Zn Rp Dn Tb Gn En Zs Ct Op Oc Rg Rt Ro Dm Gx Ob
theorem shaped_rl (L : List (List Int)) : SeqAt.shaped (.list (L.map fun r => .tuple (r.map PyData.int))) = true := by
  unfold SeqAt.shaped
  rw [PyData.canLay0, lay_rows, PyData.depth]
  have := depth_rows L
  simp
  omega
theorem r_neRL {K : PySem.W.Frag} {H : Hp} {D D' : Addr} {vs ws : List V} {L N : List (List Int)} {Q : VK} (hD : H D = some (.lst vs)) (hv : RowsV H vs L) (hD' : H D' = some (.lst ws)) (hw : RowsV H ws N) (q : Q (.bl (!decide (L = N))) H) : rNeD K (.ref D) (.ref D') H Q := by
  refine ⟨_, _, .lst (.inl (.inl hD)) (dp_rows hv), .lst (.inl (.inl hD')) (dp_rows hw), shaped_rl L, shaped_rl N, ?_⟩
  rw [PyData.eqv, eqv_rows]
  exact q
theorem r_eqRL {K : PySem.W.Frag} {H : Hp} {D D' : Addr} {vs ws : List V} {L N : List (List Int)} {Q : VK} (hD : H D = some (.lst vs)) (hv : RowsV H vs L) (hD' : H D' = some (.lst ws)) (hw : RowsV H ws N) (q : Q (.bl (decide (L = N))) H) : rEqD K (.ref D) (.ref D') H Q := by
  refine ⟨_, _, .lst (.inl (.inl hD)) (dp_rows hv), .lst (.inl (.inl hD')) (dp_rows hw), shaped_rl L, shaped_rl N, ?_⟩
  rw [PyData.eqv, eqv_rows]
  exact q
theorem r_eqMxs {K : PySem.W.Frag} {H : Hp} {D D' : Addr} {vs ws : List V} {L N : List (List (List Int))} {Q : VK} (hD : H D = some (.lst vs)) (hv : MxL H vs L) (hD' : H D' = some (.lst ws)) (hw : MxL H ws N) (q : Q (.bl (decide (L = N))) H) : rEqD K (.ref D) (.ref D') H Q := by
  refine ⟨.list (L.map mxD), .list (N.map mxD), .lst (.inl (.inl hD)) (dps_mx hv), .lst (.inl (.inl hD')) (dps_mx hw), shaped_mxs L, shaped_mxs N, ?_⟩
  rw [PyData.eqv, eqv_mxs]
  exact q
theorem rep_flat : ∀ n : Nat, (List.replicate n [V.int 0]).flatten = (List.replicate n (0 : Int)).map V.int
  | 0 => rfl
  | n + 1 => by
    rw [List.replicate_succ, List.flatten_cons, rep_flat n, List.replicate_succ]
    rfl
/-- what stays through the law's end -/
structure Kq (P : Program) (w : World) (TT : List (Addr × Str)) (C CL : Addr) (H : Hp) {n : Nat} (h1 : 1 ≤ n) (h3 : n ≤ 3) (Ms : List (GL n)) (ys : List En) (S : List (List (List Int))) (rs : List Int) (D : List (List Int)) (pl pm pr pd py : Addr) (xm wd wy : List V) : Prop where
  lot : LotV P w C CL H (.ref pl) h1 h3 Ms 24 ys
  fin : ys.length ≤ mostN n
  tabs : LamX.Tabs TT H
  m_ : H pm = some (.lst xm)
  mm : MxL H xm S
  r_ : H pr = some (.tup (rs.map V.int))
  d_ : H pd = some (.lst wd)
  dv : RowsV H wd D
  y_ : H py = some (.lst wy)
  yv : MxL H wy (S.filter fun A => decide (ledM A rs = rs))
section
variable {P : Program} {w : World} {TT : List (Addr × Str)} {C CL : Addr} {H H' : Hp} {n : Nat} {h1 : 1 ≤ n} {h3 : n ≤ 3} {Ms : List (GL n)} {ys : List En} {S : List (List (List Int))} {rs : List Int} {D : List (List Int)} {pl pm pr pd py : Addr} {xm wd wy : List V}
theorem Kq.gt (g : GT TT H H') (G : Kq P w TT C CL H h1 h3 Ms ys S rs D pl pm pr pd py xm wd wy) : Kq P w TT C CL H' h1 h3 Ms ys S rs D pl pm pr pd py xm wd wy :=
  ⟨G.lot.gt g, G.fin, g.t G.tabs, g.lst G.m_, G.mm.gt g, g.tup G.r_, g.lst G.d_, rows_gt g G.dv, g.lst G.y_, G.yv.gt g⟩
theorem Kq.ro {Fd : List (List Int)} {t : Bool} {b : Addr} {xs : List Int} {Q : VK} {E : XK} (G : Kq P w TT C CL H h1 h3 Ms ys S rs D pl pm pr pd py xm wd wy) (hb : LT H t b (xs.map V.int)) (lx : xs.length = n) (sx : ∀ x ∈ xs, Small x) (nd : Fd.Nodup) (hd : ∀ r, r ∈ Fd ↔ ∃ A ∈ ys.map (·.1), r = ledM A xs)
    (q : ∀ c H' ws, GT TT H H' → NewL H c → H' c = some (.lst ws) → RowsV H' ws (Fd.mergeSort Sr.leR) → Q (.ref c) H') : sp_ro P w TT C CL [.ref pl, .ref b] H Q E :=
  ⟨.ref pl, .ref b, xs, n, 24, h1, h3, Ms, ys, rfl, G.lot, G.fin, G.tabs, fun H' g => seq_gt g hb, lx, sx, fun c H' ws F g nl hc ndF hF rv => q c H' ws g nl hc (by
    rw [Sr.sort_sameR nd ndF fun r => (hd r).trans (hF r).symm]
    exact rv)⟩
theorem Kq.sy {t : Bool} {b : Addr} {xs : List Int} {Q : VK} {E : XK} (G : Kq P w TT C CL H h1 h3 Ms ys S rs D pl pm pr pd py xm wd wy) (eS : S = (ys.map (·.1)).mergeSort Sm.leX) (hb : LT H t b (xs.map V.int)) (lx : xs.length = n) (sx : ∀ x ∈ xs, Small x)
    (q : ∀ c H' (ps : List (Addr × List (List Int))), GT TT H H' → NewL H c → H' c = some (.lst (ps.map fun p => V.ref p.1)) → (∀ p ∈ ps, Tv C H' (.ref p.1) n (bN 24) p.2) → ps.map (·.2) = S.filter (fun A => decide (ledM A xs = xs)) → Q (.ref c) H') : sp_sy P w TT C CL [.ref pl, .ref b] H Q E :=
  ⟨.ref pl, t, b, xs, n, 24, h1, h3, Ms, ys, rfl, G.lot, G.fin, G.tabs, hb, lx, sx, fun c H' ps g nl hc tv e => q c H' ps g nl hc tv (by rw [eS]; exact e)⟩
theorem rows_by {H H' : Hp} {vs : List V} {M : List (List Int)} (g : ∀ b xs, H b = some (.tup xs) → H' b = some (.tup xs)) (h : RowsV H vs M) : RowsV H' vs M := by
  induction h with
  | nil => exact .nil
  | cons a _ ih =>
    obtain ⟨b, rfl, hb⟩ := a
    exact .cons ⟨b, rfl, g _ _ hb⟩ ih
theorem Kq.wx {p : Addr} (s : ∀ b o, b ≠ p → (∀ ps, o ≠ .tbl ps) → H b = some o → H' b = some o) (t : LamX.Tabs TT H') (hp : PotOk H p) (yp : ∀ y ∈ ys, y.2.2 ≠ p) (mp : pm ≠ p) (dp : pd ≠ p) (qp : py ≠ p) (G : Kq P w TT C CL H h1 h3 Ms ys S rs D pl pm pr pd py xm wd wy) : Kq P w TT C CL H' h1 h3 Ms ys S rs D pl pm pr pd py xm wd wy := by
  have np : ∀ {b : Addr} {o : HO}, H b = some o → (∀ xs, o ≠ .lst xs) → b ≠ p := fun e n z => by
    subst z
    obtain ⟨x, y, e1, _⟩ := hp
    rw [e1] at e
    cases e
    exact n _ rfl
  have kt : ∀ b vs, H b = some (.tup vs) → H' b = some (.tup vs) := fun b vs e => s b _ (np e (fun _ z => by cases z)) (fun _ z => by cases z) e
  have ml : ∀ {vs : List V} {L : List (List (List Int))}, MxL H vs L → MxL H' vs L := fun h => ⟨h.len, fun i v e => by
    obtain ⟨M, a, b⟩ := h.get i v e
    exact ⟨M, a, Is.mx_by kt b⟩⟩
  have kl : ∀ {b : Addr} {xs : List V}, b ≠ p → H b = some (.lst xs) → H' b = some (.lst xs) := fun n e => s _ _ n (fun _ z => by cases z) e
  refine ⟨?_, G.fin, t, kl mp G.m_, ml G.mm, kt _ _ G.r_, kl dp G.d_, rows_by kt G.dv, kl qp G.y_, ml G.yv⟩
  obtain ⟨⟨a, dx, m, xs, d, o, ev, ha, hm, ht, hl⟩, wk, l1, l4, be⟩ := G.lot
  have nm : m ≠ p := fun z => by
    subst z
    obtain ⟨x, y, e1, _⟩ := hp
    rw [hm] at e1
    cases e1
    obtain ⟨M, _, t⟩ := ht.get 0 (.int x) rfl
    obtain ⟨_, _, _, z, _⟩ := t.tab
    cases z
  refine ⟨⟨a, dx, m, xs, d, o, ev, s _ _ (np ha (fun _ z => by cases z)) (fun _ z => by cases z) ha, kl nm hm, ⟨ht.len, fun i v e => ?_⟩, hl.by fun b u q n1 n2 => s b u (np q n1) n2 q⟩, ⟨wk.one, fun y hy => ?_, wk.len, wk.clo⟩, l1, l4, be⟩
  · obtain ⟨M, b, ⟨⟨a', dx', r, rfl, ha', hm'⟩, g, bd⟩⟩ := ht.get i v e
    exact ⟨M, b, ⟨⟨a', dx', r, rfl, s _ _ (np ha' (fun _ z => by cases z)) (fun _ z => by cases z) ha', Is.mx_by kt hm'⟩, g, bd⟩⟩
  · obtain ⟨l, a, b⟩ := wk.en y hy
    exact ⟨l, kl (yp y hy) a, b⟩
end
section
variable {P : Program} {w : World} {K : PySem.W.Frag} {mg : Str → Option Value} {base : Heap} {C CL : Addr}
/-- [one.rows for one in ..] -/
theorem lc_rows5 {H : Hp} {Dt : Addr} {ps : List (Addr × List (List Int))} {Q : VK} {n e : Nat} {a0 a1 a2 a3 a4 a5 a6 a7 a8 a9 a10 a11 : Option V} (hD : H Dt = some (.lst (ps.map fun p => V.ref p.1))) (tv : ∀ p ∈ ps, Tv C H (.ref p.1) n e p.2) (lp : ps.length ≤ 48)
    (q : ∀ D H' vs, Same H H' → H D = none → H' D = some (.lst vs) → MxL H' vs (ps.map (·.2)) → Q (.ref D) H') :
    LcB (gName 11) tYes (tProp C (sp_rows C) [] E0 (tVar 11)) [11] [a0, a1, a2, a3, a4, a5, a6, a7, a8, a9, a10, a11] Q (Its false K Dt) H := by
  have qD : ∀ H', Same H H' → SqV K H' false Dt (ps.map fun p => V.ref p.1) := fun H' s => SqL.of (s _ _ hD)
  refine lc_ks (p := none) ps.length (fun i v G => ∃ M, (ps.map (·.2))[i]? = some M ∧ Mx G v M) (fun i v G G' kk h => by obtain ⟨r, e1, e2⟩ := h; exact ⟨r, e1, e2.mono kk⟩) has_none (by omega) (fun i G hi s => its_go (qD G s.same) (by rw [List.getElem?_map, List.getElem?_eq_getElem hi]; rfl)) (fun G s => its_stop (qD G s.same) (by rw [List.length_map]; exact Nat.le_refl _)) (fun i x G G' C' hi s _ hy hC => ?_) fun D H1 rs nD s1 hDr hrl hrE => q D H1 rs s1.same nD hDr ⟨by rw [hrl, List.length_map], fun i v e => hrE i v e⟩
  obtain ⟨rfl, ex⟩ := its_yld hy (qD _ s.same)
  rw [List.getElem?_map, List.getElem?_eq_getElem hi] at ex
  cases ex
  have t := (tv _ (List.getElem_mem hi)).same s.same
  exact ⟨rfl, r_prop ⟨_, rfl, p_rows t.tab fun r m => hC _ _ (RX.refl _) ⟨_, by rw [List.getElem?_map, List.getElem?_eq_getElem hi]; rfl, m⟩⟩⟩
abbrev st_ri5 : Stmt := top 75
abbrev N_ri5 : List Str := ["_law_pot_here", "_law_size", "_law_makers", "_law_members_here", "_law_lot_here", "_law_row_here", "_law_due", "_law_stay", "_law_told", "_law_kept", "_law_other", "_law_one"]
theorem sc_ri5 : FnScope N_ri5 ["_law_pot_here"] (defScope st_ri5) := ⟨rfl, rfl, rfl, by decide +kernel, rfl, by decide +kernel, by decide +kernel⟩
abbrev RoK (P : Program) (w : World) (K : PySem.W.Frag) (mg : Str → Option Value) (base : Heap) (TT : List (Addr × Str)) (C CL : Addr) : Prop := DefK P w K mg base "round_of" 12 ["lot", "row"] ["row", "lot"] (sp_ro P w TT C CL) gU2 gV2
abbrev SyK (P : Program) (w : World) (K : PySem.W.Frag) (mg : Str → Option Value) (base : Heap) (TT : List (Addr × Str)) (C CL : Addr) : Prop := DefK P w K mg base "stayers" 12 ["lot", "row"] ["row", "lot"] (sp_sy P w TT C CL) gU2 gV2
def sp_rr5 (TT : List (Addr × Str)) : Sp := fun vs H Q _ => ∃ p : Addr, vs = [.ref p] ∧ PotOk H p ∧ LamX.Tabs TT H ∧ ∀ H', (∀ b o, b ≠ p → (∀ ps, o ≠ .tbl ps) → H b = some o → H' b = some o) → LamX.Tabs TT H' → Q (.bl true) H'
theorem ok_rr5 {f : Addr} {fd : FuncData} {TT : List (Addr × Str)} (F : Fun K "_law_right" "_law_right" st_ri5 f fd) (T : Txt mg) (hsort : mg "sorted" = none) (hset : mg "set" = none) (Tc : Tcl K mg C) (Lc : Lcl K mg CL)
    (D1 : Def P w K mg base "_law_draw" 1 ["_law_pot_here", "_law_size"] sp_draw) (D2 : Def P w K mg base "_law_drawn" 4 ["_law_pot_here", "_law_size"] sp_mks) (D3 : Def P w K mg base "_law_members" 2 ["_law_makers"] sp_lmem) (D4 : Def P w K mg base "_law_lot" 16 ["_law_makers"] (sp_lot P w C CL)) (D5 : Def P w K mg base "_law_row" 2 ["_law_pot_here", "_law_makers", "_law_members_here"] sp_lrw) (D6 : Def P w K mg base "_law_point" 1 ["_law_one", "_law_row_here"] sp_pt)
    (D7 : RoK P w K mg base TT C CL) (D8 : SyK P w K mg base TT C CL) (P4 : Prp P w K mg base C "rows" 1 (sp_rows C)) (D9 : Def P w K mg base "_law_pick" 2 ["_law_pot_here", "_law_some"] sp_pick) :
    FnG P w K mg base CX0 17 f fd ["_law_pot_here"] (sp_rr5 TT) := by
  refine okG F sc_ri5 (fun vs H Q E h => ?_) (fun cdv A outer s H vs Q E hst hr h => ?_)
  · obtain ⟨p, rfl, _⟩ := h
    rfl
  · obtain ⟨p, rfl, hp, hTT, q⟩ := h
    have hu := room65 hr
    have hu0 := Nat.lt_of_le_of_lt (Nat.add_le_add_left (by decide : 64 ≤ 65) _) hu
    refine ⟨_, pss_cons (ps_set (i := 1) sc_ri5.nd rfl (Or.inl rfl) (pe_op op_add pe_int (pe_def D1 hr (pa_cons (pv 0) (pa_cons pe_int pa_nil)))))
      (pss_cons (ps_set (i := 2) sc_ri5.nd rfl (Or.inl rfl) (pe_def D2 hr (pa_cons (pv 0) (pa_cons (pv 1) pa_nil))))
      (pss_cons (ps_par (i := 3) (j := 4) rfl sc_ri5.nd rfl rfl (by decide) rfl rfl (pa_cons (pe_def D3 hr (pa_cons (pv 2) pa_nil)) (pa_cons (pe_def D4 hr (pa_cons (pv 2) pa_nil)) pa_nil)) (by rfl))
      (pss_cons (ps_set (i := 5) sc_ri5.nd rfl (Or.inr rfl) (pe_def D5 hr (pa_cons (pv 0) (pa_cons (pv 2) (pa_cons (pv 3) pa_nil)))))
      (pss_cons (ps_set (i := 6) sc_ri5.nd rfl (Or.inl rfl) (pe_callB (Sr.cr_sortedS hr.units rfl) (by rfl) hsort (by rfl) (pa_cons (pe_callTy (r := rSetOfT K P w) (cr_setOfT rfl hr.units) (by rfl) hset (by rfl) (pa_cons (pe_lc (own := [("_law_one", 11)]) (g := gName 11) (tt := tYes) rfl sc_ri5.nd (pi_seq (pv 3))
          (blkOk_by (N := N_ri5) (sc := defScope st_ri5) (by decide +kernel)) (fun _ _ _ _ _ => pg_name (i := 11) sc_ri5.nd rfl (Or.inl rfl) (Or.inr rfl)) (fun _ _ _ _ _ => pts_nil)
          (fun _ _ _ _ _ => pe_def (X := Cx.blk _ _ _ _ _ _) D6 hr (pa_cons (pv 11) (pa_cons (pv 5) pa_nil)))) pa_nil)) pa_nil)))
      (pss_cons (ps_setLc (i := 7) (own := [("_law_one", 11)]) (g := gName 11) (tt := tTest (tOp (rEqD K) (tCall sp_pt [] E0 (tCons (tVar 11) (tCons (tVar 5) tNil))) (tVar 5))) rfl sc_ri5.nd rfl rfl (sw_true rfl rfl rfl (by decide +kernel)) (pi_seq (pv 3))
          (blkOk_by (N := N_ri5) (sc := defScope st_ri5) (by decide +kernel)) (fun _ _ _ _ _ => pg_name (i := 11) sc_ri5.nd rfl (Or.inl rfl) (Or.inr rfl)) (fun _ _ _ _ _ => pts_one (pt_cmpR (r := rEqD K) (op_eqD hu0) (pe_def (X := Cx.blk _ _ _ _ _ _) D6 hr (pa_cons (pv 11) (pa_cons (pv 5) pa_nil))) (pv 5) (by rfl)))
          (fun _ _ _ _ _ => pv (X := Cx.blk _ _ _ _ _ _) 11))
      (pss_cons (ps_par (i := 8) (j := 9) rfl sc_ri5.nd rfl rfl (by decide) rfl rfl (pa_cons (pe_def D7.d hr (pa_cons (pv 4) (pa_cons (pv 5) pa_nil))) (pa_cons (pe_def D8.d hr (pa_cons (pv 4) (pa_cons (pe_callTy (r := rLst K) c_lst (by rfl) T.list PyProof.Rows.boot_list (pa_cons (pv 5) pa_nil)) pa_nil))) pa_nil)) (by rfl))
      (pss_cons (ps_if (PW.pt (pw_or (pt_cmpR (op_neD hu0) (pv 8) (pv 6) (nomark _)) (pw_or (pt_cmpR (op_neD hu0) (pe_defN D7 hr (pk_cons (pe_callTy (r := rLst K) c_lst (by rfl) T.list PyProof.Rows.boot_list (pa_cons (pv 5) pa_nil)) (pk_cons (pv 4) pk_nil))) (pv 6) (nomark _))
          (pw_or1 (pt_not (pt_val (pe_callB (cr_all rfl) (by rfl) T.all boot_all (pa_cons (pe_lc (own := [("_law_one", 11)]) (g := gName 11) (tt := tYes) rfl sc_ri5.nd (pi_seq (pv 8))
            (blkOk_by (N := N_ri5) (sc := defScope st_ri5) (by decide +kernel)) (fun _ _ _ _ _ => pg_name (i := 11) sc_ri5.nd rfl (Or.inl rfl) (Or.inr rfl)) (fun _ _ _ _ _ => pts_nil)
            (fun _ _ _ _ _ => pe_callB (X := Cx.blk _ _ _ _ _ _) (r := rIsi K) call_isi (by rfl) T.isi boot_isinstance (pa_cons (pv 11) (pa_cons (pe_bltn (v := .ty "tuple") (by rfl) T.tuple PyProof.Rows.boot_tuple rfl) pa_nil)))) pa_nil)))))))) (pss_one (ps_ret pe_bl)) pss_nil)
      (pss_cons (ps_if (PW.pt (pw_or (pt_cmpR (op_neD hu0) (pe_lc (own := [("_law_one", 11)]) (g := gName 11) (tt := tYes) rfl sc_ri5.nd (pi_seq (pv 9)) (blkOk_by (N := N_ri5) (sc := defScope st_ri5) (by decide +kernel)) (fun _ _ _ _ _ => pg_name (i := 11) sc_ri5.nd rfl (Or.inl rfl) (Or.inr rfl)) (fun _ _ _ _ _ => pts_nil)
              (fun _ _ _ _ _ => pe_prp (X := Cx.blk _ _ _ _ _ _) P4 Tc.cl hr (pv 11))) (pv 7) (nomark _))
          (pw_or1 (pt_cmpR (op_neD hu0) (pe_lc (own := [("_law_one", 11)]) (g := gName 11) (tt := tYes) rfl sc_ri5.nd (pi_seq (pe_defN D8 hr (pk_cons (pv 5) (pk_cons (pv 4) pk_nil)))) (blkOk_by (N := N_ri5) (sc := defScope st_ri5) (by decide +kernel)) (fun _ _ _ _ _ => pg_name (i := 11) sc_ri5.nd rfl (Or.inl rfl) (Or.inr rfl)) (fun _ _ _ _ _ => pts_nil)
              (fun _ _ _ _ _ => pe_prp (X := Cx.blk _ _ _ _ _ _) P4 Tc.cl hr (pv 11))) (pv 7) (nomark _))))) (pss_one (ps_ret pe_bl)) pss_nil)
      (pss_cons (ps_if (pt_cmpR op_ne (pe_op op_mul (pe_callB (r := Dn.rLen K) c_len (by rfl) T.len PySem.boot_len (pa_cons (pv 8) pa_nil)) (pe_callB (r := Dn.rLen K) c_len (by rfl) T.len PySem.boot_len (pa_cons (pv 9) pa_nil))) (pe_callB (r := Dn.rLen K) c_len (by rfl) T.len PySem.boot_len (pa_cons (pv 3) pa_nil)) (nomark _)) (pss_one (ps_ret pe_bl)) pss_nil)
      (pss_cons (ps_set (i := 10) sc_ri5.nd rfl (Or.inl rfl) (pe_def D9 hr (pa_cons (pv 0) (pa_cons (pv 6) pa_nil))))
      (pss_cons (ps_if (PW.pt (pw_or (pt_cmpR (op_neD hu0) (pe_def D7.d hr (pa_cons (pv 4) (pa_cons (pv 10) pa_nil))) (pv 6) (nomark _))
          (pw_or (pt_cmpR op_ne (pe_callB (r := Dn.rLen K) c_len (by rfl) T.len PySem.boot_len (pa_cons (pe_def D8.d hr (pa_cons (pv 4) (pa_cons (pv 10) pa_nil))) pa_nil)) (pe_callB (r := Dn.rLen K) c_len (by rfl) T.len PySem.boot_len (pa_cons (pv 7) pa_nil)) (nomark _))
          (pw_or1 (pt_cmpR (op_neD hu0) (pe_def D7.d hr (pa_cons (pv 4) (pa_cons (pe_op op_rep (pe_lst (pa_cons pe_int pa_nil)) (pv 1)) pa_nil))) (pe_lst (pa_cons (pe_op (r := rRepN) op_repN (pe_tup (pa_cons pe_int pa_nil)) (pv 1)) pa_nil)) (by rfl)))))) (pss_one (ps_ret pe_bl)) pss_nil)
      (pss_cons (ps_expr (pe_bm PySem.F.plainAttrs_list PySem.F.slot_list_append PySem.F.type_list_append mt_append (pv 8) (pa_cons pe_non pa_nil)))
      (pss_cons (ps_expr (pe_bm PySem.F.plainAttrs_list PySem.F.slot_list_append PySem.F.type_list_append mt_append (pv 9) (pa_cons pe_non pa_nil)))
      (pss_one (ps_ret (pe_and (pe_cmpR (op_eqD hu0) (pe_def D7.d hr (pa_cons (pv 4) (pa_cons (pv 5) pa_nil))) (pv 6) (nomark _))
        (pe_one (pe_cmpR (op_eqD hu0) (pe_lc (own := [("_law_one", 11)]) (g := gName 11) (tt := tYes) rfl sc_ri5.nd (pi_seq (pe_def D8.d hr (pa_cons (pv 4) (pa_cons (pv 5) pa_nil)))) (blkOk_by (N := N_ri5) (sc := defScope st_ri5) (by decide +kernel)) (fun _ _ _ _ _ => pg_name (i := 11) sc_ri5.nd rfl (Or.inl rfl) (Or.inr rfl)) (fun _ _ _ _ _ => pts_nil)
              (fun _ _ _ _ _ => pe_prp (X := Cx.blk _ _ _ _ _ _) P4 Tc.cl hr (pv 11))) (pv 7) (nomark _))))))))))))))))))), ?_⟩
    have hh : Has (some p) H := fun q e => by cases e; exact hp
    have ne : ∀ {b : Addr}, b ≠ p → (some p : Option Addr) ≠ some b := fun n z => n (Option.some.inj z).symm
    refine r_seq (r_asg (r_op (a2 ⟨_, rfl, p, 3, rfl, hp, by decide, by decide, fun n0 H1 n00 n03 s1 => ⟨_, _, rfl, rfl, ?_⟩⟩)))
    obtain ⟨n, en, h1, h3⟩ : ∃ n : Nat, (1 + n0 : Int) = n ∧ 1 ≤ n ∧ n ≤ 3 := ⟨(1 + n0).toNat, by omega, by omega, by omega⟩
    have e1 : (fun i j : Int => V.int (i + j)) 1 n0 = V.int n := congrArg V.int en
    rw [e1]
    have hp1 := s1.pot p rfl hp
    refine r_next (r_nseq (r_asg (a2 ⟨_, rfl, _, rfl, p, n, rfl, hp1, h1, h3, fun pk H2 xk Ms s2 kp hk mk l1 l4 fg bM => ?_⟩)))
    have hp2 := s2.pot p rfl hp1
    refine r_next (r_nseq (r_par2 (r_cons (a1 ⟨_, rfl, pk, xk, n, 24, Ms, rfl, hk, mk, h1, h3, l1, l4, fg, by decide, bM, fun pm H3 xm F s3 npm hm ndF hF mF => r_cons (a1 ⟨_, rfl, pk, xk, n, 24, h1, h3, Ms, rfl, s3 _ _ hk, mk.same s3, l1, l4, by decide, bM, fun pl H4 ys s4 npl fr hL => ⟨_, _, rfl, ?_⟩⟩)⟩))))
    have hp3 := pot_of5 hp2 s3
    have hp4 := pot_of5 hp3 s4
    have pmp : pm ≠ p := fun z => by subst z; exact hp2.some_ npm
    have hnd : (ys.map (·.1)).Nodup := by obtain ⟨_, _, _, _, _, _, _, _, _, _, ml⟩ := hL.ex; exact ml.nd
    have wkf := wk_fin hL.wk hnd fg
    have yp : ∀ y ∈ ys, y.2.2 ≠ p := fun y hy z => by
      have := fr y hy
      rw [z] at this
      exact hp3.some_ this
    obtain ⟨S, eS⟩ : ∃ S, S = F.mergeSort Sm.leX := ⟨_, rfl⟩
    rw [← eS] at mF
    have memS : ∀ M, M ∈ S ↔ LR Ms M := fun M => by rw [eS, List.mem_mergeSort]; exact hF M
    have eY : S = (ys.map (·.1)).mergeSort Sm.leX := by
      rw [eS]
      exact Sm.sort_same ndF hnd fun M => (hF M).trans (wkf.2.1 M).symm
    have mY : ∀ M, M ∈ ys.map (·.1) ↔ M ∈ S := fun M => (wkf.2.1 M).trans (memS M).symm
    have ndS : S.Nodup := by rw [eS]; exact (List.mergeSort_perm F Sm.leX).nodup_iff.mpr ndF
    have bS : ∀ M ∈ S, SqE n 24 M := fun M hM => wkf.2.2 M ((mY M).mpr hM)
    have lS : S.length ≤ 48 := by
      have := most_le n
      rw [eY, List.length_mergeSort, List.length_map]
      exact Nat.le_trans wkf.1 this
    have s24 : Same H2 H4 := s3.trans s4
    refine r_next (r_nseq (r_asg (a3 ⟨_, rfl, _, rfl, _, rfl, p, pk, pm, xk, xm, n, Ms, S, rfl, hp4, s24 _ _ hk, kp, mk.same s24, s4 _ _ hm, pmp, mF.same s4, h1, h3, l1, l4, bM, bS, lS, fun pr H5 rs s5 hr5 lr br => ?_⟩)))
    have hp5 := s5.pot p rfl hp4
    have r25 : RX (some p) H2 H5 := (RX.of s24).trans s5
    have r5 : RX (some p) H H5 := (s1.trans s2).trans r25
    have hm5 := s5.keep _ _ (ne pmp) (s4 _ _ hm)
    have mm5 : MxL H5 xm S := mx_l s5 hp4 (mF.same s4)
    have lot5 := hL.rx s5 hp4 yp
    have tabs5 := Gx.tabs_rx r5 hh hTT
    have lxm : xm.length = S.length := mm5.len
    have small : ∀ x ∈ rs, Small x := fun x hx => ⟨40, by decide, br x hx⟩
    -- due
    refine r_next (r_nseq (r_asg (r_cb (r_cons (r_cb (r_cons (tlc_call (i_seq ⟨_, rfl, false, pm, xm, rfl, SqL.of hm5, ?_⟩))))))))
    refine lc_ks (p := none) S.length (fun i v G => ∃ r, (S.map fun M => ledM M rs)[i]? = some r ∧ RowV G v r) (fun i v G G' kk h => by obtain ⟨r, e1, e2⟩ := h; exact ⟨r, e1, e2.mono kk⟩) has_none (by omega) (fun i G hi s => its_go (SqL.of (s.same _ _ hm5)) (List.getElem?_eq_getElem (by omega))) (fun G s => its_stop (SqL.of (s.same _ _ hm5)) (by omega)) (fun i x G G' C' hi s _ hy hC => ?_) fun D0 H6 ds nD0 s6 hD0 hl0 hE0 => ?_
    · obtain ⟨rfl, ex⟩ := its_yld hy (SqL.of (s.same _ _ hm5))
      obtain ⟨M, eM, mM⟩ := mm5.get _ _ ex
      exact ⟨rfl, a2 ⟨_, rfl, _, rfl, x, true, pr, M, rs, n, rfl, mM.mono (KS.of s.same), s.same _ _ hr5, h3, (bS M (List.mem_of_getElem? eM)).sq (by decide), lr, small, fun v' Gc sc mv => hC _ _ (RX.of sc) ⟨_, by rw [List.getElem?_map, eM]; rfl, mv⟩⟩⟩
    obtain ⟨ks, rfl, e2, hk6⟩ := row_ks (by rw [hl0, List.length_map]) hE0
    have lk6 : ks.length = S.length := by have := hl0; rwa [List.length_map] at this
    refine ⟨D0, ks, rfl, SqL.of hD0, fun p hp => ?_, by omega, fun a L na sub all => ?_⟩
    · obtain ⟨b, eb, hb⟩ := hk6 p hp
      cases eb
      exact .inl (.inl hb)
    have sa : Same H6 (upd H6 a (SetTO P w a L)) := same_new na
    have shk : ∀ p ∈ ks, ∃ A ∈ ys.map (·.1), p.2 = ledM A rs ∧ p.2.length = n := fun p hp => by
      have : p.2 ∈ ks.map (·.2) := List.mem_map_of_mem hp
      rw [← e2] at this
      obtain ⟨A, hA, e3⟩ := List.mem_map.mp this
      exact ⟨A, (mY A).mpr hA, e3.symm, by rw [← e3]; exact led_len (bS A hA).sh⟩
    refine ⟨a, L, rfl, upd_same, fun p hp => ⟨(hk6 p (sub p hp)).mono (KS.of sa), fun z => ?_⟩, fun L' pd pL nd0 few npd => ?_⟩
    · obtain ⟨A, hA, _, l⟩ := shk p (sub p hp)
      rw [z] at l
      simp at l
      omega
    have s7 : Same (upd H6 a (SetTO P w a L)) (upd (upd H6 a (SetTO P w a L)) pd (.lst ((L'.mergeSort Sr.leP).map fun p => V.ref p.1))) := same_new npd
    have hd7 : upd (upd H6 a (SetTO P w a L)) pd (.lst ((L'.mergeSort Sr.leP).map fun p => V.ref p.1)) pd = some (.lst ((L'.mergeSort Sr.leP).map fun p => V.ref p.1)) := upd_same
    have s57 : Same H5 (upd (upd H6 a (SetTO P w a L)) pd (.lst ((L'.mergeSort Sr.leP).map fun p => V.ref p.1))) := s6.same.trans (sa.trans s7)
    obtain ⟨Fd, eFd⟩ : ∃ Fd, Fd = L'.map (·.2) := ⟨_, rfl⟩
    have ndd : Fd.Nodup := by rw [eFd]; exact (pL.map (·.2)).nodup_iff.mpr nd0
    have hFd : ∀ r, r ∈ Fd ↔ ∃ A ∈ ys.map (·.1), r = ledM A rs := fun r => by
      rw [eFd, (pL.map (·.2)).mem_iff]
      constructor
      · intro hr'
        obtain ⟨p, hp, rfl⟩ := List.mem_map.mp hr'
        obtain ⟨A, hA, e, _⟩ := shk p (sub p hp)
        exact ⟨A, hA, e⟩
      · rintro ⟨A, hA, rfl⟩
        have : ledM A rs ∈ ks.map (·.2) := by
          rw [← e2]
          exact List.mem_map.mpr ⟨A, (mY A).mp hA, rfl⟩
        obtain ⟨p, hp, e⟩ := List.mem_map.mp this
        rw [← e]
        exact all p hp
    have dv7 : RowsV (upd (upd H6 a (SetTO P w a L)) pd (.lst ((L'.mergeSort Sr.leP).map fun p => V.ref p.1))) ((L'.mergeSort Sr.leP).map fun p => V.ref p.1) (Fd.mergeSort Sr.leR) := by
      rw [eFd, ← Sr.sort_rows]
      exact ks_rows fun p hp => ((hk6 p (sub p (pL.mem_iff.mp (List.mem_mergeSort.mp hp)))).mono (KS.of sa)).mono (KS.of s7)
    have pdp : pd ≠ p := fun z => by
      subst z
      exact (pot_of5 hp5 (s6.same.trans sa)).some_ npd
    generalize ((L'.mergeSort Sr.leP).map fun p => V.ref p.1) = wd at hd7 s57 dv7 s7 ⊢
    generalize upd (upd H6 a (SetTO P w a L)) pd (.lst wd) = H7 at hd7 s57 dv7 s7 ⊢
    -- stay
    have hm7 := s57 _ _ hm5
    have hr7 := s57 _ _ hr5
    have mm7 := mm5.same s57
    have hp7 := pot_of5 hp5 s57
    refine r_next (r_nseq (r_asg (tlc_call (i_seq ⟨_, rfl, false, pm, xm, rfl, SqL.of hm7, ?_⟩))))
    refine lc_flt (T := TT) (fun (v : V) (M : List (List Int)) G => Mx G v M) (fun v x G G' g h => g.mx h) (fun v x G G' k h => h.mono k) S.length (fun i => (S.take i).filter fun A => decide (ledM A rs = rs)) (by omega) rfl (fun i hi => Nat.le_trans (List.length_filter_le _ _) (by rw [List.length_take]; omega)) (fun i G hi s => its_go (SqL.of (s.lst hm7)) (List.getElem?_eq_getElem (by omega))) (fun G s => its_stop (SqL.of (s.lst hm7)) (by omega)) (fun i x G G' C' C0 hi s hy hC hC0 => ?_) fun py H8 wy npy s8 hy8 hl8 hE8 => ?_
    · obtain ⟨rfl, ex⟩ := its_yld hy (SqL.of (s.lst hm7))
      obtain ⟨M, eM, mM⟩ := (mm7.gt s).get _ _ ex
      have ft := filter_take (p := fun A => decide (ledM A rs = rs)) eM
      refine ⟨rfl, r_tt (r_op (a2 ⟨_, rfl, _, rfl, x, true, pr, M, rs, n, rfl, mM, s.tup hr7, h3, (bS M (List.mem_of_getElem? eM)).sq (by decide), lr, small, fun v' Gc sc mv => ⟨_, rfl, r_eqRow mv ⟨pr, rfl, sc _ _ (s.tup hr7)⟩ ⟨_, rfl, ?_⟩⟩⟩))⟩
      have g4 : GT TT G' Gc := .of sc
      by_cases z : ledM M rs = rs
      · have z' : (M.map fun r => dot r rs) = rs := z
        rw [decide_eq_true z']
        rw [if_pos (decide_eq_true z)] at ft
        exact iteT ⟨_, rfl, hC _ M _ g4 ft (mM.mono (KS.of sc))⟩
      · have z' : ¬ (M.map fun r => dot r rs) = rs := z
        rw [decide_eq_false z']
        rw [if_neg (by rw [decide_eq_false z]; decide), List.append_nil] at ft
        exact iteF (hC0 _ g4 ft)
    rw [List.take_length] at hl8 hE8
    have yv8 : MxL H8 wy (S.filter fun A => decide (ledM A rs = rs)) := ⟨hl8, hE8⟩
    have pyp : py ≠ p := fun z => by subst z; exact hp7.some_ npy
    have hp8 : PotOk H8 p := by
      obtain ⟨a, b, e, z⟩ := hp7
      exact ⟨a, b, s8.lst e, z⟩
    have G8 : Kq P w TT C CL H8 h1 h3 Ms ys S rs (Fd.mergeSort Sr.leR) pl pm pr pd py xm wd wy := ⟨(lot5.same s57).gt s8, wkf.1, s8.t (tabs5.ext s57), s8.lst hm7, mm7.gt s8, s8.tup hr7, s8.lst hd7, rows_gt s8 dv7, hy8, yv8⟩
    have k8 : ∀ b o, b ≠ p → (∀ ps, o ≠ .tbl ps) → H b = some o → H8 b = some o := fun b o nb nto e => s8.n b o nto (s57 b o (r5.keep b o (ne nb) e))
    clear hl8 hE8 yv8 hy8 hp7 mm7 hr7 hm7 s8 dv7 hd7 s57 s7 npd all few sub na hE0 hl0 hD0
    -- counting
    have cR := count_round fg h1 h3 hnd wkf.2.1 lr ndd hFd
    have lFd : 0 < Fd.length := by
      cases eF : Fd with
      | nil =>
        have u := (hFd (ledM (unitM n) rs)).mpr ⟨_, hL.wk.one, rfl⟩
        rw [eF] at u
        cases u
      | cons _ _ => exact Nat.zero_lt_succ _
    have eYl : (ys.map (·.1)).length = S.length := by rw [eY, List.length_mergeSort]
    have eFl : ∀ xs : List Int, (S.filter fun A => decide (ledM A xs = xs)).length = ((ys.map (·.1)).filter fun A => decide (ledM A xs = xs)).length := fun xs => by
      rw [eY]
      exact ((List.mergeSort_perm _ _).filter _).length_eq
    have lwd : wd.length = Fd.length := by rw [G8.dv.len, List.length_mergeSort]
    have lwy : wy.length = (S.filter fun A => decide (ledM A rs = rs)).length := G8.yv.len
    have lf48 : ∀ xs : List Int, (S.filter fun A => decide (ledM A xs = xs)).length ≤ 48 := fun xs => Nat.le_trans (List.length_filter_le _ _) lS
    -- told, kept
    refine r_next (r_nseq (r_par2 (r_cons (a2 ⟨_, rfl, _, rfl, G8.ro (t := true) G8.r_ lr small ndd hFd fun pt H9 wt g9 npt ht vt => r_cons (a2 ⟨_, rfl, cb1 ⟨_, rfl, pr, _, rfl, .inr (.inl (.inl (g9.tup G8.r_))), fun l nl => ?_⟩⟩)⟩))))
    have sl : Same H9 (upd H9 l (.lst (rs.map V.int))) := same_new nl
    have el : upd H9 l (.lst (rs.map V.int)) l = some (.lst (rs.map V.int)) := upd_same
    have g9' : GT TT H8 (upd H9 l (.lst (rs.map V.int))) := g9.trans (.of sl)
    have ht9 := sl _ _ ht
    have vt9 := rows_gt (T := TT) (.of sl) vt
    generalize upd H9 l (.lst (rs.map V.int)) = H9' at sl el g9' ht9 vt9 ⊢
    refine (G8.gt g9').sy eY (t := false) el lr small fun pk2 H10 ps g10 npk hpk tv ep => ⟨_, _, rfl, ?_⟩
    have g810 := g9'.trans g10
    have G10 := G8.gt g810
    have ht10 := g10.lst ht9
    have vt10 := rows_gt g10 vt9
    have npk8 : NewL H8 pk2 := fun o nto u => npk o nto (g9'.n _ _ nto u)
    have lps : ps.length = (S.filter fun A => decide (ledM A rs = rs)).length := by rw [← ep, List.length_map]
    have lps48 : ps.length ≤ 48 := by have := lf48 rs; omega
    have lwt : wt.length = Fd.length := by rw [vt10.len, List.length_mergeSort]
    have lFd48 : Fd.length ≤ 48 := by
      have : Fd.length ≤ (ys.map (·.1)).length := by
        rw [← cR]
        have : 0 < ((ys.map (·.1)).filter fun X => decide (ledM X rs = rs)).length := Nat.pos_of_ne_zero fun z0 => by
          rw [z0] at cR
          have : 0 < (ys.map (·.1)).length := List.length_pos_of_mem hL.wk.one
          omega
        exact Nat.le_mul_of_pos_right _ this
      omega
    -- as due, as stay
    refine r_next (r_nseq (r_if (r_or (r_tt (r_op ⟨_, rfl, _, rfl, r_neRL ht10 vt10 G10.d_ G10.dv ⟨_, rfl, ?_⟩⟩)))))
    rw [decide_eq_true rfl]
    refine iteF (r_or (r_tt (r_op (n2 (cb1 ⟨_, rfl, pr, _, rfl, .inr (.inl (.inl G10.r_)), fun l2 nl2 => ⟨_, rfl, ?_⟩⟩)))))
    have sm : Same H10 (upd H10 l2 (.lst (rs.map V.int))) := same_new nl2
    have em : upd H10 l2 (.lst (rs.map V.int)) l2 = some (.lst (rs.map V.int)) := upd_same
    generalize upd H10 l2 (.lst (rs.map V.int)) = H11 at sm em ⊢
    have G11 := G10.gt (.of sm)
    refine G11.ro (t := false) em lr small ndd hFd fun c2 H12 w2 g12 nc2 hc2 v2 => ⟨_, rfl, ?_⟩
    have G12 := G11.gt g12
    refine r_neRL hc2 v2 G12.d_ G12.dv ⟨_, rfl, ?_⟩
    rw [decide_eq_true rfl]
    have g1012 : GT TT H10 H12 := (GT.of sm).trans g12
    have ht12 := g1012.lst ht10
    have vt12 := rows_gt g1012 vt10
    refine iteF (r_not (r_tt (cb1 (tlc_call (i_seq ⟨_, rfl, false, pt, wt, rfl, SqL.of ht12, ?_⟩)))))
    refine lc_el (p := none) wt.length (fun i v => v = .bl true) has_none (by omega) (fun i G hi s => its_go (SqL.of (s.same _ _ ht12)) (List.getElem?_eq_getElem hi)) (fun G s => its_stop (SqL.of (s.same _ _ ht12)) (Nat.le_refl _)) (fun i x Ga Gb C' hi s _ hy hC => ?_) fun Dt H13 bs nDt s13 hDt hlt hEt => ?_
    · obtain ⟨rfl, ex⟩ := its_yld hy (SqL.of (s.same _ _ ht12))
      obtain ⟨r, er, b, rfl, hb⟩ := vt12.get ex
      exact ⟨rfl, _, rfl, .ref b, .ty "tuple", _, _, _, rfl, .ty _, .base (.tup (s.same _ _ hb)), kit_ty (by decide +kernel), hC _ _ (RX.refl _) rfl⟩
    refine ⟨Dt, List.replicate wt.length true, rfl, SqL.of (by rw [← Gx.all_bl hlt hEt]; exact hDt), _, rfl, ?_⟩
    rw [show (List.replicate wt.length true).all id = true by simp]
    refine iteF ?_
    have s13 := s13.same
    have G13 := G12.gt (.of s13)
    have g1013 : GT TT H10 H13 := g1012.trans (.of s13)
    have hpk13 := g1013.lst hpk
    have tv13 : ∀ q ∈ ps, Tv C H13 (.ref q.1) n (bN 24) q.2 := fun q hq => (tv q hq).gt g1013
    refine r_next (r_nseq (r_if (r_or (r_tt (r_op (tlc_call (i_seq ⟨_, rfl, false, pk2, _, rfl, SqL.of hpk13, ?_⟩)))))))
    refine lc_rows5 hpk13 tv13 lps48 fun D2' H14 v14 s14 nD2 hD2 m14 => ?_
    rw [ep] at m14
    have G14 := G13.gt (.of s14)
    refine ⟨_, rfl, r_neMxs hD2 m14 G14.y_ G14.yv ⟨_, rfl, ?_⟩⟩
    rw [decide_eq_true rfl]
    refine iteF (r_tt (r_op (tlc_call (i_seq (n2 ⟨_, rfl, _, rfl, ?_⟩)))))
    refine G14.sy eY (t := true) G14.r_ lr small fun c3 H15 ps3 g15 nc3 hc3 tv3 ep3 => ⟨false, c3, _, rfl, SqL.of hc3, ?_⟩
    have lps3 : ps3.length ≤ 48 := by
      have := congrArg List.length ep3
      rw [List.length_map] at this
      have := lf48 rs
      omega
    refine lc_rows5 hc3 tv3 lps3 fun D3' H16 v16 s16 nD3 hD3 m16 => ?_
    rw [ep3] at m16
    have g1416 : GT TT H14 H16 := g15.trans (.of s16)
    have G16 := G14.gt g1416
    refine ⟨_, rfl, r_neMxs hD3 m16 G16.y_ G16.yv ⟨_, rfl, ?_⟩⟩
    rw [decide_eq_true rfl]
    refine iteF ?_
    have g1016 : GT TT H10 H16 := g1013.trans ((GT.of s14).trans g1416)
    have ht16 := g1016.lst ht10
    have vt16 := rows_gt g1016 vt10
    have hpk16 := g1016.lst hpk
    have g816 := g810.trans g1016
    have hp16 : PotOk H16 p := by
      obtain ⟨a, b, e, z⟩ := hp8
      exact ⟨a, b, g816.lst e, z⟩
    clear g1416 g1013 g1012 tv13 hpk13 G13 G14 G12 G11 m16 m14 hD3 hD2 nD3 nD2 hc3 tv3 hc2 v2 nc2 nc3 hDt hlt hEt ht12 vt12 s14 s16 g15 g12 sm em
    -- as many
    have leq : wt.length * ps.length = xm.length := by rw [lwt, lps, lxm, eFl, cR, eYl]
    refine r_next (r_nseq (r_if (r_tt (r_op (r_op (cb1 ⟨_, rfl, pt, wt, rfl, .inl (SqL.of ht16), cb1 ⟨_, rfl, pk2, _, rfl, .inl (SqL.of hpk16), _, _, rfl, rfl, (.inl ⟨by omega, by omega⟩), cb1 ⟨_, rfl, pm, xm, rfl, .inl (SqL.of G16.m_), rfl, _, rfl, ?_⟩⟩⟩))))))
    have eI : (fun i j : Int => V.int (i * j)) (wt.length : Int) ((ps.map fun p => V.ref p.1).length : Int) = V.int (xm.length : Int) := by
      rw [← leq, List.length_map]
      simp
    rw [decide_eq_true eI]
    refine iteF ?_
    -- another of the round
    refine r_next (r_nseq (r_asg (a2 ⟨_, rfl, _, rfl, p, pd, wd, rfl, hp16, G16.d_, pdp, by omega, by omega, fun i x H17 ex s17 => ?_⟩)))
    have hp17 := s17.pot p rfl hp16
    have k17 : ∀ b o, b ≠ p → (∀ ps, o ≠ .tbl ps) → H16 b = some o → H17 b = some o := fun b o nb _ e => s17.keep b o (ne nb) e
    have G17 := G16.wx k17 (Gx.tabs_rx s17 (fun q e => by cases e; exact hp16) G16.tabs) hp16 yp pmp pdp pyp
    obtain ⟨os, eos, po, rfl, hpo⟩ := G17.dv.get ex
    have mos : os ∈ Fd := List.mem_mergeSort.mp (List.mem_of_getElem? eos)
    obtain ⟨A, hA, eA⟩ := (hFd os).mp mos
    obtain ⟨ga, rfl⟩ := lr_gl ((wkf.2.1 A).mp hA) h1 h3
    have los : os.length = n := by rw [eA]; exact led_len ga.property.sh
    have sos : ∀ x ∈ os, Small x := by
      rw [eA]
      exact fun x hx => small_le (by decide : 24 + 40 + 2 ≤ 20000) (led_small h1 h3 (wkf.2.2 _ hA) lr br x hx)
    have hFo : ∀ r, r ∈ Fd ↔ ∃ B ∈ ys.map (·.1), r = ledM B os := fun r => by
      rw [eA]
      exact (hFd r).trans (round_same fg h1 h3 wkf.2.1 lr ((wkf.2.1 _).mp hA) r).symm
    have cO := count_round fg h1 h3 hnd wkf.2.1 los ndd hFo
    have eOl : (S.filter fun A => decide (ledM A os = os)).length = (S.filter fun A => decide (ledM A rs = rs)).length := by
      rw [eFl, eFl]
      exact Nat.eq_of_mul_eq_mul_left lFd (cO.trans cR.symm)
    refine r_next (r_nseq (r_if (r_or (r_tt (r_op (a2 ⟨_, rfl, _, rfl, G17.ro (t := true) hpo los sos ndd hFo fun c4 H18 w4 g18 nc4 hc4 v4 => ⟨_, rfl, r_neRL hc4 v4 (G17.gt g18).d_ (G17.gt g18).dv ⟨_, rfl, ?_⟩⟩⟩))))))
    rw [decide_eq_true rfl]
    have G18 := G17.gt g18
    have hpo18 := g18.tup hpo
    refine iteF (r_or (r_tt (r_op (cb1 (a2 ⟨_, rfl, _, rfl, G18.sy eY (t := true) hpo18 los sos fun c5 H19 ps5 g19 nc5 hc5 tv5 ep5 => ⟨c5, _, rfl, .inl (SqL.of hc5), cb1 ⟨_, rfl, py, wy, rfl, .inl (SqL.of (G18.gt g19).y_), rfl, _, rfl, ?_⟩⟩⟩)))))
    have lps5 : ps5.length = wy.length := by rw [lwy, ← eOl, ← ep5, List.length_map]
    have eJ : V.int ((ps5.map fun p => V.ref p.1).length : Int) = V.int (wy.length : Int) := by rw [List.length_map, lps5]
    rw [decide_eq_true eJ]
    have G19 := G18.gt g19
    -- noughts
    refine iteF (r_tt (r_op (a2 ⟨_, rfl, r_op (r_lst ⟨(by show 1 ≤ sizeLine; decide), fun l6 nl6 => ⟨_, rfl, l6, (n : Int), _, rfl, rfl, upd_same, by omega, by omega, ?_, fun l7 nl7 => ?_⟩⟩)⟩)))
    · rw [Int.toNat_natCast]
      exact Nat.le_trans (by show 1 * n ≤ 3; omega) (by decide : 3 ≤ sizeLine)
    have s20 : Same H19 (upd (upd H19 l6 (.lst [.int 0])) l7 (.lst (List.replicate (n : Int).toNat [V.int 0]).flatten)) := same_upd (same_new nl6) (free_of (same_new nl6) nl7)
    have fz : (List.replicate (n : Int).toNat [V.int 0]).flatten = (List.replicate n (0 : Int)).map V.int := by
      rw [Int.toNat_natCast]
      exact rep_flat n
    have e20 : upd (upd H19 l6 (.lst [.int 0])) l7 (.lst (List.replicate (n : Int).toNat [V.int 0]).flatten) l7 = some (.lst ((List.replicate n (0 : Int)).map V.int)) := by rw [upd_same, fz]
    generalize upd (upd H19 l6 (.lst [.int 0])) l7 (.lst (List.replicate (n : Int).toNat [V.int 0]).flatten) = H20 at s20 e20 ⊢
    have G20 := G19.gt (.of s20)
    refine G20.ro (t := false) (Fd := [List.replicate n 0]) e20 (by simp) (fun x hx => by rw [(List.mem_replicate.mp hx).2]; exact ⟨1, by decide, by decide⟩) (by simp) (fun r => ?_) fun c6 H21 w6 g21 nc6 hc6 v6 => ?_
    · rw [List.mem_singleton]
      constructor
      · rintro rfl
        exact ⟨_, hA, (led_noughts h1 h3 ga.property.sh).symm⟩
      · rintro ⟨B, hB, rfl⟩
        exact led_noughts h1 h3 (wkf.2.2 B hB).sh
    rw [List.mergeSort_singleton] at v6
    refine r_lst (r_cons (r_op (r_tup ⟨(by show 1 ≤ sizeLine; decide), fun l8 nl8 => ⟨_, rfl, l8, (n : Int), _, rfl, rfl, upd_same, by simp, by omega, by omega, by decide, fun l9 Hm sm hm => ⟨(by show 1 ≤ sizeLine; decide), fun la nla => ?_⟩⟩⟩)))
    have sla : Same Hm (upd Hm la (.lst [.ref l9])) := same_new nla
    have ela : upd Hm la (.lst [.ref l9]) la = some (.lst [.ref l9]) := upd_same
    generalize upd Hm la (.lst [.ref l9]) = H22 at sla ela ⊢
    have s22 : Same H21 H22 := fun b o e => sla b o (sm b o ((same_new nl8) b o e))
    refine r_neRL (s22 _ _ hc6) (rows_gt (T := TT) (.of s22) v6) ela (.cons ⟨l9, rfl, sla _ _ (by rw [hm, fz])⟩ .nil) ⟨_, rfl, ?_⟩
    rw [decide_eq_true rfl]
    refine iteF ?_
    -- what is given is new
    have g1722 : GT TT H17 H22 := g18.trans (g19.trans ((GT.of s20).trans (g21.trans (.of s22))))
    have tE := (G20.gt (g21.trans (.of s22))).tabs
    have kE : ∀ b o, b ≠ p → (∀ ps, o ≠ .tbl ps) → H16 b = some o → H22 b = some o := fun b o nb nto e => g1722.n b o nto (k17 b o nb nto e)
    have nL : ∀ {xs : List V} (ps : Array Value), HO.lst xs ≠ .tbl ps := fun _ z => by cases z
    have ptp : pt ≠ p := fun z => by
      subst z
      obtain ⟨a, b, e, _⟩ := hp8
      exact npt _ nL e
    have pkp : pk2 ≠ p := fun z => by
      subst z
      obtain ⟨a, b, e, _⟩ := hp8
      exact npk8 _ nL e
    have pkt : pk2 ≠ pt := fun z => by
      subst z
      exact npk _ nL ht9
    have htE := kE _ _ ptp nL ht16
    have hkE := kE _ _ pkp nL hpk16
    refine r_next (r_nseq (d_bm ⟨_, rfl, .inl ⟨rfl, _, .inl (.inl htE)⟩, pt, _, .non, rfl, rfl, htE, Nat.lt_of_le_of_lt (by omega : wt.length ≤ 48) (by decide), ?_⟩))
    have hk1 : upd H22 pt (.lst (wt ++ [.non])) pk2 = some (.lst (ps.map fun p => V.ref p.1)) := by
      rw [upd_ne pkt]
      exact hkE
    have t1 := tabs_lst (ys := wt ++ [.non]) tE htE
    refine r_next (r_nseq (d_bm ⟨_, rfl, .inl ⟨rfl, _, .inl (.inl hk1)⟩, pk2, _, .non, rfl, rfl, hk1, Nat.lt_of_le_of_lt (by rw [List.length_map]; exact lps48) (by decide), ?_⟩))
    have t2 := tabs_lst (ys := (ps.map fun p => V.ref p.1) ++ [.non]) t1 hk1
    have kF : ∀ b o, b ≠ p → (∀ ps, o ≠ .tbl ps) → H8 b = some o → upd (upd H22 pt (.lst (wt ++ [.non]))) pk2 (.lst ((ps.map fun p => V.ref p.1) ++ [.non])) b = some o := fun b o nb nto e => by
      have n1 : b ≠ pt := fun z => by subst z; exact npt _ nto e
      have n2 : b ≠ pk2 := fun z => by subst z; exact npk8 _ nto e
      rw [upd_ne n2, upd_ne n1]
      exact kE b o nb nto (g816.n b o nto e)
    generalize upd (upd H22 pt (.lst (wt ++ [.non]))) pk2 (.lst ((ps.map fun p => V.ref p.1) ++ [.non])) = H30 at kF t2 ⊢
    have GF := G8.wx kF t2 hp8 yp pmp pdp pyp
    refine r_next (r_nret (r_op (a2 ⟨_, rfl, _, rfl, GF.ro (t := true) GF.r_ lr small ndd hFd fun c7 H31 w7 g31 nc7 hc7 v7 => ⟨_, rfl, r_eqRL hc7 v7 (GF.gt g31).d_ (GF.gt g31).dv ⟨_, rfl, ?_⟩⟩⟩)))
    rw [decide_eq_true rfl]
    have G31 := GF.gt g31
    refine iteT (r_op (tlc_call (i_seq (a2 ⟨_, rfl, _, rfl, G31.sy eY (t := true) G31.r_ lr small fun c8 H32 ps8 g32 nc8 hc8 tv8 ep8 => ⟨false, c8, _, rfl, SqL.of hc8, ?_⟩⟩))))
    have lps8 : ps8.length ≤ 48 := by
      have := congrArg List.length ep8
      rw [List.length_map] at this
      have := lf48 rs
      omega
    refine lc_rows5 hc8 tv8 lps8 fun D8' H33 v8 s33 nD8 hD8 m33 => ?_
    rw [ep8] at m33
    have g33 : GT TT H30 H33 := g31.trans (g32.trans (.of s33))
    have G33 := GF.gt g33
    refine ⟨_, rfl, r_eqMxs hD8 m33 G33.y_ G33.yv ?_⟩
    rw [decide_eq_true rfl]
    exact q H33 (fun b o nb nto e => g33.n b o nto (kF b o nb nto (k8 b o nb nto e))) G33.tabs
end
end T81
set_option Elab.async false
set_option linter.all false
set_option maxRecDepth 100000
set_option maxHeartbeats 4000000
namespace T81
open PySem PySem.Spec PyProof.Rows L2 Gd Zn Rp Dn Tb Gn En Zs Ct Op Oc Rg Rt Ro Dm Gx
section
variable {P : Program} {w : World} {K : PySem.W.Frag} {mg : Str → Option Value} {base : Heap} {C : Addr}
abbrev st_law5 : Stmt := top 76
theorem sc_law5 : FnScope ["_law_script"] ["_law_script"] (defScope st_law5) := ⟨rfl, rfl, rfl, by decide +kernel, rfl, by decide +kernel, by decide +kernel⟩
theorem ok_lawT {f : Addr} {fd : FuncData} {TT : List (Addr × Str)} (F : Fun K "law" "law" st_law5 f fd) (D1 : Def P w K mg base "_law_pot" 1 ["_law_script", "_law_k"] (sp_pot K)) (D2 : DefG P w K mg base "_law_right" 17 ["_law_pot_here"] (sp_rr5 TT)) :
    FnG P w K mg base CX0 18 f fd ["_law_script"] (sp_lawT K TT) := by
  refine okG F sc_law5 (fun vs H Q E h => ?_) (fun cdv A outer s H vs Q E hst hr h => ?_)
  · obtain ⟨a, ns, rfl, _⟩ := h
    rfl
  · obtain ⟨a, ns, rfl, hTT, hS, hl, q⟩ := h
    refine ⟨_, pss_one (ps_ret (pe_defG D2 hst hr (pa_cons (pe_def D1 hr (pa_cons (pv 0) (pa_cons pe_int pa_nil))) pa_nil))), ?_⟩
    refine r_ret (a1 ⟨_, rfl, a, ns, 0, rfl, hS, hl, by decide, by decide, fun p H4 np s4 hp4 => ?_⟩)
    exact ⟨p, rfl, hp4, hTT.ext s4, fun H5 _ _ => q H5⟩
end
theorem most_t {K : PySem.W.Frag} {T0 : Addr} {od : Option Addr} {t1 t2 t3 : Tok} {n : Nat} {sl : Array (Option Value)} (h : K.lookup T0 = some ⟨.type "tuple", od, .seq #[Value.int 2 t1, .int 12 t2, .int 48 t3] n, sl⟩) : ∀ H, SqT K H T0 [.int 2, .int 12, .int 48] :=
  fun H => .inr ⟨_, _, n, h, rfl, rfl, by show 3 ≤ sizeLine; decide, .cons ⟨_, rfl⟩ (.cons ⟨_, rfl⟩ (.cons ⟨_, rfl⟩ .nil))⟩
end T81
set_option Elab.async false
set_option linter.all false
set_option maxRecDepth 100000
set_option maxHeartbeats 4000000
namespace T81
open PySem PySem.Spec PyProof.Rows L2 Gd Zn Rp Dn Tb Gn En Zs Ct Op Oc Rg Rt Ro Dm Gx
theorem all_mk {l : PySem.W.OpenLaw} {w : World} {K : PySem.W.Frag} {h : Heap} {mg : Str → Option Value} {fa : Addr} (X : K.In h) (G : h.Ns mainGlobals mg) (hfa : mg "law" = some (.ref fa))
    {C f_is_integer f_is_list f_is_row f_is_row_of f_is_grid f_check_size f_check_row f_copied f_unit_rows f_across f_scalar f_led_row f_multiplied f_without f_determinant_of f_cofactor f_check_table f_check_alike f_idle f_in_sequence f_check_makers f__of_letter f_letter_steps f_walked f_check_lot f_check_finite f_round_of f_stayers f__check_lot_and_row f__law_pot f__law_draw f__law_pick f__law_by f__law_point f__law_idle f__law_step f__law_turning f__law_known f__law_led_makers f__law_members f__law_lot f__law_drawn f__law_row f__law_right f_law f_T___init__ f_T_rows f_T_size f_T_determinant f_T___mul__ f_T_undone f_T_lead f_Lt___init__ f_Lt_size f_Lt_is_finite f_Lt_members : Addr}
    {od_is_integer an_is_integer od_is_list an_is_list od_is_row an_is_row od_is_row_of an_is_row_of od_is_grid an_is_grid od_check_size an_check_size od_check_row an_check_row od_copied an_copied od_unit_rows an_unit_rows od_across an_across od_scalar an_scalar od_led_row an_led_row od_multiplied an_multiplied od_without an_without od_determinant_of an_determinant_of od_cofactor an_cofactor od_check_table an_check_table od_check_alike an_check_alike od_idle an_idle od_in_sequence an_in_sequence od_check_makers an_check_makers od__of_letter an__of_letter od_letter_steps an_letter_steps od_walked an_walked od_check_lot an_check_lot od_check_finite an_check_finite od_round_of an_round_of od_stayers an_stayers od__check_lot_and_row an__check_lot_and_row od__law_pot an__law_pot od__law_draw an__law_draw od__law_pick an__law_pick od__law_by an__law_by od__law_point an__law_point od__law_idle an__law_idle od__law_step an__law_step od__law_turning an__law_turning od__law_known an__law_known od__law_led_makers an__law_led_makers od__law_members an__law_members od__law_lot an__law_lot od__law_drawn an__law_drawn od__law_row an__law_row od__law_right an__law_right od_law an_law od_T___init__ an_T___init__ od_T_rows an_T_rows od_T_size an_T_size od_T_determinant an_T_determinant od_T___mul__ an_T___mul__ od_T_undone an_T_undone od_T_lead an_T_lead od_Lt___init__ an_Lt___init__ od_Lt_size an_Lt_size od_Lt_is_finite an_Lt_is_finite od_Lt_members an_Lt_members : Option Addr}
    {sl_is_integer sl_is_list sl_is_row sl_is_row_of sl_is_grid sl_check_size sl_check_row sl_copied sl_unit_rows sl_across sl_scalar sl_led_row sl_multiplied sl_without sl_determinant_of sl_cofactor sl_check_table sl_check_alike sl_idle sl_in_sequence sl_check_makers sl__of_letter sl_letter_steps sl_walked sl_check_lot sl_check_finite sl_round_of sl_stayers sl__check_lot_and_row sl__law_pot sl__law_draw sl__law_pick sl__law_by sl__law_point sl__law_idle sl__law_step sl__law_turning sl__law_known sl__law_led_makers sl__law_members sl__law_lot sl__law_drawn sl__law_row sl__law_right sl_law sl_T___init__ sl_T_rows sl_T_size sl_T_determinant sl_T___mul__ sl_T_undone sl_T_lead sl_Lt___init__ sl_Lt_size sl_Lt_is_finite sl_Lt_members : Array (Option Value)}
    {oc_is_integer kV_is_integer dc_is_integer pm_is_integer cd_is_integer ct_is_integer oc_is_list kV_is_list dc_is_list pm_is_list cd_is_list ct_is_list oc_is_row kV_is_row dc_is_row pm_is_row cd_is_row ct_is_row oc_is_row_of kV_is_row_of dc_is_row_of pm_is_row_of cd_is_row_of ct_is_row_of oc_is_grid kV_is_grid dc_is_grid pm_is_grid cd_is_grid ct_is_grid oc_check_size kV_check_size dc_check_size pm_check_size cd_check_size ct_check_size oc_check_row kV_check_row dc_check_row pm_check_row cd_check_row ct_check_row oc_copied kV_copied dc_copied pm_copied cd_copied ct_copied oc_unit_rows kV_unit_rows dc_unit_rows pm_unit_rows cd_unit_rows ct_unit_rows oc_across kV_across dc_across pm_across cd_across ct_across oc_scalar kV_scalar dc_scalar pm_scalar cd_scalar ct_scalar oc_led_row kV_led_row dc_led_row pm_led_row cd_led_row ct_led_row oc_multiplied kV_multiplied dc_multiplied pm_multiplied cd_multiplied ct_multiplied oc_without kV_without dc_without pm_without cd_without ct_without oc_determinant_of kV_determinant_of dc_determinant_of pm_determinant_of cd_determinant_of ct_determinant_of oc_cofactor kV_cofactor dc_cofactor pm_cofactor cd_cofactor ct_cofactor oc_check_table kV_check_table dc_check_table pm_check_table cd_check_table ct_check_table oc_check_alike kV_check_alike dc_check_alike pm_check_alike cd_check_alike ct_check_alike oc_idle kV_idle dc_idle pm_idle cd_idle ct_idle oc_in_sequence kV_in_sequence dc_in_sequence pm_in_sequence ct_in_sequence oc_check_makers kV_check_makers dc_check_makers pm_check_makers cd_check_makers ct_check_makers oc__of_letter kV__of_letter dc__of_letter pm__of_letter cd__of_letter ct__of_letter oc_letter_steps kV_letter_steps dc_letter_steps pm_letter_steps cd_letter_steps ct_letter_steps oc_walked kV_walked dc_walked pm_walked cd_walked ct_walked oc_check_lot kV_check_lot dc_check_lot pm_check_lot cd_check_lot ct_check_lot oc_check_finite kV_check_finite dc_check_finite pm_check_finite cd_check_finite ct_check_finite oc_round_of kV_round_of dc_round_of pm_round_of cd_round_of ct_round_of oc_stayers kV_stayers dc_stayers pm_stayers cd_stayers ct_stayers oc__check_lot_and_row kV__check_lot_and_row dc__check_lot_and_row pm__check_lot_and_row cd__check_lot_and_row ct__check_lot_and_row oc__law_pot kV__law_pot dc__law_pot pm__law_pot cd__law_pot ct__law_pot oc__law_draw kV__law_draw dc__law_draw pm__law_draw cd__law_draw ct__law_draw oc__law_pick kV__law_pick dc__law_pick pm__law_pick cd__law_pick ct__law_pick oc__law_by kV__law_by dc__law_by pm__law_by cd__law_by ct__law_by oc__law_point kV__law_point dc__law_point pm__law_point cd__law_point ct__law_point oc__law_idle kV__law_idle dc__law_idle pm__law_idle cd__law_idle ct__law_idle oc__law_step kV__law_step dc__law_step pm__law_step cd__law_step ct__law_step oc__law_turning kV__law_turning dc__law_turning pm__law_turning cd__law_turning ct__law_turning oc__law_known kV__law_known dc__law_known pm__law_known cd__law_known ct__law_known oc__law_led_makers kV__law_led_makers dc__law_led_makers pm__law_led_makers cd__law_led_makers ct__law_led_makers oc__law_members kV__law_members dc__law_members pm__law_members cd__law_members ct__law_members oc__law_lot kV__law_lot dc__law_lot pm__law_lot cd__law_lot ct__law_lot oc__law_drawn kV__law_drawn dc__law_drawn pm__law_drawn cd__law_drawn ct__law_drawn oc__law_row kV__law_row dc__law_row pm__law_row cd__law_row ct__law_row oc__law_right kV__law_right dc__law_right pm__law_right cd__law_right ct__law_right oc_law kV_law dc_law pm_law cd_law ct_law oc_T___init__ kV_T___init__ dc_T___init__ pm_T___init__ cd_T___init__ ct_T___init__ oc_T_rows kV_T_rows dc_T_rows pm_T_rows cd_T_rows ct_T_rows oc_T_size kV_T_size dc_T_size pm_T_size cd_T_size ct_T_size oc_T_determinant kV_T_determinant dc_T_determinant pm_T_determinant cd_T_determinant ct_T_determinant oc_T___mul__ kV_T___mul__ dc_T___mul__ pm_T___mul__ cd_T___mul__ ct_T___mul__ oc_T_undone kV_T_undone dc_T_undone pm_T_undone cd_T_undone ct_T_undone oc_T_lead kV_T_lead dc_T_lead pm_T_lead cd_T_lead ct_T_lead oc_Lt___init__ kV_Lt___init__ dc_Lt___init__ pm_Lt___init__ cd_Lt___init__ ct_Lt___init__ oc_Lt_size kV_Lt_size dc_Lt_size pm_Lt_size cd_Lt_size ct_Lt_size oc_Lt_is_finite kV_Lt_is_finite dc_Lt_is_finite pm_Lt_is_finite cd_Lt_is_finite ct_Lt_is_finite oc_Lt_members kV_Lt_members dc_Lt_members pm_Lt_members cd_Lt_members ct_Lt_members : Value}
    {cc_in_sequence P_in_sequence : Addr} {oz_in_sequence : Value} {oy_in_sequence : Option Addr} {vs_in_sequence : Array Value} {sz_in_sequence : Array (Option Value)}
    {pp_T_rows pp_T_size pp_T_determinant pp_Lt_size pp_Lt_is_finite : Addr} {rs_T_rows rs_T_size rs_T_determinant rs_Lt_size rs_Lt_is_finite : List Value}
    {cld : ClassData} {mrest : List Value}
    {CL : Addr}
    {T0 : Addr} {odT0 : Option Addr} {tkT1 tkT2 tkT3 : Tok} {nT0 : Nat} {slT0 : Array (Option Value)}
    {tk_MOST_MAKERS : Tok}
    (aC : PySem.W.nsIn K mainGlobals "Table" = some (some (.ref C)))
    (aCL : PySem.W.nsIn K mainGlobals "Lot" = some (some (.ref CL)))
    (m_T0 : PySem.W.nsIn K mainGlobals "MOST_MEMBERS" = some (some (.ref T0)))
    (l_T0 : K.lookup T0 = some ⟨.type "tuple", odT0, .seq #[Value.int 2 tkT1, .int 12 tkT2, .int 48 tkT3] nT0, slT0⟩)
    (a_is_integer : PySem.W.nsIn K mainGlobals "is_integer" = some (some (.ref f_is_integer)))
    (l_is_integer : K.lookup f_is_integer = some ⟨oc_is_integer, od_is_integer, .func (PySem.W.fnOf "is_integer" "is_integer" (defArgs st_is_integer) (defBody st_is_integer) (defScope st_is_integer) .none kV_is_integer dc_is_integer pm_is_integer an_is_integer cd_is_integer ct_is_integer), sl_is_integer⟩)
    (c_is_integer : PySem.W.codeIn K cd_is_integer "is_integer" = true)
    (k_is_integer : PySem.W.keepIn K (.ref f_is_integer) = true)
    (a_is_list : PySem.W.nsIn K mainGlobals "is_list" = some (some (.ref f_is_list)))
    (l_is_list : K.lookup f_is_list = some ⟨oc_is_list, od_is_list, .func (PySem.W.fnOf "is_list" "is_list" (defArgs st_is_list) (defBody st_is_list) (defScope st_is_list) .none kV_is_list dc_is_list pm_is_list an_is_list cd_is_list ct_is_list), sl_is_list⟩)
    (c_is_list : PySem.W.codeIn K cd_is_list "is_list" = true)
    (k_is_list : PySem.W.keepIn K (.ref f_is_list) = true)
    (a_is_row : PySem.W.nsIn K mainGlobals "is_row" = some (some (.ref f_is_row)))
    (l_is_row : K.lookup f_is_row = some ⟨oc_is_row, od_is_row, .func (PySem.W.fnOf "is_row" "is_row" (defArgs st_is_row) (defBody st_is_row) (defScope st_is_row) .none kV_is_row dc_is_row pm_is_row an_is_row cd_is_row ct_is_row), sl_is_row⟩)
    (c_is_row : PySem.W.codeIn K cd_is_row "is_row" = true)
    (k_is_row : PySem.W.keepIn K (.ref f_is_row) = true)
    (a_is_row_of : PySem.W.nsIn K mainGlobals "is_row_of" = some (some (.ref f_is_row_of)))
    (l_is_row_of : K.lookup f_is_row_of = some ⟨oc_is_row_of, od_is_row_of, .func (PySem.W.fnOf "is_row_of" "is_row_of" (defArgs st_is_row_of) (defBody st_is_row_of) (defScope st_is_row_of) .none kV_is_row_of dc_is_row_of pm_is_row_of an_is_row_of cd_is_row_of ct_is_row_of), sl_is_row_of⟩)
    (c_is_row_of : PySem.W.codeIn K cd_is_row_of "is_row_of" = true)
    (k_is_row_of : PySem.W.keepIn K (.ref f_is_row_of) = true)
    (a_is_grid : PySem.W.nsIn K mainGlobals "is_grid" = some (some (.ref f_is_grid)))
    (l_is_grid : K.lookup f_is_grid = some ⟨oc_is_grid, od_is_grid, .func (PySem.W.fnOf "is_grid" "is_grid" (defArgs st_is_grid) (defBody st_is_grid) (defScope st_is_grid) .none kV_is_grid dc_is_grid pm_is_grid an_is_grid cd_is_grid ct_is_grid), sl_is_grid⟩)
    (c_is_grid : PySem.W.codeIn K cd_is_grid "is_grid" = true)
    (k_is_grid : PySem.W.keepIn K (.ref f_is_grid) = true)
    (a_check_size : PySem.W.nsIn K mainGlobals "check_size" = some (some (.ref f_check_size)))
    (l_check_size : K.lookup f_check_size = some ⟨oc_check_size, od_check_size, .func (PySem.W.fnOf "check_size" "check_size" (defArgs st_check_size) (defBody st_check_size) (defScope st_check_size) .none kV_check_size dc_check_size pm_check_size an_check_size cd_check_size ct_check_size), sl_check_size⟩)
    (c_check_size : PySem.W.codeIn K cd_check_size "check_size" = true)
    (k_check_size : PySem.W.keepIn K (.ref f_check_size) = true)
    (a_check_row : PySem.W.nsIn K mainGlobals "check_row" = some (some (.ref f_check_row)))
    (l_check_row : K.lookup f_check_row = some ⟨oc_check_row, od_check_row, .func (PySem.W.fnOf "check_row" "check_row" (defArgs st_check_row) (defBody st_check_row) (defScope st_check_row) .none kV_check_row dc_check_row pm_check_row an_check_row cd_check_row ct_check_row), sl_check_row⟩)
    (c_check_row : PySem.W.codeIn K cd_check_row "check_row" = true)
    (k_check_row : PySem.W.keepIn K (.ref f_check_row) = true)
    (a_copied : PySem.W.nsIn K mainGlobals "copied" = some (some (.ref f_copied)))
    (l_copied : K.lookup f_copied = some ⟨oc_copied, od_copied, .func (PySem.W.fnOf "copied" "copied" (defArgs st_copied) (defBody st_copied) (defScope st_copied) .none kV_copied dc_copied pm_copied an_copied cd_copied ct_copied), sl_copied⟩)
    (c_copied : PySem.W.codeIn K cd_copied "copied" = true)
    (k_copied : PySem.W.keepIn K (.ref f_copied) = true)
    (a_unit_rows : PySem.W.nsIn K mainGlobals "unit_rows" = some (some (.ref f_unit_rows)))
    (l_unit_rows : K.lookup f_unit_rows = some ⟨oc_unit_rows, od_unit_rows, .func (PySem.W.fnOf "unit_rows" "unit_rows" (defArgs st_unit_rows) (defBody st_unit_rows) (defScope st_unit_rows) .none kV_unit_rows dc_unit_rows pm_unit_rows an_unit_rows cd_unit_rows ct_unit_rows), sl_unit_rows⟩)
    (c_unit_rows : PySem.W.codeIn K cd_unit_rows "unit_rows" = true)
    (k_unit_rows : PySem.W.keepIn K (.ref f_unit_rows) = true)
    (a_across : PySem.W.nsIn K mainGlobals "across" = some (some (.ref f_across)))
    (l_across : K.lookup f_across = some ⟨oc_across, od_across, .func (PySem.W.fnOf "across" "across" (defArgs st_across) (defBody st_across) (defScope st_across) .none kV_across dc_across pm_across an_across cd_across ct_across), sl_across⟩)
    (c_across : PySem.W.codeIn K cd_across "across" = true)
    (k_across : PySem.W.keepIn K (.ref f_across) = true)
    (a_scalar : PySem.W.nsIn K mainGlobals "scalar" = some (some (.ref f_scalar)))
    (l_scalar : K.lookup f_scalar = some ⟨oc_scalar, od_scalar, .func (PySem.W.fnOf "scalar" "scalar" (defArgs st_scalar) (defBody st_scalar) (defScope st_scalar) .none kV_scalar dc_scalar pm_scalar an_scalar cd_scalar ct_scalar), sl_scalar⟩)
    (c_scalar : PySem.W.codeIn K cd_scalar "scalar" = true)
    (k_scalar : PySem.W.keepIn K (.ref f_scalar) = true)
    (a_led_row : PySem.W.nsIn K mainGlobals "led_row" = some (some (.ref f_led_row)))
    (l_led_row : K.lookup f_led_row = some ⟨oc_led_row, od_led_row, .func (PySem.W.fnOf "led_row" "led_row" (defArgs st_led_row) (defBody st_led_row) (defScope st_led_row) .none kV_led_row dc_led_row pm_led_row an_led_row cd_led_row ct_led_row), sl_led_row⟩)
    (c_led_row : PySem.W.codeIn K cd_led_row "led_row" = true)
    (k_led_row : PySem.W.keepIn K (.ref f_led_row) = true)
    (a_multiplied : PySem.W.nsIn K mainGlobals "multiplied" = some (some (.ref f_multiplied)))
    (l_multiplied : K.lookup f_multiplied = some ⟨oc_multiplied, od_multiplied, .func (PySem.W.fnOf "multiplied" "multiplied" (defArgs st_multiplied) (defBody st_multiplied) (defScope st_multiplied) .none kV_multiplied dc_multiplied pm_multiplied an_multiplied cd_multiplied ct_multiplied), sl_multiplied⟩)
    (c_multiplied : PySem.W.codeIn K cd_multiplied "multiplied" = true)
    (k_multiplied : PySem.W.keepIn K (.ref f_multiplied) = true)
    (a_without : PySem.W.nsIn K mainGlobals "without" = some (some (.ref f_without)))
    (l_without : K.lookup f_without = some ⟨oc_without, od_without, .func (PySem.W.fnOf "without" "without" (defArgs st_without) (defBody st_without) (defScope st_without) .none kV_without dc_without pm_without an_without cd_without ct_without), sl_without⟩)
    (c_without : PySem.W.codeIn K cd_without "without" = true)
    (k_without : PySem.W.keepIn K (.ref f_without) = true)
    (a_determinant_of : PySem.W.nsIn K mainGlobals "determinant_of" = some (some (.ref f_determinant_of)))
    (l_determinant_of : K.lookup f_determinant_of = some ⟨oc_determinant_of, od_determinant_of, .func (PySem.W.fnOf "determinant_of" "determinant_of" (defArgs st_det) (defBody st_det) (defScope st_det) .none kV_determinant_of dc_determinant_of pm_determinant_of an_determinant_of cd_determinant_of ct_determinant_of), sl_determinant_of⟩)
    (c_determinant_of : PySem.W.codeIn K cd_determinant_of "determinant_of" = true)
    (k_determinant_of : PySem.W.keepIn K (.ref f_determinant_of) = true)
    (a_cofactor : PySem.W.nsIn K mainGlobals "cofactor" = some (some (.ref f_cofactor)))
    (l_cofactor : K.lookup f_cofactor = some ⟨oc_cofactor, od_cofactor, .func (PySem.W.fnOf "cofactor" "cofactor" (defArgs st_cofactor) (defBody st_cofactor) (defScope st_cofactor) .none kV_cofactor dc_cofactor pm_cofactor an_cofactor cd_cofactor ct_cofactor), sl_cofactor⟩)
    (c_cofactor : PySem.W.codeIn K cd_cofactor "cofactor" = true)
    (k_cofactor : PySem.W.keepIn K (.ref f_cofactor) = true)
    (a_check_table : PySem.W.nsIn K mainGlobals "check_table" = some (some (.ref f_check_table)))
    (l_check_table : K.lookup f_check_table = some ⟨oc_check_table, od_check_table, .func (PySem.W.fnOf "check_table" "check_table" (defArgs st_check_table) (defBody st_check_table) (defScope st_check_table) .none kV_check_table dc_check_table pm_check_table an_check_table cd_check_table ct_check_table), sl_check_table⟩)
    (c_check_table : PySem.W.codeIn K cd_check_table "check_table" = true)
    (k_check_table : PySem.W.keepIn K (.ref f_check_table) = true)
    (a_check_alike : PySem.W.nsIn K mainGlobals "check_alike" = some (some (.ref f_check_alike)))
    (l_check_alike : K.lookup f_check_alike = some ⟨oc_check_alike, od_check_alike, .func (PySem.W.fnOf "check_alike" "check_alike" (defArgs st_check_alike) (defBody st_check_alike) (defScope st_check_alike) .none kV_check_alike dc_check_alike pm_check_alike an_check_alike cd_check_alike ct_check_alike), sl_check_alike⟩)
    (c_check_alike : PySem.W.codeIn K cd_check_alike "check_alike" = true)
    (k_check_alike : PySem.W.keepIn K (.ref f_check_alike) = true)
    (a_idle : PySem.W.nsIn K mainGlobals "idle" = some (some (.ref f_idle)))
    (l_idle : K.lookup f_idle = some ⟨oc_idle, od_idle, .func (PySem.W.fnOf "idle" "idle" (defArgs st_idle) (defBody st_idle) (defScope st_idle) .none kV_idle dc_idle pm_idle an_idle cd_idle ct_idle), sl_idle⟩)
    (c_idle : PySem.W.codeIn K cd_idle "idle" = true)
    (k_idle : PySem.W.keepIn K (.ref f_idle) = true)
    (a_in_sequence : PySem.W.nsIn K mainGlobals "in_sequence" = some (some (.ref f_in_sequence)))
    (l_in_sequence : K.lookup f_in_sequence = some ⟨oc_in_sequence, od_in_sequence, .func (PySem.W.fnOf "in_sequence" "in_sequence" (defArgs st_inseq) (defBody st_inseq) (defScope st_inseq) .none kV_in_sequence dc_in_sequence pm_in_sequence an_in_sequence (.ref cc_in_sequence) ct_in_sequence), sl_in_sequence⟩)
    (c_in_sequence : PySem.W.codeIn K (.ref cc_in_sequence) "in_sequence" = true)
    (k_in_sequence : PySem.W.keepIn K (.ref f_in_sequence) = true)
    (lc_in_sequence : K.lookup cc_in_sequence = some ⟨oz_in_sequence, oy_in_sequence, .fields vs_in_sequence, sz_in_sequence⟩)
    (lv_in_sequence : (vs_in_sequence[11]? : Option Value) = some (.ref P_in_sequence))
    (hd2_in_sequence : PySem.W.codeHdIn K cc_in_sequence P_in_sequence = true)
    (np_in_sequence : K.lookup P_in_sequence = none)
    (ht_in_sequence : h.get? P_in_sequence = some { cls := .none, data := .fields #[] })
    (a_check_makers : PySem.W.nsIn K mainGlobals "check_makers" = some (some (.ref f_check_makers)))
    (l_check_makers : K.lookup f_check_makers = some ⟨oc_check_makers, od_check_makers, .func (PySem.W.fnOf "check_makers" "check_makers" (defArgs st_cm) (defBody st_cm) (defScope st_cm) .none kV_check_makers dc_check_makers pm_check_makers an_check_makers cd_check_makers ct_check_makers), sl_check_makers⟩)
    (c_check_makers : PySem.W.codeIn K cd_check_makers "check_makers" = true)
    (k_check_makers : PySem.W.keepIn K (.ref f_check_makers) = true)
    (a__of_letter : PySem.W.nsIn K mainGlobals "_of_letter" = some (some (.ref f__of_letter)))
    (l__of_letter : K.lookup f__of_letter = some ⟨oc__of_letter, od__of_letter, .func (PySem.W.fnOf "_of_letter" "_of_letter" (defArgs st_ol) (defBody st_ol) (defScope st_ol) .none kV__of_letter dc__of_letter pm__of_letter an__of_letter cd__of_letter ct__of_letter), sl__of_letter⟩)
    (c__of_letter : PySem.W.codeIn K cd__of_letter "_of_letter" = true)
    (k__of_letter : PySem.W.keepIn K (.ref f__of_letter) = true)
    (a_letter_steps : PySem.W.nsIn K mainGlobals "letter_steps" = some (some (.ref f_letter_steps)))
    (l_letter_steps : K.lookup f_letter_steps = some ⟨oc_letter_steps, od_letter_steps, .func (PySem.W.fnOf "letter_steps" "letter_steps" (defArgs st_ls) (defBody st_ls) (defScope st_ls) .none kV_letter_steps dc_letter_steps pm_letter_steps an_letter_steps cd_letter_steps ct_letter_steps), sl_letter_steps⟩)
    (c_letter_steps : PySem.W.codeIn K cd_letter_steps "letter_steps" = true)
    (k_letter_steps : PySem.W.keepIn K (.ref f_letter_steps) = true)
    (a_walked : PySem.W.nsIn K mainGlobals "walked" = some (some (.ref f_walked)))
    (l_walked : K.lookup f_walked = some ⟨oc_walked, od_walked, .func (PySem.W.fnOf "walked" "walked" (defArgs st_wk) (defBody st_wk) (defScope st_wk) .none kV_walked dc_walked pm_walked an_walked cd_walked ct_walked), sl_walked⟩)
    (c_walked : PySem.W.codeIn K cd_walked "walked" = true)
    (k_walked : PySem.W.keepIn K (.ref f_walked) = true)
    (a_check_lot : PySem.W.nsIn K mainGlobals "check_lot" = some (some (.ref f_check_lot)))
    (l_check_lot : K.lookup f_check_lot = some ⟨oc_check_lot, od_check_lot, .func (PySem.W.fnOf "check_lot" "check_lot" (defArgs st_cl) (defBody st_cl) (defScope st_cl) .none kV_check_lot dc_check_lot pm_check_lot an_check_lot cd_check_lot ct_check_lot), sl_check_lot⟩)
    (c_check_lot : PySem.W.codeIn K cd_check_lot "check_lot" = true)
    (k_check_lot : PySem.W.keepIn K (.ref f_check_lot) = true)
    (a_check_finite : PySem.W.nsIn K mainGlobals "check_finite" = some (some (.ref f_check_finite)))
    (l_check_finite : K.lookup f_check_finite = some ⟨oc_check_finite, od_check_finite, .func (PySem.W.fnOf "check_finite" "check_finite" (defArgs st_cf) (defBody st_cf) (defScope st_cf) .none kV_check_finite dc_check_finite pm_check_finite an_check_finite cd_check_finite ct_check_finite), sl_check_finite⟩)
    (c_check_finite : PySem.W.codeIn K cd_check_finite "check_finite" = true)
    (k_check_finite : PySem.W.keepIn K (.ref f_check_finite) = true)
    (a_round_of : PySem.W.nsIn K mainGlobals "round_of" = some (some (.ref f_round_of)))
    (l_round_of : K.lookup f_round_of = some ⟨oc_round_of, od_round_of, .func (PySem.W.fnOf "round_of" "round_of" (defArgs st_ro) (defBody st_ro) (defScope st_ro) .none kV_round_of dc_round_of pm_round_of an_round_of cd_round_of ct_round_of), sl_round_of⟩)
    (c_round_of : PySem.W.codeIn K cd_round_of "round_of" = true)
    (k_round_of : PySem.W.keepIn K (.ref f_round_of) = true)
    (a_stayers : PySem.W.nsIn K mainGlobals "stayers" = some (some (.ref f_stayers)))
    (l_stayers : K.lookup f_stayers = some ⟨oc_stayers, od_stayers, .func (PySem.W.fnOf "stayers" "stayers" (defArgs st_sy) (defBody st_sy) (defScope st_sy) .none kV_stayers dc_stayers pm_stayers an_stayers cd_stayers ct_stayers), sl_stayers⟩)
    (c_stayers : PySem.W.codeIn K cd_stayers "stayers" = true)
    (k_stayers : PySem.W.keepIn K (.ref f_stayers) = true)
    (a__check_lot_and_row : PySem.W.nsIn K mainGlobals "_check_lot_and_row" = some (some (.ref f__check_lot_and_row)))
    (l__check_lot_and_row : K.lookup f__check_lot_and_row = some ⟨oc__check_lot_and_row, od__check_lot_and_row, .func (PySem.W.fnOf "_check_lot_and_row" "_check_lot_and_row" (defArgs st_clr) (defBody st_clr) (defScope st_clr) .none kV__check_lot_and_row dc__check_lot_and_row pm__check_lot_and_row an__check_lot_and_row cd__check_lot_and_row ct__check_lot_and_row), sl__check_lot_and_row⟩)
    (c__check_lot_and_row : PySem.W.codeIn K cd__check_lot_and_row "_check_lot_and_row" = true)
    (k__check_lot_and_row : PySem.W.keepIn K (.ref f__check_lot_and_row) = true)
    (a__law_pot : PySem.W.nsIn K mainGlobals "_law_pot" = some (some (.ref f__law_pot)))
    (l__law_pot : K.lookup f__law_pot = some ⟨oc__law_pot, od__law_pot, .func (PySem.W.fnOf "_law_pot" "_law_pot" (defArgs st_pot) (defBody st_pot) (defScope st_pot) .none kV__law_pot dc__law_pot pm__law_pot an__law_pot cd__law_pot ct__law_pot), sl__law_pot⟩)
    (c__law_pot : PySem.W.codeIn K cd__law_pot "_law_pot" = true)
    (k__law_pot : PySem.W.keepIn K (.ref f__law_pot) = true)
    (a__law_draw : PySem.W.nsIn K mainGlobals "_law_draw" = some (some (.ref f__law_draw)))
    (l__law_draw : K.lookup f__law_draw = some ⟨oc__law_draw, od__law_draw, .func (PySem.W.fnOf "_law_draw" "_law_draw" (defArgs st_draw) (defBody st_draw) (defScope st_draw) .none kV__law_draw dc__law_draw pm__law_draw an__law_draw cd__law_draw ct__law_draw), sl__law_draw⟩)
    (c__law_draw : PySem.W.codeIn K cd__law_draw "_law_draw" = true)
    (k__law_draw : PySem.W.keepIn K (.ref f__law_draw) = true)
    (a__law_pick : PySem.W.nsIn K mainGlobals "_law_pick" = some (some (.ref f__law_pick)))
    (l__law_pick : K.lookup f__law_pick = some ⟨oc__law_pick, od__law_pick, .func (PySem.W.fnOf "_law_pick" "_law_pick" (defArgs st_pick) (defBody st_pick) (defScope st_pick) .none kV__law_pick dc__law_pick pm__law_pick an__law_pick cd__law_pick ct__law_pick), sl__law_pick⟩)
    (c__law_pick : PySem.W.codeIn K cd__law_pick "_law_pick" = true)
    (k__law_pick : PySem.W.keepIn K (.ref f__law_pick) = true)
    (a__law_by : PySem.W.nsIn K mainGlobals "_law_by" = some (some (.ref f__law_by)))
    (l__law_by : K.lookup f__law_by = some ⟨oc__law_by, od__law_by, .func (PySem.W.fnOf "_law_by" "_law_by" (defArgs st_by) (defBody st_by) (defScope st_by) .none kV__law_by dc__law_by pm__law_by an__law_by cd__law_by ct__law_by), sl__law_by⟩)
    (c__law_by : PySem.W.codeIn K cd__law_by "_law_by" = true)
    (k__law_by : PySem.W.keepIn K (.ref f__law_by) = true)
    (a__law_point : PySem.W.nsIn K mainGlobals "_law_point" = some (some (.ref f__law_point)))
    (l__law_point : K.lookup f__law_point = some ⟨oc__law_point, od__law_point, .func (PySem.W.fnOf "_law_point" "_law_point" (defArgs st_pt) (defBody st_pt) (defScope st_pt) .none kV__law_point dc__law_point pm__law_point an__law_point cd__law_point ct__law_point), sl__law_point⟩)
    (c__law_point : PySem.W.codeIn K cd__law_point "_law_point" = true)
    (k__law_point : PySem.W.keepIn K (.ref f__law_point) = true)
    (a__law_idle : PySem.W.nsIn K mainGlobals "_law_idle" = some (some (.ref f__law_idle)))
    (l__law_idle : K.lookup f__law_idle = some ⟨oc__law_idle, od__law_idle, .func (PySem.W.fnOf "_law_idle" "_law_idle" (defArgs st_lidle) (defBody st_lidle) (defScope st_lidle) .none kV__law_idle dc__law_idle pm__law_idle an__law_idle cd__law_idle ct__law_idle), sl__law_idle⟩)
    (c__law_idle : PySem.W.codeIn K cd__law_idle "_law_idle" = true)
    (k__law_idle : PySem.W.keepIn K (.ref f__law_idle) = true)
    (a__law_step : PySem.W.nsIn K mainGlobals "_law_step" = some (some (.ref f__law_step)))
    (l__law_step : K.lookup f__law_step = some ⟨oc__law_step, od__law_step, .func (PySem.W.fnOf "_law_step" "_law_step" (defArgs st_stp) (defBody st_stp) (defScope st_stp) .none kV__law_step dc__law_step pm__law_step an__law_step cd__law_step ct__law_step), sl__law_step⟩)
    (c__law_step : PySem.W.codeIn K cd__law_step "_law_step" = true)
    (k__law_step : PySem.W.keepIn K (.ref f__law_step) = true)
    (a__law_turning : PySem.W.nsIn K mainGlobals "_law_turning" = some (some (.ref f__law_turning)))
    (l__law_turning : K.lookup f__law_turning = some ⟨oc__law_turning, od__law_turning, .func (PySem.W.fnOf "_law_turning" "_law_turning" (defArgs st_tn) (defBody st_tn) (defScope st_tn) .none kV__law_turning dc__law_turning pm__law_turning an__law_turning cd__law_turning ct__law_turning), sl__law_turning⟩)
    (c__law_turning : PySem.W.codeIn K cd__law_turning "_law_turning" = true)
    (k__law_turning : PySem.W.keepIn K (.ref f__law_turning) = true)
    (a__law_known : PySem.W.nsIn K mainGlobals "_law_known" = some (some (.ref f__law_known)))
    (l__law_known : K.lookup f__law_known = some ⟨oc__law_known, od__law_known, .func (PySem.W.fnOf "_law_known" "_law_known" (defArgs st_kn) (defBody st_kn) (defScope st_kn) .none kV__law_known dc__law_known pm__law_known an__law_known cd__law_known ct__law_known), sl__law_known⟩)
    (c__law_known : PySem.W.codeIn K cd__law_known "_law_known" = true)
    (k__law_known : PySem.W.keepIn K (.ref f__law_known) = true)
    (a__law_led_makers : PySem.W.nsIn K mainGlobals "_law_led_makers" = some (some (.ref f__law_led_makers)))
    (l__law_led_makers : K.lookup f__law_led_makers = some ⟨oc__law_led_makers, od__law_led_makers, .func (PySem.W.fnOf "_law_led_makers" "_law_led_makers" (defArgs st_lm) (defBody st_lm) (defScope st_lm) .none kV__law_led_makers dc__law_led_makers pm__law_led_makers an__law_led_makers cd__law_led_makers ct__law_led_makers), sl__law_led_makers⟩)
    (c__law_led_makers : PySem.W.codeIn K cd__law_led_makers "_law_led_makers" = true)
    (k__law_led_makers : PySem.W.keepIn K (.ref f__law_led_makers) = true)
    (a__law_members : PySem.W.nsIn K mainGlobals "_law_members" = some (some (.ref f__law_members)))
    (l__law_members : K.lookup f__law_members = some ⟨oc__law_members, od__law_members, .func (PySem.W.fnOf "_law_members" "_law_members" (defArgs st_mem) (defBody st_mem) (defScope st_mem) .none kV__law_members dc__law_members pm__law_members an__law_members cd__law_members ct__law_members), sl__law_members⟩)
    (c__law_members : PySem.W.codeIn K cd__law_members "_law_members" = true)
    (k__law_members : PySem.W.keepIn K (.ref f__law_members) = true)
    (a__law_lot : PySem.W.nsIn K mainGlobals "_law_lot" = some (some (.ref f__law_lot)))
    (l__law_lot : K.lookup f__law_lot = some ⟨oc__law_lot, od__law_lot, .func (PySem.W.fnOf "_law_lot" "_law_lot" (defArgs st_lot) (defBody st_lot) (defScope st_lot) .none kV__law_lot dc__law_lot pm__law_lot an__law_lot cd__law_lot ct__law_lot), sl__law_lot⟩)
    (c__law_lot : PySem.W.codeIn K cd__law_lot "_law_lot" = true)
    (k__law_lot : PySem.W.keepIn K (.ref f__law_lot) = true)
    (a__law_drawn : PySem.W.nsIn K mainGlobals "_law_drawn" = some (some (.ref f__law_drawn)))
    (l__law_drawn : K.lookup f__law_drawn = some ⟨oc__law_drawn, od__law_drawn, .func (PySem.W.fnOf "_law_drawn" "_law_drawn" (defArgs st_dr) (defBody st_dr) (defScope st_dr) .none kV__law_drawn dc__law_drawn pm__law_drawn an__law_drawn cd__law_drawn ct__law_drawn), sl__law_drawn⟩)
    (c__law_drawn : PySem.W.codeIn K cd__law_drawn "_law_drawn" = true)
    (k__law_drawn : PySem.W.keepIn K (.ref f__law_drawn) = true)
    (a__law_row : PySem.W.nsIn K mainGlobals "_law_row" = some (some (.ref f__law_row)))
    (l__law_row : K.lookup f__law_row = some ⟨oc__law_row, od__law_row, .func (PySem.W.fnOf "_law_row" "_law_row" (defArgs st_lrw) (defBody st_lrw) (defScope st_lrw) .none kV__law_row dc__law_row pm__law_row an__law_row cd__law_row ct__law_row), sl__law_row⟩)
    (c__law_row : PySem.W.codeIn K cd__law_row "_law_row" = true)
    (k__law_row : PySem.W.keepIn K (.ref f__law_row) = true)
    (a__law_right : PySem.W.nsIn K mainGlobals "_law_right" = some (some (.ref f__law_right)))
    (l__law_right : K.lookup f__law_right = some ⟨oc__law_right, od__law_right, .func (PySem.W.fnOf "_law_right" "_law_right" (defArgs st_ri5) (defBody st_ri5) (defScope st_ri5) .none kV__law_right dc__law_right pm__law_right an__law_right cd__law_right ct__law_right), sl__law_right⟩)
    (c__law_right : PySem.W.codeIn K cd__law_right "_law_right" = true)
    (k__law_right : PySem.W.keepIn K (.ref f__law_right) = true)
    (a_law : PySem.W.nsIn K mainGlobals "law" = some (some (.ref f_law)))
    (l_law : K.lookup f_law = some ⟨oc_law, od_law, .func (PySem.W.fnOf "law" "law" (defArgs st_law5) (defBody st_law5) (defScope st_law5) .none kV_law dc_law pm_law an_law cd_law ct_law), sl_law⟩)
    (c_law : PySem.W.codeIn K cd_law "law" = true)
    (k_law : PySem.W.keepIn K (.ref f_law) = true)
    (a_T___init__ : PySem.W.findIn K (.ref C) "__init__" = some (some (.ref f_T___init__)))
    (i_T___init__ : PySem.W.isFn K (.ref f_T___init__) = true)
    (l_T___init__ : K.lookup f_T___init__ = some ⟨oc_T___init__, od_T___init__, .func (PySem.W.fnOf "__init__" "Table.__init__" (defArgs (st_T 0)) (defBody (st_T 0)) (defScope (st_T 0)) .none kV_T___init__ dc_T___init__ pm_T___init__ an_T___init__ cd_T___init__ ct_T___init__), sl_T___init__⟩)
    (c_T___init__ : PySem.W.codeIn K cd_T___init__ "Table.__init__" = true)
    (k_T___init__ : PySem.W.keepIn K (.ref f_T___init__) = true)
    (p_T_rows : PySem.W.findIn K (.ref C) "rows" = some (some (.ref pp_T_rows)))
    (g_T_rows : PySem.W.specialIn K (.ref pp_T_rows) "__get__" = some (some (.builtin "property.__get__")))
    (t_T_rows : PySem.W.takesIn K (.ref pp_T_rows) = some true)
    (r_T_rows : PySem.W.recIn K pp_T_rows "property" = some (.ref f_T_rows :: rs_T_rows))
    (l_T_rows : K.lookup f_T_rows = some ⟨oc_T_rows, od_T_rows, .func (PySem.W.fnOf "rows" "Table.rows" (defArgs (st_T 1)) (defBody (st_T 1)) (defScope (st_T 1)) .none kV_T_rows dc_T_rows pm_T_rows an_T_rows cd_T_rows ct_T_rows), sl_T_rows⟩)
    (c_T_rows : PySem.W.codeIn K cd_T_rows "Table.rows" = true)
    (k_T_rows : PySem.W.keepIn K (.ref f_T_rows) = true)
    (p_T_size : PySem.W.findIn K (.ref C) "size" = some (some (.ref pp_T_size)))
    (g_T_size : PySem.W.specialIn K (.ref pp_T_size) "__get__" = some (some (.builtin "property.__get__")))
    (t_T_size : PySem.W.takesIn K (.ref pp_T_size) = some true)
    (r_T_size : PySem.W.recIn K pp_T_size "property" = some (.ref f_T_size :: rs_T_size))
    (l_T_size : K.lookup f_T_size = some ⟨oc_T_size, od_T_size, .func (PySem.W.fnOf "size" "Table.size" (defArgs (st_T 2)) (defBody (st_T 2)) (defScope (st_T 2)) .none kV_T_size dc_T_size pm_T_size an_T_size cd_T_size ct_T_size), sl_T_size⟩)
    (c_T_size : PySem.W.codeIn K cd_T_size "Table.size" = true)
    (k_T_size : PySem.W.keepIn K (.ref f_T_size) = true)
    (p_T_determinant : PySem.W.findIn K (.ref C) "determinant" = some (some (.ref pp_T_determinant)))
    (g_T_determinant : PySem.W.specialIn K (.ref pp_T_determinant) "__get__" = some (some (.builtin "property.__get__")))
    (t_T_determinant : PySem.W.takesIn K (.ref pp_T_determinant) = some true)
    (r_T_determinant : PySem.W.recIn K pp_T_determinant "property" = some (.ref f_T_determinant :: rs_T_determinant))
    (l_T_determinant : K.lookup f_T_determinant = some ⟨oc_T_determinant, od_T_determinant, .func (PySem.W.fnOf "determinant" "Table.determinant" (defArgs (st_T 3)) (defBody (st_T 3)) (defScope (st_T 3)) .none kV_T_determinant dc_T_determinant pm_T_determinant an_T_determinant cd_T_determinant ct_T_determinant), sl_T_determinant⟩)
    (c_T_determinant : PySem.W.codeIn K cd_T_determinant "Table.determinant" = true)
    (k_T_determinant : PySem.W.keepIn K (.ref f_T_determinant) = true)
    (a_T___mul__ : PySem.W.findIn K (.ref C) "__mul__" = some (some (.ref f_T___mul__)))
    (i_T___mul__ : PySem.W.isFn K (.ref f_T___mul__) = true)
    (l_T___mul__ : K.lookup f_T___mul__ = some ⟨oc_T___mul__, od_T___mul__, .func (PySem.W.fnOf "__mul__" "Table.__mul__" (defArgs (st_T 7)) (defBody (st_T 7)) (defScope (st_T 7)) .none kV_T___mul__ dc_T___mul__ pm_T___mul__ an_T___mul__ cd_T___mul__ ct_T___mul__), sl_T___mul__⟩)
    (c_T___mul__ : PySem.W.codeIn K cd_T___mul__ "Table.__mul__" = true)
    (k_T___mul__ : PySem.W.keepIn K (.ref f_T___mul__) = true)
    (a_T_undone : PySem.W.findIn K (.ref C) "undone" = some (some (.ref f_T_undone)))
    (i_T_undone : PySem.W.isFn K (.ref f_T_undone) = true)
    (l_T_undone : K.lookup f_T_undone = some ⟨oc_T_undone, od_T_undone, .func (PySem.W.fnOf "undone" "Table.undone" (defArgs (st_T 9)) (defBody (st_T 9)) (defScope (st_T 9)) .none kV_T_undone dc_T_undone pm_T_undone an_T_undone cd_T_undone ct_T_undone), sl_T_undone⟩)
    (c_T_undone : PySem.W.codeIn K cd_T_undone "Table.undone" = true)
    (k_T_undone : PySem.W.keepIn K (.ref f_T_undone) = true)
    (a_T_lead : PySem.W.findIn K (.ref C) "lead" = some (some (.ref f_T_lead)))
    (i_T_lead : PySem.W.isFn K (.ref f_T_lead) = true)
    (l_T_lead : K.lookup f_T_lead = some ⟨oc_T_lead, od_T_lead, .func (PySem.W.fnOf "lead" "Table.lead" (defArgs (st_T 8)) (defBody (st_T 8)) (defScope (st_T 8)) .none kV_T_lead dc_T_lead pm_T_lead an_T_lead cd_T_lead ct_T_lead), sl_T_lead⟩)
    (c_T_lead : PySem.W.codeIn K cd_T_lead "Table.lead" = true)
    (k_T_lead : PySem.W.keepIn K (.ref f_T_lead) = true)
    (a_Lt___init__ : PySem.W.findIn K (.ref CL) "__init__" = some (some (.ref f_Lt___init__)))
    (i_Lt___init__ : PySem.W.isFn K (.ref f_Lt___init__) = true)
    (l_Lt___init__ : K.lookup f_Lt___init__ = some ⟨oc_Lt___init__, od_Lt___init__, .func (PySem.W.fnOf "__init__" "Lot.__init__" (defArgs (st_L 0)) (defBody (st_L 0)) (defScope (st_L 0)) .none kV_Lt___init__ dc_Lt___init__ pm_Lt___init__ an_Lt___init__ cd_Lt___init__ ct_Lt___init__), sl_Lt___init__⟩)
    (c_Lt___init__ : PySem.W.codeIn K cd_Lt___init__ "Lot.__init__" = true)
    (k_Lt___init__ : PySem.W.keepIn K (.ref f_Lt___init__) = true)
    (p_Lt_size : PySem.W.findIn K (.ref CL) "size" = some (some (.ref pp_Lt_size)))
    (g_Lt_size : PySem.W.specialIn K (.ref pp_Lt_size) "__get__" = some (some (.builtin "property.__get__")))
    (t_Lt_size : PySem.W.takesIn K (.ref pp_Lt_size) = some true)
    (r_Lt_size : PySem.W.recIn K pp_Lt_size "property" = some (.ref f_Lt_size :: rs_Lt_size))
    (l_Lt_size : K.lookup f_Lt_size = some ⟨oc_Lt_size, od_Lt_size, .func (PySem.W.fnOf "size" "Lot.size" (defArgs (st_L 1)) (defBody (st_L 1)) (defScope (st_L 1)) .none kV_Lt_size dc_Lt_size pm_Lt_size an_Lt_size cd_Lt_size ct_Lt_size), sl_Lt_size⟩)
    (c_Lt_size : PySem.W.codeIn K cd_Lt_size "Lot.size" = true)
    (k_Lt_size : PySem.W.keepIn K (.ref f_Lt_size) = true)
    (p_Lt_is_finite : PySem.W.findIn K (.ref CL) "is_finite" = some (some (.ref pp_Lt_is_finite)))
    (g_Lt_is_finite : PySem.W.specialIn K (.ref pp_Lt_is_finite) "__get__" = some (some (.builtin "property.__get__")))
    (t_Lt_is_finite : PySem.W.takesIn K (.ref pp_Lt_is_finite) = some true)
    (r_Lt_is_finite : PySem.W.recIn K pp_Lt_is_finite "property" = some (.ref f_Lt_is_finite :: rs_Lt_is_finite))
    (l_Lt_is_finite : K.lookup f_Lt_is_finite = some ⟨oc_Lt_is_finite, od_Lt_is_finite, .func (PySem.W.fnOf "is_finite" "Lot.is_finite" (defArgs (st_L 2)) (defBody (st_L 2)) (defScope (st_L 2)) .none kV_Lt_is_finite dc_Lt_is_finite pm_Lt_is_finite an_Lt_is_finite cd_Lt_is_finite ct_Lt_is_finite), sl_Lt_is_finite⟩)
    (c_Lt_is_finite : PySem.W.codeIn K cd_Lt_is_finite "Lot.is_finite" = true)
    (k_Lt_is_finite : PySem.W.keepIn K (.ref f_Lt_is_finite) = true)
    (a_Lt_members : PySem.W.findIn K (.ref CL) "members" = some (some (.ref f_Lt_members)))
    (i_Lt_members : PySem.W.isFn K (.ref f_Lt_members) = true)
    (l_Lt_members : K.lookup f_Lt_members = some ⟨oc_Lt_members, od_Lt_members, .func (PySem.W.fnOf "members" "Lot.members" (defArgs (st_L 7)) (defBody (st_L 7)) (defScope (st_L 7)) .none kV_Lt_members dc_Lt_members pm_Lt_members an_Lt_members cd_Lt_members ct_Lt_members), sl_Lt_members⟩)
    (c_Lt_members : PySem.W.codeIn K cd_Lt_members "Lot.members" = true)
    (k_Lt_members : PySem.W.keepIn K (.ref f_Lt_members) = true)
    (pg : PySem.W.plainGet K C Str.empty = true)
    (hd : PySem.W.hasDictIn K C = true)
    (po : PySem.W.plainOver K C = true)
    (sa : PySem.W.findIn K (.ref C) "__setattr__" = some (some (.builtin "object.__setattr__")))
    (mk : PySem.W.makesIn K C = true)
    (kc : PySem.W.keepIn K (.ref C) = true)
    (nR : PySem.W.findIn K (.ref C) "_rows" = some none)
    (cc : PySem.W.findIn K (.ref C) "__class__" = some (some (.builtin "object.__class__")))
    (cg : PySem.W.specialIn K (.builtin "object.__class__") "__get__" = some (some (.builtin "getset_descriptor.__get__")))
    (ct : PySem.W.takesIn K (.builtin "object.__class__") = some true)
    (cm : PySem.W.mroIn K C (.type "object") = some true)
    (hcl : PySem.W.clsIn K C = some cld)
    (hmr : cld.mro = Value.ref C :: mrest)
    (pgL : PySem.W.plainGet K CL Str.empty = true)
    (hdL : PySem.W.hasDictIn K CL = true)
    (poL : PySem.W.plainOver K CL = true)
    (saL : PySem.W.findIn K (.ref CL) "__setattr__" = some (some (.builtin "object.__setattr__")))
    (mkL : PySem.W.makesIn K CL = true)
    (kcL : PySem.W.keepIn K (.ref CL) = true)
    (nML : PySem.W.findIn K (.ref CL) "_makers" = some none)
    (nWL : PySem.W.findIn K (.ref CL) "_words" = some none)
    (ccL : PySem.W.findIn K (.ref CL) "__class__" = some (some (.builtin "object.__class__")))
    (cmL : PySem.W.mroIn K CL (.type "object") = some true)
    (m_MOST_MAKERS : PySem.W.nsIn K mainGlobals "MOST_MAKERS" = some (some (.int 4 tk_MOST_MAKERS)))
    (z0 : PySem.W.nsIn K mainGlobals "isinstance" = some none)
    (z1 : PySem.W.nsIn K mainGlobals "int" = some none)
    (z2 : PySem.W.nsIn K mainGlobals "bool" = some none)
    (z3 : PySem.W.nsIn K mainGlobals "list" = some none)
    (z4 : PySem.W.nsIn K mainGlobals "tuple" = some none)
    (z5 : PySem.W.nsIn K mainGlobals "all" = some none)
    (z6 : PySem.W.nsIn K mainGlobals "sum" = some none)
    (z7 : PySem.W.nsIn K mainGlobals "zip" = some none)
    (z8 : PySem.W.nsIn K mainGlobals "len" = some none)
    (z9 : PySem.W.nsIn K mainGlobals "range" = some none)
    (z10 : PySem.W.nsIn K mainGlobals "repr" = some none)
    (z11 : PySem.W.nsIn K mainGlobals "abs" = some none)
    (z12 : PySem.W.nsIn K mainGlobals "max" = some none)
    (z13 : PySem.W.nsIn K mainGlobals "divmod" = some none)
    (z14 : PySem.W.nsIn K mainGlobals "dict" = some none)
    (z15 : PySem.W.nsIn K mainGlobals "enumerate" = some none)
    (zz_set : PySem.W.nsIn K mainGlobals "set" = some none)
    (zz_sorted : PySem.W.nsIn K mainGlobals "sorted" = some none)
    : He.LawT l w K 18 63 "_law_script" mg fa h := by
  have e := hfa.symm.trans (PySem.W.mg_of X G a_law)
  cases e
  have T : Txt mg := ⟨PySem.W.mg_none_of X G z0, PySem.W.mg_none_of X G z1, PySem.W.mg_none_of X G z2, PySem.W.mg_none_of X G z3, PySem.W.mg_none_of X G z4, PySem.W.mg_none_of X G z5, PySem.W.mg_none_of X G z6, PySem.W.mg_none_of X G z7, PySem.W.mg_none_of X G z8, PySem.W.mg_none_of X G z9, PySem.W.mg_none_of X G z10, PySem.W.mg_none_of X G z11, PySem.W.mg_none_of X G z12, PySem.W.mg_none_of X G z13, PySem.W.mg_none_of X G z14, PySem.W.mg_none_of X G z15⟩
  have Cl : Cls K C := ⟨pg, hd, po, sa⟩
  have Tc : Tcl K mg C := ⟨Cl, nR, PySem.W.mg_of X G aC, cc, cg, ct, cm⟩
  have ClL : Cls K CL := ⟨pgL, hdL, poL, saL⟩
  have Lc : Lcl K mg CL := ⟨ClL, nML, nWL, PySem.W.mg_of X G aCL, ccL, cg, ct, cmL⟩
  have hMM := PySem.W.mg_of X G m_T0
  have tMM := most_t l_T0
  have F_is_integer := fun_mk (st := st_is_integer) l_is_integer c_is_integer k_is_integer
  have b_is_integer := F_is_integer.binds (ps := ["value"]) fun _ _ _ _ _ _ us hl => match us, hl with | [_], _ => rfl
  have F_is_list := fun_mk (st := st_is_list) l_is_list c_is_list k_is_list
  have b_is_list := F_is_list.binds (ps := ["value"]) fun _ _ _ _ _ _ us hl => match us, hl with | [_], _ => rfl
  have F_is_row := fun_mk (st := st_is_row) l_is_row c_is_row k_is_row
  have b_is_row := F_is_row.binds (ps := ["value"]) fun _ _ _ _ _ _ us hl => match us, hl with | [_], _ => rfl
  have F_is_row_of := fun_mk (st := st_is_row_of) l_is_row_of c_is_row_of k_is_row_of
  have b_is_row_of := F_is_row_of.binds (ps := ["size", "value"]) fun _ _ _ _ _ _ us hl => match us, hl with | [_, _], _ => rfl
  have F_is_grid := fun_mk (st := st_is_grid) l_is_grid c_is_grid k_is_grid
  have b_is_grid := F_is_grid.binds (ps := ["value"]) fun _ _ _ _ _ _ us hl => match us, hl with | [_], _ => rfl
  have F_check_size := fun_mk (st := st_check_size) l_check_size c_check_size k_check_size
  have b_check_size := F_check_size.binds (ps := ["size"]) fun _ _ _ _ _ _ us hl => match us, hl with | [_], _ => rfl
  have F_check_row := fun_mk (st := st_check_row) l_check_row c_check_row k_check_row
  have b_check_row := F_check_row.binds (ps := ["size", "row"]) fun _ _ _ _ _ _ us hl => match us, hl with | [_, _], _ => rfl
  have F_copied := fun_mk (st := st_copied) l_copied c_copied k_copied
  have b_copied := F_copied.binds (ps := ["rows"]) fun _ _ _ _ _ _ us hl => match us, hl with | [_], _ => rfl
  have F_unit_rows := fun_mk (st := st_unit_rows) l_unit_rows c_unit_rows k_unit_rows
  have b_unit_rows := F_unit_rows.binds (ps := ["many"]) fun _ _ _ _ _ _ us hl => match us, hl with | [_], _ => rfl
  have F_across := fun_mk (st := st_across) l_across c_across k_across
  have b_across := F_across.binds (ps := ["rows"]) fun _ _ _ _ _ _ us hl => match us, hl with | [_], _ => rfl
  have F_scalar := fun_mk (st := st_scalar) l_scalar c_scalar k_scalar
  have b_scalar := F_scalar.binds (ps := ["row", "other"]) fun _ _ _ _ _ _ us hl => match us, hl with | [_, _], _ => rfl
  have F_led_row := fun_mk (st := st_led_row) l_led_row c_led_row k_led_row
  have b_led_row := F_led_row.binds (ps := ["rows", "row"]) fun _ _ _ _ _ _ us hl => match us, hl with | [_, _], _ => rfl
  have F_multiplied := fun_mk (st := st_multiplied) l_multiplied c_multiplied k_multiplied
  have b_multiplied := F_multiplied.binds (ps := ["rows", "others"]) fun _ _ _ _ _ _ us hl => match us, hl with | [_, _], _ => rfl
  have F_without := fun_mk (st := st_without) l_without c_without k_without
  have b_without := F_without.binds (ps := ["rows", "at", "place"]) fun _ _ _ _ _ _ us hl => match us, hl with | [_, _, _], _ => rfl
  have F_determinant_of := fun_mk (st := st_det) l_determinant_of c_determinant_of k_determinant_of
  have b_determinant_of := F_determinant_of.binds (ps := ["rows"]) fun _ _ _ _ _ _ us hl => match us, hl with | [_], _ => rfl
  have F_cofactor := fun_mk (st := st_cofactor) l_cofactor c_cofactor k_cofactor
  have b_cofactor := F_cofactor.binds (ps := ["rows", "at", "place"]) fun _ _ _ _ _ _ us hl => match us, hl with | [_, _, _], _ => rfl
  have F_check_table := fun_mk (st := st_check_table) l_check_table c_check_table k_check_table
  have b_check_table := F_check_table.binds (ps := ["table"]) fun _ _ _ _ _ _ us hl => match us, hl with | [_], _ => rfl
  have F_check_alike := fun_mk (st := st_check_alike) l_check_alike c_check_alike k_check_alike
  have b_check_alike := F_check_alike.binds (ps := ["one", "other"]) fun _ _ _ _ _ _ us hl => match us, hl with | [_, _], _ => rfl
  have F_idle := fun_mk (st := st_idle) l_idle c_idle k_idle
  have b_idle := F_idle.binds (ps := ["size"]) fun _ _ _ _ _ _ us hl => match us, hl with | [_], _ => rfl
  have FC_in_sequence := Di.func_mk (st := st_inseq) l_in_sequence c_in_sequence
  have F_in_sequence := FC_in_sequence.toFun k_in_sequence
  have b_in_sequence := F_in_sequence.binds (ps := ["tables"]) fun _ _ _ _ _ _ us hl => match us, hl with | [_], _ => rfl
  have F_check_makers := fun_mk (st := st_cm) l_check_makers c_check_makers k_check_makers
  have b_check_makers := F_check_makers.binds (ps := ["makers"]) fun _ _ _ _ _ _ us hl => match us, hl with | [_], _ => rfl
  have F__of_letter := fun_mk (st := st_ol) l__of_letter c__of_letter k__of_letter
  have b__of_letter := F__of_letter.binds (ps := ["makers", "letter"]) fun _ _ _ _ _ _ us hl => match us, hl with | [_, _], _ => rfl
  have F_letter_steps := fun_mk (st := st_ls) l_letter_steps c_letter_steps k_letter_steps
  have b_letter_steps := F_letter_steps.binds (ps := ["makers"]) fun _ _ _ _ _ _ us hl => match us, hl with | [_], _ => rfl
  have F_walked := fun_mk (st := st_wk) l_walked c_walked k_walked
  have b_walked := F_walked.binds (ps := ["makers"]) fun _ _ _ _ _ _ us hl => match us, hl with | [_], _ => rfl
  have F_check_lot := fun_mk (st := st_cl) l_check_lot c_check_lot k_check_lot
  have b_check_lot := F_check_lot.binds (ps := ["lot"]) fun _ _ _ _ _ _ us hl => match us, hl with | [_], _ => rfl
  have F_check_finite := fun_mk (st := st_cf) l_check_finite c_check_finite k_check_finite
  have b_check_finite := F_check_finite.binds (ps := ["lot"]) fun _ _ _ _ _ _ us hl => match us, hl with | [_], _ => rfl
  have F_round_of := fun_mk (st := st_ro) l_round_of c_round_of k_round_of
  have b_round_of := F_round_of.binds (ps := ["lot", "row"]) fun _ _ _ _ _ _ us hl => match us, hl with | [_, _], _ => rfl
  have F_stayers := fun_mk (st := st_sy) l_stayers c_stayers k_stayers
  have b_stayers := F_stayers.binds (ps := ["lot", "row"]) fun _ _ _ _ _ _ us hl => match us, hl with | [_, _], _ => rfl
  have F__check_lot_and_row := fun_mk (st := st_clr) l__check_lot_and_row c__check_lot_and_row k__check_lot_and_row
  have b__check_lot_and_row := F__check_lot_and_row.binds (ps := ["lot", "row"]) fun _ _ _ _ _ _ us hl => match us, hl with | [_, _], _ => rfl
  have F__law_pot := fun_mk (st := st_pot) l__law_pot c__law_pot k__law_pot
  have b__law_pot := F__law_pot.binds (ps := ["_law_script", "_law_k"]) fun _ _ _ _ _ _ us hl => match us, hl with | [_, _], _ => rfl
  have F__law_draw := fun_mk (st := st_draw) l__law_draw c__law_draw k__law_draw
  have b__law_draw := F__law_draw.binds (ps := ["_law_pot_here", "_law_size"]) fun _ _ _ _ _ _ us hl => match us, hl with | [_, _], _ => rfl
  have F__law_pick := fun_mk (st := st_pick) l__law_pick c__law_pick k__law_pick
  have b__law_pick := F__law_pick.binds (ps := ["_law_pot_here", "_law_some"]) fun _ _ _ _ _ _ us hl => match us, hl with | [_, _], _ => rfl
  have F__law_by := fun_mk (st := st_by) l__law_by c__law_by k__law_by
  have b__law_by := F__law_by.binds (ps := ["_law_one", "_law_other"]) fun _ _ _ _ _ _ us hl => match us, hl with | [_, _], _ => rfl
  have F__law_point := fun_mk (st := st_pt) l__law_point c__law_point k__law_point
  have b__law_point := F__law_point.binds (ps := ["_law_one", "_law_row_here"]) fun _ _ _ _ _ _ us hl => match us, hl with | [_, _], _ => rfl
  have F__law_idle := fun_mk (st := st_lidle) l__law_idle c__law_idle k__law_idle
  have b__law_idle := F__law_idle.binds (ps := ["_law_size"]) fun _ _ _ _ _ _ us hl => match us, hl with | [_], _ => rfl
  have F__law_step := fun_mk (st := st_stp) l__law_step c__law_step k__law_step
  have b__law_step := F__law_step.binds (ps := ["_law_size", "_law_i", "_law_j", "_law_many"]) fun _ _ _ _ _ _ us hl => match us, hl with | [_, _, _, _], _ => rfl
  have F__law_turning := fun_mk (st := st_tn) l__law_turning c__law_turning k__law_turning
  have b__law_turning := F__law_turning.binds (ps := ["_law_pot_here", "_law_size"]) fun _ _ _ _ _ _ us hl => match us, hl with | [_, _], _ => rfl
  have F__law_known := fun_mk (st := st_kn) l__law_known c__law_known k__law_known
  have b__law_known := F__law_known.binds (ps := ["_law_size"]) fun _ _ _ _ _ _ us hl => match us, hl with | [_], _ => rfl
  have F__law_led_makers := fun_mk (st := st_lm) l__law_led_makers c__law_led_makers k__law_led_makers
  have b__law_led_makers := F__law_led_makers.binds (ps := ["_law_makers", "_law_pair"]) fun _ _ _ _ _ _ us hl => match us, hl with | [_, _], _ => rfl
  have F__law_members := fun_mk (st := st_mem) l__law_members c__law_members k__law_members
  have b__law_members := F__law_members.binds (ps := ["_law_makers"]) fun _ _ _ _ _ _ us hl => match us, hl with | [_], _ => rfl
  have F__law_lot := fun_mk (st := st_lot) l__law_lot c__law_lot k__law_lot
  have b__law_lot := F__law_lot.binds (ps := ["_law_makers"]) fun _ _ _ _ _ _ us hl => match us, hl with | [_], _ => rfl
  have F__law_drawn := fun_mk (st := st_dr) l__law_drawn c__law_drawn k__law_drawn
  have b__law_drawn := F__law_drawn.binds (ps := ["_law_pot_here", "_law_size"]) fun _ _ _ _ _ _ us hl => match us, hl with | [_, _], _ => rfl
  have F__law_row := fun_mk (st := st_lrw) l__law_row c__law_row k__law_row
  have b__law_row := F__law_row.binds (ps := ["_law_pot_here", "_law_makers", "_law_members_here"]) fun _ _ _ _ _ _ us hl => match us, hl with | [_, _, _], _ => rfl
  have F__law_right := fun_mk (st := st_ri5) l__law_right c__law_right k__law_right
  have b__law_right := F__law_right.binds (ps := ["_law_pot_here"]) fun _ _ _ _ _ _ us hl => match us, hl with | [_], _ => rfl
  have F_law := fun_mk (st := st_law5) l_law c_law k_law
  have b_law := F_law.binds (ps := ["_law_script"]) fun _ _ _ _ _ _ us hl => match us, hl with | [_], _ => rfl
  have F_T___init__ := fun_mk (st := (st_T 0)) l_T___init__ c_T___init__ k_T___init__
  have b_T___init__ := F_T___init__.binds (ps := ["self", "rows"]) fun _ _ _ _ _ _ us hl => match us, hl with | [_, _], _ => rfl
  have F_T_rows := fun_mk (st := (st_T 1)) l_T_rows c_T_rows k_T_rows
  have b_T_rows := F_T_rows.binds (ps := ["self"]) fun _ _ _ _ _ _ us hl => match us, hl with | [_], _ => rfl
  have F_T_size := fun_mk (st := (st_T 2)) l_T_size c_T_size k_T_size
  have b_T_size := F_T_size.binds (ps := ["self"]) fun _ _ _ _ _ _ us hl => match us, hl with | [_], _ => rfl
  have F_T_determinant := fun_mk (st := (st_T 3)) l_T_determinant c_T_determinant k_T_determinant
  have b_T_determinant := F_T_determinant.binds (ps := ["self"]) fun _ _ _ _ _ _ us hl => match us, hl with | [_], _ => rfl
  have F_T___mul__ := fun_mk (st := (st_T 7)) l_T___mul__ c_T___mul__ k_T___mul__
  have b_T___mul__ := F_T___mul__.binds (ps := ["self", "other"]) fun _ _ _ _ _ _ us hl => match us, hl with | [_, _], _ => rfl
  have F_T_undone := fun_mk (st := (st_T 9)) l_T_undone c_T_undone k_T_undone
  have b_T_undone := F_T_undone.binds (ps := ["self"]) fun _ _ _ _ _ _ us hl => match us, hl with | [_], _ => rfl
  have F_T_lead := fun_mk (st := (st_T 8)) l_T_lead c_T_lead k_T_lead
  have b_T_lead := F_T_lead.binds (ps := ["self", "row"]) fun _ _ _ _ _ _ us hl => match us, hl with | [_, _], _ => rfl
  have F_Lt___init__ := fun_mk (st := (st_L 0)) l_Lt___init__ c_Lt___init__ k_Lt___init__
  have b_Lt___init__ := F_Lt___init__.binds (ps := ["self", "makers"]) fun _ _ _ _ _ _ us hl => match us, hl with | [_, _], _ => rfl
  have F_Lt_size := fun_mk (st := (st_L 1)) l_Lt_size c_Lt_size k_Lt_size
  have b_Lt_size := F_Lt_size.binds (ps := ["self"]) fun _ _ _ _ _ _ us hl => match us, hl with | [_], _ => rfl
  have F_Lt_is_finite := fun_mk (st := (st_L 2)) l_Lt_is_finite c_Lt_is_finite k_Lt_is_finite
  have b_Lt_is_finite := F_Lt_is_finite.binds (ps := ["self"]) fun _ _ _ _ _ _ us hl => match us, hl with | [_], _ => rfl
  have F_Lt_members := fun_mk (st := (st_L 7)) l_Lt_members c_Lt_members k_Lt_members
  have b_Lt_members := F_Lt_members.binds (ps := ["self"]) fun _ _ _ _ _ _ us hl => match us, hl with | [_], _ => rfl
  have tt_in_sequence := PySem.W.codeHd_of_K X hd2_in_sequence
  refine ⟨PySem.W.fnOf "law" "law" (defArgs st_law5) (defBody st_law5) (defScope st_law5) .none kV_law dc_law pm_law an_law cd_law ct_law, ([(cc_in_sequence, P_in_sequence)] : List (Addr × Addr)), sp_lawT K [(P_in_sequence, ("in_sequence.<locals>.<lambda>" : Str))], (List.forall_mem_cons.mpr ⟨ht_in_sequence, (List.forall_mem_nil _)⟩), (List.forall_mem_cons.mpr ⟨np_in_sequence, (List.forall_mem_nil _)⟩), (List.forall_mem_cons.mpr ⟨tt_in_sequence, (List.forall_mem_nil _)⟩), fun s v => .of_eq rfl, fun H a ns hl hO hH hS => ⟨a, ns, rfl, ?_, hS, hl, fun _ => rfl⟩, fun base hin hns htab => ?_⟩
  · exact (List.forall_mem_cons.mpr ⟨LamX.TabS.nil (hH _ (List.Mem.head _)), (List.forall_mem_nil _)⟩)
  have tb_in_sequence := htab _ (List.Mem.head _)
  have D_is_integer : Def l.prog w K mg base "is_integer" 1 ["value"] sp_is_integer := ⟨f_is_integer, _, ok_is_integer F_is_integer T, PySem.W.mg_of X G a_is_integer, k_is_integer, b_is_integer⟩
  have D_is_list : Def l.prog w K mg base "is_list" 1 ["value"] sp_is_list := ⟨f_is_list, _, ok_is_list F_is_list T, PySem.W.mg_of X G a_is_list, k_is_list, b_is_list⟩
  have D_is_row : Def l.prog w K mg base "is_row" 2 ["value"] sp_is_row := ⟨f_is_row, _, ok_is_row F_is_row T D_is_list D_is_integer, PySem.W.mg_of X G a_is_row, k_is_row, b_is_row⟩
  have D_is_row_of : Def l.prog w K mg base "is_row_of" 3 ["size", "value"] sp_is_row_of := ⟨f_is_row_of, _, ok_is_row_of F_is_row_of T D_is_row, PySem.W.mg_of X G a_is_row_of, k_is_row_of, b_is_row_of⟩
  have D_is_grid : Def l.prog w K mg base "is_grid" 4 ["value"] sp_is_grid := ⟨f_is_grid, _, ok_is_grid F_is_grid T D_is_list D_is_row_of, PySem.W.mg_of X G a_is_grid, k_is_grid, b_is_grid⟩
  have D_check_size : Def l.prog w K mg base "check_size" 2 ["size"] sp_check_size := ⟨f_check_size, _, ok_check_size F_check_size D_is_integer, PySem.W.mg_of X G a_check_size, k_check_size, b_check_size⟩
  have D_check_row : Def l.prog w K mg base "check_row" 4 ["size", "row"] sp_check_row := ⟨f_check_row, _, ok_check_row F_check_row D_is_row_of, PySem.W.mg_of X G a_check_row, k_check_row, b_check_row⟩
  have D_copied : Def l.prog w K mg base "copied" 1 ["rows"] sp_copied := ⟨f_copied, _, ok_copied F_copied T, PySem.W.mg_of X G a_copied, k_copied, b_copied⟩
  have D_unit_rows : Def l.prog w K mg base "unit_rows" 1 ["many"] sp_unit_rows := ⟨f_unit_rows, _, ok_unit_rows F_unit_rows T, PySem.W.mg_of X G a_unit_rows, k_unit_rows, b_unit_rows⟩
  have D_across : Def l.prog w K mg base "across" 1 ["rows"] sp_across := ⟨f_across, _, ok_across F_across T, PySem.W.mg_of X G a_across, k_across, b_across⟩
  have D_scalar : Def l.prog w K mg base "scalar" 1 ["row", "other"] sp_scalar := ⟨f_scalar, _, ok_scalar F_scalar T, PySem.W.mg_of X G a_scalar, k_scalar, b_scalar⟩
  have D_led_row : Def l.prog w K mg base "led_row" 2 ["rows", "row"] sp_led_row := ⟨f_led_row, _, ok_led_row F_led_row T D_scalar, PySem.W.mg_of X G a_led_row, k_led_row, b_led_row⟩
  have D_multiplied : Def l.prog w K mg base "multiplied" 3 ["rows", "others"] sp_multiplied := ⟨f_multiplied, _, ok_multiplied F_multiplied T D_across D_led_row, PySem.W.mg_of X G a_multiplied, k_multiplied, b_multiplied⟩
  have D_without : Def l.prog w K mg base "without" 1 ["rows", "at", "place"] sp_without := ⟨f_without, _, ok_without F_without T, PySem.W.mg_of X G a_without, k_without, b_without⟩
  have DD := ok_dets (P := l.prog) (w := w) (base := base) F_determinant_of F_cofactor T D_without (PySem.W.mg_of X G a_determinant_of) k_determinant_of b_determinant_of (PySem.W.mg_of X G a_cofactor) k_cofactor b_cofactor
  have Dmk : Mkr l.prog w K mg base C := ⟨f_T___init__, _, ⟨mk, a_T___init__, i_T___init__, kc⟩, ok_init F_T___init__ T Tc D_is_grid D_copied (fun n => (DD n).1), b_T___init__⟩
  have P_rows : Prp l.prog w K mg base C "rows" 1 (sp_rows C) := ⟨pp_T_rows, f_T_rows, _, ⟨p_T_rows, g_T_rows, t_T_rows, ⟨_, r_T_rows⟩⟩, ok_rows F_T_rows Tc, b_T_rows⟩
  have P_size : Prp l.prog w K mg base C "size" 1 (sp_size C) := ⟨pp_T_size, f_T_size, _, ⟨p_T_size, g_T_size, t_T_size, ⟨_, r_T_size⟩⟩, ok_size F_T_size T Tc, b_T_size⟩
  have P_determinant : Prp l.prog w K mg base C "determinant" 8 (sp_detP C) := ⟨pp_T_determinant, f_T_determinant, _, ⟨p_T_determinant, g_T_determinant, t_T_determinant, ⟨_, r_T_determinant⟩⟩, ok_detP F_T_determinant Tc (fun n => (DD n).1), b_T_determinant⟩
  have D_check_table : Def l.prog w K mg base "check_table" 1 ["table"] (sp_check_table C) := ⟨f_check_table, _, ok_check_table F_check_table T Tc, PySem.W.mg_of X G a_check_table, k_check_table, b_check_table⟩
  have D_check_alike : Def l.prog w K mg base "check_alike" 3 ["one", "other"] (sp_check_alike C) := ⟨f_check_alike, _, ok_check_alike F_check_alike Tc P_size, PySem.W.mg_of X G a_check_alike, k_check_alike, b_check_alike⟩
  have Dmul : MulP l.prog w K mg base C := ⟨f_T___mul__, _, cld, mrest, hcl, hmr, a_T___mul__, i_T___mul__, ok_mul F_T___mul__ Tc D_check_table D_check_alike D_multiplied Dmk P_rows, b_T___mul__⟩
  have M_undone : Mtd l.prog w K mg base C "undone" 10 ["self"] (sp_undone C) := ⟨f_T_undone, _, ⟨a_T_undone, i_T_undone, k_T_undone⟩, ok_undone F_T_undone T Tc P_determinant P_size (fun n => (DD n).2) Dmk, b_T_undone⟩
  have D_idle : Def l.prog w K mg base "idle" 10 ["size"] (sp_idle C) := ⟨f_idle, _, ok_idle F_idle Tc D_check_size D_unit_rows Dmk, PySem.W.mg_of X G a_idle, k_idle, b_idle⟩
  have Tw : TxtW mg := ⟨⟨_, PySem.W.mg_of X G m_MOST_MAKERS⟩⟩
  have D_is_listR : Def l.prog w K mg base "is_list" 1 ["value"] sp_is_listR := ⟨f_is_list, _, ok_is_listR F_is_list T, PySem.W.mg_of X G a_is_list, k_is_list, b_is_list⟩
  have D_check_makers : Def l.prog w K mg base "check_makers" 3 ["makers"] (sp_cm C) := ⟨f_check_makers, _, ok_cm F_check_makers T Tw Tc D_is_listR P_size, PySem.W.mg_of X G a_check_makers, k_check_makers, b_check_makers⟩
  have D__of_letter : Def l.prog w K mg base "_of_letter" 11 ["makers", "letter"] (sp_ol C) := ⟨f__of_letter, _, ok_ol F__of_letter T Tc M_undone, PySem.W.mg_of X G a__of_letter, k__of_letter, b__of_letter⟩
  have D_letter_steps : Def l.prog w K mg base "letter_steps" 12 ["makers"] (sp_ls C) := ⟨f_letter_steps, _, ok_ls F_letter_steps T D__of_letter, PySem.W.mg_of X G a_letter_steps, k_letter_steps, b_letter_steps⟩
  have D_walked : Def l.prog w K mg base "walked" 13 ["makers"] (sp_wk l.prog w C) := ⟨f_walked, _, ok_wk F_walked T Tc D_idle P_size P_rows hMM tMM D_letter_steps Dmul, PySem.W.mg_of X G a_walked, k_walked, b_walked⟩
  have Lmk : MkrL l.prog w K mg base C CL := ⟨f_Lt___init__, _, ⟨mkL, a_Lt___init__, i_Lt___init__, kcL⟩, ok_initL F_Lt___init__ T Lc D_check_makers D_walked, b_Lt___init__⟩
  have LP_size : Prp l.prog w K mg base CL "size" 3 (sp_sizeL l.prog w C CL) := ⟨pp_Lt_size, f_Lt_size, _, ⟨p_Lt_size, g_Lt_size, t_Lt_size, ⟨_, r_Lt_size⟩⟩, ok_sizeL F_Lt_size Tc Lc P_size, b_Lt_size⟩
  have LP_is_finite : Prp l.prog w K mg base CL "is_finite" 5 (sp_finL l.prog w C CL) := ⟨pp_Lt_is_finite, f_Lt_is_finite, _, ⟨p_Lt_is_finite, g_Lt_is_finite, t_Lt_is_finite, ⟨_, r_Lt_is_finite⟩⟩, ok_finL F_Lt_is_finite T Lc hMM tMM LP_size, b_Lt_is_finite⟩
  have D_check_lot : Def l.prog w K mg base "check_lot" 1 ["lot"] (sp_cl CL) := ⟨f_check_lot, _, ok_cl F_check_lot T Lc, PySem.W.mg_of X G a_check_lot, k_check_lot, b_check_lot⟩
  have D_check_finite : Def l.prog w K mg base "check_finite" 7 ["lot"] (sp_cf l.prog w C CL) := ⟨f_check_finite, _, ok_cf F_check_finite Lc LP_is_finite, PySem.W.mg_of X G a_check_finite, k_check_finite, b_check_finite⟩
  have GR : Kp.Getter K C "rows" "_rows" := getter_rows (rs := rs_T_rows) ⟨p_T_rows, g_T_rows, t_T_rows, ⟨_, r_T_rows⟩⟩ l_T_rows c_T_rows
  have D_in_sequence : Def l.prog w K mg base "in_sequence" 7 ["tables"] (Is.sp_inseq [(P_in_sequence, ("in_sequence.<locals>.<lambda>" : Str))] C "_rows") := ⟨f_in_sequence, _, ok_inseq FC_in_sequence (PySem.W.mg_none_of X G zz_sorted) tb_in_sequence (List.Mem.head _) (Di.only_of (by simp) (List.Mem.head _)) Cl nR GR, PySem.W.mg_of X G a_in_sequence, k_in_sequence, b_in_sequence⟩
  have LM_members : Mtd l.prog w K mg base CL "members" 10 ["self"] (sp_mem l.prog w [(P_in_sequence, ("in_sequence.<locals>.<lambda>" : Str))] C CL) := ⟨f_Lt_members, _, ⟨a_Lt_members, i_Lt_members, k_Lt_members⟩, ok_mem F_Lt_members Tc Lc D_check_finite D_in_sequence Dmk, b_Lt_members⟩
  have M_lead : Mtd l.prog w K mg base C "lead" 5 ["self", "row"] (sp_lead C) := ⟨f_T_lead, _, ⟨a_T_lead, i_T_lead, k_T_lead⟩, ok_lead F_T_lead Tc D_check_row P_size D_led_row, b_T_lead⟩
  have D__check_lot_and_row : Def l.prog w K mg base "_check_lot_and_row" 5 ["lot", "row"] (sp_clr l.prog w C CL) := ⟨f__check_lot_and_row, _, ok_clr F__check_lot_and_row Lc D_check_lot D_check_row LP_size, PySem.W.mg_of X G a__check_lot_and_row, k__check_lot_and_row, b__check_lot_and_row⟩
  have kb_round_of : KBinds K (PySem.W.fnOf "round_of" "round_of" (defArgs st_ro) (defBody st_ro) (defScope st_ro) .none kV_round_of dc_round_of pm_round_of an_round_of cd_round_of ct_round_of) ["lot", "row"] ["row", "lot"] gU2 gV2 := by
    refine KBinds.mk (fun s us ws _ hl => ?_) (fun {vs us zs ws} r1 r2 => ?_)
    · match us, ws, hl with
      | [], [a0, a1], _ => exact .of_eq rfl
    · cases r1 with
      | cons _ _ =>
        cases r2 with
        | nil => exact .nil
        | cons _ _ => exact .nil
      | nil =>
        cases r2 with
        | nil => exact .nil
        | cons x0 u0 =>
          cases u0 with
          | nil => exact .nil
          | cons x1 u1 =>
            cases u1 with
            | cons _ _ => exact .nil
            | nil => exact .cons x1 (.cons x0 .nil)
  have K_round_of : DefK l.prog w K mg base "round_of" 12 ["lot", "row"] ["row", "lot"] (sp_ro l.prog w [(P_in_sequence, ("in_sequence.<locals>.<lambda>" : Str))] C CL) gU2 gV2 := ⟨f_round_of, _, ok_ro F_round_of (PySem.W.mg_none_of X G zz_sorted) (PySem.W.mg_none_of X G zz_set) Tc Lc D__check_lot_and_row LM_members M_lead, PySem.W.mg_of X G a_round_of, k_round_of, b_round_of, kb_round_of⟩
  have D_round_of := K_round_of.d
  have kb_stayers : KBinds K (PySem.W.fnOf "stayers" "stayers" (defArgs st_sy) (defBody st_sy) (defScope st_sy) .none kV_stayers dc_stayers pm_stayers an_stayers cd_stayers ct_stayers) ["lot", "row"] ["row", "lot"] gU2 gV2 := by
    refine KBinds.mk (fun s us ws _ hl => ?_) (fun {vs us zs ws} r1 r2 => ?_)
    · match us, ws, hl with
      | [], [a0, a1], _ => exact .of_eq rfl
    · cases r1 with
      | cons _ _ =>
        cases r2 with
        | nil => exact .nil
        | cons _ _ => exact .nil
      | nil =>
        cases r2 with
        | nil => exact .nil
        | cons x0 u0 =>
          cases u0 with
          | nil => exact .nil
          | cons x1 u1 =>
            cases u1 with
            | cons _ _ => exact .nil
            | nil => exact .cons x1 (.cons x0 .nil)
  have K_stayers : DefK l.prog w K mg base "stayers" 12 ["lot", "row"] ["row", "lot"] (sp_sy l.prog w [(P_in_sequence, ("in_sequence.<locals>.<lambda>" : Str))] C CL) gU2 gV2 := ⟨f_stayers, _, ok_sy F_stayers T Tc Lc D__check_lot_and_row LM_members M_lead, PySem.W.mg_of X G a_stayers, k_stayers, b_stayers, kb_stayers⟩
  have D_stayers := K_stayers.d
  have D__law_pot : Def l.prog w K mg base "_law_pot" 1 ["_law_script", "_law_k"] (sp_pot K) := ⟨f__law_pot, _, ok_pot F__law_pot T, PySem.W.mg_of X G a__law_pot, k__law_pot, b__law_pot⟩
  have D__law_draw : Def l.prog w K mg base "_law_draw" 1 ["_law_pot_here", "_law_size"] sp_draw := ⟨f__law_draw, _, ok_draw F__law_draw T, PySem.W.mg_of X G a__law_draw, k__law_draw, b__law_draw⟩
  have D__law_pick : Def l.prog w K mg base "_law_pick" 2 ["_law_pot_here", "_law_some"] sp_pick := ⟨f__law_pick, _, ok_pick F__law_pick T D__law_draw, PySem.W.mg_of X G a__law_pick, k__law_pick, b__law_pick⟩
  have D__law_by : Def l.prog w K mg base "_law_by" 1 ["_law_one", "_law_other"] sp_by := ⟨f__law_by, _, ok_by F__law_by T, PySem.W.mg_of X G a__law_by, k__law_by, b__law_by⟩
  have D__law_idle : Def l.prog w K mg base "_law_idle" 1 ["_law_size"] sp_unit_rows := ⟨f__law_idle, _, ok_lidle F__law_idle T, PySem.W.mg_of X G a__law_idle, k__law_idle, b__law_idle⟩
  have D__law_step : Def l.prog w K mg base "_law_step" 2 ["_law_size", "_law_i", "_law_j", "_law_many"] sp_stp := ⟨f__law_step, _, ok_stp F__law_step T D__law_idle, PySem.W.mg_of X G a__law_step, k__law_step, b__law_step⟩
  have D__law_turning : Def l.prog w K mg base "_law_turning" 3 ["_law_pot_here", "_law_size"] sp_tn := ⟨f__law_turning, _, ok_tn F__law_turning T D__law_idle D__law_draw D__law_pick D__law_by D__law_step, PySem.W.mg_of X G a__law_turning, k__law_turning, b__law_turning⟩
  have D__law_known : Def l.prog w K mg base "_law_known" 1 ["_law_size"] sp_kn := ⟨f__law_known, _, ok_kn F__law_known , PySem.W.mg_of X G a__law_known, k__law_known, b__law_known⟩
  have D__law_led_makers : Def l.prog w K mg base "_law_led_makers" 2 ["_law_makers", "_law_pair"] sp_lm := ⟨f__law_led_makers, _, ok_lm F__law_led_makers T D__law_by, PySem.W.mg_of X G a__law_led_makers, k__law_led_makers, b__law_led_makers⟩
  have D__law_members : Def l.prog w K mg base "_law_members" 2 ["_law_makers"] sp_lmem := ⟨f__law_members, _, ok_lmem F__law_members T (PySem.W.mg_none_of X G zz_sorted) D__law_idle D__law_by, PySem.W.mg_of X G a__law_members, k__law_members, b__law_members⟩
  have D__law_lot : Def l.prog w K mg base "_law_lot" 16 ["_law_makers"] (sp_lot l.prog w C CL) := ⟨f__law_lot, _, ok_lot F__law_lot T Tc Lc Dmk Lmk, PySem.W.mg_of X G a__law_lot, k__law_lot, b__law_lot⟩
  have D__law_point : Def l.prog w K mg base "_law_point" 1 ["_law_one", "_law_row_here"] sp_pt := ⟨f__law_point, _, ok_pt F__law_point T, PySem.W.mg_of X G a__law_point, k__law_point, b__law_point⟩
  have D__law_drawn : Def l.prog w K mg base "_law_drawn" 4 ["_law_pot_here", "_law_size"] sp_mks := ⟨f__law_drawn, _, ok_dr F__law_drawn T D__law_known D__law_pick D__law_turning D__law_led_makers, PySem.W.mg_of X G a__law_drawn, k__law_drawn, b__law_drawn⟩
  have D__law_row : Def l.prog w K mg base "_law_row" 2 ["_law_pot_here", "_law_makers", "_law_members_here"] sp_lrw := ⟨f__law_row, _, ok_lrw F__law_row T D__law_draw D__law_point, PySem.W.mg_of X G a__law_row, k__law_row, b__law_row⟩
  have D__law_right : DefG l.prog w K mg base "_law_right" 17 ["_law_pot_here"] (sp_rr5 [(P_in_sequence, ("in_sequence.<locals>.<lambda>" : Str))]) := ⟨f__law_right, _, ok_rr5 F__law_right T (PySem.W.mg_none_of X G zz_sorted) (PySem.W.mg_none_of X G zz_set) Tc Lc D__law_draw D__law_drawn D__law_members D__law_lot D__law_row D__law_point K_round_of K_stayers P_rows D__law_pick, PySem.W.mg_of X G a__law_right, k__law_right, b__law_right⟩
  exact ok_lawT F_law D__law_pot D__law_right
theorem walk {l : PySem.W.OpenLaw} {q : Program} {loose : List Str} {XP : (Str → Option Value) → Heap → Prop} {YP : World → Heap → Prop} {d : DefRec} {K : Params → PySem.W.Frag} (hn : l.most = some 63) (hdf : d.params.defaults = [])
    (hY : ∀ (w : World) (h : Heap), YP w h → (K w.params).In h)
    (F : ∀ (w : World) (mg : Str → Option Value) (fa : Addr) (h : Heap), YP w h → (K w.params).In h → h.Ns mainGlobals mg → mg d.name = some (.ref fa) → He.LawT l w (K w.params) 18 63 "_law_script" mg fa h) :
    PySem.W.WalkO q loose XP YP l.row.toRowW d [] (fun f vs => PySem.call f vs) :=
  He.walkGT (n := 63) (k := 18) (x := "_law_script") hn (by decide) hdf ⟨rfl, by decide, by decide⟩ hY F
end T81
open PySem PySem.W PyProof.Rows
set_option maxRecDepth 100000 in
set_option maxHeartbeats 0 in
theorem PySem.Challenge.cw_keptbowls_k81_whole_rounds_and_stayers_holds : PySem.Challenge.rw_keptbowls_k81_whole_rounds_and_stayers.Holds := by
  w_on; o_law; k_head; (case hw => w_witness2)
  k_fill
  refine T81.walk (l := PySem.Challenge.rw_keptbowls_k81_whole_rounds_and_stayers) rfl rfl (fun w h Y => by first | exact PySem.W.kIn_of Y | exact PySem.W.km_in_of Y) ?F
  case F =>
    intro w mg fa h Y KX G hmg
    refine' T81.all_mk KX G hmg ?aC ?aCL ?m_T0 ?l_T0 ?a_is_integer ?l_is_integer ?c_is_integer ?k_is_integer ?a_is_list ?l_is_list ?c_is_list ?k_is_list ?a_is_row ?l_is_row ?c_is_row ?k_is_row ?a_is_row_of ?l_is_row_of ?c_is_row_of ?k_is_row_of ?a_is_grid ?l_is_grid ?c_is_grid ?k_is_grid ?a_check_size ?l_check_size ?c_check_size ?k_check_size ?a_check_row ?l_check_row ?c_check_row ?k_check_row ?a_copied ?l_copied ?c_copied ?k_copied ?a_unit_rows ?l_unit_rows ?c_unit_rows ?k_unit_rows ?a_across ?l_across ?c_across ?k_across ?a_scalar ?l_scalar ?c_scalar ?k_scalar ?a_led_row ?l_led_row ?c_led_row ?k_led_row ?a_multiplied ?l_multiplied ?c_multiplied ?k_multiplied ?a_without ?l_without ?c_without ?k_without ?a_determinant_of ?l_determinant_of ?c_determinant_of ?k_determinant_of ?a_cofactor ?l_cofactor ?c_cofactor ?k_cofactor ?a_check_table ?l_check_table ?c_check_table ?k_check_table ?a_check_alike ?l_check_alike ?c_check_alike ?k_check_alike ?a_idle ?l_idle ?c_idle ?k_idle ?a_in_sequence ?l_in_sequence ?c_in_sequence ?k_in_sequence ?lc_in_sequence ?lv_in_sequence ?hd2_in_sequence ?np_in_sequence ?ht_in_sequence ?a_check_makers ?l_check_makers ?c_check_makers ?k_check_makers ?a__of_letter ?l__of_letter ?c__of_letter ?k__of_letter ?a_letter_steps ?l_letter_steps ?c_letter_steps ?k_letter_steps ?a_walked ?l_walked ?c_walked ?k_walked ?a_check_lot ?l_check_lot ?c_check_lot ?k_check_lot ?a_check_finite ?l_check_finite ?c_check_finite ?k_check_finite ?a_round_of ?l_round_of ?c_round_of ?k_round_of ?a_stayers ?l_stayers ?c_stayers ?k_stayers ?a__check_lot_and_row ?l__check_lot_and_row ?c__check_lot_and_row ?k__check_lot_and_row ?a__law_pot ?l__law_pot ?c__law_pot ?k__law_pot ?a__law_draw ?l__law_draw ?c__law_draw ?k__law_draw ?a__law_pick ?l__law_pick ?c__law_pick ?k__law_pick ?a__law_by ?l__law_by ?c__law_by ?k__law_by ?a__law_point ?l__law_point ?c__law_point ?k__law_point ?a__law_idle ?l__law_idle ?c__law_idle ?k__law_idle ?a__law_step ?l__law_step ?c__law_step ?k__law_step ?a__law_turning ?l__law_turning ?c__law_turning ?k__law_turning ?a__law_known ?l__law_known ?c__law_known ?k__law_known ?a__law_led_makers ?l__law_led_makers ?c__law_led_makers ?k__law_led_makers ?a__law_members ?l__law_members ?c__law_members ?k__law_members ?a__law_lot ?l__law_lot ?c__law_lot ?k__law_lot ?a__law_drawn ?l__law_drawn ?c__law_drawn ?k__law_drawn ?a__law_row ?l__law_row ?c__law_row ?k__law_row ?a__law_right ?l__law_right ?c__law_right ?k__law_right ?a_law ?l_law ?c_law ?k_law ?a_T___init__ ?i_T___init__ ?l_T___init__ ?c_T___init__ ?k_T___init__ ?p_T_rows ?g_T_rows ?t_T_rows ?r_T_rows ?l_T_rows ?c_T_rows ?k_T_rows ?p_T_size ?g_T_size ?t_T_size ?r_T_size ?l_T_size ?c_T_size ?k_T_size ?p_T_determinant ?g_T_determinant ?t_T_determinant ?r_T_determinant ?l_T_determinant ?c_T_determinant ?k_T_determinant ?a_T___mul__ ?i_T___mul__ ?l_T___mul__ ?c_T___mul__ ?k_T___mul__ ?a_T_undone ?i_T_undone ?l_T_undone ?c_T_undone ?k_T_undone ?a_T_lead ?i_T_lead ?l_T_lead ?c_T_lead ?k_T_lead ?a_Lt___init__ ?i_Lt___init__ ?l_Lt___init__ ?c_Lt___init__ ?k_Lt___init__ ?p_Lt_size ?g_Lt_size ?t_Lt_size ?r_Lt_size ?l_Lt_size ?c_Lt_size ?k_Lt_size ?p_Lt_is_finite ?g_Lt_is_finite ?t_Lt_is_finite ?r_Lt_is_finite ?l_Lt_is_finite ?c_Lt_is_finite ?k_Lt_is_finite ?a_Lt_members ?i_Lt_members ?l_Lt_members ?c_Lt_members ?k_Lt_members ?pg ?hd ?po ?sa ?mk ?kc ?nR ?cc ?cg ?ct ?cm ?hcl ?hmr ?pgL ?hdL ?poL ?saL ?mkL ?kcL ?nML ?nWL ?ccL ?cmL ?m_MOST_MAKERS ?z0 ?z1 ?z2 ?z3 ?z4 ?z5 ?z6 ?z7 ?z8 ?z9 ?z10 ?z11 ?z12 ?z13 ?z14 ?z15 ?zz_set ?zz_sorted
    (case aC => k_is)
    (case aCL => k_is)
    (case m_T0 => k_is)
    (case l_T0 => k_is)
    (case a_is_integer => k_is)
    (case l_is_integer => k_is)
    (case c_is_integer => k_is)
    (case k_is_integer => k_is)
    (case a_is_list => k_is)
    (case l_is_list => k_is)
    (case c_is_list => k_is)
    (case k_is_list => k_is)
    (case a_is_row => k_is)
    (case l_is_row => k_is)
    (case c_is_row => k_is)
    (case k_is_row => k_is)
    (case a_is_row_of => k_is)
    (case l_is_row_of => k_is)
    (case c_is_row_of => k_is)
    (case k_is_row_of => k_is)
    (case a_is_grid => k_is)
    (case l_is_grid => k_is)
    (case c_is_grid => k_is)
    (case k_is_grid => k_is)
    (case a_check_size => k_is)
    (case l_check_size => k_is)
    (case c_check_size => k_is)
    (case k_check_size => k_is)
    (case a_check_row => k_is)
    (case l_check_row => k_is)
    (case c_check_row => k_is)
    (case k_check_row => k_is)
    (case a_copied => k_is)
    (case l_copied => k_is)
    (case c_copied => k_is)
    (case k_copied => k_is)
    (case a_unit_rows => k_is)
    (case l_unit_rows => k_is)
    (case c_unit_rows => k_is)
    (case k_unit_rows => k_is)
    (case a_across => k_is)
    (case l_across => k_is)
    (case c_across => k_is)
    (case k_across => k_is)
    (case a_scalar => k_is)
    (case l_scalar => k_is)
    (case c_scalar => k_is)
    (case k_scalar => k_is)
    (case a_led_row => k_is)
    (case l_led_row => k_is)
    (case c_led_row => k_is)
    (case k_led_row => k_is)
    (case a_multiplied => k_is)
    (case l_multiplied => k_is)
    (case c_multiplied => k_is)
    (case k_multiplied => k_is)
    (case a_without => k_is)
    (case l_without => k_is)
    (case c_without => k_is)
    (case k_without => k_is)
    (case a_determinant_of => k_is)
    (case l_determinant_of => k_is)
    (case c_determinant_of => k_is)
    (case k_determinant_of => k_is)
    (case a_cofactor => k_is)
    (case l_cofactor => k_is)
    (case c_cofactor => k_is)
    (case k_cofactor => k_is)
    (case a_check_table => k_is)
    (case l_check_table => k_is)
    (case c_check_table => k_is)
    (case k_check_table => k_is)
    (case a_check_alike => k_is)
    (case l_check_alike => k_is)
    (case c_check_alike => k_is)
    (case k_check_alike => k_is)
    (case a_idle => k_is)
    (case l_idle => k_is)
    (case c_idle => k_is)
    (case k_idle => k_is)
    (case a_in_sequence => k_is)
    (case l_in_sequence => k_is)
    (case c_in_sequence => k_is)
    (case k_in_sequence => k_is)
    (case lc_in_sequence => k_is)
    (case lv_in_sequence => rfl)
    (case hd2_in_sequence => kernel_rfl)
    (case np_in_sequence => kernel_rfl)
    (case ht_in_sequence => exact PySem.W.km_tabs_of Y _ (by decide))
    (case a_check_makers => k_is)
    (case l_check_makers => k_is)
    (case c_check_makers => k_is)
    (case k_check_makers => k_is)
    (case a__of_letter => k_is)
    (case l__of_letter => k_is)
    (case c__of_letter => k_is)
    (case k__of_letter => k_is)
    (case a_letter_steps => k_is)
    (case l_letter_steps => k_is)
    (case c_letter_steps => k_is)
    (case k_letter_steps => k_is)
    (case a_walked => k_is)
    (case l_walked => k_is)
    (case c_walked => k_is)
    (case k_walked => k_is)
    (case a_check_lot => k_is)
    (case l_check_lot => k_is)
    (case c_check_lot => k_is)
    (case k_check_lot => k_is)
    (case a_check_finite => k_is)
    (case l_check_finite => k_is)
    (case c_check_finite => k_is)
    (case k_check_finite => k_is)
    (case a_round_of => k_is)
    (case l_round_of => k_is)
    (case c_round_of => k_is)
    (case k_round_of => k_is)
    (case a_stayers => k_is)
    (case l_stayers => k_is)
    (case c_stayers => k_is)
    (case k_stayers => k_is)
    (case a__check_lot_and_row => k_is)
    (case l__check_lot_and_row => k_is)
    (case c__check_lot_and_row => k_is)
    (case k__check_lot_and_row => k_is)
    (case a__law_pot => k_is)
    (case l__law_pot => k_is)
    (case c__law_pot => k_is)
    (case k__law_pot => k_is)
    (case a__law_draw => k_is)
    (case l__law_draw => k_is)
    (case c__law_draw => k_is)
    (case k__law_draw => k_is)
    (case a__law_pick => k_is)
    (case l__law_pick => k_is)
    (case c__law_pick => k_is)
    (case k__law_pick => k_is)
    (case a__law_by => k_is)
    (case l__law_by => k_is)
    (case c__law_by => k_is)
    (case k__law_by => k_is)
    (case a__law_point => k_is)
    (case l__law_point => k_is)
    (case c__law_point => k_is)
    (case k__law_point => k_is)
    (case a__law_idle => k_is)
    (case l__law_idle => k_is)
    (case c__law_idle => k_is)
    (case k__law_idle => k_is)
    (case a__law_step => k_is)
    (case l__law_step => k_is)
    (case c__law_step => k_is)
    (case k__law_step => k_is)
    (case a__law_turning => k_is)
    (case l__law_turning => k_is)
    (case c__law_turning => k_is)
    (case k__law_turning => k_is)
    (case a__law_known => k_is)
    (case l__law_known => k_is)
    (case c__law_known => k_is)
    (case k__law_known => k_is)
    (case a__law_led_makers => k_is)
    (case l__law_led_makers => k_is)
    (case c__law_led_makers => k_is)
    (case k__law_led_makers => k_is)
    (case a__law_members => k_is)
    (case l__law_members => k_is)
    (case c__law_members => k_is)
    (case k__law_members => k_is)
    (case a__law_lot => k_is)
    (case l__law_lot => k_is)
    (case c__law_lot => k_is)
    (case k__law_lot => k_is)
    (case a__law_drawn => k_is)
    (case l__law_drawn => k_is)
    (case c__law_drawn => k_is)
    (case k__law_drawn => k_is)
    (case a__law_row => k_is)
    (case l__law_row => k_is)
    (case c__law_row => k_is)
    (case k__law_row => k_is)
    (case a__law_right => k_is)
    (case l__law_right => k_is)
    (case c__law_right => k_is)
    (case k__law_right => k_is)
    (case a_law => k_is)
    (case l_law => k_is)
    (case c_law => k_is)
    (case k_law => k_is)
    (case a_T___init__ => k_is)
    (case i_T___init__ => k_is)
    (case l_T___init__ => k_is)
    (case c_T___init__ => k_is)
    (case k_T___init__ => k_is)
    (case p_T_rows => k_is)
    (case g_T_rows => k_is)
    (case t_T_rows => k_is)
    (case r_T_rows => k_is)
    (case l_T_rows => k_is)
    (case c_T_rows => k_is)
    (case k_T_rows => k_is)
    (case p_T_size => k_is)
    (case g_T_size => k_is)
    (case t_T_size => k_is)
    (case r_T_size => k_is)
    (case l_T_size => k_is)
    (case c_T_size => k_is)
    (case k_T_size => k_is)
    (case p_T_determinant => k_is)
    (case g_T_determinant => k_is)
    (case t_T_determinant => k_is)
    (case r_T_determinant => k_is)
    (case l_T_determinant => k_is)
    (case c_T_determinant => k_is)
    (case k_T_determinant => k_is)
    (case a_T___mul__ => k_is)
    (case i_T___mul__ => k_is)
    (case l_T___mul__ => k_is)
    (case c_T___mul__ => k_is)
    (case k_T___mul__ => k_is)
    (case a_T_undone => k_is)
    (case i_T_undone => k_is)
    (case l_T_undone => k_is)
    (case c_T_undone => k_is)
    (case k_T_undone => k_is)
    (case a_T_lead => k_is)
    (case i_T_lead => k_is)
    (case l_T_lead => k_is)
    (case c_T_lead => k_is)
    (case k_T_lead => k_is)
    (case a_Lt___init__ => k_is)
    (case i_Lt___init__ => k_is)
    (case l_Lt___init__ => k_is)
    (case c_Lt___init__ => k_is)
    (case k_Lt___init__ => k_is)
    (case p_Lt_size => k_is)
    (case g_Lt_size => k_is)
    (case t_Lt_size => k_is)
    (case r_Lt_size => k_is)
    (case l_Lt_size => k_is)
    (case c_Lt_size => k_is)
    (case k_Lt_size => k_is)
    (case p_Lt_is_finite => k_is)
    (case g_Lt_is_finite => k_is)
    (case t_Lt_is_finite => k_is)
    (case r_Lt_is_finite => k_is)
    (case l_Lt_is_finite => k_is)
    (case c_Lt_is_finite => k_is)
    (case k_Lt_is_finite => k_is)
    (case a_Lt_members => k_is)
    (case i_Lt_members => k_is)
    (case l_Lt_members => k_is)
    (case c_Lt_members => k_is)
    (case k_Lt_members => k_is)
    (case pg => k_is)
    (case hd => k_is)
    (case po => k_is)
    (case sa => k_is)
    (case mk => k_is)
    (case kc => k_is)
    (case nR => k_is)
    (case cc => k_is)
    (case cg => k_is)
    (case ct => k_is)
    (case cm => k_is)
    (case hcl => k_is)
    (case hmr => rfl)
    (case pgL => k_is)
    (case hdL => k_is)
    (case poL => k_is)
    (case saL => k_is)
    (case mkL => k_is)
    (case kcL => k_is)
    (case nML => k_is)
    (case nWL => k_is)
    (case ccL => k_is)
    (case cmL => k_is)
    (case m_MOST_MAKERS => k_is)
    (case z0 => k_is)
    (case z1 => k_is)
    (case z2 => k_is)
    (case z3 => k_is)
    (case z4 => k_is)
    (case z5 => k_is)
    (case z6 => k_is)
    (case z7 => k_is)
    (case z8 => k_is)
    (case z9 => k_is)
    (case z10 => k_is)
    (case z11 => k_is)
    (case z12 => k_is)
    (case z13 => k_is)
    (case z14 => k_is)
    (case z15 => k_is)
    (case zz_set => k_is)
    (case zz_sorted => k_is)
#print axioms PySem.Challenge.cw_keptbowls_k81_whole_rounds_and_stayers_holds
