import PyProof.Rows.All
import Wide.All
import OpenK.AllK
import Wide.FinOn
import HandS.ForMost
import HandS.IsInst
import HandS.Zip
import HandS.Wide
import HandS.WideBits
import HandS.Style
import PySem.Challenge.RW_keptbowls_k33_solutions_judged
set_option Elab.async false
set_option linter.all false
set_option maxRecDepth 100000
set_option maxHeartbeats 1000000
/-! zip of any number of lists and tuples, mixed. -/
namespace Zn
open PySem PySem.Spec PyProof.Rows L2
open PySem.Sem (wp)

/-- a sequence to be walked: a tuple or a list, where, its items -/
abbrev Src := Bool × Addr × Array Value
def ItK (t : Bool) (h : Heap) (i l : Addr) (k : Nat) : Prop := cond t (h.IsTupleIter i l k) (h.IsListIter i l k)
def SqK (t : Bool) (h : Heap) (l : Addr) (xs : Array Value) : Prop := cond t (h.IsTuple l xs) (h.IsList l xs)
abbrev TupAt (h : Heap) (T : Addr) (xs : List Value) : Prop := h.get? T = some { cls := .type "tuple", data := .seq xs.toArray }

theorem ItK.at {t : Bool} {h h' : Heap} {i l : Addr} {k : Nat} (x : ItK t h i l k) (e : ∀ o, h.get? i = some o → h'.get? i = some o) : ItK t h' i l k := by
  cases t with
  | true => exact Heap.IsTupleIter.at x e
  | false => exact Heap.IsListIter.at x e
theorem SqK.at {t : Bool} {h h' : Heap} {l : Addr} {xs : Array Value} (x : SqK t h l xs) (e : ∀ o, h.get? l = some o → h'.get? l = some o) : SqK t h' l xs := by
  cases t with
  | true => obtain ⟨o, ho, r⟩ := x; exact ⟨o, e _ ho, r⟩
  | false => obtain ⟨o, ho, r⟩ := x; exact ⟨o, e _ ho, r⟩
theorem ItK.lt {t : Bool} {h : Heap} {i l : Addr} {k : Nat} (x : ItK t h i l k) : i < h.objs.size := by
  cases t with
  | true => obtain ⟨o, ho, _⟩ := x; exact Heap.lt_size ho
  | false => obtain ⟨o, ho, _⟩ := x; exact Heap.lt_size ho
theorem SqK.lt {t : Bool} {h : Heap} {l : Addr} {xs : Array Value} (x : SqK t h l xs) : l < h.objs.size := by
  cases t with
  | true => obtain ⟨o, ho, _⟩ := x; exact Heap.lt_size ho
  | false => obtain ⟨o, ho, _⟩ := x; exact Heap.lt_size ho
theorem ItK.rec_ {t : Bool} {h : Heap} {i l : Addr} {k : Nat} (x : ItK t h i l k) : ∃ o, h.get? i = some o ∧ (o.cls = .type "tuple_iterator" ∨ o.cls = .type "list_iterator") ∧ o.data = .fields #[.ref l, .int k 0] := by
  cases t with
  | true => obtain ⟨o, ho, hc, hd⟩ := x; exact ⟨o, ho, .inl hc, hd⟩
  | false => obtain ⟨o, ho, hc, hd⟩ := x; exact ⟨o, ho, .inr hc, hd⟩

section
variable {prog : Program} {w : World} {A : Around} {E : Value → Shared → Prop} {s : Shared}
theorem nextOf_item {t : Bool} {i l : Addr} {k : Nat} {xs : Array Value} {x : Value} {Q : Value → Shared → Prop} (hi : ItK t s.heap i l k) (hl : SqK t s.heap l xs) (hx : xs[k]? = some x)
    (hQ : ∀ h', ItK t h' i l (k + 1) → Heap.SameBut i s.heap h' → Q x { s with heap := h' }) : wpAny (model prog w) A (Builtin.SmallTypes.nextOf (.ref i)) Q E s := by
  cases t with
  | true => exact RZ.nextOf_tuple_item hi hl hx hQ
  | false => exact wpAny_nextOf_list_item hi hl hx hQ
theorem nextOf_end {t : Bool} {i l : Addr} {k : Nat} {xs : Array Value} {Q : Value → Shared → Prop} (hh : A.handled = none) (hi : ItK t s.heap i l k) (hl : SqK t s.heap l xs) (hx : xs[k]? = none)
    (hE : ∀ h' e, Heap.ExtBut i s.heap h' → (∃ o, h'.get? e = some o ∧ o.cls = .type "StopIteration") → E (.ref e) { s with heap := h' }) : wpAny (model prog w) A (Builtin.SmallTypes.nextOf (.ref i)) Q E s := by
  cases t with
  | true => exact RZ.nextOf_tuple_end hh hi hl hx hE
  | false => exact wpAny_nextOf_list_end hh hi hl hx hE
theorem pyIter_K {t : Bool} {l : Addr} {xs : Array Value} {Q : Value → Shared → Prop} (hl : SqK t s.heap l xs)
    (hQ : ∀ h', ItK t h' s.heap.objs.size l 0 → h'.objs.size = s.heap.objs.size + 1 → (∀ c o, s.heap.get? c = some o → h'.get? c = some o) → Q (.ref s.heap.objs.size) { s with heap := h' }) :
    wpAny (model prog w) A (pyIter (.ref l)) Q E s := by
  cases t with
  | true => exact wpAny_pyIter_tuple hl (hQ _ ⟨_, Heap.get?_push_size _ rfl, rfl, rfl⟩ (Heap.size_push ..) fun c o e => Heap.get?_push_of_some _ e)
  | false => exact wpAny_pyIter_list hl (hQ _ ⟨_, Heap.get?_push_size _ rfl, rfl, rfl⟩ (Heap.size_push ..) fun c o e => Heap.get?_push_of_some _ e)

/-- the iterators at the k-th turn of their sequences -/
def AllAt (h : Heap) (k : Nat) : List Addr → List Src → Prop
  | [], [] => True
  | i :: is, (t, l, xs) :: r => ItK t h i l k ∧ SqK t h l xs ∧ AllAt h k is r
  | _, _ => False
theorem AllAt.at {h h' : Heap} {k : Nat} : ∀ {is : List Addr} {r : List Src}, AllAt h k is r → (∀ i ∈ is, ∀ o, h.get? i = some o → h'.get? i = some o) → (∀ q ∈ r, ∀ o, h.get? q.2.1 = some o → h'.get? q.2.1 = some o) → AllAt h' k is r
  | [], [], _, _, _ => trivial
  | i :: is, (t, l, xs) :: r, x, e1, e2 => ⟨x.1.at (e1 i List.mem_cons_self), x.2.1.at (e2 _ List.mem_cons_self), AllAt.at x.2.2 (fun j hj => e1 j (List.mem_cons_of_mem _ hj)) fun q hq => e2 q (List.mem_cons_of_mem _ hq)⟩
theorem AllAt.len {h : Heap} {k : Nat} : ∀ {is : List Addr} {r : List Src}, AllAt h k is r → is.length = r.length
  | [], [], _ => rfl
  | _ :: _, _ :: _, x => by rw [List.length_cons, List.length_cons, AllAt.len x.2.2]
theorem AllAt.lt {h : Heap} {k : Nat} : ∀ {is : List Addr} {r : List Src}, AllAt h k is r → ∀ i ∈ is, i < h.objs.size
  | i :: is, (t, l, xs) :: r, x, j, hj => by
    rcases List.mem_cons.mp hj with rfl | hj
    · exact x.1.lt
    · exact AllAt.lt x.2.2 j hj
theorem AllAt.ob {h : Heap} {k : Nat} : ∀ {is : List Addr} {r : List Src}, AllAt h k is r → ∀ i ∈ is, ∃ o l, h.get? i = some o ∧ o.data = .fields #[.ref l, .int k 0]
  | i :: is, (t, l, xs) :: r, x, j, hj => by
    rcases List.mem_cons.mp hj with rfl | hj
    · obtain ⟨o, ho, _, hd⟩ := x.1.rec_
      exact ⟨o, l, ho, hd⟩
    · exact AllAt.ob x.2.2 j hj
/-- the items at the k-th turn -/
def Items (k : Nat) : List Src → List Value → Prop
  | [], [] => True
  | (_, _, xs) :: r, y :: ys => xs[k]? = some y ∧ Items k r ys
  | _, _ => False
theorem Items.len {k : Nat} : ∀ {r : List Src} {ys : List Value}, Items k r ys → r.length = ys.length
  | [], [], _ => rfl
  | _ :: _, _ :: _, x => by rw [List.length_cons, List.length_cons, Items.len x.2]
/-- what a draw asks of the loop's body, and gives -/
def DrawOk (M : Model) (A : Around) {β : Type} (f : Value × Nat → β → Sem (ForInStep β)) (b0 : β) (TO : Addr) : Prop :=
  ∀ (s : Shared) (i l : Addr) (t : Bool) (k : Nat) (xs : Array Value) (x old : Value) (pre post : List Value) (Q : ForInStep β → Shared → Prop) (E : Value → Shared → Prop), ItK t s.heap i l k → SqK t s.heap l xs → xs[k]? = some x → i ≠ TO → l ≠ TO → l ≠ i →
    (pre ++ old :: post).length ≤ 1000 → TupAt s.heap TO (pre ++ old :: post) →
    (∀ h', ItK t h' i l (k + 1) → TupAt h' TO (pre ++ x :: post) → h'.objs.size = s.heap.objs.size → (∀ c o, c ≠ TO → c ≠ i → s.heap.get? c = some o → h'.get? c = some o) → Q (.yield b0) { s with heap := h' }) →
    wpAny M A (f (.ref i, pre.length) b0) Q E s
theorem draw_all {β : Type} {M : Model} {f : Value × Nat → β → Sem (ForInStep β)} {b0 : β} {TO : Addr} {Q : β → Shared → Prop} (hf : DrawOk M A f b0 TO) (k : Nat) (is : List Addr) :
    ∀ (r : List Src) (ys olds pre : List Value) (s : Shared), AllAt s.heap k is r → Items k r ys → ys.length = olds.length → (pre ++ olds).length ≤ 1000 → is.Nodup → TO ∉ is → (∀ q ∈ r, q.2.1 ≠ TO ∧ q.2.1 ∉ is) → TupAt s.heap TO (pre ++ olds) →
      (∀ h', AllAt h' (k + 1) is r → TupAt h' TO (pre ++ ys) → h'.objs.size = s.heap.objs.size → (∀ c o, c ≠ TO → c ∉ is → s.heap.get? c = some o → h'.get? c = some o) → Q b0 { s with heap := h' }) →
      wpAny M A (forIn ((is.map Value.ref).zipIdx pre.length) b0 f) Q E s := by
  induction is with
  | nil =>
    intro r ys olds pre s ha hy hl _ _ _ _ hT hQ
    cases r with
    | cons _ _ => exact ha.elim
    | nil =>
      cases ys with
      | cons _ _ => exact hy.elim
      | nil =>
        have e : olds = [] := List.length_eq_zero_iff.mp hl.symm
        subst e
        rw [List.map_nil, List.zipIdx_nil, List.forIn_nil]
        exact wpAny_pure (hQ s.heap trivial hT rfl fun _ _ _ _ e => e)
  | cons i is ih =>
    intro r ys olds pre s ha hy hl hbd hn hTO hs hT hQ
    cases r with
    | nil => exact ha.elim
    | cons q r =>
      obtain ⟨t, l, xs⟩ := q
      cases ys with
      | nil => exact hy.elim
      | cons y ys =>
        cases olds with
        | nil => cases hl
        | cons o olds =>
          have ha1 : ItK t s.heap i l k := ha.1
          have ha2 : SqK t s.heap l xs := ha.2.1
          have ha3 : AllAt s.heap k is r := ha.2.2
          have hy1 : xs[k]? = some y := hy.1
          have hy2 : Items k r ys := hy.2
          rw [List.map_cons, List.zipIdx_cons, List.forIn_cons]
          have hni : i ∉ is := (List.nodup_cons.mp hn).1
          have hiT : i ≠ TO := fun e => hTO (e ▸ List.mem_cons_self)
          have hq := hs _ List.mem_cons_self
          have hq1 : l ≠ TO := hq.1
          have hq2 : l ∉ i :: is := hq.2
          refine wpAny_bind (hf s i l t k xs y o pre olds _ E ha1 ha2 hy1 hiT hq1 (fun e => hq2 (e ▸ List.mem_cons_self)) hbd hT fun h1 hi1 hT1 hz1 hk1 => ?_)
          have e1 : pre.length + 1 = (pre ++ [y]).length := by simp
          have hT1' : TupAt h1 TO ((pre ++ [y]) ++ olds) := by
            rw [List.append_assoc]
            exact hT1
          have goal := ih r ys olds (pre ++ [y]) { s with heap := h1 } (ha3.at (fun j hj o e => hk1 j o (fun q => hTO (q ▸ List.mem_cons_of_mem _ hj)) (fun q => hni (q ▸ hj)) e)
            fun q hqm o e => hk1 _ o (hs q (List.mem_cons_of_mem _ hqm)).1 (fun z => (hs q (List.mem_cons_of_mem _ hqm)).2 (z ▸ List.mem_cons_self)) e) hy2 (Nat.succ.inj hl) (by simpa using hbd) (List.nodup_cons.mp hn).2 (fun z => hTO (List.mem_cons_of_mem _ z))
            (fun q hqm => ⟨(hs q (List.mem_cons_of_mem _ hqm)).1, fun z => (hs q (List.mem_cons_of_mem _ hqm)).2 (List.mem_cons_of_mem _ z)⟩) hT1' fun h2 ha2' hT2 hz2 hk2 => ?_
          · rw [← e1] at goal
            exact goal
          · refine hQ h2 ⟨hi1.at fun o e => hk2 i o hiT hni e, ha2.at fun o e => hk2 l o hq1 (fun z => hq2 (List.mem_cons_of_mem _ z)) (hk1 l o hq1 (fun z => hq2 (z ▸ List.mem_cons_self)) e), ha2'⟩ ?_ (hz2.trans hz1) fun c o c1 c2 e => ?_
            · rw [List.append_assoc] at hT2
              exact hT2
            · exact hk2 c o c1 (fun z => c2 (List.mem_cons_of_mem _ z)) (hk1 c o c1 (fun z => c2 (z ▸ List.mem_cons_self)) e)
end
end Zn

set_option Elab.async false
set_option linter.all false
set_option maxRecDepth 100000
set_option maxHeartbeats 1000000
namespace Zn
open PySem PySem.Spec PyProof.Rows L2
open PySem.Sem (wp)
section
variable {prog : Program} {w : World} {A : Around} {E : Value → Shared → Prop} {s : Shared}
theorem fld3 {h : Heap} {TI : Addr} {vs : List Value} : TupAt h TI vs → h.get? TI = some { cls := .type "tuple", data := .seq vs.toArray } := id
/-- one turn of the loop within next -/
theorem next_item {z TI TO : Addr} {is : List Addr} {r : List Src} {k : Nat} {ys olds : List Value} {Q : Value → Shared → Prop} (hne : is ≠ [])
    (hz : IsZip s.heap z TI TO .none) (hTI : TupAt s.heap TI (is.map Value.ref)) (hTO : TupAt s.heap TO olds) (ha : AllAt s.heap k is r) (hy : Items k r ys) (hlo : olds.length = is.length) (hsm : is.length ≤ 1000)
    (hnd : is.Nodup) (hzi : z ∉ is) (hTOi : TO ∉ is) (hzT : z ≠ TO) (hs : ∀ q ∈ r, q.2.1 ≠ TO ∧ q.2.1 ≠ z ∧ q.2.1 ∉ is)
    (hQ : ∀ h', IsZip h' z TI TO (rawInt s.heap.objs.size) → TupAt h' TO ys → AllAt h' (k + 1) is r → TupAt h' s.heap.objs.size ys → h'.objs.size = s.heap.objs.size + 1 →
      (∀ c o, c ≠ z → c ≠ TO → c ∉ is → s.heap.get? c = some o → h'.get? c = some o) → Q (.ref s.heap.objs.size) { s with heap := h' }) :
    wpAny (model prog w) A (Builtin.«zip.__next__» ⟨[.ref z], []⟩) (fun fin s' => ∃ v, fin = .done (.ret v) ∧ Q v s') E s := by
  show wpAny _ _ (field (.ref z) 2 >>= _) _ _ _
  refine wpAny_bind (wpAny_field hz rfl (x := .bool false) rfl ?_)
  show wpAny _ _ (field (.ref z) 3 >>= _) _ _ _
  refine wpAny_bind (wpAny_field hz rfl (x := .ref TI) rfl ?_)
  refine wpAny_bind (wpAny_seqItems hTI rfl ?_)
  have hem : (is.map Value.ref).toArray.isEmpty = false := by
    cases is with
    | nil => exact absurd rfl hne
    | cons _ _ => simp
  simp only [hem, Bool.false_eq_true, if_false]
  refine wpAny_bind ?_
  unfold Builtin.SmallTypes.ownedTupleIsFree
  refine wpAny_bind (wpAny_field hz rfl (x := .none) rfl (wpAny_pure ?_))
  simp only [if_true]
  refine wpAny_bind (wpAny_rule ?_)
  refine wpAny_bind (wpAny_field hz rfl (x := .ref TO) rfl ?_)
  refine wpAny_bind (wpAny_setField_rec hz (by simp) fun g1 hz1 hs1 => ?_)
  replace hz1 : IsZip g1 z TI TO .ellipsis := hz1
  have up1 : ∀ c o, c ≠ z → s.heap.get? c = some o → g1.get? c = some o := fun c o c1 e => hs1.extBut _ _ c1 e
  have ha1 : AllAt g1 k is r := ha.at (fun i hi o e => up1 i o (fun q => hzi (q ▸ hi)) e) fun q hq o e => up1 _ o (hs q hq).2.1 e
  have hly : ys.length = olds.length := by rw [hlo, ha.len, ← hy.len]
  refine wpAny_bind ?_
  refine draw_all (M := model prog w) (A := A) (E := E) (b0 := (none, ())) (TO := TO) (Q := _) ?hf k is r ys olds [] { s with heap := g1 } ha1 hy hly (by simpa [hlo] using hsm) hnd hTOi (fun q hq => ⟨(hs q hq).1, (hs q hq).2.2⟩) (up1 TO _ hzT.symm hTO) ?hq
  case hf =>
    intro s2 i l t k2 xs x old pre post Q2 E2 hi hl hx hiT hlT hli hbd hT2 kq
    show wpAny _ _ (((Builtin.SmallTypes.nextOf (.ref i) >>= fun v => pure (some v)).onRaise _) >>= _) _ _ _
    refine wpAny_bind (wpAny_onRaise ?_)
    refine wpAny_bind (nextOf_item hi hl hx fun g2 hi2 hs2 => wpAny_pure ?_)
    have hT3 : TupAt g2 TO (pre ++ old :: post) := hs2.extBut _ _ hiT.symm hT2
    refine wpAny_bind (wpAny_seqItems hT3 rfl ?_)
    have hb2 : (pre ++ old :: post).length ≤ sizeLine := Nat.le_trans hbd (by decide)
    refine wpAny_bind (wpAny_updateSeq hT3 rfl ?_ (by rw [List.size_toArray]; exact hb2) (by rw [Array.size_setIfInBounds, List.size_toArray]; exact Nat.le_succ_of_le hb2))
    refine wpAny_bind (wpAny_letGo (wpAny_pure ?_))
    have hup : Heap.SameBut TO g2 (g2.update TO (Obj.mapSeq fun v => v.setIfInBounds pre.length x)) := Heap.SameBut.update ..
    refine kq _ (hi2.at fun o e => hup.extBut _ _ hiT e) ?_ (hup.1.trans hs2.1) fun c o c1 c2 e => hup.extBut _ _ c1 (hs2.extBut _ _ c2 e)
    show (g2.update TO _).get? TO = _
    rw [Heap.get?_update_self _ hT3 rfl]
    simp [Obj.mapSeq, List.set_append]
  case hq =>
    intro g2 ha2 hT2 hz2 hk2
    refine wpAny_bind (wpAny_seqItems hT2 rfl ?_)
    have hyl : ys.length ≤ sizeLine := Nat.le_trans (by rw [hly, hlo]; exact hsm) (by decide)
    refine wpAny_bind (wpAny_newTuple ?_ (by simpa using hyl))
    have hsz : g2.objs.size = s.heap.objs.size := hz2.trans hs1.1
    have hz3 : IsZip g2 z TI TO .ellipsis := hk2 z _ hzT hzi hz1
    have hzlt : z < g2.objs.size := Heap.lt_size hz3
    have hTlt : TO < g2.objs.size := Heap.lt_size hT2
    show wpAny _ _ (Builtin.SmallTypes.ownedTupleHandOut (.ref z) (.ref g2.objs.size) >>= _) _ _ _
    refine wpAny_bind ?_
    unfold Builtin.SmallTypes.ownedTupleHandOut
    have hz4 : IsZip (g2.push { cls := .type "tuple", data := .seq ([] ++ ys).toArray.toList.toArray }) z TI TO .ellipsis := Heap.get?_push_of_some _ hz3
    refine wpAny_bind (wpAny_setField_rec hz4 (by simp) fun g5 hz5 hs5 => ?_)
    replace hz5 : IsZip g5 z TI TO (rawInt g2.objs.size) := hz5
    refine wpAny_setField_rec hz5 (by simp) fun g6 hz6 hs6 => ?_
    replace hz6 : IsZip g6 z TI TO (rawInt g2.objs.size) := hz6
    have up : ∀ c o, c ≠ z → g2.get? c = some o → g6.get? c = some o := fun c o c1 e => hs6.extBut _ _ c1 (hs5.extBut _ _ c1 (Heap.get?_push_of_some _ e))
    have hnew : TupAt g6 g2.objs.size ys := by
      have e := hs6.extBut _ _ (Nat.ne_of_gt hzlt) (hs5.extBut _ _ (Nat.ne_of_gt hzlt) (Heap.get?_push_size g2 (o := { cls := .type "tuple", data := .seq ([] ++ ys).toArray.toList.toArray }) rfl))
      simpa using e
    have hs8 : g6.objs.size = g2.objs.size + 1 := by rw [hs6.1, hs5.1, Heap.size_push]
    have hT6 : TupAt g6 TO ys := up TO _ hzT.symm hT2
    rw [hsz] at hz6 hnew hs8
    refine wpAny_pure ⟨_, rfl, ?_⟩
    show Q (.ref g2.objs.size) _
    rw [hsz]
    exact hQ g6 hz6 hT6 (ha2.at (fun i hi o e => up i o (fun q => hzi (q ▸ hi)) e) fun q hq o e => up _ o (hs q hq).2.1 e) hnew hs8 fun c o c1 c2 c3 e => up c o c1 (hk2 c o c2 c3 (up1 c o c1 e))
end
end Zn

set_option Elab.async false
set_option linter.all false
set_option maxRecDepth 100000
set_option maxHeartbeats 1000000
namespace Zn
open PySem PySem.Spec PyProof.Rows L2
open PySem.Sem (wp)
def StopAt (h : Heap) (e : Addr) : Prop := ∃ o, h.get? e = some o ∧ o.cls = .type "StopIteration"
/-- an exhausted sequence ends the loop's body -/
def StopOk (M : Model) (A : Around) {β : Type} (f : Value × Nat → β → Sem (ForInStep β)) (b0 : β) (z TI TO : Addr) : Prop :=
  ∀ (s : Shared) (i l : Addr) (t : Bool) (k j : Nat) (xs : Array Value) (Q : ForInStep β → Shared → Prop) (E : Value → Shared → Prop), ItK t s.heap i l k → SqK t s.heap l xs → xs[k]? = none → i ≠ z → IsZip s.heap z TI TO .ellipsis →
    (∀ h' e, (∀ c o, c ≠ z → c ≠ i → s.heap.get? c = some o → h'.get? c = some o) → StopAt h' e → E (.ref e) { s with heap := h' }) → wpAny M A (f (.ref i, j) b0) Q E s
section
variable {prog : Program} {w : World} {A : Around} {E : Value → Shared → Prop} {s : Shared}
theorem stop_all {β : Type} {M : Model} {f : Value × Nat → β → Sem (ForInStep β)} {b0 : β} {z TI TO : Addr} {Q : β → Shared → Prop} (hf : DrawOk M A f b0 TO) (hg : StopOk M A f b0 z TI TO) (k : Nat) (is : List Addr) :
    ∀ (r : List Src) (olds pre : List Value) (s : Shared), AllAt s.heap k is r → (∃ q ∈ r, q.2.2[k]? = none) → r.length = olds.length → (pre ++ olds).length ≤ 1000 → is.Nodup → TO ∉ is → z ∉ is → z ≠ TO → (∀ q ∈ r, q.2.1 ≠ TO ∧ q.2.1 ∉ is) →
      IsZip s.heap z TI TO .ellipsis → TupAt s.heap TO (pre ++ olds) →
      (∀ h' e, (∀ c o, c ≠ z → c ≠ TO → c ∉ is → s.heap.get? c = some o → h'.get? c = some o) → StopAt h' e → E (.ref e) { s with heap := h' }) →
      wpAny M A (forIn ((is.map Value.ref).zipIdx pre.length) b0 f) Q E s := by
  induction is with
  | nil =>
    intro r olds pre s ha hy _ _ _ _ _ _ _ _ _ _
    cases r with
    | cons _ _ => exact ha.elim
    | nil => obtain ⟨q, hq, _⟩ := hy; cases hq
  | cons i is ih =>
    intro r olds pre s ha hy hl hbd hn hTO hzi hzT hs hz hT hE
    cases r with
    | nil => exact ha.elim
    | cons q r =>
      obtain ⟨t, l, xs⟩ := q
      cases olds with
      | nil => cases hl
      | cons o olds =>
        have ha1 : ItK t s.heap i l k := ha.1
        have ha2 : SqK t s.heap l xs := ha.2.1
        have ha3 : AllAt s.heap k is r := ha.2.2
        rw [List.map_cons, List.zipIdx_cons, List.forIn_cons]
        have hni : i ∉ is := (List.nodup_cons.mp hn).1
        have hiT : i ≠ TO := fun e => hTO (e ▸ List.mem_cons_self)
        have hiz : i ≠ z := fun e => hzi (e ▸ List.mem_cons_self)
        have hq := hs _ List.mem_cons_self
        have hq1 : l ≠ TO := hq.1
        have hq2 : l ∉ i :: is := hq.2
        cases hx : xs[k]? with
        | none =>
          exact wpAny_bind (hg s i l t k _ xs _ _ ha1 ha2 hx hiz hz fun h' e hk he => hE h' e (fun c o c1 c2 c3 x => hk c o c1 (fun q => c3 (q ▸ List.mem_cons_self)) x) he)
        | some y =>
          have hy2 : ∃ q ∈ r, q.2.2[k]? = none := by
            obtain ⟨q, hq, e⟩ := hy
            rcases List.mem_cons.mp hq with rfl | hq
            · rw [hx] at e; cases e
            · exact ⟨q, hq, e⟩
          refine wpAny_bind (hf s i l t k xs y o pre olds _ E ha1 ha2 hx hiT hq1 (fun e => hq2 (e ▸ List.mem_cons_self)) hbd hT fun h1 hi1 hT1 hz1 hk1 => ?_)
          have e1 : pre.length + 1 = (pre ++ [y]).length := by simp
          have hT1' : TupAt h1 TO ((pre ++ [y]) ++ olds) := by
            rw [List.append_assoc]
            exact hT1
          have goal := ih r olds (pre ++ [y]) { s with heap := h1 } (ha3.at (fun j hj o e => hk1 j o (fun q => hTO (q ▸ List.mem_cons_of_mem _ hj)) (fun q => hni (q ▸ hj)) e)
            fun q hqm o e => hk1 _ o (hs q (List.mem_cons_of_mem _ hqm)).1 (fun z => (hs q (List.mem_cons_of_mem _ hqm)).2 (z ▸ List.mem_cons_self)) e) hy2 (Nat.succ.inj hl) (by simpa using hbd) (List.nodup_cons.mp hn).2 (fun z => hTO (List.mem_cons_of_mem _ z))
            (fun q => hzi (List.mem_cons_of_mem _ q)) hzT (fun q hqm => ⟨(hs q (List.mem_cons_of_mem _ hqm)).1, fun z => (hs q (List.mem_cons_of_mem _ hqm)).2 (List.mem_cons_of_mem _ z)⟩) (hk1 z _ hzT hiz.symm hz) hT1' fun h2 e hk2 he =>
              hE h2 e (fun c o c1 c2 c3 x => hk2 c o c1 c2 (fun q => c3 (List.mem_cons_of_mem _ q)) (hk1 c o c2 (fun q => c3 (q ▸ List.mem_cons_self)) x)) he
          rw [← e1] at goal
          exact goal
theorem draw_ok {z TO : Addr} {i : Addr} {l : Addr} {t : Bool} {k : Nat} {xs : Array Value} {x old : Value} {pre post : List Value} {γ : Type} {c : Value → Sem γ} {kf : Value → Sem Unit} {Q : γ → Shared → Prop} (hi : ItK t s.heap i l k) (hl : SqK t s.heap l xs) (hx : xs[k]? = some x) (hiT : i ≠ TO)
    (hbd : (pre ++ old :: post).length ≤ 1000) (hT2 : TupAt s.heap TO (pre ++ old :: post))
    (kq : ∀ h', ItK t h' i l (k + 1) → TupAt h' TO (pre ++ old :: post) → h'.objs.size = s.heap.objs.size → (∀ c o, c ≠ i → s.heap.get? c = some o → h'.get? c = some o) → wpAny (model prog w) A (c x) Q E { s with heap := h' }) :
    wpAny (model prog w) A (((Builtin.SmallTypes.nextOf (.ref i) >>= fun v => pure v).onRaise kf) >>= c) Q E s := by
  refine wpAny_bind (wpAny_onRaise ?_)
  refine wpAny_bind (nextOf_item hi hl hx fun g2 hi2 hs2 => wpAny_pure ?_)
  exact kq g2 hi2 (hs2.extBut _ _ hiT.symm hT2) hs2.1 fun c o c1 e => hs2.extBut _ _ c1 e
/-- the turn at which some sequence has come to its end -/
theorem next_stop {z TI TO : Addr} {is : List Addr} {r : List Src} {k : Nat} {olds : List Value} {Q : Fin → Shared → Prop} (hh : A.handled = none) (hne : is ≠ [])
    (hz : IsZip s.heap z TI TO .none) (hTI : TupAt s.heap TI (is.map Value.ref)) (hTO : TupAt s.heap TO olds) (ha : AllAt s.heap k is r) (hy : ∃ q ∈ r, q.2.2[k]? = none) (hlo : olds.length = is.length) (hsm : is.length ≤ 1000)
    (hnd : is.Nodup) (hzi : z ∉ is) (hTOi : TO ∉ is) (hzT : z ≠ TO) (hs : ∀ q ∈ r, q.2.1 ≠ TO ∧ q.2.1 ≠ z ∧ q.2.1 ∉ is)
    (hE : ∀ h' e, (∀ c o, c ≠ z → c ≠ TO → c ∉ is → s.heap.get? c = some o → h'.get? c = some o) → StopAt h' e → E (.ref e) { s with heap := h' }) :
    wpAny (model prog w) A (Builtin.«zip.__next__» ⟨[.ref z], []⟩) Q E s := by
  show wpAny _ _ (field (.ref z) 2 >>= _) _ _ _
  refine wpAny_bind (wpAny_field hz rfl (x := .bool false) rfl ?_)
  show wpAny _ _ (field (.ref z) 3 >>= _) _ _ _
  refine wpAny_bind (wpAny_field hz rfl (x := .ref TI) rfl ?_)
  refine wpAny_bind (wpAny_seqItems hTI rfl ?_)
  have hem : (is.map Value.ref).toArray.isEmpty = false := by
    cases is with
    | nil => exact absurd rfl hne
    | cons _ _ => simp
  simp only [hem, Bool.false_eq_true, if_false]
  refine wpAny_bind ?_
  unfold Builtin.SmallTypes.ownedTupleIsFree
  refine wpAny_bind (wpAny_field hz rfl (x := .none) rfl (wpAny_pure ?_))
  simp only [if_true]
  refine wpAny_bind (wpAny_rule ?_)
  refine wpAny_bind (wpAny_field hz rfl (x := .ref TO) rfl ?_)
  refine wpAny_bind (wpAny_setField_rec hz (by simp) fun g1 hz1 hs1 => ?_)
  replace hz1 : IsZip g1 z TI TO .ellipsis := hz1
  have up1 : ∀ c o, c ≠ z → s.heap.get? c = some o → g1.get? c = some o := fun c o c1 e => hs1.extBut _ _ c1 e
  have ha1 : AllAt g1 k is r := ha.at (fun i hi o e => up1 i o (fun q => hzi (q ▸ hi)) e) fun q hq o e => up1 _ o (hs q hq).2.1 e
  refine wpAny_bind ?_
  refine stop_all (M := model prog w) (A := A) (E := E) (b0 := (none, ())) (z := z) (TI := TI) (TO := TO) (Q := _) ?hf ?hg k is r olds [] { s with heap := g1 } ha1 hy (by rw [hlo, ha.len]) (by simpa [hlo] using hsm) hnd hTOi hzi hzT (fun q hq => ⟨(hs q hq).1, (hs q hq).2.2⟩) hz1 (up1 TO _ hzT.symm hTO)
    fun h' e hk he => hE h' e (fun c o c1 c2 c3 x => hk c o c1 c2 c3 (up1 c o c1 x)) he
  case hf =>
    intro s2 i l t k2 xs x old pre post Q2 E2 hi hl hx hiT hlT hli hbd hT2 kq
    show wpAny _ _ (((Builtin.SmallTypes.nextOf (.ref i) >>= fun v => pure (some v)).onRaise _) >>= _) _ _ _
    refine wpAny_bind (wpAny_onRaise ?_)
    refine wpAny_bind (nextOf_item hi hl hx fun g2 hi2 hs2 => wpAny_pure ?_)
    have hT3 : TupAt g2 TO (pre ++ old :: post) := hs2.extBut _ _ hiT.symm hT2
    refine wpAny_bind (wpAny_seqItems hT3 rfl ?_)
    have hb2 : (pre ++ old :: post).length ≤ sizeLine := Nat.le_trans hbd (by decide)
    refine wpAny_bind (wpAny_updateSeq hT3 rfl ?_ (by rw [List.size_toArray]; exact hb2) (by rw [Array.size_setIfInBounds, List.size_toArray]; exact Nat.le_succ_of_le hb2))
    refine wpAny_bind (wpAny_letGo (wpAny_pure ?_))
    have hup : Heap.SameBut TO g2 (g2.update TO (Obj.mapSeq fun v => v.setIfInBounds pre.length x)) := Heap.SameBut.update ..
    refine kq _ (hi2.at fun o e => hup.extBut _ _ hiT e) ?_ (hup.1.trans hs2.1) fun c o c1 c2 e => hup.extBut _ _ c1 (hs2.extBut _ _ c2 e)
    show (g2.update TO _).get? TO = _
    rw [Heap.get?_update_self _ hT3 rfl]
    simp [Obj.mapSeq, List.set_append]
  case hg =>
    intro s2 i l t k2 j xs Q2 E2 hi hl hx hiz hz2 ke
    show wpAny _ _ (((Builtin.SmallTypes.nextOf (.ref i) >>= fun v => pure (some v)).onRaise _) >>= _) _ _ _
    refine wpAny_bind (wpAny_onRaise ?_)
    refine wpAny_bind (nextOf_end hh hi hl hx fun g2 e hs2 he => ?_)
    obtain ⟨oe, hoe, hce⟩ := he
    have hz3 : IsZip g2 z TI TO .ellipsis := hs2 _ _ hiz.symm hz2
    have hez : e ≠ z := fun x => by subst x; rw [hz3] at hoe; cases hoe; simp at hce
    exact wpAny_setField_rec hz3 (by simp) fun g3 _ hs3 => ke g3 e (fun c o c1 c2 x => hs3.extBut _ _ c1 (hs2 _ _ c2 x)) ⟨oe, hs3.extBut _ _ hez hoe, hce⟩
theorem pyNext_item {z TI TO : Addr} {is : List Addr} {r : List Src} {k : Nat} {ys olds : List Value} {Q : Option Value → Shared → Prop} (hne : is ≠ [])
    (hz : IsZip s.heap z TI TO .none) (hTI : TupAt s.heap TI (is.map Value.ref)) (hTO : TupAt s.heap TO olds) (ha : AllAt s.heap k is r) (hy : Items k r ys) (hlo : olds.length = is.length) (hsm : is.length ≤ 1000)
    (hnd : is.Nodup) (hzi : z ∉ is) (hTOi : TO ∉ is) (hzT : z ≠ TO) (hs : ∀ q ∈ r, q.2.1 ≠ TO ∧ q.2.1 ≠ z ∧ q.2.1 ∉ is)
    (hQ : ∀ h', IsZip h' z TI TO (rawInt s.heap.objs.size) → TupAt h' TO ys → AllAt h' (k + 1) is r → TupAt h' s.heap.objs.size ys → h'.objs.size = s.heap.objs.size + 1 →
      (∀ c o, c ≠ z → c ≠ TO → c ∉ is → s.heap.get? c = some o → h'.get? c = some o) → Q (some (.ref s.heap.objs.size)) { s with heap := h' }) : wpAny (model prog w) A (pyNext (.ref z)) Q E s := by
  have ty : s.TypeIs (.ref z) "zip" := ⟨_, hz, rfl⟩
  unfold pyNext
  refine wpAny_bind (wpAny_attempt (wpAny_callSpecial?_slot (name := Str.ofString "__next__") ty F.slot_zip_next ?_))
  exact wpAny_call_entry F.slot_zip_next ty F.entry_zip_next (next_item hne hz hTI hTO ha hy hlo hsm hnd hzi hTOi hzT hs fun h' b1 b2 b3 b4 b5 b6 => wpAny_pure (hQ h' b1 b2 b3 b4 b5 b6)) (F.args_zip_next_1 _)
theorem pyNext_stop {z TI TO : Addr} {is : List Addr} {r : List Src} {k : Nat} {olds : List Value} {Q : Option Value → Shared → Prop} (hh : A.handled = none) (hne : is ≠ [])
    (hz : IsZip s.heap z TI TO .none) (hTI : TupAt s.heap TI (is.map Value.ref)) (hTO : TupAt s.heap TO olds) (ha : AllAt s.heap k is r) (hy : ∃ q ∈ r, q.2.2[k]? = none) (hlo : olds.length = is.length) (hsm : is.length ≤ 1000)
    (hnd : is.Nodup) (hzi : z ∉ is) (hTOi : TO ∉ is) (hzT : z ≠ TO) (hs : ∀ q ∈ r, q.2.1 ≠ TO ∧ q.2.1 ≠ z ∧ q.2.1 ∉ is)
    (hQ : ∀ h', (∀ c o, c ≠ z → c ≠ TO → c ∉ is → s.heap.get? c = some o → h'.get? c = some o) → Q none { s with heap := h' }) : wpAny (model prog w) A (pyNext (.ref z)) Q E s := by
  have ty : s.TypeIs (.ref z) "zip" := ⟨_, hz, rfl⟩
  unfold pyNext
  refine wpAny_bind (wpAny_attempt (wpAny_callSpecial?_slot (name := Str.ofString "__next__") ty F.slot_zip_next ?_))
  refine wpAny_call_entry F.slot_zip_next ty F.entry_zip_next (next_stop hh hne hz hTI hTO ha hy hlo hsm hnd hzi hTOi hzT hs fun h' e hk he => ?_) (F.args_zip_next_1 _)
  obtain ⟨o, ho, hc⟩ := he
  exact wpAny_bind (wpAny_isInstance (T := "StopIteration") (b := true) ⟨o, ho, hc⟩ isSubtype_stop (wpAny_pure (hQ _ hk)))
end
end Zn

set_option Elab.async false
set_option linter.all false
set_option maxRecDepth 100000
set_option maxHeartbeats 1000000
namespace Zn
open PySem PySem.Spec PyProof.Rows L2
open PySem.Sem (wp)
/-- the sequences stand -/
def Srcs (h : Heap) : List Src → Prop
  | [] => True
  | (t, l, xs) :: r => SqK t h l xs ∧ Srcs h r
theorem Srcs.at {h h' : Heap} : ∀ {r : List Src}, Srcs h r → (∀ q ∈ r, ∀ o, h.get? q.2.1 = some o → h'.get? q.2.1 = some o) → Srcs h' r
  | [], _, _ => trivial
  | (t, l, xs) :: r, x, e => ⟨x.1.at (e _ List.mem_cons_self), Srcs.at x.2 fun q hq => e q (List.mem_cons_of_mem _ hq)⟩
/-- the new iterators -/
def news (n : Nat) : List Src → List Addr
  | [] => []
  | _ :: r => n :: news (n + 1) r
theorem news_len (n : Nat) (r : List Src) : (news n r).length = r.length := by
  induction r generalizing n with
  | nil => rfl
  | cons q r ih => show (news (n + 1) r).length + 1 = r.length + 1; rw [ih]
theorem news_mem {r : List Src} {n i : Nat} (h : i ∈ news n r) : n ≤ i ∧ i < n + r.length := by
  induction r generalizing n with
  | nil => cases h
  | cons q r ih =>
    rcases List.mem_cons.mp h with rfl | h
    · exact ⟨Nat.le_refl _, by simp⟩
    · have := ih h
      rw [List.length_cons]
      omega
theorem news_nodup (r : List Src) (n : Nat) : (news n r).Nodup := by
  induction r generalizing n with
  | nil => exact List.nodup_nil
  | cons q r ih => exact List.nodup_cons.mpr ⟨fun h => absurd (news_mem h).1 (by omega), ih _⟩
section
variable {prog : Program} {w : World} {A : Around} {E : Value → Shared → Prop}
theorem iters_all (f : Value → Array Value → Sem (ForInStep (Array Value))) (hf : ∀ v acc, f v acc = (do let i ← holding acc.toList (pyIter v); pure (.yield (acc.push i)))) (r : List Src) :
    ∀ (acc : Array Value) (s : Shared) (Q : Array Value → Shared → Prop), Srcs s.heap r →
      (∀ h', AllAt h' 0 (news s.heap.objs.size r) r → h'.objs.size = s.heap.objs.size + r.length → (∀ c o, s.heap.get? c = some o → h'.get? c = some o) → Q (acc ++ ((news s.heap.objs.size r).map Value.ref).toArray) { s with heap := h' }) →
      wpAny (model prog w) A (forIn (r.map fun q => Value.ref q.2.1) acc f) Q E s := by
  induction r with
  | nil =>
    intro acc s Q _ hQ
    rw [List.map_nil, List.forIn_nil]
    have := hQ s.heap trivial rfl fun _ _ e => e
    exact wpAny_pure (by simpa [news] using this)
  | cons q r ih =>
    intro acc s Q hs hQ
    obtain ⟨t, l, xs⟩ := q
    have h1 : SqK t s.heap l xs := hs.1
    have h2 : Srcs s.heap r := hs.2
    rw [List.map_cons, List.forIn_cons, hf]
    refine wpAny_bind (wpAny_bind (wpAny_holding (pyIter_K h1 fun g hi hz hk => wpAny_pure ?_)))
    refine ih (acc.push (.ref s.heap.objs.size)) { s with heap := g } Q (h2.at fun q _ o e => hk _ o e) fun g2 ha hz2 hk2 => ?_
    have hz2' : g2.objs.size = g.objs.size + r.length := hz2
    have ha' : AllAt g2 0 (news g.objs.size r) r := ha
    have e : g.objs.size = s.heap.objs.size + 1 := hz
    rw [e] at ha' hz2'
    have fin := hQ g2 ⟨hi.at fun o e => hk2 _ o e, (h1.at fun o e => hk _ o e).at fun o e => hk2 _ o e, ha'⟩ (by rw [hz2', List.length_cons]; omega) fun c o x => hk2 c o (hk c o x)
    show Q _ _
    have e3 : (acc.push (Value.ref s.heap.objs.size) ++ ((news g.objs.size r).map Value.ref).toArray) = (acc ++ ((news s.heap.objs.size ((t, l, xs) :: r)).map Value.ref).toArray) := by
      rw [e]
      simp [news, Array.append_assoc]
    rw [show (({ s with heap := g } : Shared).heap) = g from rfl, e3]
    exact fin
/-- what zip(..) leaves -/
structure Made (h h' : Heap) (r : List Src) : Prop where
  zr : IsZip h' (h.objs.size + r.length + 2) (h.objs.size + r.length) (h.objs.size + r.length + 1) .none
  ti : TupAt h' (h.objs.size + r.length) ((news h.objs.size r).map Value.ref)
  to : TupAt h' (h.objs.size + r.length + 1) (r.map fun _ => Value.none)
  all : AllAt h' 0 (news h.objs.size r) r
  sz : h'.objs.size = h.objs.size + r.length + 3
  kp : ∀ c o, h.get? c = some o → h'.get? c = some o
theorem made_of {h g : Heap} {r : List Src} (ha : AllAt g 0 (news h.objs.size r) r) (hz : g.objs.size = h.objs.size + r.length) (hk : ∀ c o, h.get? c = some o → g.get? c = some o) {o1 o2 o3 : Obj}
    (e1 : o1 = { cls := .type "tuple", data := .seq ((news h.objs.size r).map Value.ref).toArray }) (e2 : o2 = { cls := .type "tuple", data := .seq (r.map fun _ => Value.none).toArray })
    (e3 : o3 = { cls := .type "zip", data := .fields #[.none, .bool false, .bool false, .ref g.objs.size, .ref (g.push o1).objs.size] }) : Made h (((g.push o1).push o2).push o3) r := by
  have s1 : (g.push o1).objs.size = g.objs.size + 1 := Heap.size_push ..
  have s2 : ((g.push o1).push o2).objs.size = g.objs.size + 2 := by rw [Heap.size_push, s1]
  have s3 : (((g.push o1).push o2).push o3).objs.size = g.objs.size + 3 := by rw [Heap.size_push, s2]
  have g1 : (((g.push o1).push o2).push o3).get? g.objs.size = some o1 := Heap.get?_push_of_some _ (Heap.get?_push_of_some _ (Heap.get?_push_size _ (by rw [e1]; rfl)))
  have g2 : (((g.push o1).push o2).push o3).get? (g.push o1).objs.size = some o2 := Heap.get?_push_of_some _ (Heap.get?_push_size _ (by rw [e2]; rfl))
  have g3 : (((g.push o1).push o2).push o3).get? ((g.push o1).push o2).objs.size = some o3 := Heap.get?_push_size _ (by rw [e3]; rfl)
  have kp : ∀ c o, g.get? c = some o → (((g.push o1).push o2).push o3).get? c = some o := fun c o e => Heap.get?_push_of_some _ (Heap.get?_push_of_some _ (Heap.get?_push_of_some _ e))
  rw [s1, hz] at g2
  rw [hz] at g1
  have e3' : o3 = { cls := .type "zip", data := .fields #[.none, .bool false, .bool false, .ref (h.objs.size + r.length), .ref (h.objs.size + r.length + 1)] } := by rw [e3, s1, hz]
  rw [s2, hz] at g3
  rw [e3] at e3'
  exact ⟨g3.trans (congrArg some (e3.trans e3')), g1.trans (congrArg some e1), g2.trans (congrArg some e2), ha.at (fun i _ o e => kp i o e) fun q _ o e => kp _ o e, by rw [s3, hz], fun c o e => kp c o (hk c o e)⟩
theorem zip_new (r : List Src) (hsm : r.length ≤ 1000) : Meets (Builtin.«zip.__new__» ⟨.type "zip" :: r.map fun q => Value.ref q.2.1, []⟩) (fun _ R s => Srcs s.heap r ∧ ∀ h', Made s.heap h' r → R (.ok (.ret (.ref (s.heap.objs.size + r.length + 2)))) { s with heap := h' }) :=
  .of_wp fun prog w A R s h => by
    obtain ⟨hs, h⟩ := h
    have hsub := sub_zip
    unfold Builtin.«zip.__new__»
    have hc : Builtin.SmallTypes.newClass "zip" ⟨.type "zip" :: r.map fun q => Value.ref q.2.1, []⟩ = pure (Value.type "zip", r.map fun q => Value.ref q.2.1) := by
      unfold Builtin.SmallTypes.newClass
      simp only [isType, sub_zip]
      rfl
    rw [hc]
    refine wpAny_bind (wpAny_pure ?_)
    dsimp only
    refine wpAny_bind ?_
    unfold Builtin.SmallTypes.iterAll
    refine wpAny_bind (iters_all _ (fun v acc => rfl) r #[] s _ hs fun g ha hz hk => wpAny_pure ?_)
    have e0 : (#[] ++ ((news s.heap.objs.size r).map Value.ref).toArray).toList = (news s.heap.objs.size r).map Value.ref := by simp
    rw [e0]
    have lsz : r.length ≤ sizeLine := Nat.le_trans hsm (by decide)
    refine wpAny_bind (wpAny_newTuple ?_ (by rw [List.length_map, news_len]; exact lsz))
    refine wpAny_bind (wpAny_newTuple ?_ (by rw [List.length_map, List.length_map, news_len]; exact lsz))
    refine wpAny_bind ?_
    show wpAny _ _ (newObj (.type "zip") (.fields #[.none, .bool false, .bool false, _, _])) _ _ _
    refine wpAny_newObj_type ?_
    refine wpAny_pure ⟨_, rfl, ?_⟩
    have nn : ((news s.heap.objs.size r).map Value.ref).map (fun _ => Value.none) = r.map fun _ => Value.none := by
      rw [List.map_map]
      refine List.ext_getElem (by simp [news_len]) fun i _ _ => by simp
    have z1 : g.objs.size = s.heap.objs.size + r.length := hz
    have fin := h _ (made_of ha hz hk rfl rfl rfl)
    have zz : ∀ o1 o2 : Obj, ((g.push o1).push o2).objs.size = s.heap.objs.size + r.length + 2 := fun o1 o2 => by rw [Heap.size_push, Heap.size_push, z1]
    show R (.ok (.ret (.ref ((g.push _).push _).objs.size))) _
    rw [zz, nn]
    exact fin
end
end Zn

set_option Elab.async false
set_option linter.all false
set_option maxRecDepth 100000
set_option maxHeartbeats 1000000
namespace Zn
open PySem PySem.Spec PyProof.Rows L2
open PySem.Sem (wp)
/-- the iterators alone -/
def ItsAt (h : Heap) (k : Nat) : List Addr → List (Bool × Addr) → Prop
  | [], [] => True
  | i :: is, (t, l) :: r => ItK t h i l k ∧ ItsAt h k is r
  | _, _ => False
theorem ItsAt.at {h h' : Heap} {k : Nat} : ∀ {is : List Addr} {r : List (Bool × Addr)}, ItsAt h k is r → (∀ i ∈ is, ∀ o, h.get? i = some o → h'.get? i = some o) → ItsAt h' k is r
  | [], [], _, _ => trivial
  | i :: is, (t, l) :: r, x, e1 => ⟨x.1.at (e1 i List.mem_cons_self), ItsAt.at x.2 (fun j hj => e1 j (List.mem_cons_of_mem _ hj))⟩
theorem ItsAt.ob {h : Heap} {k : Nat} : ∀ {is : List Addr} {r : List (Bool × Addr)}, ItsAt h k is r → ∀ i ∈ is, ∃ o l, h.get? i = some o ∧ o.data = .fields #[.ref l, .int k 0]
  | i :: is, (t, l) :: r, x, j, hj => by
    rcases List.mem_cons.mp hj with rfl | hj
    · obtain ⟨o, ho, _, hd⟩ := x.1.rec_
      exact ⟨o, l, ho, hd⟩
    · exact ItsAt.ob x.2 j hj
theorem ItsAt.len {h : Heap} {k : Nat} : ∀ {is : List Addr} {r : List (Bool × Addr)}, ItsAt h k is r → is.length = r.length
  | [], [], _ => rfl
  | _ :: _, _ :: _, x => by rw [List.length_cons, List.length_cons, ItsAt.len x.2]
def bare (r : List Src) : List (Bool × Addr) := r.map fun q => (q.1, q.2.1)
theorem AllAt.its {h : Heap} {k : Nat} : ∀ {is : List Addr} {r : List Src}, AllAt h k is r → ItsAt h k is (bare r)
  | [], [], _ => trivial
  | _ :: _, (_, _, _) :: _, x => ⟨x.1, AllAt.its x.2.2⟩
theorem allAt_of {h : Heap} {k : Nat} : ∀ {is : List Addr} {r : List Src}, ItsAt h k is (bare r) → Srcs h r → AllAt h k is r
  | [], [], _, _ => trivial
  | _ :: _, (_, _, _) :: _, x, y => ⟨x.1, y.1, allAt_of x.2 y.2⟩

/-! ### over the abstract heap -/
def SqV (K : PySem.W.Frag) (H : Hp) (t : Bool) (a : Addr) (xs : List V) : Prop := cond t (SqT K H a xs) (SqL K H a xs)
/-- what stands at the i-th places -/
def RowAt (K : PySem.W.Frag) (H : Hp) (i : Nat) : List (Bool × Addr) → List V → Prop
  | [], [] => True
  | (t, a) :: r, y :: ys => (∃ xs, SqV K H t a xs ∧ xs[i]? = some y) ∧ RowAt K H i r ys
  | _, _ => False
def AllSq (K : PySem.W.Frag) (H : Hp) (src : List (Bool × Addr)) : Prop := ∀ q ∈ src, ∃ xs, SqV K H q.1 q.2 xs
def Itn (K : PySem.W.Frag) (src : List (Bool × Addr)) : It :=
  ⟨fun i H => ∃ ys, RowAt K H i src ys, fun i H v H' => ∃ T ys, v = .ref T ∧ H T = none ∧ H' = upd H T (.tup ys) ∧ ∀ zs, RowAt K H i src zs → zs = ys,
    fun i H => AllSq K H src ∧ ∃ q ∈ src, ∃ xs, SqV K H q.1 q.2 xs ∧ xs.length ≤ i⟩
section
variable {X : Cx} {pins : List (Addr × Obj)} {σ : L2.St} {H : Hp} {s : Shared}
theorem sqv_ob (I : Inv X pins σ H s) {t : Bool} {a : Addr} {xs : List V} (h : SqV X.K H t a xs) : ∃ its : List Value, Vals xs its ∧ SqK t s.heap a its.toArray ∧ xs.length ≤ sizeLine := by
  cases t with
  | true =>
    obtain ⟨its, r, p, z⟩ := I.tuple h
    exact ⟨its, r, p, z⟩
  | false =>
    obtain ⟨its, r, p, z⟩ := I.list h
    exact ⟨its, r, p.isList, z⟩
theorem sqv_inj (I : Inv X pins σ H s) {t : Bool} {a : Addr} {xs ys : List V} (h : SqV X.K H t a xs) (h' : SqV X.K H t a ys) : xs = ys := by
  cases t with
  | true => exact I.tuple_inj h h'
  | false => exact I.list_inj h h'
theorem row_inj (I : Inv X pins σ H s) {i : Nat} : ∀ {src : List (Bool × Addr)} {ys zs : List V}, RowAt X.K H i src ys → RowAt X.K H i src zs → zs = ys
  | [], [], [], _, _ => rfl
  | (t, a) :: r, y :: ys, z :: zs, h1, h2 => by
    obtain ⟨⟨xs, q1, e1⟩, h1⟩ := h1
    obtain ⟨⟨xs', q2, e2⟩, h2⟩ := h2
    have e := sqv_inj I q1 q2
    subst e
    rw [e1] at e2
    cases e2
    rw [row_inj I h1 h2]
theorem row_ob (I : Inv X pins σ H s) {i : Nat} : ∀ {src : List (Bool × Addr)} {ys : List V}, RowAt X.K H i src ys → ∃ (r : List Src) (us : List Value), bare r = src ∧ Srcs s.heap r ∧ Items i r us ∧ Vals ys us
  | [], [], _ => ⟨[], [], rfl, trivial, trivial, .nil⟩
  | (t, a) :: src, y :: ys, h => by
    obtain ⟨⟨xs, q, e⟩, h⟩ := h
    obtain ⟨its, rv, p, _⟩ := sqv_ob I q
    obtain ⟨u, hu, ru⟩ := rv.get e
    obtain ⟨r, us, e1, e2, e3, e4⟩ := row_ob I h
    exact ⟨(t, a, its.toArray) :: r, u :: us, by unfold bare at e1 ⊢; rw [List.map_cons, e1], ⟨p, e2⟩, ⟨by simpa using hu, e3⟩, .cons ru e4⟩
theorem all_ob (I : Inv X pins σ H s) : ∀ {src : List (Bool × Addr)}, AllSq X.K H src → ∃ r : List Src, bare r = src ∧ Srcs s.heap r ∧ ∀ q ∈ src, ∀ xs, SqV X.K H q.1 q.2 xs → ∃ p ∈ r, p.2.2.size = xs.length
  | [], _ => ⟨[], rfl, trivial, fun q hq => by cases hq⟩
  | (t, a) :: src, h => by
    obtain ⟨xs, q⟩ := h _ List.mem_cons_self
    obtain ⟨its, rv, p, _⟩ := sqv_ob I q
    obtain ⟨r, e1, e2, e3⟩ := all_ob I (src := src) fun q hq => h q (List.mem_cons_of_mem _ hq)
    refine ⟨(t, a, its.toArray) :: r, by unfold bare at e1 ⊢; rw [List.map_cons, e1], ⟨p, e2⟩, fun q' hq' ys hy => ?_⟩
    rcases List.mem_cons.mp hq' with rfl | hq'
    · refine ⟨_, List.mem_cons_self, ?_⟩
      have e := sqv_inj I q hy
      subst e
      have := rv.length
      simp [this]
    · obtain ⟨p', hp', e'⟩ := e3 q' hq' ys hy
      exact ⟨p', List.mem_cons_of_mem _ hp', e'⟩
end
/-- the iterator's own objects are apart -/
structure Apart (z TI TO : Addr) (is : List Addr) (src : List (Bool × Addr)) : Prop where
  nd : is.Nodup
  zi : z ∉ is
  ti : TI ∉ is
  oi : TO ∉ is
  zT : z ≠ TO
  zI : z ≠ TI
  TT : TI ≠ TO
  sr : ∀ q ∈ src, q.2 ≠ TO ∧ q.2 ≠ z ∧ q.2 ≠ TI ∧ q.2 ∉ is
  ne : is ≠ []
  sm : is.length ≤ 1000
def ZTn (z TI TO : Addr) (is : List Addr) (src : List (Bool × Addr)) (i : Nat) (h : Heap) : Prop :=
  IsZip h z TI TO .none ∧ TupAt h TI (is.map Value.ref) ∧ (∃ olds : List Value, olds.length = is.length ∧ TupAt h TO olds) ∧ ItsAt h i is src
theorem bare_mem {r : List Src} {q : Src} (h : q ∈ r) : (q.1, q.2.1) ∈ bare r := List.mem_map.mpr ⟨q, h, rfl⟩
/-- zip over any number of sequences, unpacked at once -/
theorem turn_n {P : Program} {w : World} {K : PySem.W.Frag} {elts : List Expr} {kk : Nat} {tpos : Pos} {z TI TO : Addr} {is : List Addr} {src : List (Bool × Addr)} (D : Apart z TI TO is src) :
    Turn P w K (.Tuple elts kk tpos) (Itn K src) (z :: TI :: TO :: is) z (ZTn z TI TO is src) where
  mem := List.mem_cons_self
  obj := fun i h st c hc => by
    obtain ⟨hz, hTI, ⟨olds, _, hTO⟩, hi⟩ := st
    rcases List.mem_cons.mp hc with rfl | hc
    · exact ⟨_, hz, fun v q => nomatch q⟩
    rcases List.mem_cons.mp hc with rfl | hc
    · exact ⟨_, hTI, fun v q => nomatch q⟩
    rcases List.mem_cons.mp hc with rfl | hc
    · exact ⟨_, hTO, fun v q => nomatch q⟩
    obtain ⟨o, l, e, d⟩ := hi.ob c hc
    exact ⟨o, e, fun v q => by rw [d] at q; cases q⟩
  keep := fun i h h' st k => by
    obtain ⟨hz, hTI, ⟨olds, hl, hTO⟩, hi⟩ := st
    exact ⟨k z List.mem_cons_self _ hz, k TI (by simp) _ hTI, ⟨olds, hl, k TO (by simp) _ hTO⟩, hi.at fun j hj o e => k j (by simp [hj]) o e⟩
  item := by
    intro X hP hw hK hc i pins s σ H E I hf st hg
    subst hP hw hK
    obtain ⟨hz, hTI, ⟨olds, hol, hTO⟩, hi⟩ := st
    obtain ⟨ys, hrow⟩ := hg
    obtain ⟨r, us, e1, e2, e3, e4⟩ := row_ob I hrow
    subst e1
    have hzl : z < s.heap.objs.size := Heap.lt_size hz
    have ha := allAt_of hi e2
    have hys : ys.length ≤ 1000 := by rw [e4.length, ← e3.len, ← ha.len]; exact D.sm
    have hpart : ∀ c ∈ z :: TI :: TO :: is, c < s.heap.objs.size := fun c hcm => by
      rcases List.mem_cons.mp hcm with rfl | hcm
      · exact hzl
      rcases List.mem_cons.mp hcm with rfl | hcm
      · exact Heap.lt_size hTI
      rcases List.mem_cons.mp hcm with rfl | hcm
      · exact Heap.lt_size hTO
      exact ha.lt c hcm
    refine pyNext_item D.ne hz hTI hTO ha e3 hol D.sm D.nd D.zi D.oi D.zT (fun q hq => ⟨(D.sr _ (bare_mem hq)).1, (D.sr _ (bare_mem hq)).2.1, (D.sr _ (bare_mem hq)).2.2.2⟩) fun g z1 TO1 a1 T1 sz1 k1 => ?_
    refine ⟨_, rfl, wpAny_letOwnedTupleGo_zip (s := { s with heap := g }) z1 fun g2 z2 sb => ?_⟩
    have T2 : g2.get? s.heap.objs.size = some { cls := .type "tuple", data := .seq us.toArray } := (sb.2 _ (Nat.ne_of_gt hzl)).trans T1
    have new : ObjOk X.prog X.w (upd H s.heap.objs.size (.tup ys)) g2 s.heap.objs.size (.tup ys) := ⟨Nat.le_trans hys (by decide), us, e4, ⟨_, T2, rfl, _, rfl⟩⟩
    have I1 : Inv X pins σ (upd H s.heap.objs.size (.tup ys)) { s with heap := g2 } :=
      I.turnedNew (t' := s.toks) (ch := z :: TI :: TO :: is) (fun c o hb q => (sb.2 c (fun q' => hb (by simp [q']))).trans (k1 c o (fun q' => hb (by simp [q'])) (fun q' => hb (by simp [q'])) (fun q' => hb (by simp [q'])) q)) hf (Nat.le_refl _) new
    refine ⟨.ref s.heap.objs.size, _, I1, rfl, ⟨_, ys, rfl, I.hok.fresh (Nat.le_refl _), rfl, fun zs hzs => row_inj I hrow hzs⟩, ⟨z2, ?_, ⟨us, ?_, ?_⟩, ?_⟩, fun c hcm => ?_⟩
    · exact (sb.2 _ D.zI.symm).trans (k1 _ _ D.zI.symm D.TT D.ti hTI)
    · rw [ha.len, e3.len]
    · exact (sb.2 _ D.zT.symm).trans TO1
    · exact a1.its.at fun j hj o q => (sb.2 _ (fun e => D.zi (e ▸ hj))).trans q
    · rw [upd_ne (Nat.ne_of_lt (hpart c hcm))]
      exact (hf c hcm).1
  done := by
    intro X hP hw hK hc i pins s σ H E I hf st hg
    subst hP hw hK
    obtain ⟨hz, hTI, ⟨olds, hol, hTO⟩, hi⟩ := st
    obtain ⟨hall, q, hq, xs, hqx, hle⟩ := hg
    obtain ⟨r, e1, e2, e3⟩ := all_ob I hall
    subst e1
    have ha := allAt_of hi e2
    obtain ⟨p, hp, hps⟩ := e3 q hq xs hqx
    exact pyNext_stop (I.ok.hd hc) D.ne hz hTI hTO ha ⟨p, hp, by rw [Array.getElem?_eq_none_iff]; omega⟩ hol D.sm D.nd D.zi D.oi D.zT (fun q hq => ⟨(D.sr _ (bare_mem hq)).1, (D.sr _ (bare_mem hq)).2.1, (D.sr _ (bare_mem hq)).2.2.2⟩)
      fun g hk => ⟨rfl, I.turnedL (t' := s.toks) (ch := z :: TI :: TO :: is) (fun c o hb q => hk c o (fun q' => hb (by simp [q'])) (fun q' => hb (by simp [q'])) (fun q' => hb (by simp [q'])) q) hf⟩
  self := fun A i s Q E st h => wpAny_pyIter_zip st.1 h
end Zn

set_option Elab.async false
set_option linter.all false
set_option maxRecDepth 100000
set_option maxHeartbeats 1000000
namespace Zn
open PySem PySem.Spec PyProof.Rows L2
open PySem.Sem (wp)
theorem tc1 (a : Value) : checkTypeCall "zip" ⟨[a], []⟩ = pure () := by kernel_rfl
theorem tc3 (a b c : Value) : checkTypeCall "zip" ⟨[a, b, c], []⟩ = pure () := by kernel_rfl
theorem nc1 (a : Value) : checkBuiltinCall "zip.__new__" ⟨[.type "zip", a], []⟩ = pure () := by kernel_rfl
theorem nc3 (a b c : Value) : checkBuiltinCall "zip.__new__" ⟨[.type "zip", a, b, c], []⟩ = pure () := by kernel_rfl
theorem tcn : ∀ {l : List Value}, 0 < l.length → l.length ≤ 3 → checkTypeCall "zip" ⟨l, []⟩ = pure ()
  | [a], _, _ => tc1 a
  | [a, b], _, _ => F.typeCall_zip_2 a b
  | [a, b, c], _, _ => tc3 a b c
theorem ncn : ∀ {l : List Value}, 0 < l.length → l.length ≤ 3 → checkBuiltinCall "zip.__new__" ⟨.type "zip" :: l, []⟩ = pure ()
  | [a], _, _ => nc1 a
  | [a, b], _, _ => F.newCall_zip_2 a b
  | [a, b, c], _, _ => nc3 a b c
theorem oi1 (a b : Value) : argsOk "object.__init__" ⟨[a, b], []⟩ := by
  unfold argsOk; rw [signature?_of (id := "object.__init__") (n := ['_', '_', 't', 'i', 'n', 'i', '_', '_']) (o := ['t', 'c', 'e', 'j', 'b', 'o']) (by kernel_rfl) F.owner_object]; kernel_rfl
theorem oi3 (a b c d : Value) : argsOk "object.__init__" ⟨[a, b, c, d], []⟩ := by
  unfold argsOk; rw [signature?_of (id := "object.__init__") (n := ['_', '_', 't', 'i', 'n', 'i', '_', '_']) (o := ['t', 'c', 'e', 'j', 'b', 'o']) (by kernel_rfl) F.owner_object]; kernel_rfl
theorem oin : ∀ {l : List Value}, 0 < l.length → l.length ≤ 3 → ∀ obj, argsOk "object.__init__" ⟨obj :: l, []⟩
  | [a], _, _ => fun o => oi1 o a
  | [a, b], _, _ => fun o => F.args_object_init_3 o a b
  | [a, b, c], _, _ => fun o => oi3 o a b c
section
variable {prog : Program} {w : World} {A : Around} {E : Value → Shared → Prop} {s : Shared}
theorem call_zipN {r : List Src} {Q : Value → Shared → Prop} (h0 : 0 < r.length) (h3 : r.length ≤ 3) (hs : Srcs s.heap r) (h : ∀ h', Made s.heap h' r → Q (.ref (s.heap.objs.size + r.length + 2)) { s with heap := h' }) :
    wpAny (model prog w) A (call (.type "zip") (r.map fun q => Value.ref q.2.1)) Q E s :=
  callType_new F.called_zip (by decide) (tcn (by simpa using h0) (by simpa using h3)) (ncn (by simpa using h0) (by simpa using h3)) (oin (by simpa using h0) (by simpa using h3)) F.entry_zip_new
    (zip_new r (by omega)) ⟨hs, fun h' m => ⟨⟨_, m.zr, rfl⟩, h h' m⟩⟩
end
theorem srcs_lt {h : Heap} : ∀ {r : List Src}, Srcs h r → ∀ q ∈ r, q.2.1 < h.objs.size
  | (t, l, xs) :: r, x, q, hq => by
    rcases List.mem_cons.mp hq with rfl | hq
    · exact x.1.lt
    · exact srcs_lt x.2 q hq
theorem nA (n r : Nat) : n + r + 2 ≠ n + r + 1 := by omega
theorem nB (n r : Nat) : n + r + 2 ≠ n + r := by omega
theorem nC (n r : Nat) : n + r ≠ n + r + 1 := by omega
theorem nD {n r l : Nat} (k : Nat) (h : l < n) : l ≠ n + r + k := by omega
theorem nE {n r l : Nat} (h : l < n) : l ≠ n + r := by omega
theorem nF {n l : Nat} (h : l < n) (h2 : n ≤ l) : False := by omega
theorem nG {n r : Nat} (k : Nat) (h : n + r + k < n + r) : False := by omega
theorem nH {n r : Nat} (h : n + r < n + r) : False := by omega
theorem made_apart {h h' : Heap} {r : List Src} (m : Made h h' r) (hs : Srcs h r) (h0 : 0 < r.length) (h3 : r.length ≤ 1000) :
    Apart (h.objs.size + r.length + 2) (h.objs.size + r.length) (h.objs.size + r.length + 1) (news h.objs.size r) (bare r) where
  nd := news_nodup r _
  zi := fun q => nG 2 (news_mem q).2
  ti := fun q => nH (news_mem q).2
  oi := fun q => nG 1 (news_mem q).2
  zT := nA _ _
  zI := nB _ _
  TT := nC _ _
  sr := fun q hq => by
    obtain ⟨p, hp, rfl⟩ := List.mem_map.mp hq
    have hl := srcs_lt hs p hp
    exact ⟨nD 1 hl, nD 2 hl, nE hl, fun z => nF hl (news_mem z).1⟩
  ne := fun z => by
    have := news_len h.objs.size r
    rw [z] at this
    have : (0 : Nat) = r.length := this
    omega
  sm := by rw [news_len]; exact h3
section
variable {X : Cx}
def kRefs (src : List (Bool × Addr)) : List V := src.map fun q => V.ref q.2
/-- the sequences of the abstract heap, as they stand -/
theorem srcs_of {pins : List (Addr × Obj)} {σ : L2.St} {H : Hp} {s : Shared} (I : Inv X pins σ H s) {src : List (Bool × Addr)} (h : AllSq X.K H src) : ∃ r : List Src, bare r = src ∧ Srcs s.heap r :=
  let ⟨r, e1, e2, _⟩ := all_ob I h; ⟨r, e1, e2⟩
theorem vals_refs : ∀ {src : List (Bool × Addr)} {us : List Value}, Vals (kRefs src) us → us = src.map fun q => Value.ref q.2
  | [], [], .nil => rfl
  | (t, a) :: r, u :: us, .cons ru t' => by
    have e : u = Value.ref a := ru
    rw [e, vals_refs t', List.map_cons]
/-- an iterator over the zip of 1 to 3 sequences has come -/
theorem zip_come {pins : List (Addr × Obj)} {σ : L2.St} {H : Hp} {s : Shared} {us : List Value} {R : It → Hp → Prop} {elts : List Expr} {kk : Nat} {tpos : Pos} {E : Value → Shared → Prop} (I : Inv X pins σ H s) {src : List (Bool × Addr)} (rv : Vals (kRefs src) us)
    (h0 : 0 < src.length) (h3 : src.length ≤ 3) (ha : AllSq X.K H src) (q : R (Itn X.K src) H) :
    wpAny (model X.prog X.w) X.A (call (.type "zip") us) (fun v s1 => wpAny (model X.prog X.w) X.A (pyIter v) (PIE X pins σ (.Tuple elts kk tpos) R) E s1) E s := by
  obtain ⟨r, e1, e2⟩ := srcs_of I ha
  have e3 := vals_refs rv
  subst e1
  have hl : (bare r).length = r.length := List.length_map ..
  rw [hl] at h0 h3
  have e4 : us = r.map fun q => Value.ref q.2.1 := by rw [e3]; unfold bare; rw [List.map_map]; rfl
  rw [e4]
  refine call_zipN h0 h3 e2 fun g m => wpAny_pyIter_zip m.zr ?_
  have I2 : Inv X pins σ H { s with heap := g } := I.kept (t' := s.toks) m.kp
  refine ⟨_, _, _, _, H, rfl, I2, turn_n (made_apart m e2 h0 (by omega)), ⟨m.zr, m.ti, ⟨_, ?_, m.to⟩, m.all.its⟩, fun c hcm => ?_, q⟩
  · rw [List.length_map, news_len]
  · have hle : s.heap.objs.size ≤ c := by
      rcases List.mem_cons.mp hcm with rfl | hcm
      · exact Nat.le_add_right_of_le (Nat.le_add_right ..)
      rcases List.mem_cons.mp hcm with rfl | hcm
      · exact Nat.le_add_right ..
      rcases List.mem_cons.mp hcm with rfl | hcm
      · exact Nat.le_add_right_of_le (Nat.le_add_right ..)
      exact (news_mem hcm).1
    exact I.fpOk hle (I.hok.fresh hle)
def iZn (K : PySem.W.Frag) (ta : TA) : TI := fun σ H R => ta σ H fun vs H1 => ∃ src : List (Bool × Addr), vs = kRefs src ∧ 0 < src.length ∧ src.length ≤ 3 ∧ AllSq K H1 src ∧ R (Itn K src) H1
/-- for a, b in zip(x, y): lists and tuples, mixed -/
theorem pi_zipn {e : Expr} {es : List Expr} {ta : TA} {p pos tpos : Pos} {elts : List Expr} {kk : Nat} (hg : Gl X "zip") (hm : X.mg "zip" = none) (ha : PA X (e :: es) ta)
    (hs : starEach (e :: es) X.env = (false, eval e X.env) :: starEach es X.env := by rfl) (hpl : (backTo pos (starEach es X.env)).any (·.1) = false := by rfl) :
    PI X (.Tuple elts kk tpos) (.Call (.Name "zip" p) (e :: es) [] pos) (iZn X.K ta) := by
  refine ⟨fun pins s σ H R I h => ?_⟩
  refine Call_ (ld_blt I hg hm PyProof.Rows.boot_zip (PyProof.Rows.callWith_type1 (thn (ha.run pos pins s σ H _ I h) fun us s1 ⟨vs, H1, I1, r1, q1⟩ => ?_) hs hpl))
  obtain ⟨src, rfl, h0, h3, hq, q⟩ := q1
  exact zip_come I1 r1 h0 h3 hq q
end
end Zn

set_option Elab.async false
set_option linter.all false
set_option maxRecDepth 100000
set_option maxHeartbeats 1000000
/-! defs that are called where no repr is under way (guards known), for repr of containers. -/
namespace Gd
open PySem PySem.Spec PyProof.Rows L2
def Still (A : Around) : Prop := A.guards = some []
structure FnG (P : Program) (w : World) (K : PySem.W.Frag) (mg : Str → Option Value) (base : Heap) (CX : CXT) (k : Nat) (f : Addr) (fd : FuncData) (ps : List Str) (sp : Sp) : Prop where
  len : ∀ vs H Q E, sp vs H Q E → vs.length = ps.length
  run : ∀ (A : Around) (outer : List Env) (s : Shared) (H : Hp) (ar : Args) (us : List Value) (vs : List V) (Q : VK) (E : XK), Still A → Room k A → Env0 P w K mg base A outer s H → BindsTo s fd ar (ps.zip us) → Vals vs us → sp vs H Q E →
    codeAny (model P w) A (.call (.ref f) ar) (CR CX outer P w H s Q E) s
section
variable {P : Program} {w : World} {K : PySem.W.Frag} {mg : Str → Option Value} {base : Heap}
theorem fnG_of {CX : CXT} {k : Nat} {f : Addr} {nm qual : Str} {pa : Arguments} {bd : List Stmt} {sc : Scope} {dV kV doc pm cdv ct oc : Value} {an od : Option Addr}
    {osl : Array (Option Value)} {N ps : List Str} {sp : Sp} (hlk : K.lookup f = some ⟨oc, od, .func (PySem.W.fnOf nm qual pa bd sc dV kV doc pm an cdv ct), osl⟩) (hco : PySem.W.codeIn K cdv qual = true) (S : FnScope N ps sc)
    (len : ∀ vs H Q E, sp vs H Q E → vs.length = ps.length)
    (hb : ∀ (A : Around) (outer : List Env) (s : Shared) (H : Hp) (vs : List V) (Q : VK) (E : XK), Still A → Room k (A.deeper (envOfC qual sc s.heap.objs.size f cdv)) → sp vs H Q E →
      ∃ t, PSs (cxOf CX P w K mg base N qual sc f cdv A outer s H E) bd t ∧ t { nx := fun _ H2 => Q .non H2, rt := Q } (start N vs) H) :
    FnG P w K mg base CX (k + 1) f (PySem.W.fnOf nm qual pa bd sc dV kV doc pm an cdv ct) ps sp := by
  refine ⟨len, fun A outer s H ar us vs Q E hst room e0 bind rv hsp => ?_⟩
  have hlen := len vs H Q E hsp
  have inK : K.In s.heap := e0.mod.kin.keeps fun b o e => (e0.bs b o e).1
  have noLim : s.heap.NoLimit := e0.mod.nolimit.keeps fun b o e => (e0.bs b o e).1
  have kinds : ∀ y ∈ ps.zip us, sc.names.lookup y.1 = some .local ∨ (sc.names.lookup y.1 = some .cell ∧ ((cellsFrom (s.heap.objs.size + 1) sc.names []).lookup y.1).isSome = true) := by
    rintro ⟨n, v⟩ hy
    rcases S.par n (List.of_mem_zip hy).1 with q | q
    · exact .inl q
    · exact .inr ⟨q, PySem.W.cellsFrom_some _ _ _ (.inl q)⟩
  refine codeAny_call_function room.depth (inK f _ hlk) rfl S.co S.gen rfl (PySem.W.codeRec_of inK hco) (bind _ _ _ _ ?_)
  refine wpAny_newFunctionEnv_cells S.kind kinds fun env henv s2 inc => ?_
  subst henv
  refine ⟨noLim.keeps inc.toInCall.keep, codeAny_func ?_⟩
  obtain ⟨t, der, rd⟩ := hb A outer s H vs Q E hst (room.deeper _) hsp
  have J0 : Inv (cxOf CX P w K mg base N qual sc f cdv A outer s H E) [] (start N vs) H s2 := inv_start S room.hd e0 hlen rv inc
  refine wpAny_mono (der.run [] s2 (start N vs) H _ J0 rd) (fun fl s3 hfl => ?_) fun e s3 he => he
  have out : ∀ {σ2 : L2.St} {H2 : Hp} {v : V} {u : Value}, Inv (cxOf CX P w K mg base N qual sc f cdv A outer s H E) [] σ2 H2 s3 → RelV v u → Q v H2 → CE outer P w H s Q u s3 := by
    intro σ2 H2 v u J r q
    exact ⟨v, H2, J.os, J.bare, J.base, J.hok, r, q⟩
  cases fl with
  | ret u =>
    obtain ⟨v, σ2, H2, J, r, q⟩ := hfl
    exact out J r q
  | next =>
    obtain ⟨σ2, H2, J, q⟩ := hfl
    exact out (v := V.non) (u := Value.none) J rfl q
  | brk =>
    obtain ⟨_, _, _, no⟩ := hfl
    exact no.elim
  | cont =>
    obtain ⟨_, _, _, no⟩ := hfl
    exact no.elim
theorem okG {x qual : Str} {st : Stmt} {f : Addr} {fd : FuncData} {N ps : List Str} {k : Nat} {sp : Sp} (F : Fun K x qual st f fd) (S : FnScope N ps (defScope st)) (len : ∀ vs H Q E, sp vs H Q E → vs.length = ps.length)
    (hb : ∀ (cdv : Value) (A : Around) (outer : List Env) (s : Shared) (H : Hp) (vs : List V) (Q : VK) (E : XK), Still A → Room k (A.deeper (envOfC qual (defScope st) s.heap.objs.size f cdv)) → sp vs H Q E →
      ∃ t, PSs (cxOf CX0 P w K mg base N qual (defScope st) f cdv A outer s H E).nox (defBody st) t ∧ t { nx := fun _ H2 => Q .non H2, rt := Q } (start N vs) H) : FnG P w K mg base CX0 (k + 1) f fd ps sp := by
  obtain ⟨oc, od, kV, doc, pm, an, cdv, ct, osl, rfl, hlk, hco⟩ := F.ex
  refine fnG_of hlk hco S len fun A outer s H vs Q E hst room hsp => ?_
  obtain ⟨t, der, rd⟩ := hb cdv A outer s H vs Q E hst room hsp
  exact ⟨t, der.nox, rd⟩
end
section
variable {X : Cx} {CX : CXT} {k : Nat} {f : Addr} {fd : FuncData} {ps : List Str} {sp : Sp} {ds : List Value} {dvs : List V} {E : XK} {x : Str} {e : Expr} {es : List Expr} {t : TA} {p pos : Pos}
theorem runG {pins : List (Addr × Obj)} {σ : L2.St} {H : Hp} {s : Shared} {Q : VK} {us : List Value} {vs : List V} (F : FnG X.prog X.w X.K X.mg X.base CX k f fd ps sp) (hst : Still X.A) (room : Room k X.A) (hb : Binds X.K fd ps ds) (hd : Vals dvs ds) (hx : Passes CX X E)
    (I : Inv X pins σ H s) (rv : Vals vs us) (h : sp (vs ++ dvs) H Q E) : wpAny (model X.prog X.w) X.A (call (.ref f) us) (EP X pins σ Q) X.xe s := by
  have both : Vals (vs ++ dvs) (us ++ ds) := rv.append hd
  have hl : (us ++ ds).length = ps.length := by rw [← both.length]; exact F.len _ _ _ _ h
  refine wpAny_call (codeAny_mono (F.run X.A X.stack s H ⟨us, []⟩ (us ++ ds) (vs ++ dvs) Q E hst room I.env0 (hb s us I.kIn hl) both h) fun r s2 hq => ?_)
  cases r with
  | error er => exact hx pins σ H s er s2 I hq
  | ok fl =>
    cases fl with
    | ret u => exact I.after hq
    | next => exact (show False from hq).elim
    | brk => exact (show False from hq).elim
    | cont => exact (show False from hq).elim
theorem pe_callG (F : FnG X.prog X.w X.K X.mg X.base CX k f fd ps sp) (hst : Still X.A) (room : Room k X.A) (hg : Gl X x) (hm : X.mg x = some (.ref f)) (hk : PySem.W.keepIn X.K (.ref f) = true) (hb : Binds X.K fd ps ds) (hd : Vals dvs ds) (hx : Passes CX X E)
    (ha : PA X (e :: es) t) (hdb : (x == ("__debug__" : Str)) = false := by decide) (he : starEach (e :: es) X.env = (false, eval e X.env) :: starEach es X.env := by rfl) (hpl : (backTo pos (starEach es X.env)).any (·.1) = false := by rfl) :
    PE X (.Call (.Name x p) (e :: es) [] pos) (tCall sp dvs E t) := by
  refine ⟨fun pins s σ H Q I h => wpAny_Call_Name_kw (ld_glob I hg hm ?_ hdb)⟩
  refine PySem.W.callWith_K (h₀ := X.base) I.ok.mod.kin hk (thn (ha.run pos pins s σ H _ I h) fun us s1 ⟨vs, H1, I1, rv, q⟩ => ⟨I1.kIn, ?_⟩) he hpl
  exact runG F hst room hb hd hx I1 rv q
end
/-! ### the end of the law -/
theorem lawG {P : Program} {w : World} {K : PySem.W.Frag} {mg mb : Str → Option Value} {k : Nat} {fa a : Addr} {fd : FuncData} {x : Str} {sp : Sp} {s₁ : Shared} {vs : List Value} {ns : List Int}
    (inK : K.In s₁.heap) (hns : s₁.heap.Ns mainGlobals mg) (hbn : s₁.heap.Ns builtinsNs mb) (hbb : ∀ x : Str, x ≠ "__name__" → mb x = bootBuiltins x) (hlim : s₁.heap.NoLimit) (hgen : s₁.gens = #[])
    (ha : s₁.heap.get? a = some { cls := .type "list", data := .seq vs.toArray }) (hi : IntsAre vs ns) (hl : ns.length ≤ sizeLine) (room : Room k callerA)
    (F : ∀ base : Heap, K.In base → base.Ns mainGlobals mg → FnG P w K mg base CX0 k fa fd [x] sp) (hbind : ∀ (s : Shared) (u : Value), BindsTo s fd ⟨[u], []⟩ [(x, u)])
    (hsp : ∀ H : Hp, Only H → SqL K H a (ns.map V.int) → sp [.ref a] H (fun v _ => v = .bl true) fun _ _ _ => False) :
    codeAny (model P w) callerA (.call (.ref fa) ⟨[.ref a], []⟩) (fun r s2 => r = .ok (.ret (.bool true)) ∧ OldK s₁.heap s2.heap ∧ s2.os = s₁.os ∧ AllBare s2.gens) s₁ := by
  have rv := vals_ints hi
  have lV := hi.length
  have main : ∀ H : Hp, Only H → SqL K H a (ns.map V.int) → HOk P w H s₁.heap → (∀ b, H b ≠ none → b = a) → (H a ≠ none → K.lookup a = none) →
      codeAny (model P w) callerA (.call (.ref fa) ⟨[.ref a], []⟩) (fun r s2 => r = .ok (.ret (.bool true)) ∧ OldK s₁.heap s2.heap ∧ s2.os = s₁.os ∧ AllBare s2.gens) s₁ := by
    intro H only sq hok justA notK
    have isA : ∀ {b : Addr} {u : HO}, H b = some u → b = a := fun {b u} q => justA b (by rw [q]; simp)
    have dictFree : ∀ {b : Addr} {o : Obj} {es : Array DictEntry} {ep : Nat}, s₁.heap.get? b = some o → o.data = .dict es ep → H b = none := by
      intro b o es ep e d
      cases q : H b with
      | none => rfl
      | some u =>
        have eb := isA q
        subst eb
        rw [ha] at e; cases e
        have bad : Data.seq vs.toArray _ = Data.dict es ep := d
        cases bad
    have under : ∀ {b : Addr} {m : Str → Option Value}, s₁.heap.Ns b m → (hidT s₁.heap H).Ns b m := by
      rintro b m ⟨o, es, ep, e, d, more⟩
      exact ⟨o, es, ep, hidT_get e (dictFree e d), d, more⟩
    have inB : K.In (hidT s₁.heap H) := by
      intro b o e
      refine hidT_get (inK b o e) ?_
      cases q : H b with
      | none => rfl
      | some u =>
        have eb := isA q
        subst eb
        rw [notK (by rw [q]; simp)] at e; cases e
    have modB : Mod K mg (hidT s₁.heap H) := by
      obtain ⟨mc, c1, c2⟩ := hlim
      exact ⟨inB, under hns, ⟨mb, under hbn, hbb⟩, mc, under c1, c2⟩
    have env0 : Env0 P w K mg (hidT s₁.heap H) callerA [] s₁ H := by
      refine ⟨rfl, modB, fun b o e => of_hidT e, Nat.le_of_eq (hidT_size _ _), trivial, fun b hb => ?_, hok, .of_eq hgen⟩
      cases (show b ∈ ([] : List Addr) from hb)
    refine codeAny_mono ((F _ inB (under hns)).run callerA [] s₁ H ⟨[.ref a], []⟩ [.ref a] [.ref a] _ _ rfl room env0 (hbind s₁ (.ref a)) (.cons rfl .nil) (hsp H only sq)) fun r s2 h => ?_
    cases r with
    | error e => exact (show False from h).elim
    | ok fl =>
      cases fl with
      | next => exact (show False from h).elim
      | brk => exact (show False from h).elim
      | cont => exact (show False from h).elim
      | ret u =>
        obtain ⟨v, H2, sameOs, bareG, un, hok2, ru, qv⟩ := h
        have ev : v = .bl true := qv
        subst ev
        have eu : u = Value.bool true := ru
        subst eu
        refine ⟨rfl, OldK.of_keep ?_, sameOs, bareG⟩
        intro b o e
        cases q : H b with
        | none =>
          refine un.keep b o e q (fun z => ?_) (by simp)
          cases (show b ∈ ([] : List Addr) from z)
        | some u2 =>
          rcases only b with z | ⟨ob, xs, z⟩
          · rw [q] at z; cases z
          · have z2 := un.frzs b ob _ z
            have f1 := (hok b _ z).1
            have f2 := (hok2 b _ z2).1
            rw [e] at f1; cases f1
            exact f2
  cases hk : K.lookup a with
  | some o =>
    have e := inK a o hk
    rw [ha] at e
    cases e
    refine main (fun _ => none) (fun _ => .inl rfl) (.inr ⟨_, vs.toArray, _, hk, rfl, rfl, rfl, ?_, by simpa using rv⟩) (fun b u z => by cases (show (none : Option HO) = some u from z)) (fun b z => (z rfl).elim) fun z => (z rfl).elim
    rw [List.size_toArray, lV]
    exact hl
  | none =>
    have at_ : ∀ b, b = a → (if b = a then some (HO.frz { cls := .type "list", data := .seq vs.toArray } (.lst (ns.map V.int))) else none) = some (HO.frz { cls := .type "list", data := .seq vs.toArray } (.lst (ns.map V.int))) := fun b e => if_pos e
    have off : ∀ b, ¬ b = a → (if b = a then some (HO.frz { cls := .type "list", data := .seq vs.toArray } (.lst (ns.map V.int))) else none) = none := fun b e => if_neg e
    refine main (fun b => if b = a then some (.frz { cls := .type "list", data := .seq vs.toArray } (.lst (ns.map V.int))) else none) (fun b => ?_) (.inl (.inr ⟨_, at_ a rfl⟩)) (fun b u z => ?_) (fun b z => ?_) fun _ => hk
    · by_cases hb : b = a
      · exact .inr ⟨_, _, at_ b hb⟩
      · exact .inl (off b hb)
    · by_cases hb : b = a
      · have z2 := (at_ b hb).symm.trans z
        cases z2
        subst hb
        exact ⟨ha, by rw [List.length_map]; exact hl, vs, _, rv, ha⟩
      · have z2 := (off b hb).symm.trans z
        cases z2
    · by_cases hb : b = a
      · exact hb
      · exact (z (off b hb)).elim
theorem walkG {l : PySem.W.OpenLaw} {n k : Nat} {q : Program} {loose : List Str} {XP : (Str → Option Value) → Heap → Prop} {YP : World → Heap → Prop} {d : DefRec} {K : Params → PySem.W.Frag} {sp : World → Sp} {x : Str}
    (hn : l.most = some n) (hn2 : n ≤ sizeLine) (hdf : d.params.defaults = []) (room : Room k callerA) (hY : ∀ (w : World) (h : Heap), YP w h → (K w.params).In h)
    (F : ∀ (w : World) (mg : Str → Option Value) (fa : Addr) (h : Heap), (K w.params).In h → h.Ns mainGlobals mg → mg d.name = some (.ref fa) →
      ∃ fd : FuncData, (∀ (s : Shared) (u : Value), BindsTo s fd ⟨[u], []⟩ [(x, u)]) ∧
        ∀ base : Heap, (K w.params).In base → base.Ns mainGlobals mg → FnG l.prog w (K w.params) mg base CX0 k fa fd [x] (sp w))
    (hsp : ∀ (w : World) (H : Hp) (a : Addr) (ns : List Int), ns.length ≤ n → Only H → SqL (K w.params) H a (ns.map V.int) → sp w [.ref a] H (fun v _ => v = .bl true) fun _ _ _ => False) :
    PySem.W.WalkO q loose XP YP l.row.toRowW d [] (fun f vs => PySem.call f vs) := by
  refine Att.attach_call hn hdf fun w s₀ s₁ mg mb fa o pm cd doc a vs ns G Y ho hd hcd hmg hobj hints hlen hgen => ?_
  have inK := hY w s₁.heap Y
  obtain ⟨fd, hb, hF⟩ := F w mg fa s₁.heap inK G.T.g hmg
  exact lawG inK G.T.g G.T.b G.T.builtins G.T.nolimit hgen hobj hints (Nat.le_trans hlen hn2) room hF hb fun H hO hS => hsp w H a ns hlen hO hS
end Gd

set_option Elab.async false
set_option linter.all false
set_option maxRecDepth 100000
set_option maxHeartbeats 1000000
/-! repr of data, lists and tuples of any depth, where no repr is under way. -/
namespace Rp
open PySem PySem.Spec PyProof.Rows L2 Gd
mutual
inductive PyV (H : Hp) : V → PyData → Prop
  | non : PyV H .non .none
  | bl (b : Bool) : PyV H (.bl b) (.bool b)
  | int (i : Int) : PyV H (.int i) (.int i)
  | str (x : Str) : PyV H (.str x) (.str x)
  | lst {a : Addr} {xs : List V} {ds : List PyData} : H a = some (.lst xs) → PyVs H xs ds → PyV H (.ref a) (.list ds)
  | tup {a : Addr} {xs : List V} {ds : List PyData} : H a = some (.tup xs) → PyVs H xs ds → PyV H (.ref a) (.tuple ds)
inductive PyVs (H : Hp) : List V → List PyData → Prop
  | nil : PyVs H [] []
  | cons {x : V} {xs : List V} {d : PyData} {ds : List PyData} : PyV H x d → PyVs H xs ds → PyVs H (x :: xs) (d :: ds)
end
section
variable {P : Program} {w : World} {H : Hp} {h : Heap}
mutual
theorem PyV.reads (ok : HOk P w H h) : ∀ {v : V} {d : PyData} {u : Value}, PyV H v d → RelV v u → ∃ as, Reads h u d as
  | _, _, _, .non, r => by cases (show _ = Value.none from r); exact ⟨_, .none⟩
  | _, _, _, .bl b, r => by cases (show _ = Value.bool b from r); exact ⟨_, .bool b⟩
  | _, _, _, .int i, r => by obtain ⟨t, rfl⟩ := r; exact ⟨_, .int i t⟩
  | _, _, _, .str x, r => by obtain ⟨t, rfl⟩ := r; exact ⟨_, .str x t⟩
  | _, _, _, .lst (a := a) e q, r => by
    cases (show _ = Value.ref a from r)
    obtain ⟨_, its, n, rv, o⟩ := ok a _ e
    obtain ⟨as, ra⟩ := PyVs.reads ok q rv
    exact ⟨_, .list o rfl rfl ra⟩
  | _, _, _, .tup (a := a) e q, r => by
    cases (show _ = Value.ref a from r)
    obtain ⟨_, its, rv, o, o1, o2, n, o3⟩ := ok a _ e
    obtain ⟨as, ra⟩ := PyVs.reads ok q rv
    exact ⟨_, .tuple o1 o2 o3 ra⟩
theorem PyVs.reads (ok : HOk P w H h) : ∀ {vs : List V} {ds : List PyData} {us : List Value}, PyVs H vs ds → Vals vs us → ∃ as, ReadsAll h us ds as
  | _, _, _, .nil, .nil => ⟨_, .nil⟩
  | _, _, _, .cons q qs, .cons r rs => by
    obtain ⟨as, h1⟩ := PyV.reads ok q r
    obtain ⟨bs, h2⟩ := PyVs.reads ok qs rs
    exact ⟨_, .cons h1 h2⟩
end
end
mutual
theorem PyV.noDict {H : Hp} : ∀ {v : V} {d : PyData}, PyV H v d → d.hasDict = false
  | _, _, .non => by simp only [PyData.hasDict]
  | _, _, .bl _ => by simp only [PyData.hasDict]
  | _, _, .int _ => by simp only [PyData.hasDict]
  | _, _, .str _ => by simp only [PyData.hasDict]
  | _, _, .lst _ q => by simp only [PyData.hasDict]; exact PyVs.noDict q
  | _, _, .tup _ q => by simp only [PyData.hasDict]; exact PyVs.noDict q
theorem PyVs.noDict {H : Hp} : ∀ {vs : List V} {ds : List PyData}, PyVs H vs ds → PyData.hasDictAll ds = false
  | _, _, .nil => by simp only [PyData.hasDictAll]
  | _, _, .cons q qs => by simp only [PyData.hasDictAll, PyV.noDict q, PyVs.noDict qs, Bool.or_self]
end
mutual
theorem PyV.mono {H H' : Hp} (s : Same H H') : ∀ {v : V} {d : PyData}, PyV H v d → PyV H' v d
  | _, _, .non => .non
  | _, _, .bl b => .bl b
  | _, _, .int i => .int i
  | _, _, .str x => .str x
  | _, _, .lst e q => .lst (s _ _ e) (PyVs.mono s q)
  | _, _, .tup e q => .tup (s _ _ e) (PyVs.mono s q)
theorem PyVs.mono {H H' : Hp} (s : Same H H') : ∀ {vs : List V} {ds : List PyData}, PyVs H vs ds → PyVs H' vs ds
  | _, _, .nil => .nil
  | _, _, .cons q qs => .cons (PyV.mono s q) (PyVs.mono s qs)
end
/-- a dict of ints and texts to scalars -/
def scalD : V → Option PyData
  | .non => some .none
  | .bl b => some (.bool b)
  | .int i => some (.int i)
  | .str x => some (.str x)
  | _ => none
/-- the size of what repr gives -/
structure Fit (d : PyData) : Prop where
  sh : d.showable = true
  dp : d.depth ≤ 20
  sz : d.shown.length ≤ sizeLine
def rRep : List V → Hp → VK → Prop := fun xs H Q => ∃ v d, xs = [v] ∧ PyV H v d ∧ Fit d ∧ Q (.str d.shown) H
section
variable {X : Cx} {k : Nat}
theorem call_rep (hst : Still X.A) (room : Room k X.A) : CallR X (.builtin "repr") rRep := by
  intro pins s σ H xs us Q I r h
  obtain ⟨v, d, rfl, pv, ⟨sh, dp, sz⟩, q⟩ := h
  obtain ⟨u, rfl, rv⟩ := vals1 r
  cases pv with
  | non =>
    cases (show u = Value.none from rv)
    simp only [PyData.shown] at q
    exact PySem.P.repr_of_none ⟨.str _, H, I.tok _, ⟨_, rfl⟩, q⟩
  | bl b =>
    cases (show u = Value.bool b from rv)
    simp only [PyData.shown] at q
    exact PySem.P.repr_of_bool ⟨.str _, H, I.tok _, ⟨_, rfl⟩, q⟩
  | int i =>
    obtain ⟨t, rfl⟩ := rv
    simp only [PyData.shown] at q
    simp only [PyData.showable, decide_eq_true_eq] at sh
    exact PySem.P.repr_of_int sh ⟨.str _, H, I.tok _, ⟨_, rfl⟩, q⟩
  | str x =>
    obtain ⟨t, rfl⟩ := rv
    simp only [PyData.shown] at q sz
    exact PySem.P.repr_of_str ⟨.str _, H, I.tok _, ⟨_, rfl⟩, q⟩ sz
  | lst e p =>
    obtain ⟨as, rd⟩ := PyV.reads I.hok (PyV.lst e p) rv
    cases (show u = Value.ref _ from rv)
    refine repr_of_reads' rd sh (PyData.noDict_hsm (PyV.noDict (PyV.lst e p))) hst ?_ (fun _ _ e => e) (fun h2 t tk kp => ?_) sz
    · have := room.un
      omega
    · exact ⟨.str _, H, I.kept (t' := tk) kp, ⟨_, rfl⟩, q⟩
  | tup e p =>
    obtain ⟨as, rd⟩ := PyV.reads I.hok (PyV.tup e p) rv
    cases (show u = Value.ref _ from rv)
    refine repr_of_reads' rd sh (PyData.noDict_hsm (PyV.noDict (PyV.tup e p))) hst ?_ (fun _ _ e => e) (fun h2 t tk kp => ?_) sz
    · have := room.un
      omega
    · exact ⟨.str _, H, I.kept (t' := tk) kp, ⟨_, rfl⟩, q⟩
end
def keyD : Key → PyData
  | .inl i => .int i
  | .inr x => .str x
/-- a dict with scalars alone -/
inductive Flat : List (Key × V) → List (PyData × PyData) → Prop
  | nil : Flat [] []
  | cons {k : Key} {v : V} {d : PyData} {kvs : List (Key × V)} {r : List (PyData × PyData)} : scalD v = some d → Flat kvs r → Flat ((k, v) :: kvs) ((keyD k, d) :: r)
theorem read_key {h : Heap} {k : Key} {u : Value} (e : keyIs k u = true) : Reads h u (keyD k) [] := by
  rcases keyIs_shape e with ⟨i, t, rfl, rfl⟩ | ⟨x, t, rfl, rfl⟩
  · exact .int i t
  · exact .str x t
theorem read_scal {h : Heap} {v : V} {u : Value} {d : PyData} (e : scalD v = some d) (r : RelV v u) : Reads h u d [] := by
  cases v with
  | non => cases e; cases (show u = Value.none from r); exact .none
  | bl b => cases e; cases (show u = Value.bool b from r); exact .bool b
  | int i => cases e; obtain ⟨t, rfl⟩ := r; exact .int i t
  | str x => cases e; obtain ⟨t, rfl⟩ := r; exact .str x t
  | byt _ => cases e
  | flt _ => cases e
  | ref _ => cases e
  | ty _ => cases e
theorem flat_reads {P : Program} {w : World} {h : Heap} : ∀ {es : List DictEntry} {vs : List (Key × Value)} {kvs : List (Key × V)} {r : List (PyData × PyData)}, Pairs (mixKind P w) es vs → KV kvs vs → Flat kvs r →
    ReadsAll h (es.map (·.key)) (r.map (·.1)) [] ∧ ReadsAll h (es.map (·.val)) (r.map (·.2)) []
  | _, _, _, _, .nil, .nil, .nil => ⟨.nil, .nil⟩
  | _, _, _, _, .cons hk hv hp, .cons hr hrs, .cons hs hf => by
    obtain ⟨a1, a2⟩ := flat_reads (h := h) hp hrs hf
    obtain ⟨e1, e2⟩ := hr
    subst e1
    exact ⟨ReadsAll.cons (as := []) (bs := []) (read_key hk) a1, ReadsAll.cons (as := []) (bs := []) (read_scal hs (by show RelV _ (DictEntry.val _); rw [hv]; exact e2)) a2⟩
def rRepD : List V → Hp → VK → Prop := fun xs H Q => ∃ a kvs r, xs = [.ref a] ∧ H a = some (.dK kvs) ∧ Flat kvs r ∧ Fit (.dict r) ∧ Q (.str (PyData.dict r).shown) H
/-- repr of what is data of any depth, or a dict of scalars -/
def rRepA : List V → Hp → VK → Prop := fun xs H Q => rRep xs H Q ∨ rRepD xs H Q
section
variable {X : Cx} {k : Nat}
theorem call_repA (hst : Still X.A) (room : Room k X.A) : CallR X (.builtin "repr") rRepA := by
  intro pins s σ H xs us Q I r h
  rcases h with h | h
  · exact call_rep hst room pins s σ H xs us Q I r h
  · obtain ⟨a, kvs, ds, rfl, ha, hf, ⟨sh, dp, sz⟩, q⟩ := h
    obtain ⟨u, rfl, rv⟩ := vals1 r
    cases (show u = Value.ref a from rv)
    obtain ⟨_, ns, vs, kv, o, es, ep, ho, ex, hd, _, hp, _⟩ := I.hok a _ ha
    obtain ⟨r1, r2⟩ := flat_reads (h := s.heap) hp kv hf
    refine repr_of_reads' (Reads.dict ho ex.1 hd r1 r2) sh (fun _ hm => ?_) hst ?_ (fun _ _ e => e) (fun h2 t tk kp => ?_) sz
    · have e : sysModules = a := by simpa using hm
      rw [← e] at ns
      simp at ns
    · have := room.un
      omega
    · exact ⟨.str _, H, I.kept (t' := tk) kp, ⟨_, rfl⟩, q⟩
end
end Rp

set_option Elab.async false
set_option linter.all false
set_option maxRecDepth 100000
set_option maxHeartbeats 1000000
/-! growth of the heap beside one drawn pot; comprehensions. -/
namespace Dn
open PySem PySem.Spec PyProof.Rows L2 Gd Zn Rp
/-- the pot: two counts -/
def PotOk (H : Hp) (p : Addr) : Prop := ∃ a b : Int, H p = some (.lst [.int a, .int b]) ∧ 0 ≤ a ∧ 0 ≤ b ∧ b < 2 ^ 32
/-- all but the pot stays; the pot stays a pot -/
structure RX (p : Option Addr) (H H' : Hp) : Prop where
  keep : ∀ c o, p ≠ some c → H c = some o → H' c = some o
  pot : ∀ a, p = some a → PotOk H a → PotOk H' a
theorem RX.refl {p : Option Addr} (H : Hp) : RX p H H := ⟨fun _ _ _ e => e, fun _ _ e => e⟩
theorem RX.trans {p : Option Addr} {H H1 H2 : Hp} (a : RX p H H1) (b : RX p H1 H2) : RX p H H2 := ⟨fun c o n e => b.keep c o n (a.keep c o n e), fun q e k => b.pot q e (a.pot q e k)⟩
theorem RX.of {p : Option Addr} {H H' : Hp} (s : Same H H') : RX p H H' := ⟨fun c o _ e => s c o e, fun a _ ⟨x, y, e, r⟩ => ⟨x, y, s a _ e, r⟩⟩
theorem RX.same {H H' : Hp} (s : RX none H H') : Same H H' := fun c o e => s.keep c o (by simp) e
theorem same_new {H : Hp} {p : Addr} {o : HO} (h : H p = none) : Same H (upd H p o) := fun b x e => by rw [upd_ne (ne_of_none e h)]; exact e
theorem RX.new {p : Option Addr} {H : Hp} {a : Addr} {o : HO} (h : H a = none) : RX p H (upd H a o) := .of (same_new h)
theorem PotOk.some_ {H : Hp} {p : Addr} (h : PotOk H p) : H p ≠ none := by
  obtain ⟨a, b, e, _⟩ := h
  rw [e]
  simp
/-- what H did not know may change -/
theorem RX.mut {p : Option Addr} {H H' : Hp} {a : Addr} {o : HO} (s : RX p H H') (h : H a = none) (hp : ∀ q, p = some q → PotOk H q) : RX p H (upd H' a o) := by
  refine ⟨fun c u n e => ?_, fun q e k => ?_⟩
  · rw [upd_ne (ne_of_none e h)]
    exact s.keep c u n e
  · have nq : q ≠ a := fun z => by subst z; exact (hp q e).some_ h
    obtain ⟨x, y, e1, r⟩ := s.pot q e k
    exact ⟨x, y, by rw [upd_ne nq]; exact e1, r⟩
/-- the pot is there, where there is one -/
def Has (p : Option Addr) (H : Hp) : Prop := ∀ q, p = some q → PotOk H q
theorem Has.to {p : Option Addr} {H H' : Hp} (h : Has p H) (s : RX p H H') : Has p H' := fun q e => s.pot q e (h q e)
theorem has_none {H : Hp} : Has none H := fun q e => by cases e
theorem Has.ne {p : Option Addr} {H : Hp} (h : Has p H) {a : Addr} (n : H a = none) : p ≠ some a := fun e => (h a e).some_ n
/-- the heap without the pot -/
def hid (p : Option Addr) (H : Hp) : Hp := fun b => if p = some b then none else H b
theorem hid_at {p : Option Addr} {H : Hp} {a : Addr} (n : p ≠ some a) : hid p H a = H a := if_neg n
theorem hid_le {p : Option Addr} {H : Hp} : Same (hid p H) H := fun b o e => by
  unfold hid at e
  split at e
  · cases e
  · exact e
theorem RX.hid {p : Option Addr} {H H' : Hp} (s : RX p H H') : Same (hid p H) (hid p H') := fun b o e => by
  unfold Dn.hid at e ⊢
  split
  · rename_i q; rw [if_pos q] at e; cases e
  · rename_i q; rw [if_neg q] at e; exact s.keep b o q e
/-- what a comprehension asks of its iterator -/
def LcB (g : TG) (tt : TT) (te : TE) (vs : List Nat) (σ : L2.St) (Q : VK) (J : It) (H1 : Hp) : Prop := ∀ D, H1 D = none → ∃ W : Nat → Nat → Hp → Prop, (∃ m, W 0 m (upd H1 D (.lst []))) ∧ ∀ i m H, W i m H →
  (J.stop i H ∧ Q (.ref D) H) ∨ (J.go i H ∧ ∃ Nx : Hp → Prop, (∀ H', Nx H' → ∃ m', m' < m ∧ W (i + 1) m' H') ∧ ∀ x H', J.yld i H x H' → g x (wipe σ vs) H' fun σ2 H2 => wipe σ2 vs = wipe σ vs ∧ tt σ2 H2 fun b H3 =>
    if b = true then te σ2 H3 fun y H4 => ∃ acc, H4 D = some (.lst acc) ∧ acc.length < sizeLine ∧ Nx (upd H4 D (.lst (acc ++ [y]))) else Nx H3)
/-- [e for .. in J] where the elements are scalars that El tells -/
theorem lc_el {p : Option Addr} {J : It} {g : TG} {te : TE} {vs : List Nat} {σ : L2.St} {H1 : Hp} {Q : VK} (n : Nat) (El : Nat → V → Prop) (hp : Has p H1) (hn : n ≤ 1000)
    (hgo : ∀ i H, i < n → RX p H1 H → J.go i H) (hst : ∀ H, RX p H1 H → J.stop n H)
    (hs : ∀ i x H H' (C : VK), i < n → RX p H1 H → Has p H → J.yld i H x H' → (∀ y H4, RX p H H4 → El i y → C y H4) → g x (wipe σ vs) H' fun σ2 H2 => wipe σ2 vs = wipe σ vs ∧ te σ2 H2 C)
    (hd : ∀ D H xs, H1 D = none → RX p H1 H → H D = some (.lst xs) → xs.length = n → (∀ i v, xs[i]? = some v → El i v) → Q (.ref D) H) :
    LcB g tYes te vs σ Q J H1 := by
  intro D nD
  have nP : p ≠ some D := hp.ne nD
  refine ⟨fun i m H => i ≤ n ∧ m = n - i ∧ RX p H1 H ∧ ∃ xs, H D = some (.lst xs) ∧ xs.length = i ∧ ∀ j v, xs[j]? = some v → El j v, ⟨n, Nat.zero_le _, rfl, RX.new nD, [], upd_same, rfl, fun j v e => by simp at e⟩, ?_⟩
  rintro i m H ⟨hi, rfl, s1, xs, hD, hl, hE⟩
  by_cases hlt : i < n
  · refine .inr ⟨hgo i H hlt s1, fun H' => i + 1 ≤ n ∧ RX p H1 H' ∧ ∃ xs, H' D = some (.lst xs) ∧ xs.length = i + 1 ∧ ∀ j v, xs[j]? = some v → El j v, fun H' h => ⟨n - (i + 1), by omega, h.1, rfl, h.2⟩, fun x H' hy => ?_⟩
    refine hs i x H H' _ hlt s1 (hp.to s1) hy fun y H4 s4 e4 => ?_
    have hD4 := s4.keep D _ nP hD
    have s5 : RX p H1 (upd H4 D (.lst (xs ++ [y]))) := (s1.trans s4).mut nD hp
    refine ⟨xs, hD4, Nat.lt_of_lt_of_le (by omega : xs.length < 1001) (by decide), hlt, s5, xs ++ [y], upd_same, by simp [hl], fun j v e => ?_⟩
    by_cases hj : j < xs.length
    · rw [List.getElem?_append_left hj] at e
      exact hE j v e
    · rw [List.getElem?_append_right (by omega)] at e
      have z : j - xs.length = 0 := by
        by_cases q : j - xs.length = 0
        · exact q
        · rw [List.getElem?_eq_none (by simp; omega)] at e; cases e
      rw [z] at e
      cases e
      have : j = i := by omega
      subst this
      exact e4
  · have e : i = n := by omega
    subst e
    exact .inl ⟨hst H s1, hd D H xs nD s1 hD hl hE⟩
/-- .. with a test -/
theorem lc_if {p : Option Addr} {J : It} {g : TG} {tt : TT} {te : TE} {vs : List Nat} {σ : L2.St} {H1 : Hp} {Q : VK} (n : Nat) (T : Nat → Bool) (f : Nat → V) (hp : Has p H1) (hn : n ≤ 1000)
    (hgo : ∀ i H, i < n → RX p H1 H → J.go i H) (hst : ∀ H, RX p H1 H → J.stop n H)
    (hs : ∀ i x H H' (C : V → Hp → Prop) (C0 : Hp → Prop), i < n → RX p H1 H → Has p H → J.yld i H x H' → (∀ H4, RX p H H4 → T i = true → C (f i) H4) → (∀ H4, RX p H H4 → T i = false → C0 H4) →
      g x (wipe σ vs) H' fun σ2 H2 => wipe σ2 vs = wipe σ vs ∧ tt σ2 H2 fun b H3 => if b = true then te σ2 H3 C else C0 H3)
    (hd : ∀ D H, H1 D = none → RX p H1 H → H D = some (.lst (((List.range n).filter T).map f)) → Q (.ref D) H) :
    LcB g tt te vs σ Q J H1 := by
  intro D nD
  have nP : p ≠ some D := hp.ne nD
  refine ⟨fun i m H => i ≤ n ∧ m = n - i ∧ RX p H1 H ∧ H D = some (.lst (((List.range i).filter T).map f)), ⟨n, Nat.zero_le _, rfl, RX.new nD, upd_same⟩, ?_⟩
  rintro i m H ⟨hi, rfl, s1, hD⟩
  by_cases hlt : i < n
  · refine .inr ⟨hgo i H hlt s1, fun H' => i + 1 ≤ n ∧ RX p H1 H' ∧ H' D = some (.lst (((List.range (i + 1)).filter T).map f)), fun H' h => ⟨n - (i + 1), by omega, h.1, rfl, h.2⟩, fun x H' hy => ?_⟩
    refine hs i x H H' _ _ hlt s1 (hp.to s1) hy (fun H4 s4 e4 => ?_) fun H4 s4 e4 => ?_
    · have hD4 := s4.keep D _ nP hD
      refine ⟨_, hD4, ?_, hlt, (s1.trans s4).mut nD hp, ?_⟩
      · rw [List.length_map]
        have := List.length_filter_le T (List.range i)
        rw [List.length_range] at this
        exact Nat.lt_of_lt_of_le (by omega : _ < 1001) (by decide)
      · rw [upd_same, List.range_succ, List.filter_append, List.map_append]
        simp [e4]
    · refine ⟨hlt, s1.trans s4, ?_⟩
      rw [s4.keep D _ nP hD, List.range_succ, List.filter_append, List.map_append]
      simp [e4]
  · have e : i = n := by omega
    subst e
    exact .inl ⟨hst H s1, hd D H nD s1 hD⟩
/-- the whole comprehension, from what its iterator gives -/
theorem tlc_of {wi : TI} {g : TG} {tt : TT} {te : TE} {vs : List Nat} {σ : L2.St} {H H1 : Hp} {Q : VK} (J : It) (hw : ∀ R : It → Hp → Prop, R J H1 → wi σ H R) (h : LcB g tt te vs σ Q J H1) : tLc wi g tt te vs σ H Q := hw _ h
section
variable {σ : L2.St} {H : Hp} {Q : VK} {te ta : TE} {t : TA} {D : Ends}
theorem r_next (h : D.nx σ H) : tNext D σ H := h
theorem r_nif {c : TT} {t u : TS} {rt : VK} {bk ct : L2.St → Hp → Prop} (h : c σ H fun b H1 => if b = true then t D σ H1 else u D σ H1) : tNext ⟨tIfS c t u D, rt, bk, ct⟩ σ H := h
theorem r_nret {rt : VK} {bk ct : L2.St → Hp → Prop} (h : te σ H D.rt) : tNext ⟨tRet te D, rt, bk, ct⟩ σ H := h
theorem r_nseq {t u : TS} {rt : VK} {bk ct : L2.St → Hp → Prop} (h : t { D with nx := u D } σ H) : tNext ⟨tSeq t u D, rt, bk, ct⟩ σ H := h
theorem r_if {c : TT} {t u : TS} (h : c σ H fun b H1 => if b = true then t D σ H1 else u D σ H1) : tIfS c t u D σ H := h
theorem r_not {c : TT} {Q : Bool → Hp → Prop} (h : c σ H fun b H1 => Q (!b) H1) : tNot c σ H Q := h
theorem r_b {Q : Bool → Hp → Prop} (h : te σ H fun x H1 => ∃ c, x = .bl c ∧ Q c H1) : tB te σ H Q := h
theorem r_seq {t u : TS} (h : t { D with nx := u D } σ H) : tSeq t u D σ H := h
theorem r_asg {g : TG} (h : te σ H fun x H1 => g x σ H1 D.nx) : tAsg te g D σ H := h
theorem r_op {r : R2} {ta tb : TE} (h : ta σ H fun x H1 => tb σ H1 fun y H2 => r x y H2 Q) : tOp r ta tb σ H Q := h
theorem r_call {sp : Sp} {dvs : List V} {E : XK} (h : t σ H fun vs H1 => sp (vs ++ dvs) H1 Q E) : tCall sp dvs E t σ H Q := h
theorem r_ret (h : te σ H D.rt) : tRet te D σ H := h
theorem r_cb {r : List V → Hp → VK → Prop} (h : t σ H fun vs H1 => r vs H1 Q) : tCB r t σ H Q := h
theorem r_cons {Q : List V → Hp → Prop} (h : ta σ H fun x H1 => t σ H1 fun xs H2 => Q (x :: xs) H2) : tCons ta t σ H Q := h
end
theorem row2 {K : PySem.W.Frag} {H : Hp} {i : Nat} {t1 t2 : Bool} {a b : Addr} {xs ys : List V} {x y : V} (h1 : SqV K H t1 a xs) (e1 : xs[i]? = some x) (h2 : SqV K H t2 b ys) (e2 : ys[i]? = some y) : RowAt K H i [(t1, a), (t2, b)] [x, y] := ⟨⟨_, h1, e1⟩, ⟨_, h2, e2⟩, trivial⟩
/-! ### a list or a tuple walked -/
def Its (t : Bool) (K : PySem.W.Frag) (a : Addr) : It := cond t (Itt K a) (Itl K a)
theorem its_go {t : Bool} {K : PySem.W.Frag} {a : Addr} {H : Hp} {xs : List V} {x : V} {i : Nat} (q : SqV K H t a xs) (e : xs[i]? = some x) : (Its t K a).go i H := by
  cases t with
  | true => exact ⟨xs, x, q, e⟩
  | false => exact ⟨xs, x, q, e⟩
theorem its_stop {t : Bool} {K : PySem.W.Frag} {a : Addr} {H : Hp} {xs : List V} {i : Nat} (q : SqV K H t a xs) (e : xs.length ≤ i) : (Its t K a).stop i H := by
  cases t with
  | true => exact ⟨xs, q, e⟩
  | false => exact ⟨xs, q, e⟩
theorem its_yld {t : Bool} {K : PySem.W.Frag} {a : Addr} {H H' : Hp} {xs : List V} {x : V} {i : Nat} (y : (Its t K a).yld i H x H') (q : SqV K H t a xs) : H' = H ∧ xs[i]? = some x := by
  cases t with
  | true => exact ⟨y.1, y.2 xs q⟩
  | false => exact ⟨y.1, y.2 xs q⟩
def iSeq (K : PySem.W.Frag) (tl : TE) : TI := fun σ H R => tl σ H fun x H1 => ∃ t a xs, x = .ref a ∧ SqV K H1 t a xs ∧ R (Its t K a) H1
section
variable {X : Cx}
theorem pi_seq {tg l : Expr} {tl : TE} (hl : PE X l tl) : PI X tg l (iSeq X.K tl) := by
  refine ⟨fun pins s σ H R I h => thn (hl.run pins s σ H _ I h) fun v s1 hv => ?_⟩
  obtain ⟨x, H1, I1, rx, t, a, xs, rfl, hq, hR⟩ := hv
  cases (show v = Value.ref a from rx)
  have fr : ∀ b ∈ [s1.heap.objs.size], FpOk X pins H1 b := fun b hb => by
    obtain rfl : b = s1.heap.objs.size := by simpa using hb
    exact I1.fpOk (Nat.le_refl _) (I1.hok.fresh (Nat.le_refl _))
  cases t with
  | true =>
    obtain ⟨its, rv, p, _⟩ := I1.tuple hq
    exact wpAny_pyIter_tuple p ⟨s1.heap.objs.size, [s1.heap.objs.size], _, _, H1, rfl, I1.kept (t' := s1.toks) fun b o e => Heap.get?_push_of_some _ e, turn_tuple a _, ⟨_, Heap.get?_push_size _ rfl, rfl, rfl⟩, fr, hR⟩
  | false =>
    obtain ⟨its, rv, p, _⟩ := I1.list hq
    exact wpAny_pyIter_list p.isList ⟨s1.heap.objs.size, [s1.heap.objs.size], _, _, H1, rfl, I1.kept (t' := s1.toks) fun b o e => Heap.get?_push_of_some _ e, turn_list a _, ⟨_, Heap.get?_push_size _ rfl, rfl, rfl⟩, fr, hR⟩
end
theorem sq_or {t : Bool} {K : PySem.W.Frag} {a : Addr} {H : Hp} {xs : List V} (q : SqV K H t a xs) : SqL K H a xs ∨ SqT K H a xs := by
  cases t with
  | true => exact .inr q
  | false => exact .inl q
def rIxS2 (K : PySem.W.Frag) : R2 := fun x y H Q => ∃ t p xs i v, x = .ref p ∧ y = .int i ∧ SqV K H t p xs ∧ atI xs i = some v ∧ Q v H
theorem ix_sq {X : Cx} : IxR X (rIxS2 X.K) := by
  intro value slice pins s σ H x y v u Q I rx ry h hs
  obtain ⟨t, p, xs, i, z, e1, e2, hq, he, q⟩ := h
  cases t with
  | true => exact ix_tup value slice pins s σ H x y v u Q I rx ry ⟨p, xs, i, z, e1, e2, hq, he, q⟩ hs
  | false => exact ix_list value slice pins s σ H x y v u Q I rx ry ⟨p, xs, i, z, e1, e2, hq, he, q⟩ hs
def rLen (K : PySem.W.Frag) : List V → Hp → VK → Prop := fun xs H Q => ∃ p ys, xs = [.ref p] ∧ (SqL K H p ys ∨ SqT K H p ys) ∧ Q (.int ys.length) H
theorem c_len {X : Cx} : CallR X (.builtin "len") (rLen X.K) := call_len_seq
/-! ### what is never reached -/
section
variable {X : Cx}
theorem pe_dead {e : Expr} : PE X e (fun _ _ _ => False) := ⟨fun _ _ _ _ _ _ h => h.elim⟩
theorem ps_dead {st : Stmt} : PS X st (fun _ _ _ => False) := ⟨fun _ _ _ _ _ _ h => h.elim⟩
theorem pss_dead {st : List Stmt} : PSs X st (fun _ _ _ => False) := ⟨fun _ _ _ _ _ _ h => h.elim⟩
end
end Dn

set_option Elab.async false
set_option linter.all false
set_option maxRecDepth 100000
set_option maxHeartbeats 1000000
namespace K33
open PySem PySem.Spec PyProof.Rows L2 Gd Zn Rp Dn
def top (i : Nat) : Stmt := PySem.Challenge.pw_keptbowls_k33_solutions_judged.main.body.getD i (.Pass ⟨0, 0, 0, 0⟩)
/-! ### defs by name -/
structure Def (P : Program) (w : World) (K : PySem.W.Frag) (mg : Str → Option Value) (base : Heap) (nm : Str) (k : Nat) (ps : List Str) (sp : Sp) : Prop where
  ex : ∃ (f : Addr) (fd : FuncData), FnOk P w K mg base CX0 k f fd ps sp ∧ mg nm = some (.ref f) ∧ PySem.W.keepIn K (.ref f) = true ∧ Binds K fd ps []
section
variable {X : Cx}
theorem pe_def {nm : Str} {k j : Nat} {ps : List Str} {sp : Sp} {e : Expr} {es : List Expr} {t : TA} {p pos : Pos} (D : Def X.prog X.w X.K X.mg X.base nm k ps sp) (room : Room j X.A) (ha : PA X (e :: es) t) (hkj : k ≤ j := by decide) (hg : Gl X nm := by rfl)
    (hdb : (nm == ("__debug__" : Str)) = false := by decide) (he : starEach (e :: es) X.env = (false, eval e X.env) :: starEach es X.env := by rfl) (hpl : (backTo pos (starEach es X.env)).any (·.1) = false := by rfl) :
    PE X (.Call (.Name nm p) (e :: es) [] pos) (tCall sp [] E0 t) := by
  obtain ⟨f, fd, G, m, kp, b⟩ := D.ex
  exact pe_call G (room.mono hkj) hg m kp b .nil pass0 ha hdb he hpl
end
/-! ### values of any kind -/
def AnyV (H : Hp) (v : V) (d : PyData) : Prop := PyV H v d ∨ ∃ a kvs r, v = .ref a ∧ H a = some (.dK kvs) ∧ d = .dict r ∧ Flat kvs r
theorem AnyV.mono {H H' : Hp} {v : V} {d : PyData} (s : Same H H') (h : AnyV H v d) : AnyV H' v d := by
  rcases h with h | ⟨a, kvs, r, e, h, e2, f⟩
  · exact .inl (h.mono s)
  · exact .inr ⟨a, kvs, r, e, s _ _ h, e2, f⟩
def tyD : PyData → String
  | .none => "NoneType" | .bool _ => "bool" | .int _ => "int" | .str _ => "str" | .list _ => "list" | .tuple _ => "tuple" | .dict _ => "dict"
theorem AnyV.ty {K : PySem.W.Frag} {H : Hp} {v : V} {d : PyData} (h : AnyV H v d) : TyX K H v (.type (tyD d)) := by
  rcases h with h | ⟨a, kvs, r, rfl, e, rfl, f⟩
  · cases h with
    | non => exact .base .non
    | bl b => exact .base (.bl b)
    | int i => exact .base (.int i)
    | str x => exact .base (.str x)
    | lst e _ => exact .base (.lst e)
    | tup e _ => exact .base (.tup e)
  · exact .base (.dK e)
def isInt : PyData → Bool
  | .int _ => true
  | _ => false
def isBool : PyData → Bool
  | .bool _ => true
  | _ => false
def isSeq : PyData → Bool
  | .list _ => true
  | .tuple _ => true
  | _ => false
def items : PyData → List PyData
  | .list xs => xs
  | .tuple xs => xs
  | _ => []
theorem kit_int (K : PySem.W.Frag) (d : PyData) : PySem.W.kitOne K (.type (tyD d)) (.type "int") = some (isInt d || isBool d) := by
  cases d <;> dsimp only [tyD, isInt, isBool] <;> exact kit_ty (by decide +kernel)
theorem kit_bool (K : PySem.W.Frag) (d : PyData) : PySem.W.kitOne K (.type (tyD d)) (.type "bool") = some (isBool d) := by
  cases d <;> dsimp only [tyD, isBool] <;> exact kit_ty (by decide +kernel)
theorem kit_seq (K : PySem.W.Frag) (d : PyData) : PySem.W.kitAny K (.type (tyD d)) [.type "list", .type "tuple"] = some (isSeq d) := by
  cases d <;> dsimp only [tyD, isSeq] <;>
  first
  | exact kitAny_cons (kit_ty (b := "list") (r := true) (by decide +kernel)) (fun h => by cases h) (fun _ => rfl)
  | exact kitAny_cons (kit_ty (b := "list") (r := false) (by decide +kernel)) (fun _ => kitAny_cons (kit_ty (b := "tuple") (r := true) (by decide +kernel)) (fun h => by cases h) (fun _ => rfl)) (fun h => by cases h)
  | exact kitAny_cons (kit_ty (b := "list") (r := false) (by decide +kernel)) (fun _ => kitAny_cons (kit_ty (b := "tuple") (r := false) (by decide +kernel)) (fun _ => kitAny_nil) (fun h => by cases h)) (fun h => by cases h)
structure Txt (mg : Str → Option Value) : Prop where
  mEq : ∃ t, mg "MOST_EQUATIONS" = some (.int 60 t)
  mLen : ∃ t, mg "MOST_LENGTH" = some (.int 6 t)
  isi : mg "isinstance" = none
  int : mg "int" = none
  bool : mg "bool" = none
  list : mg "list" = none
  tuple : mg "tuple" = none
  all : mg "all" = none
  sum : mg "sum" = none
  zip : mg "zip" = none
  len : mg "len" = none
  range : mg "range" = none
  repr : mg "repr" = none
  abs : mg "abs" = none
  max : mg "max" = none
  divmod : mg "divmod" = none
  dict : mg "dict" = none
section
variable {P : Program} {w : World} {K : PySem.W.Frag} {mg : Str → Option Value} {base : Heap}
/-! ### is_integer -/
abbrev st_is_integer : Stmt := top 4
def sp_is_integer : Sp := fun vs H Q _ => ∃ v d, vs = [v] ∧ AnyV H v d ∧ ∀ H', Same H H' → Q (.bl (isInt d)) H'
theorem sc_is_integer : FnScope ["value"] ["value"] (defScope st_is_integer) := ⟨rfl, rfl, rfl, by decide +kernel, rfl, by decide +kernel, by decide +kernel⟩
theorem ok_is_integer {f : Addr} {fd : FuncData} (F : Fun K "is_integer" "is_integer" st_is_integer f fd) (T : Txt mg) : FnOk P w K mg base CX0 1 f fd ["value"] sp_is_integer := by
  refine F.ok sc_is_integer (fun vs H Q E h => ?_) (fun cdv A outer s H vs Q E hr h => ?_)
  · obtain ⟨v, d, rfl, _⟩ := h
    rfl
  · obtain ⟨v, d, rfl, av, q⟩ := h
    refine ⟨_, pss_one (ps_ret (pe_and (pe_callB call_isi (by rfl) T.isi boot_isinstance (pa_cons (pv 0) (pa_cons (pe_bltn (v := .ty "int") (by rfl) T.int PyProof.Rows.boot_int rfl) pa_nil)))
      (pe_one (pe_not (pe_callB call_isi (by rfl) T.isi boot_isinstance (pa_cons (pv 0) (pa_cons (pe_bltn (v := .ty "bool") (by rfl) T.bool PyProof.Rows.boot_bool rfl) pa_nil))))))), ?_⟩
    refine ⟨_, rfl, v, .ty "int", _, _, _, rfl, .ty _, av.ty, kit_int K d, _, rfl, ?_⟩
    cases e : isInt d || isBool d with
    | false =>
      refine iteF ?_
      have : isInt d = false := by revert e; cases isInt d <;> simp
      rw [← this]
      exact q H (Same.refl H)
    | true =>
      refine iteT ?_
      refine ⟨_, rfl, v, .ty "bool", _, _, _, rfl, .ty _, av.ty, kit_bool K d, _, rfl, ?_⟩
      have : (!isBool d) = isInt d := by
        revert e
        cases d <;> simp [isInt, isBool]
      rw [this]
      exact q H (Same.refl H)
/-! ### is_list -/
abbrev st_is_list : Stmt := top 5
def sp_is_list : Sp := fun vs H Q _ => ∃ v d, vs = [v] ∧ AnyV H v d ∧ ∀ H', Same H H' → Q (.bl (isSeq d)) H'
theorem sc_is_list : FnScope ["value"] ["value"] (defScope st_is_list) := ⟨rfl, rfl, rfl, by decide +kernel, rfl, by decide +kernel, by decide +kernel⟩
theorem ok_is_list {f : Addr} {fd : FuncData} (F : Fun K "is_list" "is_list" st_is_list f fd) (T : Txt mg) : FnOk P w K mg base CX0 1 f fd ["value"] sp_is_list := by
  refine F.ok sc_is_list (fun vs H Q E h => ?_) (fun cdv A outer s H vs Q E hr h => ?_)
  · obtain ⟨v, d, rfl, _⟩ := h
    rfl
  · obtain ⟨v, d, rfl, av, q⟩ := h
    refine ⟨_, pss_one (ps_ret (pe_callB call_isiT (by rfl) T.isi boot_isinstance (pa_cons (pv 0) (pa_cons (pe_tup (pa_cons (pe_bltn (v := .ty "list") (by rfl) T.list PyProof.Rows.boot_list rfl) (pa_cons (pe_bltn (v := .ty "tuple") (by rfl) T.tuple PyProof.Rows.boot_tuple rfl) pa_nil))) pa_nil)))), ?_⟩
    refine ⟨_, rfl, (by show 2 ≤ sizeLine; decide), fun t ht => ?_⟩
    exact ⟨v, t, _, _, _, _, rfl, upd_same, .cons (.ty _) (.cons (.ty _) .nil), (av.mono (same_new ht)).ty, kit_seq K d, q _ (same_new ht)⟩
/-! ### rows of iD -/
def iD (xs : List Int) : List PyData := xs.map PyData.int
theorem pyVs_ints {H : Hp} : ∀ {vs : List V} {xs : List Int}, PyVs H vs (iD xs) → vs = xs.map V.int
  | _, [], .nil => rfl
  | _, x :: xs, .cons (.int _) q => by rw [pyVs_ints q]; rfl
/-- a list or a tuple, its items -/
def SeqV (H : Hp) (v : V) (ds : List PyData) : Prop := PyV H v (.list ds) ∨ PyV H v (.tuple ds)
theorem SeqV.mono {H H' : Hp} {v : V} {ds : List PyData} (s : Same H H') (h : SeqV H v ds) : SeqV H' v ds := h.imp (PyV.mono s) (PyV.mono s)
theorem SeqV.at {H : Hp} {v : V} {ds : List PyData} (K : PySem.W.Frag) (h : SeqV H v ds) : ∃ (t : Bool) (a : Addr) (vs : List V), v = .ref a ∧ (∀ H', Same H H' → SqV K H' t a vs) ∧ PyVs H vs ds := by
  rcases h with h | h
  · cases h with
    | lst e q => exact ⟨false, _, _, rfl, fun H' s => .inl (.inl (s _ _ e)), q⟩
  · cases h with
    | tup e q => exact ⟨true, _, _, rfl, fun H' s => .inl (.inl (s _ _ e)), q⟩
theorem seq_of {H : Hp} {v : V} {d : PyData} (h : AnyV H v d) (e : isSeq d = true) : SeqV H v (items d) := by
  rcases h with h | ⟨_, _, _, _, _, rfl, _⟩
  · cases h with
    | lst x q => exact .inl (.lst x q)
    | tup x q => exact .inr (.tup x q)
    | non => cases e
    | bl _ => cases e
    | int _ => cases e
    | str _ => cases e
  · cases e
def dot (xs ys : List Int) : Int := ((xs.zip ys).map fun p => p.1 * p.2).sum
def Small (x : Int) : Prop := -(2 ^ 64) < x ∧ x < 2 ^ 64
/-! ### scalar -/
abbrev st_scalar : Stmt := top 7
def sp_scalar : Sp := fun vs H Q _ => ∃ (v o : V) (xs ys : List Int), vs = [v, o] ∧ SeqV H v (iD xs) ∧ SeqV H o (iD ys) ∧ xs.length = ys.length ∧ xs.length ≤ 100 ∧ (∀ x ∈ xs, Small x) ∧ ∀ H', Same H H' → Q (.int (dot xs ys)) H'
theorem sc_scalar : FnScope ["row", "other", "number", "factor"] ["row", "other"] (defScope st_scalar) := ⟨rfl, rfl, rfl, by decide +kernel, rfl, by decide +kernel, by decide +kernel⟩
theorem map_of_get {α : Type} {n : Nat} (f : α → V) : ∀ {vs : List V} {l : List α}, vs.length = l.length → (∀ (i : Nat) (v : V), vs[i]? = some v → ∃ x : α, l[i]? = some x ∧ v = f x) → vs = l.map f
  | [], [], _, _ => rfl
  | v :: vs, x :: l, hl, h => by
    obtain ⟨y, e1, e2⟩ := h 0 v rfl
    cases e1
    rw [e2, map_of_get (n := n) f (Nat.succ.inj hl) (fun i w e => h (i + 1) w e)]
    rfl
theorem ok_scalar {f : Addr} {fd : FuncData} (F : Fun K "scalar" "scalar" st_scalar f fd) (T : Txt mg) : FnOk P w K mg base CX0 1 f fd ["row", "other"] sp_scalar := by
  refine F.ok sc_scalar (fun vs H Q E h => ?_) (fun cdv A outer s H vs Q E hr h => ?_)
  · obtain ⟨v, o, xs, ys, rfl, _⟩ := h
    rfl
  · obtain ⟨v, o, xs, ys, rfl, sx, sy, hl, hb, hsm, q⟩ := h
    refine ⟨_, pss_one (ps_ret (pe_callB (cr_sum rfl) (by rfl) T.sum boot_sum (pa_cons (pe_lc (own := [("number", 2), ("factor", 3)]) (g := gTup K 2 (gCons (gName 2) (gCons (gName 3) gNil))) (tt := tYes) rfl sc_scalar.nd (pi_zipn (by rfl) T.zip (pa_cons (pv 0) (pa_cons (pv 1) pa_nil)))
      (blkOk_by (N := ["row", "other", "number", "factor"]) (sc := defScope st_scalar) (by decide +kernel))
      (fun _ _ _ _ _ => pg_tup rfl (pgs_cons (pg_name (i := 2) sc_scalar.nd rfl (Or.inl rfl) (Or.inr rfl)) (pgs_cons (pg_name (i := 3) sc_scalar.nd rfl (Or.inl rfl) (Or.inr rfl)) pgs_nil)))
      (fun _ _ _ _ _ => pts_nil) (fun _ _ _ _ _ => pe_op op_mul (pv 2) (pv 3))) pa_nil))), ?_⟩
    obtain ⟨t1, a, vx, rfl, qx, px⟩ := sx.at K
    obtain ⟨t2, b, vy, rfl, qy, py⟩ := sy.at K
    have ex := pyVs_ints px
    have ey := pyVs_ints py
    subst ex ey
    refine r_ret (r_cb (r_cons ?_))
    have sq : ∀ H2, Same H H2 → AllSq K H2 [(t1, a), (t2, b)] := fun H2 s2 z hz => by
      rcases List.mem_cons.mp hz with rfl | hz
      · exact ⟨_, qx H2 s2⟩
      · rcases List.mem_cons.mp hz with rfl | hz
        · exact ⟨_, qy H2 s2⟩
        · cases hz
    refine tlc_of (Itn K [(t1, a), (t2, b)]) (H1 := H) (fun R hR => ⟨_, rfl, _, rfl, [(t1, a), (t2, b)], rfl, Nat.zero_lt_succ _, (by show 2 ≤ 3; decide), sq H (Same.refl H), hR⟩) ?_
    refine lc_el (p := none) xs.length (fun i v => ∃ x y, xs[i]? = some x ∧ ys[i]? = some y ∧ v = .int (x * y)) has_none (by omega) (fun i H2 hi s2 => ?_) (fun H2 s2 => ?_) (fun i x H2 H3 C hi s2 _ hy hC => ?_) fun D H2 rs nD s2 hD hrl hE => ?_
    · exact ⟨[.int xs[i], .int (ys[i]'(by omega))], row2 (qx H2 s2.same) (by simp [hi]) (qy H2 s2.same) (by simp [(by omega : i < ys.length)])⟩
    · exact ⟨sq H2 s2.same, (t1, a), List.mem_cons_self, _, qx H2 s2.same, by simp⟩
    · have hi2 : i < ys.length := by omega
      obtain ⟨T2, zs, rfl, nT, rfl, hu⟩ := hy
      have ez : zs = [.int xs[i], .int ys[i]] := (hu _ (row2 (qx H2 s2.same) (by simp [hi]) (qy H2 s2.same) (by simp [hi2]))).symm
      subst ez
      refine ⟨T2, _, rfl, .inl (.inl upd_same), rfl, _, _, rfl, _, _, rfl, rfl, rfl, ?_⟩
      exact ⟨_, rfl, _, rfl, _, _, rfl, rfl, .inl (hsm _ (List.getElem_mem hi)), hC _ _ (RX.new nT) ⟨_, _, List.getElem?_eq_getElem hi, List.getElem?_eq_getElem hi2, rfl⟩⟩
    · have er : rs = (xs.zip ys).map fun (p : Int × Int) => V.int (p.1 * p.2) := map_of_get (n := 0) _ (by simp [hrl, hl]) fun i v e => by
        obtain ⟨x, y, e1, e2, e3⟩ := hE i v e
        exact ⟨(x, y), by rw [List.getElem?_zip_eq_some]; exact ⟨e1, e2⟩, e3⟩
      refine ⟨D, (xs.zip ys).map (fun (p : Int × Int) => p.1 * p.2), rfl, .inl (.inl ?_), q H2 s2.same⟩
      rw [hD, er, List.map_map]
      rfl
/-! ### _is_line -/
abbrev st_is_line : Stmt := top 12
def lineB (d : PyData) (n : Nat) : Bool := isSeq d && decide ((items d).length = n) && (items d).all isInt
def sp_is_line : Sp := fun vs H Q _ => ∃ v d, ∃ n : Nat, vs = [v, .int n] ∧ AnyV H v d ∧ (items d).length ≤ 200 ∧ ∀ H', Same H H' → Q (.bl (lineB d n)) H'
theorem sc_is_line : FnScope ["value", "length", "number"] ["value", "length"] (defScope st_is_line) := ⟨rfl, rfl, rfl, by decide +kernel, rfl, by decide +kernel, by decide +kernel⟩
theorem pyVs_len {H : Hp} : ∀ {vs : List V} {ds : List PyData}, PyVs H vs ds → vs.length = ds.length
  | _, _, .nil => rfl
  | _, _, .cons _ q => by rw [List.length_cons, List.length_cons, pyVs_len q]
theorem pyVs_get {H : Hp} : ∀ {vs : List V} {ds : List PyData} {i : Nat} {v : V}, PyVs H vs ds → vs[i]? = some v → ∃ d, ds[i]? = some d ∧ PyV H v d
  | _, _, _, _, .nil, e => by simp at e
  | _, _, 0, _, .cons (d := d) p _, e => by
    cases e
    exact ⟨d, rfl, p⟩
  | _, _, i + 1, _, .cons _ q, e => by
    obtain ⟨d', h1, h2⟩ := pyVs_get (i := i) q (by simpa using e)
    exact ⟨d', by simpa using h1, h2⟩
theorem ok_is_line {f : Addr} {fd : FuncData} (F : Fun K "_is_line" "_is_line" st_is_line f fd) (T : Txt mg) (D1 : Def P w K mg base "is_list" 1 ["value"] sp_is_list) (D2 : Def P w K mg base "is_integer" 1 ["value"] sp_is_integer) :
    FnOk P w K mg base CX0 2 f fd ["value", "length"] sp_is_line := by
  refine F.ok sc_is_line (fun vs H Q E h => ?_) (fun cdv A outer s H vs Q E hr h => ?_)
  · obtain ⟨v, d, n, rfl, _⟩ := h
    rfl
  · obtain ⟨v, d, n, rfl, av, hb, q⟩ := h
    refine ⟨_, pss_one (ps_ret (pe_and (pe_def D1 hr (pa_cons (pv 0) pa_nil))
      (pe_and (pe_cmpR op_eq (pe_callB (r := rLen K) c_len (by rfl) T.len PySem.boot_len (pa_cons (pv 0) pa_nil)) (pv 1) (nomark _))
      (pe_one (pe_callB (cr_all rfl) (by rfl) T.all boot_all (pa_cons (pe_lc (own := [("number", 2)]) (g := gName 2) (tt := tYes) rfl sc_is_line.nd (pi_seq (pv 0))
        (blkOk_by (N := ["value", "length", "number"]) (sc := defScope st_is_line) (by decide +kernel))
        (fun _ _ _ _ _ => pg_name (i := 2) sc_is_line.nd rfl (Or.inl rfl) (Or.inr rfl)) (fun _ _ _ _ _ => pts_nil) (fun _ _ _ _ _ => pe_def (X := Cx.blk _ _ _ _ _ _) D2 hr (pa_cons (pv 2) pa_nil))) pa_nil)))))), ?_⟩
    refine ⟨_, rfl, v, d, rfl, av, fun H1 s1 => ⟨_, rfl, ?_⟩⟩
    cases e1 : isSeq d with
    | false =>
      refine iteF ?_
      have : lineB d n = false := by unfold lineB; rw [e1]; rfl
      rw [← this]
      exact q H1 s1
    | true =>
      refine iteT ?_
      obtain ⟨t, a, vx, rfl, qx, px⟩ := (seq_of av e1).at K
      have hvl : vx.length = (items d).length := pyVs_len px
      refine ⟨_, rfl, a, vx, rfl, sq_or (qx H1 s1), _, rfl, rfl, _, rfl, ?_⟩
      cases e2 : decide ((V.int (vx.length : Int)) = V.int n) with
      | false =>
        refine iteF ?_
        have z : decide ((items d).length = n) = false := by
          rw [decide_eq_false_iff_not] at e2 ⊢
          intro z
          exact e2 (by rw [hvl, z])
        have : lineB d n = false := by unfold lineB; rw [z, Bool.and_false]; rfl
        rw [← this]
        exact q H1 s1
      | true =>
        refine iteT ?_
        have z : decide ((items d).length = n) = true := by
          rw [decide_eq_true_eq] at e2 ⊢
          have := V.int.inj e2
          omega
        refine r_cb (r_cons ?_)
        refine tlc_of (Its t K a) (H1 := H1) (fun R hR => ⟨_, rfl, t, a, vx, rfl, qx H1 s1, hR⟩) ?_
        refine lc_el (p := none) vx.length (fun i v => ∃ d', (items d)[i]? = some d' ∧ v = .bl (isInt d')) has_none (by omega) (fun i H2 hi s2 => ?_) (fun H2 s2 => ?_) (fun i x H2 H3 C hi s2 _ hy hC => ?_) fun Da H2 rs nD s2 hD hrl hE => ?_
        · exact its_go (qx H2 (s1.trans s2.same)) (List.getElem?_eq_getElem hi)
        · exact its_stop (qx H2 (s1.trans s2.same)) (Nat.le_refl _)
        · obtain ⟨rfl, ex⟩ := its_yld hy (qx H2 (s1.trans s2.same))
          obtain ⟨d', ed, pd⟩ := pyVs_get px ex
          refine ⟨rfl, ?_⟩
          exact ⟨_, rfl, x, d', rfl, .inl (PyV.mono (s1.trans s2.same) pd), fun H4 s4 => hC _ _ (RX.of s4) ⟨d', ed, rfl⟩⟩
        · have er : rs = (items d).map fun d' => V.bl (isInt d') := map_of_get (n := 0) _ (by rw [hrl, hvl]) hE
          refine ⟨Da, (items d).map isInt, rfl, .inl (.inl ?_), ?_⟩
          · rw [hD, er, List.map_map]
            rfl
          · have : lineB d n = ((items d).map isInt).all id := by
              unfold lineB
              rw [e1, z, List.all_map]
              rfl
            rw [← this]
            exact q H2 (s1.trans s2.same)
/-! ### equations -/
def EqD (L : List (List Int)) : List PyData := L.map fun r => PyData.list (iD r)
structure EqOk (L : List (List Int)) (n : Nat) : Prop where
  ne : 1 ≤ L.length
  le : L.length ≤ 60
  n1 : 1 ≤ n
  n6 : n ≤ 6
  all : ∀ r ∈ L, r.length = n
theorem SeqV.any {H : Hp} {v : V} {ds : List PyData} (h : SeqV H v ds) : ∃ d, AnyV H v d ∧ isSeq d = true ∧ items d = ds := by
  rcases h with h | h
  · exact ⟨_, .inl h, rfl, rfl⟩
  · exact ⟨_, .inl h, rfl, rfl⟩
theorem lineB_row {r : List Int} {n : Nat} (h : r.length = n) : lineB (.list (iD r)) n = true := by
  unfold lineB
  have e1 : (items (PyData.list (iD r))).length = n := by show (iD r).length = n; unfold iD; rw [List.length_map]; exact h
  rw [decide_eq_true e1]
  show (true && true && (iD r).all isInt) = true
  unfold iD
  rw [List.all_map]
  simp [isInt, Function.comp_def]
theorem eq_first {H : Hp} {vs : List V} {L : List (List Int)} {n i : Nat} {x : V} (p : PyVs H vs (EqD L)) (ok : EqOk L n) (e : vs[i]? = some x) : ∃ r, L[i]? = some r ∧ r.length = n ∧ PyV H x (.list (iD r)) := by
  obtain ⟨d, e1, pd⟩ := pyVs_get p e
  unfold EqD at e1
  rw [List.getElem?_map] at e1
  cases e2 : L[i]? with
  | none => rw [e2] at e1; cases e1
  | some r =>
    rw [e2] at e1
    cases e1
    exact ⟨r, rfl, ok.all r (List.mem_of_getElem? e2), pd⟩
theorem list_at {H : Hp} {x : V} {ds : List PyData} (h : PyV H x (.list ds)) : ∃ a vs, x = .ref a ∧ H a = some (.lst vs) ∧ PyVs H vs ds := by
  cases h with
  | lst e q => exact ⟨_, _, rfl, e, q⟩
/-! ### _check_equations -/
abbrev st_check : Stmt := top 13
def sp_check : Sp := fun vs H Q _ => ∃ v L n, vs = [v] ∧ SeqV H v (EqD L) ∧ EqOk L n ∧ ∀ H', Same H H' → Q .non H'
theorem sc_check : FnScope ["equations", "first", "line"] ["equations"] (defScope st_check) := ⟨rfl, rfl, rfl, by decide +kernel, rfl, by decide +kernel, by decide +kernel⟩
theorem ok_check {f : Addr} {fd : FuncData} (F : Fun K "_check_equations" "_check_equations" st_check f fd) (T : Txt mg) (D1 : Def P w K mg base "is_list" 1 ["value"] sp_is_list) (D2 : Def P w K mg base "_is_line" 2 ["value", "length"] sp_is_line) :
    FnOk P w K mg base CX0 3 f fd ["equations"] sp_check := by
  refine F.ok sc_check (fun vs H Q E h => ?_) (fun cdv A outer s H vs Q E hr h => ?_)
  · obtain ⟨v, L, n, rfl, _⟩ := h
    rfl
  · obtain ⟨v, L, n, rfl, sv, ok, q⟩ := h
    obtain ⟨t60, m60⟩ := T.mEq
    obtain ⟨t6, m6⟩ := T.mLen
    refine ⟨_, pss_cons (ps_if (PW.pt (pw_or (pt_not (pt_val (pe_def D1 hr (pa_cons (pv 0) pa_nil)))) (pw_or1 (pt_not (pt_chain op_le op_le pe_int (pe_callB (r := rLen K) c_len (by rfl) T.len PySem.boot_len (pa_cons (pv 0) pa_nil)) (pe_glob (v := .int 60) (by rfl) m60 ⟨t60, rfl⟩)))))) pss_dead pss_nil)
      (pss_cons (ps_set (i := 1) sc_check.nd rfl (Or.inr rfl) (pe_ix ix_sq (pv 0) pe_int (fun _ _ => rfl)))
      (pss_cons (ps_if (PW.pt (pw_or (pt_not (pt_val (pe_def D1 hr (pa_cons (pv 1) pa_nil)))) (pw_or1 (pt_not (pt_chain op_le op_le pe_int (pe_callB (r := rLen K) c_len (by rfl) T.len PySem.boot_len (pa_cons (pv 1) pa_nil)) (pe_glob (v := .int 6) (by rfl) m6 ⟨t6, rfl⟩)))))) pss_dead pss_nil)
      (pss_one (ps_if (pt_not (pt_val (pe_callB (cr_all rfl) (by rfl) T.all boot_all (pa_cons (pe_lc (own := [("line", 2)]) (g := gName 2) (tt := tYes) rfl sc_check.nd (pi_seq (pv 0))
        (blkOk_by (N := ["equations", "first", "line"]) (sc := defScope st_check) (by decide +kernel))
        (fun _ _ _ _ _ => pg_name (i := 2) sc_check.nd rfl (Or.inl rfl) (Or.inr rfl)) (fun _ _ _ _ _ => pts_nil)
        (fun _ _ _ _ _ => pe_def (X := Cx.blk _ _ _ _ _ _) D2 hr (pa_cons (pv 2) (pa_cons (pe_callB (r := rLen K) c_len (by rfl) T.len PySem.boot_len (pa_cons (pv 1) pa_nil)) pa_nil)))) pa_nil)))) pss_dead pss_nil)))), ?_⟩
    obtain ⟨t, a, vx, rfl, qx, px⟩ := sv.at K
    have hvl : vx.length = L.length := by rw [pyVs_len px]; unfold EqD; rw [List.length_map]
    have h0 : 0 < vx.length := by rw [hvl]; exact ok.ne
    obtain ⟨de, ae, ise, _⟩ := sv.any
    -- the test of the whole
    refine ⟨_, rfl, _, de, rfl, ae, fun H1 s1 => ⟨_, rfl, ?_⟩⟩
    rw [ise]
    refine iteF ?_
    refine ⟨_, rfl, a, vx, rfl, sq_or (qx H1 s1), _, _, rfl, rfl, _, rfl, ?_⟩
    rw [decide_eq_true (show (1 : Int) ≤ vx.length by omega)]
    refine iteT ⟨_, _, rfl, rfl, _, rfl, ?_⟩
    rw [decide_eq_true (show (vx.length : Int) ≤ 60 by have := ok.le; omega)]
    refine iteF ?_
    -- the first line
    have e0 : vx[0]? = some vx[0] := List.getElem?_eq_getElem h0
    refine ⟨_, rfl, t, a, vx, (0 : Int), _, rfl, rfl, qx H1 s1, atI_nat e0, ?_⟩
    obtain ⟨r0, er0, lr0, p0⟩ := eq_first px ok e0
    obtain ⟨b, vb, eb, hb, pb⟩ := list_at p0
    have lvb : vb.length = n := by rw [pyVs_len pb]; unfold iD; rw [List.length_map]; exact lr0
    rw [eb]
    refine ⟨_, rfl, _, .list (iD r0), rfl, .inl (eb ▸ PyV.mono s1 p0), fun H2 s2 => ⟨_, rfl, ?_⟩⟩
    refine iteF ?_
    refine ⟨_, rfl, b, vb, rfl, .inl (.inl (.inl (s2 _ _ (s1 _ _ hb)))), _, _, rfl, rfl, _, rfl, ?_⟩
    rw [decide_eq_true (show (1 : Int) ≤ vb.length by have := ok.n1; omega)]
    refine iteT ⟨_, _, rfl, rfl, _, rfl, ?_⟩
    rw [decide_eq_true (show (vb.length : Int) ≤ 6 by have := ok.n6; omega)]
    refine iteF ?_
    -- all lines
    refine r_nif (r_not (r_b (r_cb (r_cons ?_))))
    have s12 := s1.trans s2
    refine tlc_of (Its t K a) (H1 := H2) (fun R hR => ⟨_, rfl, t, a, vx, rfl, qx H2 s12, hR⟩) ?_
    refine lc_el (p := none) vx.length (fun i v => v = .bl true) has_none (by have := ok.le; omega) (fun i H3 hi s3 => ?_) (fun H3 s3 => ?_) (fun i x H3 H4 C hi s3 _ hy hC => ?_) fun Da H3 rs nD s3 hD hrl hE => ?_
    · exact its_go (qx H3 (s12.trans s3.same)) (List.getElem?_eq_getElem hi)
    · exact its_stop (qx H3 (s12.trans s3.same)) (Nat.le_refl _)
    · have s13 := s12.trans s3.same
      obtain ⟨rfl, ex⟩ := its_yld hy (qx _ s13)
      obtain ⟨r, er, lr, pr⟩ := eq_first px ok ex
      refine ⟨rfl, ?_⟩
      refine ⟨_, rfl, _, rfl, b, vb, rfl, .inl (.inl (.inl (s13 _ _ hb))), x, .list (iD r), n, by rw [lvb]; rfl, .inl (PyV.mono s13 pr), ?_, fun H5 s5 => ?_⟩
      · show (iD r).length ≤ 200
        unfold iD
        rw [List.length_map, lr]
        have := ok.n6
        omega
      · rw [lineB_row lr]
        exact hC _ _ (RX.of s5) rfl
    · have er : rs = (List.replicate vx.length true).map V.bl := map_of_get (n := 0) _ (by simp [hrl]) fun i v e => by
        have hi : i < vx.length := by rw [← hrl]; exact (List.getElem?_eq_some_iff.mp e).1
        exact ⟨true, by rw [List.getElem?_replicate, if_pos hi], hE i v e⟩
      refine ⟨Da, List.replicate vx.length true, rfl, .inl (.inl (by rw [hD, er])), _, rfl, ?_⟩
      have : (List.replicate vx.length true).all id = true := by simp
      rw [this]
      refine iteF ?_
      exact q H3 (s12.trans s3.same)
/-! ### is_solution -/
abbrev st_is_solution : Stmt := top 11
def numsD (d : PyData) : List Int := (items d).map fun | .int i => i | _ => 0
def solB (L : List (List Int)) (n : Nat) (d : PyData) : Bool := lineB d n && L.all fun r => decide (dot r (numsD d) = 0)
def sp_is_solution : Sp := fun vs H Q _ => ∃ ve L n v d, vs = [ve, v] ∧ SeqV H ve (EqD L) ∧ EqOk L n ∧ (∀ r ∈ L, ∀ x ∈ r, Small x) ∧ AnyV H v d ∧ (items d).length ≤ 200 ∧ ∀ H', Same H H' → Q (.bl (solB L n d)) H'
theorem sc_is_solution : FnScope ["equations", "value", "line"] ["equations", "value"] (defScope st_is_solution) := ⟨rfl, rfl, rfl, by decide +kernel, rfl, by decide +kernel, by decide +kernel⟩
theorem nums_of {ds : List PyData} (h : ds.all isInt = true) : ds = iD (ds.map fun | .int i => i | _ => 0) := by
  induction ds with
  | nil => rfl
  | cons d r ih =>
    rw [List.all_cons, Bool.and_eq_true] at h
    cases d with
    | int i =>
      show _ = PyData.int i :: iD _
      rw [← ih h.2]
    | none => cases h.1
    | bool _ => cases h.1
    | str _ => cases h.1
    | list _ => cases h.1
    | tuple _ => cases h.1
    | dict _ => cases h.1
theorem ok_is_solution {f : Addr} {fd : FuncData} (F : Fun K "is_solution" "is_solution" st_is_solution f fd) (T : Txt mg) (D1 : Def P w K mg base "_check_equations" 3 ["equations"] sp_check) (D2 : Def P w K mg base "_is_line" 2 ["value", "length"] sp_is_line)
    (D3 : Def P w K mg base "scalar" 1 ["row", "other"] sp_scalar) : FnOk P w K mg base CX0 4 f fd ["equations", "value"] sp_is_solution := by
  refine F.ok sc_is_solution (fun vs H Q E h => ?_) (fun cdv A outer s H vs Q E hr h => ?_)
  · obtain ⟨ve, L, n, v, d, rfl, _⟩ := h
    rfl
  · obtain ⟨ve, L, n, v, d, rfl, sv, ok, hsm, av, hb, q⟩ := h
    refine ⟨_, pss_cons (ps_expr (pe_def D1 hr (pa_cons (pv 0) pa_nil)))
      (pss_cons (ps_if (pt_not (pt_val (pe_def D2 hr (pa_cons (pv 1) (pa_cons (pe_callB (r := rLen K) c_len (by rfl) T.len PySem.boot_len (pa_cons (pe_ix ix_sq (pv 0) pe_int (fun _ _ => rfl)) pa_nil)) pa_nil))))) (pss_one (ps_ret pe_bl)) pss_nil)
      (pss_one (ps_ret (pe_callB (cr_all rfl) (by rfl) T.all boot_all (pa_cons (pe_lc (own := [("line", 2)]) (g := gName 2) (tt := tYes) rfl sc_is_solution.nd (pi_seq (pv 0))
        (blkOk_by (N := ["equations", "value", "line"]) (sc := defScope st_is_solution) (by decide +kernel))
        (fun _ _ _ _ _ => pg_name (i := 2) sc_is_solution.nd rfl (Or.inl rfl) (Or.inr rfl)) (fun _ _ _ _ _ => pts_nil)
        (fun _ _ _ _ _ => pe_cmpR op_eq (pe_def (X := Cx.blk _ _ _ _ _ _) D3 hr (pa_cons (pv 2) (pa_cons (pv 1) pa_nil))) pe_int (nomark _))) pa_nil))))), ?_⟩
    obtain ⟨t, a, vx, rfl, qx, px⟩ := sv.at K
    have hvl : vx.length = L.length := by rw [pyVs_len px]; unfold EqD; rw [List.length_map]
    have h0 : 0 < vx.length := by rw [hvl]; exact ok.ne
    refine ⟨_, rfl, _, L, n, rfl, sv, ok, fun H1 s1 => ?_⟩
    have e0 : vx[0]? = some vx[0] := List.getElem?_eq_getElem h0
    obtain ⟨r0, er0, lr0, p0⟩ := eq_first px ok e0
    obtain ⟨b, vb, eb, hbb, pb⟩ := list_at p0
    have lvb : vb.length = n := by rw [pyVs_len pb]; unfold iD; rw [List.length_map]; exact lr0
    refine ⟨_, rfl, _, rfl, t, a, vx, (0 : Int), _, rfl, rfl, qx H1 s1, atI_nat e0, ?_⟩
    rw [eb]
    refine ⟨b, vb, rfl, .inl (.inl (.inl (s1 _ _ hbb))), v, d, n, by rw [lvb]; rfl, av.mono s1, hb, fun H2 s2 => ⟨_, rfl, ?_⟩⟩
    have s12 := s1.trans s2
    cases el : lineB d n with
    | false =>
      refine iteT ?_
      have : solB L n d = false := by unfold solB; rw [el]; rfl
      show Q (.bl false) H2
      rw [← this]
      exact q H2 s12
    | true =>
      refine iteF ?_
      have el2 := el
      unfold lineB at el2
      rw [Bool.and_eq_true, Bool.and_eq_true, decide_eq_true_eq] at el2
      obtain ⟨⟨is_, ln⟩, ai⟩ := el2
      have sd : SeqV H v (iD (numsD d)) := by
        have z := seq_of av is_
        rw [nums_of ai] at z
        exact z
      have lnd : (numsD d).length = n := by unfold numsD; rw [List.length_map]; exact ln
      refine r_nret (r_cb (r_cons ?_))
      refine tlc_of (Its t K a) (H1 := H2) (fun R hR => ⟨_, rfl, t, a, vx, rfl, qx H2 s12, hR⟩) ?_
      refine lc_el (p := none) vx.length (fun i v => ∃ r, L[i]? = some r ∧ v = .bl (decide (dot r (numsD d) = 0))) has_none (by have := ok.le; omega) (fun i H3 hi s3 => ?_) (fun H3 s3 => ?_) (fun i x H3 H4 C hi s3 _ hy hC => ?_) fun Da H3 rs nD s3 hD hrl hE => ?_
      · exact its_go (qx H3 (s12.trans s3.same)) (List.getElem?_eq_getElem hi)
      · exact its_stop (qx H3 (s12.trans s3.same)) (Nat.le_refl _)
      · have s13 := s12.trans s3.same
        obtain ⟨rfl, ex⟩ := its_yld hy (qx _ s13)
        obtain ⟨r, er, lr, pr⟩ := eq_first px ok ex
        refine ⟨rfl, ?_⟩
        have hl6 : r.length ≤ 100 := by have := ok.n6; omega
        refine ⟨_, rfl, _, rfl, x, v, r, numsD d, rfl, .inl (PyV.mono s13 pr), sd.mono s13, by rw [lr, lnd], hl6, hsm r (List.mem_of_getElem? er), fun H5 s5 => ?_⟩
        refine ⟨rfl, ?_⟩
        refine hC _ _ (RX.of s5) ⟨r, er, ?_⟩
        by_cases z : dot r (numsD d) = 0
        · rw [decide_eq_true z, decide_eq_true (congrArg V.int z)]
        · rw [decide_eq_false z, decide_eq_false (fun q => z (V.int.inj q))]
      · have er : rs = L.map fun r => V.bl (decide (dot r (numsD d) = 0)) := map_of_get (n := 0) _ (by rw [hrl, hvl]) hE
        refine ⟨Da, L.map fun r => decide (dot r (numsD d) = 0), rfl, .inl (.inl (by rw [hD, er, List.map_map]; rfl)), ?_⟩
        have : (L.map fun r => decide (dot r (numsD d) = 0)).all id = solB L n d := by
          unfold solB
          rw [el, List.all_map]
          rfl
        rw [this]
        exact q H3 (s12.trans s3.same)
end
end K33

set_option Elab.async false
set_option linter.all false
set_option maxRecDepth 100000
set_option maxHeartbeats 1000000
namespace K33
open PySem PySem.Spec PyProof.Rows L2 Gd Zn Rp Dn
section
variable {P : Program} {w : World} {K : PySem.W.Frag} {mg : Str → Option Value} {base : Heap}
theorem atI_of {α : Type} {xs : List α} {r : Int} {x : α} (h : 0 ≤ r) (e : xs[r.toNat]? = some x) : atI xs r = some x := by
  have := atI_nat e
  rw [show ((r.toNat : Nat) : Int) = r by omega] at this
  exact this
/-! ### _law_draw -/
abbrev st_draw : Stmt := top 16
def sp_draw : Sp := fun vs H Q _ => ∃ (p : Addr) (m : Int), vs = [.ref p, .int m] ∧ PotOk H p ∧ 0 < m ∧ m < 1000 ∧ ∀ (r : Int) H', 0 ≤ r → r < m → RX (some p) H H' → Q (.int r) H'
theorem sc_draw : FnScope ["_law_pot_here", "_law_many", "_law_digit"] ["_law_pot_here", "_law_many"] (defScope st_draw) := ⟨rfl, rfl, rfl, by decide +kernel, rfl, by decide +kernel, by decide +kernel⟩
theorem set_pot {p : Addr} {H H1 : Hp} {a b : Int} (s : Same H H1) (ha : 0 ≤ a) (hb : 0 ≤ b) (hb2 : b < 2 ^ 32) : RX (some p) H (upd H1 p (.lst [.int a, .int b])) := by
  refine ⟨fun c o n e => ?_, fun q e _ => ?_⟩
  · have nc : c ≠ p := fun z => n (by rw [z])
    rw [upd_ne nc]
    exact s _ _ e
  · cases e
    exact ⟨a, b, upd_same, ha, hb, hb2⟩
theorem ok_draw {f : Addr} {fd : FuncData} (F : Fun K "_law_draw" "_law_draw" st_draw f fd) (T : Txt mg) : FnOk P w K mg base CX0 1 f fd ["_law_pot_here", "_law_many"] sp_draw := by
  refine F.ok sc_draw (fun vs H Q E h => ?_) (fun cdv A outer s H vs Q E hr h => ?_)
  · obtain ⟨p, m, rfl, _⟩ := h
    rfl
  · obtain ⟨p, m, rfl, ⟨a, b, hp, ha, hb, hb2⟩, m0, m1, q⟩ := h
    refine ⟨_, pss_cons (ps_if (pt_cmpR op_gt (pe_ix ix_list (pv 0) pe_int (fun _ _ => rfl)) pe_int (nomark _))
        (pss_cons (ps_asg (pe_callB call_divmod (by rfl) T.divmod boot_divmod (pa_cons (pe_ix ix_list (pv 0) pe_int (fun _ _ => rfl)) (pa_cons (pv 1) pa_nil)))
          (pg_tup rfl (pgs_cons (pg_sub (pv 0) pe_int set_list) (pgs_cons (pg_name (i := 2) sc_draw.nd rfl (Or.inl rfl)) pgs_nil)))) (pss_one (ps_ret (pv 2)))) pss_nil)
      (pss_cons (ps_asg (pe_op op_mod (pe_op op_add (pe_op op_mul (pe_ix ix_list (pv 0) pe_int (fun _ _ => rfl)) pe_int) pe_int) pe_int) (pg_sub (pv 0) pe_int set_list))
      (pss_one (ps_ret (pe_op op_mod (pe_op op_fdiv (pe_op op_mod (pe_op op_mul (pe_ix ix_list (pv 0) pe_int (fun _ _ => rfl)) (pe_ix ix_list (pv 0) pe_int (fun _ _ => rfl))) pe_int) pe_int) (pv 1))))), ?_⟩
    have i0 : ∀ x y : V, atI [x, y] 0 = some x := fun x y => atI_nat (j := 0) rfl
    have i1 : ∀ x y : V, atI [x, y] 1 = some y := fun x y => atI_nat (j := 1) rfl
    refine ⟨_, rfl, p, _, (0 : Int), _, rfl, rfl, .inl (.inl hp), i0 _ _, _, _, rfl, rfl, _, rfl, ?_⟩
    by_cases c : 0 < a
    · rw [decide_eq_true c]
      refine iteT ?_
      refine ⟨_, rfl, p, _, (0 : Int), _, rfl, rfl, .inl (.inl hp), i0 _ _, _, rfl, _, _, rfl, ⟨m0, by omega⟩, fun t nt => ?_⟩
      have ne : p ≠ t := ne_of_none hp nt
      refine ⟨t, _, rfl, .inl (.inl upd_same), rfl, _, _, rfl, _, rfl, p, _, 0, 0, rfl, rfl, (by rw [upd_ne ne]; exact hp), rfl, _, _, rfl, rfl, ?_⟩
      refine ⟨_, rfl, ?_⟩
      refine q _ _ (Int.emod_nonneg _ (by omega)) (Int.emod_lt_of_pos _ m0) ?_
      exact set_pot (same_new nt) (Int.ediv_nonneg ha (by omega)) hb hb2
    · rw [decide_eq_false c]
      refine iteF ?_
      have hb' : (b * 48271 + 18089) % 2147483587 < 2147483587 := Int.emod_lt_of_pos _ (by decide)
      have hb0 : 0 ≤ (b * 48271 + 18089) % 2147483587 := Int.emod_nonneg _ (by decide)
      refine ⟨_, rfl, p, _, (1 : Int), _, rfl, rfl, .inl (.inl hp), i1 _ _, _, _, rfl, rfl, .inr ⟨by decide, by decide⟩, _, _, rfl, rfl, _, _, rfl, rfl, (show (0 : Int) < 2147483587 by decide), _, rfl, p, _, 1, 1, rfl, rfl, hp, rfl, ?_⟩
      have h2 : upd H p (.lst [V.int a, V.int ((b * 48271 + 18089) % 2147483587)]) p = some (.lst [V.int a, V.int ((b * 48271 + 18089) % 2147483587)]) := upd_same
      refine ⟨_, rfl, p, _, (1 : Int), _, rfl, rfl, .inl (.inl h2), i1 _ _, _, rfl, p, _, (1 : Int), _, rfl, rfl, .inl (.inl h2), i1 _ _, _, _, rfl, rfl, .inl ⟨by omega, by omega⟩, _, _, rfl, rfl, (show (0 : Int) < 2147483549 by decide), _, _, rfl, rfl, ⟨by decide, by decide⟩, _, rfl, _, _, rfl, rfl, m0, ?_⟩
      exact q _ _ (Int.emod_nonneg _ (by omega)) (Int.emod_lt_of_pos _ m0) (set_pot (Same.refl H) ha hb0 (by omega))
/-! ### _law_pick -/
abbrev st_pick : Stmt := top 17
def sp_pick : Sp := fun vs H Q _ => ∃ (p a : Addr) (xs : List V), vs = [.ref p, .ref a] ∧ PotOk H p ∧ H a = some (.lst xs) ∧ a ≠ p ∧ 0 < xs.length ∧ xs.length < 1000 ∧ ∀ (i : Nat) (x : V) H', xs[i]? = some x → RX (some p) H H' → Q x H'
theorem sc_pick : FnScope ["_law_pot_here", "_law_some"] ["_law_pot_here", "_law_some"] (defScope st_pick) := ⟨rfl, rfl, rfl, by decide +kernel, rfl, by decide +kernel, by decide +kernel⟩
theorem ok_pick {f : Addr} {fd : FuncData} (F : Fun K "_law_pick" "_law_pick" st_pick f fd) (T : Txt mg) (D1 : Def P w K mg base "_law_draw" 1 ["_law_pot_here", "_law_many"] sp_draw) : FnOk P w K mg base CX0 2 f fd ["_law_pot_here", "_law_some"] sp_pick := by
  refine F.ok sc_pick (fun vs H Q E h => ?_) (fun cdv A outer s H vs Q E hr h => ?_)
  · obtain ⟨p, a, xs, rfl, _⟩ := h
    rfl
  · obtain ⟨p, a, xs, rfl, hp, ha, nap, l0, l1, q⟩ := h
    refine ⟨_, pss_one (ps_ret (pe_ix ix_list (pv 1) (pe_def D1 hr (pa_cons (pv 0) (pa_cons (pe_callB (r := rLen K) c_len (by rfl) T.len PySem.boot_len (pa_cons (pv 1) pa_nil)) pa_nil))) (fun _ _ => rfl))), ?_⟩
    refine ⟨_, rfl, _, rfl, _, rfl, a, xs, rfl, .inl (.inl (.inl ha)), p, _, rfl, hp, by omega, by omega, fun r H' r0 r1 s => ?_⟩
    have hk : H' a = some (.lst xs) := s.keep a _ (by intro z; cases z; exact nap rfl) ha
    have hr' : r.toNat < xs.length := by omega
    have er : r = (r.toNat : Int) := by omega
    have e1 : xs[r.toNat]? = some xs[r.toNat] := List.getElem?_eq_getElem hr'
    refine ⟨a, xs, r, _, rfl, rfl, .inl (.inl hk), atI_of r0 e1, q _ _ _ e1 s⟩
/-! ### _law_pot -/
abbrev st_pot : Stmt := top 15
def sp_pot (K : PySem.W.Frag) : Sp := fun vs H Q _ => ∃ (a : Addr) (ns : List Int) (k : Int), vs = [.ref a, .int k] ∧ SqL K H a (ns.map V.int) ∧ ns.length ≤ 63 ∧ 0 ≤ k ∧ k ≤ 1 ∧ ∀ p H', H p = none → Same H H' → PotOk H' p → Q (.ref p) H'
theorem sc_pot : FnScope ["_law_script", "_law_k", "_law_cell"] ["_law_script", "_law_k"] (defScope st_pot) := ⟨rfl, rfl, rfl, by decide +kernel, rfl, by decide +kernel, by decide +kernel⟩
theorem cut_pre (xs : List V) (n : Nat) : cutV xs none (some n) = xs.take n := by
  unfold cutV
  rw [show HT.sIx xs.length xs.length (some (n : Int)) = min n xs.length from HT.sIx_nat _ _ _, HT.sIx_none]
  simp
theorem ok_pot {f : Addr} {fd : FuncData} (F : Fun K "_law_pot" "_law_pot" st_pot f fd) (T : Txt mg) : FnOk P w K mg base CX0 1 f fd ["_law_script", "_law_k"] (sp_pot K) := by
  refine F.ok sc_pot (fun vs H Q E h => ?_) (fun cdv A outer s H vs Q E hr h => ?_)
  · obtain ⟨a, ns, k, rfl, _⟩ := h
    rfl
  · obtain ⟨a, ns, k, rfl, hS, hl, k0, k1, q⟩ := h
    refine ⟨_, pss_cons (ps_set (i := 2) sc_pot.nd rfl (Or.inl rfl) (pe_op op_add (pe_op op_add (pe_op op_mul pe_int (pv 1)) pe_int) (pe_op op_mod (pe_callB (cr_sum rfl) (by rfl) T.sum boot_sum (pa_cons (pe_slice sl_list (pv 0) po_none (po_some pe_int)) pa_nil)) pe_int)))
      (pss_cons (ps_if (pt_cmpR op_lt (pv 1) (pe_callB (r := rLen K) c_len (by rfl) T.len PySem.boot_len (pa_cons (pv 0) pa_nil)) (nomark _)) (pss_one (ps_set (i := 2) sc_pot.nd rfl (Or.inl rfl) (pe_callB call_abs (by rfl) T.abs boot_abs (pa_cons (pe_ix ix_list (pv 0) (pv 1) (fun _ _ => rfl)) pa_nil)))) pss_nil)
      (pss_one (ps_ret (pe_lst (pa_cons (pe_callB (call_max2 rfl) (by rfl) T.max boot_max (pa_cons pe_int (pa_cons (pe_op op_sub (pv 2) (pe_op op_pow pe_int pe_int)) pa_nil)))
        (pa_cons (pe_op op_add (pe_op op_mod (pe_op op_mul (pe_op op_add (pe_op op_mod (pv 2) pe_int) pe_int) (pe_op op_pow (pe_op op_add (pe_op op_mul pe_int (pv 1)) pe_int) pe_int)) pe_int) pe_int) pa_nil)))))), ?_⟩
    have fin : ∀ (c : Int) (H1 : Hp), Same H H1 → ∀ p, H1 p = none → Q (.ref p) (upd H1 p (.lst [.int (if c - 10 ^ 18 > 0 then c - 10 ^ 18 else 0), .int ((c % 2147483549 + 18089) * (2 * k + 3) ^ 3 % 2147483477 + 1)])) := fun c H1 s1 p np => by
      refine q p _ (Same.free s1 np) (s1.trans (same_new np)) ⟨_, _, upd_same, ?_, ?_, ?_⟩
      · split <;> omega
      · have := Int.emod_nonneg ((c % 2147483549 + 18089) * (2 * k + 3) ^ 3) (show (2147483477 : Int) ≠ 0 by decide)
        omega
      · have := Int.emod_lt_of_pos ((c % 2147483549 + 18089) * (2 * k + 3) ^ 3) (show (0 : Int) < 2147483477 by decide)
        omega
    have tail : ∀ (c : Int) (H1 : Hp), Same H H1 → tRet (tLst (tCons (tCB (fun xs H Q => ∃ i j, xs = [.int i, .int j] ∧ Q (.int (if j > i then j else i)) H) (tCons (tC (.int 0)) (tCons (tOp (rI0 fun i j => .int (i - j)) (tVar 2) (tOp (rI CPow fun i j => .int (i ^ j.toNat)) (tC (.int 10)) (tC (.int 18)))) tNil)))
        (tCons (tOp (rI0 fun i j => .int (i + j)) (tOp (rI (fun _ j => 0 < j) fun i j => .int (i % j)) (tOp (rI CMul fun i j => .int (i * j)) (tOp (rI0 fun i j => .int (i + j)) (tOp (rI (fun _ j => 0 < j) fun i j => .int (i % j)) (tVar 2) (tC (.int 2147483549))) (tC (.int 18089)))
          (tOp (rI CPow fun i j => .int (i ^ j.toNat)) (tOp (rI0 fun i j => .int (i + j)) (tOp (rI CMul fun i j => .int (i * j)) (tC (.int 2)) (tVar 1)) (tC (.int 3))) (tC (.int 3)))) (tC (.int 2147483477))) (tC (.int 1))) tNil))) { nx := fun _ H' => Q .non H', rt := Q } [some (.ref a), some (.int k), some (.int c)] H1 := fun c H1 s1 => by
      have m1 := Int.emod_nonneg c (show (2147483549 : Int) ≠ 0 by decide)
      have m2 := Int.emod_lt_of_pos c (show (0 : Int) < 2147483549 by decide)
      refine ⟨_, rfl, _, _, rfl, rfl, ⟨by decide, by decide, by decide⟩, _, _, rfl, rfl, _, _, rfl, ?_⟩
      refine ⟨_, rfl, _, _, rfl, rfl, (show (0 : Int) < 2147483549 by decide), _, _, rfl, rfl, _, rfl, _, _, rfl, rfl, .inl ⟨by decide, by decide⟩, _, _, rfl, rfl, _, _, rfl, rfl, ⟨by decide, by decide, by show (2 * k + 3).natAbs < 2 ^ 64; omega⟩, _, _, rfl, rfl, .inl ⟨by omega, by omega⟩, _, _, rfl, rfl, (show (0 : Int) < 2147483477 by decide), _, _, rfl, rfl, ?_⟩
      exact ⟨(by show 2 ≤ sizeLine; decide), fun p np => fin c H1 s1 p np⟩
    refine ⟨_, rfl, _, _, rfl, rfl, .inl ⟨by decide, by decide⟩, _, _, rfl, rfl, _, rfl, 1, rfl, a, _, rfl, hS, fun c nc => ?_⟩
    have s1 : Same H (upd H c (.lst (cutV (ns.map V.int) none (some 1)))) := same_new nc
    refine ⟨c, ns.take 1, rfl, .inl (.inl (by rw [upd_same, show (1 : Int) = ((1 : Nat) : Int) from rfl, cut_pre, List.map_take])), _, _, rfl, rfl, (show (0 : Int) < 1000003 by decide), _, _, rfl, rfl, ?_⟩
    refine ⟨_, rfl, _, rfl, a, _, rfl, .inl (s1.seq hS), _, _, rfl, rfl, _, rfl, ?_⟩
    rw [List.length_map]
    by_cases c : k < (ns.length : Int)
    · rw [decide_eq_true c]
      refine iteT ?_
      have hk : k.toNat < ns.length := by omega
      have e1 : (ns.map V.int)[k.toNat]? = some (.int ns[k.toNat]) := by simp [hk]
      refine ⟨_, rfl, _, rfl, a, _, _, _, rfl, rfl, s1.seq hS, atI_of k0 e1, _, rfl, ?_⟩
      exact tail _ _ s1
    · rw [decide_eq_false c]
      refine iteF ?_
      exact tail _ _ s1
/-! ### _law_dot -/
abbrev st_dot : Stmt := top 18
def sp_dot : Sp := fun vs H Q _ => ∃ (v o : V) (xs ys : List Int), vs = [v, o] ∧ SeqV H v (iD xs) ∧ SeqV H o (iD ys) ∧ xs.length = ys.length ∧ xs.length ≤ 100 ∧ (∀ x ∈ xs, Small x) ∧ ∀ H', Same H H' → Q (.int (dot xs ys)) H'
theorem sc_dot : FnScope ["_law_one", "_law_other", "_law_at"] ["_law_one", "_law_other"] (defScope st_dot) := ⟨rfl, rfl, rfl, by decide +kernel, rfl, by decide +kernel, by decide +kernel⟩
theorem ok_dot {f : Addr} {fd : FuncData} (F : Fun K "_law_dot" "_law_dot" st_dot f fd) (T : Txt mg) : FnOk P w K mg base CX0 1 f fd ["_law_one", "_law_other"] sp_dot := by
  refine F.ok sc_dot (fun vs H Q E h => ?_) (fun cdv A outer s H vs Q E hr h => ?_)
  · obtain ⟨v, o, xs, ys, rfl, _⟩ := h
    rfl
  · obtain ⟨v, o, xs, ys, rfl, sx, sy, hl, hb, hsm, q⟩ := h
    refine ⟨_, pss_one (ps_ret (pe_callB (cr_sum rfl) (by rfl) T.sum boot_sum (pa_cons (pe_lc (own := [("_law_at", 2)]) (g := gName 2) (tt := tYes) rfl sc_dot.nd (pi_range1 (by rfl) T.range (pa_cons (pe_callB (r := rLen K) c_len (by rfl) T.len PySem.boot_len (pa_cons (pv 0) pa_nil)) pa_nil))
      (blkOk_by (N := ["_law_one", "_law_other", "_law_at"]) (sc := defScope st_dot) (by decide +kernel))
      (fun _ _ _ _ _ => pg_name (i := 2) sc_dot.nd rfl (Or.inl rfl) (Or.inr rfl)) (fun _ _ _ _ _ => pts_nil)
      (fun _ _ _ _ _ => pe_op op_mul (pe_ix (r := rIxS2 K) ix_sq (pv 0) (pv 2) (fun _ _ => rfl)) (pe_ix (r := rIxS2 K) ix_sq (pv 1) (pv 2) (fun _ _ => rfl)))) pa_nil))), ?_⟩
    obtain ⟨t1, a, vx, rfl, qx, px⟩ := sx.at K
    obtain ⟨t2, b, vy, rfl, qy, py⟩ := sy.at K
    have ex := pyVs_ints px
    have ey := pyVs_ints py
    subst ex ey
    refine r_ret (r_cb (r_cons ?_))
    refine tlc_of (Itr 0 xs.length) (H1 := H) (fun R hR => ⟨_, rfl, a, _, rfl, sq_or (qx H (Same.refl H)), (xs.length : Int), by rw [List.length_map], by omega, by omega, hR⟩) ?_
    refine lc_el (p := none) xs.length (fun i v => ∃ x y, xs[i]? = some x ∧ ys[i]? = some y ∧ v = .int (x * y)) has_none (by omega) (fun i H2 hi s2 => hi) (fun H2 s2 => Nat.le_refl _) (fun i x H2 H3 C hi s2 _ hy hC => ?_) fun D H2 rs nD s2 hD hrl hE => ?_
    · have hi2 : i < ys.length := by omega
      obtain ⟨rfl, rfl⟩ := hy
      refine ⟨rfl, ?_⟩
      have e1 : (xs.map V.int)[(0 + (i : Int)).toNat]? = some (.int xs[i]) := by simp [hi]
      have e2 : (ys.map V.int)[(0 + (i : Int)).toNat]? = some (.int ys[i]) := by simp [hi2]
      refine ⟨_, rfl, _, rfl, t1, a, _, _, _, rfl, rfl, qx _ s2.same, atI_of (by omega) e1, _, rfl, _, rfl, t2, b, _, _, _, rfl, rfl, qy _ s2.same, atI_of (by omega) e2, _, _, rfl, rfl, .inl (hsm _ (List.getElem_mem hi)), ?_⟩
      exact hC _ _ (RX.refl _) ⟨_, _, List.getElem?_eq_getElem hi, List.getElem?_eq_getElem hi2, rfl⟩
    · have er : rs = (xs.zip ys).map fun (p : Int × Int) => V.int (p.1 * p.2) := map_of_get (n := 0) _ (by simp [hrl, hl]) fun i v e => by
        obtain ⟨x, y, e1, e2, e3⟩ := hE i v e
        exact ⟨(x, y), by rw [List.getElem?_zip_eq_some]; exact ⟨e1, e2⟩, e3⟩
      refine ⟨D, (xs.zip ys).map (fun (p : Int × Int) => p.1 * p.2), rfl, .inl (.inl ?_), q H2 s2.same⟩
      rw [hD, er, List.map_map]
      rfl
/-! ### _law_solves -/
abbrev st_solves : Stmt := top 19
def sp_solves : Sp := fun vs H Q _ => ∃ ve L n v xs, vs = [ve, v] ∧ SeqV H ve (EqD L) ∧ EqOk L n ∧ (∀ r ∈ L, ∀ x ∈ r, Small x) ∧ SeqV H v (iD xs) ∧ xs.length = n ∧ ∀ H', Same H H' → Q (.bl (L.all fun r => decide (dot r xs = 0))) H'
theorem sc_solves : FnScope ["_law_equations", "_law_line", "_law_equation"] ["_law_equations", "_law_line"] (defScope st_solves) := ⟨rfl, rfl, rfl, by decide +kernel, rfl, by decide +kernel, by decide +kernel⟩
theorem ones_dp {H : Hp} {n : Nat} : DpAll K H (List.replicate n (V.int 1)) (List.replicate n (PyData.int 1)) := by
  induction n with
  | zero => exact .nil
  | succ n ih => exact .cons (.int 1) ih
theorem ones_lay {n : Nat} : PyData.canLayAll0 (List.replicate n (PyData.int 1)) = true := by
  induction n with
  | zero => simp only [List.replicate, PyData.canLayAll0]
  | succ n ih => rw [List.replicate_succ]; simp only [PyData.canLayAll0, PyData.canLay0, ih, Bool.and_self]
theorem ones_dep {n : Nat} : PyData.depthAll (List.replicate n (PyData.int 1)) = 0 := by
  induction n with
  | zero => simp only [List.replicate, PyData.depthAll]
  | succ n ih => rw [List.replicate_succ]; simp only [PyData.depthAll, PyData.depth, ih, Nat.max_self]
theorem ones_shaped {n : Nat} : SeqAt.shaped (.list (List.replicate n (PyData.int 1))) = true := by
  unfold SeqAt.shaped
  simp only [PyData.canLay0, ones_lay, PyData.depth, ones_dep]
  decide
theorem ones_eqv {n : Nat} : PyData.eqv (.list (List.replicate n (PyData.int 1))) (.list []) = decide (n = 0) := by
  cases n with
  | zero => simp only [List.replicate, PyData.eqv, PyData.eqvAll]; decide
  | succ n => rw [List.replicate_succ]; simp only [PyData.eqv, PyData.eqvAll]; simp
theorem filt_ones {α : Type} {n : Nat} (T : Nat → Bool) : (((List.range n).filter T).map fun _ => V.int 1) = List.replicate ((List.range n).filter T).length (V.int 1) := by
  rw [List.map_const']
theorem ok_solves {f : Addr} {fd : FuncData} (F : Fun K "_law_solves" "_law_solves" st_solves f fd) (T : Txt mg) (D1 : Def P w K mg base "_law_dot" 1 ["_law_one", "_law_other"] sp_dot) : FnOk P w K mg base CX0 2 f fd ["_law_equations", "_law_line"] sp_solves := by
  refine F.ok sc_solves (fun vs H Q E h => ?_) (fun cdv A outer s H vs Q E hr h => ?_)
  · obtain ⟨ve, L, n, v, xs, rfl, _⟩ := h
    rfl
  · obtain ⟨ve, L, n, v, xs, rfl, sv, ok, hsm, sx, lx, q⟩ := h
    have hu : (A.deeper (envOfC "_law_solves" (defScope st_solves) s.heap.objs.size f cdv)).units + 64 < cLine := by have := hr.un; omega
    refine ⟨_, pss_one (ps_ret (pe_cmpR (op_eqD hu) (pe_lc (own := [("_law_equation", 2)]) (g := gName 2) (tt := tTest (tOp rNe (tCall sp_dot [] E0 (tCons (tVar 2) (tCons (tVar 1) tNil))) (tC (.int 0)))) (te := tC (.int 1)) rfl sc_solves.nd (pi_seq (pv 0))
      (blkOk_by (N := ["_law_equations", "_law_line", "_law_equation"]) (sc := defScope st_solves) (by decide +kernel))
      (fun _ _ _ _ _ => pg_name (i := 2) sc_solves.nd rfl (Or.inl rfl) (Or.inr rfl)) (fun _ _ _ _ _ => pts_one (pt_cmpR op_ne (pe_def (X := Cx.blk _ _ _ _ _ _) D1 hr (pa_cons (pv 2) (pa_cons (pv 1) pa_nil))) pe_int (nomark _))) (fun _ _ _ _ _ => pe_int)) (pe_lst pa_nil) (nomark _))), ?_⟩
    obtain ⟨t, a, vx, rfl, qx, px⟩ := sv.at K
    have hvl : vx.length = L.length := by rw [pyVs_len px]; unfold EqD; rw [List.length_map]
    refine r_ret (r_op ?_)
    refine tlc_of (Its t K a) (H1 := H) (fun R hR => ⟨_, rfl, t, a, vx, rfl, qx H (Same.refl H), hR⟩) ?_
    refine lc_if (p := none) vx.length (fun i => !decide (dot (L.getD i []) xs = 0)) (fun _ => .int 1) has_none (by have := ok.le; omega) (fun i H3 hi s3 => ?_) (fun H3 s3 => ?_) (fun i x H3 H4 C C0 hi s3 _ hy hC hC0 => ?_) fun Da H3 nD s3 hD => ?_
    · exact its_go (qx H3 s3.same) (List.getElem?_eq_getElem hi)
    · exact its_stop (qx H3 s3.same) (Nat.le_refl _)
    · obtain ⟨rfl, ex⟩ := its_yld hy (qx _ s3.same)
      obtain ⟨r, er, lr, pr⟩ := eq_first px ok ex
      have eg : L.getD i [] = r := by rw [List.getD_eq_getElem?_getD, er]; rfl
      have hl6 : r.length ≤ 100 := by have := ok.n6; omega
      refine ⟨rfl, ?_⟩
      refine ⟨_, rfl, _, rfl, x, v, r, xs, rfl, .inl (PyV.mono s3.same pr), sx.mono s3.same, by rw [lr, lx], hl6, hsm r (List.mem_of_getElem? er), fun H5 s5 => ?_⟩
      refine ⟨rfl, _, rfl, ?_⟩
      by_cases z : dot r xs = 0
      · rw [decide_eq_true (congrArg V.int z)]
        refine iteF (hC0 _ (RX.of s5) ?_)
        show (!decide (dot (L.getD i []) xs = 0)) = false
        rw [eg, decide_eq_true z]
        rfl
      · rw [decide_eq_false (fun q => z (V.int.inj q))]
        refine iteT (hC _ (RX.of s5) ?_)
        show (!decide (dot (L.getD i []) xs = 0)) = true
        rw [eg, decide_eq_false z]
        rfl
    · refine ⟨Nat.zero_le _, fun Db nb => ?_⟩
      rw [filt_ones (α := Nat)] at hD
      have nab : Da ≠ Db := ne_of_none hD nb
      refine ⟨_, _, .lst (.inl (.inl (by rw [upd_ne nab]; exact hD))) ones_dp, .lst (.inl (.inl upd_same)) .nil, ones_shaped, by decide +kernel, ?_⟩
      rw [ones_eqv]
      have : decide (((List.range vx.length).filter fun i => !decide (dot (L.getD i []) xs = 0)).length = 0) = L.all fun r => decide (dot r xs = 0) := by
        rw [Bool.eq_iff_iff, decide_eq_true_eq, List.length_eq_zero_iff, List.filter_eq_nil_iff, List.all_eq_true]
        constructor
        · intro h r hr'
          obtain ⟨i, hi, e⟩ := List.mem_iff_getElem.mp hr'
          have := h i (List.mem_range.mpr (by omega))
          rw [List.getD_eq_getElem?_getD, List.getElem?_eq_getElem hi] at this
          rw [← e]
          simpa using this
        · intro h i hi
          have hi2 : i < L.length := by have := List.mem_range.mp hi; omega
          rw [List.getD_eq_getElem?_getD, List.getElem?_eq_getElem hi2]
          have := h L[i] (List.getElem_mem hi2)
          simpa using this
      rw [this]
      exact q _ (s3.same.trans (same_new nb))
/-! ### _law_is_solution -/
abbrev st_lsol : Stmt := top 20
def sp_lsol : Sp := fun vs H Q _ => ∃ ve L n v d, vs = [ve, v] ∧ SeqV H ve (EqD L) ∧ EqOk L n ∧ (∀ r ∈ L, ∀ x ∈ r, Small x) ∧ AnyV H v d ∧ (items d).length ≤ 200 ∧ ∀ H', Same H H' → Q (.bl (solB L n d)) H'
theorem sc_lsol : FnScope ["_law_equations", "_law_value", "_law_one"] ["_law_equations", "_law_value"] (defScope st_lsol) := ⟨rfl, rfl, rfl, by decide +kernel, rfl, by decide +kernel, by decide +kernel⟩
theorem ones_nev {n : Nat} : (!PyData.eqv (.list (List.replicate n (PyData.int 1))) (.list [])) = !decide (n = 0) := by rw [ones_eqv]
theorem ok_lsol {f : Addr} {fd : FuncData} (F : Fun K "_law_is_solution" "_law_is_solution" st_lsol f fd) (T : Txt mg) (D1 : Def P w K mg base "_law_solves" 2 ["_law_equations", "_law_line"] sp_solves) : FnOk P w K mg base CX0 3 f fd ["_law_equations", "_law_value"] sp_lsol := by
  refine F.ok sc_lsol (fun vs H Q E h => ?_) (fun cdv A outer s H vs Q E hr h => ?_)
  · obtain ⟨ve, L, n, v, d, rfl, _⟩ := h
    rfl
  · obtain ⟨ve, L, n, v, d, rfl, sv, ok, hsm, av, hb, q⟩ := h
    have hu : (A.deeper (envOfC "_law_is_solution" (defScope st_lsol) s.heap.objs.size f cdv)).units + 64 < cLine := by have := hr.un; omega
    refine ⟨_, pss_cons (ps_if (PW.pt (pw_or (pt_not (pt_val (pe_callB call_isiT (by rfl) T.isi boot_isinstance (pa_cons (pv 1) (pa_cons (pe_tup (pa_cons (pe_bltn (v := .ty "list") (by rfl) T.list PyProof.Rows.boot_list rfl) (pa_cons (pe_bltn (v := .ty "tuple") (by rfl) T.tuple PyProof.Rows.boot_tuple rfl) pa_nil))) pa_nil)))))
        (pw_or1 (pt_cmpR op_ne (pe_callB (r := rLen K) c_len (by rfl) T.len PySem.boot_len (pa_cons (pv 1) pa_nil)) (pe_callB (r := rLen K) c_len (by rfl) T.len PySem.boot_len (pa_cons (pe_ix ix_sq (pv 0) pe_int (fun _ _ => rfl)) pa_nil)) (nomark _))))) (pss_one (ps_ret pe_bl)) pss_nil)
      (pss_cons (ps_if (pt_cmpR (op_neD hu) (pe_lc (own := [("_law_one", 2)]) (g := gName 2)
          (tt := tOr (tNot (tB (tCB (rIsi K) (tCons (tVar 2) (tCons (tC (.ty "int")) tNil))))) (tB (tCB (rIsi K) (tCons (tVar 2) (tCons (tC (.ty "bool")) tNil))))) (te := tC (.int 1)) rfl sc_lsol.nd (pi_seq (pv 1))
        (blkOk_by (N := ["_law_equations", "_law_value", "_law_one"]) (sc := defScope st_lsol) (by decide +kernel))
        (fun _ _ _ _ _ => pg_name (i := 2) sc_lsol.nd rfl (Or.inl rfl) (Or.inr rfl))
        (fun _ _ _ _ _ => pts_one (PW.pt (pw_or (pt_not (pt_val (pe_callB (r := rIsi K) call_isi (by rfl) T.isi boot_isinstance (pa_cons (pv 2) (pa_cons (pe_bltn (v := .ty "int") (by rfl) T.int PyProof.Rows.boot_int rfl) pa_nil)))))
          (pw_or1 (pt_val (pe_callB (r := rIsi K) call_isi (by rfl) T.isi boot_isinstance (pa_cons (pv 2) (pa_cons (pe_bltn (v := .ty "bool") (by rfl) T.bool PyProof.Rows.boot_bool rfl) pa_nil)))))))) (fun _ _ _ _ _ => pe_int)) (pe_lst pa_nil) (nomark _)) (pss_one (ps_ret pe_bl)) pss_nil)
      (pss_one (ps_ret (pe_def D1 hr (pa_cons (pv 0) (pa_cons (pv 1) pa_nil)))))), ?_⟩
    have no : ∀ H', Same H H' → solB L n d = false → Q (.bl false) H' := fun H' s e => by rw [← e]; exact q H' s
    refine ⟨_, rfl, (by show 2 ≤ sizeLine; decide), fun t0 ht0 => ⟨v, t0, _, _, _, _, rfl, upd_same, .cons (.ty _) (.cons (.ty _) .nil), (av.mono (same_new ht0)).ty, kit_seq K d, _, rfl, ?_⟩⟩
    have s1 := same_new (o := .tup [V.ty "list", V.ty "tuple"]) ht0
    cases e1 : isSeq d with
    | false =>
      refine iteT ?_
      exact no _ s1 (by unfold solB lineB; rw [e1]; rfl)
    | true =>
      refine iteF ?_
      have sdv := seq_of av e1
      obtain ⟨t, a, vx, rfl, qx, px⟩ := sdv.at K
      obtain ⟨te, ae, ve', rfl, qe, pe⟩ := sv.at K
      have hvl : vx.length = (items d).length := pyVs_len px
      have hvl2 : ve'.length = L.length := by rw [pyVs_len pe]; unfold EqD; rw [List.length_map]
      have h0 : 0 < ve'.length := by rw [hvl2]; exact ok.ne
      have e0 : ve'[0]? = some ve'[0] := List.getElem?_eq_getElem h0
      obtain ⟨r0, er0, lr0, p0⟩ := eq_first pe ok e0
      obtain ⟨b, vb, eb, hbb, pb⟩ := list_at p0
      have lvb : vb.length = n := by rw [pyVs_len pb]; unfold iD; rw [List.length_map]; exact lr0
      refine ⟨_, rfl, a, vx, rfl, sq_or (qx _ s1), _, rfl, te, ae, ve', (0 : Int), _, rfl, rfl, qe _ s1, atI_nat e0, ?_⟩
      rw [eb]
      refine ⟨b, vb, rfl, .inl (.inl (.inl (s1 _ _ hbb))), rfl, _, rfl, ?_⟩
      by_cases z : (items d).length = n
      · rw [decide_eq_true (show V.int (vx.length : Int) = V.int (vb.length : Int) by rw [hvl, lvb, z])]
        refine iteF ?_
        -- numbers alone
        refine r_nseq (r_if (r_op ?_))
        refine tlc_of (Its t K a) (H1 := upd H t0 (.tup [V.ty "list", V.ty "tuple"])) (fun R hR => ⟨_, rfl, t, a, vx, rfl, qx _ s1, hR⟩) ?_
        refine lc_if (p := none) vx.length (fun i => !isInt ((items d).getD i .none)) (fun _ => .int 1) has_none (by omega) (fun i H3 hi s3 => ?_) (fun H3 s3 => ?_) (fun i x H3 H4 C C0 hi s3 _ hy hC hC0 => ?_) fun Da H3 nD s3 hD => ?_
        · exact its_go (qx H3 (s1.trans s3.same)) (List.getElem?_eq_getElem hi)
        · exact its_stop (qx H3 (s1.trans s3.same)) (Nat.le_refl _)
        · have s13 := s1.trans s3.same
          obtain ⟨rfl, ex⟩ := its_yld hy (qx _ s13)
          obtain ⟨d', ed, pd⟩ := pyVs_get px ex
          have eg : (items d).getD i .none = d' := by rw [List.getD_eq_getElem?_getD, ed]; rfl
          have ty := AnyV.ty (K := K) (.inl (PyV.mono s13 pd))
          refine ⟨rfl, ?_⟩
          refine ⟨_, rfl, x, .ty "int", _, _, _, rfl, .ty _, ty, kit_int K d', _, rfl, ?_⟩
          cases e5 : isInt d' with
          | true =>
            have e6 : isBool d' = false := by cases d' <;> first | rfl | cases e5
            refine iteF ⟨_, rfl, x, .ty "bool", _, _, _, rfl, .ty _, ty, kit_bool K d', _, rfl, ?_⟩
            rw [e6]
            refine iteF (hC0 _ (RX.refl _) ?_)
            show (!isInt ((items d).getD i .none)) = false
            rw [eg, e5]
            rfl
          | false =>
            have fin : (!isInt ((items d).getD i .none)) = true := by rw [eg, e5]; rfl
            cases e6 : isBool d' with
            | false =>
              refine iteT ?_
              exact iteT (hC _ (RX.refl _) fin)
            | true =>
              refine iteF ⟨_, rfl, x, .ty "bool", _, _, _, rfl, .ty _, ty, kit_bool K d', _, rfl, ?_⟩
              rw [e6]
              exact iteT (hC _ (RX.refl _) fin)
        · refine ⟨Nat.zero_le _, fun Db nb => ?_⟩
          rw [filt_ones (α := Nat)] at hD
          have nab : Da ≠ Db := ne_of_none hD nb
          have s4 := s1.trans (s3.same.trans (same_new (o := .lst []) nb))
          refine ⟨_, _, .lst (.inl (.inl (by rw [upd_ne nab]; exact hD))) ones_dp, .lst (.inl (.inl upd_same)) .nil, ones_shaped, by decide +kernel, ?_⟩
          rw [ones_nev]
          have key : decide (((List.range vx.length).filter fun i => !isInt ((items d).getD i .none)).length = 0) = (items d).all isInt := by
            rw [Bool.eq_iff_iff, decide_eq_true_eq, List.length_eq_zero_iff, List.filter_eq_nil_iff, List.all_eq_true]
            constructor
            · intro h d' hd'
              obtain ⟨i, hi, e⟩ := List.mem_iff_getElem.mp hd'
              have := h i (List.mem_range.mpr (by omega))
              rw [List.getD_eq_getElem?_getD, List.getElem?_eq_getElem hi] at this
              rw [← e]
              simpa using this
            · intro h i hi
              have hi2 : i < (items d).length := by have := List.mem_range.mp hi; omega
              rw [List.getD_eq_getElem?_getD, List.getElem?_eq_getElem hi2]
              have := h (items d)[i] (List.getElem_mem hi2)
              simpa using this
          rw [key]
          refine ⟨_, rfl, ?_⟩
          cases ai : (items d).all isInt with
          | false =>
            refine iteT ?_
            exact no _ s4 (by unfold solB lineB; rw [ai, Bool.and_false]; rfl)
          | true =>
            refine iteF ?_
            have sd : SeqV H (.ref a) (iD (numsD d)) := by
              have y := sdv
              rw [nums_of ai] at y
              exact y
            have lnd : (numsD d).length = n := by unfold numsD; rw [List.length_map]; exact z
            refine ⟨_, rfl, _, rfl, _, L, n, _, numsD d, rfl, sv.mono s4, ok, hsm, sd.mono s4, lnd, fun H5 s5 => ?_⟩
            have : solB L n d = L.all fun r => decide (dot r (numsD d) = 0) := by
              unfold solB lineB
              rw [e1, ai, decide_eq_true z]
              rfl
            rw [← this]
            exact q H5 (s4.trans s5)
      · rw [decide_eq_false (fun q => z (by have := V.int.inj q; rw [hvl, lvb] at this; omega))]
        refine iteT ?_
        exact no _ s1 (by unfold solB lineB; rw [decide_eq_false z, Bool.and_false]; rfl)
end
end K33

set_option Elab.async false
set_option linter.all false
set_option maxRecDepth 100000
set_option maxHeartbeats 1000000
namespace K33
open PySem PySem.Spec PyProof.Rows L2 Gd Zn Rp Dn
theorem rx_free {p : Option Addr} {H H' : Hp} {a : Addr} (s : RX p H H') (hp : Has p H) (n : H' a = none) : H a = none := by
  cases e : H a with
  | none => rfl
  | some o =>
    by_cases z : p = some a
    · exact absurd n ((hp.to s) a z).some_
    · rw [s.keep a o z e] at n
      cases n
theorem some_ne {p a : Addr} {H : Hp} (hp : PotOk H p) (n : H a = none) : some p ≠ some a := fun z => by
  cases z
  exact hp.some_ n
theorem rep_flat (n : Nat) (v : V) : (List.replicate n [v]).flatten = List.replicate n v := by
  induction n with
  | zero => rfl
  | succ n ih => rw [List.replicate_succ, List.flatten_cons, ih, List.replicate_succ]; rfl
theorem ints_list {rs : List V} {n : Nat} {R : Int → Prop} (hl : rs.length = n) (h : ∀ (i : Nat) (v : V), rs[i]? = some v → ∃ x : Int, v = .int x ∧ R x) : ∃ fs : List Int, rs = fs.map V.int ∧ fs.length = n ∧ ∀ x ∈ fs, R x := by
  induction rs generalizing n with
  | nil => exact ⟨[], rfl, hl, fun x hx => by cases hx⟩
  | cons v r ih =>
    cases n with
    | zero => cases hl
    | succ n =>
      obtain ⟨x, rfl, hx⟩ := h 0 v rfl
      obtain ⟨fs, e1, e2, e3⟩ := ih (Nat.succ.inj hl) fun i w e => h (i + 1) w e
      exact ⟨x :: fs, by rw [e1]; rfl, by rw [List.length_cons, e2], fun y hy => by
        rcases List.mem_cons.mp hy with rfl | hy
        · exact hx
        · exact e3 y hy⟩
def oneL (fs : List Int) : List Int := ((List.replicate fs.length 0).set 0 (0 - fs.getD 1 0)).set 1 (fs.getD 0 0)
def otherL (fs : List Int) : List Int := ((List.replicate fs.length 0).set (fs.length - 1) (0 - fs.getD 0 0)).set 0 (fs.getD (fs.length - 1) 0)
theorem ixN_of {n : Nat} {i : Int} (h0 : 0 ≤ i) (h1 : i < n) : ixN n i = some i.toNat := by
  unfold ixN
  rw [if_pos h0, if_pos h1]
theorem at_getD {fs : List Int} {i : Nat} (h : i < fs.length) : (fs.map V.int)[i]? = some (.int (fs.getD i 0)) := by
  rw [List.getElem?_map, List.getElem?_eq_getElem h, List.getD_eq_getElem?_getD, List.getElem?_eq_getElem h]
  rfl
section
variable {P : Program} {w : World} {K : PySem.W.Frag} {mg : Str → Option Value} {base : Heap}
/-! ### _law_pair -/
abbrev st_pair : Stmt := top 21
def sp_pair : Sp := fun vs H Q _ => ∃ (p : Addr) (n : Nat) (g : Int), vs = [.ref p, .int n, .int g] ∧ PotOk H p ∧ 2 ≤ n ∧ n ≤ 6 ∧ 0 ≤ g ∧ g ≤ 100000000000000 ∧
  ∀ (fs : List Int) (nm : Int) (t e f m o u : Addr) (H' : Hp), fs.length = n → (∀ x ∈ fs, -4 ≤ x ∧ x ≤ 100000000000004) → -2 ≤ nm → nm ≤ 2 → RX (some p) H H' → (∀ a ∈ [t, e, f, m, o, u], a ≠ p) →
    H' t = some (.tup [.ref e, .ref o, .ref u]) → H' e = some (.lst [.ref f, .ref m]) → H' f = some (.lst (fs.map V.int)) → H' m = some (.lst ((fs.map fun x => nm * x).map V.int)) →
    H' o = some (.lst ((oneL fs).map V.int)) → H' u = some (.lst ((otherL fs).map V.int)) → Q (.ref t) H'
abbrev N_pair : List Str := ["_law_pot_here", "_law_length", "_law_great", "_law_first", "_law_one", "_law_other", "_law_number", "_law_at", "_law_entry"]
theorem sc_pair : FnScope N_pair ["_law_pot_here", "_law_length", "_law_great"] (defScope st_pair) := ⟨rfl, rfl, rfl, by decide +kernel, rfl, by decide +kernel, by decide +kernel⟩
theorem ok_pair {f : Addr} {fd : FuncData} (F : Fun K "_law_pair" "_law_pair" st_pair f fd) (T : Txt mg) (D1 : Def P w K mg base "_law_draw" 1 ["_law_pot_here", "_law_many"] sp_draw) : FnOk P w K mg base CX0 2 f fd ["_law_pot_here", "_law_length", "_law_great"] sp_pair := by
  refine F.ok sc_pair (fun vs H Q E h => ?_) (fun cdv A outer s H vs Q E hr h => ?_)
  · obtain ⟨p, n, g, rfl, _⟩ := h
    rfl
  · obtain ⟨p, n, g, rfl, hp, n2, n6, g0, g1, q⟩ := h
    refine ⟨_, pss_cons (ps_setLc (i := 3) (own := [("_law_at", 7)]) (g := gName 7) (tt := tYes) rfl sc_pair.nd rfl rfl (sw_true rfl rfl rfl (by decide +kernel)) (pi_range1 (by rfl) T.range (pa_cons (pv 1) pa_nil))
        (blkOk_by (N := N_pair) (sc := defScope st_pair) (by decide +kernel)) (fun _ _ _ _ _ => pg_name (i := 7) sc_pair.nd rfl (Or.inl rfl) (Or.inr rfl)) (fun _ _ _ _ _ => pts_nil)
        (fun _ _ _ _ _ => pe_op op_add (pe_op op_sub (pe_def (X := Cx.blk _ _ _ _ _ _) D1 hr (pa_cons (pv 0) (pa_cons pe_int pa_nil))) pe_int) (pv 2)))
      (pss_cons (ps_par (i := 4) (j := 5) rfl sc_pair.nd rfl rfl (by decide) rfl rfl (pa_cons (pe_op op_rep (pe_lst (pa_cons pe_int pa_nil)) (pv 1)) (pa_cons (pe_op op_rep (pe_lst (pa_cons pe_int pa_nil)) (pv 1)) pa_nil)) (by rfl))
      (pss_cons (ps_asg (pe_tup (pa_cons (pe_op op_sub pe_int (pe_ix ix_list (pv 3) pe_int (fun _ _ => rfl))) (pa_cons (pe_ix ix_list (pv 3) pe_int (fun _ _ => rfl)) pa_nil)))
        (pg_tup rfl (pgs_cons (pg_sub (pv 4) pe_int set_list) (pgs_cons (pg_sub (pv 4) pe_int set_list) pgs_nil))))
      (pss_cons (ps_asg (pe_tup (pa_cons (pe_op op_sub pe_int (pe_ix ix_list (pv 3) pe_int (fun _ _ => rfl))) (pa_cons (pe_ix ix_list (pv 3) (pe_op op_sub (pv 1) pe_int) (fun _ _ => rfl)) pa_nil)))
        (pg_tup rfl (pgs_cons (pg_sub (pv 5) (pe_op op_sub (pv 1) pe_int) set_list) (pgs_cons (pg_sub (pv 5) pe_int set_list) pgs_nil))))
      (pss_cons (ps_set (i := 6) sc_pair.nd rfl (Or.inr rfl) (pe_op op_sub (pe_def D1 hr (pa_cons (pv 0) (pa_cons pe_int pa_nil))) pe_int))
      (pss_one (ps_ret (pe_tup (pa_cons (pe_lst (pa_cons (pv 3) (pa_cons (pe_lc (own := [("_law_entry", 8)]) (g := gName 8) (tt := tYes) rfl sc_pair.nd (pi_list (pv 3))
        (blkOk_by (N := N_pair) (sc := defScope st_pair) (by decide +kernel)) (fun _ _ _ _ _ => pg_name (i := 8) sc_pair.nd rfl (Or.inl rfl) (Or.inr rfl)) (fun _ _ _ _ _ => pts_nil)
        (fun _ _ _ _ _ => pe_op op_mul (pv 6) (pv 8))) pa_nil))) (pa_cons (pv 4) (pa_cons (pv 5) pa_nil)))))))))), ?_⟩
    -- the first line
    refine r_seq (r_asg ?_)
    refine tlc_of (Itr 0 n) (H1 := H) (fun R hR => ⟨_, rfl, (n : Int), rfl, by omega, by omega, hR⟩) ?_
    refine lc_el (p := some p) n (fun i v => ∃ x : Int, v = .int x ∧ -4 ≤ x ∧ x ≤ 100000000000004) (fun q e => by cases e; exact hp) (by omega) (fun i H2 hi s2 => hi) (fun H2 s2 => Nat.le_refl _) (fun i x H2 H3 C hi s2 hp2 hy hC => ?_) fun f H1 rs nf s1 hf hrl hE => ?_
    · obtain ⟨rfl, rfl⟩ := hy
      refine ⟨rfl, ?_⟩
      refine ⟨_, rfl, p, 9, rfl, hp2 p rfl, by decide, by decide, fun r H4 r0 r1 s4 => ?_⟩
      refine ⟨_, _, rfl, rfl, _, rfl, _, _, rfl, rfl, ?_⟩
      exact hC _ _ s4 ⟨_, rfl, by omega, by omega⟩
    · obtain ⟨fs, rfl, hfl, hfb⟩ := ints_list hrl hE
      have hp1 : PotOk H1 p := s1.pot p rfl hp
      have hh : Has (some p) H := fun q e => by cases e; exact hp
      have fp := some_ne hp nf
      have lf : (fs.map V.int).length = n := by rw [List.length_map, hfl]
      -- the two lists of noughts
      refine ⟨(by show 1 ≤ sizeLine; decide), fun a1 na1 => ⟨_, rfl, a1, (n : Int), [.int 0], rfl, rfl, upd_same, by omega, by omega, Nat.le_trans (by show 1 * (n : Int).toNat ≤ 1000; omega) (by decide), fun o no => ?_⟩⟩
      rw [rep_flat, show (n : Int).toNat = n from rfl]
      generalize eH3 : upd (upd H1 a1 (.lst [V.int 0])) o (.lst (List.replicate n (V.int 0))) = H3
      have s3 : RX (some p) H1 H3 := eH3 ▸ (RX.new na1).trans (RX.new no)
      have o3 : H3 o = some (.lst (List.replicate n (V.int 0))) := eH3 ▸ upd_same
      refine ⟨(by show 1 ≤ sizeLine; decide), fun a2 na2 => ⟨_, rfl, a2, (n : Int), [.int 0], rfl, rfl, upd_same, by omega, by omega, Nat.le_trans (by show 1 * (n : Int).toNat ≤ 1000; omega) (by decide), fun u nu => ?_⟩⟩
      rw [rep_flat, show (n : Int).toNat = n from rfl]
      generalize eH5 : upd (upd H3 a2 (.lst [V.int 0])) u (.lst (List.replicate n (V.int 0))) = H5
      have s5 : RX (some p) H3 H5 := eH5 ▸ (RX.new na2).trans (RX.new nu)
      have u5 : H5 u = some (.lst (List.replicate n (V.int 0))) := eH5 ▸ upd_same
      have h1 : Has (some p) H1 := hh.to s1
      have h3 : Has (some p) H3 := h1.to s3
      have h5 : Has (some p) H5 := h3.to s5
      have no1 : H1 o = none := rx_free (RX.new na1) h1 no
      have nu3 : H3 u = none := rx_free (RX.new na2) h3 nu
      have nu1 : H1 u = none := rx_free s3 h1 nu3
      have noH : H o = none := rx_free s1 hh no1
      have nuH : H u = none := rx_free s1 hh nu1
      have op := some_ne hp noH
      have up := some_ne hp nuH
      have hou : o ≠ u := ne_of_none o3 nu3
      have hfo : f ≠ o := ne_of_none hf no1
      have hfu : f ≠ u := ne_of_none hf nu1
      have f5 : H5 f = some (.lst (fs.map V.int)) := s5.keep f _ fp (s3.keep f _ fp hf)
      have o5 : H5 o = some (.lst (List.replicate n (V.int 0))) := s5.keep o _ op o3
      have sH5 : RX (some p) H H5 := s1.trans (s3.trans s5)
      refine ⟨_, _, rfl, ?_⟩
      -- the first pair's exchange
      refine ⟨_, rfl, f, _, (1 : Int), _, rfl, rfl, .inl (.inl f5), atI_of (by decide) (at_getD (i := 1) (by omega)), _, _, rfl, rfl, _, rfl, f, _, (0 : Int), _, rfl, rfl, .inl (.inl f5), atI_of (by decide) (at_getD (i := 0) (by omega)), (by show 2 ≤ sizeLine; decide), fun t1 nt1 => ?_⟩
      have o6 : (upd H5 t1 (.tup [V.int (0 - fs.getD 1 0), V.int (fs.getD 0 0)])) o = some (.lst (List.replicate n (V.int 0))) := by rw [upd_ne (ne_of_none o5 nt1)]; exact o5
      refine ⟨t1, _, rfl, .inl (.inl upd_same), rfl, _, _, rfl, _, rfl, o, _, 0, 0, rfl, rfl, o6, ixN_of (by decide) (by rw [List.length_replicate]; omega), _, _, rfl, _, rfl, o, _, 1, 1, rfl, rfl, upd_same, ixN_of (by decide) (by rw [List.length_set, List.length_replicate]; omega), rfl, ?_⟩
      rw [upd_upd]
      generalize eH8 : upd (upd H5 t1 (.tup [V.int (0 - fs.getD 1 0), V.int (fs.getD 0 0)])) o (.lst (((List.replicate n (V.int 0)).set 0 (V.int (0 - fs.getD 1 0))).set 1 (V.int (fs.getD 0 0)))) = H8
      have o8 : H8 o = some (.lst ((oneL fs).map V.int)) := by
        rw [← eH8, upd_same]
        unfold oneL
        rw [List.map_set, List.map_set, List.map_replicate, hfl]
      have sH8 : RX (some p) H H8 := eH8 ▸ (sH5.trans (RX.new nt1)).mut noH hh
      have f8 : H8 f = some (.lst (fs.map V.int)) := by rw [← eH8, upd_ne hfo, upd_ne (ne_of_none f5 nt1)]; exact f5
      have u8 : H8 u = some (.lst (List.replicate n (V.int 0))) := by rw [← eH8, upd_ne hou.symm, upd_ne (ne_of_none u5 nt1)]; exact u5
      -- the second pair's exchange
      have hn1 : ((n : Int) - 1).toNat = n - 1 := by omega
      have fl1 : (fs.map V.int)[((n : Int) - 1).toNat]? = some (.int (fs.getD (n - 1) 0)) := by rw [hn1]; exact at_getD (by omega)
      refine ⟨_, rfl, f, _, (0 : Int), _, rfl, rfl, .inl (.inl f8), atI_of (by decide) (at_getD (i := 0) (by omega)), _, _, rfl, rfl, _, rfl, _, rfl, _, _, rfl, rfl, f, _, _, _, rfl, rfl, .inl (.inl f8), atI_of (by omega) fl1, (by show 2 ≤ sizeLine; decide), fun t2 nt2 => ?_⟩
      have u9 : (upd H8 t2 (.tup [V.int (0 - fs.getD 0 0), V.int (fs.getD (n - 1) 0)])) u = some (.lst (List.replicate n (V.int 0))) := by rw [upd_ne (ne_of_none u8 nt2)]; exact u8
      refine ⟨t2, _, rfl, .inl (.inl upd_same), rfl, _, _, rfl, _, rfl, _, rfl, _, _, rfl, rfl, u, _, _, _, rfl, rfl, u9, ixN_of (by omega) (by rw [List.length_replicate]; omega), _, _, rfl, _, rfl, u, _, 0, 0, rfl, rfl, upd_same, ixN_of (by decide) (by rw [List.length_set, List.length_replicate]; omega), rfl, ?_⟩
      rw [upd_upd, hn1]
      generalize eH11 : upd (upd H8 t2 (.tup [V.int (0 - fs.getD 0 0), V.int (fs.getD (n - 1) 0)])) u (.lst (((List.replicate n (V.int 0)).set (n - 1) (V.int (0 - fs.getD 0 0))).set 0 (V.int (fs.getD (n - 1) 0)))) = H11
      have u11 : H11 u = some (.lst ((otherL fs).map V.int)) := by
        rw [← eH11, upd_same]
        unfold otherL
        rw [List.map_set, List.map_set, List.map_replicate, hfl]
      have sH11 : RX (some p) H H11 := eH11 ▸ (sH8.trans (RX.new nt2)).mut nuH hh
      have f11 : H11 f = some (.lst (fs.map V.int)) := by rw [← eH11, upd_ne hfu, upd_ne (ne_of_none f8 nt2)]; exact f8
      have o11 : H11 o = some (.lst ((oneL fs).map V.int)) := by rw [← eH11, upd_ne hou, upd_ne (ne_of_none o8 nt2)]; exact o8
      -- the number
      refine ⟨_, rfl, p, 5, rfl, sH11.pot p rfl hp, by decide, by decide, fun r H12 r0 r1 s12 => ⟨_, _, rfl, rfl, ?_⟩⟩
      have f12 := s12.keep f _ fp f11
      have o12 := s12.keep o _ op o11
      have u12 := s12.keep u _ up u11
      have sH12 := sH11.trans s12
      have h12 : Has (some p) H12 := hh.to sH12
      -- what is told
      refine r_nret ?_
      refine ⟨_, rfl, ?_⟩
      refine tlc_of (Itl K f) (H1 := H12) (fun R hR => ⟨_, rfl, f, rfl, ⟨_, .inl (.inl f12)⟩, hR⟩) ?_
      refine lc_el (p := some p) n (fun i v => ∃ y : Int, fs[i]? = some y ∧ v = .int ((r - 2) * y)) h12 (by omega) (fun i H2 hi s2 => ?_) (fun H2 s2 => ?_) (fun i x H2 H3 C hi s2 hp2 hy hC => ?_) fun m H13 ms nm s13 hm hml hmE => ?_
      · exact ⟨_, _, .inl (.inl (s2.keep f _ fp f12)), List.getElem?_eq_getElem (by rw [lf]; exact hi)⟩
      · exact ⟨_, .inl (.inl (s2.keep f _ fp f12)), by rw [lf]; exact Nat.le_refl _⟩
      · obtain ⟨rfl, hx⟩ := hy
        have ex := hx _ (.inl (.inl (s2.keep f _ fp f12)))
        have hi2 : i < fs.length := by omega
        rw [List.getElem?_map, List.getElem?_eq_getElem hi2] at ex
        cases ex
        refine ⟨rfl, ?_⟩
        refine ⟨_, rfl, _, rfl, _, _, rfl, rfl, .inl ⟨by omega, by omega⟩, ?_⟩
        exact hC _ _ (RX.refl _) ⟨_, List.getElem?_eq_getElem hi2, rfl⟩
      · have em : ms = fs.map fun y => V.int ((r - 2) * y) := map_of_get (n := 0) _ (by rw [hml, hfl]) hmE
        have mH : H m = none := rx_free sH12 hh nm
        have mp := some_ne hp mH
        refine ⟨(by show 2 ≤ sizeLine; decide), fun e ne => ⟨_, rfl, _, rfl, (by show 3 ≤ sizeLine; decide), fun t nt => ?_⟩⟩
        have s13' : RX (some p) H12 (upd (upd H13 e (.lst [.ref f, .ref m])) t (.tup [.ref e, .ref o, .ref u])) := s13.trans ((RX.new ne).trans (RX.new nt))
        have eH : H e = none := rx_free (sH12.trans s13) hh ne
        have tH : H t = none := rx_free ((sH12.trans s13).trans (RX.new ne)) hh nt
        have hte : e ≠ t := ne_of_none upd_same nt
        have neP : ∀ {a : Addr}, some p ≠ some a → a ≠ p := fun h z => h (by rw [z])
        refine q fs (r - 2) t e f m o u _ hfl hfb (by omega) (by omega) (sH12.trans s13') (fun a ha => ?_) upd_same (by rw [upd_ne hte]; exact upd_same) (s13'.keep f _ fp f12) ?_ (s13'.keep o _ op o12) (s13'.keep u _ up u12)
        · have : a = t ∨ a = e ∨ a = f ∨ a = m ∨ a = o ∨ a = u := by simpa using ha
          rcases this with rfl | rfl | rfl | rfl | rfl | rfl
          · exact neP (some_ne hp tH)
          · exact neP (some_ne hp eH)
          · exact neP fp
          · exact neP mp
          · exact neP op
          · exact neP up
        · rw [upd_ne (ne_of_none (by rw [upd_ne (ne_of_none hm ne)]; exact hm) nt), upd_ne (ne_of_none hm ne), hm, em, List.map_map]
          rfl
end
end K33

set_option Elab.async false
set_option linter.all false
set_option maxRecDepth 100000
set_option maxHeartbeats 1000000
namespace K33
open PySem PySem.Spec PyProof.Rows L2 Gd Zn Rp Dn
/-! ### a call by names alone -/
section
variable {X : Cx} {CX : CXT} {k : Nat} {f : Addr} {fd : FuncData} {ps ks : List Str} {sp : Sp} {E : XK} {x : Str} {p pos : Pos} {kws : List Keyword} {tk : TA} {g : List Value → List Value → List Value} {gV : List V → List V → List V}
theorem pe_names (F : FnOk X.prog X.w X.K X.mg X.base CX k f fd ps sp) (room : Room k X.A) (hg : Gl X x) (hm : X.mg x = some (.ref f)) (hk : PySem.W.keepIn X.K (.ref f) = true) (hb : KBinds X.K fd ps ks g gV) (hx : Passes CX X E) (hkw : PK X kws tk)
    (hall : (backToKw pos (keywordEach kws X.env)).all (·.1.isSome) = true := by rfl) (hks : (backToKw pos (keywordEach kws X.env)).filterMap (·.1) = ks := by rfl) (hdb : (x == ("__debug__" : Str)) = false := by decide)
    (hpl : ((backTo pos (starEach [] X.env)).any (·.1) || (backToKw pos (keywordEach kws X.env)).any (·.1.isNone)) = false := by rfl) :
    PE X (.Call (.Name x p) [] kws pos) (fun σ H Q => tk σ H fun zs H2 => sp (gV [] zs) H2 Q E) := by
  refine ⟨fun pins s σ H Q I h => wpAny_Call_Name_kw (ld_glob I hg hm ?_ hdb)⟩
  refine PySem.W.callWith_KW0 (h₀ := X.base) I.ok.mod.kin hk hall ?_ hpl
  refine thn (hkw.run pos pins s σ H _ I h) fun ws s2 ⟨zs, H2, I2, rz, q2⟩ => ⟨I2.kIn, ?_⟩
  rw [hks]
  exact run_fnk F room hb hx I2 .nil rz q2
end
/-! ### what repr gives fits -/
theorem fit_of {d : PyData} (h1 : d.showable = true) (h2 : d.depth ≤ 20) (h3 : d.leavesShort 40 = true) (h4 : d.bulk ≤ 1000) : Fit d := by
  refine ⟨h1, h2, Nat.le_trans (PyData.shown_le_bulk 40 (by decide) d h3) ?_⟩
  show (40 + 2) * d.bulk + 40 ≤ 2 ^ 24
  omega
/-- small data -/
structure Sm (d : PyData) : Prop where
  sh : d.showable = true
  dp : d.depth ≤ 2
  ls : d.leavesShort 40 = true
  bk : d.bulk ≤ 3
theorem sm_int {i : Int} (h : i.natAbs < 10 ^ 30) : Sm (.int i) := by
  refine ⟨?_, by simp only [PyData.depth]; omega, ?_, by simp only [PyData.bulk]; omega⟩
  · simp only [PyData.showable, decide_eq_true_eq]
    by_cases z : i.natAbs = 0
    · rw [z]; decide
    · rw [Nat.log2_lt z]
      exact Nat.lt_trans h (by decide)
  · have e : (PyData.int i).shown.length ≤ 40 := by
      simp only [PyData.shown]
      show (Str.ofString (toString i)).length ≤ 40
      rw [PySem.ofString_length]
      exact Nat.le_trans (int_text_length_le10 (by decide) h) (by decide)
    simp only [PyData.leavesShort]
    exact decide_eq_true e
theorem sm_non : Sm .none := ⟨by simp only [PyData.showable], by simp only [PyData.depth]; omega, by simp only [PyData.leavesShort], by simp only [PyData.bulk]; omega⟩
theorem sm_bool (b : Bool) : Sm (.bool b) := ⟨by simp only [PyData.showable], by simp only [PyData.depth]; omega, by simp only [PyData.leavesShort], by simp only [PyData.bulk]; omega⟩
theorem all_sm {ds : List PyData} (h : ∀ d ∈ ds, Sm d) : PyData.showableAll ds = true ∧ PyData.depthAll ds ≤ 2 ∧ PyData.leavesShortAll 40 ds = true ∧ PyData.bulkAll ds ≤ 4 * ds.length := by
  induction ds with
  | nil => exact ⟨by simp only [PyData.showableAll], by simp only [PyData.depthAll]; omega, by simp only [PyData.leavesShortAll], by simp only [PyData.bulkAll]; omega⟩
  | cons d r ih =>
    obtain ⟨a, b, c, e⟩ := ih fun x hx => h x (List.mem_cons_of_mem _ hx)
    have z := h d List.mem_cons_self
    refine ⟨?_, ?_, ?_, ?_⟩
    · simp only [PyData.showableAll, z.sh, a, Bool.and_self]
    · simp only [PyData.depthAll]
      exact Nat.max_le.mpr ⟨z.dp, b⟩
    · simp only [PyData.leavesShortAll, z.ls, c, Bool.and_self]
    · have := z.bk
      simp only [PyData.bulkAll, List.length_cons]
      omega
theorem fit_list {ds : List PyData} (h : ∀ d ∈ ds, Sm d) (hl : ds.length ≤ 100) : Fit (.list ds) := by
  obtain ⟨a, b, c, e⟩ := all_sm h
  refine fit_of ?_ ?_ ?_ ?_
  · simp only [PyData.showable, a]
  · simp only [PyData.depth]; omega
  · simp only [PyData.leavesShort, c]
  · simp only [PyData.bulk]; omega
theorem fit_tuple {ds : List PyData} (h : ∀ d ∈ ds, Sm d) (hl : ds.length ≤ 100) : Fit (.tuple ds) := by
  obtain ⟨a, b, c, e⟩ := all_sm h
  refine fit_of ?_ ?_ ?_ ?_
  · simp only [PyData.showable, a]
  · simp only [PyData.depth]; omega
  · simp only [PyData.leavesShort, c]
  · simp only [PyData.bulk]; omega
theorem fit_sm {d : PyData} (h : Sm d) : Fit d := fit_of h.sh (by have := h.dp; omega) h.ls (by have := h.bk; omega)
/-- a value that the law asks about -/
def Good (H : Hp) (v : V) : Prop := ∃ d, AnyV H v d ∧ Fit d ∧ (items d).length ≤ 200
theorem Good.mono {H H' : Hp} {v : V} (s : Same H H') (h : Good H v) : Good H' v := by
  obtain ⟨d, a, r⟩ := h
  exact ⟨d, a.mono s, r⟩
theorem rep_any {H : Hp} {v : V} {d : PyData} {Q : VK} (a : AnyV H v d) (f : Fit d) (q : Q (.str d.shown) H) : rRepA [v] H Q := by
  rcases a with a | ⟨x, kvs, r, rfl, h, rfl, fl⟩
  · exact .inl ⟨v, d, rfl, a, f, q⟩
  · exact .inr ⟨x, kvs, r, rfl, h, fl, f, q⟩
end K33

set_option Elab.async false
set_option linter.all false
set_option maxRecDepth 100000
set_option maxHeartbeats 2000000
namespace K33
open PySem PySem.Spec PyProof.Rows L2 Gd Zn Rp Dn
/-! ### sums of products -/
theorem dot_nil (ys : List Int) : dot [] ys = 0 := by unfold dot; rw [List.zip_nil_left]; rfl
theorem dot_cons (x y : Int) (xs ys : List Int) : dot (x :: xs) (y :: ys) = x * y + dot xs ys := by unfold dot; rw [List.zip_cons_cons, List.map_cons, List.sum_cons]
theorem dot_nil2 (xs : List Int) : dot xs [] = 0 := by unfold dot; rw [List.zip_nil_right]; rfl
theorem dot_z1 (n : Nat) (ys : List Int) : dot (List.replicate n 0) ys = 0 := by
  induction n generalizing ys with
  | zero => exact dot_nil ys
  | succ n ih =>
    cases ys with
    | nil => exact dot_nil2 _
    | cons y ys => rw [List.replicate_succ, dot_cons, ih, Int.zero_mul]; rfl
theorem dot_z2 (xs : List Int) (n : Nat) : dot xs (List.replicate n 0) = 0 := by
  induction n generalizing xs with
  | zero => exact dot_nil2 xs
  | succ n ih =>
    cases xs with
    | nil => exact dot_nil _
    | cons x xs => rw [List.replicate_succ, dot_cons, ih, Int.mul_zero]; rfl
theorem nums_iD (xs : List Int) : numsD (.list (iD xs)) = xs := by
  show (iD xs).map _ = xs
  unfold iD
  rw [List.map_map]
  exact List.map_id' xs
theorem sol_list {L : List (List Int)} {n : Nat} {xs : List Int} (hl : xs.length = n) (h : ∀ r ∈ L, dot r xs = 0) : solB L n (.list (iD xs)) = true := by
  unfold solB
  rw [lineB_row hl, nums_iD, Bool.true_and, List.all_eq_true]
  intro r hr
  exact decide_eq_true (h r hr)
theorem sol_flat {L : List (List Int)} {n k : Nat} {d : PyData} (h : solB L n d = true) : solB (List.replicate k L).flatten n d = true := by
  unfold solB at h ⊢
  rw [Bool.and_eq_true] at h ⊢
  refine ⟨h.1, List.all_eq_true.mpr fun r hr => ?_⟩
  obtain ⟨l, hl, hr2⟩ := List.mem_flatten.mp hr
  rw [(List.mem_replicate.mp hl).2] at hr2
  exact List.all_eq_true.mp h.2 r hr2
theorem pyVs_app {H : Hp} : ∀ {vs ws : List V} {ds es : List PyData}, PyVs H vs ds → PyVs H ws es → PyVs H (vs ++ ws) (ds ++ es)
  | _, _, _, _, .nil, q => q
  | _, _, _, _, .cons p q, r => .cons p (pyVs_app q r)
theorem pyVs_rep {H : Hp} {vs : List V} {ds : List PyData} (p : PyVs H vs ds) (k : Nat) : PyVs H (List.replicate k vs).flatten (List.replicate k ds).flatten := by
  induction k with
  | zero => exact .nil
  | succ k ih =>
    rw [List.replicate_succ, List.replicate_succ, List.flatten_cons, List.flatten_cons]
    exact pyVs_app p ih
theorem pyVs_map {H : Hp} (xs : List Int) : PyVs H (xs.map V.int) (iD xs) := by
  induction xs with
  | nil => exact .nil
  | cons x xs ih => exact .cons (.int x) ih
theorem eqD_flat (L : List (List Int)) (k : Nat) : (List.replicate k (EqD L)).flatten = EqD (List.replicate k L).flatten := by
  unfold EqD
  induction k with
  | zero => rfl
  | succ k ih => rw [List.replicate_succ, List.replicate_succ, List.flatten_cons, List.flatten_cons, List.map_append, ih]
/-! ### what stands when all is drawn -/
structure Drawn (H : Hp) (n : Nat) (e w dr va : Addr) (es : List V) (L : List (List Int)) (wh drn : List Int) (xs : List V) : Prop where
  n2 : 2 ≤ n
  n6 : n ≤ 6
  he : H e = some (.lst es)
  pe : PyVs H es (EqD L)
  ok : EqOk L n
  sm : ∀ r ∈ L, ∀ x ∈ r, Small x
  two : L.length = 2
  hw : H w = some (.lst (wh.map V.int))
  lw : wh.length = n
  sol : solB L n (.list (iD wh)) = true
  hd : H dr = some (.lst (drn.map V.int))
  ld : drn.length = n
  hv : H va = some (.lst xs)
  gd : ∀ x ∈ xs, Good H x
theorem Drawn.mono {H H' : Hp} {n : Nat} {e w dr va : Addr} {es : List V} {L : List (List Int)} {wh drn : List Int} {xs : List V} (s : Same H H') (h : Drawn H n e w dr va es L wh drn xs) : Drawn H' n e w dr va es L wh drn xs :=
  ⟨h.n2, h.n6, s _ _ h.he, PyVs.mono s h.pe, h.ok, h.sm, h.two, s _ _ h.hw, h.lw, h.sol, s _ _ h.hd, h.ld, s _ _ h.hv, fun x hx => (h.gd x hx).mono s⟩
/-- is_solution, called by names too -/
structure DefS (P : Program) (w : World) (K : PySem.W.Frag) (mg : Str → Option Value) (base : Heap) : Prop where
  ex : ∃ (f : Addr) (fd : FuncData), FnOk P w K mg base CX0 4 f fd ["equations", "value"] sp_is_solution ∧ mg "is_solution" = some (.ref f) ∧ PySem.W.keepIn K (.ref f) = true ∧ Binds K fd ["equations", "value"] [] ∧
    KBinds K fd ["equations", "value"] ["value", "equations"] (fun us ws => match us, ws with | [], [a, b] => [b, a] | _, _ => []) (fun us ws => match us, ws with | [], [a, b] => [b, a] | _, _ => [])
theorem DefS.d {P : Program} {w : World} {K : PySem.W.Frag} {mg : Str → Option Value} {base : Heap} (D : DefS P w K mg base) : Def P w K mg base "is_solution" 4 ["equations", "value"] sp_is_solution :=
  let ⟨f, fd, G, m, kp, b, _⟩ := D.ex
  ⟨f, fd, G, m, kp, b⟩
section
variable {X : Cx}
theorem pe_defS {j : Nat} {kws : List Keyword} {tk : TA} {p pos : Pos} (D : DefS X.prog X.w X.K X.mg X.base) (room : Room j X.A) (hkw : PK X kws tk) (h4 : 4 ≤ j := by decide) (hg : Gl X "is_solution" := by rfl)
    (hall : (backToKw pos (keywordEach kws X.env)).all (·.1.isSome) = true := by rfl) (hks : (backToKw pos (keywordEach kws X.env)).filterMap (·.1) = (["value", "equations"] : List Str) := by rfl)
    (hpl : ((backTo pos (starEach [] X.env)).any (·.1) || (backToKw pos (keywordEach kws X.env)).any (·.1.isNone)) = false := by rfl) :
    PE X (.Call (.Name "is_solution" p) [] kws pos) (fun σ H Q => tk σ H fun zs H2 => sp_is_solution (match ([] : List V), zs with | [], [a, b] => [b, a] | _, _ => []) H2 Q E0) := by
  obtain ⟨f, fd, G, m, kp, b, kb⟩ := D.ex
  exact pe_names G (room.mono h4) hg m kp kb pass0 hkw hall hks (by decide) hpl
end
abbrev st_right : Stmt := top 22
abbrev N_right : List Str := ["_law_pot_here", "_law_length", "_law_great", "_law_equations", "_law_one", "_law_other", "_law_near", "_law_far", "_law_whole", "_law_moved", "_law_spot", "_law_drawn", "_law_values", "_law_value", "_law_shown", "_law_due", "_law_told", "_law_left", "_law_right_here", "_law_at"]
theorem sc_right : FnScope N_right ["_law_pot_here"] (defScope st_right) := ⟨rfl, rfl, rfl, by decide +kernel, rfl, by decide +kernel, by decide +kernel⟩
section
variable {P : Program} {w : World} {K : PySem.W.Frag} {mg : Str → Option Value} {base : Heap}
theorem tail_right {f : Addr} {cdv : Value} {A : Around} {outer : List Env} {s : Shared} {H0 : Hp} {E : XK} (T : Txt mg) (hst : Still A) (hr : Room 4 (A.deeper (envOfC "_law_right" (defScope st_right) s.heap.objs.size f cdv))) (D1 : Def P w K mg base "_law_is_solution" 3 ["_law_equations", "_law_value"] sp_lsol) (D2 : DefS P w K mg base) :
    ∃ t, PSs (cxOf CX0 P w K mg base N_right "_law_right" (defScope st_right) f cdv A outer s H0 E).nox ((defBody st_right).drop 9) t ∧
      ∀ (Q : VK) (H : Hp) (n : Nat) (e wa dr va : Addr) (es : List V) (L : List (List Int)) (wh drn : List Int) (xs : List V) (s0 s2 s4 s5 s6 s7 s9 s10 s13 s14 s15 s16 s17 s18 s19 : Option V) (nx : L2.St → Hp → Prop), Drawn H n e wa dr va es L wh drn xs → (∀ H', Same H H' → Q (.bl true) H') →
        t { nx := nx, rt := Q } [s0, some (.int n), s2, some (.ref e), s4, s5, s6, s7, some (.ref wa), s9, s10, some (.ref dr), some (.ref va), s13, s14, s15, s16, s17, s18, s19] H := by
  refine ⟨_, pss_cons (ps_for PassesOwn.never rfl (pi_list (pv 12)) (pg_name (i := 13) sc_right.nd rfl (Or.inl rfl))
      (pss_cons (ps_par (i := 14) (j := 15) rfl sc_right.nd rfl rfl (by decide) rfl rfl (pa_cons (pe_callB (call_repA hst hr) (by rfl) T.repr boot_repr (pa_cons (pv 13) pa_nil)) (pa_cons (pe_def D1 hr (pa_cons (pv 3) (pa_cons (pv 13) pa_nil))) pa_nil)) (by rfl))
      (pss_cons (ps_set (i := 16) sc_right.nd rfl (Or.inl rfl) (pe_lst (pa_cons (pe_def D2.d hr (pa_cons (pv 3) (pa_cons (pv 13) pa_nil))) (pa_cons (pe_defS D2 hr (pk_cons (pv 13) (pk_cons (pe_callTy call_tuple_of (by rfl) T.tuple PyProof.Rows.boot_tuple (pa_cons (pv 3) pa_nil)) pk_nil))) pa_nil))))
      (pss_one (ps_if (PW.pt (pw_or (pt_cmpR op_ne (pe_callB (call_repA hst hr) (by rfl) T.repr boot_repr (pa_cons (pv 16) pa_nil)) (pe_callB (call_repA hst hr) (by rfl) T.repr boot_repr (pa_cons (pe_lst (pa_cons (pv 15) (pa_cons (pv 15) pa_nil))) pa_nil)) (nomark _))
        (pw_or1 (pt_cmpR op_ne (pe_callB (call_repA hst hr) (by rfl) T.repr boot_repr (pa_cons (pv 13) pa_nil)) (pv 14) (nomark _))))) (pss_one (ps_ret pe_bl)) pss_nil)))))
    (pss_cons (ps_if (PW.pt (pw_or (pt_cmpR op_notBl (pe_def D2.d hr (pa_cons (pv 3) (pa_cons (pv 8) pa_nil))) pe_bl (nomark _)) (pw_or1 (pt_cmpR op_notBl (pe_def D2.d hr (pa_cons (pe_op op_rep (pv 3) pe_int) (pa_cons (pv 8) pa_nil))) pe_bl (nomark _))))) (pss_one (ps_ret pe_bl)) pss_nil)
    (pss_one (ps_ret (pe_and (pe_cmpR op_isBl (pe_def D2.d hr (pa_cons (pe_lst (pa_cons (pe_op op_rep (pe_lst (pa_cons pe_int pa_nil)) (pv 1)) pa_nil)) (pa_cons (pv 11) pa_nil))) pe_bl (nomark _))
      (pe_one (pe_cmpR op_isBl (pe_def D2.d hr (pa_cons (pe_op op_cat (pe_lst (pa_cons (pe_op op_rep (pe_lst (pa_cons pe_int pa_nil)) (pv 1)) pa_nil)) (pv 3)) (pa_cons (pe_op op_rep (pe_lst (pa_cons pe_int pa_nil)) (pv 1)) pa_nil))) pe_bl (nomark _))))))), ?_⟩
  intro Q H n e wa dr va es L wh drn xs s0 s2 s4 s5 s6 s7 s9 s10 s13 s14 s15 s16 s17 s18 s19 nx G q
  -- the loop
  have step : ∀ (x : V) (H2 : Hp) (x14 x15 x16 : Option V) (D : Ends), x ∈ xs → Drawn H2 n e wa dr va es L wh drn xs → (∀ (y14 y15 y16 : Option V) (H3 : Hp), Same H2 H3 → D.nx [s0, some (.int n), s2, some (.ref e), s4, s5, s6, s7, some (.ref wa), s9, s10, some (.ref dr), some (.ref va), some x, y14, y15, y16, s17, s18, s19] H3) →
      tSeq (tPar 14 15 (tCons (tCB rRepA (tCons (tVar 13) tNil)) (tCons (tCall sp_lsol [] E0 (tCons (tVar 3) (tCons (tVar 13) tNil))) tNil))) (tSeq (tAsg (tLst (tCons (tCall sp_is_solution [] E0 (tCons (tVar 3) (tCons (tVar 13) tNil)))
        (tCons (fun σ H Q => (tCons (tVar 13) (tCons (tCB (fun xs H Q => ∃ p ys, xs = [.ref p] ∧ ((SqL K H p ys ∧ ∀ l, H l = none → Q (.ref l) (upd H l (.tup ys))) ∨ (SqT K H p ys ∧ Q (.ref p) H))) (tCons (tVar 3) tNil)) tNil)) σ H fun zs H2 => sp_is_solution (match ([] : List V), zs with | [], [a, b] => [b, a] | _, _ => []) H2 Q E0) tNil))) (gName 16))
        (tIfS (tOr (tTest (tOp rNe (tCB rRepA (tCons (tVar 16) tNil)) (tCB rRepA (tCons (tLst (tCons (tVar 15) (tCons (tVar 15) tNil))) tNil)))) (tTest (tOp rNe (tCB rRepA (tCons (tVar 13) tNil)) (tVar 14)))) (tRet (tC (.bl false))) tNext))
        D [s0, some (.int n), s2, some (.ref e), s4, s5, s6, s7, some (.ref wa), s9, s10, some (.ref dr), some (.ref va), some x, x14, x15, x16, s17, s18, s19] H2 := by
    intro x H2 x14 x15 x16 D hx G2 k
    obtain ⟨d, av, fd, hi⟩ := G2.gd x hx
    have se : SeqV H2 (.ref e) (EqD L) := .inl (.lst G2.he G2.pe)
    refine ⟨_, rfl, rep_any av fd ?_⟩
    refine ⟨_, rfl, _, rfl, _, L, n, x, d, rfl, se, G2.ok, G2.sm, av, hi, fun H3 s3 => ⟨_, _, rfl, ?_⟩⟩
    have se3 := se.mono s3
    refine ⟨_, rfl, _, rfl, _, L, n, x, d, rfl, se3, G2.ok, G2.sm, av.mono s3, hi, fun H4 s4 => ?_⟩
    have e4 := s4 _ _ (s3 _ _ G2.he)
    refine ⟨_, rfl, _, rfl, e, es, rfl, .inl ⟨.inl (.inl e4), fun tq ntq => ?_⟩⟩
    have s5 := same_new (o := .tup es) ntq
    have st5 : SeqV (upd H4 tq (.tup es)) (.ref tq) (EqD L) := .inr (.tup upd_same (PyVs.mono (s3.trans (s4.trans s5)) G2.pe))
    refine ⟨_, L, n, x, d, rfl, st5, G2.ok, G2.sm, av.mono (s3.trans (s4.trans s5)), hi, fun H6 s6 => ?_⟩
    refine ⟨(by show 2 ≤ sizeLine; decide), fun l nl => ?_⟩
    have s7 := same_new (o := .lst [V.bl (solB L n d), V.bl (solB L n d)]) nl
    have two : ∀ (l2 : Addr) (H7 : Hp), H7 l2 = some (.lst [V.bl (solB L n d), V.bl (solB L n d)]) → PyV H7 (.ref l2) (.list [.bool (solB L n d), .bool (solB L n d)]) := fun l2 H7 e7 => .lst e7 (.cons (.bl _) (.cons (.bl _) .nil))
    have ft : Fit (.list [.bool (solB L n d), .bool (solB L n d)]) := fit_list (fun y hy => by
      rcases List.mem_cons.mp hy with rfl | hy
      · exact sm_bool _
      · rcases List.mem_cons.mp hy with rfl | hy
        · exact sm_bool _
        · cases hy) (by show 2 ≤ 100; decide)
    refine ⟨_, rfl, .inl ⟨_, _, rfl, two l _ upd_same, ft, ?_⟩⟩
    refine ⟨_, rfl, _, rfl, (by show 2 ≤ sizeLine; decide), fun l2 nl2 => .inl ⟨_, _, rfl, two l2 _ upd_same, ft, ?_⟩⟩
    refine ⟨rfl, _, rfl, ?_⟩
    refine iteNS rfl ?_
    have s8 := (s3.trans (s4.trans (s5.trans (s6.trans (s7.trans (same_new (o := .lst [V.bl (solB L n d), V.bl (solB L n d)]) nl2))))))
    refine ⟨_, rfl, rep_any (av.mono s8) fd ?_⟩
    refine ⟨_, rfl, rfl, _, rfl, ?_⟩
    refine iteNS rfl ?_
    exact k _ _ _ _ s8
  refine ⟨_, rfl, va, rfl, ⟨xs, .inl (.inl G.hv)⟩, ?_⟩
  refine for_list (xs := xs) (fun i σ H2 => ∃ x13 x14 x15 x16, σ = [s0, some (.int n), s2, some (.ref e), s4, s5, s6, s7, some (.ref wa), s9, s10, some (.ref dr), some (.ref va), x13, x14, x15, x16, s17, s18, s19] ∧ Drawn H2 n e wa dr va es L wh drn xs ∧ Same H H2) ⟨_, _, _, _, rfl, G, Same.refl H⟩ (fun i σ H2 hi hP => ?_) (fun i x σ H2 hx hP => ?_) (fun σ H2 hP => ?_)
  · obtain ⟨_, _, _, _, _, G2, _⟩ := hP
    exact .inl (.inl G2.hv)
  · obtain ⟨x13, x14, x15, x16, rfl, G2, sB⟩ := hP
    exact step x H2 x14 x15 x16 _ (List.mem_of_getElem? hx) G2 fun y14 y15 y16 H3 s3 => ⟨_, _, _, _, rfl, G2.mono s3, sB.trans s3⟩
  · obtain ⟨x13, x14, x15, x16, rfl, G2, sB⟩ := hP
    have se : SeqV H2 (.ref e) (EqD L) := .inl (.lst G2.he G2.pe)
    have aw : ∀ H3, Same H2 H3 → AnyV H3 (.ref wa) (.list (iD wh)) := fun H3 s3 => .inl (.lst (s3 _ _ G2.hw) (pyVs_map wh))
    have lw : (items (.list (iD wh))).length ≤ 200 := by
      show (iD wh).length ≤ 200
      unfold iD
      rw [List.length_map, G2.lw]
      have := G2.n6
      omega
    have les : es.length = 2 := by rw [pyVs_len G2.pe]; unfold EqD; rw [List.length_map, G2.two]
    refine ⟨_, rfl, _, rfl, _, L, n, _, _, rfl, se, G2.ok, G2.sm, aw _ (Same.refl _), lw, fun H3 s3 => ?_⟩
    rw [G2.sol]
    refine ⟨_, _, rfl, rfl, _, rfl, ?_⟩
    refine iteNS rfl ?_
    -- thirty times the equations
    refine ⟨_, rfl, e, 30, es, rfl, rfl, s3 _ _ G2.he, by decide, by decide, Nat.le_trans (by show es.length * 30 ≤ 1000; omega) (by decide), fun b nb => ?_⟩
    have s4 := s3.trans (same_new (o := .lst (List.replicate 30 es).flatten) nb)
    have s30 : SeqV (upd H3 b (.lst (List.replicate 30 es).flatten)) (.ref b) (EqD (List.replicate 30 L).flatten) := by
      refine .inl (.lst upd_same ?_)
      rw [← eqD_flat]
      exact PyVs.mono s4 (pyVs_rep G2.pe 30)
    have ok30 : EqOk (List.replicate 30 L).flatten n := by
      have l30 : (List.replicate 30 L).flatten.length = 60 := by
        rw [List.length_flatten, List.map_replicate, G2.two]
        decide
      refine ⟨by rw [l30]; decide, by rw [l30]; decide, G2.ok.n1, G2.ok.n6, fun r hr' => ?_⟩
      obtain ⟨l, hl, hr2⟩ := List.mem_flatten.mp hr'
      rw [(List.mem_replicate.mp hl).2] at hr2
      exact G2.ok.all r hr2
    refine ⟨_, rfl, _, _, n, _, _, rfl, s30, ok30, fun r hr' => ?_, aw _ s4, lw, fun H5 s5 => ?_⟩
    · obtain ⟨l, hl, hr2⟩ := List.mem_flatten.mp hr'
      rw [(List.mem_replicate.mp hl).2] at hr2
      exact G2.sm r hr2
    rw [sol_flat G2.sol]
    refine ⟨_, _, rfl, rfl, _, rfl, ?_⟩
    refine iteNS rfl ?_
    have s25 := s4.trans s5
    -- noughts as equations
    refine r_nret ?_
    refine ⟨(by show 1 ≤ sizeLine; decide), fun a1 na1 => ⟨_, rfl, a1, (n : Int), [.int 0], rfl, rfl, upd_same, by have := G2.n6; omega, by have := G2.n6; omega, Nat.le_trans (by show 1 * (n : Int).toNat ≤ 1000; have := G2.n6; omega) (by decide), fun z nz => ?_⟩⟩
    rw [rep_flat, show (n : Int).toNat = n from rfl]
    refine ⟨(by show 1 ≤ sizeLine; decide), fun q1 nq1 => ⟨_, rfl, ?_⟩⟩
    have s6 := s25.trans ((same_new (o := .lst [V.int 0]) na1).trans ((same_new (o := .lst (List.replicate n (V.int 0))) nz).trans (same_new (o := .lst [V.ref z]) nq1)))
    have hz : ∀ H7, Same (upd (upd (upd H5 a1 (.lst [V.int 0])) z (.lst (List.replicate n (V.int 0)))) q1 (.lst [V.ref z])) H7 → H7 z = some (.lst (List.replicate n (V.int 0))) := fun H7 s7 => s7 _ _ (same_new nq1 _ _ upd_same)
    have mz : ∀ (k : Int), PyVs H2 (List.replicate n (V.int k)) (iD (List.replicate n k)) := fun k => by
      have := pyVs_map (H := H2) (List.replicate n k)
      rw [List.map_replicate] at this
      exact this
    have ad : ∀ H7, Same H2 H7 → AnyV H7 (.ref dr) (.list (iD drn)) := fun H7 s7 => .inl (.lst (s7 _ _ G2.hd) (pyVs_map drn))
    have len0 : (List.replicate n (0 : Int)).length = n := List.length_replicate
    refine ⟨_, [List.replicate n 0], n, _, _, rfl, .inl (.lst upd_same (.cons (.lst (hz _ (Same.refl _)) (PyVs.mono s6 (mz 0))) .nil)), ⟨(by show 1 ≤ 1; decide), (by show 1 ≤ 60; decide), by have := G2.n2; omega, G2.n6, fun r hr' => ?_⟩, fun r hr' x hx => ?_, ad _ s6, ?_, fun H7 s7 => ?_⟩
    · rw [List.mem_singleton.mp hr']
      exact len0
    · rw [List.mem_singleton.mp hr'] at hx
      rw [(List.mem_replicate.mp hx).2]
      exact ⟨by decide, by decide⟩
    · show (iD drn).length ≤ 200
      unfold iD
      rw [List.length_map, G2.ld]
      have := G2.n6
      omega
    rw [sol_list (L := [List.replicate n 0]) G2.ld fun r hr' => by rw [List.mem_singleton.mp hr']; exact dot_z1 n drn]
    refine ⟨_, _, rfl, rfl, _, rfl, ?_⟩
    refine iteT ?_
    -- one line more, noughts
    have s27 := s6.trans s7
    refine ⟨(by show 1 ≤ sizeLine; decide), fun a2 na2 => ⟨_, rfl, a2, (n : Int), [.int 1], rfl, rfl, upd_same, by have := G2.n6; omega, by have := G2.n6; omega, Nat.le_trans (by show 1 * (n : Int).toNat ≤ 1000; have := G2.n6; omega) (by decide), fun z2 nz2 => ?_⟩⟩
    rw [rep_flat, show (n : Int).toNat = n from rfl]
    refine ⟨(by show 1 ≤ sizeLine; decide), fun q2 nq2 => ⟨_, rfl, ?_⟩⟩
    have s8 := s27.trans ((same_new (o := .lst [V.int 1]) na2).trans ((same_new (o := .lst (List.replicate n (V.int 1))) nz2).trans (same_new (o := .lst [V.ref z2]) nq2)))
    refine ⟨q2, e, [.ref z2], es, rfl, rfl, upd_same, s8 _ _ G2.he, Nat.le_trans (by show 1 + es.length ≤ 1000; omega) (by decide), fun q3 nq3 => ?_⟩
    refine ⟨(by show 1 ≤ sizeLine; decide), fun a3 na3 => ⟨_, rfl, a3, (n : Int), [.int 0], rfl, rfl, upd_same, by have := G2.n6; omega, by have := G2.n6; omega, Nat.le_trans (by show 1 * (n : Int).toNat ≤ 1000; have := G2.n6; omega) (by decide), fun z3 nz3 => ?_⟩⟩
    rw [rep_flat, show (n : Int).toNat = n from rfl]
    generalize eH9 : upd (upd (upd (upd H7 a2 (.lst [V.int 1])) z2 (.lst (List.replicate n (V.int 1)))) q2 (.lst [V.ref z2])) q3 (.lst ([V.ref z2] ++ es)) = H9 at *
    have s9 : Same H2 H9 := eH9 ▸ s8.trans (same_new nq3)
    have s10 := s9.trans ((same_new (o := .lst [V.int 0]) na3).trans (same_new (o := .lst (List.replicate n (V.int 0))) nz3))
    have s910 := (same_new (o := .lst [V.int 0]) na3).trans (same_new (o := .lst (List.replicate n (V.int 0))) nz3)
    have z9 : H9 z2 = some (.lst (List.replicate n (V.int 1))) := by
      rw [← eH9]
      exact same_new nq3 _ _ (same_new nq2 _ _ upd_same)
    have q9 : H9 q3 = some (.lst ([V.ref z2] ++ es)) := by
      rw [← eH9]
      exact upd_same
    refine ⟨_, List.replicate n 1 :: L, n, _, .list (iD (List.replicate n 0)), rfl, .inl (.lst (s910 _ _ q9) (.cons (.lst (s910 _ _ z9) (PyVs.mono s10 (mz 1))) (PyVs.mono s10 G2.pe))), ⟨?_, ?_, by have := G2.n2; omega, G2.n6, fun r hr' => ?_⟩, fun r hr' x hx => ?_, .inl (.lst upd_same (PyVs.mono s10 (mz 0))), ?_, fun H11 s11 => ?_⟩
    · rw [List.length_cons]; omega
    · rw [List.length_cons, G2.two]; decide
    · rcases List.mem_cons.mp hr' with rfl | hr'
      · exact List.length_replicate
      · exact G2.ok.all r hr'
    · rcases List.mem_cons.mp hr' with rfl | hr'
      · rw [(List.mem_replicate.mp hx).2]
        exact ⟨by decide, by decide⟩
      · exact G2.sm r hr' x hx
    · show (iD (List.replicate n 0)).length ≤ 200
      unfold iD
      rw [List.length_map, List.length_replicate]
      have := G2.n6
      omega
    rw [sol_list len0 fun r _ => dot_z2 r n]
    exact ⟨_, _, rfl, rfl, q _ (sB.trans (s10.trans s11))⟩
end
end K33

set_option Elab.async false
set_option linter.all false
set_option maxRecDepth 100000
set_option maxHeartbeats 2000000
namespace K33
open PySem PySem.Spec PyProof.Rows L2 Gd Zn Rp Dn
/-- a comprehension whose elements are new objects -/
theorem lc_fresh {p : Option Addr} {J : It} {g : TG} {te : TE} {vs : List Nat} {σ : L2.St} {H1 : Hp} {Q : VK} (n : Nat) (O : Nat → HO) (hp : Has p H1) (hn : n ≤ 1000)
    (hgo : ∀ i H, i < n → RX p H1 H → J.go i H) (hst : ∀ H, RX p H1 H → J.stop n H)
    (hs : ∀ i x H H' (C : VK), i < n → RX p H1 H → Has p H → J.yld i H x H' → (∀ q H4, RX p H H4 → H q = none → H4 q = some (O i) → C (.ref q) H4) → g x (wipe σ vs) H' fun σ2 H2 => wipe σ2 vs = wipe σ vs ∧ te σ2 H2 C)
    (hd : ∀ D H xs, H1 D = none → RX p H1 H → H D = some (.lst xs) → xs.length = n → (∀ i v, xs[i]? = some v → ∃ q, v = .ref q ∧ H q = some (O i)) → Q (.ref D) H) : LcB g tYes te vs σ Q J H1 := by
  intro D nD
  have nP : p ≠ some D := hp.ne nD
  refine ⟨fun i m H => i ≤ n ∧ m = n - i ∧ RX p H1 H ∧ ∃ xs, H D = some (.lst xs) ∧ xs.length = i ∧ ∀ j v, xs[j]? = some v → ∃ q, v = .ref q ∧ H q = some (O j) ∧ q ≠ D ∧ p ≠ some q, ⟨n, Nat.zero_le _, rfl, RX.new nD, [], upd_same, rfl, fun j v e => by simp at e⟩, ?_⟩
  rintro i m H ⟨hi, rfl, s1, xs, hD, hl, hE⟩
  by_cases hlt : i < n
  · refine .inr ⟨hgo i H hlt s1, fun H' => i + 1 ≤ n ∧ RX p H1 H' ∧ ∃ xs, H' D = some (.lst xs) ∧ xs.length = i + 1 ∧ ∀ j v, xs[j]? = some v → ∃ q, v = .ref q ∧ H' q = some (O j) ∧ q ≠ D ∧ p ≠ some q, fun H' h => ⟨n - (i + 1), by omega, h.1, rfl, h.2⟩, fun x H' hy => ?_⟩
    have hpH := hp.to s1
    refine hs i x H H' _ hlt s1 hpH hy fun q H4 s4 nq e4 => ?_
    have hD4 := s4.keep D _ nP hD
    have s5 : RX p H1 (upd H4 D (.lst (xs ++ [.ref q]))) := (s1.trans s4).mut nD hp
    refine ⟨xs, hD4, Nat.lt_of_lt_of_le (by omega : xs.length < 1001) (by decide), hlt, s5, xs ++ [.ref q], upd_same, by simp [hl], fun j v e => ?_⟩
    by_cases hj : j < xs.length
    · rw [List.getElem?_append_left hj] at e
      obtain ⟨q', e1, e2, e3, e5⟩ := hE j v e
      exact ⟨q', e1, by rw [upd_ne e3]; exact s4.keep q' _ e5 e2, e3, e5⟩
    · rw [List.getElem?_append_right (by omega)] at e
      have z : j - xs.length = 0 := by
        by_cases w : j - xs.length = 0
        · exact w
        · rw [List.getElem?_eq_none (by simp; omega)] at e; cases e
      rw [z] at e
      cases e
      have : j = i := by omega
      subst this
      have qD : q ≠ D := (ne_of_none hD nq).symm
      exact ⟨q, rfl, by rw [upd_ne qD]; exact e4, qD, hpH.ne nq⟩
  · have e : i = n := by omega
    subst e
    exact .inl ⟨hst H s1, hd D H xs nD s1 hD hl fun j v e => let ⟨q, e1, e2, _⟩ := hE j v e; ⟨q, e1, e2⟩⟩
/-! ### good values -/
def Lo (z : Int) : Prop := z.natAbs < 10 ^ 30
theorem sm_iD {zs : List Int} (h : ∀ z ∈ zs, Lo z) : ∀ d ∈ iD zs, Sm d := fun d hd => by
  obtain ⟨z, hz, rfl⟩ := List.mem_map.mp hd
  exact sm_int (h z hz)
theorem good_list {H : Hp} {a : Addr} {zs : List Int} (e : H a = some (.lst (zs.map V.int))) (h : ∀ z ∈ zs, Lo z) (hl : zs.length ≤ 100) : Good H (.ref a) :=
  ⟨_, .inl (.lst e (pyVs_map zs)), fit_list (sm_iD h) (by unfold iD; rw [List.length_map]; exact hl), by show (iD zs).length ≤ 200; unfold iD; rw [List.length_map]; omega⟩
theorem good_tuple {H : Hp} {a : Addr} {zs : List Int} (e : H a = some (.tup (zs.map V.int))) (h : ∀ z ∈ zs, Lo z) (hl : zs.length ≤ 100) : Good H (.ref a) :=
  ⟨_, .inl (.tup e (pyVs_map zs)), fit_tuple (sm_iD h) (by unfold iD; rw [List.length_map]; exact hl), by show (iD zs).length ≤ 200; unfold iD; rw [List.length_map]; omega⟩
theorem pyVs_one {H : Hp} {v : V} {d : PyData} (h : PyV H v d) (n : Nat) : PyVs H (List.replicate n v) (List.replicate n d) := by
  induction n with
  | zero => exact .nil
  | succ n ih => exact .cons h ih
theorem good_rep {H : Hp} {a : Addr} {v : V} {d : PyData} {n : Nat} (e : H a = some (.lst (List.replicate n v))) (p : PyV H v d) (h : Sm d) (hl : n ≤ 100) : Good H (.ref a) :=
  ⟨_, .inl (.lst e (pyVs_one p n)), fit_list (fun x hx => by rw [(List.mem_replicate.mp hx).2]; exact h) (by rw [List.length_replicate]; exact hl), by show (List.replicate n d).length ≤ 200; rw [List.length_replicate]; omega⟩
theorem good_sc {H : Hp} {v : V} {d : PyData} (p : PyV H v d) (h : Sm d) (hi : items d = []) : Good H v := ⟨_, .inl p, fit_sm h, by rw [hi]; decide⟩
def kvN (n : Nat) : List (Key × V) := (List.range n).map fun (i : Nat) => (Sum.inl (i : Int), V.int 0)
def dN (n : Nat) : List (PyData × PyData) := (List.range n).map fun (i : Nat) => (.int (i : Int), .int 0)
theorem flatN (n : Nat) : Flat (kvN n) (dN n) := by
  unfold kvN dN
  induction List.range n with
  | nil => exact .nil
  | cons i r ih => exact .cons (k := Sum.inl (i : Int)) rfl ih
theorem fitN : ∀ n : Nat, n ≤ 6 → Fit (.dict (dN n))
  | 0, _ => fit_of (by decide +kernel) (by decide +kernel) (by decide +kernel) (by decide +kernel)
  | 1, _ => fit_of (by decide +kernel) (by decide +kernel) (by decide +kernel) (by decide +kernel)
  | 2, _ => fit_of (by decide +kernel) (by decide +kernel) (by decide +kernel) (by decide +kernel)
  | 3, _ => fit_of (by decide +kernel) (by decide +kernel) (by decide +kernel) (by decide +kernel)
  | 4, _ => fit_of (by decide +kernel) (by decide +kernel) (by decide +kernel) (by decide +kernel)
  | 5, _ => fit_of (by decide +kernel) (by decide +kernel) (by decide +kernel) (by decide +kernel)
  | 6, _ => fit_of (by decide +kernel) (by decide +kernel) (by decide +kernel) (by decide +kernel)
  | n + 7, h => absurd h (by omega)
theorem mergeN : ∀ n : Nat, n ≤ 6 → mergeK [] (kvN n) = kvN n
  | 0, _ => by decide +kernel
  | 1, _ => by decide +kernel
  | 2, _ => by decide +kernel
  | 3, _ => by decide +kernel
  | 4, _ => by decide +kernel
  | 5, _ => by decide +kernel
  | 6, _ => by decide +kernel
  | n + 7, h => absurd h (by omega)
theorem good_dict {H : Hp} {a : Addr} {n : Nat} (e : H a = some (.dK (kvN n))) (h : n ≤ 6) : Good H (.ref a) := ⟨_, .inr ⟨a, _, _, rfl, e, rfl, flatN n⟩, fitN n h, by show 0 ≤ 200; omega⟩
theorem cut_map (zs : List Int) (lo hi : Option Int) : ∃ ys : List Int, cutV (zs.map V.int) lo hi = ys.map V.int ∧ (∀ y ∈ ys, y ∈ zs) ∧ ys.length ≤ zs.length := by
  unfold cutV
  rw [List.length_map, ← List.map_drop, ← List.map_take]
  refine ⟨_, rfl, fun y hy => List.mem_of_mem_drop (List.mem_of_mem_take hy), ?_⟩
  rw [List.length_take, List.length_drop]
  omega
end K33

set_option Elab.async false
set_option linter.all false
set_option maxRecDepth 100000
set_option maxHeartbeats 2000000
namespace K33
open PySem PySem.Spec PyProof.Rows L2 Gd Zn Rp Dn
/-- ahead of the values: all is drawn -/
structure Pre (H : Hp) (n : Nat) (e wa dr o u mv : Addr) (es : List V) (L : List (List Int)) (wh drn on ot mo : List Int) : Prop where
  n2 : 2 ≤ n
  n6 : n ≤ 6
  he : H e = some (.lst es)
  pe : PyVs H es (EqD L)
  ok : EqOk L n
  sm : ∀ r ∈ L, ∀ x ∈ r, Small x
  two : L.length = 2
  hw : H wa = some (.lst (wh.map V.int))
  lw : wh.length = n
  sol : solB L n (.list (iD wh)) = true
  hd : H dr = some (.lst (drn.map V.int))
  ld : drn.length = n
  ho : H o = some (.lst (on.map V.int))
  lo : on.length = n
  hu : H u = some (.lst (ot.map V.int))
  lu : ot.length = n
  hm : H mv = some (.lst (mo.map V.int))
  lm : mo.length = n
  bw : ∀ z ∈ wh, Lo z
  bd : ∀ z ∈ drn, Lo z
  bo : ∀ z ∈ on, Lo z
  bu : ∀ z ∈ ot, Lo z
  bm : ∀ z ∈ mo, Lo z
theorem Pre.mono {H H' : Hp} {n : Nat} {e wa dr o u mv : Addr} {es : List V} {L : List (List Int)} {wh drn on ot mo : List Int} (s : Same H H') (h : Pre H n e wa dr o u mv es L wh drn on ot mo) : Pre H' n e wa dr o u mv es L wh drn on ot mo :=
  ⟨h.n2, h.n6, s _ _ h.he, PyVs.mono s h.pe, h.ok, h.sm, h.two, s _ _ h.hw, h.lw, h.sol, s _ _ h.hd, h.ld, s _ _ h.ho, h.lo, s _ _ h.hu, h.lu, s _ _ h.hm, h.lm, h.bw, h.bd, h.bo, h.bu, h.bm⟩
def GL (H : Hp) (vs : List V) : Prop := ∀ v ∈ vs, Good H v
theorem GL.mono {H H' : Hp} {vs : List V} (s : Same H H') (h : GL H vs) : GL H' vs := fun v hv => (h v hv).mono s
theorem GL.add {H : Hp} {vs : List V} {v : V} (h : GL H vs) (g : Good H v) : GL H (vs ++ [v]) := fun x hx => by
  rcases List.mem_append.mp hx with hx | hx
  · exact h x hx
  · rw [List.mem_singleton.mp hx]
    exact g
theorem sz6 {n : Nat} (h : n ≤ 6) : 1 * (n : Int).toNat ≤ sizeLine := Nat.le_trans (by omega : 1 * (n : Int).toNat ≤ 1000) (by decide)
theorem lo0 : Lo 0 := by unfold Lo; decide
section
variable {P : Program} {w : World} {K : PySem.W.Frag} {mg : Str → Option Value} {base : Heap}
theorem mid_right {f : Addr} {cdv : Value} {A : Around} {outer : List Env} {s : Shared} {H0 : Hp} {E : XK} (T : Txt mg) (hst : Still A) (hr : Room 4 (A.deeper (envOfC "_law_right" (defScope st_right) s.heap.objs.size f cdv))) (D1 : Def P w K mg base "_law_is_solution" 3 ["_law_equations", "_law_value"] sp_lsol) (D2 : DefS P w K mg base) :
    ∃ t, PSs (cxOf CX0 P w K mg base N_right "_law_right" (defScope st_right) f cdv A outer s H0 E).nox ((defBody st_right).drop 7) t ∧
      ∀ (Q : VK) (H : Hp) (n : Nat) (e wa dr o u mv : Addr) (es : List V) (L : List (List Int)) (wh drn on ot mo : List Int) (s0 s2 s6 s7 s10 s12 s13 s14 s15 s16 s17 s18 s19 : Option V) (nx : L2.St → Hp → Prop), Pre H n e wa dr o u mv es L wh drn on ot mo → (∀ H', Same H H' → Q (.bl true) H') →
        t { nx := nx, rt := Q } [s0, some (.int n), s2, some (.ref e), some (.ref o), some (.ref u), s6, s7, some (.ref wa), some (.ref mv), s10, some (.ref dr), s12, s13, s14, s15, s16, s17, s18, s19] H := by
  obtain ⟨tt, htt, rd⟩ := tail_right (outer := outer) (H0 := H0) (E := E) T hst hr D1 D2
  refine ⟨_, pss_cons (ps_set (i := 12) sc_right.nd rfl (Or.inl rfl) (pe_lst (pa_cons (pv 4) (pa_cons (pv 5) (pa_cons (pv 8) (pa_cons (pe_callTy call_tuple_of (by rfl) T.tuple PyProof.Rows.boot_tuple (pa_cons (pv 8) pa_nil))
      (pa_cons (pe_op op_rep (pe_lst (pa_cons pe_int pa_nil)) (pv 1)) (pa_cons (pv 9) (pa_cons (pv 11) (pa_cons (pe_slice sl_list (pv 4) po_none (po_some (pe_un un_neg pe_int))) (pa_cons (pe_op op_cat (pv 4) (pe_lst (pa_cons pe_int pa_nil)))
      (pa_cons pe_non (pa_cons pe_int (pa_cons pe_str (pa_cons pe_dnewK (pa_cons (pe_op op_rep (pe_lst (pa_cons pe_non pa_nil)) (pv 1)) (pa_cons (pe_op op_rep (pe_lst (pa_cons pe_bl pa_nil)) (pv 1)) pa_nil)))))))))))))))))
    (pss_cons (ps_set (i := 12) sc_right.nd rfl (Or.inl rfl) (pe_op op_cat (pv 12) (pe_lst (pa_cons (pe_op op_rep (pe_lst (pa_cons pe_bl pa_nil)) (pv 1)) (pa_cons (pe_op op_rep (pe_lst (pa_cons pe_str pa_nil)) (pv 1))
      (pa_cons (pe_callTy (call_dictP rfl) (by rfl) T.dict PyProof.Rows.boot_dict (pa_cons (pe_lc (own := [("_law_at", 19)]) (g := gName 19) (tt := tYes) (te := tTup (tCons (tVar 19) (tCons (tC (.int 0)) tNil))) rfl sc_right.nd (pi_range1 (by rfl) T.range (pa_cons (pv 1) pa_nil))
        (blkOk_by (N := N_right) (sc := defScope st_right) (by decide +kernel)) (fun _ _ _ _ _ => pg_name (i := 19) sc_right.nd rfl (Or.inl rfl) (Or.inr rfl)) (fun _ _ _ _ _ => pts_nil) (fun _ _ _ _ _ => pe_tup (pa_cons (pv 19) (pa_cons pe_int pa_nil)))) pa_nil))
      (pa_cons (pe_op op_rep (pe_lst (pa_cons (pe_lst (pa_cons pe_int pa_nil)) pa_nil)) (pv 1)) (pa_cons pe_bl pa_nil))))))))
    htt), ?_⟩
  intro Q H n e wa dr o u mv es L wh drn on ot mo s0 s2 s6 s7 s10 s12 s13 s14 s15 s16 s17 s18 s19 nx G q
  have n6 := G.n6
  have g1 : GL H [.ref o, .ref u, .ref wa] := fun v hv => by
    rcases List.mem_cons.mp hv with rfl | hv
    · exact good_list G.ho G.bo (by rw [G.lo]; omega)
    rcases List.mem_cons.mp hv with rfl | hv
    · exact good_list G.hu G.bu (by rw [G.lu]; omega)
    rw [List.mem_singleton.mp hv]
    exact good_list G.hw G.bw (by rw [G.lw]; omega)
  refine ⟨_, rfl, _, rfl, _, rfl, _, rfl, wa, _, rfl, .inl ⟨.inl (.inl G.hw), fun tq ntq => ?_⟩⟩
  have G2 := G.mono (same_new (o := .tup (wh.map V.int)) ntq)
  have g2 := (g1.mono (same_new (o := .tup (wh.map V.int)) ntq)).add (good_tuple (a := tq) upd_same G.bw (by rw [G.lw]; omega))
  have S2 := same_new (o := .tup (wh.map V.int)) ntq
  generalize upd H tq (.tup (wh.map V.int)) = H2 at G2 g2 S2
  refine ⟨(by show 1 ≤ sizeLine; decide), fun a1 na1 => ⟨_, rfl, a1, (n : Int), [.int 0], rfl, rfl, upd_same, by omega, by omega, sz6 n6, fun z0 nz0 => ?_⟩⟩
  rw [rep_flat, show (n : Int).toNat = n from rfl]
  have s3 := (same_new (o := .lst [V.int 0]) na1).trans (same_new (o := .lst (List.replicate n (V.int 0))) nz0)
  have G3 := G2.mono s3
  have g3 := (((g2.mono s3).add (good_rep (a := z0) upd_same (.int 0) (sm_int lo0) (by omega : n ≤ 100))).add (good_list G3.hm G3.bm (by rw [G.lm]; omega))).add (good_list G3.hd G3.bd (by rw [G.ld]; omega))
  have S3 := S2.trans s3
  generalize upd (upd H2 a1 (.lst [V.int 0])) z0 (.lst (List.replicate n (V.int 0))) = H3 at G3 g3 S3
  refine ⟨_, rfl, _, rfl, _, rfl, _, rfl, _, rfl, o, _, rfl, .inl (.inl G3.ho), fun c nc => ?_⟩
  obtain ⟨ys, ey, my, ly⟩ := cut_map on none (some (-1))
  rw [ey]
  have s4 := same_new (o := .lst (ys.map V.int)) nc
  have G4 := G3.mono s4
  have g4 := (g3.mono s4).add (good_list (a := c) upd_same (fun y hy => G.bo y (my y hy)) (by have := G.lo; omega))
  have S4 := S3.trans s4
  generalize upd H3 c (.lst (ys.map V.int)) = H4 at G4 g4 S4
  refine ⟨_, rfl, (by show 1 ≤ sizeLine; decide), fun a2 na2 => ⟨o, a2, _, _, rfl, rfl, same_new na2 _ _ G4.ho, upd_same, ?_, fun p2 np2 => ?_⟩⟩
  · refine Nat.le_trans ?_ (by decide : 1000 ≤ sizeLine)
    rw [List.length_map, G.lo]
    show n + 1 ≤ 1000
    omega
  have s5 := (same_new (o := .lst [V.int 0]) na2).trans (same_new (o := .lst (on.map V.int ++ [V.int 0])) np2)
  have G5 := G4.mono s5
  have g5 := ((((g4.mono s5).add (good_list (a := p2) (zs := on ++ [0]) (by rw [List.map_append]; exact upd_same) (fun z hz => by
    rcases List.mem_append.mp hz with hz | hz
    · exact G.bo z hz
    · rw [List.mem_singleton.mp hz]; exact lo0) (by rw [List.length_append, G.lo]; show n + 1 ≤ 100; omega))).add (good_sc .non sm_non rfl)).add (good_sc (.int 0) (sm_int lo0) rfl)).add (good_sc (.str "") ⟨by decide +kernel, by decide +kernel, by decide +kernel, by decide +kernel⟩ rfl)
  have S5 := S4.trans s5
  generalize upd (upd H4 a2 (.lst [V.int 0])) p2 (.lst (on.map V.int ++ [V.int 0])) = H5 at G5 g5 S5
  refine fun dd ndd => ?_
  have s6 := same_new (o := .dK []) ndd
  have G6 := G5.mono s6
  have g6 := (g5.mono s6).add (good_dict (a := dd) (n := 0) upd_same (by decide))
  have S6 := S5.trans s6
  generalize upd H5 dd (.dK []) = H6 at G6 g6 S6
  refine ⟨(by show 1 ≤ sizeLine; decide), fun a3 na3 => ⟨_, rfl, a3, (n : Int), [.non], rfl, rfl, upd_same, by omega, by omega, sz6 n6, fun z3 nz3 => ?_⟩⟩
  rw [rep_flat, show (n : Int).toNat = n from rfl]
  have s7 := (same_new (o := .lst [V.non]) na3).trans (same_new (o := .lst (List.replicate n V.non)) nz3)
  have G7 := G6.mono s7
  have g7 := (g6.mono s7).add (good_rep (a := z3) upd_same .non sm_non (by omega : n ≤ 100))
  have S7 := S6.trans s7
  generalize upd (upd H6 a3 (.lst [V.non])) z3 (.lst (List.replicate n V.non)) = H7 at G7 g7 S7
  refine ⟨(by show 1 ≤ sizeLine; decide), fun a4 na4 => ⟨_, rfl, a4, (n : Int), [.bl true], rfl, rfl, upd_same, by omega, by omega, sz6 n6, fun z4 nz4 => ?_⟩⟩
  rw [rep_flat, show (n : Int).toNat = n from rfl]
  have s8 := (same_new (o := .lst [V.bl true]) na4).trans (same_new (o := .lst (List.replicate n (V.bl true))) nz4)
  have G8 := G7.mono s8
  have g8 := (g7.mono s8).add (good_rep (a := z4) upd_same (.bl true) (sm_bool true) (by omega : n ≤ 100))
  have S8 := S7.trans s8
  generalize upd (upd H7 a4 (.lst [V.bl true])) z4 (.lst (List.replicate n (V.bl true))) = H8 at G8 g8 S8
  refine ⟨(by show 15 ≤ sizeLine; decide), fun va nva => ?_⟩
  generalize eV : ([V.ref o, V.ref u, V.ref wa, V.ref tq, V.ref z0, V.ref mv, V.ref dr, V.ref c, V.ref p2, V.non, V.int 0, V.str "", V.ref dd, V.ref z3, V.ref z4] : List V) = xs1
  have g9 : GL (upd H8 va (.lst xs1)) xs1 := by
    rw [← eV]
    exact g8.mono (same_new nva)
  have G9 := G8.mono (same_new (o := .lst xs1) nva)
  have v9 : (upd H8 va (.lst xs1)) va = some (.lst xs1) := upd_same
  have lx : xs1.length = 15 := by rw [← eV]; rfl
  have S9 := S8.trans (same_new (o := .lst xs1) nva)
  generalize upd H8 va (.lst xs1) = H9 at G9 g9 v9 S9
  -- five more
  refine ⟨_, rfl, ?_⟩
  refine ⟨(by show 1 ≤ sizeLine; decide), fun a5 na5 => ⟨_, rfl, a5, (n : Int), [.bl false], rfl, rfl, upd_same, by omega, by omega, sz6 n6, fun z5 nz5 => ?_⟩⟩
  rw [rep_flat, show (n : Int).toNat = n from rfl]
  have s10 := (same_new (o := .lst [V.bl false]) na5).trans (same_new (o := .lst (List.replicate n (V.bl false))) nz5)
  have G10 := G9.mono s10
  have v10 := s10 _ _ v9
  have g10 := (g9.mono s10).add (good_rep (a := z5) upd_same (.bl false) (sm_bool false) (by omega : n ≤ 100))
  have S10 := S9.trans s10
  generalize upd (upd H9 a5 (.lst [V.bl false])) z5 (.lst (List.replicate n (V.bl false))) = H10 at G10 g10 v10 S10
  refine ⟨(by show 1 ≤ sizeLine; decide), fun a6 na6 => ⟨_, rfl, a6, (n : Int), [.str "0"], rfl, rfl, upd_same, by omega, by omega, sz6 n6, fun z6 nz6 => ?_⟩⟩
  rw [rep_flat, show (n : Int).toNat = n from rfl]
  have s11 := (same_new (o := .lst [V.str "0"]) na6).trans (same_new (o := .lst (List.replicate n (V.str "0"))) nz6)
  have G11 := G10.mono s11
  have v11 := s11 _ _ v10
  have g11 := (g10.mono s11).add (good_rep (a := z6) upd_same (.str "0") ⟨by decide +kernel, by decide +kernel, by decide +kernel, by decide +kernel⟩ (by omega : n ≤ 100))
  have S11 := S10.trans s11
  generalize upd (upd H10 a6 (.lst [V.str "0"])) z6 (.lst (List.replicate n (V.str "0"))) = H11 at G11 g11 v11 S11
  refine r_cons (r_cb (r_cons ?_))
  refine tlc_of (Itr 0 n) (H1 := H11) (fun R hR => ⟨_, rfl, (n : Int), rfl, by omega, by omega, hR⟩) ?_
  refine lc_fresh (p := none) n (fun i => .tup [.int (i : Int), .int 0]) has_none (by omega) (fun i H2 hi s2 => hi) (fun H2 s2 => Nat.le_refl _) (fun i x H2 H3 C hi s2 hp2 hy hC => ?_) fun D H12 ps nD s12 hD hpl hE => ?_
  · obtain ⟨rfl, rfl⟩ := hy
    refine ⟨rfl, _, rfl, (by show 2 ≤ sizeLine; decide), fun t nt => hC t _ (RX.new nt) nt ?_⟩
    rw [upd_same, Int.zero_add]
  have s12' := s12.same
  have G12 := G11.mono s12'
  have v12 := s12' _ _ v11
  have g12 := g11.mono s12'
  have hps : ∃ qs : List Addr, ps = qs.map V.ref ∧ Paired (fun (p : Addr) (kv : Key × V) => SqT K H12 p [kV kv.1, kv.2]) qs (kvN n) := by
    have gen : ∀ (m : Nat) (l : List V) (k : Nat), l.length = m → (∀ (i : Nat) (v : V), l[i]? = some v → ∃ q, v = .ref q ∧ H12 q = some (.tup [.int ((k + i : Nat) : Int), .int 0])) →
        ∃ qs : List Addr, l = qs.map V.ref ∧ Paired (fun (p : Addr) (kv : Key × V) => SqT K H12 p [kV kv.1, kv.2]) qs ((List.range' k m).map fun (i : Nat) => (Sum.inl (i : Int), V.int 0)) := by
      intro m
      induction m with
      | zero =>
        intro l k hl _
        rw [List.length_eq_zero_iff.mp hl]
        exact ⟨[], rfl, .nil⟩
      | succ m ih =>
        intro l k hl h
        cases l with
        | nil => cases hl
        | cons v l =>
          obtain ⟨q, rfl, eq⟩ := h 0 v rfl
          obtain ⟨qs, e1, e2⟩ := ih l (k + 1) (Nat.succ.inj hl) fun i w ew => by
            obtain ⟨q', e3, e4⟩ := h (i + 1) w ew
            exact ⟨q', e3, by rw [e4]; congr 4; omega⟩
          refine ⟨q :: qs, by rw [e1]; rfl, ?_⟩
          rw [List.range'_succ, List.map_cons]
          exact .cons (.inl (.inl eq)) e2
    have := gen n ps 0 hpl fun i v e => by
      obtain ⟨q, e1, e2⟩ := hE i v e
      exact ⟨q, e1, by rw [e2]; congr 4; omega⟩
    rw [← List.range_eq_range'] at this
    exact this
  obtain ⟨qs, rfl, hpq⟩ := hps
  refine ⟨D, qs, kvN n, rfl, .inl (.inl hD), hpq, fun dq ndq => ?_⟩
  rw [mergeN n n6]
  have s13 := same_new (o := .dK (kvN n)) ndq
  have G13 := G12.mono s13
  have v13 := s13 _ _ v12
  have g13 := (g12.mono s13).add (good_dict (a := dq) upd_same n6)
  have S12 := S11.trans s12'
  have S13 := S12.trans s13
  generalize upd H12 dq (.dK (kvN n)) = H13 at G13 g13 v13 S13
  refine ⟨(by show 1 ≤ sizeLine; decide), fun a7 na7 => ⟨(by show 1 ≤ sizeLine; decide), fun a8 na8 => ⟨_, rfl, a8, (n : Int), [.ref a7], rfl, rfl, upd_same, by omega, by omega, sz6 n6, fun z7 nz7 => ?_⟩⟩⟩
  rw [rep_flat, show (n : Int).toNat = n from rfl]
  have t14 := (same_new (o := .lst [V.ref a7]) na8).trans (same_new (o := .lst (List.replicate n (V.ref a7))) nz7)
  have s14 := (same_new (o := .lst [V.int 0]) na7).trans t14
  have G14 := G13.mono s14
  have v14 := s14 _ _ v13
  have a7' : (upd (upd (upd H13 a7 (.lst [V.int 0])) a8 (.lst [V.ref a7])) z7 (.lst (List.replicate n (V.ref a7)))) a7 = some (.lst [V.int 0]) := t14 _ _ upd_same
  have g14 := ((g13.mono s14).add (good_rep (a := z7) upd_same (.lst a7' (.cons (.int 0) .nil)) ⟨by decide +kernel, by decide +kernel, by decide +kernel, by decide +kernel⟩ (by omega : n ≤ 100))).add (good_sc (.bl true) (sm_bool true) rfl)
  have S14 := S13.trans s14
  generalize upd (upd (upd H13 a7 (.lst [V.int 0])) a8 (.lst [V.ref a7])) z7 (.lst (List.replicate n (V.ref a7))) = H14 at G14 g14 v14 S14
  refine ⟨(by show 5 ≤ sizeLine; decide), fun vb nvb => ?_⟩
  refine ⟨va, vb, xs1, _, rfl, rfl, same_new nvb _ _ v14, upd_same, ?_, fun vc nvc => ?_⟩
  · refine Nat.le_trans ?_ (by decide : 1000 ≤ sizeLine)
    rw [lx]
    show 15 + 5 ≤ 1000
    decide
  have s15 := (same_new (o := .lst [V.ref z5, V.ref z6, V.ref dq, V.ref z7, V.bl true]) nvb).trans (same_new (o := .lst (xs1 ++ [V.ref z5, V.ref z6, V.ref dq, V.ref z7, V.bl true])) nvc)
  have G15 := G14.mono s15
  have g15 : GL (upd (upd H14 vb (.lst [V.ref z5, V.ref z6, V.ref dq, V.ref z7, V.bl true])) vc (.lst (xs1 ++ [V.ref z5, V.ref z6, V.ref dq, V.ref z7, V.bl true]))) (xs1 ++ [V.ref z5, V.ref z6, V.ref dq, V.ref z7, V.bl true]) := by
    have := g14.mono s15
    simp only [List.append_assoc, List.cons_append, List.nil_append] at this
    exact this
  exact rd Q _ n e wa dr vc es L wh drn _ _ _ _ _ _ _ _ _ _ _ _ _ _ _ _ _ ⟨G15.n2, G15.n6, G15.he, G15.pe, G15.ok, G15.sm, G15.two, G15.hw, G15.lw, G15.sol, G15.hd, G15.ld, upd_same, g15⟩ fun H' s' => q H' ((S14.trans s15).trans s')
end
end K33

set_option Elab.async false
set_option linter.all false
set_option maxRecDepth 100000
set_option maxHeartbeats 2000000
namespace K33
open PySem PySem.Spec PyProof.Rows L2 Gd Zn Rp Dn
/-! ### two rows that solve -/
def mix (a b : Int) (ys zs : List Int) : List Int := (ys.zip zs).map fun p => a * p.1 + b * p.2
theorem mix_cons (a b y z : Int) (ys zs : List Int) : mix a b (y :: ys) (z :: zs) = (a * y + b * z) :: mix a b ys zs := rfl
theorem ar1 (x a y b z d e : Int) : x * (a * y + b * z) + (a * d + b * e) = a * (x * y + d) + b * (x * z + e) := by grind
theorem dot_mix (a b : Int) : ∀ xs ys zs : List Int, xs.length = ys.length → xs.length = zs.length → dot xs (mix a b ys zs) = a * dot xs ys + b * dot xs zs
  | [], _, _, _, _ => by rw [dot_nil, dot_nil, dot_nil]; omega
  | x :: xs, y :: ys, z :: zs, h1, h2 => by
    rw [mix_cons, dot_cons, dot_cons, dot_cons, dot_mix a b xs ys zs (Nat.succ.inj h1) (Nat.succ.inj h2)]
    exact ar1 ..
  | _ :: _, [], _, h, _ => by cases h
  | _ :: _, _ :: _, [], _, h => by cases h
theorem ar2 (m x y d : Int) : m * x * y + m * d = m * (x * y + d) := by grind
theorem dot_scale (m : Int) : ∀ xs ys : List Int, dot (xs.map fun x => m * x) ys = m * dot xs ys
  | [], ys => by rw [List.map_nil, dot_nil]; omega
  | _ :: _, [] => by rw [dot_nil2, dot_nil2]; omega
  | x :: xs, y :: ys => by
    rw [List.map_cons, dot_cons, dot_cons, dot_scale m xs ys]
    exact ar2 ..
theorem dot_one {fs : List Int} (h : 2 ≤ fs.length) : dot fs (oneL fs) = 0 := by
  cases fs with
  | nil => simp at h
  | cons a t =>
    cases t with
    | nil => simp at h
    | cons b r =>
      have e : oneL (a :: b :: r) = (0 - b) :: a :: List.replicate r.length 0 := rfl
      rw [e, dot_cons, dot_cons, dot_z2]
      grind
theorem dot_last (v : Int) : ∀ t : List Int, t ≠ [] → dot t ((List.replicate t.length 0).set (t.length - 1) v) = t.getD (t.length - 1) 0 * v
  | [], h => absurd rfl h
  | [x], _ => by
    show dot [x] [v] = x * v
    rw [dot_cons, dot_nil]
    omega
  | x :: y :: r, _ => by
    have ih := dot_last v (y :: r) (by simp)
    have e : (List.replicate (x :: y :: r).length 0).set ((x :: y :: r).length - 1) v = 0 :: (List.replicate (y :: r).length 0).set ((y :: r).length - 1) v := rfl
    rw [e, dot_cons, ih]
    show x * 0 + (y :: r).getD (r.length + 1 - 1) 0 * v = (x :: y :: r).getD (r.length + 1 + 1 - 1) 0 * v
    rw [Int.mul_zero, Int.zero_add]
    rfl
theorem ar3 (a z : Int) : a * z + z * (0 - a) = 0 := by grind
theorem dot_other {fs : List Int} (h : 2 ≤ fs.length) : dot fs (otherL fs) = 0 := by
  cases fs with
  | nil => simp at h
  | cons a t =>
    have ht : t ≠ [] := fun z => by subst z; simp at h
    have lt : 1 ≤ t.length := by simp at h; omega
    have e : otherL (a :: t) = (a :: t).getD t.length 0 :: (List.replicate t.length 0).set (t.length - 1) (0 - a) := by
      unfold otherL
      show ((List.replicate (t.length + 1) 0).set (t.length + 1 - 1) (0 - a)).set 0 ((a :: t).getD (t.length + 1 - 1) 0) = _
      obtain ⟨k, hk⟩ : ∃ k, t.length = k + 1 := ⟨t.length - 1, by omega⟩
      rw [hk]
      rfl
    rw [e, dot_cons, dot_last _ t ht]
    have e2 : (a :: t).getD t.length 0 = t.getD (t.length - 1) 0 := by
      obtain ⟨k, hk⟩ : ∃ k, t.length = k + 1 := ⟨t.length - 1, by omega⟩
      rw [hk]
      rfl
    rw [e2]
    exact ar3 ..
theorem one_len (fs : List Int) : (oneL fs).length = fs.length := by unfold oneL; simp
theorem other_len (fs : List Int) : (otherL fs).length = fs.length := by unfold otherL; simp
/-- entries within a bound -/
def Bd (B : Nat) (xs : List Int) : Prop := ∀ x ∈ xs, x.natAbs ≤ B
theorem bd_set {B : Nat} {xs : List Int} {i : Nat} {v : Int} (h : Bd B xs) (hv : v.natAbs ≤ B) : Bd B (xs.set i v) := fun x hx => by
  rcases List.mem_or_eq_of_mem_set hx with hx | rfl
  · exact h x hx
  · exact hv
theorem bd_getD {B : Nat} {xs : List Int} (h : Bd B xs) (i : Nat) : (xs.getD i 0).natAbs ≤ B := by
  rw [List.getD_eq_getElem?_getD]
  cases e : xs[i]? with
  | none => show (0 : Int).natAbs ≤ B; omega
  | some x => exact h x (List.mem_of_getElem? e)
theorem bd_rep {B n : Nat} : Bd B (List.replicate n 0) := fun x hx => by rw [(List.mem_replicate.mp hx).2]; show 0 ≤ B; omega
theorem bd_one {B : Nat} {fs : List Int} (h : Bd B fs) : Bd B (oneL fs) := by
  unfold oneL
  exact bd_set (bd_set bd_rep (by have := bd_getD h 1; omega)) (bd_getD h 0)
theorem bd_other {B : Nat} {fs : List Int} (h : Bd B fs) : Bd B (otherL fs) := by
  unfold otherL
  exact bd_set (bd_set bd_rep (by have := bd_getD h 0; omega)) (bd_getD h _)
theorem bd_mul {a x : Int} {A B : Nat} (h : a.natAbs ≤ A) (k : x.natAbs ≤ B) : (a * x).natAbs ≤ A * B := by
  rw [Int.natAbs_mul]
  exact Nat.mul_le_mul h k
theorem bd_mix {a b : Int} {A B : Nat} {ys zs : List Int} (ha : a.natAbs ≤ A) (hb : b.natAbs ≤ A) (hy : Bd B ys) (hz : Bd B zs) : Bd (2 * (A * B)) (mix a b ys zs) := fun x hx => by
  obtain ⟨p, hp, rfl⟩ := List.mem_map.mp hx
  have h1 := bd_mul ha (hy p.1 (List.of_mem_zip hp).1)
  have h2 := bd_mul hb (hz p.2 (List.of_mem_zip hp).2)
  show (a * p.1 + b * p.2).natAbs ≤ _
  omega
theorem bd_lo {B : Nat} {xs : List Int} (h : Bd B xs) (hB : B < 10 ^ 30) : ∀ z ∈ xs, Lo z := fun z hz => Nat.lt_of_le_of_lt (h z hz) hB
end K33

set_option Elab.async false
set_option linter.all false
set_option maxRecDepth 100000
set_option maxHeartbeats 4000000
namespace K33
open PySem PySem.Spec PyProof.Rows L2 Gd Zn Rp Dn
section
variable {P : Program} {w : World} {K : PySem.W.Frag} {mg : Str → Option Value} {base : Heap}
def sp_right : Sp := fun vs H Q _ => ∃ p, vs = [.ref p] ∧ PotOk H p ∧ ∀ H', RX (some p) H H' → Q (.bl true) H'
theorem ok_right {f : Addr} {fd : FuncData} (F : Fun K "_law_right" "_law_right" st_right f fd) (T : Txt mg) (D1 : Def P w K mg base "_law_is_solution" 3 ["_law_equations", "_law_value"] sp_lsol) (D2 : DefS P w K mg base)
    (D3 : Def P w K mg base "_law_draw" 1 ["_law_pot_here", "_law_many"] sp_draw) (D4 : Def P w K mg base "_law_pick" 2 ["_law_pot_here", "_law_some"] sp_pick) (D5 : Def P w K mg base "_law_pair" 2 ["_law_pot_here", "_law_length", "_law_great"] sp_pair) :
    FnG P w K mg base CX0 5 f fd ["_law_pot_here"] sp_right := by
  refine okG F sc_right (fun vs H Q E h => ?_) (fun cdv A outer s H vs Q E hst hr h => ?_)
  · obtain ⟨p, rfl, _⟩ := h
    rfl
  · obtain ⟨p, rfl, hp, q⟩ := h
    obtain ⟨tm, htm, rd⟩ := mid_right (outer := outer) (H0 := H) (E := E) T hst hr D1 D2
    refine ⟨_, pss_cons (ps_par (i := 1) (j := 2) rfl sc_right.nd rfl rfl (by decide) rfl rfl (pa_cons (pe_op op_add pe_int (pe_def D3 hr (pa_cons (pv 0) (pa_cons pe_int pa_nil)))) (pa_cons (pe_def D4 hr (pa_cons (pv 0) (pa_cons (pe_lst (pa_cons pe_int (pa_cons pe_int (pa_cons (pe_op op_pow pe_int pe_int) pa_nil)))) pa_nil))) pa_nil)) (by rfl))
      (pss_cons (ps_asg (pe_def D5 hr (pa_cons (pv 0) (pa_cons (pv 1) (pa_cons (pv 2) pa_nil)))) (pg_tup rfl (pgs_cons (pg_name (i := 3) sc_right.nd rfl (Or.inl rfl)) (pgs_cons (pg_name (i := 4) sc_right.nd rfl (Or.inl rfl)) (pgs_cons (pg_name (i := 5) sc_right.nd rfl (Or.inl rfl)) pgs_nil)))))
      (pss_cons (ps_asg (pe_tup (pa_cons (pe_op op_sub (pe_def D3 hr (pa_cons (pv 0) (pa_cons pe_int pa_nil))) pe_int) (pa_cons (pe_op op_sub (pe_def D3 hr (pa_cons (pv 0) (pa_cons pe_int pa_nil))) pe_int) pa_nil)))
        (pg_tup rfl (pgs_cons (pg_name (i := 6) sc_right.nd rfl (Or.inr rfl)) (pgs_cons (pg_name (i := 7) sc_right.nd rfl (Or.inr rfl)) pgs_nil))))
      (pss_cons (ps_setLc (i := 8) (own := [("_law_left", 17), ("_law_right_here", 18)]) (g := gTup K 2 (gCons (gName 17) (gCons (gName 18) gNil))) (tt := tYes) rfl sc_right.nd rfl rfl (sw_true rfl rfl rfl (by decide +kernel)) (pi_zipn (by rfl) T.zip (pa_cons (pv 4) (pa_cons (pv 5) pa_nil)))
        (blkOk_by (N := N_right) (sc := defScope st_right) (by decide +kernel)) (fun _ _ _ _ _ => pg_tup rfl (pgs_cons (pg_name (i := 17) sc_right.nd rfl (Or.inl rfl) (Or.inr rfl)) (pgs_cons (pg_name (i := 18) sc_right.nd rfl (Or.inl rfl) (Or.inr rfl)) pgs_nil))) (fun _ _ _ _ _ => pts_nil)
        (fun _ _ _ _ _ => pe_op op_add (pe_op op_mul (pv 6) (pv 17)) (pe_op op_mul (pv 7) (pv 18))))
      (pss_cons (ps_par (i := 9) (j := 10) rfl sc_right.nd rfl rfl (by decide) rfl rfl (pa_cons (pe_callTy call_list_of (by rfl) T.list PyProof.Rows.boot_list (pa_cons (pv 8) pa_nil)) (pa_cons (pe_def D3 hr (pa_cons (pv 0) (pa_cons (pv 1) pa_nil))) pa_nil)) (by rfl))
      (pss_cons (ps_asg (pe_op op_add (pe_ix ix_list (pv 9) (pv 10) (fun _ _ => rfl)) pe_int) (pg_sub (pv 9) (pv 10) set_list))
      (pss_cons (ps_setLc (i := 11) (own := [("_law_at", 19)]) (g := gName 19) (tt := tYes) rfl sc_right.nd rfl rfl (sw_true rfl rfl rfl (by decide +kernel)) (pi_range1 (by rfl) T.range (pa_cons (pv 1) pa_nil))
        (blkOk_by (N := N_right) (sc := defScope st_right) (by decide +kernel)) (fun _ _ _ _ _ => pg_name (i := 19) sc_right.nd rfl (Or.inl rfl) (Or.inr rfl)) (fun _ _ _ _ _ => pts_nil)
        (fun _ _ _ _ _ => pe_op op_sub (pe_def (X := Cx.blk _ _ _ _ _ _) D3 hr (pa_cons (pv 0) (pa_cons pe_int pa_nil))) pe_int)) htm)))))), ?_⟩
    have hh : Has (some p) H := fun q e => by cases e; exact hp
    -- length, great
    refine ⟨_, rfl, p, 5, rfl, hp, by decide, by decide, fun r H1 r0 r5 s1 => ⟨_, _, rfl, rfl, ?_⟩⟩
    refine ⟨_, rfl, _, _, rfl, rfl, ⟨by decide, by decide, by decide⟩, (by show 3 ≤ sizeLine; decide), fun ag nag => ?_⟩
    have p1 := s1.pot p rfl hp
    refine ⟨p, ag, _, rfl, RX.pot (RX.new nag) p rfl p1, upd_same, fun z => by subst z; exact p1.some_ nag, by decide, by decide, fun i x H2 ex s2 => ?_⟩
    have hg : ∃ g : Int, x = .int g ∧ 0 ≤ g ∧ g ≤ 100000000000000 := by
      match i, ex with
      | 0, ex => cases ex; exact ⟨0, rfl, by decide, by decide⟩
      | 1, ex => cases ex; exact ⟨0, rfl, by decide, by decide⟩
      | 2, ex => cases ex; exact ⟨_, rfl, by decide, by decide⟩
      | k + 3, ex => cases ex
    obtain ⟨g, rfl, g0, g1⟩ := hg
    have sH2 : RX (some p) H H2 := s1.trans ((RX.new nag).trans s2)
    obtain ⟨n, en, n2, n6⟩ : ∃ n : Nat, 2 + r = (n : Int) ∧ 2 ≤ n ∧ n ≤ 6 := ⟨(2 + r).toNat, by omega, by omega, by omega⟩
    refine ⟨_, _, rfl, ?_⟩
    have ev : (fun i j : Int => V.int (i + j)) 2 r = V.int (n : Int) := congrArg V.int en
    rw [ev]
    -- the equations and two solutions
    refine ⟨_, rfl, _, rfl, _, rfl, p, n, g, rfl, sH2.pot p rfl hp, n2, n6, g0, g1, fun fs nm t e ff m o u H3 hfl hfb nm0 nm1 s3 hne ht he hf hm ho hu => ?_⟩
    have sH3 := sH2.trans s3
    have neP : ∀ {a : Addr}, a ∈ [t, e, ff, m, o, u] → some p ≠ some a := fun h z => hne _ h (by cases z; rfl)
    refine ⟨t, _, rfl, .inl (.inl ht), rfl, _, _, rfl, _, _, rfl, _, _, rfl, rfl, ?_⟩
    -- near, far
    refine ⟨_, rfl, p, 9, rfl, sH3.pot p rfl hp, by decide, by decide, fun ra H4 ra0 ra9 s4 => ⟨_, _, rfl, rfl, ?_⟩⟩
    refine ⟨_, rfl, p, 9, rfl, (sH3.trans s4).pot p rfl hp, by decide, by decide, fun rb H5 rb0 rb9 s5 => ⟨_, _, rfl, rfl, ?_⟩⟩
    refine ⟨(by show 2 ≤ sizeLine; decide), fun t5 nt5 => ⟨t5, _, rfl, .inl (.inl upd_same), rfl, _, _, rfl, _, _, rfl, rfl, ?_⟩⟩
    have s36 : RX (some p) H3 (upd H5 t5 (.tup [V.int (ra - 4), V.int (rb - 4)])) := s4.trans (s5.trans (RX.new nt5))
    generalize upd H5 t5 (.tup [V.int (ra - 4), V.int (rb - 4)]) = H6 at s36
    have sH6 := sH3.trans s36
    have h6 : Has (some p) H6 := hh.to sH6
    have e6 := s36.keep e _ (neP (by simp)) he
    have f6 := s36.keep ff _ (neP (by simp)) hf
    have m6 := s36.keep m _ (neP (by simp)) hm
    have o6 := s36.keep o _ (neP (by simp)) ho
    have u6 := s36.keep u _ (neP (by simp)) hu
    have lo1 : (oneL fs).length = n := by rw [one_len, hfl]
    have lu1 : (otherL fs).length = n := by rw [other_len, hfl]
    have qo : ∀ H2, RX (some p) H6 H2 → SqV K H2 false o ((oneL fs).map V.int) := fun H2 s2 => .inl (.inl (s2.keep o _ (neP (by simp)) o6))
    have qu : ∀ H2, RX (some p) H6 H2 → SqV K H2 false u ((otherL fs).map V.int) := fun H2 s2 => .inl (.inl (s2.keep u _ (neP (by simp)) u6))
    have sq : ∀ H2, RX (some p) H6 H2 → AllSq K H2 [(false, o), (false, u)] := fun H2 s2 z hz => by
      rcases List.mem_cons.mp hz with rfl | hz
      · exact ⟨_, qo H2 s2⟩
      · rcases List.mem_cons.mp hz with rfl | hz
        · exact ⟨_, qu H2 s2⟩
        · cases hz
    refine r_nseq (r_asg ?_)
    refine tlc_of (Itn K [(false, o), (false, u)]) (H1 := H6) (fun R hR => ⟨_, rfl, _, rfl, [(false, o), (false, u)], rfl, Nat.zero_lt_succ _, (by show 2 ≤ 3; decide), sq H6 (RX.refl _), hR⟩) ?_
    refine lc_el (p := some p) n (fun i v => ∃ x y, (oneL fs)[i]? = some x ∧ (otherL fs)[i]? = some y ∧ v = .int ((ra - 4) * x + (rb - 4) * y)) h6 (by omega) (fun i H2 hi s2 => ?_) (fun H2 s2 => ?_) (fun i x H2 H3 C hi s2 _ hy hC => ?_) fun wa H7 rs nwa s7 hwa hrl hE => ?_
    · exact ⟨[.int ((oneL fs)[i]'(by omega)), .int ((otherL fs)[i]'(by omega))], row2 (qo H2 s2) (by simp [(by omega : i < (oneL fs).length)]) (qu H2 s2) (by simp [(by omega : i < (otherL fs).length)])⟩
    · exact ⟨sq H2 s2, (false, o), List.mem_cons_self, _, qo H2 s2, by simp [lo1]⟩
    · have hi1 : i < (oneL fs).length := by omega
      have hi2 : i < (otherL fs).length := by omega
      obtain ⟨T2, zs, rfl, nT, rfl, hu'⟩ := hy
      have ez : zs = [.int (oneL fs)[i], .int (otherL fs)[i]] := (hu' _ (row2 (qo H2 s2) (by simp [hi1]) (qu H2 s2) (by simp [hi2]))).symm
      subst ez
      refine ⟨T2, _, rfl, .inl (.inl upd_same), rfl, _, _, rfl, _, _, rfl, rfl, rfl, ?_⟩
      exact ⟨_, rfl, _, rfl, _, _, rfl, rfl, .inl ⟨by omega, by omega⟩, _, rfl, _, rfl, _, _, rfl, rfl, .inl ⟨by omega, by omega⟩, _, _, rfl, rfl, hC _ _ (RX.new nT) ⟨_, _, List.getElem?_eq_getElem hi1, List.getElem?_eq_getElem hi2, rfl⟩⟩
    obtain ⟨wh, ewh⟩ : ∃ wh, mix (ra - 4) (rb - 4) (oneL fs) (otherL fs) = wh := ⟨_, rfl⟩
    have er : rs = wh.map V.int := by
      rw [← ewh]
      unfold mix
      rw [List.map_map]
      exact map_of_get (n := 0) (fun (p : Int × Int) => V.int ((ra - 4) * p.1 + (rb - 4) * p.2)) (by simp [hrl, lo1, lu1]) fun i v e => by
        obtain ⟨x, y, e1, e2, e3⟩ := hE i v e
        exact ⟨(x, y), by rw [List.getElem?_zip_eq_some]; exact ⟨e1, e2⟩, e3⟩
    subst er
    have lwh : wh.length = n := by rw [List.length_map] at hrl; exact hrl
    have sH7 := sH6.trans s7
    have nwP : some p ≠ some wa := h6.ne nwa
    -- moved, spot
    refine ⟨_, rfl, wa, _, rfl, .inl (.inl (.inl hwa)), fun mv nmv => ?_⟩
    have sH8 : RX (some p) H (upd H7 mv (.lst (wh.map V.int))) := sH7.trans (RX.new nmv)
    have nmP : some p ≠ some mv := (hh.to sH7).ne nmv
    have s78 : RX (some p) H7 (upd H7 mv (.lst (wh.map V.int))) := RX.new nmv
    have hm8 : upd H7 mv (.lst (wh.map V.int)) mv = some (.lst (wh.map V.int)) := upd_same
    generalize upd H7 mv (.lst (wh.map V.int)) = H8 at sH8 s78 hm8
    refine ⟨_, rfl, _, rfl, p, (n : Int), rfl, sH8.pot p rfl hp, by omega, by omega, fun sp H9 sp0 sp1 s9 => ⟨_, _, rfl, ?_⟩⟩
    have hm9 := s9.keep mv _ nmP hm8
    have hsp : sp.toNat < wh.length := by omega
    have e9 : (wh.map V.int)[sp.toNat]? = some (.int (wh.getD sp.toNat 0)) := at_getD hsp
    refine ⟨_, rfl, _, rfl, mv, _, sp, _, rfl, rfl, .inl (.inl hm9), atI_of sp0 e9, _, _, rfl, rfl, _, rfl, _, rfl, mv, _, sp, _, rfl, rfl, hm9, ixN_of sp0 (by rw [List.length_map]; omega), ?_⟩
    have sH9 := sH8.trans s9
    have s79 := s78.trans s9
    obtain ⟨mo, emo⟩ : ∃ mo, wh.set sp.toNat (wh.getD sp.toNat 0 + 1) = mo := ⟨_, rfl⟩
    have emo2 : (wh.map V.int).set sp.toNat (V.int (wh.getD sp.toNat 0 + 1)) = mo.map V.int := by rw [← emo, List.map_set]
    have lmo : mo.length = n := by rw [← emo, List.length_set]; exact lwh
    have hm10 : upd H9 mv (.lst ((wh.map V.int).set sp.toNat (V.int (wh.getD sp.toNat 0 + 1)))) mv = some (.lst (mo.map V.int)) := by rw [upd_same, emo2]
    have nm7 : H7 mv = none := nmv
    have nmH : H mv = none := rx_free sH7 hh nm7
    have k10 : ∀ (c : Addr) (ob : HO), some p ≠ some c → H7 c = some ob → upd H9 mv (.lst ((wh.map V.int).set sp.toNat (V.int (wh.getD sp.toNat 0 + 1)))) c = some ob := fun c ob nc hc => by
      rw [upd_ne (ne_of_none hc nm7)]
      exact s79.keep c ob nc hc
    have sH10 : RX (some p) H (upd H9 mv (.lst ((wh.map V.int).set sp.toNat (V.int (wh.getD sp.toNat 0 + 1))))) := sH9.mut nmH hh
    have eH10 : ∃ H10, upd H9 mv (.lst ((wh.map V.int).set sp.toNat (V.int (wh.getD sp.toNat 0 + 1)))) = H10 := ⟨_, rfl⟩
    obtain ⟨H10, eH10⟩ := eH10
    rw [eH10] at hm10 k10 sH10
    have h10 : Has (some p) H10 := hh.to sH10
    -- drawn
    refine r_nseq (r_asg ?_)
    refine tlc_of (Itr 0 n) (H1 := H10) (fun R hR => ⟨_, rfl, (n : Int), rfl, by omega, by omega, eH10 ▸ hR⟩) ?_
    refine lc_el (p := some p) n (fun i v => ∃ x : Int, v = .int x ∧ -3 ≤ x ∧ x ≤ 3) h10 (by omega) (fun i H2 hi s2 => hi) (fun H2 s2 => Nat.le_refl _) (fun i x H2 H3 C hi s2 hp2 hy hC => ?_) fun dr H11 ds ndr s11 hdr hdl hdE => ?_
    · obtain ⟨rfl, rfl⟩ := hy
      refine ⟨rfl, ?_⟩
      refine ⟨_, rfl, p, 7, rfl, hp2 p rfl, by decide, by decide, fun r H4 r0 r1 s4 => ?_⟩
      exact ⟨_, _, rfl, rfl, hC _ _ s4 ⟨_, rfl, by omega, by omega⟩⟩
    obtain ⟨drn, rfl, ldr, bdr⟩ := ints_list hdl hdE
    have k11 : ∀ (c : Addr) (ob : HO), some p ≠ some c → H7 c = some ob → H11 c = some ob := fun c ob nc hc => s11.keep c ob nc (k10 c ob nc hc)
    have k6 : ∀ (c : Addr) (ob : HO), some p ≠ some c → H6 c = some ob → H11 c = some ob := fun c ob nc hc => k11 c ob nc (s7.keep c ob nc hc)
    -- what stands
    have bf : Bd 100000000000004 fs := fun x hx => by have := hfb x hx; omega
    have bon : Bd 100000000000004 (oneL fs) := bd_one bf
    have bot : Bd 100000000000004 (otherL fs) := bd_other bf
    have bwh : Bd (2 * (4 * 100000000000004)) wh := ewh ▸ bd_mix (by omega) (by omega) bon bot
    have bmo : Bd (2 * (4 * 100000000000004) + 1) mo := by
      rw [← emo]
      refine bd_set (fun x hx => Nat.le_succ_of_le (bwh x hx)) ?_
      have := bd_getD bwh sp.toNat
      omega
    have bnf : Bd (2 * 100000000000004) (fs.map fun x => nm * x) := fun x hx => by
      obtain ⟨y, hy, rfl⟩ := List.mem_map.mp hx
      exact bd_mul (by omega) (bf y hy)
    have d0 : dot fs wh = 0 := by
      rw [← ewh, dot_mix _ _ _ _ _ (by rw [one_len]) (by rw [other_len]), dot_one (by omega), dot_other (by omega)]
      omega
    refine rd Q H11 n e wa dr o u mv [.ref ff, .ref m] [fs, fs.map fun x => nm * x] wh drn (oneL fs) (otherL fs) mo _ _ _ _ _ _ _ _ _ _ _ _ _ _ ?_ fun H' s' => q H' ((sH10.trans s11).trans (RX.of s'))
    refine ⟨n2, n6, k6 e _ (neP (by simp)) e6, .cons (.lst (k6 ff _ (neP (by simp)) f6) (pyVs_map fs)) (.cons (.lst (k6 m _ (neP (by simp)) m6) (pyVs_map _)) .nil), ⟨(by show 1 ≤ 2; decide), (by show 2 ≤ 60; decide), by omega, n6, fun r hr' => ?_⟩, fun r hr' x hx => ?_, rfl,
      k11 wa _ nwP hwa, lwh, sol_list lwh fun r hr' => ?_, hdr, ldr, k6 o _ (neP (by simp)) o6, lo1, k6 u _ (neP (by simp)) u6, lu1, s11.keep mv _ nmP hm10, lmo, bd_lo bwh (by decide), fun z hz => ?_, bd_lo bon (by decide), bd_lo bot (by decide), bd_lo bmo (by decide)⟩
    · rcases List.mem_cons.mp hr' with rfl | hr'
      · exact hfl
      · rw [List.mem_singleton.mp hr', List.length_map]
        exact hfl
    · rcases List.mem_cons.mp hr' with rfl | hr'
      · have := bf x hx
        exact ⟨by omega, by omega⟩
      · rw [List.mem_singleton.mp hr'] at hx
        have := bnf x hx
        exact ⟨by omega, by omega⟩
    · rcases List.mem_cons.mp hr' with rfl | hr'
      · exact d0
      · rw [List.mem_singleton.mp hr', dot_scale, d0, Int.mul_zero]
    · have := bdr z hz
      show z.natAbs < 10 ^ 30
      have : z.natAbs ≤ 3 := by omega
      exact Nat.lt_of_le_of_lt this (by decide)
end
end K33

set_option Elab.async false
set_option linter.all false
set_option maxRecDepth 100000
set_option maxHeartbeats 2000000
namespace K33
open PySem PySem.Spec PyProof.Rows L2 Gd Zn Rp Dn
structure DefG (P : Program) (w : World) (K : PySem.W.Frag) (mg : Str → Option Value) (base : Heap) (nm : Str) (k : Nat) (ps : List Str) (sp : Sp) : Prop where
  ex : ∃ (f : Addr) (fd : FuncData), FnG P w K mg base CX0 k f fd ps sp ∧ mg nm = some (.ref f) ∧ PySem.W.keepIn K (.ref f) = true ∧ Binds K fd ps []
section
variable {X : Cx}
theorem pe_defG {nm : Str} {k j : Nat} {ps : List Str} {sp : Sp} {e : Expr} {es : List Expr} {t : TA} {p pos : Pos} (D : DefG X.prog X.w X.K X.mg X.base nm k ps sp) (hst : Still X.A) (room : Room j X.A) (ha : PA X (e :: es) t) (hkj : k ≤ j := by decide) (hg : Gl X nm := by rfl)
    (hdb : (nm == ("__debug__" : Str)) = false := by decide) (he : starEach (e :: es) X.env = (false, eval e X.env) :: starEach es X.env := by rfl) (hpl : (backTo pos (starEach es X.env)).any (·.1) = false := by rfl) :
    PE X (.Call (.Name nm p) (e :: es) [] pos) (tCall sp [] E0 t) := by
  obtain ⟨f, fd, G, m, kp, b⟩ := D.ex
  exact pe_callG G hst (room.mono hkj) hg m kp b .nil pass0 ha hdb he hpl
end
section
variable {P : Program} {w : World} {K : PySem.W.Frag} {mg : Str → Option Value} {base : Heap}
abbrev st_law : Stmt := top 23
abbrev N_law : List Str := ["_law_script", "_law_k"]
def sp_law (K : PySem.W.Frag) : Sp := fun vs H Q _ => ∃ (a : Addr) (ns : List Int), vs = [.ref a] ∧ SqL K H a (ns.map V.int) ∧ ns.length ≤ 63 ∧ ∀ H', Q (.bl true) H'
theorem sc_law : FnScope N_law ["_law_script"] (defScope st_law) := ⟨rfl, rfl, rfl, by decide +kernel, rfl, by decide +kernel, by decide +kernel⟩
theorem ok_law {f : Addr} {fd : FuncData} (F : Fun K "law" "law" st_law f fd) (T : Txt mg) (hmin : mg "min" = none) (D1 : Def P w K mg base "_law_pot" 1 ["_law_script", "_law_k"] (sp_pot K)) (D2 : DefG P w K mg base "_law_right" 5 ["_law_pot_here"] sp_right) :
    FnG P w K mg base CX0 6 f fd ["_law_script"] (sp_law K) := by
  refine okG F sc_law (fun vs H Q E h => ?_) (fun cdv A outer s H vs Q E hst hr h => ?_)
  · obtain ⟨a, ns, rfl, _⟩ := h
    rfl
  · obtain ⟨a, ns, rfl, hS, hl, q⟩ := h
    refine ⟨_, pss_one (ps_ret (pe_callB (cr_all rfl) (by rfl) T.all boot_all (pa_cons (pe_lc (own := [("_law_k", 1)]) (g := gName 1) (tt := tYes) rfl sc_law.nd (pi_range1 (by rfl) T.range (pa_cons (pe_callB (call_max2 rfl) (by rfl) T.max boot_max (pa_cons pe_int (pa_cons (pe_callB (call_min2 rfl) (by rfl) hmin boot_min (pa_cons pe_int (pa_cons (pe_callB (r := rLen K) c_len (by rfl) T.len PySem.boot_len (pa_cons (pv 0) pa_nil)) pa_nil))) pa_nil))) pa_nil))
      (blkOk_by (N := N_law) (sc := defScope st_law) (by decide +kernel)) (fun _ _ _ _ _ => pg_name (i := 1) sc_law.nd rfl (Or.inl rfl) (Or.inr rfl)) (fun _ _ _ _ _ => pts_nil)
      (fun _ _ _ _ _ => pe_defG (X := Cx.blk _ _ _ _ _ _) D2 hst hr (pa_cons (pe_def (X := Cx.blk _ _ _ _ _ _) D1 hr (pa_cons (pv 0) (pa_cons (pv 1) pa_nil))) pa_nil))) pa_nil))), ?_⟩
    refine r_ret (r_cb (r_cons ?_))
    have hm : ∃ m : Nat, (if (if ((ns.map V.int).length : Int) < 2 then ((ns.map V.int).length : Int) else 2) > 1 then (if ((ns.map V.int).length : Int) < 2 then ((ns.map V.int).length : Int) else 2) else 1) = (m : Int) ∧ m ≤ 2 := by
      refine ⟨(if (if ((ns.map V.int).length : Int) < 2 then ((ns.map V.int).length : Int) else 2) > 1 then (if ((ns.map V.int).length : Int) < 2 then ((ns.map V.int).length : Int) else 2) else 1).toNat, ?_, ?_⟩
      · split <;> split <;> omega
      · split <;> split <;> omega
    obtain ⟨m, em, m2⟩ := hm
    refine tlc_of (Itr 0 m) (H1 := H) (fun R hR => ⟨_, rfl, a, _, rfl, .inl hS, _, _, rfl, _, _, rfl, _, rfl, by rw [em]; omega, by rw [em]; omega, by rw [em]; exact hR⟩) ?_
    refine lc_el (p := none) m (fun i v => v = .bl true) has_none (by omega) (fun i H2 hi s2 => hi) (fun H2 s2 => Nat.le_refl _) (fun i x H2 H3 C hi s2 hp2 hy hC => ?_) fun D H2 rs nD s2 hD hrl hE => ?_
    · obtain ⟨rfl, rfl⟩ := hy
      refine ⟨rfl, ?_⟩
      refine ⟨_, rfl, _, rfl, a, ns, _, rfl, Same.seq s2.same hS, hl, by omega, by omega, fun p H4 np s4 hp4 => ?_⟩
      refine ⟨p, rfl, hp4, fun H5 s5 => hC _ _ ?_ rfl⟩
      refine RX.of fun c o e => ?_
      have nc : p ≠ c := fun z => by subst z; rw [e] at np; cases np
      exact s5.keep c o (by intro z; cases z; exact nc rfl) (s4 c o e)
    · have er : rs = (List.replicate m true).map V.bl := map_of_get (n := 0) _ (by simp [hrl]) fun i v e => by
        have hi : i < m := by rw [← hrl]; exact (List.getElem?_eq_some_iff.mp e).1
        exact ⟨true, by rw [List.getElem?_replicate, if_pos hi], hE i v e⟩
      refine ⟨D, List.replicate m true, rfl, .inl (.inl (by rw [hD, er])), ?_⟩
      rw [show (List.replicate m true).all id = true by simp]
      exact q H2
end
end K33

set_option Elab.async false
set_option linter.all false
set_option maxRecDepth 100000
set_option maxHeartbeats 2000000
namespace K33
open PySem PySem.Spec PyProof.Rows L2 Gd Zn Rp Dn
/-! ### what the top has left -/
theorem all_mk {l : PySem.W.OpenLaw} {w : World} {K : PySem.W.Frag} {h : Heap} {mg : Str → Option Value} {fa : Addr} (X : K.In h) (G : h.Ns mainGlobals mg) (hfa : mg "law" = some (.ref fa))
    {f1 f2 f3 f4 f5 f6 f7 f8 f9 f10 f11 f12 f13 f14 f15 : Addr} {od1 an1 od2 an2 od3 an3 od4 an4 od5 an5 od6 an6 od7 an7 od8 an8 od9 an9 od10 an10 od11 an11 od12 an12 od13 an13 od14 an14 od15 an15 : Option Addr} {sl1 sl2 sl3 sl4 sl5 sl6 sl7 sl8 sl9 sl10 sl11 sl12 sl13 sl14 sl15 : Array (Option Value)} {oc1 kV1 dc1 pm1 cd1 ct1 oc2 kV2 dc2 pm2 cd2 ct2 oc3 kV3 dc3 pm3 cd3 ct3 oc4 kV4 dc4 pm4 cd4 ct4 oc5 kV5 dc5 pm5 cd5 ct5 oc6 kV6 dc6 pm6 cd6 ct6 oc7 kV7 dc7 pm7 cd7 ct7 oc8 kV8 dc8 pm8 cd8 ct8 oc9 kV9 dc9 pm9 cd9 ct9 oc10 kV10 dc10 pm10 cd10 ct10 oc11 kV11 dc11 pm11 cd11 ct11 oc12 kV12 dc12 pm12 cd12 ct12 oc13 kV13 dc13 pm13 cd13 ct13 oc14 kV14 dc14 pm14 cd14 ct14 oc15 kV15 dc15 pm15 cd15 ct15 : Value} {t60 t6 : Tok}
    (a1 : PySem.W.nsIn K mainGlobals "is_integer" = some (some (.ref f1))) (l1 : K.lookup f1 = some ⟨oc1, od1, .func (PySem.W.fnOf "is_integer" "is_integer" (defArgs st_is_integer) (defBody st_is_integer) (defScope st_is_integer) .none kV1 dc1 pm1 an1 cd1 ct1), sl1⟩) (c1 : PySem.W.codeIn K cd1 "is_integer" = true) (k1 : PySem.W.keepIn K (.ref f1) = true)
    (a2 : PySem.W.nsIn K mainGlobals "is_list" = some (some (.ref f2))) (l2 : K.lookup f2 = some ⟨oc2, od2, .func (PySem.W.fnOf "is_list" "is_list" (defArgs st_is_list) (defBody st_is_list) (defScope st_is_list) .none kV2 dc2 pm2 an2 cd2 ct2), sl2⟩) (c2 : PySem.W.codeIn K cd2 "is_list" = true) (k2 : PySem.W.keepIn K (.ref f2) = true)
    (a3 : PySem.W.nsIn K mainGlobals "scalar" = some (some (.ref f3))) (l3 : K.lookup f3 = some ⟨oc3, od3, .func (PySem.W.fnOf "scalar" "scalar" (defArgs st_scalar) (defBody st_scalar) (defScope st_scalar) .none kV3 dc3 pm3 an3 cd3 ct3), sl3⟩) (c3 : PySem.W.codeIn K cd3 "scalar" = true) (k3 : PySem.W.keepIn K (.ref f3) = true)
    (a4 : PySem.W.nsIn K mainGlobals "is_solution" = some (some (.ref f4))) (l4 : K.lookup f4 = some ⟨oc4, od4, .func (PySem.W.fnOf "is_solution" "is_solution" (defArgs st_is_solution) (defBody st_is_solution) (defScope st_is_solution) .none kV4 dc4 pm4 an4 cd4 ct4), sl4⟩) (c4 : PySem.W.codeIn K cd4 "is_solution" = true) (k4 : PySem.W.keepIn K (.ref f4) = true)
    (a5 : PySem.W.nsIn K mainGlobals "_is_line" = some (some (.ref f5))) (l5 : K.lookup f5 = some ⟨oc5, od5, .func (PySem.W.fnOf "_is_line" "_is_line" (defArgs st_is_line) (defBody st_is_line) (defScope st_is_line) .none kV5 dc5 pm5 an5 cd5 ct5), sl5⟩) (c5 : PySem.W.codeIn K cd5 "_is_line" = true) (k5 : PySem.W.keepIn K (.ref f5) = true)
    (a6 : PySem.W.nsIn K mainGlobals "_check_equations" = some (some (.ref f6))) (l6 : K.lookup f6 = some ⟨oc6, od6, .func (PySem.W.fnOf "_check_equations" "_check_equations" (defArgs st_check) (defBody st_check) (defScope st_check) .none kV6 dc6 pm6 an6 cd6 ct6), sl6⟩) (c6 : PySem.W.codeIn K cd6 "_check_equations" = true) (k6 : PySem.W.keepIn K (.ref f6) = true)
    (a7 : PySem.W.nsIn K mainGlobals "_law_pot" = some (some (.ref f7))) (l7 : K.lookup f7 = some ⟨oc7, od7, .func (PySem.W.fnOf "_law_pot" "_law_pot" (defArgs st_pot) (defBody st_pot) (defScope st_pot) .none kV7 dc7 pm7 an7 cd7 ct7), sl7⟩) (c7 : PySem.W.codeIn K cd7 "_law_pot" = true) (k7 : PySem.W.keepIn K (.ref f7) = true)
    (a8 : PySem.W.nsIn K mainGlobals "_law_draw" = some (some (.ref f8))) (l8 : K.lookup f8 = some ⟨oc8, od8, .func (PySem.W.fnOf "_law_draw" "_law_draw" (defArgs st_draw) (defBody st_draw) (defScope st_draw) .none kV8 dc8 pm8 an8 cd8 ct8), sl8⟩) (c8 : PySem.W.codeIn K cd8 "_law_draw" = true) (k8 : PySem.W.keepIn K (.ref f8) = true)
    (a9 : PySem.W.nsIn K mainGlobals "_law_pick" = some (some (.ref f9))) (l9 : K.lookup f9 = some ⟨oc9, od9, .func (PySem.W.fnOf "_law_pick" "_law_pick" (defArgs st_pick) (defBody st_pick) (defScope st_pick) .none kV9 dc9 pm9 an9 cd9 ct9), sl9⟩) (c9 : PySem.W.codeIn K cd9 "_law_pick" = true) (k9 : PySem.W.keepIn K (.ref f9) = true)
    (a10 : PySem.W.nsIn K mainGlobals "_law_dot" = some (some (.ref f10))) (l10 : K.lookup f10 = some ⟨oc10, od10, .func (PySem.W.fnOf "_law_dot" "_law_dot" (defArgs st_dot) (defBody st_dot) (defScope st_dot) .none kV10 dc10 pm10 an10 cd10 ct10), sl10⟩) (c10 : PySem.W.codeIn K cd10 "_law_dot" = true) (k10 : PySem.W.keepIn K (.ref f10) = true)
    (a11 : PySem.W.nsIn K mainGlobals "_law_solves" = some (some (.ref f11))) (l11 : K.lookup f11 = some ⟨oc11, od11, .func (PySem.W.fnOf "_law_solves" "_law_solves" (defArgs st_solves) (defBody st_solves) (defScope st_solves) .none kV11 dc11 pm11 an11 cd11 ct11), sl11⟩) (c11 : PySem.W.codeIn K cd11 "_law_solves" = true) (k11 : PySem.W.keepIn K (.ref f11) = true)
    (a12 : PySem.W.nsIn K mainGlobals "_law_is_solution" = some (some (.ref f12))) (l12 : K.lookup f12 = some ⟨oc12, od12, .func (PySem.W.fnOf "_law_is_solution" "_law_is_solution" (defArgs st_lsol) (defBody st_lsol) (defScope st_lsol) .none kV12 dc12 pm12 an12 cd12 ct12), sl12⟩) (c12 : PySem.W.codeIn K cd12 "_law_is_solution" = true) (k12 : PySem.W.keepIn K (.ref f12) = true)
    (a13 : PySem.W.nsIn K mainGlobals "_law_pair" = some (some (.ref f13))) (l13 : K.lookup f13 = some ⟨oc13, od13, .func (PySem.W.fnOf "_law_pair" "_law_pair" (defArgs st_pair) (defBody st_pair) (defScope st_pair) .none kV13 dc13 pm13 an13 cd13 ct13), sl13⟩) (c13 : PySem.W.codeIn K cd13 "_law_pair" = true) (k13 : PySem.W.keepIn K (.ref f13) = true)
    (a14 : PySem.W.nsIn K mainGlobals "_law_right" = some (some (.ref f14))) (l14 : K.lookup f14 = some ⟨oc14, od14, .func (PySem.W.fnOf "_law_right" "_law_right" (defArgs st_right) (defBody st_right) (defScope st_right) .none kV14 dc14 pm14 an14 cd14 ct14), sl14⟩) (c14 : PySem.W.codeIn K cd14 "_law_right" = true) (k14 : PySem.W.keepIn K (.ref f14) = true)
    (a15 : PySem.W.nsIn K mainGlobals "law" = some (some (.ref f15))) (l15 : K.lookup f15 = some ⟨oc15, od15, .func (PySem.W.fnOf "law" "law" (defArgs st_law) (defBody st_law) (defScope st_law) .none kV15 dc15 pm15 an15 cd15 ct15), sl15⟩) (c15 : PySem.W.codeIn K cd15 "law" = true) (k15 : PySem.W.keepIn K (.ref f15) = true)
    (g60 : PySem.W.nsIn K mainGlobals "MOST_EQUATIONS" = some (some (.int 60 t60))) (g6 : PySem.W.nsIn K mainGlobals "MOST_LENGTH" = some (some (.int 6 t6)))
    (z0 : PySem.W.nsIn K mainGlobals "isinstance" = some none) (z1 : PySem.W.nsIn K mainGlobals "int" = some none) (z2 : PySem.W.nsIn K mainGlobals "bool" = some none) (z3 : PySem.W.nsIn K mainGlobals "list" = some none) (z4 : PySem.W.nsIn K mainGlobals "tuple" = some none) (z5 : PySem.W.nsIn K mainGlobals "all" = some none) (z6 : PySem.W.nsIn K mainGlobals "sum" = some none) (z7 : PySem.W.nsIn K mainGlobals "zip" = some none) (z8 : PySem.W.nsIn K mainGlobals "len" = some none) (z9 : PySem.W.nsIn K mainGlobals "range" = some none) (z10 : PySem.W.nsIn K mainGlobals "repr" = some none) (z11 : PySem.W.nsIn K mainGlobals "abs" = some none) (z12 : PySem.W.nsIn K mainGlobals "max" = some none) (z13 : PySem.W.nsIn K mainGlobals "divmod" = some none) (z14 : PySem.W.nsIn K mainGlobals "dict" = some none) (z15 : PySem.W.nsIn K mainGlobals "min" = some none) :
    ∃ fd : FuncData, (∀ (s : Shared) (v : Value), BindsTo s fd ⟨[v], []⟩ [("_law_script", v)]) ∧ ∀ base : Heap, K.In base → base.Ns mainGlobals mg → FnG l.prog w K mg base CX0 6 fa fd ["_law_script"] (sp_law K) := by
  have e := hfa.symm.trans (PySem.W.mg_of X G a15)
  cases e
  have T : Txt mg := ⟨⟨_, PySem.W.mg_of X G g60⟩, ⟨_, PySem.W.mg_of X G g6⟩, PySem.W.mg_none_of X G z0, PySem.W.mg_none_of X G z1, PySem.W.mg_none_of X G z2, PySem.W.mg_none_of X G z3, PySem.W.mg_none_of X G z4, PySem.W.mg_none_of X G z5, PySem.W.mg_none_of X G z6, PySem.W.mg_none_of X G z7, PySem.W.mg_none_of X G z8, PySem.W.mg_none_of X G z9, PySem.W.mg_none_of X G z10, PySem.W.mg_none_of X G z11, PySem.W.mg_none_of X G z12, PySem.W.mg_none_of X G z13, PySem.W.mg_none_of X G z14⟩
  have F1 := fun_mk (st := st_is_integer) l1 c1 k1
  have b1 := F1.binds (ps := ["value"]) fun _ _ _ _ _ _ us hl => match us, hl with | [_], _ => rfl
  have F2 := fun_mk (st := st_is_list) l2 c2 k2
  have b2 := F2.binds (ps := ["value"]) fun _ _ _ _ _ _ us hl => match us, hl with | [_], _ => rfl
  have F3 := fun_mk (st := st_scalar) l3 c3 k3
  have b3 := F3.binds (ps := ["row", "other"]) fun _ _ _ _ _ _ us hl => match us, hl with | [_, _], _ => rfl
  have F4 := fun_mk (st := st_is_solution) l4 c4 k4
  have b4 := F4.binds (ps := ["equations", "value"]) fun _ _ _ _ _ _ us hl => match us, hl with | [_, _], _ => rfl
  have F5 := fun_mk (st := st_is_line) l5 c5 k5
  have b5 := F5.binds (ps := ["value", "length"]) fun _ _ _ _ _ _ us hl => match us, hl with | [_, _], _ => rfl
  have F6 := fun_mk (st := st_check) l6 c6 k6
  have b6 := F6.binds (ps := ["equations"]) fun _ _ _ _ _ _ us hl => match us, hl with | [_], _ => rfl
  have F7 := fun_mk (st := st_pot) l7 c7 k7
  have b7 := F7.binds (ps := ["_law_script", "_law_k"]) fun _ _ _ _ _ _ us hl => match us, hl with | [_, _], _ => rfl
  have F8 := fun_mk (st := st_draw) l8 c8 k8
  have b8 := F8.binds (ps := ["_law_pot_here", "_law_many"]) fun _ _ _ _ _ _ us hl => match us, hl with | [_, _], _ => rfl
  have F9 := fun_mk (st := st_pick) l9 c9 k9
  have b9 := F9.binds (ps := ["_law_pot_here", "_law_some"]) fun _ _ _ _ _ _ us hl => match us, hl with | [_, _], _ => rfl
  have F10 := fun_mk (st := st_dot) l10 c10 k10
  have b10 := F10.binds (ps := ["_law_one", "_law_other"]) fun _ _ _ _ _ _ us hl => match us, hl with | [_, _], _ => rfl
  have F11 := fun_mk (st := st_solves) l11 c11 k11
  have b11 := F11.binds (ps := ["_law_equations", "_law_line"]) fun _ _ _ _ _ _ us hl => match us, hl with | [_, _], _ => rfl
  have F12 := fun_mk (st := st_lsol) l12 c12 k12
  have b12 := F12.binds (ps := ["_law_equations", "_law_value"]) fun _ _ _ _ _ _ us hl => match us, hl with | [_, _], _ => rfl
  have F13 := fun_mk (st := st_pair) l13 c13 k13
  have b13 := F13.binds (ps := ["_law_pot_here", "_law_length", "_law_great"]) fun _ _ _ _ _ _ us hl => match us, hl with | [_, _, _], _ => rfl
  have F14 := fun_mk (st := st_right) l14 c14 k14
  have b14 := F14.binds (ps := ["_law_pot_here"]) fun _ _ _ _ _ _ us hl => match us, hl with | [_], _ => rfl
  have F15 := fun_mk (st := st_law) l15 c15 k15
  refine ⟨PySem.W.fnOf "law" "law" (defArgs st_law) (defBody st_law) (defScope st_law) .none kV15 dc15 pm15 an15 cd15 ct15, fun s v => .of_eq rfl, fun base _ _ => ?_⟩
  have D1 : Def l.prog w K mg base "is_integer" 1 ["value"] sp_is_integer := ⟨f1, _, ok_is_integer F1 T, PySem.W.mg_of X G a1, k1, b1⟩
  have D2 : Def l.prog w K mg base "is_list" 1 ["value"] sp_is_list := ⟨f2, _, ok_is_list F2 T, PySem.W.mg_of X G a2, k2, b2⟩
  have D3 : Def l.prog w K mg base "scalar" 1 ["row", "other"] sp_scalar := ⟨f3, _, ok_scalar F3 T, PySem.W.mg_of X G a3, k3, b3⟩
  have D5 : Def l.prog w K mg base "_is_line" 2 ["value", "length"] sp_is_line := ⟨f5, _, ok_is_line F5 T D2 D1, PySem.W.mg_of X G a5, k5, b5⟩
  have D6 : Def l.prog w K mg base "_check_equations" 3 ["equations"] sp_check := ⟨f6, _, ok_check F6 T D2 D5, PySem.W.mg_of X G a6, k6, b6⟩
  have kb : KBinds K (PySem.W.fnOf "is_solution" "is_solution" (defArgs st_is_solution) (defBody st_is_solution) (defScope st_is_solution) .none kV4 dc4 pm4 an4 cd4 ct4) ["equations", "value"] ["value", "equations"] (fun us ws => match us, ws with | [], [a, b] => [b, a] | _, _ => []) (fun us ws => match us, ws with | [], [a, b] => [b, a] | _, _ => []) := by
    refine KBinds.mk (fun s us ws _ hl => ?_) (fun {vs us zs ws} r1 r2 => ?_)
    · match us, ws, hl with
      | [], [a, b], _ => exact .of_eq rfl
    · cases r1 with
      | cons _ _ =>
        cases r2 with
        | nil => exact .nil
        | cons _ _ => exact .nil
      | nil =>
        cases r2 with
        | nil => exact .nil
        | cons x1 t1 =>
          cases t1 with
          | nil => exact .nil
          | cons x2 t2 =>
            cases t2 with
            | nil => exact .cons x2 (.cons x1 .nil)
            | cons _ _ => exact .nil
  have D4 : DefS l.prog w K mg base := ⟨f4, _, ok_is_solution F4 T D6 D5 D3, PySem.W.mg_of X G a4, k4, b4, kb⟩
  have E7 : Def l.prog w K mg base "_law_pot" 1 ["_law_script", "_law_k"] (sp_pot K) := ⟨f7, _, ok_pot F7 T, PySem.W.mg_of X G a7, k7, b7⟩
  have E8 : Def l.prog w K mg base "_law_draw" 1 ["_law_pot_here", "_law_many"] sp_draw := ⟨f8, _, ok_draw F8 T, PySem.W.mg_of X G a8, k8, b8⟩
  have E9 : Def l.prog w K mg base "_law_pick" 2 ["_law_pot_here", "_law_some"] sp_pick := ⟨f9, _, ok_pick F9 T E8, PySem.W.mg_of X G a9, k9, b9⟩
  have E10 : Def l.prog w K mg base "_law_dot" 1 ["_law_one", "_law_other"] sp_dot := ⟨f10, _, ok_dot F10 T, PySem.W.mg_of X G a10, k10, b10⟩
  have E11 : Def l.prog w K mg base "_law_solves" 2 ["_law_equations", "_law_line"] sp_solves := ⟨f11, _, ok_solves F11 T E10, PySem.W.mg_of X G a11, k11, b11⟩
  have E12 : Def l.prog w K mg base "_law_is_solution" 3 ["_law_equations", "_law_value"] sp_lsol := ⟨f12, _, ok_lsol F12 T E11, PySem.W.mg_of X G a12, k12, b12⟩
  have E13 : Def l.prog w K mg base "_law_pair" 2 ["_law_pot_here", "_law_length", "_law_great"] sp_pair := ⟨f13, _, ok_pair F13 T E8, PySem.W.mg_of X G a13, k13, b13⟩
  have E14 : DefG l.prog w K mg base "_law_right" 5 ["_law_pot_here"] sp_right := ⟨f14, _, ok_right F14 T E12 D4 E8 E9 E13, PySem.W.mg_of X G a14, k14, b14⟩
  exact ok_law F15 T (PySem.W.mg_none_of X G z15) E7 E14
theorem walk {l : PySem.W.OpenLaw} {q : Program} {loose : List Str} {XP : (Str → Option Value) → Heap → Prop} {YP : World → Heap → Prop} {d : DefRec} {K : Params → PySem.W.Frag} (hn : l.most = some 63) (hdf : d.params.defaults = [])
    (hY : ∀ (w : World) (h : Heap), YP w h → (K w.params).In h)
    (F : ∀ (w : World) (mg : Str → Option Value) (fa : Addr) (h : Heap), (K w.params).In h → h.Ns mainGlobals mg → mg d.name = some (.ref fa) →
      ∃ fd : FuncData, (∀ (s : Shared) (u : Value), BindsTo s fd ⟨[u], []⟩ [("_law_script", u)]) ∧ ∀ base : Heap, (K w.params).In base → base.Ns mainGlobals mg → FnG l.prog w (K w.params) mg base CX0 6 fa fd ["_law_script"] (sp_law (K w.params))) :
    PySem.W.WalkO q loose XP YP l.row.toRowW d [] (fun f vs => PySem.call f vs) :=
  walkG (n := 63) (k := 6) (x := "_law_script") (sp := fun w => sp_law (K w.params)) hn (by decide) hdf ⟨rfl, by decide, by decide⟩ hY F (fun _ _ a ns hl _ hS => ⟨a, ns, rfl, hS, hl, fun _ => rfl⟩)
end K33
open PySem PySem.W PyProof.Rows
set_option maxRecDepth 100000 in
set_option maxHeartbeats 0 in
theorem PySem.Challenge.cw_keptbowls_k33_solutions_judged_holds : PySem.Challenge.rw_keptbowls_k33_solutions_judged.Holds := by
  w_on; o_law; k_head; (case hw => w_witness2)
  k_fill
  refine K33.walk (l := PySem.Challenge.rw_keptbowls_k33_solutions_judged) rfl rfl (fun w h Y => PySem.W.kIn_of Y) ?F
  case F =>
    intro w mg fa h KX G hmg
    refine' K33.all_mk KX G hmg ?a1 ?l1 ?c1 ?k1 ?a2 ?l2 ?c2 ?k2 ?a3 ?l3 ?c3 ?k3 ?a4 ?l4 ?c4 ?k4 ?a5 ?l5 ?c5 ?k5 ?a6 ?l6 ?c6 ?k6 ?a7 ?l7 ?c7 ?k7 ?a8 ?l8 ?c8 ?k8 ?a9 ?l9 ?c9 ?k9 ?a10 ?l10 ?c10 ?k10 ?a11 ?l11 ?c11 ?k11 ?a12 ?l12 ?c12 ?k12 ?a13 ?l13 ?c13 ?k13 ?a14 ?l14 ?c14 ?k14 ?a15 ?l15 ?c15 ?k15 ?g60 ?g6 ?z0 ?z1 ?z2 ?z3 ?z4 ?z5 ?z6 ?z7 ?z8 ?z9 ?z10 ?z11 ?z12 ?z13 ?z14 ?z15
    (case a1 => k_is)
    (case l1 => k_is)
    (case c1 => k_is)
    (case k1 => k_is)
    (case a2 => k_is)
    (case l2 => k_is)
    (case c2 => k_is)
    (case k2 => k_is)
    (case a3 => k_is)
    (case l3 => k_is)
    (case c3 => k_is)
    (case k3 => k_is)
    (case a4 => k_is)
    (case l4 => k_is)
    (case c4 => k_is)
    (case k4 => k_is)
    (case a5 => k_is)
    (case l5 => k_is)
    (case c5 => k_is)
    (case k5 => k_is)
    (case a6 => k_is)
    (case l6 => k_is)
    (case c6 => k_is)
    (case k6 => k_is)
    (case a7 => k_is)
    (case l7 => k_is)
    (case c7 => k_is)
    (case k7 => k_is)
    (case a8 => k_is)
    (case l8 => k_is)
    (case c8 => k_is)
    (case k8 => k_is)
    (case a9 => k_is)
    (case l9 => k_is)
    (case c9 => k_is)
    (case k9 => k_is)
    (case a10 => k_is)
    (case l10 => k_is)
    (case c10 => k_is)
    (case k10 => k_is)
    (case a11 => k_is)
    (case l11 => k_is)
    (case c11 => k_is)
    (case k11 => k_is)
    (case a12 => k_is)
    (case l12 => k_is)
    (case c12 => k_is)
    (case k12 => k_is)
    (case a13 => k_is)
    (case l13 => k_is)
    (case c13 => k_is)
    (case k13 => k_is)
    (case a14 => k_is)
    (case l14 => k_is)
    (case c14 => k_is)
    (case k14 => k_is)
    (case a15 => k_is)
    (case l15 => k_is)
    (case c15 => k_is)
    (case k15 => k_is)
    (case g60 => k_is)
    (case g6 => k_is)
    (case z0 => k_is)
    (case z1 => k_is)
    (case z2 => k_is)
    (case z3 => k_is)
    (case z4 => k_is)
    (case z5 => k_is)
    (case z6 => k_is)
    (case z7 => k_is)
    (case z8 => k_is)
    (case z9 => k_is)
    (case z10 => k_is)
    (case z11 => k_is)
    (case z12 => k_is)
    (case z13 => k_is)
    (case z14 => k_is)
    (case z15 => k_is)
#print axioms PySem.Challenge.cw_keptbowls_k33_solutions_judged_holds
