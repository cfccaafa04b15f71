import PyProof.Rows.All
import Wide.All
import OpenK.AllK
import Wide.FinOn
import HandS.ForMost
import HandS.IsInst
import HandS.Zip
import HandS.Star
import KE.KStar
import HandS.Wide
import HandS.WideBits
import HandS.Property
import HandS.Style
import HandS.SlotsOwn
import HandS.More
import HandS.Sort
import HandS.TupMul
import HandS.TupAny
import HandS.TryOnly
import HandS.FStr
import HandS.MakeKwOnly
import HandS.Conv
import HandS.SortInts
import Flt.RightSqrt
import PyProof.StrOps2
import KE.KMathG
import HandS.Dict
import PySem.Challenge.RW_keptbowls_k24_any_value_as_squares
set_option Elab.async false
set_option linter.all false
set_option maxRecDepth 100000
set_option maxHeartbeats 1000000
namespace Zn
open PySem PySem.Spec PyProof.Rows L2
open PySem.Sem (wp)
/-- a sequence to be walked: a tuple or a list, where, its items -/
abbrev Src := Bool × Addr × Array Value
def ItK (t : Bool) (h : Heap) (i l : Addr) (k : Nat) : Prop := cond t (h.IsTupleIter i l k) (h.IsListIter i l k)
def SqK (t : Bool) (h : Heap) (l : Addr) (xs : Array Value) : Prop := cond t (h.IsTuple l xs) (h.IsList l xs)
abbrev TupAt (h : Heap) (T : Addr) (xs : List Value) : Prop := h.get? T = some { cls := .type "tuple", data := .seq xs.toArray }
theorem ItK.at {t : Bool} {h h' : Heap} {i l : Addr} {k : Nat} (x : ItK t h i l k) (e : ∀ o, h.get? i = some o → h'.get? i = some o) : ItK t h' i l k := by
  cases t with
  | true => exact Heap.IsTupleIter.at x e
  | false => exact Heap.IsListIter.at x e
theorem SqK.at {t : Bool} {h h' : Heap} {l : Addr} {xs : Array Value} (x : SqK t h l xs) (e : ∀ o, h.get? l = some o → h'.get? l = some o) : SqK t h' l xs := by
  cases t with
  | true => obtain ⟨o, ho, r⟩ := x; exact ⟨o, e _ ho, r⟩
  | false => obtain ⟨o, ho, r⟩ := x; exact ⟨o, e _ ho, r⟩
theorem ItK.lt {t : Bool} {h : Heap} {i l : Addr} {k : Nat} (x : ItK t h i l k) : i < h.objs.size := by
  cases t with
  | true => obtain ⟨o, ho, _⟩ := x; exact Heap.lt_size ho
  | false => obtain ⟨o, ho, _⟩ := x; exact Heap.lt_size ho
theorem SqK.lt {t : Bool} {h : Heap} {l : Addr} {xs : Array Value} (x : SqK t h l xs) : l < h.objs.size := by
  cases t with
  | true => obtain ⟨o, ho, _⟩ := x; exact Heap.lt_size ho
  | false => obtain ⟨o, ho, _⟩ := x; exact Heap.lt_size ho
theorem ItK.rec_ {t : Bool} {h : Heap} {i l : Addr} {k : Nat} (x : ItK t h i l k) : ∃ o, h.get? i = some o ∧ (o.cls = .type "tuple_iterator" ∨ o.cls = .type "list_iterator") ∧ o.data = .fields #[.ref l, .int k 0] := by
  cases t with
  | true => obtain ⟨o, ho, hc, hd⟩ := x; exact ⟨o, ho, .inl hc, hd⟩
  | false => obtain ⟨o, ho, hc, hd⟩ := x; exact ⟨o, ho, .inr hc, hd⟩
section
variable {prog : Program} {w : World} {A : Around} {E : Value → Shared → Prop} {s : Shared}
theorem nextOf_item {t : Bool} {i l : Addr} {k : Nat} {xs : Array Value} {x : Value} {Q : Value → Shared → Prop} (hi : ItK t s.heap i l k) (hl : SqK t s.heap l xs) (hx : xs[k]? = some x)
    (hQ : ∀ h', ItK t h' i l (k + 1) → Heap.SameBut i s.heap h' → Q x { s with heap := h' }) : wpAny (model prog w) A (Builtin.SmallTypes.nextOf (.ref i)) Q E s := by
  cases t with
  | true => exact RZ.nextOf_tuple_item hi hl hx hQ
  | false => exact wpAny_nextOf_list_item hi hl hx hQ
theorem nextOf_end {t : Bool} {i l : Addr} {k : Nat} {xs : Array Value} {Q : Value → Shared → Prop} (hh : A.handled = none) (hi : ItK t s.heap i l k) (hl : SqK t s.heap l xs) (hx : xs[k]? = none)
    (hE : ∀ h' e, Heap.ExtBut i s.heap h' → (∃ o, h'.get? e = some o ∧ o.cls = .type "StopIteration") → E (.ref e) { s with heap := h' }) : wpAny (model prog w) A (Builtin.SmallTypes.nextOf (.ref i)) Q E s := by
  cases t with
  | true => exact RZ.nextOf_tuple_end hh hi hl hx hE
  | false => exact wpAny_nextOf_list_end hh hi hl hx hE
theorem pyIter_K {t : Bool} {l : Addr} {xs : Array Value} {Q : Value → Shared → Prop} (hl : SqK t s.heap l xs)
    (hQ : ∀ h', ItK t h' s.heap.objs.size l 0 → h'.objs.size = s.heap.objs.size + 1 → (∀ c o, s.heap.get? c = some o → h'.get? c = some o) → Q (.ref s.heap.objs.size) { s with heap := h' }) :
    wpAny (model prog w) A (pyIter (.ref l)) Q E s := by
  cases t with
  | true => exact wpAny_pyIter_tuple hl (hQ _ ⟨_, Heap.get?_push_size _ rfl, rfl, rfl⟩ (Heap.size_push ..) fun c o e => Heap.get?_push_of_some _ e)
  | false => exact wpAny_pyIter_list hl (hQ _ ⟨_, Heap.get?_push_size _ rfl, rfl, rfl⟩ (Heap.size_push ..) fun c o e => Heap.get?_push_of_some _ e)
/-- the iterators at the k-th turn of their sequences -/
def AllAt (h : Heap) (k : Nat) : List Addr → List Src → Prop
  | [], [] => True
  | i :: is, (t, l, xs) :: r => ItK t h i l k ∧ SqK t h l xs ∧ AllAt h k is r
  | _, _ => False
theorem AllAt.at {h h' : Heap} {k : Nat} : ∀ {is : List Addr} {r : List Src}, AllAt h k is r → (∀ i ∈ is, ∀ o, h.get? i = some o → h'.get? i = some o) → (∀ q ∈ r, ∀ o, h.get? q.2.1 = some o → h'.get? q.2.1 = some o) → AllAt h' k is r
  | [], [], _, _, _ => trivial
  | i :: is, (t, l, xs) :: r, x, e1, e2 => ⟨x.1.at (e1 i List.mem_cons_self), x.2.1.at (e2 _ List.mem_cons_self), AllAt.at x.2.2 (fun j hj => e1 j (List.mem_cons_of_mem _ hj)) fun q hq => e2 q (List.mem_cons_of_mem _ hq)⟩
theorem AllAt.len {h : Heap} {k : Nat} : ∀ {is : List Addr} {r : List Src}, AllAt h k is r → is.length = r.length
  | [], [], _ => rfl
  | _ :: _, _ :: _, x => by rw [List.length_cons, List.length_cons, AllAt.len x.2.2]
theorem AllAt.lt {h : Heap} {k : Nat} : ∀ {is : List Addr} {r : List Src}, AllAt h k is r → ∀ i ∈ is, i < h.objs.size
  | i :: is, (t, l, xs) :: r, x, j, hj => by
    rcases List.mem_cons.mp hj with rfl | hj
    · exact x.1.lt
    · exact AllAt.lt x.2.2 j hj
theorem AllAt.ob {h : Heap} {k : Nat} : ∀ {is : List Addr} {r : List Src}, AllAt h k is r → ∀ i ∈ is, ∃ o l, h.get? i = some o ∧ o.data = .fields #[.ref l, .int k 0]
  | i :: is, (t, l, xs) :: r, x, j, hj => by
    rcases List.mem_cons.mp hj with rfl | hj
    · obtain ⟨o, ho, _, hd⟩ := x.1.rec_
      exact ⟨o, l, ho, hd⟩
    · exact AllAt.ob x.2.2 j hj
/-- the items at the k-th turn -/
def Items (k : Nat) : List Src → List Value → Prop
  | [], [] => True
  | (_, _, xs) :: r, y :: ys => xs[k]? = some y ∧ Items k r ys
  | _, _ => False
theorem Items.len {k : Nat} : ∀ {r : List Src} {ys : List Value}, Items k r ys → r.length = ys.length
  | [], [], _ => rfl
  | _ :: _, _ :: _, x => by rw [List.length_cons, List.length_cons, Items.len x.2]
/-- what a draw asks of the loop's body, and gives -/
def DrawOk (M : Model) (A : Around) {β : Type} (f : Value × Nat → β → Sem (ForInStep β)) (b0 : β) (TO : Addr) : Prop :=
  ∀ (s : Shared) (i l : Addr) (t : Bool) (k : Nat) (xs : Array Value) (x old : Value) (pre post : List Value) (Q : ForInStep β → Shared → Prop) (E : Value → Shared → Prop), ItK t s.heap i l k → SqK t s.heap l xs → xs[k]? = some x → i ≠ TO → l ≠ TO → l ≠ i →
    (pre ++ old :: post).length ≤ 1000 → TupAt s.heap TO (pre ++ old :: post) →
    (∀ h', ItK t h' i l (k + 1) → TupAt h' TO (pre ++ x :: post) → h'.objs.size = s.heap.objs.size → (∀ c o, c ≠ TO → c ≠ i → s.heap.get? c = some o → h'.get? c = some o) → Q (.yield b0) { s with heap := h' }) →
    wpAny M A (f (.ref i, pre.length) b0) Q E s
theorem draw_all {β : Type} {M : Model} {f : Value × Nat → β → Sem (ForInStep β)} {b0 : β} {TO : Addr} {Q : β → Shared → Prop} (hf : DrawOk M A f b0 TO) (k : Nat) (is : List Addr) :
    ∀ (r : List Src) (ys olds pre : List Value) (s : Shared), AllAt s.heap k is r → Items k r ys → ys.length = olds.length → (pre ++ olds).length ≤ 1000 → is.Nodup → TO ∉ is → (∀ q ∈ r, q.2.1 ≠ TO ∧ q.2.1 ∉ is) → TupAt s.heap TO (pre ++ olds) →
      (∀ h', AllAt h' (k + 1) is r → TupAt h' TO (pre ++ ys) → h'.objs.size = s.heap.objs.size → (∀ c o, c ≠ TO → c ∉ is → s.heap.get? c = some o → h'.get? c = some o) → Q b0 { s with heap := h' }) →
      wpAny M A (forIn ((is.map Value.ref).zipIdx pre.length) b0 f) Q E s := by
  induction is with
  | nil =>
    intro r ys olds pre s ha hy hl _ _ _ _ hT hQ
    cases r with
    | cons _ _ => exact ha.elim
    | nil =>
      cases ys with
      | cons _ _ => exact hy.elim
      | nil =>
        have e : olds = [] := List.length_eq_zero_iff.mp hl.symm
        subst e
        rw [List.map_nil, List.zipIdx_nil, List.forIn_nil]
        exact wpAny_pure (hQ s.heap trivial hT rfl fun _ _ _ _ e => e)
  | cons i is ih =>
    intro r ys olds pre s ha hy hl hbd hn hTO hs hT hQ
    cases r with
    | nil => exact ha.elim
    | cons q r =>
      obtain ⟨t, l, xs⟩ := q
      cases ys with
      | nil => exact hy.elim
      | cons y ys =>
        cases olds with
        | nil => cases hl
        | cons o olds =>
          have ha1 : ItK t s.heap i l k := ha.1
          have ha2 : SqK t s.heap l xs := ha.2.1
          have ha3 : AllAt s.heap k is r := ha.2.2
          have hy1 : xs[k]? = some y := hy.1
          have hy2 : Items k r ys := hy.2
          rw [List.map_cons, List.zipIdx_cons, List.forIn_cons]
          have hni : i ∉ is := (List.nodup_cons.mp hn).1
          have hiT : i ≠ TO := fun e => hTO (e ▸ List.mem_cons_self)
          have hq := hs _ List.mem_cons_self
          have hq1 : l ≠ TO := hq.1
          have hq2 : l ∉ i :: is := hq.2
          refine wpAny_bind (hf s i l t k xs y o pre olds _ E ha1 ha2 hy1 hiT hq1 (fun e => hq2 (e ▸ List.mem_cons_self)) hbd hT fun h1 hi1 hT1 hz1 hk1 => ?_)
          have e1 : pre.length + 1 = (pre ++ [y]).length := by simp
          have hT1' : TupAt h1 TO ((pre ++ [y]) ++ olds) := by
            rw [List.append_assoc]
            exact hT1
          have goal := ih r ys olds (pre ++ [y]) { s with heap := h1 } (ha3.at (fun j hj o e => hk1 j o (fun q => hTO (q ▸ List.mem_cons_of_mem _ hj)) (fun q => hni (q ▸ hj)) e)
            fun q hqm o e => hk1 _ o (hs q (List.mem_cons_of_mem _ hqm)).1 (fun z => (hs q (List.mem_cons_of_mem _ hqm)).2 (z ▸ List.mem_cons_self)) e) hy2 (Nat.succ.inj hl) (by simpa using hbd) (List.nodup_cons.mp hn).2 (fun z => hTO (List.mem_cons_of_mem _ z))
            (fun q hqm => ⟨(hs q (List.mem_cons_of_mem _ hqm)).1, fun z => (hs q (List.mem_cons_of_mem _ hqm)).2 (List.mem_cons_of_mem _ z)⟩) hT1' fun h2 ha2' hT2 hz2 hk2 => ?_
          · rw [← e1] at goal
            exact goal
          · refine hQ h2 ⟨hi1.at fun o e => hk2 i o hiT hni e, ha2.at fun o e => hk2 l o hq1 (fun z => hq2 (List.mem_cons_of_mem _ z)) (hk1 l o hq1 (fun z => hq2 (z ▸ List.mem_cons_self)) e), ha2'⟩ ?_ (hz2.trans hz1) fun c o c1 c2 e => ?_
            · rw [List.append_assoc] at hT2
              exact hT2
            · exact hk2 c o c1 (fun z => c2 (List.mem_cons_of_mem _ z)) (hk1 c o c1 (fun z => c2 (z ▸ List.mem_cons_self)) e)
end
end Zn
set_option Elab.async false
set_option linter.all false
set_option maxRecDepth 100000
set_option maxHeartbeats 1000000
namespace Zn
open PySem PySem.Spec PyProof.Rows L2
open PySem.Sem (wp)
section
variable {prog : Program} {w : World} {A : Around} {E : Value → Shared → Prop} {s : Shared}
/-- one turn of the loop within next -/
theorem next_item {z TI TO : Addr} {is : List Addr} {r : List Src} {k : Nat} {ys olds : List Value} {Q : Value → Shared → Prop} (hne : is ≠ [])
    (hz : IsZip s.heap z TI TO .none) (hTI : TupAt s.heap TI (is.map Value.ref)) (hTO : TupAt s.heap TO olds) (ha : AllAt s.heap k is r) (hy : Items k r ys) (hlo : olds.length = is.length) (hsm : is.length ≤ 1000)
    (hnd : is.Nodup) (hzi : z ∉ is) (hTOi : TO ∉ is) (hzT : z ≠ TO) (hs : ∀ q ∈ r, q.2.1 ≠ TO ∧ q.2.1 ≠ z ∧ q.2.1 ∉ is)
    (hQ : ∀ h', IsZip h' z TI TO (rawInt s.heap.objs.size) → TupAt h' TO ys → AllAt h' (k + 1) is r → TupAt h' s.heap.objs.size ys → h'.objs.size = s.heap.objs.size + 1 →
      (∀ c o, c ≠ z → c ≠ TO → c ∉ is → s.heap.get? c = some o → h'.get? c = some o) → Q (.ref s.heap.objs.size) { s with heap := h' }) :
    wpAny (model prog w) A (Builtin.«zip.__next__» ⟨[.ref z], []⟩) (fun fin s' => ∃ v, fin = .done (.ret v) ∧ Q v s') E s := by
  show wpAny _ _ (field (.ref z) 2 >>= _) _ _ _
  refine wpAny_bind (wpAny_field hz rfl (x := .bool false) rfl ?_)
  show wpAny _ _ (field (.ref z) 3 >>= _) _ _ _
  refine wpAny_bind (wpAny_field hz rfl (x := .ref TI) rfl ?_)
  refine wpAny_bind (wpAny_seqItems hTI rfl ?_)
  have hem : (is.map Value.ref).toArray.isEmpty = false := by
    cases is with
    | nil => exact absurd rfl hne
    | cons _ _ => simp
  simp only [hem, Bool.false_eq_true, if_false]
  refine wpAny_bind ?_
  unfold Builtin.SmallTypes.ownedTupleIsFree
  refine wpAny_bind (wpAny_field hz rfl (x := .none) rfl (wpAny_pure ?_))
  simp only [if_true]
  refine wpAny_bind (wpAny_rule ?_)
  refine wpAny_bind (wpAny_field hz rfl (x := .ref TO) rfl ?_)
  refine wpAny_bind (wpAny_setField_rec hz (by simp) fun g1 hz1 hs1 => ?_)
  replace hz1 : IsZip g1 z TI TO .ellipsis := hz1
  have up1 : ∀ c o, c ≠ z → s.heap.get? c = some o → g1.get? c = some o := fun c o c1 e => hs1.extBut _ _ c1 e
  have ha1 : AllAt g1 k is r := ha.at (fun i hi o e => up1 i o (fun q => hzi (q ▸ hi)) e) fun q hq o e => up1 _ o (hs q hq).2.1 e
  have hly : ys.length = olds.length := by rw [hlo, ha.len, ← hy.len]
  refine wpAny_bind ?_
  refine draw_all (M := model prog w) (A := A) (E := E) (b0 := (none, ())) (TO := TO) (Q := _) ?hf k is r ys olds [] { s with heap := g1 } ha1 hy hly (by simpa [hlo] using hsm) hnd hTOi (fun q hq => ⟨(hs q hq).1, (hs q hq).2.2⟩) (up1 TO _ hzT.symm hTO) ?hq
  case hf =>
    intro s2 i l t k2 xs x old pre post Q2 E2 hi hl hx hiT hlT hli hbd hT2 kq
    show wpAny _ _ (((Builtin.SmallTypes.nextOf (.ref i) >>= fun v => pure (some v)).onRaise _) >>= _) _ _ _
    refine wpAny_bind (wpAny_onRaise ?_)
    refine wpAny_bind (nextOf_item hi hl hx fun g2 hi2 hs2 => wpAny_pure ?_)
    have hT3 : TupAt g2 TO (pre ++ old :: post) := hs2.extBut _ _ hiT.symm hT2
    refine wpAny_bind (wpAny_seqItems hT3 rfl ?_)
    have hb2 : (pre ++ old :: post).length ≤ sizeLine := Nat.le_trans hbd (by decide)
    refine wpAny_bind (wpAny_updateSeq hT3 rfl ?_ (by rw [List.size_toArray]; exact hb2) (by rw [Array.size_setIfInBounds, List.size_toArray]; exact Nat.le_succ_of_le hb2))
    refine wpAny_bind (wpAny_letGo (wpAny_pure ?_))
    have hup : Heap.SameBut TO g2 (g2.update TO (Obj.mapSeq fun v => v.setIfInBounds pre.length x)) := Heap.SameBut.update ..
    refine kq _ (hi2.at fun o e => hup.extBut _ _ hiT e) ?_ (hup.1.trans hs2.1) fun c o c1 c2 e => hup.extBut _ _ c1 (hs2.extBut _ _ c2 e)
    show (g2.update TO _).get? TO = _
    rw [Heap.get?_update_self _ hT3 rfl]
    simp [Obj.mapSeq, List.set_append]
  case hq =>
    intro g2 ha2 hT2 hz2 hk2
    refine wpAny_bind (wpAny_seqItems hT2 rfl ?_)
    have hyl : ys.length ≤ sizeLine := Nat.le_trans (by rw [hly, hlo]; exact hsm) (by decide)
    refine wpAny_bind (wpAny_newTuple ?_ (by simpa using hyl))
    have hsz : g2.objs.size = s.heap.objs.size := hz2.trans hs1.1
    have hz3 : IsZip g2 z TI TO .ellipsis := hk2 z _ hzT hzi hz1
    have hzlt : z < g2.objs.size := Heap.lt_size hz3
    have hTlt : TO < g2.objs.size := Heap.lt_size hT2
    show wpAny _ _ (Builtin.SmallTypes.ownedTupleHandOut (.ref z) (.ref g2.objs.size) >>= _) _ _ _
    refine wpAny_bind ?_
    unfold Builtin.SmallTypes.ownedTupleHandOut
    have hz4 : IsZip (g2.push { cls := .type "tuple", data := .seq ([] ++ ys).toArray.toList.toArray }) z TI TO .ellipsis := Heap.get?_push_of_some _ hz3
    refine wpAny_bind (wpAny_setField_rec hz4 (by simp) fun g5 hz5 hs5 => ?_)
    replace hz5 : IsZip g5 z TI TO (rawInt g2.objs.size) := hz5
    refine wpAny_setField_rec hz5 (by simp) fun g6 hz6 hs6 => ?_
    replace hz6 : IsZip g6 z TI TO (rawInt g2.objs.size) := hz6
    have up : ∀ c o, c ≠ z → g2.get? c = some o → g6.get? c = some o := fun c o c1 e => hs6.extBut _ _ c1 (hs5.extBut _ _ c1 (Heap.get?_push_of_some _ e))
    have hnew : TupAt g6 g2.objs.size ys := by
      have e := hs6.extBut _ _ (Nat.ne_of_gt hzlt) (hs5.extBut _ _ (Nat.ne_of_gt hzlt) (Heap.get?_push_size g2 (o := { cls := .type "tuple", data := .seq ([] ++ ys).toArray.toList.toArray }) rfl))
      simpa using e
    have hs8 : g6.objs.size = g2.objs.size + 1 := by rw [hs6.1, hs5.1, Heap.size_push]
    have hT6 : TupAt g6 TO ys := up TO _ hzT.symm hT2
    rw [hsz] at hz6 hnew hs8
    refine wpAny_pure ⟨_, rfl, ?_⟩
    show Q (.ref g2.objs.size) _
    rw [hsz]
    exact hQ g6 hz6 hT6 (ha2.at (fun i hi o e => up i o (fun q => hzi (q ▸ hi)) e) fun q hq o e => up _ o (hs q hq).2.1 e) hnew hs8 fun c o c1 c2 c3 e => up c o c1 (hk2 c o c2 c3 (up1 c o c1 e))
end
end Zn
set_option Elab.async false
set_option linter.all false
set_option maxRecDepth 100000
set_option maxHeartbeats 1000000
namespace Zn
open PySem PySem.Spec PyProof.Rows L2
open PySem.Sem (wp)
def StopAt (h : Heap) (e : Addr) : Prop := ∃ o, h.get? e = some o ∧ o.cls = .type "StopIteration"
/-- an exhausted sequence ends the loop's body -/
def StopOk (M : Model) (A : Around) {β : Type} (f : Value × Nat → β → Sem (ForInStep β)) (b0 : β) (z TI TO : Addr) : Prop :=
  ∀ (s : Shared) (i l : Addr) (t : Bool) (k j : Nat) (xs : Array Value) (Q : ForInStep β → Shared → Prop) (E : Value → Shared → Prop), ItK t s.heap i l k → SqK t s.heap l xs → xs[k]? = none → i ≠ z → IsZip s.heap z TI TO .ellipsis →
    (∀ h' e, (∀ c o, c ≠ z → c ≠ i → s.heap.get? c = some o → h'.get? c = some o) → StopAt h' e → E (.ref e) { s with heap := h' }) → wpAny M A (f (.ref i, j) b0) Q E s
section
variable {prog : Program} {w : World} {A : Around} {E : Value → Shared → Prop} {s : Shared}
theorem stop_all {β : Type} {M : Model} {f : Value × Nat → β → Sem (ForInStep β)} {b0 : β} {z TI TO : Addr} {Q : β → Shared → Prop} (hf : DrawOk M A f b0 TO) (hg : StopOk M A f b0 z TI TO) (k : Nat) (is : List Addr) :
    ∀ (r : List Src) (olds pre : List Value) (s : Shared), AllAt s.heap k is r → (∃ q ∈ r, q.2.2[k]? = none) → r.length = olds.length → (pre ++ olds).length ≤ 1000 → is.Nodup → TO ∉ is → z ∉ is → z ≠ TO → (∀ q ∈ r, q.2.1 ≠ TO ∧ q.2.1 ∉ is) →
      IsZip s.heap z TI TO .ellipsis → TupAt s.heap TO (pre ++ olds) →
      (∀ h' e, (∀ c o, c ≠ z → c ≠ TO → c ∉ is → s.heap.get? c = some o → h'.get? c = some o) → StopAt h' e → E (.ref e) { s with heap := h' }) →
      wpAny M A (forIn ((is.map Value.ref).zipIdx pre.length) b0 f) Q E s := by
  induction is with
  | nil =>
    intro r olds pre s ha hy _ _ _ _ _ _ _ _ _ _
    cases r with
    | cons _ _ => exact ha.elim
    | nil => obtain ⟨q, hq, _⟩ := hy; cases hq
  | cons i is ih =>
    intro r olds pre s ha hy hl hbd hn hTO hzi hzT hs hz hT hE
    cases r with
    | nil => exact ha.elim
    | cons q r =>
      obtain ⟨t, l, xs⟩ := q
      cases olds with
      | nil => cases hl
      | cons o olds =>
        have ha1 : ItK t s.heap i l k := ha.1
        have ha2 : SqK t s.heap l xs := ha.2.1
        have ha3 : AllAt s.heap k is r := ha.2.2
        rw [List.map_cons, List.zipIdx_cons, List.forIn_cons]
        have hni : i ∉ is := (List.nodup_cons.mp hn).1
        have hiT : i ≠ TO := fun e => hTO (e ▸ List.mem_cons_self)
        have hiz : i ≠ z := fun e => hzi (e ▸ List.mem_cons_self)
        have hq := hs _ List.mem_cons_self
        have hq1 : l ≠ TO := hq.1
        have hq2 : l ∉ i :: is := hq.2
        cases hx : xs[k]? with
        | none =>
          exact wpAny_bind (hg s i l t k _ xs _ _ ha1 ha2 hx hiz hz fun h' e hk he => hE h' e (fun c o c1 c2 c3 x => hk c o c1 (fun q => c3 (q ▸ List.mem_cons_self)) x) he)
        | some y =>
          have hy2 : ∃ q ∈ r, q.2.2[k]? = none := by
            obtain ⟨q, hq, e⟩ := hy
            rcases List.mem_cons.mp hq with rfl | hq
            · rw [hx] at e; cases e
            · exact ⟨q, hq, e⟩
          refine wpAny_bind (hf s i l t k xs y o pre olds _ E ha1 ha2 hx hiT hq1 (fun e => hq2 (e ▸ List.mem_cons_self)) hbd hT fun h1 hi1 hT1 hz1 hk1 => ?_)
          have e1 : pre.length + 1 = (pre ++ [y]).length := by simp
          have hT1' : TupAt h1 TO ((pre ++ [y]) ++ olds) := by
            rw [List.append_assoc]
            exact hT1
          have goal := ih r olds (pre ++ [y]) { s with heap := h1 } (ha3.at (fun j hj o e => hk1 j o (fun q => hTO (q ▸ List.mem_cons_of_mem _ hj)) (fun q => hni (q ▸ hj)) e)
            fun q hqm o e => hk1 _ o (hs q (List.mem_cons_of_mem _ hqm)).1 (fun z => (hs q (List.mem_cons_of_mem _ hqm)).2 (z ▸ List.mem_cons_self)) e) hy2 (Nat.succ.inj hl) (by simpa using hbd) (List.nodup_cons.mp hn).2 (fun z => hTO (List.mem_cons_of_mem _ z))
            (fun q => hzi (List.mem_cons_of_mem _ q)) hzT (fun q hqm => ⟨(hs q (List.mem_cons_of_mem _ hqm)).1, fun z => (hs q (List.mem_cons_of_mem _ hqm)).2 (List.mem_cons_of_mem _ z)⟩) (hk1 z _ hzT hiz.symm hz) hT1' fun h2 e hk2 he =>
              hE h2 e (fun c o c1 c2 c3 x => hk2 c o c1 c2 (fun q => c3 (List.mem_cons_of_mem _ q)) (hk1 c o c2 (fun q => c3 (q ▸ List.mem_cons_self)) x)) he
          rw [← e1] at goal
          exact goal
/-- the turn at which some sequence has come to its end -/
theorem next_stop {z TI TO : Addr} {is : List Addr} {r : List Src} {k : Nat} {olds : List Value} {Q : Fin → Shared → Prop} (hh : A.handled = none) (hne : is ≠ [])
    (hz : IsZip s.heap z TI TO .none) (hTI : TupAt s.heap TI (is.map Value.ref)) (hTO : TupAt s.heap TO olds) (ha : AllAt s.heap k is r) (hy : ∃ q ∈ r, q.2.2[k]? = none) (hlo : olds.length = is.length) (hsm : is.length ≤ 1000)
    (hnd : is.Nodup) (hzi : z ∉ is) (hTOi : TO ∉ is) (hzT : z ≠ TO) (hs : ∀ q ∈ r, q.2.1 ≠ TO ∧ q.2.1 ≠ z ∧ q.2.1 ∉ is)
    (hE : ∀ h' e, (∀ c o, c ≠ z → c ≠ TO → c ∉ is → s.heap.get? c = some o → h'.get? c = some o) → StopAt h' e → E (.ref e) { s with heap := h' }) :
    wpAny (model prog w) A (Builtin.«zip.__next__» ⟨[.ref z], []⟩) Q E s := by
  show wpAny _ _ (field (.ref z) 2 >>= _) _ _ _
  refine wpAny_bind (wpAny_field hz rfl (x := .bool false) rfl ?_)
  show wpAny _ _ (field (.ref z) 3 >>= _) _ _ _
  refine wpAny_bind (wpAny_field hz rfl (x := .ref TI) rfl ?_)
  refine wpAny_bind (wpAny_seqItems hTI rfl ?_)
  have hem : (is.map Value.ref).toArray.isEmpty = false := by
    cases is with
    | nil => exact absurd rfl hne
    | cons _ _ => simp
  simp only [hem, Bool.false_eq_true, if_false]
  refine wpAny_bind ?_
  unfold Builtin.SmallTypes.ownedTupleIsFree
  refine wpAny_bind (wpAny_field hz rfl (x := .none) rfl (wpAny_pure ?_))
  simp only [if_true]
  refine wpAny_bind (wpAny_rule ?_)
  refine wpAny_bind (wpAny_field hz rfl (x := .ref TO) rfl ?_)
  refine wpAny_bind (wpAny_setField_rec hz (by simp) fun g1 hz1 hs1 => ?_)
  replace hz1 : IsZip g1 z TI TO .ellipsis := hz1
  have up1 : ∀ c o, c ≠ z → s.heap.get? c = some o → g1.get? c = some o := fun c o c1 e => hs1.extBut _ _ c1 e
  have ha1 : AllAt g1 k is r := ha.at (fun i hi o e => up1 i o (fun q => hzi (q ▸ hi)) e) fun q hq o e => up1 _ o (hs q hq).2.1 e
  refine wpAny_bind ?_
  refine stop_all (M := model prog w) (A := A) (E := E) (b0 := (none, ())) (z := z) (TI := TI) (TO := TO) (Q := _) ?hf ?hg k is r olds [] { s with heap := g1 } ha1 hy (by rw [hlo, ha.len]) (by simpa [hlo] using hsm) hnd hTOi hzi hzT (fun q hq => ⟨(hs q hq).1, (hs q hq).2.2⟩) hz1 (up1 TO _ hzT.symm hTO)
    fun h' e hk he => hE h' e (fun c o c1 c2 c3 x => hk c o c1 c2 c3 (up1 c o c1 x)) he
  case hf =>
    intro s2 i l t k2 xs x old pre post Q2 E2 hi hl hx hiT hlT hli hbd hT2 kq
    show wpAny _ _ (((Builtin.SmallTypes.nextOf (.ref i) >>= fun v => pure (some v)).onRaise _) >>= _) _ _ _
    refine wpAny_bind (wpAny_onRaise ?_)
    refine wpAny_bind (nextOf_item hi hl hx fun g2 hi2 hs2 => wpAny_pure ?_)
    have hT3 : TupAt g2 TO (pre ++ old :: post) := hs2.extBut _ _ hiT.symm hT2
    refine wpAny_bind (wpAny_seqItems hT3 rfl ?_)
    have hb2 : (pre ++ old :: post).length ≤ sizeLine := Nat.le_trans hbd (by decide)
    refine wpAny_bind (wpAny_updateSeq hT3 rfl ?_ (by rw [List.size_toArray]; exact hb2) (by rw [Array.size_setIfInBounds, List.size_toArray]; exact Nat.le_succ_of_le hb2))
    refine wpAny_bind (wpAny_letGo (wpAny_pure ?_))
    have hup : Heap.SameBut TO g2 (g2.update TO (Obj.mapSeq fun v => v.setIfInBounds pre.length x)) := Heap.SameBut.update ..
    refine kq _ (hi2.at fun o e => hup.extBut _ _ hiT e) ?_ (hup.1.trans hs2.1) fun c o c1 c2 e => hup.extBut _ _ c1 (hs2.extBut _ _ c2 e)
    show (g2.update TO _).get? TO = _
    rw [Heap.get?_update_self _ hT3 rfl]
    simp [Obj.mapSeq, List.set_append]
  case hg =>
    intro s2 i l t k2 j xs Q2 E2 hi hl hx hiz hz2 ke
    show wpAny _ _ (((Builtin.SmallTypes.nextOf (.ref i) >>= fun v => pure (some v)).onRaise _) >>= _) _ _ _
    refine wpAny_bind (wpAny_onRaise ?_)
    refine wpAny_bind (nextOf_end hh hi hl hx fun g2 e hs2 he => ?_)
    obtain ⟨oe, hoe, hce⟩ := he
    have hz3 : IsZip g2 z TI TO .ellipsis := hs2 _ _ hiz.symm hz2
    have hez : e ≠ z := fun x => by subst x; rw [hz3] at hoe; cases hoe; simp at hce
    exact wpAny_setField_rec hz3 (by simp) fun g3 _ hs3 => ke g3 e (fun c o c1 c2 x => hs3.extBut _ _ c1 (hs2 _ _ c2 x)) ⟨oe, hs3.extBut _ _ hez hoe, hce⟩
theorem pyNext_item {z TI TO : Addr} {is : List Addr} {r : List Src} {k : Nat} {ys olds : List Value} {Q : Option Value → Shared → Prop} (hne : is ≠ [])
    (hz : IsZip s.heap z TI TO .none) (hTI : TupAt s.heap TI (is.map Value.ref)) (hTO : TupAt s.heap TO olds) (ha : AllAt s.heap k is r) (hy : Items k r ys) (hlo : olds.length = is.length) (hsm : is.length ≤ 1000)
    (hnd : is.Nodup) (hzi : z ∉ is) (hTOi : TO ∉ is) (hzT : z ≠ TO) (hs : ∀ q ∈ r, q.2.1 ≠ TO ∧ q.2.1 ≠ z ∧ q.2.1 ∉ is)
    (hQ : ∀ h', IsZip h' z TI TO (rawInt s.heap.objs.size) → TupAt h' TO ys → AllAt h' (k + 1) is r → TupAt h' s.heap.objs.size ys → h'.objs.size = s.heap.objs.size + 1 →
      (∀ c o, c ≠ z → c ≠ TO → c ∉ is → s.heap.get? c = some o → h'.get? c = some o) → Q (some (.ref s.heap.objs.size)) { s with heap := h' }) : wpAny (model prog w) A (pyNext (.ref z)) Q E s := by
  have ty : s.TypeIs (.ref z) "zip" := ⟨_, hz, rfl⟩
  unfold pyNext
  refine wpAny_bind (wpAny_attempt (wpAny_callSpecial?_slot (name := Str.ofString "__next__") ty F.slot_zip_next ?_))
  exact wpAny_call_entry F.slot_zip_next ty F.entry_zip_next (next_item hne hz hTI hTO ha hy hlo hsm hnd hzi hTOi hzT hs fun h' b1 b2 b3 b4 b5 b6 => wpAny_pure (hQ h' b1 b2 b3 b4 b5 b6)) (F.args_zip_next_1 _)
theorem pyNext_stop {z TI TO : Addr} {is : List Addr} {r : List Src} {k : Nat} {olds : List Value} {Q : Option Value → Shared → Prop} (hh : A.handled = none) (hne : is ≠ [])
    (hz : IsZip s.heap z TI TO .none) (hTI : TupAt s.heap TI (is.map Value.ref)) (hTO : TupAt s.heap TO olds) (ha : AllAt s.heap k is r) (hy : ∃ q ∈ r, q.2.2[k]? = none) (hlo : olds.length = is.length) (hsm : is.length ≤ 1000)
    (hnd : is.Nodup) (hzi : z ∉ is) (hTOi : TO ∉ is) (hzT : z ≠ TO) (hs : ∀ q ∈ r, q.2.1 ≠ TO ∧ q.2.1 ≠ z ∧ q.2.1 ∉ is)
    (hQ : ∀ h', (∀ c o, c ≠ z → c ≠ TO → c ∉ is → s.heap.get? c = some o → h'.get? c = some o) → Q none { s with heap := h' }) : wpAny (model prog w) A (pyNext (.ref z)) Q E s := by
  have ty : s.TypeIs (.ref z) "zip" := ⟨_, hz, rfl⟩
  unfold pyNext
  refine wpAny_bind (wpAny_attempt (wpAny_callSpecial?_slot (name := Str.ofString "__next__") ty F.slot_zip_next ?_))
  refine wpAny_call_entry F.slot_zip_next ty F.entry_zip_next (next_stop hh hne hz hTI hTO ha hy hlo hsm hnd hzi hTOi hzT hs fun h' e hk he => ?_) (F.args_zip_next_1 _)
  obtain ⟨o, ho, hc⟩ := he
  exact wpAny_bind (wpAny_isInstance (T := "StopIteration") (b := true) ⟨o, ho, hc⟩ isSubtype_stop (wpAny_pure (hQ _ hk)))
end
end Zn
set_option Elab.async false
set_option linter.all false
set_option maxRecDepth 100000
set_option maxHeartbeats 1000000
namespace Zn
open PySem PySem.Spec PyProof.Rows L2
open PySem.Sem (wp)
/-- the sequences stand -/
def Srcs (h : Heap) : List Src → Prop
  | [] => True
  | (t, l, xs) :: r => SqK t h l xs ∧ Srcs h r
theorem Srcs.at {h h' : Heap} : ∀ {r : List Src}, Srcs h r → (∀ q ∈ r, ∀ o, h.get? q.2.1 = some o → h'.get? q.2.1 = some o) → Srcs h' r
  | [], _, _ => trivial
  | (t, l, xs) :: r, x, e => ⟨x.1.at (e _ List.mem_cons_self), Srcs.at x.2 fun q hq => e q (List.mem_cons_of_mem _ hq)⟩
/-- the new iterators -/
def news (n : Nat) : List Src → List Addr
  | [] => []
  | _ :: r => n :: news (n + 1) r
theorem news_len (n : Nat) (r : List Src) : (news n r).length = r.length := by
  induction r generalizing n with
  | nil => rfl
  | cons q r ih => show (news (n + 1) r).length + 1 = r.length + 1; rw [ih]
theorem news_mem {r : List Src} {n i : Nat} (h : i ∈ news n r) : n ≤ i ∧ i < n + r.length := by
  induction r generalizing n with
  | nil => cases h
  | cons q r ih =>
    rcases List.mem_cons.mp h with rfl | h
    · exact ⟨Nat.le_refl _, by simp⟩
    · have := ih h
      rw [List.length_cons]
      omega
theorem news_nodup (r : List Src) (n : Nat) : (news n r).Nodup := by
  induction r generalizing n with
  | nil => exact List.nodup_nil
  | cons q r ih => exact List.nodup_cons.mpr ⟨fun h => absurd (news_mem h).1 (by omega), ih _⟩
section
variable {prog : Program} {w : World} {A : Around} {E : Value → Shared → Prop}
theorem iters_all (f : Value → Array Value → Sem (ForInStep (Array Value))) (hf : ∀ v acc, f v acc = (do let i ← holding acc.toList (pyIter v); pure (.yield (acc.push i)))) (r : List Src) :
    ∀ (acc : Array Value) (s : Shared) (Q : Array Value → Shared → Prop), Srcs s.heap r →
      (∀ h', AllAt h' 0 (news s.heap.objs.size r) r → h'.objs.size = s.heap.objs.size + r.length → (∀ c o, s.heap.get? c = some o → h'.get? c = some o) → Q (acc ++ ((news s.heap.objs.size r).map Value.ref).toArray) { s with heap := h' }) →
      wpAny (model prog w) A (forIn (r.map fun q => Value.ref q.2.1) acc f) Q E s := by
  induction r with
  | nil =>
    intro acc s Q _ hQ
    rw [List.map_nil, List.forIn_nil]
    have := hQ s.heap trivial rfl fun _ _ e => e
    exact wpAny_pure (by simpa [news] using this)
  | cons q r ih =>
    intro acc s Q hs hQ
    obtain ⟨t, l, xs⟩ := q
    have h1 : SqK t s.heap l xs := hs.1
    have h2 : Srcs s.heap r := hs.2
    rw [List.map_cons, List.forIn_cons, hf]
    refine wpAny_bind (wpAny_bind (wpAny_holding (pyIter_K h1 fun g hi hz hk => wpAny_pure ?_)))
    refine ih (acc.push (.ref s.heap.objs.size)) { s with heap := g } Q (h2.at fun q _ o e => hk _ o e) fun g2 ha hz2 hk2 => ?_
    have hz2' : g2.objs.size = g.objs.size + r.length := hz2
    have ha' : AllAt g2 0 (news g.objs.size r) r := ha
    have e : g.objs.size = s.heap.objs.size + 1 := hz
    rw [e] at ha' hz2'
    have fin := hQ g2 ⟨hi.at fun o e => hk2 _ o e, (h1.at fun o e => hk _ o e).at fun o e => hk2 _ o e, ha'⟩ (by rw [hz2', List.length_cons]; omega) fun c o x => hk2 c o (hk c o x)
    show Q _ _
    have e3 : (acc.push (Value.ref s.heap.objs.size) ++ ((news g.objs.size r).map Value.ref).toArray) = (acc ++ ((news s.heap.objs.size ((t, l, xs) :: r)).map Value.ref).toArray) := by
      rw [e]
      simp [news, Array.append_assoc]
    rw [show (({ s with heap := g } : Shared).heap) = g from rfl, e3]
    exact fin
/-- what zip(..) leaves -/
structure Made (h h' : Heap) (r : List Src) : Prop where
  zr : IsZip h' (h.objs.size + r.length + 2) (h.objs.size + r.length) (h.objs.size + r.length + 1) .none
  ti : TupAt h' (h.objs.size + r.length) ((news h.objs.size r).map Value.ref)
  to : TupAt h' (h.objs.size + r.length + 1) (r.map fun _ => Value.none)
  all : AllAt h' 0 (news h.objs.size r) r
  sz : h'.objs.size = h.objs.size + r.length + 3
  kp : ∀ c o, h.get? c = some o → h'.get? c = some o
theorem made_of {h g : Heap} {r : List Src} (ha : AllAt g 0 (news h.objs.size r) r) (hz : g.objs.size = h.objs.size + r.length) (hk : ∀ c o, h.get? c = some o → g.get? c = some o) {o1 o2 o3 : Obj}
    (e1 : o1 = { cls := .type "tuple", data := .seq ((news h.objs.size r).map Value.ref).toArray }) (e2 : o2 = { cls := .type "tuple", data := .seq (r.map fun _ => Value.none).toArray })
    (e3 : o3 = { cls := .type "zip", data := .fields #[.none, .bool false, .bool false, .ref g.objs.size, .ref (g.push o1).objs.size] }) : Made h (((g.push o1).push o2).push o3) r := by
  have s1 : (g.push o1).objs.size = g.objs.size + 1 := Heap.size_push ..
  have s2 : ((g.push o1).push o2).objs.size = g.objs.size + 2 := by rw [Heap.size_push, s1]
  have s3 : (((g.push o1).push o2).push o3).objs.size = g.objs.size + 3 := by rw [Heap.size_push, s2]
  have g1 : (((g.push o1).push o2).push o3).get? g.objs.size = some o1 := Heap.get?_push_of_some _ (Heap.get?_push_of_some _ (Heap.get?_push_size _ (by rw [e1]; rfl)))
  have g2 : (((g.push o1).push o2).push o3).get? (g.push o1).objs.size = some o2 := Heap.get?_push_of_some _ (Heap.get?_push_size _ (by rw [e2]; rfl))
  have g3 : (((g.push o1).push o2).push o3).get? ((g.push o1).push o2).objs.size = some o3 := Heap.get?_push_size _ (by rw [e3]; rfl)
  have kp : ∀ c o, g.get? c = some o → (((g.push o1).push o2).push o3).get? c = some o := fun c o e => Heap.get?_push_of_some _ (Heap.get?_push_of_some _ (Heap.get?_push_of_some _ e))
  rw [s1, hz] at g2
  rw [hz] at g1
  have e3' : o3 = { cls := .type "zip", data := .fields #[.none, .bool false, .bool false, .ref (h.objs.size + r.length), .ref (h.objs.size + r.length + 1)] } := by rw [e3, s1, hz]
  rw [s2, hz] at g3
  rw [e3] at e3'
  exact ⟨g3.trans (congrArg some (e3.trans e3')), g1.trans (congrArg some e1), g2.trans (congrArg some e2), ha.at (fun i _ o e => kp i o e) fun q _ o e => kp _ o e, by rw [s3, hz], fun c o e => kp c o (hk c o e)⟩
theorem zip_new (r : List Src) (hsm : r.length ≤ 1000) : Meets (Builtin.«zip.__new__» ⟨.type "zip" :: r.map fun q => Value.ref q.2.1, []⟩) (fun _ R s => Srcs s.heap r ∧ ∀ h', Made s.heap h' r → R (.ok (.ret (.ref (s.heap.objs.size + r.length + 2)))) { s with heap := h' }) :=
  .of_wp fun prog w A R s h => by
    obtain ⟨hs, h⟩ := h
    have hsub := sub_zip
    unfold Builtin.«zip.__new__»
    have hc : Builtin.SmallTypes.newClass "zip" ⟨.type "zip" :: r.map fun q => Value.ref q.2.1, []⟩ = pure (Value.type "zip", r.map fun q => Value.ref q.2.1) := by
      unfold Builtin.SmallTypes.newClass
      simp only [isType, sub_zip]
      rfl
    rw [hc]
    refine wpAny_bind (wpAny_pure ?_)
    dsimp only
    refine wpAny_bind ?_
    unfold Builtin.SmallTypes.iterAll
    refine wpAny_bind (iters_all _ (fun v acc => rfl) r #[] s _ hs fun g ha hz hk => wpAny_pure ?_)
    have e0 : (#[] ++ ((news s.heap.objs.size r).map Value.ref).toArray).toList = (news s.heap.objs.size r).map Value.ref := by simp
    rw [e0]
    have lsz : r.length ≤ sizeLine := Nat.le_trans hsm (by decide)
    refine wpAny_bind (wpAny_newTuple ?_ (by rw [List.length_map, news_len]; exact lsz))
    refine wpAny_bind (wpAny_newTuple ?_ (by rw [List.length_map, List.length_map, news_len]; exact lsz))
    refine wpAny_bind ?_
    show wpAny _ _ (newObj (.type "zip") (.fields #[.none, .bool false, .bool false, _, _])) _ _ _
    refine wpAny_newObj_type ?_
    refine wpAny_pure ⟨_, rfl, ?_⟩
    have nn : ((news s.heap.objs.size r).map Value.ref).map (fun _ => Value.none) = r.map fun _ => Value.none := by
      rw [List.map_map]
      refine List.ext_getElem (by simp [news_len]) fun i _ _ => by simp
    have z1 : g.objs.size = s.heap.objs.size + r.length := hz
    have fin := h _ (made_of ha hz hk rfl rfl rfl)
    have zz : ∀ o1 o2 : Obj, ((g.push o1).push o2).objs.size = s.heap.objs.size + r.length + 2 := fun o1 o2 => by rw [Heap.size_push, Heap.size_push, z1]
    show R (.ok (.ret (.ref ((g.push _).push _).objs.size))) _
    rw [zz, nn]
    exact fin
end
end Zn
set_option Elab.async false
set_option linter.all false
set_option maxRecDepth 100000
set_option maxHeartbeats 1000000
namespace Zn
open PySem PySem.Spec PyProof.Rows L2
open PySem.Sem (wp)
/-- the iterators alone -/
def ItsAt (h : Heap) (k : Nat) : List Addr → List (Bool × Addr) → Prop
  | [], [] => True
  | i :: is, (t, l) :: r => ItK t h i l k ∧ ItsAt h k is r
  | _, _ => False
theorem ItsAt.at {h h' : Heap} {k : Nat} : ∀ {is : List Addr} {r : List (Bool × Addr)}, ItsAt h k is r → (∀ i ∈ is, ∀ o, h.get? i = some o → h'.get? i = some o) → ItsAt h' k is r
  | [], [], _, _ => trivial
  | i :: is, (t, l) :: r, x, e1 => ⟨x.1.at (e1 i List.mem_cons_self), ItsAt.at x.2 (fun j hj => e1 j (List.mem_cons_of_mem _ hj))⟩
theorem ItsAt.ob {h : Heap} {k : Nat} : ∀ {is : List Addr} {r : List (Bool × Addr)}, ItsAt h k is r → ∀ i ∈ is, ∃ o l, h.get? i = some o ∧ o.data = .fields #[.ref l, .int k 0]
  | i :: is, (t, l) :: r, x, j, hj => by
    rcases List.mem_cons.mp hj with rfl | hj
    · obtain ⟨o, ho, _, hd⟩ := x.1.rec_
      exact ⟨o, l, ho, hd⟩
    · exact ItsAt.ob x.2 j hj
theorem ItsAt.len {h : Heap} {k : Nat} : ∀ {is : List Addr} {r : List (Bool × Addr)}, ItsAt h k is r → is.length = r.length
  | [], [], _ => rfl
  | _ :: _, _ :: _, x => by rw [List.length_cons, List.length_cons, ItsAt.len x.2]
def bare (r : List Src) : List (Bool × Addr) := r.map fun q => (q.1, q.2.1)
theorem AllAt.its {h : Heap} {k : Nat} : ∀ {is : List Addr} {r : List Src}, AllAt h k is r → ItsAt h k is (bare r)
  | [], [], _ => trivial
  | _ :: _, (_, _, _) :: _, x => ⟨x.1, AllAt.its x.2.2⟩
theorem allAt_of {h : Heap} {k : Nat} : ∀ {is : List Addr} {r : List Src}, ItsAt h k is (bare r) → Srcs h r → AllAt h k is r
  | [], [], _, _ => trivial
  | _ :: _, (_, _, _) :: _, x, y => ⟨x.1, y.1, allAt_of x.2 y.2⟩
def SqV (K : PySem.W.Frag) (H : Hp) (t : Bool) (a : Addr) (xs : List V) : Prop := cond t (SqT K H a xs) (SqL K H a xs)
/-- what stands at the i-th places -/
def RowAt (K : PySem.W.Frag) (H : Hp) (i : Nat) : List (Bool × Addr) → List V → Prop
  | [], [] => True
  | (t, a) :: r, y :: ys => (∃ xs, SqV K H t a xs ∧ xs[i]? = some y) ∧ RowAt K H i r ys
  | _, _ => False
def AllSq (K : PySem.W.Frag) (H : Hp) (src : List (Bool × Addr)) : Prop := ∀ q ∈ src, ∃ xs, SqV K H q.1 q.2 xs
def Itn (K : PySem.W.Frag) (src : List (Bool × Addr)) : It :=
  ⟨fun i H => ∃ ys, RowAt K H i src ys, fun i H v H' => ∃ T ys, v = .ref T ∧ H T = none ∧ H' = upd H T (.tup ys) ∧ ∀ zs, RowAt K H i src zs → zs = ys,
    fun i H => AllSq K H src ∧ ∃ q ∈ src, ∃ xs, SqV K H q.1 q.2 xs ∧ xs.length ≤ i⟩
section
variable {X : Cx} {pins : List (Addr × Obj)} {σ : L2.St} {H : Hp} {s : Shared}
theorem sqv_ob (I : Inv X pins σ H s) {t : Bool} {a : Addr} {xs : List V} (h : SqV X.K H t a xs) : ∃ its : List Value, Vals xs its ∧ SqK t s.heap a its.toArray ∧ xs.length ≤ sizeLine := by
  cases t with
  | true =>
    obtain ⟨its, r, p, z⟩ := I.tuple h
    exact ⟨its, r, p, z⟩
  | false =>
    obtain ⟨its, r, p, z⟩ := I.list h
    exact ⟨its, r, p.isList, z⟩
theorem sqv_inj (I : Inv X pins σ H s) {t : Bool} {a : Addr} {xs ys : List V} (h : SqV X.K H t a xs) (h' : SqV X.K H t a ys) : xs = ys := by
  cases t with
  | true => exact I.tuple_inj h h'
  | false => exact I.list_inj h h'
theorem row_inj (I : Inv X pins σ H s) {i : Nat} : ∀ {src : List (Bool × Addr)} {ys zs : List V}, RowAt X.K H i src ys → RowAt X.K H i src zs → zs = ys
  | [], [], [], _, _ => rfl
  | (t, a) :: r, y :: ys, z :: zs, h1, h2 => by
    obtain ⟨⟨xs, q1, e1⟩, h1⟩ := h1
    obtain ⟨⟨xs', q2, e2⟩, h2⟩ := h2
    have e := sqv_inj I q1 q2
    subst e
    rw [e1] at e2
    cases e2
    rw [row_inj I h1 h2]
theorem row_ob (I : Inv X pins σ H s) {i : Nat} : ∀ {src : List (Bool × Addr)} {ys : List V}, RowAt X.K H i src ys → ∃ (r : List Src) (us : List Value), bare r = src ∧ Srcs s.heap r ∧ Items i r us ∧ Vals ys us
  | [], [], _ => ⟨[], [], rfl, trivial, trivial, .nil⟩
  | (t, a) :: src, y :: ys, h => by
    obtain ⟨⟨xs, q, e⟩, h⟩ := h
    obtain ⟨its, rv, p, _⟩ := sqv_ob I q
    obtain ⟨u, hu, ru⟩ := rv.get e
    obtain ⟨r, us, e1, e2, e3, e4⟩ := row_ob I h
    exact ⟨(t, a, its.toArray) :: r, u :: us, by unfold bare at e1 ⊢; rw [List.map_cons, e1], ⟨p, e2⟩, ⟨by simpa using hu, e3⟩, .cons ru e4⟩
theorem all_ob (I : Inv X pins σ H s) : ∀ {src : List (Bool × Addr)}, AllSq X.K H src → ∃ r : List Src, bare r = src ∧ Srcs s.heap r ∧ ∀ q ∈ src, ∀ xs, SqV X.K H q.1 q.2 xs → ∃ p ∈ r, p.2.2.size = xs.length
  | [], _ => ⟨[], rfl, trivial, fun q hq => by cases hq⟩
  | (t, a) :: src, h => by
    obtain ⟨xs, q⟩ := h _ List.mem_cons_self
    obtain ⟨its, rv, p, _⟩ := sqv_ob I q
    obtain ⟨r, e1, e2, e3⟩ := all_ob I (src := src) fun q hq => h q (List.mem_cons_of_mem _ hq)
    refine ⟨(t, a, its.toArray) :: r, by unfold bare at e1 ⊢; rw [List.map_cons, e1], ⟨p, e2⟩, fun q' hq' ys hy => ?_⟩
    rcases List.mem_cons.mp hq' with rfl | hq'
    · refine ⟨_, List.mem_cons_self, ?_⟩
      have e := sqv_inj I q hy
      subst e
      have := rv.length
      simp [this]
    · obtain ⟨p', hp', e'⟩ := e3 q' hq' ys hy
      exact ⟨p', List.mem_cons_of_mem _ hp', e'⟩
end
/-- the iterator's own objects are apart -/
structure Apart (z TI TO : Addr) (is : List Addr) (src : List (Bool × Addr)) : Prop where
  nd : is.Nodup
  zi : z ∉ is
  ti : TI ∉ is
  oi : TO ∉ is
  zT : z ≠ TO
  zI : z ≠ TI
  TT : TI ≠ TO
  sr : ∀ q ∈ src, q.2 ≠ TO ∧ q.2 ≠ z ∧ q.2 ≠ TI ∧ q.2 ∉ is
  ne : is ≠ []
  sm : is.length ≤ 1000
theorem bare_mem {r : List Src} {q : Src} (h : q ∈ r) : (q.1, q.2.1) ∈ bare r := List.mem_map.mpr ⟨q, h, rfl⟩
end Zn
set_option Elab.async false
set_option linter.all false
set_option maxRecDepth 100000
set_option maxHeartbeats 1000000
namespace Zn
open PySem PySem.Spec PyProof.Rows L2
open PySem.Sem (wp)
theorem tc1 (a : Value) : checkTypeCall "zip" ⟨[a], []⟩ = pure () := by kernel_rfl
theorem tc3 (a b c : Value) : checkTypeCall "zip" ⟨[a, b, c], []⟩ = pure () := by kernel_rfl
theorem nc1 (a : Value) : checkBuiltinCall "zip.__new__" ⟨[.type "zip", a], []⟩ = pure () := by kernel_rfl
theorem nc3 (a b c : Value) : checkBuiltinCall "zip.__new__" ⟨[.type "zip", a, b, c], []⟩ = pure () := by kernel_rfl
theorem tcn : ∀ {l : List Value}, 0 < l.length → l.length ≤ 3 → checkTypeCall "zip" ⟨l, []⟩ = pure ()
  | [a], _, _ => tc1 a
  | [a, b], _, _ => F.typeCall_zip_2 a b
  | [a, b, c], _, _ => tc3 a b c
theorem ncn : ∀ {l : List Value}, 0 < l.length → l.length ≤ 3 → checkBuiltinCall "zip.__new__" ⟨.type "zip" :: l, []⟩ = pure ()
  | [a], _, _ => nc1 a
  | [a, b], _, _ => F.newCall_zip_2 a b
  | [a, b, c], _, _ => nc3 a b c
theorem oi1 (a b : Value) : argsOk "object.__init__" ⟨[a, b], []⟩ := by
  unfold argsOk; rw [signature?_of (id := "object.__init__") (n := ['_', '_', 't', 'i', 'n', 'i', '_', '_']) (o := ['t', 'c', 'e', 'j', 'b', 'o']) (by kernel_rfl) F.owner_object]; kernel_rfl
theorem oi3 (a b c d : Value) : argsOk "object.__init__" ⟨[a, b, c, d], []⟩ := by
  unfold argsOk; rw [signature?_of (id := "object.__init__") (n := ['_', '_', 't', 'i', 'n', 'i', '_', '_']) (o := ['t', 'c', 'e', 'j', 'b', 'o']) (by kernel_rfl) F.owner_object]; kernel_rfl
theorem oin : ∀ {l : List Value}, 0 < l.length → l.length ≤ 3 → ∀ obj, argsOk "object.__init__" ⟨obj :: l, []⟩
  | [a], _, _ => fun o => oi1 o a
  | [a, b], _, _ => fun o => F.args_object_init_3 o a b
  | [a, b, c], _, _ => fun o => oi3 o a b c
section
variable {prog : Program} {w : World} {A : Around} {E : Value → Shared → Prop} {s : Shared}
theorem call_zipN {r : List Src} {Q : Value → Shared → Prop} (h0 : 0 < r.length) (h3 : r.length ≤ 3) (hs : Srcs s.heap r) (h : ∀ h', Made s.heap h' r → Q (.ref (s.heap.objs.size + r.length + 2)) { s with heap := h' }) :
    wpAny (model prog w) A (call (.type "zip") (r.map fun q => Value.ref q.2.1)) Q E s :=
  callType_new F.called_zip (by decide) (tcn (by simpa using h0) (by simpa using h3)) (ncn (by simpa using h0) (by simpa using h3)) (oin (by simpa using h0) (by simpa using h3)) F.entry_zip_new
    (zip_new r (by omega)) ⟨hs, fun h' m => ⟨⟨_, m.zr, rfl⟩, h h' m⟩⟩
end
theorem srcs_lt {h : Heap} : ∀ {r : List Src}, Srcs h r → ∀ q ∈ r, q.2.1 < h.objs.size
  | (t, l, xs) :: r, x, q, hq => by
    rcases List.mem_cons.mp hq with rfl | hq
    · exact x.1.lt
    · exact srcs_lt x.2 q hq
theorem nA (n r : Nat) : n + r + 2 ≠ n + r + 1 := by omega
theorem nB (n r : Nat) : n + r + 2 ≠ n + r := by omega
theorem nC (n r : Nat) : n + r ≠ n + r + 1 := by omega
theorem nD {n r l : Nat} (k : Nat) (h : l < n) : l ≠ n + r + k := by omega
theorem nE {n r l : Nat} (h : l < n) : l ≠ n + r := by omega
theorem nF {n l : Nat} (h : l < n) (h2 : n ≤ l) : False := by omega
theorem nG {n r : Nat} (k : Nat) (h : n + r + k < n + r) : False := by omega
theorem nH {n r : Nat} (h : n + r < n + r) : False := by omega
theorem made_apart {h h' : Heap} {r : List Src} (m : Made h h' r) (hs : Srcs h r) (h0 : 0 < r.length) (h3 : r.length ≤ 1000) :
    Apart (h.objs.size + r.length + 2) (h.objs.size + r.length) (h.objs.size + r.length + 1) (news h.objs.size r) (bare r) where
  nd := news_nodup r _
  zi := fun q => nG 2 (news_mem q).2
  ti := fun q => nH (news_mem q).2
  oi := fun q => nG 1 (news_mem q).2
  zT := nA _ _
  zI := nB _ _
  TT := nC _ _
  sr := fun q hq => by
    obtain ⟨p, hp, rfl⟩ := List.mem_map.mp hq
    have hl := srcs_lt hs p hp
    exact ⟨nD 1 hl, nD 2 hl, nE hl, fun z => nF hl (news_mem z).1⟩
  ne := fun z => by
    have := news_len h.objs.size r
    rw [z] at this
    have : (0 : Nat) = r.length := this
    omega
  sm := by rw [news_len]; exact h3
section
variable {X : Cx}
def kRefs (src : List (Bool × Addr)) : List V := src.map fun q => V.ref q.2
/-- the sequences of the abstract heap, as they stand -/
theorem srcs_of {pins : List (Addr × Obj)} {σ : L2.St} {H : Hp} {s : Shared} (I : Inv X pins σ H s) {src : List (Bool × Addr)} (h : AllSq X.K H src) : ∃ r : List Src, bare r = src ∧ Srcs s.heap r :=
  let ⟨r, e1, e2, _⟩ := all_ob I h; ⟨r, e1, e2⟩
theorem vals_refs : ∀ {src : List (Bool × Addr)} {us : List Value}, Vals (kRefs src) us → us = src.map fun q => Value.ref q.2
  | [], [], .nil => rfl
  | (t, a) :: r, u :: us, .cons ru t' => by
    have e : u = Value.ref a := ru
    rw [e, vals_refs t', List.map_cons]
end
end Zn
set_option Elab.async false
set_option linter.all false
set_option maxRecDepth 100000
set_option maxHeartbeats 1000000
namespace Zs
open PySem PySem.Spec PyProof.Rows L2 Zn
open PySem.Sem (wp)
abbrev ZipB (h : Heap) (z TI TO : Addr) (f0 : Value) (b : Bool) : Prop :=
  h.get? z = some { cls := .type "zip", dict := none, data := .fields #[f0, .bool b, .bool false, .ref TI, .ref TO], slots := #[] }
/-- none was handed out yet, or one was -/
def Own (f0 : Value) : Prop := f0 = .none ∨ ∃ T : Addr, f0 = rawInt T
/-- an exhausted sequence ends the loop's body -/
def StopOkB (M : Model) (A : Around) {β : Type} (f : Value × Nat → β → Sem (ForInStep β)) (b0 : β) (z TI TO : Addr) (b : Bool) : Prop :=
  ∀ (s : Shared) (i l : Addr) (t : Bool) (k j : Nat) (xs : Array Value) (Q : ForInStep β → Shared → Prop) (E : Value → Shared → Prop), ItK t s.heap i l k → SqK t s.heap l xs → xs[k]? = none → i ≠ z → ZipB s.heap z TI TO .ellipsis b →
    (∀ h' e, (∀ c o, c ≠ z → c ≠ i → s.heap.get? c = some o → h'.get? c = some o) → StopAt h' e → E (.ref e) { s with heap := h' }) → wpAny M A (f (.ref i, j) b0) Q E s
section
variable {prog : Program} {w : World} {A : Around} {E : Value → Shared → Prop} {s : Shared}
theorem stop_allB {β : Type} {M : Model} {f : Value × Nat → β → Sem (ForInStep β)} {b0 : β} {z TI TO : Addr} {b : Bool} {Q : β → Shared → Prop} (hf : DrawOk M A f b0 TO) (hg : StopOkB M A f b0 z TI TO b) (k : Nat) (is : List Addr) :
    ∀ (r : List Src) (olds pre : List Value) (s : Shared), AllAt s.heap k is r → (∃ q ∈ r, q.2.2[k]? = none) → r.length = olds.length → (pre ++ olds).length ≤ 1000 → is.Nodup → TO ∉ is → z ∉ is → z ≠ TO → (∀ q ∈ r, q.2.1 ≠ TO ∧ q.2.1 ∉ is) →
      ZipB s.heap z TI TO .ellipsis b → TupAt s.heap TO (pre ++ olds) →
      (∀ h' e, (∀ c o, c ≠ z → c ≠ TO → c ∉ is → s.heap.get? c = some o → h'.get? c = some o) → StopAt h' e → E (.ref e) { s with heap := h' }) →
      wpAny M A (forIn ((is.map Value.ref).zipIdx pre.length) b0 f) Q E s := by
  induction is with
  | nil =>
    intro r olds pre s ha hy _ _ _ _ _ _ _ _ _ _
    cases r with
    | cons _ _ => exact ha.elim
    | nil => obtain ⟨q, hq, _⟩ := hy; cases hq
  | cons i is ih =>
    intro r olds pre s ha hy hl hbd hn hTO hzi hzT hs hz hT hE
    cases r with
    | nil => exact ha.elim
    | cons q r =>
      obtain ⟨t, l, xs⟩ := q
      cases olds with
      | nil => cases hl
      | cons o olds =>
        have ha1 : ItK t s.heap i l k := ha.1
        have ha2 : SqK t s.heap l xs := ha.2.1
        have ha3 : AllAt s.heap k is r := ha.2.2
        rw [List.map_cons, List.zipIdx_cons, List.forIn_cons]
        have hni : i ∉ is := (List.nodup_cons.mp hn).1
        have hiT : i ≠ TO := fun e => hTO (e ▸ List.mem_cons_self)
        have hiz : i ≠ z := fun e => hzi (e ▸ List.mem_cons_self)
        have hq := hs _ List.mem_cons_self
        have hq1 : l ≠ TO := hq.1
        have hq2 : l ∉ i :: is := hq.2
        cases hx : xs[k]? with
        | none =>
          exact wpAny_bind (hg s i l t k _ xs _ _ ha1 ha2 hx hiz hz fun h' e hk he => hE h' e (fun c o c1 c2 c3 x => hk c o c1 (fun q => c3 (q ▸ List.mem_cons_self)) x) he)
        | some y =>
          have hy2 : ∃ q ∈ r, q.2.2[k]? = none := by
            obtain ⟨q, hq, e⟩ := hy
            rcases List.mem_cons.mp hq with rfl | hq
            · rw [hx] at e; cases e
            · exact ⟨q, hq, e⟩
          refine wpAny_bind (hf s i l t k xs y o pre olds _ E ha1 ha2 hx hiT hq1 (fun e => hq2 (e ▸ List.mem_cons_self)) hbd hT fun h1 hi1 hT1 hz1 hk1 => ?_)
          have e1 : pre.length + 1 = (pre ++ [y]).length := by simp
          have hT1' : TupAt h1 TO ((pre ++ [y]) ++ olds) := by
            rw [List.append_assoc]
            exact hT1
          have goal := ih r olds (pre ++ [y]) { s with heap := h1 } (ha3.at (fun j hj o e => hk1 j o (fun q => hTO (q ▸ List.mem_cons_of_mem _ hj)) (fun q => hni (q ▸ hj)) e)
            fun q hqm o e => hk1 _ o (hs q (List.mem_cons_of_mem _ hqm)).1 (fun z => (hs q (List.mem_cons_of_mem _ hqm)).2 (z ▸ List.mem_cons_self)) e) hy2 (Nat.succ.inj hl) (by simpa using hbd) (List.nodup_cons.mp hn).2 (fun z => hTO (List.mem_cons_of_mem _ z))
            (fun q => hzi (List.mem_cons_of_mem _ q)) hzT (fun q hqm => ⟨(hs q (List.mem_cons_of_mem _ hqm)).1, fun z => (hs q (List.mem_cons_of_mem _ hqm)).2 (List.mem_cons_of_mem _ z)⟩) (hk1 z _ hzT hiz.symm hz) hT1' fun h2 e hk2 he =>
              hE h2 e (fun c o c1 c2 c3 x => hk2 c o c1 c2 (fun q => c3 (List.mem_cons_of_mem _ q)) (hk1 c o c2 (fun q => c3 (q ▸ List.mem_cons_self)) x)) he
          rw [← e1] at goal
          exact goal
theorem alive {a : Addr} {Q : Option Obj → Shared → Prop} (h : Q (s.heap.get? a) s) : wpAny (model prog w) A (loadIfAlive a) Q E s := fun Γ p hΓ => by
  unfold loadIfAlive
  rw [Sem.wp_loadIfAlive]
  exact wpAny_pure h Γ p hΓ
/-- is it free: either answer, the record then with that mark -/
theorem is_free {z TI TO : Addr} {f0 : Value} {b : Bool} {Q : Bool → Shared → Prop} (ow : Own f0) (hz : ZipB s.heap z TI TO f0 b)
    (h1 : Q true s) (h2 : ∀ h', ZipB h' z TI TO f0 true → Heap.SameBut z s.heap h' → Q false { s with heap := h' }) :
    wpAny (model prog w) A (Builtin.SmallTypes.ownedTupleIsFree (.ref z)) Q E s := by
  unfold Builtin.SmallTypes.ownedTupleIsFree
  rcases ow with rfl | ⟨T, rfl⟩
  · exact wpAny_bind (wpAny_field hz rfl (x := .none) rfl (wpAny_pure h1))
  · refine wpAny_bind (wpAny_field hz rfl (x := rawInt T) rfl ?_)
    show wpAny _ _ (loadIfAlive _ >>= _) _ _ _
    refine wpAny_bind (alive ?_)
    cases e : s.heap.get? (Int.toNat (T : Int)) with
    | none => exact wpAny_pure h1
    | some o =>
      show wpAny _ _ (field (.ref z) 1 >>= _) _ _ _
      refine wpAny_bind (wpAny_field hz rfl (x := .bool b) rfl ?_)
      cases b with
      | true => exact wpAny_pure (h2 s.heap hz ⟨rfl, fun _ _ => rfl⟩)
      | false =>
        show wpAny _ _ (setField (.ref z) 1 (.bool true) >>= _) _ _ _
        exact wpAny_bind (wpAny_setField_rec hz (by simp) fun g hg hs => wpAny_pure (h2 g hg hs))
/-- drawing one after another into a new array -/
def Draw2 (M : Model) (A : Around) (f : Value → (Option Fin × Array Value) → Sem (ForInStep (Option Fin × Array Value))) : Prop :=
  ∀ (s : Shared) (i l : Addr) (t : Bool) (k : Nat) (xs : Array Value) (x : Value) (acc : Array Value) (Q : ForInStep (Option Fin × Array Value) → Shared → Prop) (E : Value → Shared → Prop), ItK t s.heap i l k → SqK t s.heap l xs → xs[k]? = some x →
    (∀ h', ItK t h' i l (k + 1) → h'.objs.size = s.heap.objs.size → (∀ c o, c ≠ i → s.heap.get? c = some o → h'.get? c = some o) → Q (.yield (none, acc.push x)) { s with heap := h' }) → wpAny M A (f (.ref i) (none, acc)) Q E s
def Stop2 (M : Model) (A : Around) (f : Value → (Option Fin × Array Value) → Sem (ForInStep (Option Fin × Array Value))) : Prop :=
  ∀ (s : Shared) (i l : Addr) (t : Bool) (k : Nat) (xs : Array Value) (acc : Array Value) (Q : ForInStep (Option Fin × Array Value) → Shared → Prop) (E : Value → Shared → Prop), ItK t s.heap i l k → SqK t s.heap l xs → xs[k]? = none →
    (∀ h' e, (∀ c o, c ≠ i → s.heap.get? c = some o → h'.get? c = some o) → StopAt h' e → E (.ref e) { s with heap := h' }) → wpAny M A (f (.ref i) (none, acc)) Q E s
theorem draws2 {M : Model} {f : Value → (Option Fin × Array Value) → Sem (ForInStep (Option Fin × Array Value))} {Q : (Option Fin × Array Value) → Shared → Prop} (hf : Draw2 M A f) (k : Nat) (is : List Addr) :
    ∀ (r : List Src) (ys : List Value) (acc : Array Value) (s : Shared), AllAt s.heap k is r → Items k r ys → is.Nodup → (∀ q ∈ r, q.2.1 ∉ is) →
      (∀ h', AllAt h' (k + 1) is r → h'.objs.size = s.heap.objs.size → (∀ c o, c ∉ is → s.heap.get? c = some o → h'.get? c = some o) → Q (none, acc ++ ys.toArray) { s with heap := h' }) →
      wpAny M A (forIn (is.map Value.ref) (none, acc) f) Q E s := by
  induction is with
  | nil =>
    intro r ys acc s ha hy _ _ hQ
    cases r with
    | cons _ _ => exact ha.elim
    | nil =>
      cases ys with
      | cons _ _ => exact hy.elim
      | nil =>
        rw [List.map_nil, List.forIn_nil]
        have := hQ s.heap trivial rfl fun _ _ _ e => e
        exact wpAny_pure (by simpa using this)
  | cons i is ih =>
    intro r ys acc s ha hy hn hs hQ
    cases r with
    | nil => exact ha.elim
    | cons q r =>
      obtain ⟨t, l, xs⟩ := q
      cases ys with
      | nil => exact hy.elim
      | cons y ys =>
        have ha1 : ItK t s.heap i l k := ha.1
        have ha2 : SqK t s.heap l xs := ha.2.1
        have ha3 : AllAt s.heap k is r := ha.2.2
        have hy1 : xs[k]? = some y := hy.1
        have hy2 : Items k r ys := hy.2
        rw [List.map_cons, List.forIn_cons]
        have hni : i ∉ is := (List.nodup_cons.mp hn).1
        have hq2 : l ∉ i :: is := hs _ List.mem_cons_self
        have hli : l ≠ i := fun e => hq2 (e ▸ List.mem_cons_self)
        refine wpAny_bind (hf s i l t k xs y acc _ E ha1 ha2 hy1 fun h1 hi1 hz1 hk1 => ?_)
        refine ih r ys (acc.push y) { s with heap := h1 } (ha3.at (fun j hj o e => hk1 j o (fun q => hni (q ▸ hj)) e) fun q hqm o e => hk1 _ o (fun z => hs q (List.mem_cons_of_mem _ hqm) (z ▸ List.mem_cons_self)) e) hy2 (List.nodup_cons.mp hn).2
          (fun q hqm z => hs q (List.mem_cons_of_mem _ hqm) (List.mem_cons_of_mem _ z)) fun h2 ha2' hz2 hk2 => ?_
        have e3 : acc.push y ++ ys.toArray = acc ++ (y :: ys).toArray := by simp
        rw [e3]
        exact hQ h2 ⟨hi1.at fun o e => hk2 i o hni e, ha2.at fun o e => hk2 l o (fun z => hq2 (List.mem_cons_of_mem _ z)) (hk1 l o hli e), ha2'⟩ (hz2.trans hz1) fun c o c2 e => hk2 c o (fun z => c2 (List.mem_cons_of_mem _ z)) (hk1 c o (fun z => c2 (z ▸ List.mem_cons_self)) e)
theorem stops2 {M : Model} {f : Value → (Option Fin × Array Value) → Sem (ForInStep (Option Fin × Array Value))} {Q : (Option Fin × Array Value) → Shared → Prop} (hf : Draw2 M A f) (hg : Stop2 M A f) (k : Nat) (is : List Addr) :
    ∀ (r : List Src) (acc : Array Value) (s : Shared), AllAt s.heap k is r → (∃ q ∈ r, q.2.2[k]? = none) → is.Nodup → (∀ q ∈ r, q.2.1 ∉ is) →
      (∀ h' e, (∀ c o, c ∉ is → s.heap.get? c = some o → h'.get? c = some o) → StopAt h' e → E (.ref e) { s with heap := h' }) →
      wpAny M A (forIn (is.map Value.ref) (none, acc) f) Q E s := by
  induction is with
  | nil =>
    intro r acc s ha hy _ _ _
    cases r with
    | cons _ _ => exact ha.elim
    | nil => obtain ⟨q, hq, _⟩ := hy; cases hq
  | cons i is ih =>
    intro r acc s ha hy hn hs hE
    cases r with
    | nil => exact ha.elim
    | cons q r =>
      obtain ⟨t, l, xs⟩ := q
      have ha1 : ItK t s.heap i l k := ha.1
      have ha2 : SqK t s.heap l xs := ha.2.1
      have ha3 : AllAt s.heap k is r := ha.2.2
      rw [List.map_cons, List.forIn_cons]
      have hni : i ∉ is := (List.nodup_cons.mp hn).1
      have hq2 : l ∉ i :: is := hs _ List.mem_cons_self
      cases hx : xs[k]? with
      | none => exact wpAny_bind (hg s i l t k xs acc _ _ ha1 ha2 hx fun h' e hk he => hE h' e (fun c o c3 x => hk c o (fun q => c3 (q ▸ List.mem_cons_self)) x) he)
      | some y =>
        have hy2 : ∃ q ∈ r, q.2.2[k]? = none := by
          obtain ⟨q, hq, e⟩ := hy
          rcases List.mem_cons.mp hq with rfl | hq
          · rw [hx] at e; cases e
          · exact ⟨q, hq, e⟩
        refine wpAny_bind (hf s i l t k xs y acc _ E ha1 ha2 hx fun h1 hi1 hz1 hk1 => ?_)
        exact ih r (acc.push y) { s with heap := h1 } (ha3.at (fun j hj o e => hk1 j o (fun q => hni (q ▸ hj)) e) fun q hqm o e => hk1 _ o (fun z => hs q (List.mem_cons_of_mem _ hqm) (z ▸ List.mem_cons_self)) e) hy2 (List.nodup_cons.mp hn).2
          (fun q hqm z => hs q (List.mem_cons_of_mem _ hqm) (List.mem_cons_of_mem _ z)) fun h2 e hk2 he => hE h2 e (fun c o c3 x => hk2 c o (fun q => c3 (List.mem_cons_of_mem _ q)) (hk1 c o (fun q => c3 (q ▸ List.mem_cons_self)) x)) he
/-- one turn: whichever way the tuple comes -/
theorem turn_item {z TI TO : Addr} {f0 : Value} {b : Bool} {is : List Addr} {r : List Src} {k : Nat} {ys olds : List Value} {Q : Value → Shared → Prop} (ow : Own f0) (hne : is ≠ [])
    (hz : ZipB s.heap z TI TO f0 b) (hTI : TupAt s.heap TI (is.map Value.ref)) (hTO : TupAt s.heap TO olds) (ha : AllAt s.heap k is r) (hy : Items k r ys) (hlo : olds.length = is.length) (hsm : is.length ≤ 1000)
    (hnd : is.Nodup) (hzi : z ∉ is) (hTOi : TO ∉ is) (hTIi : TI ∉ is) (hzT : z ≠ TO) (hzI : z ≠ TI) (hTT : TI ≠ TO) (hs : ∀ q ∈ r, q.2.1 ≠ TO ∧ q.2.1 ≠ z ∧ q.2.1 ∉ is)
    (hQ : ∀ h' f1 b1 olds', Own f1 → ZipB h' z TI TO f1 b1 → olds'.length = is.length → TupAt h' TO olds' → AllAt h' (k + 1) is r → TupAt h' s.heap.objs.size ys →
      (∀ c o, c ≠ z → c ≠ TO → c ∉ is → s.heap.get? c = some o → h'.get? c = some o) → Q (.ref s.heap.objs.size) { s with heap := h' }) :
    wpAny (model prog w) A (Builtin.«zip.__next__» ⟨[.ref z], []⟩) (fun fin s' => ∃ v, fin = .done (.ret v) ∧ Q v s') E s := by
  show wpAny _ _ (field (.ref z) 2 >>= _) _ _ _
  refine wpAny_bind (wpAny_field hz rfl (x := .bool false) rfl ?_)
  show wpAny _ _ (field (.ref z) 3 >>= _) _ _ _
  refine wpAny_bind (wpAny_field hz rfl (x := .ref TI) rfl ?_)
  refine wpAny_bind (wpAny_seqItems hTI rfl ?_)
  have hem : (is.map Value.ref).toArray.isEmpty = false := by
    cases is with
    | nil => exact absurd rfl hne
    | cons _ _ => simp
  simp only [hem, Bool.false_eq_true, if_false]
  have hly : ys.length = olds.length := by rw [hlo, ha.len, ← hy.len]
  have hyl : ys.length ≤ sizeLine := Nat.le_trans (by rw [hly, hlo]; exact hsm) (by decide)
  refine wpAny_bind (is_free ow hz ?one fun g0 hz0 hs0 => ?two)
  case two =>
    -- a new tuple
    simp only [Bool.false_eq_true, if_false]
    have up0 : ∀ c o, c ≠ z → s.heap.get? c = some o → g0.get? c = some o := fun c o c1 e => hs0.extBut _ _ c1 e
    have ha0 : AllAt g0 k is r := ha.at (fun i hi o e => up0 i o (fun q => hzi (q ▸ hi)) e) fun q hq o e => up0 _ o (hs q hq).2.1 e
    rw [List.forIn_toArray]
    refine wpAny_bind (draws2 (M := model prog w) (A := A) (E := E) (Q := _) ?hf k is r ys #[] { s with heap := g0 } ha0 hy hnd (fun q hq => (hs q hq).2.2) fun g2 ha2 hz2 hk2 => ?_)
    case hf =>
      intro s2 i l t k2 xs x acc Q2 E2 hi hl hx kq
      show wpAny _ _ (holding _ (Builtin.SmallTypes.nextOf (.ref i) >>= fun v => pure (some v)) >>= _) _ _ _
      refine wpAny_bind (wpAny_holding ?_)
      refine wpAny_bind (nextOf_item hi hl hx fun g2 hi2 hs2 => wpAny_pure (wpAny_pure ?_))
      exact kq g2 hi2 hs2.1 fun c o c1 e => hs2.extBut _ _ c1 e
    refine wpAny_bind (wpAny_newTuple ?_ (by simpa using hyl))
    have hsz : g2.objs.size = s.heap.objs.size := hz2.trans hs0.1
    refine wpAny_pure ⟨_, rfl, ?_⟩
    show Q (.ref g2.objs.size) _
    rw [hsz]
    have e5 : ((#[] ++ ys.toArray).toList.toArray : Array Value) = ys.toArray := by simp
    have upn : ∀ c o, g2.get? c = some o → (g2.push { cls := .type "tuple", data := .seq (#[] ++ ys.toArray).toList.toArray }).get? c = some o := fun c o e => Heap.get?_push_of_some _ e
    refine hQ _ f0 true olds ow (upn z _ (hk2 z _ hzi hz0)) hlo (upn TO _ (hk2 TO _ hTOi (up0 TO _ hzT.symm hTO))) (ha2.at (fun i _ o e => upn i o e) fun q _ o e => upn _ o e) ?_ fun c o c1 c2 c3 e => upn c o (hk2 c o c3 (up0 c o c1 e))
    have := Heap.get?_push_size g2 (o := { cls := .type "tuple", data := .seq (#[] ++ ys.toArray).toList.toArray }) rfl
    rw [hsz, e5] at this
    rw [e5]
    exact this
  case one =>
    simp only [if_true]
    refine wpAny_bind (wpAny_rule ?_)
    refine wpAny_bind (wpAny_field hz rfl (x := .ref TO) rfl ?_)
    refine wpAny_bind (wpAny_setField_rec hz (by simp) fun g1 hz1 hs1 => ?_)
    replace hz1 : ZipB g1 z TI TO .ellipsis b := hz1
    have up1 : ∀ c o, c ≠ z → s.heap.get? c = some o → g1.get? c = some o := fun c o c1 e => hs1.extBut _ _ c1 e
    have ha1 : AllAt g1 k is r := ha.at (fun i hi o e => up1 i o (fun q => hzi (q ▸ hi)) e) fun q hq o e => up1 _ o (hs q hq).2.1 e
    refine wpAny_bind ?_
    refine draw_all (M := model prog w) (A := A) (E := E) (b0 := (none, ())) (TO := TO) (Q := _) ?hf k is r ys olds [] { s with heap := g1 } ha1 hy hly (by simpa [hlo] using hsm) hnd hTOi (fun q hq => ⟨(hs q hq).1, (hs q hq).2.2⟩) (up1 TO _ hzT.symm hTO) ?hq
    case hf =>
      intro s2 i l t k2 xs x old pre post Q2 E2 hi hl hx hiT hlT hli hbd hT2 kq
      show wpAny _ _ (((Builtin.SmallTypes.nextOf (.ref i) >>= fun v => pure (some v)).onRaise _) >>= _) _ _ _
      refine wpAny_bind (wpAny_onRaise ?_)
      refine wpAny_bind (nextOf_item hi hl hx fun g2 hi2 hs2 => wpAny_pure ?_)
      have hT3 : TupAt g2 TO (pre ++ old :: post) := hs2.extBut _ _ hiT.symm hT2
      refine wpAny_bind (wpAny_seqItems hT3 rfl ?_)
      have hb2 : (pre ++ old :: post).length ≤ sizeLine := Nat.le_trans hbd (by decide)
      refine wpAny_bind (wpAny_updateSeq hT3 rfl ?_ (by rw [List.size_toArray]; exact hb2) (by rw [Array.size_setIfInBounds, List.size_toArray]; exact Nat.le_succ_of_le hb2))
      refine wpAny_bind (wpAny_letGo (wpAny_pure ?_))
      have hup : Heap.SameBut TO g2 (g2.update TO (Obj.mapSeq fun v => v.setIfInBounds pre.length x)) := Heap.SameBut.update ..
      refine kq _ (hi2.at fun o e => hup.extBut _ _ hiT e) ?_ (hup.1.trans hs2.1) fun c o c1 c2 e => hup.extBut _ _ c1 (hs2.extBut _ _ c2 e)
      show (g2.update TO _).get? TO = _
      rw [Heap.get?_update_self _ hT3 rfl]
      simp [Obj.mapSeq, List.set_append]
    case hq =>
      intro g2 ha2 hT2 hz2 hk2
      refine wpAny_bind (wpAny_seqItems hT2 rfl ?_)
      refine wpAny_bind (wpAny_newTuple ?_ (by simpa using hyl))
      have hsz : g2.objs.size = s.heap.objs.size := hz2.trans hs1.1
      have hz3 : ZipB g2 z TI TO .ellipsis b := hk2 z _ hzT hzi hz1
      have hzlt : z < g2.objs.size := Heap.lt_size hz3
      show wpAny _ _ (Builtin.SmallTypes.ownedTupleHandOut (.ref z) (.ref g2.objs.size) >>= _) _ _ _
      refine wpAny_bind ?_
      unfold Builtin.SmallTypes.ownedTupleHandOut
      have hz4 : ZipB (g2.push { cls := .type "tuple", data := .seq ([] ++ ys).toArray.toList.toArray }) z TI TO .ellipsis b := Heap.get?_push_of_some _ hz3
      refine wpAny_bind (wpAny_setField_rec hz4 (by simp) fun g5 hz5 hs5 => ?_)
      replace hz5 : ZipB g5 z TI TO (rawInt g2.objs.size) b := hz5
      refine wpAny_setField_rec hz5 (by simp) fun g6 hz6 hs6 => ?_
      replace hz6 : ZipB g6 z TI TO (rawInt g2.objs.size) false := hz6
      have up : ∀ c o, c ≠ z → g2.get? c = some o → g6.get? c = some o := fun c o c1 e => hs6.extBut _ _ c1 (hs5.extBut _ _ c1 (Heap.get?_push_of_some _ e))
      have hnew : TupAt g6 g2.objs.size ys := by
        have e := hs6.extBut _ _ (Nat.ne_of_gt hzlt) (hs5.extBut _ _ (Nat.ne_of_gt hzlt) (Heap.get?_push_size g2 (o := { cls := .type "tuple", data := .seq ([] ++ ys).toArray.toList.toArray }) rfl))
        simpa using e
      have hT6 : TupAt g6 TO ys := up TO _ hzT.symm hT2
      refine wpAny_pure ⟨_, rfl, ?_⟩
      show Q (.ref g2.objs.size) _
      rw [hsz] at hz6 hnew ⊢
      exact hQ g6 _ false ys (.inr ⟨_, rfl⟩) hz6 (hly.trans hlo) hT6 (ha2.at (fun i hi o e => up i o (fun q => hzi (q ▸ hi)) e) fun q hq o e => up _ o (hs q hq).2.1 e) hnew fun c o c1 c2 c3 e => up c o c1 (hk2 c o c2 c3 (up1 c o c1 e))
/-- .. at which some sequence has come to its end -/
theorem turn_stop {z TI TO : Addr} {f0 : Value} {b : Bool} {is : List Addr} {r : List Src} {k : Nat} {olds : List Value} {Q : Fin → Shared → Prop} (hh : A.handled = none) (ow : Own f0) (hne : is ≠ [])
    (hz : ZipB s.heap z TI TO f0 b) (hTI : TupAt s.heap TI (is.map Value.ref)) (hTO : TupAt s.heap TO olds) (ha : AllAt s.heap k is r) (hy : ∃ q ∈ r, q.2.2[k]? = none) (hlo : olds.length = is.length) (hsm : is.length ≤ 1000)
    (hnd : is.Nodup) (hzi : z ∉ is) (hTOi : TO ∉ is) (hzT : z ≠ TO) (hs : ∀ q ∈ r, q.2.1 ≠ TO ∧ q.2.1 ≠ z ∧ q.2.1 ∉ is)
    (hE : ∀ h' e, (∀ c o, c ≠ z → c ≠ TO → c ∉ is → s.heap.get? c = some o → h'.get? c = some o) → StopAt h' e → E (.ref e) { s with heap := h' }) :
    wpAny (model prog w) A (Builtin.«zip.__next__» ⟨[.ref z], []⟩) Q E s := by
  show wpAny _ _ (field (.ref z) 2 >>= _) _ _ _
  refine wpAny_bind (wpAny_field hz rfl (x := .bool false) rfl ?_)
  show wpAny _ _ (field (.ref z) 3 >>= _) _ _ _
  refine wpAny_bind (wpAny_field hz rfl (x := .ref TI) rfl ?_)
  refine wpAny_bind (wpAny_seqItems hTI rfl ?_)
  have hem : (is.map Value.ref).toArray.isEmpty = false := by
    cases is with
    | nil => exact absurd rfl hne
    | cons _ _ => simp
  simp only [hem, Bool.false_eq_true, if_false]
  refine wpAny_bind (is_free ow hz ?one fun g0 hz0 hs0 => ?two)
  case two =>
    simp only [Bool.false_eq_true, if_false]
    have up0 : ∀ c o, c ≠ z → s.heap.get? c = some o → g0.get? c = some o := fun c o c1 e => hs0.extBut _ _ c1 e
    have ha0 : AllAt g0 k is r := ha.at (fun i hi o e => up0 i o (fun q => hzi (q ▸ hi)) e) fun q hq o e => up0 _ o (hs q hq).2.1 e
    rw [List.forIn_toArray]
    refine wpAny_bind (stops2 (M := model prog w) (A := A) (E := E) (Q := _) ?hf ?hg k is r #[] { s with heap := g0 } ha0 hy hnd (fun q hq => (hs q hq).2.2) fun h' e hk he => hE h' e (fun c o c1 c2 c3 x => hk c o c3 (up0 c o c1 x)) he)
    case hf =>
      intro s2 i l t k2 xs x acc Q2 E2 hi hl hx kq
      show wpAny _ _ (holding _ (Builtin.SmallTypes.nextOf (.ref i) >>= fun v => pure (some v)) >>= _) _ _ _
      refine wpAny_bind (wpAny_holding ?_)
      refine wpAny_bind (nextOf_item hi hl hx fun g2 hi2 hs2 => wpAny_pure (wpAny_pure ?_))
      exact kq g2 hi2 hs2.1 fun c o c1 e => hs2.extBut _ _ c1 e
    case hg =>
      intro s2 i l t k2 xs acc Q2 E2 hi hl hx ke
      show wpAny _ _ (holding _ (Builtin.SmallTypes.nextOf (.ref i) >>= fun v => pure (some v)) >>= _) _ _ _
      refine wpAny_bind (wpAny_holding ?_)
      exact wpAny_bind (nextOf_end hh hi hl hx fun g2 e hs2 he => ke g2 e (fun c o c1 x => hs2 _ _ c1 x) he)
  case one =>
    simp only [if_true]
    refine wpAny_bind (wpAny_rule ?_)
    refine wpAny_bind (wpAny_field hz rfl (x := .ref TO) rfl ?_)
    refine wpAny_bind (wpAny_setField_rec hz (by simp) fun g1 hz1 hs1 => ?_)
    replace hz1 : ZipB g1 z TI TO .ellipsis b := hz1
    have up1 : ∀ c o, c ≠ z → s.heap.get? c = some o → g1.get? c = some o := fun c o c1 e => hs1.extBut _ _ c1 e
    have ha1 : AllAt g1 k is r := ha.at (fun i hi o e => up1 i o (fun q => hzi (q ▸ hi)) e) fun q hq o e => up1 _ o (hs q hq).2.1 e
    refine wpAny_bind ?_
    refine stop_allB (M := model prog w) (A := A) (E := E) (b0 := (none, ())) (z := z) (TI := TI) (TO := TO) (b := b) (Q := _) ?hf1 ?hg1 k is r olds [] { s with heap := g1 } ha1 hy (by rw [hlo, ha.len]) (by simpa [hlo] using hsm) hnd hTOi hzi hzT (fun q hq => ⟨(hs q hq).1, (hs q hq).2.2⟩) hz1 (up1 TO _ hzT.symm hTO)
      fun h' e hk he => hE h' e (fun c o c1 c2 c3 x => hk c o c1 c2 c3 (up1 c o c1 x)) he
    case hf1 =>
      intro s2 i l t k2 xs x old pre post Q2 E2 hi hl hx hiT hlT hli hbd hT2 kq
      show wpAny _ _ (((Builtin.SmallTypes.nextOf (.ref i) >>= fun v => pure (some v)).onRaise _) >>= _) _ _ _
      refine wpAny_bind (wpAny_onRaise ?_)
      refine wpAny_bind (nextOf_item hi hl hx fun g2 hi2 hs2 => wpAny_pure ?_)
      have hT3 : TupAt g2 TO (pre ++ old :: post) := hs2.extBut _ _ hiT.symm hT2
      refine wpAny_bind (wpAny_seqItems hT3 rfl ?_)
      have hb2 : (pre ++ old :: post).length ≤ sizeLine := Nat.le_trans hbd (by decide)
      refine wpAny_bind (wpAny_updateSeq hT3 rfl ?_ (by rw [List.size_toArray]; exact hb2) (by rw [Array.size_setIfInBounds, List.size_toArray]; exact Nat.le_succ_of_le hb2))
      refine wpAny_bind (wpAny_letGo (wpAny_pure ?_))
      have hup : Heap.SameBut TO g2 (g2.update TO (Obj.mapSeq fun v => v.setIfInBounds pre.length x)) := Heap.SameBut.update ..
      refine kq _ (hi2.at fun o e => hup.extBut _ _ hiT e) ?_ (hup.1.trans hs2.1) fun c o c1 c2 e => hup.extBut _ _ c1 (hs2.extBut _ _ c2 e)
      show (g2.update TO _).get? TO = _
      rw [Heap.get?_update_self _ hT3 rfl]
      simp [Obj.mapSeq, List.set_append]
    case hg1 =>
      intro s2 i l t k2 j xs Q2 E2 hi hl hx hiz hz2 ke
      show wpAny _ _ (((Builtin.SmallTypes.nextOf (.ref i) >>= fun v => pure (some v)).onRaise _) >>= _) _ _ _
      refine wpAny_bind (wpAny_onRaise ?_)
      refine wpAny_bind (nextOf_end hh hi hl hx fun g2 e hs2 he => ?_)
      obtain ⟨oe, hoe, hce⟩ := he
      have hz3 : ZipB g2 z TI TO .ellipsis b := hs2 _ _ hiz.symm hz2
      have hez : e ≠ z := fun x => by subst x; rw [hz3] at hoe; cases hoe; simp at hce
      exact wpAny_setField_rec hz3 (by simp) fun g3 _ hs3 => ke g3 e (fun c o c1 c2 x => hs3.extBut _ _ c1 (hs2 _ _ c2 x)) ⟨oe, hs3.extBut _ _ hez hoe, hce⟩
end
end Zs
set_option Elab.async false
set_option linter.all false
set_option maxRecDepth 100000
set_option maxHeartbeats 1000000
namespace Zs
open PySem PySem.Spec PyProof.Rows L2 Zn
open PySem.Sem (wp)
section
variable {prog : Program} {w : World} {A : Around} {E : Value → Shared → Prop} {s : Shared}
theorem call_zipStar {pos p : Pos} {e : Expr} {env : Env} {Q : Value → Shared → Prop}
    (h : wpAny (model prog w) A (eval e env) (fun v s₁ => PySem.W.StarOf (model prog w) A E v (fun vs s₂ => wpAny (model prog w) A (call (.type "zip") vs) Q E s₂) s₁) E s)
    (he : starEach [.Starred e p] env = [(true, eval e env)] := by rfl) :
    wpAny (model prog w) A (callWith pos (.type "zip") [] (backTo pos (starEach [.Starred e p] env)) []) Q E s := by
  rw [he]
  refine PySem.W.ks_call (P := fun _ => True) rfl (fun h _ => ⟨_, .inr (.inl rfl), PySem.W.Looks.of_pure rfl⟩) (PySem.W.ks_lone ?_)
  refine wpAny_mono h (fun v s₁ hv => ?_) fun _ _ x => x
  unfold PySem.W.StarOf at hv ⊢
  exact wpAny_mono hv (fun b s₂ hb => ⟨hb.1, wpAny_mono hb.2 (fun vs s₃ hc => ⟨trivial, hc⟩) fun _ _ x => x⟩) fun _ _ x => x
theorem nextB_item {z TI TO : Addr} {f0 : Value} {b : Bool} {is : List Addr} {r : List Src} {k : Nat} {ys olds : List Value} {Q : Option Value → Shared → Prop} (ow : Own f0) (hne : is ≠ [])
    (hz : ZipB s.heap z TI TO f0 b) (hTI : TupAt s.heap TI (is.map Value.ref)) (hTO : TupAt s.heap TO olds) (ha : AllAt s.heap k is r) (hy : Items k r ys) (hlo : olds.length = is.length) (hsm : is.length ≤ 1000)
    (hnd : is.Nodup) (hzi : z ∉ is) (hTOi : TO ∉ is) (hTIi : TI ∉ is) (hzT : z ≠ TO) (hzI : z ≠ TI) (hTT : TI ≠ TO) (hs : ∀ q ∈ r, q.2.1 ≠ TO ∧ q.2.1 ≠ z ∧ q.2.1 ∉ is)
    (hQ : ∀ h' f1 b1 olds', Own f1 → ZipB h' z TI TO f1 b1 → olds'.length = is.length → TupAt h' TO olds' → AllAt h' (k + 1) is r → TupAt h' s.heap.objs.size ys →
      (∀ c o, c ≠ z → c ≠ TO → c ∉ is → s.heap.get? c = some o → h'.get? c = some o) → Q (some (.ref s.heap.objs.size)) { s with heap := h' }) : wpAny (model prog w) A (pyNext (.ref z)) Q E s := by
  have ty : s.TypeIs (.ref z) "zip" := ⟨_, hz, rfl⟩
  unfold pyNext
  refine wpAny_bind (wpAny_attempt (wpAny_callSpecial?_slot (name := Str.ofString "__next__") ty F.slot_zip_next ?_))
  exact wpAny_call_entry F.slot_zip_next ty F.entry_zip_next (turn_item ow hne hz hTI hTO ha hy hlo hsm hnd hzi hTOi hTIi hzT hzI hTT hs fun h' f1 b1 o1 c1 c2 c3 c4 c5 c6 c7 => wpAny_pure (hQ h' f1 b1 o1 c1 c2 c3 c4 c5 c6 c7)) (F.args_zip_next_1 _)
theorem nextB_stop {z TI TO : Addr} {f0 : Value} {b : Bool} {is : List Addr} {r : List Src} {k : Nat} {olds : List Value} {Q : Option Value → Shared → Prop} (hh : A.handled = none) (ow : Own f0) (hne : is ≠ [])
    (hz : ZipB s.heap z TI TO f0 b) (hTI : TupAt s.heap TI (is.map Value.ref)) (hTO : TupAt s.heap TO olds) (ha : AllAt s.heap k is r) (hy : ∃ q ∈ r, q.2.2[k]? = none) (hlo : olds.length = is.length) (hsm : is.length ≤ 1000)
    (hnd : is.Nodup) (hzi : z ∉ is) (hTOi : TO ∉ is) (hzT : z ≠ TO) (hs : ∀ q ∈ r, q.2.1 ≠ TO ∧ q.2.1 ≠ z ∧ q.2.1 ∉ is)
    (hQ : ∀ h', (∀ c o, c ≠ z → c ≠ TO → c ∉ is → s.heap.get? c = some o → h'.get? c = some o) → Q none { s with heap := h' }) : wpAny (model prog w) A (pyNext (.ref z)) Q E s := by
  have ty : s.TypeIs (.ref z) "zip" := ⟨_, hz, rfl⟩
  unfold pyNext
  refine wpAny_bind (wpAny_attempt (wpAny_callSpecial?_slot (name := Str.ofString "__next__") ty F.slot_zip_next ?_))
  refine wpAny_call_entry F.slot_zip_next ty F.entry_zip_next (turn_stop hh ow hne hz hTI hTO ha hy hlo hsm hnd hzi hTOi hzT hs fun h' e hk he => ?_) (F.args_zip_next_1 _)
  obtain ⟨o, ho, hc⟩ := he
  exact wpAny_bind (wpAny_isInstance (T := "StopIteration") (b := true) ⟨o, ho, hc⟩ isSubtype_stop (wpAny_pure (hQ _ hk)))
theorem iterB {z TI TO : Addr} {f0 : Value} {b : Bool} {Q : Value → Shared → Prop} (hz : ZipB s.heap z TI TO f0 b) (h : Q (.ref z) s) : wpAny (model prog w) A (pyIter (.ref z)) Q E s := by
  have ty : s.TypeIs (.ref z) "zip" := ⟨_, hz, rfl⟩
  refine wpAny_pyIter_slot ty F.slot_zip_iter (wpAny_call_entry F.slot_zip_iter ty F.entry_zip_iter ?_ (F.args_zip_iter_1 _))
  show wpAny _ _ (ret (.ref z)) _ _ s
  exact wpAny_pure ⟨_, rfl, "zip", _, ty, F.slot_zip_next.lookup, h⟩
end
def ZTb (z TI TO : Addr) (is : List Addr) (src : List (Bool × Addr)) (i : Nat) (h : Heap) : Prop :=
  (∃ f0 b, Own f0 ∧ ZipB h z TI TO f0 b) ∧ TupAt h TI (is.map Value.ref) ∧ (∃ olds : List Value, olds.length = is.length ∧ TupAt h TO olds) ∧ ItsAt h i is src
/-- zip over any number of sequences, each tuple kept by a name -/
theorem turn_b {P : Program} {w : World} {K : PySem.W.Frag} {x : Str} {xp : Pos} {z TI TO : Addr} {is : List Addr} {src : List (Bool × Addr)} (D : Apart z TI TO is src) :
    Turn P w K (.Name x xp) (Itn K src) (z :: TI :: TO :: is) z (ZTb z TI TO is src) where
  mem := List.mem_cons_self
  obj := fun i h st c hc => by
    obtain ⟨⟨f0, b, _, hz⟩, hTI, ⟨olds, _, hTO⟩, hi⟩ := st
    rcases List.mem_cons.mp hc with rfl | hc
    · exact ⟨_, hz, fun v q => nomatch q⟩
    rcases List.mem_cons.mp hc with rfl | hc
    · exact ⟨_, hTI, fun v q => nomatch q⟩
    rcases List.mem_cons.mp hc with rfl | hc
    · exact ⟨_, hTO, fun v q => nomatch q⟩
    obtain ⟨o, l, e, d⟩ := hi.ob c hc
    exact ⟨o, e, fun v q => by rw [d] at q; cases q⟩
  keep := fun i h h' st k => by
    obtain ⟨⟨f0, b, ow, hz⟩, hTI, ⟨olds, hl, hTO⟩, hi⟩ := st
    exact ⟨⟨f0, b, ow, k z (by simp) _ hz⟩, k TI (by simp) _ hTI, ⟨olds, hl, k TO (by simp) _ hTO⟩, hi.at fun j hj o e => k j (by simp [hj]) o e⟩
  item := by
    intro X hP hw hK hc i pins s σ H E I hf st hg
    subst hP hw hK
    obtain ⟨⟨f0, b, ow, hz⟩, hTI, ⟨olds, hol, hTO⟩, hi⟩ := st
    obtain ⟨ys, hrow⟩ := hg
    obtain ⟨r, us, e1, e2, e3, e4⟩ := row_ob I hrow
    subst e1
    have hzl : z < s.heap.objs.size := Heap.lt_size hz
    have ha := allAt_of hi e2
    have hys : ys.length ≤ 1000 := by rw [e4.length, ← e3.len, ← ha.len]; exact D.sm
    have hpart : ∀ c ∈ z :: TI :: TO :: is, c < s.heap.objs.size := fun c hcm => by
      rcases List.mem_cons.mp hcm with rfl | hcm
      · exact hzl
      rcases List.mem_cons.mp hcm with rfl | hcm
      · exact Heap.lt_size hTI
      rcases List.mem_cons.mp hcm with rfl | hcm
      · exact Heap.lt_size hTO
      exact ha.lt c hcm
    refine nextB_item ow D.ne hz hTI hTO ha e3 hol D.sm D.nd D.zi D.oi D.ti D.zT D.zI D.TT (fun q hq => ⟨(D.sr _ (bare_mem hq)).1, (D.sr _ (bare_mem hq)).2.1, (D.sr _ (bare_mem hq)).2.2.2⟩) fun g f1 b1 olds' ow1 z1 ol1 TO1 a1 T1 k1 => ?_
    refine ⟨_, rfl, ?_⟩
    unfold letOwnedTupleGo
    refine wpAny_pure ?_
    have new : ObjOk X.prog X.w (upd H s.heap.objs.size (.tup ys)) g s.heap.objs.size (.tup ys) := ⟨Nat.le_trans hys (by decide), us, e4, ⟨_, T1, rfl, _, rfl⟩⟩
    have I1 : Inv X pins σ (upd H s.heap.objs.size (.tup ys)) { s with heap := g } :=
      I.turnedNew (t' := s.toks) (ch := z :: TI :: TO :: is) (fun c o hb q => k1 c o (fun q' => hb (by simp [q'])) (fun q' => hb (by simp [q'])) (fun q' => hb (by simp [q'])) q) hf (Nat.le_refl _) new
    refine ⟨.ref s.heap.objs.size, _, I1, rfl, ⟨_, ys, rfl, I.hok.fresh (Nat.le_refl _), rfl, fun zs hzs => row_inj I hrow hzs⟩, ⟨⟨f1, b1, ow1, z1⟩, ?_, ⟨olds', ol1, TO1⟩, a1.its⟩, fun c hcm => ?_⟩
    · exact k1 _ _ D.zI.symm D.TT D.ti hTI
    · rw [upd_ne (Nat.ne_of_lt (hpart c hcm))]
      exact (hf c hcm).1
  done := by
    intro X hP hw hK hc i pins s σ H E I hf st hg
    subst hP hw hK
    obtain ⟨⟨f0, b, ow, hz⟩, hTI, ⟨olds, hol, hTO⟩, hi⟩ := st
    obtain ⟨hall, q, hq, xs, hqx, hle⟩ := hg
    obtain ⟨r, e1, e2, e3⟩ := all_ob I hall
    subst e1
    have ha := allAt_of hi e2
    obtain ⟨p, hp, hps⟩ := e3 q hq xs hqx
    exact nextB_stop (I.ok.hd hc) ow D.ne hz hTI hTO ha ⟨p, hp, by rw [Array.getElem?_eq_none_iff]; omega⟩ hol D.sm D.nd D.zi D.oi D.zT (fun q hq => ⟨(D.sr _ (bare_mem hq)).1, (D.sr _ (bare_mem hq)).2.1, (D.sr _ (bare_mem hq)).2.2.2⟩)
      fun g hk => ⟨rfl, I.turnedL (t' := s.toks) (ch := z :: TI :: TO :: is) (fun c o hb q => hk c o (fun q' => hb (by simp [q'])) (fun q' => hb (by simp [q'])) (fun q' => hb (by simp [q'])) q) hf⟩
  self := fun A i s Q E st h => let ⟨⟨_, _, _, hz⟩, _⟩ := st; iterB hz h
section
variable {X : Cx}
theorem zip_comeB {pins : List (Addr × Obj)} {σ : L2.St} {H : Hp} {s : Shared} {us : List Value} {R : It → Hp → Prop} {x : Str} {xp : Pos} {E : Value → Shared → Prop} (I : Inv X pins σ H s) {src : List (Bool × Addr)} (rv : Vals (kRefs src) us)
    (h0 : 0 < src.length) (h3 : src.length ≤ 3) (ha : AllSq X.K H src) (q : R (Itn X.K src) H) :
    wpAny (model X.prog X.w) X.A (call (.type "zip") us) (fun v s1 => wpAny (model X.prog X.w) X.A (pyIter v) (PIE X pins σ (.Name x xp) R) E s1) E s := by
  obtain ⟨r, e1, e2⟩ := srcs_of I ha
  have e3 := vals_refs rv
  subst e1
  have hl : (bare r).length = r.length := List.length_map ..
  rw [hl] at h0 h3
  have e4 : us = r.map fun q => Value.ref q.2.1 := by rw [e3]; unfold bare; rw [List.map_map]; rfl
  rw [e4]
  refine call_zipN h0 h3 e2 fun g m => wpAny_pyIter_zip m.zr ?_
  have I2 : Inv X pins σ H { s with heap := g } := I.kept (t' := s.toks) m.kp
  refine ⟨_, _, _, _, H, rfl, I2, turn_b (made_apart m e2 h0 (by omega)), ⟨⟨.none, false, .inl rfl, m.zr⟩, m.ti, ⟨_, ?_, m.to⟩, m.all.its⟩, fun c hcm => ?_, q⟩
  · rw [List.length_map, news_len]
  · have hle : s.heap.objs.size ≤ c := by
      rcases List.mem_cons.mp hcm with rfl | hcm
      · exact Nat.le_add_right_of_le (Nat.le_add_right ..)
      rcases List.mem_cons.mp hcm with rfl | hcm
      · exact Nat.le_add_right ..
      rcases List.mem_cons.mp hcm with rfl | hcm
      · exact Nat.le_add_right_of_le (Nat.le_add_right ..)
      exact (news_mem hcm).1
    exact I.fpOk hle (I.hok.fresh hle)
def iZs (K : PySem.W.Frag) (te : TE) : TI := fun σ H R => te σ H fun y H1 => ∃ (a : Addr) (src : List (Bool × Addr)), y = .ref a ∧ (SqT K H1 a (kRefs src) ∨ SqL K H1 a (kRefs src)) ∧ 0 < src.length ∧ src.length ≤ 3 ∧ AllSq K H1 src ∧ R (Itn K src) H1
/-- for x in zip(*rows) -/
theorem pi_zipStar {e : Expr} {te : TE} {p sp pos : Pos} {x : Str} {xp : Pos} (hg : Gl X "zip") (hm : X.mg "zip" = none) (he : PE X e te) (hst : starEach [.Starred e sp] X.env = [(true, eval e X.env)] := by rfl) :
    PI X (.Name x xp) (.Call (.Name "zip" p) [.Starred e sp] [] pos) (iZs X.K te) := by
  refine ⟨fun pins s σ H R I h => ?_⟩
  refine Call_ (ld_blt I hg hm PyProof.Rows.boot_zip (call_zipStar (thn (he.run pins s σ H _ I h) fun v s1 hv => ?_) hst))
  obtain ⟨y, H1, I1, ry, a, src, rfl, hx, h0, h3, hq, q⟩ := hv
  obtain rfl : v = Value.ref a := ry
  exact StX.star_any I1 hx fun us s2 I2 rv => zip_comeB I2 rv h0 h3 hq q
end
end Zs
set_option Elab.async false
set_option linter.all false
set_option maxRecDepth 100000
set_option maxHeartbeats 1000000
namespace En
open PySem PySem.Spec PyProof.Rows L2 Zn
open PySem.Sem (wp)
section
variable {prog : Program} {w : World} {A : Around} {E : Value → Shared → Prop} {s : Shared}
theorem next_item {e it l : Addr} {t : Bool} {i : Nat} {items : Array Value} {x old : Value} {Q : Value → Shared → Prop}
    (he : IsEnum s.heap e it i old) (hit : ItK t s.heap it l i) (hl : SqK t s.heap l items) (hx : items[i]? = some x) (hne : e ≠ it)
    (hQ : ∀ h', IsEnumOut h' e it ((i : Int) + 1) x s.heap.objs.size → ItK t h' it l (i + 1) → h'.get? s.heap.objs.size = some { cls := .type "tuple", data := .seq #[.int i s.toks, x] } →
      (∀ b o, b ≠ e → b ≠ it → s.heap.get? b = some o → h'.get? b = some o) → Q (.ref s.heap.objs.size) { s with heap := h', toks := s.toks + 1 }) :
    wpAny (model prog w) A (Builtin.«enumerate.__next__» ⟨[.ref e], []⟩) (fun fin s' => ∃ v, fin = .done (.ret v) ∧ Q v s') E s := by
  obtain ⟨hp, g, d, tk, os⟩ := s
  show wpAny _ _ (field (.ref e) 2 >>= _) _ _ _
  refine wpAny_bind (wpAny_field he rfl (x := .ref it) rfl ?_)
  refine wpAny_bind (nextOf_item hit hl hx fun g1 it1 sb1 => ?_)
  replace sb1 : Heap.SameBut it hp g1 := sb1
  have e1 : IsEnum g1 e it i old := (sb1.2 e hne).trans he
  show wpAny _ _ (field (.ref e) 3 >>= _) _ _ ⟨g1, g, d, tk, os⟩
  refine wpAny_bind (wpAny_field e1 rfl (x := rawInt i) rfl ?_)
  show wpAny _ _ (field (.ref e) 4 >>= _) _ _ ⟨g1, g, d, tk, os⟩
  refine wpAny_bind (wpAny_field e1 rfl (x := .none) rfl ?_)
  show wpAny _ _ (mkInt i >>= _) _ _ ⟨g1, g, d, tk, os⟩
  refine wpAny_bind (wpAny_mkInt ?_)
  show wpAny _ _ (setField (.ref e) 3 (rawInt ((i : Int) + 1)) >>= _) _ _ ⟨g1, g, d, tk + 1, os⟩
  refine wpAny_bind (wpAny_setField_rec e1 (by simp) fun g2 e2 sb2 => ?_)
  replace sb2 : Heap.SameBut e g1 g2 := sb2
  replace e2 : IsEnum g2 e it ((i : Int) + 1) old := e2
  show wpAny _ _ (setField (.ref e) 4 .none >>= _) _ _ ⟨g2, g, d, tk + 1, os⟩
  refine wpAny_bind (wpAny_setField_rec e2 (by simp) fun g3 e3 sb3 => ?_)
  replace sb3 : Heap.SameBut e g2 g3 := sb3
  replace e3 : IsEnum g3 e it ((i : Int) + 1) old := e3
  show wpAny _ _ (newTuple [.int i tk, x] >>= _) _ _ ⟨g3, g, d, tk + 1, os⟩
  refine wpAny_bind (wpAny_newTuple ?_)
  have e4 : IsEnum (g3.push { cls := .type "tuple", data := .seq #[.int i tk, x] }) e it ((i : Int) + 1) old := Heap.get?_push_of_some _ e3
  have sz3 : g3.objs.size = hp.objs.size := by rw [sb3.1, sb2.1, sb1.1]
  have hel : e < hp.objs.size := Heap.lt_size he
  have it3 : ItK t g3 it l (i + 1) := it1.at fun o q => sb3.extBut _ _ hne.symm (sb2.extBut _ _ hne.symm q)
  generalize eg4 : g3.push { cls := .type "tuple", data := .seq #[.int i tk, x] } = g4 at e4
  have tup4 : g4.get? hp.objs.size = some { cls := .type "tuple", data := .seq #[.int i tk, x] } := by rw [← eg4, ← sz3]; exact Heap.get?_push_size _ rfl
  have up4 : ∀ b o, b ≠ e → b ≠ it → hp.get? b = some o → g4.get? b = some o := fun b o b1 b2 q => by
    rw [← eg4]
    exact Heap.get?_push_of_some _ (sb3.extBut b o b1 (sb2.extBut b o b1 (sb1.extBut b o b2 q)))
  have it4 : ItK t g4 it l (i + 1) := it3.at fun o q => by rw [← eg4]; exact Heap.get?_push_of_some _ q
  show wpAny _ _ (Builtin.SmallTypes.ownedTupleIsFree (.ref e) >>= _) _ _ ⟨g4, g, d, tk + 1, os⟩
  rw [sz3]
  refine wpAny_bind ?_
  unfold Builtin.SmallTypes.ownedTupleIsFree
  refine wpAny_bind (wpAny_field e4 rfl (x := .none) rfl (wpAny_pure ?_))
  simp only [if_true]
  refine wpAny_bind (wpAny_rule ?_)
  refine wpAny_bind (wpAny_field e4 rfl (x := old) rfl ?_)
  refine wpAny_bind (wpAny_setField_rec e4 (by simp) fun g5 e5 sb5 => ?_)
  replace sb5 : Heap.SameBut e g4 g5 := sb5
  replace e5 : IsEnum g5 e it ((i : Int) + 1) x := e5
  show wpAny _ _ (Builtin.SmallTypes.ownedTupleHandOut (.ref e) (.ref hp.objs.size) >>= _) _ _ ⟨g5, g, d, tk + 1, os⟩
  refine wpAny_bind ?_
  unfold Builtin.SmallTypes.ownedTupleHandOut
  refine wpAny_bind (wpAny_setField_rec e5 (by simp) fun g6 e6 sb6 => ?_)
  replace e6 : IsEnumOut g6 e it ((i : Int) + 1) x hp.objs.size := e6
  refine wpAny_setField_rec e6 (by simp) fun g7 e7 sb7 => ?_
  replace e7 : IsEnumOut g7 e it ((i : Int) + 1) x hp.objs.size := e7
  have up : ∀ b o, b ≠ e → g4.get? b = some o → g7.get? b = some o := fun b o b1 q => sb7.extBut _ _ b1 (sb6.extBut _ _ b1 (sb5.extBut _ _ b1 q))
  refine wpAny_bind (wpAny_letGo (wpAny_pure ⟨_, rfl, ?_⟩))
  exact hQ g7 e7 (it4.at fun o q => up it o hne.symm q) (up _ _ (Nat.ne_of_gt hel) tup4) fun b o b1 b2 q => up b o b1 (up4 b o b1 b2 q)
theorem next_stop {e it l : Addr} {t : Bool} {i : Nat} {items : Array Value} {old : Value} {Q : Fin → Shared → Prop} (hh : A.handled = none)
    (he : IsEnum s.heap e it i old) (hit : ItK t s.heap it l i) (hl : SqK t s.heap l items) (hx : items[i]? = none) (hne : e ≠ it)
    (hE : ∀ h' x, (∀ b o, b ≠ e → b ≠ it → s.heap.get? b = some o → h'.get? b = some o) → StopAt h' x → E (.ref x) { s with heap := h' }) :
    wpAny (model prog w) A (Builtin.«enumerate.__next__» ⟨[.ref e], []⟩) Q E s := by
  show wpAny _ _ (field (.ref e) 2 >>= _) _ _ _
  refine wpAny_bind (wpAny_field he rfl (x := .ref it) rfl ?_)
  exact wpAny_bind (nextOf_end hh hit hl hx fun g1 x sb1 hs => hE g1 x (fun b o b1 b2 q => sb1 _ _ b2 q) hs)
theorem pyNext_item {e it l : Addr} {t : Bool} {i : Nat} {items : Array Value} {x old : Value} {Q : Option Value → Shared → Prop}
    (he : IsEnum s.heap e it i old) (hit : ItK t s.heap it l i) (hl : SqK t s.heap l items) (hx : items[i]? = some x) (hne : e ≠ it)
    (hQ : ∀ h', IsEnumOut h' e it ((i : Int) + 1) x s.heap.objs.size → ItK t h' it l (i + 1) → h'.get? s.heap.objs.size = some { cls := .type "tuple", data := .seq #[.int i s.toks, x] } →
      (∀ b o, b ≠ e → b ≠ it → s.heap.get? b = some o → h'.get? b = some o) → Q (some (.ref s.heap.objs.size)) { s with heap := h', toks := s.toks + 1 }) : wpAny (model prog w) A (pyNext (.ref e)) Q E s := by
  have ty : s.TypeIs (.ref e) "enumerate" := ⟨_, he, rfl⟩
  unfold pyNext
  refine wpAny_bind (wpAny_attempt (wpAny_callSpecial?_slot (name := Str.ofString "__next__") ty F.slot_enumerate_next ?_))
  exact wpAny_call_entry F.slot_enumerate_next ty F.entry_enumerate_next (next_item he hit hl hx hne fun h' b1 b2 b3 b4 => wpAny_pure (hQ h' b1 b2 b3 b4)) (F.args_enumerate_next_1 _)
theorem pyNext_stop {e it l : Addr} {t : Bool} {i : Nat} {items : Array Value} {old : Value} {Q : Option Value → Shared → Prop} (hh : A.handled = none)
    (he : IsEnum s.heap e it i old) (hit : ItK t s.heap it l i) (hl : SqK t s.heap l items) (hx : items[i]? = none) (hne : e ≠ it)
    (hQ : ∀ h', (∀ b o, b ≠ e → b ≠ it → s.heap.get? b = some o → h'.get? b = some o) → Q none { s with heap := h' }) : wpAny (model prog w) A (pyNext (.ref e)) Q E s := by
  have ty : s.TypeIs (.ref e) "enumerate" := ⟨_, he, rfl⟩
  unfold pyNext
  refine wpAny_bind (wpAny_attempt (wpAny_callSpecial?_slot (name := Str.ofString "__next__") ty F.slot_enumerate_next ?_))
  refine wpAny_call_entry F.slot_enumerate_next ty F.entry_enumerate_next (next_stop hh he hit hl hx hne fun h' x hk hs => ?_) (F.args_enumerate_next_1 _)
  obtain ⟨o, ho, hc⟩ := hs
  exact wpAny_bind (wpAny_isInstance (T := "StopIteration") (b := true) ⟨o, ho, hc⟩ isSubtype_stop (wpAny_pure (hQ _ hk)))
end
theorem enum_newT (l : Addr) (items : Array Value) (n : Nat) (dct : Option Addr) (sl : Array (Option Value)) :
    Meets (Builtin.«enumerate.__new__» ⟨[.type "enumerate", .ref l], []⟩) (fun _ R s => s.heap.get? l = some { cls := .type "tuple", dict := dct, data := .seq items n, slots := sl } ∧
      R (.ok (.ret (.ref (s.heap.push { cls := .type "tuple_iterator", data := .fields #[.ref l, .int 0 0] }).objs.size)))
        { s with heap := (s.heap.push { cls := .type "tuple_iterator", data := .fields #[.ref l, .int 0 0] }).push { cls := .type "enumerate", data := .fields #[.none, .bool false, .ref s.heap.objs.size, rawInt 0, .none, .none] } }) :=
  .of_wp fun prog w A R s h => by
    obtain ⟨hp, g, d, tk, os⟩ := s
    obtain ⟨hl, h⟩ := h
    have hsub := sub_enumerate
    have hT : Heap.IsTuple (Shared.heap ⟨hp, g, d, tk, os⟩) l items := ⟨_, hl, rfl, n, rfl⟩
    wp_walk using wpAny_loadPart' hl
    refine wpAny_stack_any fun st => wpAny_pure ?_
    split
    · rename_i c _ _ _ _ _
      cases (c == Value.type "enumerate")
      · wp_walk using wpAny_loadPart' hl, wpAny_pyIter_tuple hT
        exact ⟨_, rfl, h⟩
      · wp_walk using wpAny_loadPart' hl, wpAny_pyIter_tuple hT
        exact ⟨_, rfl, h⟩
    · wp_walk using wpAny_loadPart' hl, wpAny_pyIter_tuple hT
      exact ⟨_, rfl, h⟩
section
variable {prog : Program} {w : World} {A : Around} {E : Value → Shared → Prop} {s : Shared}
theorem call_enum {t : Bool} {l : Addr} {items : Array Value} {Q : Value → Shared → Prop} (hl : SqK t s.heap l items)
    (h : ∀ h', IsEnum h' (s.heap.objs.size + 1) s.heap.objs.size 0 .none → ItK t h' s.heap.objs.size l 0 → (∀ b o, s.heap.get? b = some o → h'.get? b = some o) → Q (.ref (s.heap.objs.size + 1)) { s with heap := h' }) :
    wpAny (model prog w) A (call (.type "enumerate") [.ref l]) Q E s := by
  cases t with
  | false => exact call_enumerate_list hl fun h' b1 b2 _ b4 => h h' b1 b2 b4
  | true =>
    obtain ⟨⟨c, dct, dt, sl⟩, ho, hc, n, hd⟩ := hl
    replace hc : c = .type "tuple" := hc
    replace hd : dt = .seq items n := hd
    subst hc hd
    refine callType_new F.called_enumerate (by decide) (F.typeCall_enumerate_1 _) (F.newCall_enumerate_1 _) (fun obj => F.args_object_init_2 obj _) F.entry_enumerate_new (enum_newT l items n dct sl) ⟨ho, ?_⟩
    have z1 : (s.heap.push { cls := .type "tuple_iterator", data := .fields #[.ref l, .int 0 0] }).objs.size = s.heap.objs.size + 1 := Heap.size_push ..
    show _ ∧ _
    rw [z1]
    have he := Heap.get?_push_size (s.heap.push { cls := .type "tuple_iterator", data := .fields #[.ref l, .int 0 0] }) (o := { cls := .type "enumerate", data := .fields #[.none, .bool false, .ref s.heap.objs.size, rawInt 0, .none, .none] }) rfl
    rw [z1] at he
    exact ⟨⟨_, he, rfl⟩, h _ he ⟨_, Heap.get?_push_of_some _ (Heap.get?_push_size _ rfl), rfl, rfl⟩ fun b o x => Heap.get?_push_of_some _ (Heap.get?_push_of_some _ x)⟩
end
def Ite2 (K : PySem.W.Frag) (t : Bool) (a : Addr) : It :=
  ⟨fun i H => ∃ (xs : List V) (x : V), SqV K H t a xs ∧ xs[i]? = some x, fun i H v H' => ∃ T x, v = .ref T ∧ H T = none ∧ H' = upd H T (.tup [.int (i : Nat), x]) ∧ ∀ xs, SqV K H t a xs → xs[i]? = some x, fun i H => ∃ xs : List V, SqV K H t a xs ∧ xs.length ≤ i⟩
theorem turn_e {P : Program} {w : World} {K : PySem.W.Frag} {elts : List Expr} {kk : Nat} {tpos : Pos} (t : Bool) (a e it : Addr) :
    Turn P w K (.Tuple elts kk tpos) (Ite2 K t a) [e, it] e (fun i h => (∃ old, IsEnum h e it ((i : Nat) : Int) old) ∧ ItK t h it a i ∧ e ≠ it) where
  mem := by simp
  obj := fun i h st b hb => by
    obtain ⟨⟨old, he⟩, hi, _⟩ := st
    obtain ⟨o, ho, _, hd⟩ := hi.rec_
    rcases List.mem_cons.mp hb with rfl | hb
    · exact ⟨_, he, fun v q => nomatch q⟩
    · rw [List.mem_singleton.mp hb]
      exact ⟨o, ho, fun v q => by rw [hd] at q; cases q⟩
  keep := fun i h h' st k => by
    obtain ⟨⟨old, he⟩, hi, hne⟩ := st
    exact ⟨⟨old, k e (by simp) _ he⟩, hi.at fun o q => k it (by simp) o q, hne⟩
  item := by
    intro X hP hw hK hc i pins s σ H E I hf st hg
    subst hP hw hK
    obtain ⟨⟨old, he⟩, hit, hne⟩ := st
    obtain ⟨xs, x, hq, hx⟩ := hg
    obtain ⟨its, rv, p, hz⟩ := sqv_ob I hq
    obtain ⟨u, hu, ru⟩ := rv.get hx
    have hel : e < s.heap.objs.size := Heap.lt_size he
    have hil : it < s.heap.objs.size := hit.lt
    refine pyNext_item he hit p (x := u) (by simpa using hu) hne fun g eo it1 tp k1 => ?_
    refine ⟨_, rfl, wpAny_letOwnedTupleGo_enum (s := { s with heap := g, toks := s.toks + 1 }) eo fun g2 e2 sb => ?_⟩
    have tp2 : g2.get? s.heap.objs.size = some { cls := .type "tuple", data := .seq #[.int i s.toks, u] } := (sb.2 _ (Nat.ne_of_gt hel)).trans tp
    have new : ObjOk X.prog X.w (upd H s.heap.objs.size (.tup [.int (i : Nat), x])) g2 s.heap.objs.size (.tup [.int (i : Nat), x]) :=
      ⟨by show 2 ≤ sizeLine; decide, [.int i s.toks, u], .cons ⟨_, rfl⟩ (.cons ru .nil), ⟨_, tp2, rfl, _, rfl⟩⟩
    have I1 : Inv X pins σ (upd H s.heap.objs.size (.tup [.int (i : Nat), x])) { s with heap := g2, toks := s.toks + 1 } :=
      I.turnedNew (ch := [e, it]) (fun b ob hb q => (sb.2 b (fun z => hb (by simp [z]))).trans (k1 b ob (fun z => hb (by simp [z])) (fun z => hb (by simp [z])) q)) hf (Nat.le_refl _) new
    refine ⟨.ref s.heap.objs.size, _, I1, rfl, ⟨_, x, rfl, I.hok.fresh (Nat.le_refl _), rfl, fun ys hy => by rw [sqv_inj I hy hq]; exact hx⟩, ⟨⟨u, ?_⟩, it1.at fun o q => (sb.2 it (Ne.symm hne)).trans q, hne⟩, fun b hb => ?_⟩
    · rw [show ((i + 1 : Nat) : Int) = (i : Int) + 1 by omega]
      exact e2
    · have hb' : b < s.heap.objs.size := by
        rcases List.mem_cons.mp hb with rfl | hb
        · exact hel
        · rw [List.mem_singleton.mp hb]; exact hil
      rw [upd_ne (Nat.ne_of_lt hb')]
      exact (hf b hb).1
  done := by
    intro X hP hw hK hc i pins s σ H E I hf st hg
    subst hP hw hK
    obtain ⟨⟨old, he⟩, hit, hne⟩ := st
    obtain ⟨xs, hq, hx⟩ := hg
    obtain ⟨its, rv, p, hz⟩ := sqv_ob I hq
    have hl := rv.length
    exact pyNext_stop (I.ok.hd hc) he hit p (by simp; omega) hne fun g hk => ⟨rfl, I.turnedL (t' := s.toks) (ch := [e, it]) (fun b o hb q => hk b o (fun z => hb (by simp [z])) (fun z => hb (by simp [z])) q) hf⟩
  self := fun A i s Q E st h => let ⟨⟨_, he⟩, _⟩ := st; wpAny_pyIter_enum he h
def iEn (K : PySem.W.Frag) (ta : TA) : TI := fun σ H R => ta σ H fun vs H1 => ∃ t a xs, vs = [.ref a] ∧ SqV K H1 t a xs ∧ R (Ite2 K t a) H1
section
variable {X : Cx}
/-- for i, x in enumerate(xs), a list or a tuple -/
theorem pi_enumS {e : Expr} {ta : TA} {p pos tpos : Pos} {elts : List Expr} {kk : Nat} (hg : Gl X "enumerate") (hm : X.mg "enumerate" = none) (ha : PA X [e] ta)
    (hs : starEach [e] X.env = (false, eval e X.env) :: starEach [] X.env := by rfl) (hpl : (backTo pos (starEach [] X.env)).any (·.1) = false := by rfl) :
    PI X (.Tuple elts kk tpos) (.Call (.Name "enumerate" p) [e] [] pos) (iEn X.K ta) := by
  refine ⟨fun pins s σ H R I h => ?_⟩
  refine Call_ (ld_blt I hg hm PyProof.Rows.boot_enumerate (PyProof.Rows.callWith_type1 (thn (ha.run pos pins s σ H _ I h) fun us s1 ⟨vs, H1, I1, r1, q1⟩ => ?_) hs hpl))
  obtain ⟨t, a, xs, rfl, hq, q⟩ := q1
  obtain ⟨u, rfl, ru⟩ := vals1 r1
  cases (show u = Value.ref a from ru)
  obtain ⟨its, rv, p', hz⟩ := sqv_ob I1 hq
  refine call_enum p' fun g he hit hk => wpAny_pyIter_enum he ?_
  refine ⟨s1.heap.objs.size + 1, [s1.heap.objs.size + 1, s1.heap.objs.size], _, _, H1, rfl, I1.kept (t' := s1.toks) hk, turn_e t a (s1.heap.objs.size + 1) s1.heap.objs.size, ⟨⟨.none, he⟩, hit, Nat.succ_ne_self _⟩, fun b hb => ?_, q⟩
  have hle : s1.heap.objs.size ≤ b := by
    rcases List.mem_cons.mp hb with rfl | hb
    · exact Nat.le_succ _
    · rw [List.mem_singleton.mp hb]; exact Nat.le_refl _
  exact I1.fpOk hle (I1.hok.fresh hle)
end
end En
set_option Elab.async false
set_option linter.all false
set_option maxRecDepth 100000
set_option maxHeartbeats 1000000
namespace Gd
open PySem PySem.Spec PyProof.Rows L2
def Still (A : Around) : Prop := A.guards = some []
structure FnG (P : Program) (w : World) (K : PySem.W.Frag) (mg : Str → Option Value) (base : Heap) (CX : CXT) (k : Nat) (f : Addr) (fd : FuncData) (ps : List Str) (sp : Sp) : Prop where
  len : ∀ vs H Q E, sp vs H Q E → vs.length = ps.length
  run : ∀ (A : Around) (outer : List Env) (s : Shared) (H : Hp) (ar : Args) (us : List Value) (vs : List V) (Q : VK) (E : XK), Still A → Room k A → Env0 P w K mg base A outer s H → BindsTo s fd ar (ps.zip us) → Vals vs us → sp vs H Q E →
    codeAny (model P w) A (.call (.ref f) ar) (CR CX outer P w H s Q E) s
section
variable {P : Program} {w : World} {K : PySem.W.Frag} {mg : Str → Option Value} {base : Heap}
theorem fnG_of {CX : CXT} {k : Nat} {f : Addr} {nm qual : Str} {pa : Arguments} {bd : List Stmt} {sc : Scope} {dV kV doc pm cdv ct oc : Value} {an od : Option Addr}
    {osl : Array (Option Value)} {N ps : List Str} {sp : Sp} (hlk : K.lookup f = some ⟨oc, od, .func (PySem.W.fnOf nm qual pa bd sc dV kV doc pm an cdv ct), osl⟩) (hco : PySem.W.codeIn K cdv qual = true) (S : FnScope N ps sc)
    (len : ∀ vs H Q E, sp vs H Q E → vs.length = ps.length)
    (hb : ∀ (A : Around) (outer : List Env) (s : Shared) (H : Hp) (vs : List V) (Q : VK) (E : XK), Still A → Room k (A.deeper (envOfC qual sc s.heap.objs.size f cdv)) → sp vs H Q E →
      ∃ t, PSs (cxOf CX P w K mg base N qual sc f cdv A outer s H E) bd t ∧ t { nx := fun _ H2 => Q .non H2, rt := Q } (start N vs) H) :
    FnG P w K mg base CX (k + 1) f (PySem.W.fnOf nm qual pa bd sc dV kV doc pm an cdv ct) ps sp := by
  refine ⟨len, fun A outer s H ar us vs Q E hst room e0 bind rv hsp => ?_⟩
  have hlen := len vs H Q E hsp
  have inK : K.In s.heap := e0.mod.kin.keeps fun b o e => (e0.bs b o e).1
  have noLim : s.heap.NoLimit := e0.mod.nolimit.keeps fun b o e => (e0.bs b o e).1
  have kinds : ∀ y ∈ ps.zip us, sc.names.lookup y.1 = some .local ∨ (sc.names.lookup y.1 = some .cell ∧ ((cellsFrom (s.heap.objs.size + 1) sc.names []).lookup y.1).isSome = true) := by
    rintro ⟨n, v⟩ hy
    rcases S.par n (List.of_mem_zip hy).1 with q | q
    · exact .inl q
    · exact .inr ⟨q, PySem.W.cellsFrom_some _ _ _ (.inl q)⟩
  refine codeAny_call_function room.depth (inK f _ hlk) rfl S.co S.gen rfl (PySem.W.codeRec_of inK hco) (bind _ _ _ _ ?_)
  refine wpAny_newFunctionEnv_cells S.kind kinds fun env henv s2 inc => ?_
  subst henv
  refine ⟨noLim.keeps inc.toInCall.keep, codeAny_func ?_⟩
  obtain ⟨t, der, rd⟩ := hb A outer s H vs Q E hst (room.deeper _) hsp
  have J0 : Inv (cxOf CX P w K mg base N qual sc f cdv A outer s H E) [] (start N vs) H s2 := inv_start S room.hd e0 hlen rv inc
  refine wpAny_mono (der.run [] s2 (start N vs) H _ J0 rd) (fun fl s3 hfl => ?_) fun e s3 he => he
  have out : ∀ {σ2 : L2.St} {H2 : Hp} {v : V} {u : Value}, Inv (cxOf CX P w K mg base N qual sc f cdv A outer s H E) [] σ2 H2 s3 → RelV v u → Q v H2 → CE outer P w H s Q u s3 := by
    intro σ2 H2 v u J r q
    exact ⟨v, H2, J.os, J.bare, J.base, J.hok, r, q⟩
  cases fl with
  | ret u =>
    obtain ⟨v, σ2, H2, J, r, q⟩ := hfl
    exact out J r q
  | next =>
    obtain ⟨σ2, H2, J, q⟩ := hfl
    exact out (v := V.non) (u := Value.none) J rfl q
  | brk =>
    obtain ⟨_, _, _, no⟩ := hfl
    exact no.elim
  | cont =>
    obtain ⟨_, _, _, no⟩ := hfl
    exact no.elim
theorem okG {x qual : Str} {st : Stmt} {f : Addr} {fd : FuncData} {N ps : List Str} {k : Nat} {sp : Sp} (F : Fun K x qual st f fd) (S : FnScope N ps (defScope st)) (len : ∀ vs H Q E, sp vs H Q E → vs.length = ps.length)
    (hb : ∀ (cdv : Value) (A : Around) (outer : List Env) (s : Shared) (H : Hp) (vs : List V) (Q : VK) (E : XK), Still A → Room k (A.deeper (envOfC qual (defScope st) s.heap.objs.size f cdv)) → sp vs H Q E →
      ∃ t, PSs (cxOf CX0 P w K mg base N qual (defScope st) f cdv A outer s H E).nox (defBody st) t ∧ t { nx := fun _ H2 => Q .non H2, rt := Q } (start N vs) H) : FnG P w K mg base CX0 (k + 1) f fd ps sp := by
  obtain ⟨oc, od, kV, doc, pm, an, cdv, ct, osl, rfl, hlk, hco⟩ := F.ex
  refine fnG_of hlk hco S len fun A outer s H vs Q E hst room hsp => ?_
  obtain ⟨t, der, rd⟩ := hb cdv A outer s H vs Q E hst room hsp
  exact ⟨t, der.nox, rd⟩
end
section
variable {X : Cx} {CX : CXT} {k : Nat} {f : Addr} {fd : FuncData} {ps : List Str} {sp : Sp} {ds : List Value} {dvs : List V} {E : XK} {x : Str} {e : Expr} {es : List Expr} {t : TA} {p pos : Pos}
theorem runG {pins : List (Addr × Obj)} {σ : L2.St} {H : Hp} {s : Shared} {Q : VK} {us : List Value} {vs : List V} (F : FnG X.prog X.w X.K X.mg X.base CX k f fd ps sp) (hst : Still X.A) (room : Room k X.A) (hb : Binds X.K fd ps ds) (hd : Vals dvs ds) (hx : Passes CX X E)
    (I : Inv X pins σ H s) (rv : Vals vs us) (h : sp (vs ++ dvs) H Q E) : wpAny (model X.prog X.w) X.A (call (.ref f) us) (EP X pins σ Q) X.xe s := by
  have both : Vals (vs ++ dvs) (us ++ ds) := rv.append hd
  have hl : (us ++ ds).length = ps.length := by rw [← both.length]; exact F.len _ _ _ _ h
  refine wpAny_call (codeAny_mono (F.run X.A X.stack s H ⟨us, []⟩ (us ++ ds) (vs ++ dvs) Q E hst room I.env0 (hb s us I.kIn hl) both h) fun r s2 hq => ?_)
  cases r with
  | error er => exact hx pins σ H s er s2 I hq
  | ok fl =>
    cases fl with
    | ret u => exact I.after hq
    | next => exact (show False from hq).elim
    | brk => exact (show False from hq).elim
    | cont => exact (show False from hq).elim
theorem pe_callG (F : FnG X.prog X.w X.K X.mg X.base CX k f fd ps sp) (hst : Still X.A) (room : Room k X.A) (hg : Gl X x) (hm : X.mg x = some (.ref f)) (hk : PySem.W.keepIn X.K (.ref f) = true) (hb : Binds X.K fd ps ds) (hd : Vals dvs ds) (hx : Passes CX X E)
    (ha : PA X (e :: es) t) (hdb : (x == ("__debug__" : Str)) = false := by decide) (he : starEach (e :: es) X.env = (false, eval e X.env) :: starEach es X.env := by rfl) (hpl : (backTo pos (starEach es X.env)).any (·.1) = false := by rfl) :
    PE X (.Call (.Name x p) (e :: es) [] pos) (tCall sp dvs E t) := by
  refine ⟨fun pins s σ H Q I h => wpAny_Call_Name_kw (ld_glob I hg hm ?_ hdb)⟩
  refine PySem.W.callWith_K (h₀ := X.base) I.ok.mod.kin hk (thn (ha.run pos pins s σ H _ I h) fun us s1 ⟨vs, H1, I1, rv, q⟩ => ⟨I1.kIn, ?_⟩) he hpl
  exact runG F hst room hb hd hx I1 rv q
end
theorem lawG {P : Program} {w : World} {K : PySem.W.Frag} {mg mb : Str → Option Value} {k : Nat} {fa a : Addr} {fd : FuncData} {x : Str} {sp : Sp} {s₁ : Shared} {vs : List Value} {ns : List Int}
    (inK : K.In s₁.heap) (hns : s₁.heap.Ns mainGlobals mg) (hbn : s₁.heap.Ns builtinsNs mb) (hbb : ∀ x : Str, x ≠ "__name__" → mb x = bootBuiltins x) (hlim : s₁.heap.NoLimit) (hgen : s₁.gens = #[])
    (ha : s₁.heap.get? a = some { cls := .type "list", data := .seq vs.toArray }) (hi : IntsAre vs ns) (hl : ns.length ≤ sizeLine) (room : Room k callerA)
    (F : ∀ base : Heap, K.In base → base.Ns mainGlobals mg → FnG P w K mg base CX0 k fa fd [x] sp) (hbind : ∀ (s : Shared) (u : Value), BindsTo s fd ⟨[u], []⟩ [(x, u)])
    (hsp : ∀ H : Hp, Only H → SqL K H a (ns.map V.int) → sp [.ref a] H (fun v _ => v = .bl true) fun _ _ _ => False) :
    codeAny (model P w) callerA (.call (.ref fa) ⟨[.ref a], []⟩) (fun r s2 => r = .ok (.ret (.bool true)) ∧ OldK s₁.heap s2.heap ∧ s2.os = s₁.os ∧ AllBare s2.gens) s₁ := by
  have rv := vals_ints hi
  have lV := hi.length
  have main : ∀ H : Hp, Only H → SqL K H a (ns.map V.int) → HOk P w H s₁.heap → (∀ b, H b ≠ none → b = a) → (H a ≠ none → K.lookup a = none) →
      codeAny (model P w) callerA (.call (.ref fa) ⟨[.ref a], []⟩) (fun r s2 => r = .ok (.ret (.bool true)) ∧ OldK s₁.heap s2.heap ∧ s2.os = s₁.os ∧ AllBare s2.gens) s₁ := by
    intro H only sq hok justA notK
    have isA : ∀ {b : Addr} {u : HO}, H b = some u → b = a := fun {b u} q => justA b (by rw [q]; simp)
    have dictFree : ∀ {b : Addr} {o : Obj} {es : Array DictEntry} {ep : Nat}, s₁.heap.get? b = some o → o.data = .dict es ep → H b = none := by
      intro b o es ep e d
      cases q : H b with
      | none => rfl
      | some u =>
        have eb := isA q
        subst eb
        rw [ha] at e; cases e
        have bad : Data.seq vs.toArray _ = Data.dict es ep := d
        cases bad
    have under : ∀ {b : Addr} {m : Str → Option Value}, s₁.heap.Ns b m → (hidT s₁.heap H).Ns b m := by
      rintro b m ⟨o, es, ep, e, d, more⟩
      exact ⟨o, es, ep, hidT_get e (dictFree e d), d, more⟩
    have inB : K.In (hidT s₁.heap H) := by
      intro b o e
      refine hidT_get (inK b o e) ?_
      cases q : H b with
      | none => rfl
      | some u =>
        have eb := isA q
        subst eb
        rw [notK (by rw [q]; simp)] at e; cases e
    have modB : Mod K mg (hidT s₁.heap H) := by
      obtain ⟨mc, c1, c2⟩ := hlim
      exact ⟨inB, under hns, ⟨mb, under hbn, hbb⟩, mc, under c1, c2⟩
    have env0 : Env0 P w K mg (hidT s₁.heap H) callerA [] s₁ H := by
      refine ⟨rfl, modB, fun b o e => of_hidT e, Nat.le_of_eq (hidT_size _ _), trivial, fun b hb => ?_, hok, .of_eq hgen⟩
      cases (show b ∈ ([] : List Addr) from hb)
    refine codeAny_mono ((F _ inB (under hns)).run callerA [] s₁ H ⟨[.ref a], []⟩ [.ref a] [.ref a] _ _ rfl room env0 (hbind s₁ (.ref a)) (.cons rfl .nil) (hsp H only sq)) fun r s2 h => ?_
    cases r with
    | error e => exact (show False from h).elim
    | ok fl =>
      cases fl with
      | next => exact (show False from h).elim
      | brk => exact (show False from h).elim
      | cont => exact (show False from h).elim
      | ret u =>
        obtain ⟨v, H2, sameOs, bareG, un, hok2, ru, qv⟩ := h
        have ev : v = .bl true := qv
        subst ev
        have eu : u = Value.bool true := ru
        subst eu
        refine ⟨rfl, OldK.of_keep ?_, sameOs, bareG⟩
        intro b o e
        cases q : H b with
        | none =>
          refine un.keep b o e q (fun z => ?_) (by simp)
          cases (show b ∈ ([] : List Addr) from z)
        | some u2 =>
          rcases only b with z | ⟨ob, xs, z⟩
          · rw [q] at z; cases z
          · have z2 := un.frzs b ob _ z
            have f1 := (hok b _ z).1
            have f2 := (hok2 b _ z2).1
            rw [e] at f1; cases f1
            exact f2
  cases hk : K.lookup a with
  | some o =>
    have e := inK a o hk
    rw [ha] at e
    cases e
    refine main (fun _ => none) (fun _ => .inl rfl) (.inr ⟨_, vs.toArray, _, hk, rfl, rfl, rfl, ?_, by simpa using rv⟩) (fun b u z => by cases (show (none : Option HO) = some u from z)) (fun b z => (z rfl).elim) fun z => (z rfl).elim
    rw [List.size_toArray, lV]
    exact hl
  | none =>
    have at_ : ∀ b, b = a → (if b = a then some (HO.frz { cls := .type "list", data := .seq vs.toArray } (.lst (ns.map V.int))) else none) = some (HO.frz { cls := .type "list", data := .seq vs.toArray } (.lst (ns.map V.int))) := fun b e => if_pos e
    have off : ∀ b, ¬ b = a → (if b = a then some (HO.frz { cls := .type "list", data := .seq vs.toArray } (.lst (ns.map V.int))) else none) = none := fun b e => if_neg e
    refine main (fun b => if b = a then some (.frz { cls := .type "list", data := .seq vs.toArray } (.lst (ns.map V.int))) else none) (fun b => ?_) (.inl (.inr ⟨_, at_ a rfl⟩)) (fun b u z => ?_) (fun b z => ?_) fun _ => hk
    · by_cases hb : b = a
      · exact .inr ⟨_, _, at_ b hb⟩
      · exact .inl (off b hb)
    · by_cases hb : b = a
      · have z2 := (at_ b hb).symm.trans z
        cases z2
        subst hb
        exact ⟨ha, by rw [List.length_map]; exact hl, vs, _, rv, ha⟩
      · have z2 := (off b hb).symm.trans z
        cases z2
    · by_cases hb : b = a
      · exact hb
      · exact (z (off b hb)).elim
theorem walkG {l : PySem.W.OpenLaw} {n k : Nat} {q : Program} {loose : List Str} {XP : (Str → Option Value) → Heap → Prop} {YP : World → Heap → Prop} {d : DefRec} {K : Params → PySem.W.Frag} {sp : World → Sp} {x : Str}
    (hn : l.most = some n) (hn2 : n ≤ sizeLine) (hdf : d.params.defaults = []) (room : Room k callerA) (hY : ∀ (w : World) (h : Heap), YP w h → (K w.params).In h)
    (F : ∀ (w : World) (mg : Str → Option Value) (fa : Addr) (h : Heap), (K w.params).In h → h.Ns mainGlobals mg → mg d.name = some (.ref fa) →
      ∃ fd : FuncData, (∀ (s : Shared) (u : Value), BindsTo s fd ⟨[u], []⟩ [(x, u)]) ∧
        ∀ base : Heap, (K w.params).In base → base.Ns mainGlobals mg → FnG l.prog w (K w.params) mg base CX0 k fa fd [x] (sp w))
    (hsp : ∀ (w : World) (H : Hp) (a : Addr) (ns : List Int), ns.length ≤ n → Only H → SqL (K w.params) H a (ns.map V.int) → sp w [.ref a] H (fun v _ => v = .bl true) fun _ _ _ => False) :
    PySem.W.WalkO q loose XP YP l.row.toRowW d [] (fun f vs => PySem.call f vs) := by
  refine Att.attach_call hn hdf fun w s₀ s₁ mg mb fa o pm cd doc a vs ns G Y ho hd hcd hmg hobj hints hlen hgen => ?_
  have inK := hY w s₁.heap Y
  obtain ⟨fd, hb, hF⟩ := F w mg fa s₁.heap inK G.T.g hmg
  exact lawG inK G.T.g G.T.b G.T.builtins G.T.nolimit hgen hobj hints (Nat.le_trans hlen hn2) room hF hb fun H hO hS => hsp w H a ns hlen hO hS
end Gd
set_option Elab.async false
set_option linter.all false
set_option maxRecDepth 100000
set_option maxHeartbeats 1000000
namespace Rp
open PySem PySem.Spec PyProof.Rows L2 Gd
mutual
inductive PyV (H : Hp) : V → PyData → Prop
  | non : PyV H .non .none
  | bl (b : Bool) : PyV H (.bl b) (.bool b)
  | int (i : Int) : PyV H (.int i) (.int i)
  | str (x : Str) : PyV H (.str x) (.str x)
  | lst {a : Addr} {xs : List V} {ds : List PyData} : H a = some (.lst xs) → PyVs H xs ds → PyV H (.ref a) (.list ds)
  | tup {a : Addr} {xs : List V} {ds : List PyData} : H a = some (.tup xs) → PyVs H xs ds → PyV H (.ref a) (.tuple ds)
inductive PyVs (H : Hp) : List V → List PyData → Prop
  | nil : PyVs H [] []
  | cons {x : V} {xs : List V} {d : PyData} {ds : List PyData} : PyV H x d → PyVs H xs ds → PyVs H (x :: xs) (d :: ds)
end
section
variable {P : Program} {w : World} {H : Hp} {h : Heap}
mutual
theorem PyV.reads (ok : HOk P w H h) : ∀ {v : V} {d : PyData} {u : Value}, PyV H v d → RelV v u → ∃ as, Reads h u d as
  | _, _, _, .non, r => by cases (show _ = Value.none from r); exact ⟨_, .none⟩
  | _, _, _, .bl b, r => by cases (show _ = Value.bool b from r); exact ⟨_, .bool b⟩
  | _, _, _, .int i, r => by obtain ⟨t, rfl⟩ := r; exact ⟨_, .int i t⟩
  | _, _, _, .str x, r => by obtain ⟨t, rfl⟩ := r; exact ⟨_, .str x t⟩
  | _, _, _, .lst (a := a) e q, r => by
    cases (show _ = Value.ref a from r)
    obtain ⟨_, its, n, rv, o⟩ := ok a _ e
    obtain ⟨as, ra⟩ := PyVs.reads ok q rv
    exact ⟨_, .list o rfl rfl ra⟩
  | _, _, _, .tup (a := a) e q, r => by
    cases (show _ = Value.ref a from r)
    obtain ⟨_, its, rv, o, o1, o2, n, o3⟩ := ok a _ e
    obtain ⟨as, ra⟩ := PyVs.reads ok q rv
    exact ⟨_, .tuple o1 o2 o3 ra⟩
theorem PyVs.reads (ok : HOk P w H h) : ∀ {vs : List V} {ds : List PyData} {us : List Value}, PyVs H vs ds → Vals vs us → ∃ as, ReadsAll h us ds as
  | _, _, _, .nil, .nil => ⟨_, .nil⟩
  | _, _, _, .cons q qs, .cons r rs => by
    obtain ⟨as, h1⟩ := PyV.reads ok q r
    obtain ⟨bs, h2⟩ := PyVs.reads ok qs rs
    exact ⟨_, .cons h1 h2⟩
end
end
mutual
theorem PyV.noDict {H : Hp} : ∀ {v : V} {d : PyData}, PyV H v d → d.hasDict = false
  | _, _, .non => by simp only [PyData.hasDict]
  | _, _, .bl _ => by simp only [PyData.hasDict]
  | _, _, .int _ => by simp only [PyData.hasDict]
  | _, _, .str _ => by simp only [PyData.hasDict]
  | _, _, .lst _ q => by simp only [PyData.hasDict]; exact PyVs.noDict q
  | _, _, .tup _ q => by simp only [PyData.hasDict]; exact PyVs.noDict q
theorem PyVs.noDict {H : Hp} : ∀ {vs : List V} {ds : List PyData}, PyVs H vs ds → PyData.hasDictAll ds = false
  | _, _, .nil => by simp only [PyData.hasDictAll]
  | _, _, .cons q qs => by simp only [PyData.hasDictAll, PyV.noDict q, PyVs.noDict qs, Bool.or_self]
end
mutual
theorem PyV.mono {H H' : Hp} (s : Same H H') : ∀ {v : V} {d : PyData}, PyV H v d → PyV H' v d
  | _, _, .non => .non
  | _, _, .bl b => .bl b
  | _, _, .int i => .int i
  | _, _, .str x => .str x
  | _, _, .lst e q => .lst (s _ _ e) (PyVs.mono s q)
  | _, _, .tup e q => .tup (s _ _ e) (PyVs.mono s q)
theorem PyVs.mono {H H' : Hp} (s : Same H H') : ∀ {vs : List V} {ds : List PyData}, PyVs H vs ds → PyVs H' vs ds
  | _, _, .nil => .nil
  | _, _, .cons q qs => .cons (PyV.mono s q) (PyVs.mono s qs)
end
/-- a dict of ints and texts to scalars -/
def scalD : V → Option PyData
  | .non => some .none
  | .bl b => some (.bool b)
  | .int i => some (.int i)
  | .str x => some (.str x)
  | _ => none
/-- the size of what repr gives -/
structure Fit (d : PyData) : Prop where
  sh : d.showable = true
  dp : d.depth ≤ 20
  sz : d.shown.length ≤ sizeLine
def rRep : List V → Hp → VK → Prop := fun xs H Q => ∃ v d, xs = [v] ∧ PyV H v d ∧ Fit d ∧ Q (.str d.shown) H
section
variable {X : Cx} {k : Nat}
theorem call_rep (hst : Still X.A) (room : Room k X.A) : CallR X (.builtin "repr") rRep := by
  intro pins s σ H xs us Q I r h
  obtain ⟨v, d, rfl, pv, ⟨sh, dp, sz⟩, q⟩ := h
  obtain ⟨u, rfl, rv⟩ := vals1 r
  cases pv with
  | non =>
    cases (show u = Value.none from rv)
    simp only [PyData.shown] at q
    exact PySem.P.repr_of_none ⟨.str _, H, I.tok _, ⟨_, rfl⟩, q⟩
  | bl b =>
    cases (show u = Value.bool b from rv)
    simp only [PyData.shown] at q
    exact PySem.P.repr_of_bool ⟨.str _, H, I.tok _, ⟨_, rfl⟩, q⟩
  | int i =>
    obtain ⟨t, rfl⟩ := rv
    simp only [PyData.shown] at q
    simp only [PyData.showable, decide_eq_true_eq] at sh
    exact PySem.P.repr_of_int sh ⟨.str _, H, I.tok _, ⟨_, rfl⟩, q⟩
  | str x =>
    obtain ⟨t, rfl⟩ := rv
    simp only [PyData.shown] at q sz
    exact PySem.P.repr_of_str ⟨.str _, H, I.tok _, ⟨_, rfl⟩, q⟩ sz
  | lst e p =>
    obtain ⟨as, rd⟩ := PyV.reads I.hok (PyV.lst e p) rv
    cases (show u = Value.ref _ from rv)
    refine repr_of_reads' rd sh (PyData.noDict_hsm (PyV.noDict (PyV.lst e p))) hst ?_ (fun _ _ e => e) (fun h2 t tk kp => ?_) sz
    · have := room.un
      omega
    · exact ⟨.str _, H, I.kept (t' := tk) kp, ⟨_, rfl⟩, q⟩
  | tup e p =>
    obtain ⟨as, rd⟩ := PyV.reads I.hok (PyV.tup e p) rv
    cases (show u = Value.ref _ from rv)
    refine repr_of_reads' rd sh (PyData.noDict_hsm (PyV.noDict (PyV.tup e p))) hst ?_ (fun _ _ e => e) (fun h2 t tk kp => ?_) sz
    · have := room.un
      omega
    · exact ⟨.str _, H, I.kept (t' := tk) kp, ⟨_, rfl⟩, q⟩
end
def keyD : Key → PyData
  | .inl i => .int i
  | .inr x => .str x
/-- a dict with scalars alone -/
inductive Flat : List (Key × V) → List (PyData × PyData) → Prop
  | nil : Flat [] []
  | cons {k : Key} {v : V} {d : PyData} {kvs : List (Key × V)} {r : List (PyData × PyData)} : scalD v = some d → Flat kvs r → Flat ((k, v) :: kvs) ((keyD k, d) :: r)
theorem read_key {h : Heap} {k : Key} {u : Value} (e : keyIs k u = true) : Reads h u (keyD k) [] := by
  rcases keyIs_shape e with ⟨i, t, rfl, rfl⟩ | ⟨x, t, rfl, rfl⟩
  · exact .int i t
  · exact .str x t
theorem read_scal {h : Heap} {v : V} {u : Value} {d : PyData} (e : scalD v = some d) (r : RelV v u) : Reads h u d [] := by
  cases v with
  | non => cases e; cases (show u = Value.none from r); exact .none
  | bl b => cases e; cases (show u = Value.bool b from r); exact .bool b
  | int i => cases e; obtain ⟨t, rfl⟩ := r; exact .int i t
  | str x => cases e; obtain ⟨t, rfl⟩ := r; exact .str x t
  | byt _ => cases e
  | flt _ => cases e
  | ref _ => cases e
  | ty _ => cases e
theorem flat_reads {P : Program} {w : World} {h : Heap} : ∀ {es : List DictEntry} {vs : List (Key × Value)} {kvs : List (Key × V)} {r : List (PyData × PyData)}, Pairs (mixKind P w) es vs → KV kvs vs → Flat kvs r →
    ReadsAll h (es.map (·.key)) (r.map (·.1)) [] ∧ ReadsAll h (es.map (·.val)) (r.map (·.2)) []
  | _, _, _, _, .nil, .nil, .nil => ⟨.nil, .nil⟩
  | _, _, _, _, .cons hk hv hp, .cons hr hrs, .cons hs hf => by
    obtain ⟨a1, a2⟩ := flat_reads (h := h) hp hrs hf
    obtain ⟨e1, e2⟩ := hr
    subst e1
    exact ⟨ReadsAll.cons (as := []) (bs := []) (read_key hk) a1, ReadsAll.cons (as := []) (bs := []) (read_scal hs (by show RelV _ (DictEntry.val _); rw [hv]; exact e2)) a2⟩
def rRepD : List V → Hp → VK → Prop := fun xs H Q => ∃ a kvs r, xs = [.ref a] ∧ H a = some (.dK kvs) ∧ Flat kvs r ∧ Fit (.dict r) ∧ Q (.str (PyData.dict r).shown) H
/-- repr of what is data of any depth, or a dict of scalars -/
def rRepA : List V → Hp → VK → Prop := fun xs H Q => rRep xs H Q ∨ rRepD xs H Q
section
variable {X : Cx} {k : Nat}
theorem call_repA (hst : Still X.A) (room : Room k X.A) : CallR X (.builtin "repr") rRepA := by
  intro pins s σ H xs us Q I r h
  rcases h with h | h
  · exact call_rep hst room pins s σ H xs us Q I r h
  · obtain ⟨a, kvs, ds, rfl, ha, hf, ⟨sh, dp, sz⟩, q⟩ := h
    obtain ⟨u, rfl, rv⟩ := vals1 r
    cases (show u = Value.ref a from rv)
    obtain ⟨_, ns, vs, kv, o, es, ep, ho, ex, hd, _, hp, _⟩ := I.hok a _ ha
    obtain ⟨r1, r2⟩ := flat_reads (h := s.heap) hp kv hf
    refine repr_of_reads' (Reads.dict ho ex.1 hd r1 r2) sh (fun _ hm => ?_) hst ?_ (fun _ _ e => e) (fun h2 t tk kp => ?_) sz
    · have e : sysModules = a := by simpa using hm
      rw [← e] at ns
      simp at ns
    · have := room.un
      omega
    · exact ⟨.str _, H, I.kept (t' := tk) kp, ⟨_, rfl⟩, q⟩
end
end Rp
set_option Elab.async false
set_option linter.all false
set_option maxRecDepth 100000
set_option maxHeartbeats 1000000
namespace Dn
open PySem PySem.Spec PyProof.Rows L2 Gd Zn Rp
/-- the pot: two counts -/
def PotOk (H : Hp) (p : Addr) : Prop := ∃ a b : Int, H p = some (.lst [.int a, .int b]) ∧ 0 ≤ a ∧ 0 ≤ b ∧ b < 2 ^ 32
/-- all but the pot stays; the pot stays a pot -/
structure RX (p : Option Addr) (H H' : Hp) : Prop where
  keep : ∀ c o, p ≠ some c → H c = some o → H' c = some o
  pot : ∀ a, p = some a → PotOk H a → PotOk H' a
theorem RX.refl {p : Option Addr} (H : Hp) : RX p H H := ⟨fun _ _ _ e => e, fun _ _ e => e⟩
theorem RX.trans {p : Option Addr} {H H1 H2 : Hp} (a : RX p H H1) (b : RX p H1 H2) : RX p H H2 := ⟨fun c o n e => b.keep c o n (a.keep c o n e), fun q e k => b.pot q e (a.pot q e k)⟩
theorem RX.of {p : Option Addr} {H H' : Hp} (s : Same H H') : RX p H H' := ⟨fun c o _ e => s c o e, fun a _ ⟨x, y, e, r⟩ => ⟨x, y, s a _ e, r⟩⟩
theorem RX.same {H H' : Hp} (s : RX none H H') : Same H H' := fun c o e => s.keep c o (by simp) e
theorem same_new {H : Hp} {p : Addr} {o : HO} (h : H p = none) : Same H (upd H p o) := fun b x e => by rw [upd_ne (ne_of_none e h)]; exact e
theorem RX.new {p : Option Addr} {H : Hp} {a : Addr} {o : HO} (h : H a = none) : RX p H (upd H a o) := .of (same_new h)
theorem PotOk.some_ {H : Hp} {p : Addr} (h : PotOk H p) : H p ≠ none := by
  obtain ⟨a, b, e, _⟩ := h
  rw [e]
  simp
/-- what H did not know may change -/
theorem RX.mut {p : Option Addr} {H H' : Hp} {a : Addr} {o : HO} (s : RX p H H') (h : H a = none) (hp : ∀ q, p = some q → PotOk H q) : RX p H (upd H' a o) := by
  refine ⟨fun c u n e => ?_, fun q e k => ?_⟩
  · rw [upd_ne (ne_of_none e h)]
    exact s.keep c u n e
  · have nq : q ≠ a := fun z => by subst z; exact (hp q e).some_ h
    obtain ⟨x, y, e1, r⟩ := s.pot q e k
    exact ⟨x, y, by rw [upd_ne nq]; exact e1, r⟩
/-- the pot is there, where there is one -/
def Has (p : Option Addr) (H : Hp) : Prop := ∀ q, p = some q → PotOk H q
theorem Has.to {p : Option Addr} {H H' : Hp} (h : Has p H) (s : RX p H H') : Has p H' := fun q e => s.pot q e (h q e)
theorem has_none {H : Hp} : Has none H := fun q e => by cases e
theorem Has.ne {p : Option Addr} {H : Hp} (h : Has p H) {a : Addr} (n : H a = none) : p ≠ some a := fun e => (h a e).some_ n
/-- the heap without the pot -/
def hid (p : Option Addr) (H : Hp) : Hp := fun b => if p = some b then none else H b
theorem hid_at {p : Option Addr} {H : Hp} {a : Addr} (n : p ≠ some a) : hid p H a = H a := if_neg n
theorem hid_le {p : Option Addr} {H : Hp} : Same (hid p H) H := fun b o e => by
  unfold hid at e
  split at e
  · cases e
  · exact e
theorem RX.hid {p : Option Addr} {H H' : Hp} (s : RX p H H') : Same (hid p H) (hid p H') := fun b o e => by
  unfold Dn.hid at e ⊢
  split
  · rename_i q; rw [if_pos q] at e; cases e
  · rename_i q; rw [if_neg q] at e; exact s.keep b o q e
/-- what a comprehension asks of its iterator -/
def LcB (g : TG) (tt : TT) (te : TE) (vs : List Nat) (σ : L2.St) (Q : VK) (J : It) (H1 : Hp) : Prop := ∀ D, H1 D = none → ∃ W : Nat → Nat → Hp → Prop, (∃ m, W 0 m (upd H1 D (.lst []))) ∧ ∀ i m H, W i m H →
  (J.stop i H ∧ Q (.ref D) H) ∨ (J.go i H ∧ ∃ Nx : Hp → Prop, (∀ H', Nx H' → ∃ m', m' < m ∧ W (i + 1) m' H') ∧ ∀ x H', J.yld i H x H' → g x (wipe σ vs) H' fun σ2 H2 => wipe σ2 vs = wipe σ vs ∧ tt σ2 H2 fun b H3 =>
    if b = true then te σ2 H3 fun y H4 => ∃ acc, H4 D = some (.lst acc) ∧ acc.length < sizeLine ∧ Nx (upd H4 D (.lst (acc ++ [y]))) else Nx H3)
/-- [e for .. in J] where the elements are scalars that El tells -/
theorem lc_el {p : Option Addr} {J : It} {g : TG} {te : TE} {vs : List Nat} {σ : L2.St} {H1 : Hp} {Q : VK} (n : Nat) (El : Nat → V → Prop) (hp : Has p H1) (hn : n ≤ 1000)
    (hgo : ∀ i H, i < n → RX p H1 H → J.go i H) (hst : ∀ H, RX p H1 H → J.stop n H)
    (hs : ∀ i x H H' (C : VK), i < n → RX p H1 H → Has p H → J.yld i H x H' → (∀ y H4, RX p H H4 → El i y → C y H4) → g x (wipe σ vs) H' fun σ2 H2 => wipe σ2 vs = wipe σ vs ∧ te σ2 H2 C)
    (hd : ∀ D H xs, H1 D = none → RX p H1 H → H D = some (.lst xs) → xs.length = n → (∀ i v, xs[i]? = some v → El i v) → Q (.ref D) H) :
    LcB g tYes te vs σ Q J H1 := by
  intro D nD
  have nP : p ≠ some D := hp.ne nD
  refine ⟨fun i m H => i ≤ n ∧ m = n - i ∧ RX p H1 H ∧ ∃ xs, H D = some (.lst xs) ∧ xs.length = i ∧ ∀ j v, xs[j]? = some v → El j v, ⟨n, Nat.zero_le _, rfl, RX.new nD, [], upd_same, rfl, fun j v e => by simp at e⟩, ?_⟩
  rintro i m H ⟨hi, rfl, s1, xs, hD, hl, hE⟩
  by_cases hlt : i < n
  · refine .inr ⟨hgo i H hlt s1, fun H' => i + 1 ≤ n ∧ RX p H1 H' ∧ ∃ xs, H' D = some (.lst xs) ∧ xs.length = i + 1 ∧ ∀ j v, xs[j]? = some v → El j v, fun H' h => ⟨n - (i + 1), by omega, h.1, rfl, h.2⟩, fun x H' hy => ?_⟩
    refine hs i x H H' _ hlt s1 (hp.to s1) hy fun y H4 s4 e4 => ?_
    have hD4 := s4.keep D _ nP hD
    have s5 : RX p H1 (upd H4 D (.lst (xs ++ [y]))) := (s1.trans s4).mut nD hp
    refine ⟨xs, hD4, Nat.lt_of_lt_of_le (by omega : xs.length < 1001) (by decide), hlt, s5, xs ++ [y], upd_same, by simp [hl], fun j v e => ?_⟩
    by_cases hj : j < xs.length
    · rw [List.getElem?_append_left hj] at e
      exact hE j v e
    · rw [List.getElem?_append_right (by omega)] at e
      have z : j - xs.length = 0 := by
        by_cases q : j - xs.length = 0
        · exact q
        · rw [List.getElem?_eq_none (by simp; omega)] at e; cases e
      rw [z] at e
      cases e
      have : j = i := by omega
      subst this
      exact e4
  · have e : i = n := by omega
    subst e
    exact .inl ⟨hst H s1, hd D H xs nD s1 hD hl hE⟩
/-- the whole comprehension, from what its iterator gives -/
theorem tlc_of {wi : TI} {g : TG} {tt : TT} {te : TE} {vs : List Nat} {σ : L2.St} {H H1 : Hp} {Q : VK} (J : It) (hw : ∀ R : It → Hp → Prop, R J H1 → wi σ H R) (h : LcB g tt te vs σ Q J H1) : tLc wi g tt te vs σ H Q := hw _ h
section
variable {σ : L2.St} {H : Hp} {Q : VK} {te ta : TE} {t : TA} {D : Ends}
theorem r_next (h : D.nx σ H) : tNext D σ H := h
theorem r_nret {rt : VK} {bk ct : L2.St → Hp → Prop} (h : te σ H D.rt) : tNext ⟨tRet te D, rt, bk, ct⟩ σ H := h
theorem r_nseq {t u : TS} {rt : VK} {bk ct : L2.St → Hp → Prop} (h : t { D with nx := u D } σ H) : tNext ⟨tSeq t u D, rt, bk, ct⟩ σ H := h
theorem r_if {c : TT} {t u : TS} (h : c σ H fun b H1 => if b = true then t D σ H1 else u D σ H1) : tIfS c t u D σ H := h
theorem r_not {c : TT} {Q : Bool → Hp → Prop} (h : c σ H fun b H1 => Q (!b) H1) : tNot c σ H Q := h
theorem r_b {Q : Bool → Hp → Prop} (h : te σ H fun x H1 => ∃ c, x = .bl c ∧ Q c H1) : tB te σ H Q := h
theorem r_seq {t u : TS} (h : t { D with nx := u D } σ H) : tSeq t u D σ H := h
theorem r_asg {g : TG} (h : te σ H fun x H1 => g x σ H1 D.nx) : tAsg te g D σ H := h
theorem r_op {r : R2} {ta tb : TE} (h : ta σ H fun x H1 => tb σ H1 fun y H2 => r x y H2 Q) : tOp r ta tb σ H Q := h
theorem r_ret (h : te σ H D.rt) : tRet te D σ H := h
theorem r_cb {r : List V → Hp → VK → Prop} (h : t σ H fun vs H1 => r vs H1 Q) : tCB r t σ H Q := h
theorem r_cons {Q : List V → Hp → Prop} (h : ta σ H fun x H1 => t σ H1 fun xs H2 => Q (x :: xs) H2) : tCons ta t σ H Q := h
end
def Its (t : Bool) (K : PySem.W.Frag) (a : Addr) : It := cond t (Itt K a) (Itl K a)
theorem its_go {t : Bool} {K : PySem.W.Frag} {a : Addr} {H : Hp} {xs : List V} {x : V} {i : Nat} (q : SqV K H t a xs) (e : xs[i]? = some x) : (Its t K a).go i H := by
  cases t with
  | true => exact ⟨xs, x, q, e⟩
  | false => exact ⟨xs, x, q, e⟩
theorem its_stop {t : Bool} {K : PySem.W.Frag} {a : Addr} {H : Hp} {xs : List V} {i : Nat} (q : SqV K H t a xs) (e : xs.length ≤ i) : (Its t K a).stop i H := by
  cases t with
  | true => exact ⟨xs, q, e⟩
  | false => exact ⟨xs, q, e⟩
theorem its_yld {t : Bool} {K : PySem.W.Frag} {a : Addr} {H H' : Hp} {xs : List V} {x : V} {i : Nat} (y : (Its t K a).yld i H x H') (q : SqV K H t a xs) : H' = H ∧ xs[i]? = some x := by
  cases t with
  | true => exact ⟨y.1, y.2 xs q⟩
  | false => exact ⟨y.1, y.2 xs q⟩
def iSeq (K : PySem.W.Frag) (tl : TE) : TI := fun σ H R => tl σ H fun x H1 => ∃ t a xs, x = .ref a ∧ SqV K H1 t a xs ∧ R (Its t K a) H1
section
variable {X : Cx}
theorem pi_seq {tg l : Expr} {tl : TE} (hl : PE X l tl) : PI X tg l (iSeq X.K tl) := by
  refine ⟨fun pins s σ H R I h => thn (hl.run pins s σ H _ I h) fun v s1 hv => ?_⟩
  obtain ⟨x, H1, I1, rx, t, a, xs, rfl, hq, hR⟩ := hv
  cases (show v = Value.ref a from rx)
  have fr : ∀ b ∈ [s1.heap.objs.size], FpOk X pins H1 b := fun b hb => by
    obtain rfl : b = s1.heap.objs.size := by simpa using hb
    exact I1.fpOk (Nat.le_refl _) (I1.hok.fresh (Nat.le_refl _))
  cases t with
  | true =>
    obtain ⟨its, rv, p, _⟩ := I1.tuple hq
    exact wpAny_pyIter_tuple p ⟨s1.heap.objs.size, [s1.heap.objs.size], _, _, H1, rfl, I1.kept (t' := s1.toks) fun b o e => Heap.get?_push_of_some _ e, turn_tuple a _, ⟨_, Heap.get?_push_size _ rfl, rfl, rfl⟩, fr, hR⟩
  | false =>
    obtain ⟨its, rv, p, _⟩ := I1.list hq
    exact wpAny_pyIter_list p.isList ⟨s1.heap.objs.size, [s1.heap.objs.size], _, _, H1, rfl, I1.kept (t' := s1.toks) fun b o e => Heap.get?_push_of_some _ e, turn_list a _, ⟨_, Heap.get?_push_size _ rfl, rfl, rfl⟩, fr, hR⟩
end
theorem sq_or {t : Bool} {K : PySem.W.Frag} {a : Addr} {H : Hp} {xs : List V} (q : SqV K H t a xs) : SqL K H a xs ∨ SqT K H a xs := by
  cases t with
  | true => exact .inr q
  | false => exact .inl q
def rIxS2 (K : PySem.W.Frag) : R2 := fun x y H Q => ∃ t p xs i v, x = .ref p ∧ y = .int i ∧ SqV K H t p xs ∧ atI xs i = some v ∧ Q v H
theorem ix_sq {X : Cx} : IxR X (rIxS2 X.K) := by
  intro value slice pins s σ H x y v u Q I rx ry h hs
  obtain ⟨t, p, xs, i, z, e1, e2, hq, he, q⟩ := h
  cases t with
  | true => exact ix_tup value slice pins s σ H x y v u Q I rx ry ⟨p, xs, i, z, e1, e2, hq, he, q⟩ hs
  | false => exact ix_list value slice pins s σ H x y v u Q I rx ry ⟨p, xs, i, z, e1, e2, hq, he, q⟩ hs
def rLen (K : PySem.W.Frag) : List V → Hp → VK → Prop := fun xs H Q => ∃ p ys, xs = [.ref p] ∧ (SqL K H p ys ∨ SqT K H p ys) ∧ Q (.int ys.length) H
theorem c_len {X : Cx} : CallR X (.builtin "len") (rLen X.K) := call_len_seq
section
variable {X : Cx}
theorem pss_dead {st : List Stmt} : PSs X st (fun _ _ _ => False) := ⟨fun _ _ _ _ _ _ h => h.elim⟩
end
end Dn
set_option Elab.async false
set_option linter.all false
set_option maxRecDepth 100000
set_option maxHeartbeats 1000000
namespace Tb
open PySem PySem.Spec PyProof.Rows L2 Gd Zn Rp Dn
def KS (H H' : Hp) : Prop := ∀ c o, (∀ xs, o ≠ .lst xs) → H c = some o → H' c = some o
theorem KS.refl (H : Hp) : KS H H := fun _ _ _ e => e
theorem KS.trans {H H1 H2 : Hp} (a : KS H H1) (b : KS H1 H2) : KS H H2 := fun c o n e => b c o n (a c o n e)
theorem KS.of {H H' : Hp} (s : Same H H') : KS H H' := fun c o _ e => s c o e
theorem KS.rx {p : Option Addr} {H H' : Hp} (s : RX p H H') (hp : Has p H) : KS H H' := fun c o n e => by
  refine s.keep c o (fun z => ?_) e
  obtain ⟨a, b, e2, _⟩ := hp c z
  rw [e] at e2
  cases e2
  exact n _ rfl
theorem KS.lst {H : Hp} {a : Addr} {xs : List V} {o' : HO} (e : H a = some (.lst xs)) : KS H (upd H a o') := fun c o n q => by
  have nc : c ≠ a := fun z => by
    subst z
    rw [q] at e
    cases e
    exact n _ rfl
  rw [upd_ne nc]
  exact q
/-- a row, a table of rows: tuples -/
def RowV (H : Hp) (v : V) (r : List Int) : Prop := ∃ b, v = .ref b ∧ H b = some (.tup (r.map V.int))
inductive RowsV (H : Hp) : List V → List (List Int) → Prop
  | nil : RowsV H [] []
  | cons {v : V} {vs : List V} {r : List Int} {M : List (List Int)} : RowV H v r → RowsV H vs M → RowsV H (v :: vs) (r :: M)
def Mx (H : Hp) (v : V) (M : List (List Int)) : Prop := ∃ a vs, v = .ref a ∧ H a = some (.tup vs) ∧ RowsV H vs M
theorem RowV.mono {H H' : Hp} {v : V} {r : List Int} (s : KS H H') (h : RowV H v r) : RowV H' v r := by
  obtain ⟨b, e, h⟩ := h
  exact ⟨b, e, s b _ (fun _ z => by cases z) h⟩
theorem RowsV.mono {H H' : Hp} {vs : List V} {M : List (List Int)} (s : KS H H') (h : RowsV H vs M) : RowsV H' vs M := by
  induction h with
  | nil => exact .nil
  | cons p _ ih => exact .cons (p.mono s) ih
theorem Mx.mono {H H' : Hp} {v : V} {M : List (List Int)} (s : KS H H') (h : Mx H v M) : Mx H' v M := by
  obtain ⟨a, vs, e, h, r⟩ := h
  exact ⟨a, vs, e, s a _ (fun _ z => by cases z) h, r.mono s⟩
theorem RowsV.len {H : Hp} {vs : List V} {M : List (List Int)} (h : RowsV H vs M) : vs.length = M.length := by
  induction h with
  | nil => rfl
  | cons _ _ ih => rw [List.length_cons, List.length_cons, ih]
theorem RowsV.get {H : Hp} {vs : List V} {M : List (List Int)} (h : RowsV H vs M) {i : Nat} {v : V} (e : vs[i]? = some v) : ∃ r, M[i]? = some r ∧ RowV H v r := by
  induction h generalizing i with
  | nil => simp at e
  | cons p _ ih =>
    cases i with
    | zero =>
      cases e
      exact ⟨_, rfl, p⟩
    | succ i =>
      obtain ⟨r, h1, h2⟩ := ih (i := i) (by simpa using e)
      exact ⟨r, by simpa using h1, h2⟩
theorem rows_of {H : Hp} : ∀ {vs : List V} {M : List (List Int)}, vs.length = M.length → (∀ (i : Nat) (v : V), vs[i]? = some v → ∃ r, M[i]? = some r ∧ RowV H v r) → RowsV H vs M
  | [], [], _, _ => .nil
  | v :: vs, r :: M, hl, h => by
    obtain ⟨r', e, p⟩ := h 0 v rfl
    cases e
    exact .cons p (rows_of (Nat.succ.inj hl) fun i w e => h (i + 1) w e)
theorem RowV.py {H : Hp} {v : V} {r : List Int} (h : RowV H v r) : PyV H v (.tuple (r.map PyData.int)) := by
  obtain ⟨b, rfl, h⟩ := h
  refine .tup h ?_
  clear h
  induction r with
  | nil => exact .nil
  | cons x r ih => exact .cons (.int x) ih
theorem RowsV.py {H : Hp} {vs : List V} {M : List (List Int)} (h : RowsV H vs M) : PyVs H vs (M.map fun r => .tuple (r.map PyData.int)) := by
  induction h with
  | nil => exact .nil
  | cons p _ ih => exact .cons p.py ih
def mxD (M : List (List Int)) : PyData := .tuple (M.map fun r => .tuple (r.map PyData.int))
theorem Mx.py {H : Hp} {v : V} {M : List (List Int)} (h : Mx H v M) : PyV H v (mxD M) := by
  obtain ⟨a, vs, rfl, h, r⟩ := h
  exact .tup h r.py
/-- a comprehension whose elements hang on what is no list -/
theorem lc_ks {p : Option Addr} {J : It} {g : TG} {te : TE} {vs : List Nat} {σ : L2.St} {H1 : Hp} {Q : VK} (n : Nat) (El : Nat → V → Hp → Prop) (mono : ∀ i v H H', KS H H' → El i v H → El i v H') (hp : Has p H1) (hn : n ≤ 1000)
    (hgo : ∀ i H, i < n → RX p H1 H → J.go i H) (hst : ∀ H, RX p H1 H → J.stop n H)
    (hs : ∀ i x H H' (C : VK), i < n → RX p H1 H → Has p H → J.yld i H x H' → (∀ y H4, RX p H H4 → El i y H4 → C y H4) → g x (wipe σ vs) H' fun σ2 H2 => wipe σ2 vs = wipe σ vs ∧ te σ2 H2 C)
    (hd : ∀ D H xs, H1 D = none → RX p H1 H → H D = some (.lst xs) → xs.length = n → (∀ i v, xs[i]? = some v → El i v H) → Q (.ref D) H) : LcB g tYes te vs σ Q J H1 := by
  intro D nD
  have nP : p ≠ some D := hp.ne nD
  refine ⟨fun i m H => i ≤ n ∧ m = n - i ∧ RX p H1 H ∧ ∃ xs, H D = some (.lst xs) ∧ xs.length = i ∧ ∀ j v, xs[j]? = some v → El j v H, ⟨n, Nat.zero_le _, rfl, RX.new nD, [], upd_same, rfl, fun j v e => by simp at e⟩, ?_⟩
  rintro i m H ⟨hi, rfl, s1, xs, hD, hl, hE⟩
  by_cases hlt : i < n
  · refine .inr ⟨hgo i H hlt s1, fun H' => i + 1 ≤ n ∧ RX p H1 H' ∧ ∃ xs, H' D = some (.lst xs) ∧ xs.length = i + 1 ∧ ∀ j v, xs[j]? = some v → El j v H', fun H' h => ⟨n - (i + 1), by omega, h.1, rfl, h.2⟩, fun x H' hy => ?_⟩
    have hpH := hp.to s1
    refine hs i x H H' _ hlt s1 hpH hy fun y H4 s4 e4 => ?_
    have hD4 := s4.keep D _ nP hD
    have s5 : RX p H1 (upd H4 D (.lst (xs ++ [y]))) := (s1.trans s4).mut nD hp
    have k5 : KS H4 (upd H4 D (.lst (xs ++ [y]))) := KS.lst hD4
    refine ⟨xs, hD4, Nat.lt_of_lt_of_le (by omega : xs.length < 1001) (by decide), hlt, s5, xs ++ [y], upd_same, by simp [hl], fun j v e => ?_⟩
    by_cases hj : j < xs.length
    · rw [List.getElem?_append_left hj] at e
      exact mono _ _ _ _ ((KS.rx s4 hpH).trans k5) (hE j v e)
    · rw [List.getElem?_append_right (by omega)] at e
      have z : j - xs.length = 0 := by
        by_cases w : j - xs.length = 0
        · exact w
        · rw [List.getElem?_eq_none (by simp; omega)] at e; cases e
      rw [z] at e
      cases e
      have : j = i := by omega
      subst this
      exact mono _ _ _ _ k5 e4
  · have e : i = n := by omega
    subst e
    exact .inl ⟨hst H s1, hd D H xs nD s1 hD hl hE⟩
/-- tuple(a list that was just made) -/
def rTup (K : PySem.W.Frag) : List V → Hp → VK → Prop := fun xs H Q => ∃ p ys, xs = [.ref p] ∧ ((SqL K H p ys ∧ ∀ l, H l = none → Q (.ref l) (upd H l (.tup ys))) ∨ (SqT K H p ys ∧ Q (.ref p) H))
theorem c_tup {X : Cx} : CallR X (.type "tuple") (rTup X.K) := call_tuple_of
def transp (m : Nat) (M : List (List Int)) : List (List Int) := (List.range m).map fun j => M.map fun r => r.getD j 0
end Tb
set_option Elab.async false
set_option linter.all false
set_option maxRecDepth 100000
set_option maxHeartbeats 1000000
namespace Gn
open PySem PySem.Spec PyProof.Rows L2 Gd Zn Rp Dn
structure Def (P : Program) (w : World) (K : PySem.W.Frag) (mg : Str → Option Value) (base : Heap) (nm : Str) (k : Nat) (ps : List Str) (sp : Sp) : Prop where
  ex : ∃ (f : Addr) (fd : FuncData), FnOk P w K mg base CX0 k f fd ps sp ∧ mg nm = some (.ref f) ∧ PySem.W.keepIn K (.ref f) = true ∧ Binds K fd ps []
section
variable {X : Cx}
theorem pe_def {nm : Str} {k j : Nat} {ps : List Str} {sp : Sp} {e : Expr} {es : List Expr} {t : TA} {p pos : Pos} (D : Def X.prog X.w X.K X.mg X.base nm k ps sp) (room : Room j X.A) (ha : PA X (e :: es) t) (hkj : k ≤ j := by decide) (hg : Gl X nm := by rfl)
    (hdb : (nm == ("__debug__" : Str)) = false := by decide) (he : starEach (e :: es) X.env = (false, eval e X.env) :: starEach es X.env := by rfl) (hpl : (backTo pos (starEach es X.env)).any (·.1) = false := by rfl) :
    PE X (.Call (.Name nm p) (e :: es) [] pos) (tCall sp [] E0 t) := by
  obtain ⟨f, fd, G, m, kp, b⟩ := D.ex
  exact pe_call G (room.mono hkj) hg m kp b .nil pass0 ha hdb he hpl
end
def AnyV (H : Hp) (v : V) (d : PyData) : Prop := PyV H v d ∨ ∃ a kvs r, v = .ref a ∧ H a = some (.dK kvs) ∧ d = .dict r ∧ Flat kvs r
theorem AnyV.mono {H H' : Hp} {v : V} {d : PyData} (s : Same H H') (h : AnyV H v d) : AnyV H' v d := by
  rcases h with h | ⟨a, kvs, r, e, h, e2, f⟩
  · exact .inl (h.mono s)
  · exact .inr ⟨a, kvs, r, e, s _ _ h, e2, f⟩
def tyD : PyData → String
  | .none => "NoneType" | .bool _ => "bool" | .int _ => "int" | .str _ => "str" | .list _ => "list" | .tuple _ => "tuple" | .dict _ => "dict"
theorem AnyV.ty {K : PySem.W.Frag} {H : Hp} {v : V} {d : PyData} (h : AnyV H v d) : TyX K H v (.type (tyD d)) := by
  rcases h with h | ⟨a, kvs, r, rfl, e, rfl, f⟩
  · cases h with
    | non => exact .base .non
    | bl b => exact .base (.bl b)
    | int i => exact .base (.int i)
    | str x => exact .base (.str x)
    | lst e _ => exact .base (.lst e)
    | tup e _ => exact .base (.tup e)
  · exact .base (.dK e)
def isIntD : PyData → Bool
  | .int _ => true
  | _ => false
def isBool : PyData → Bool
  | .bool _ => true
  | _ => false
def isSeq : PyData → Bool
  | .list _ => true
  | .tuple _ => true
  | _ => false
def items : PyData → List PyData
  | .list xs => xs
  | .tuple xs => xs
  | _ => []
theorem kit_int (K : PySem.W.Frag) (d : PyData) : PySem.W.kitOne K (.type (tyD d)) (.type "int") = some (isIntD d || isBool d) := by
  cases d <;> dsimp only [tyD, isIntD, isBool] <;> exact kit_ty (by decide +kernel)
theorem kit_bool (K : PySem.W.Frag) (d : PyData) : PySem.W.kitOne K (.type (tyD d)) (.type "bool") = some (isBool d) := by
  cases d <;> dsimp only [tyD, isBool] <;> exact kit_ty (by decide +kernel)
theorem kit_seq (K : PySem.W.Frag) (d : PyData) : PySem.W.kitAny K (.type (tyD d)) [.type "list", .type "tuple"] = some (isSeq d) := by
  cases d <;> dsimp only [tyD, isSeq] <;>
  first
  | exact kitAny_cons (kit_ty (b := "list") (r := true) (by decide +kernel)) (fun h => by cases h) (fun _ => rfl)
  | exact kitAny_cons (kit_ty (b := "list") (r := false) (by decide +kernel)) (fun _ => kitAny_cons (kit_ty (b := "tuple") (r := true) (by decide +kernel)) (fun h => by cases h) (fun _ => rfl)) (fun h => by cases h)
  | exact kitAny_cons (kit_ty (b := "list") (r := false) (by decide +kernel)) (fun _ => kitAny_cons (kit_ty (b := "tuple") (r := false) (by decide +kernel)) (fun _ => kitAny_nil) (fun h => by cases h)) (fun h => by cases h)
def iD (xs : List Int) : List PyData := xs.map PyData.int
theorem pyVs_ints {H : Hp} : ∀ {vs : List V} {xs : List Int}, PyVs H vs (iD xs) → vs = xs.map V.int
  | _, [], .nil => rfl
  | _, x :: xs, .cons (.int _) q => by rw [pyVs_ints q]; rfl
/-- a list or a tuple, its items -/
def SeqV (H : Hp) (v : V) (ds : List PyData) : Prop := PyV H v (.list ds) ∨ PyV H v (.tuple ds)
theorem SeqV.mono {H H' : Hp} {v : V} {ds : List PyData} (s : Same H H') (h : SeqV H v ds) : SeqV H' v ds := h.imp (PyV.mono s) (PyV.mono s)
theorem SeqV.at {H : Hp} {v : V} {ds : List PyData} (K : PySem.W.Frag) (h : SeqV H v ds) : ∃ (t : Bool) (a : Addr) (vs : List V), v = .ref a ∧ (∀ H', Same H H' → SqV K H' t a vs) ∧ PyVs H vs ds := by
  rcases h with h | h
  · cases h with
    | lst e q => exact ⟨false, _, _, rfl, fun H' s => .inl (.inl (s _ _ e)), q⟩
  · cases h with
    | tup e q => exact ⟨true, _, _, rfl, fun H' s => .inl (.inl (s _ _ e)), q⟩
theorem seq_of {H : Hp} {v : V} {d : PyData} (h : AnyV H v d) (e : isSeq d = true) : SeqV H v (items d) := by
  rcases h with h | ⟨_, _, _, _, _, rfl, _⟩
  · cases h with
    | lst x q => exact .inl (.lst x q)
    | tup x q => exact .inr (.tup x q)
    | non => cases e
    | bl _ => cases e
    | int _ => cases e
    | str _ => cases e
  · cases e
def dot (xs ys : List Int) : Int := ((xs.zip ys).map fun p => p.1 * p.2).sum
def Small (x : Int) : Prop := -(2 ^ 64) < x ∧ x < 2 ^ 64
theorem map_of_get {α : Type} {n : Nat} (f : α → V) : ∀ {vs : List V} {l : List α}, vs.length = l.length → (∀ (i : Nat) (v : V), vs[i]? = some v → ∃ x : α, l[i]? = some x ∧ v = f x) → vs = l.map f
  | [], [], _, _ => rfl
  | v :: vs, x :: l, hl, h => by
    obtain ⟨y, e1, e2⟩ := h 0 v rfl
    cases e1
    rw [e2, map_of_get (n := n) f (Nat.succ.inj hl) (fun i w e => h (i + 1) w e)]
    rfl
theorem pyVs_len {H : Hp} : ∀ {vs : List V} {ds : List PyData}, PyVs H vs ds → vs.length = ds.length
  | _, _, .nil => rfl
  | _, _, .cons _ q => by rw [List.length_cons, List.length_cons, pyVs_len q]
theorem pyVs_get {H : Hp} : ∀ {vs : List V} {ds : List PyData} {i : Nat} {v : V}, PyVs H vs ds → vs[i]? = some v → ∃ d, ds[i]? = some d ∧ PyV H v d
  | _, _, _, _, .nil, e => by simp at e
  | _, _, 0, _, .cons (d := d) p _, e => by
    cases e
    exact ⟨d, rfl, p⟩
  | _, _, i + 1, _, .cons _ q, e => by
    obtain ⟨d', h1, h2⟩ := pyVs_get (i := i) q (by simpa using e)
    exact ⟨d', by simpa using h1, h2⟩
end Gn
set_option Elab.async false
set_option linter.all false
set_option maxRecDepth 100000
set_option maxHeartbeats 1000000
namespace Wd
open PySem PySem.Spec PyProof.Rows L2
def Big (x : Int) : Prop := ∃ k : Nat, k ≤ 20000 ∧ x.natAbs < 2 ^ k
def Wid (x : Int) : Prop := ∃ k : Nat, k ≤ 1000000 ∧ x.natAbs < 2 ^ k
theorem lit {x : Int} (h : -(2 ^ 64) < x ∧ x < 2 ^ 64) : Big x := ⟨64, by decide, by omega⟩
theorem Big.w {x : Int} (h : Big x) : Wid x := by
  obtain ⟨k, a, b⟩ := h
  exact ⟨k, Nat.le_trans a (by decide), b⟩
theorem mulW {i j : Int} (hi : Wid i) (hj : Wid j) : CMulX i j := by
  obtain ⟨a, h1, h2⟩ := hi
  obtain ⟨b, h3, h4⟩ := hj
  exact mulx_ok h2 h4 (by omega)
theorem mul {i j : Int} (hi : Big i) (hj : Big j) : CMulX i j := mulW hi.w hj.w
theorem pow_le {a b : Nat} (h : a ≤ b) : 2 ^ a ≤ 2 ^ b := Nat.pow_le_pow_right (by decide) h
theorem abs_mul {x y : Int} {a b : Nat} (hx : x.natAbs < 2 ^ a) (hy : y.natAbs < 2 ^ b) : (x * y).natAbs < 2 ^ (a + b) := by
  rw [Int.natAbs_mul, Nat.pow_add]
  exact Nat.mul_lt_mul'' hx hy
theorem abs_mono {x : Int} {a b : Nat} (hx : x.natAbs < 2 ^ a) (h : a ≤ b) : x.natAbs < 2 ^ b := Nat.lt_of_lt_of_le hx (pow_le h)
theorem abs_add {x y : Int} {a : Nat} (hx : x.natAbs < 2 ^ a) (hy : y.natAbs < 2 ^ a) : (x + y).natAbs < 2 ^ (a + 1) := by
  rw [Nat.pow_succ]
  omega
end Wd
set_option Elab.async false
set_option linter.all false
set_option maxRecDepth 100000
set_option maxHeartbeats 1000000
namespace T24
open PySem PySem.Spec PyProof.Rows L2 Gd Zn Rp Dn Tb Gn En Zs
def top (i : Nat) : Stmt := PySem.Challenge.pw_keptbowls_k24_any_value_as_squares.main.body.getD i (.Pass ⟨0, 0, 0, 0⟩)
abbrev Small (x : Int) : Prop := Wd.Big x
structure Txt (mg : Str → Option Value) : Prop where
  isi : mg "isinstance" = none
  int : mg "int" = none
  bool : mg "bool" = none
  list : mg "list" = none
  tuple : mg "tuple" = none
  all : mg "all" = none
  sum : mg "sum" = none
  zip : mg "zip" = none
  len : mg "len" = none
  range : mg "range" = none
  repr : mg "repr" = none
  abs : mg "abs" = none
  max : mg "max" = none
  divmod : mg "divmod" = none
  dict : mg "dict" = none
  enum : mg "enumerate" = none
section
variable {P : Program} {w : World} {K : PySem.W.Frag} {mg : Str → Option Value} {base : Heap}
abbrev st_is_integer : Stmt := top 8
def sp_is_integer : Sp := fun vs H Q _ => ∃ v d, vs = [v] ∧ AnyV H v d ∧ ∀ H', Same H H' → Q (.bl (isIntD d)) H'
theorem sc_is_integer : FnScope ["value"] ["value"] (defScope st_is_integer) := ⟨rfl, rfl, rfl, by decide +kernel, rfl, by decide +kernel, by decide +kernel⟩
theorem ok_is_integer {f : Addr} {fd : FuncData} (F : Fun K "is_integer" "is_integer" st_is_integer f fd) (T : Txt mg) : FnOk P w K mg base CX0 1 f fd ["value"] sp_is_integer := by
  refine F.ok sc_is_integer (fun vs H Q E h => ?_) (fun cdv A outer s H vs Q E hr h => ?_)
  · obtain ⟨v, d, rfl, _⟩ := h
    rfl
  · obtain ⟨v, d, rfl, av, q⟩ := h
    refine ⟨_, pss_one (ps_ret (pe_and (pe_callB call_isi (by rfl) T.isi boot_isinstance (pa_cons (pv 0) (pa_cons (pe_bltn (v := .ty "int") (by rfl) T.int PyProof.Rows.boot_int rfl) pa_nil)))
      (pe_one (pe_not (pe_callB call_isi (by rfl) T.isi boot_isinstance (pa_cons (pv 0) (pa_cons (pe_bltn (v := .ty "bool") (by rfl) T.bool PyProof.Rows.boot_bool rfl) pa_nil))))))), ?_⟩
    refine ⟨_, rfl, v, .ty "int", _, _, _, rfl, .ty _, av.ty, kit_int K d, _, rfl, ?_⟩
    cases e : isIntD d || isBool d with
    | false =>
      refine iteF ?_
      have : isIntD d = false := by revert e; cases isIntD d <;> simp
      rw [← this]
      exact q H (Same.refl H)
    | true =>
      refine iteT ?_
      refine ⟨_, rfl, v, .ty "bool", _, _, _, rfl, .ty _, av.ty, kit_bool K d, _, rfl, ?_⟩
      have : (!isBool d) = isIntD d := by
        revert e
        cases d <;> simp [isIntD, isBool]
      rw [this]
      exact q H (Same.refl H)
abbrev st_is_list : Stmt := top 9
def sp_is_list : Sp := fun vs H Q _ => ∃ v d, vs = [v] ∧ AnyV H v d ∧ ∀ H', Same H H' → Q (.bl (isSeq d)) H'
theorem sc_is_list : FnScope ["value"] ["value"] (defScope st_is_list) := ⟨rfl, rfl, rfl, by decide +kernel, rfl, by decide +kernel, by decide +kernel⟩
theorem ok_is_list {f : Addr} {fd : FuncData} (F : Fun K "is_list" "is_list" st_is_list f fd) (T : Txt mg) : FnOk P w K mg base CX0 1 f fd ["value"] sp_is_list := by
  refine F.ok sc_is_list (fun vs H Q E h => ?_) (fun cdv A outer s H vs Q E hr h => ?_)
  · obtain ⟨v, d, rfl, _⟩ := h
    rfl
  · obtain ⟨v, d, rfl, av, q⟩ := h
    refine ⟨_, pss_one (ps_ret (pe_callB call_isiT (by rfl) T.isi boot_isinstance (pa_cons (pv 0) (pa_cons (pe_tup (pa_cons (pe_bltn (v := .ty "list") (by rfl) T.list PyProof.Rows.boot_list rfl) (pa_cons (pe_bltn (v := .ty "tuple") (by rfl) T.tuple PyProof.Rows.boot_tuple rfl) pa_nil))) pa_nil)))), ?_⟩
    refine ⟨_, rfl, (by show 2 ≤ sizeLine; decide), fun t ht => ?_⟩
    exact ⟨v, t, _, _, _, _, rfl, upd_same, .cons (.ty _) (.cons (.ty _) .nil), (av.mono (same_new ht)).ty, kit_seq K d, q _ (same_new ht)⟩
end
end T24
set_option Elab.async false
set_option linter.all false
set_option maxRecDepth 100000
set_option maxHeartbeats 1000000
namespace T24
open PySem PySem.Spec PyProof.Rows L2 Gd Zn Rp Dn Tb Gn En Zs
section
variable {P : Program} {w : World} {K : PySem.W.Frag} {mg : Str → Option Value} {base : Heap}
abbrev st_is_row : Stmt := top 11
def rowB (d : PyData) : Bool := isSeq d && (decide (1 ≤ (items d).length) && decide ((items d).length ≤ 3)) && (items d).all isIntD
def sp_is_row : Sp := fun vs H Q _ => ∃ v d, vs = [v] ∧ AnyV H v d ∧ (items d).length ≤ 200 ∧ ∀ H', Same H H' → Q (.bl (rowB d)) H'
theorem sc_is_row : FnScope ["value", "number"] ["value"] (defScope st_is_row) := ⟨rfl, rfl, rfl, by decide +kernel, rfl, by decide +kernel, by decide +kernel⟩
theorem ok_is_row {f : Addr} {fd : FuncData} (F : Fun K "is_row" "is_row" st_is_row f fd) (T : Txt mg) (D1 : Def P w K mg base "is_list" 1 ["value"] sp_is_list) (D2 : Def P w K mg base "is_integer" 1 ["value"] sp_is_integer) :
    FnOk P w K mg base CX0 2 f fd ["value"] sp_is_row := by
  refine F.ok sc_is_row (fun vs H Q E h => ?_) (fun cdv A outer s H vs Q E hr h => ?_)
  · obtain ⟨v, d, rfl, _⟩ := h
    rfl
  · obtain ⟨v, d, rfl, av, hb, q⟩ := h
    refine ⟨_, pss_one (ps_ret (pe_and (pe_def D1 hr (pa_cons (pv 0) pa_nil))
      (pe_and (pe_chain op_le op_le pe_int (pe_callB (r := Dn.rLen K) c_len (by rfl) T.len PySem.boot_len (pa_cons (pv 0) pa_nil)) pe_int)
      (pe_one (pe_callB (cr_all rfl) (by rfl) T.all boot_all (pa_cons (pe_lc (own := [("number", 1)]) (g := gName 1) (tt := tYes) rfl sc_is_row.nd (pi_seq (pv 0))
        (blkOk_by (N := ["value", "number"]) (sc := defScope st_is_row) (by decide +kernel))
        (fun _ _ _ _ _ => pg_name (i := 1) sc_is_row.nd rfl (Or.inl rfl) (Or.inr rfl)) (fun _ _ _ _ _ => pts_nil) (fun _ _ _ _ _ => pe_def (X := Cx.blk _ _ _ _ _ _) D2 hr (pa_cons (pv 1) pa_nil))) pa_nil)))))), ?_⟩
    refine ⟨_, rfl, v, d, rfl, av, fun H1 s1 => ⟨_, rfl, ?_⟩⟩
    cases e1 : isSeq d with
    | false =>
      refine iteF ?_
      have : rowB d = false := by unfold rowB; rw [e1]; rfl
      rw [← this]
      exact q H1 s1
    | true =>
      refine iteT ?_
      obtain ⟨t, a, vx, rfl, qx, px⟩ := (seq_of av e1).at K
      have hvl : vx.length = (items d).length := pyVs_len px
      have bad : (decide (1 ≤ (items d).length) && decide ((items d).length ≤ 3)) = false → Q (.bl false) H1 := fun z => by
        have : rowB d = false := by unfold rowB; rw [z, Bool.and_false]; rfl
        rw [← this]
        exact q H1 s1
      refine ⟨_, rfl, a, vx, rfl, sq_or (qx H1 s1), _, _, rfl, rfl, _, rfl, ?_⟩
      cases e2 : decide ((1 : Int) ≤ (vx.length : Int)) with
      | false =>
        refine iteF ⟨_, rfl, iteF ?_⟩
        refine bad ?_
        rw [decide_eq_false_iff_not] at e2
        rw [decide_eq_false (by omega)]
        rfl
      | true =>
        rw [decide_eq_true_eq] at e2
        refine iteT ⟨_, _, rfl, rfl, _, rfl, ?_⟩
        cases e3 : decide ((vx.length : Int) ≤ 3) with
        | false =>
          refine iteF ?_
          refine bad ?_
          rw [decide_eq_false_iff_not] at e3
          rw [decide_eq_false (show ¬ (items d).length ≤ 3 by omega), Bool.and_false]
        | true =>
          rw [decide_eq_true_eq] at e3
          refine iteT ?_
          refine r_cb (r_cons ?_)
          refine tlc_of (Its t K a) (H1 := H1) (fun R hR => ⟨_, rfl, t, a, vx, rfl, qx H1 s1, hR⟩) ?_
          refine lc_el (p := none) vx.length (fun i v => ∃ d', (items d)[i]? = some d' ∧ v = .bl (isIntD d')) has_none (by omega) (fun i H2 hi s2 => ?_) (fun H2 s2 => ?_) (fun i x H2 H3 C hi s2 _ hy hC => ?_) fun Da H2 rs nD s2 hD hrl hE => ?_
          · exact its_go (qx H2 (s1.trans s2.same)) (List.getElem?_eq_getElem hi)
          · exact its_stop (qx H2 (s1.trans s2.same)) (Nat.le_refl _)
          · obtain ⟨rfl, ex⟩ := its_yld hy (qx H2 (s1.trans s2.same))
            obtain ⟨d', ed, pd⟩ := pyVs_get px ex
            refine ⟨rfl, ?_⟩
            exact ⟨_, rfl, x, d', rfl, .inl (PyV.mono (s1.trans s2.same) pd), fun H4 s4 => hC _ _ (RX.of s4) ⟨d', ed, rfl⟩⟩
          · have er : rs = (items d).map fun d' => V.bl (isIntD d') := map_of_get (n := 0) _ (by rw [hrl, hvl]) hE
            refine ⟨Da, (items d).map isIntD, rfl, .inl (.inl ?_), ?_⟩
            · rw [hD, er, List.map_map]
              rfl
            · have : rowB d = ((items d).map isIntD).all id := by
                unfold rowB
                rw [e1, decide_eq_true (show 1 ≤ (items d).length by omega), decide_eq_true (show (items d).length ≤ 3 by omega), List.all_map]
                rfl
              rw [← this]
              exact q H2 (s1.trans s2.same)
end
end T24
set_option Elab.async false
set_option linter.all false
set_option maxRecDepth 100000
set_option maxHeartbeats 1000000
namespace T24
open PySem PySem.Spec PyProof.Rows L2 Gd Zn Rp Dn Tb Gn En Zs
section
variable {P : Program} {w : World} {K : PySem.W.Frag} {mg : Str → Option Value} {base : Heap}
abbrev st_is_row_of : Stmt := top 12
def rowOfB (n : Nat) (d : PyData) : Bool := rowB d && decide ((items d).length = n)
def sp_is_row_of : Sp := fun vs H Q _ => ∃ v d, ∃ n : Nat, vs = [.int n, v] ∧ AnyV H v d ∧ (items d).length ≤ 200 ∧ ∀ H', Same H H' → Q (.bl (rowOfB n d)) H'
theorem sc_is_row_of : FnScope ["size", "value"] ["size", "value"] (defScope st_is_row_of) := ⟨rfl, rfl, rfl, by decide +kernel, rfl, by decide +kernel, by decide +kernel⟩
theorem ok_is_row_of {f : Addr} {fd : FuncData} (F : Fun K "is_row_of" "is_row_of" st_is_row_of f fd) (T : Txt mg) (D1 : Def P w K mg base "is_row" 2 ["value"] sp_is_row) :
    FnOk P w K mg base CX0 3 f fd ["size", "value"] sp_is_row_of := by
  refine F.ok sc_is_row_of (fun vs H Q E h => ?_) (fun cdv A outer s H vs Q E hr h => ?_)
  · obtain ⟨v, d, n, rfl, _⟩ := h
    rfl
  · obtain ⟨v, d, n, rfl, av, hb, q⟩ := h
    refine ⟨_, pss_one (ps_ret (pe_and (pe_def D1 hr (pa_cons (pv 1) pa_nil))
      (pe_one (pe_cmpR op_eq (pe_callB (r := Dn.rLen K) c_len (by rfl) T.len PySem.boot_len (pa_cons (pv 1) pa_nil)) (pv 0) (nomark _))))), ?_⟩
    refine ⟨_, rfl, v, d, rfl, av, hb, fun H1 s1 => ⟨_, rfl, ?_⟩⟩
    cases e1 : rowB d with
    | false =>
      refine iteF ?_
      have : rowOfB n d = false := by unfold rowOfB; rw [e1]; rfl
      rw [← this]
      exact q H1 s1
    | true =>
      refine iteT ?_
      have e2 : isSeq d = true := by
        unfold rowB at e1
        rw [Bool.and_eq_true, Bool.and_eq_true] at e1
        exact e1.1.1
      obtain ⟨t, a, vx, rfl, qx, px⟩ := (seq_of av e2).at K
      have hvl : vx.length = (items d).length := pyVs_len px
      refine ⟨_, rfl, a, vx, rfl, sq_or (qx H1 s1), _, rfl, rfl, ?_⟩
      have : decide (V.int (vx.length : Int) = V.int (n : Int)) = rowOfB n d := by
        unfold rowOfB
        rw [e1, Bool.true_and, ← hvl]
        by_cases z : vx.length = n
        · rw [z, decide_eq_true rfl, decide_eq_true rfl]
        · rw [decide_eq_false z, decide_eq_false (fun q => z (by have := V.int.inj q; omega))]
      show Q _ _
      rw [this]
      exact q H1 s1
abbrev st_is_grid : Stmt := top 14
def gridB (d : PyData) : Bool := isSeq d && (items d).all (rowOfB (items d).length) && decide (0 < (items d).length)
def sp_is_grid : Sp := fun vs H Q _ => ∃ v d, vs = [v] ∧ AnyV H v d ∧ (items d).length ≤ 200 ∧ (∀ r ∈ items d, (items r).length ≤ 200) ∧ ∀ H', Same H H' → Q (.bl (gridB d)) H'
theorem sc_is_grid : FnScope ["value", "row"] ["value"] (defScope st_is_grid) := ⟨rfl, rfl, rfl, by decide +kernel, rfl, by decide +kernel, by decide +kernel⟩
theorem ok_is_grid {f : Addr} {fd : FuncData} (F : Fun K "is_grid" "is_grid" st_is_grid f fd) (T : Txt mg) (D1 : Def P w K mg base "is_list" 1 ["value"] sp_is_list) (D2 : Def P w K mg base "is_row_of" 3 ["size", "value"] sp_is_row_of) :
    FnOk P w K mg base CX0 4 f fd ["value"] sp_is_grid := by
  refine F.ok sc_is_grid (fun vs H Q E h => ?_) (fun cdv A outer s H vs Q E hr h => ?_)
  · obtain ⟨v, d, rfl, _⟩ := h
    rfl
  · obtain ⟨v, d, rfl, av, hb, hbs, q⟩ := h
    refine ⟨_, pss_one (ps_ret (pe_and (pe_def D1 hr (pa_cons (pv 0) pa_nil))
      (pe_and (pe_callB (cr_all rfl) (by rfl) T.all boot_all (pa_cons (pe_lc (own := [("row", 1)]) (g := gName 1) (tt := tYes) rfl sc_is_grid.nd (pi_seq (pv 0))
        (blkOk_by (N := ["value", "row"]) (sc := defScope st_is_grid) (by decide +kernel))
        (fun _ _ _ _ _ => pg_name (i := 1) sc_is_grid.nd rfl (Or.inl rfl) (Or.inr rfl)) (fun _ _ _ _ _ => pts_nil)
        (fun _ _ _ _ _ => pe_def (X := Cx.blk _ _ _ _ _ _) D2 hr (pa_cons (pe_callB (r := Dn.rLen K) c_len (by rfl) T.len PySem.boot_len (pa_cons (pv 0) pa_nil)) (pa_cons (pv 1) pa_nil)))) pa_nil))
      (pe_one (pe_cmpR op_gt (pe_callB (r := Dn.rLen K) c_len (by rfl) T.len PySem.boot_len (pa_cons (pv 0) pa_nil)) pe_int (nomark _)))))), ?_⟩
    refine ⟨_, rfl, v, d, rfl, av, fun H1 s1 => ⟨_, rfl, ?_⟩⟩
    cases e1 : isSeq d with
    | false =>
      refine iteF ?_
      have : gridB d = false := by unfold gridB; rw [e1]; rfl
      rw [← this]
      exact q H1 s1
    | true =>
      refine iteT ?_
      obtain ⟨t, a, vx, rfl, qx, px⟩ := (seq_of av e1).at K
      have hvl : vx.length = (items d).length := pyVs_len px
      refine r_cb (r_cons ?_)
      refine tlc_of (Its t K a) (H1 := H1) (fun R hR => ⟨_, rfl, t, a, vx, rfl, qx H1 s1, hR⟩) ?_
      refine lc_el (p := none) vx.length (fun i v => ∃ d', (items d)[i]? = some d' ∧ v = .bl (rowOfB (items d).length d')) has_none (by omega) (fun i H2 hi s2 => ?_) (fun H2 s2 => ?_) (fun i x H2 H3 C hi s2 _ hy hC => ?_) fun Da H2 rs nD s2 hD hrl hE => ?_
      · exact its_go (qx H2 (s1.trans s2.same)) (List.getElem?_eq_getElem hi)
      · exact its_stop (qx H2 (s1.trans s2.same)) (Nat.le_refl _)
      · obtain ⟨rfl, ex⟩ := its_yld hy (qx H2 (s1.trans s2.same))
        obtain ⟨d', ed, pd⟩ := pyVs_get px ex
        refine ⟨rfl, ?_⟩
        refine ⟨_, rfl, a, vx, rfl, sq_or (qx _ (s1.trans s2.same)), _, rfl, x, d', (items d).length, by rw [hvl]; rfl, .inl (PyV.mono (s1.trans s2.same) pd), hbs d' (List.mem_of_getElem? ed), fun H4 s4 => hC _ _ (RX.of s4) ⟨d', ed, rfl⟩⟩
      · have er : rs = (items d).map fun d' => V.bl (rowOfB (items d).length d') := map_of_get (n := 0) _ (by rw [hrl, hvl]) hE
        refine ⟨Da, (items d).map (rowOfB (items d).length), rfl, .inl (.inl (by rw [hD, er, List.map_map]; rfl)), _, rfl, ?_⟩
        have ea : ((items d).map (rowOfB (items d).length)).all id = (items d).all (rowOfB (items d).length) := by rw [List.all_map]; rfl
        rw [ea]
        cases e2 : (items d).all (rowOfB (items d).length) with
        | false =>
          refine iteF ?_
          have : gridB d = false := by unfold gridB; rw [e2, Bool.and_false]; rfl
          rw [← this]
          exact q H2 (s1.trans s2.same)
        | true =>
          refine iteT ?_
          refine ⟨_, rfl, a, vx, rfl, sq_or (qx H2 (s1.trans s2.same)), _, _, rfl, rfl, ?_⟩
          have : decide ((vx.length : Int) > 0) = gridB d := by
            unfold gridB
            rw [e1, e2, ← hvl]
            by_cases z : 0 < vx.length
            · rw [decide_eq_true (show (vx.length : Int) > 0 by omega), decide_eq_true z]; rfl
            · rw [decide_eq_false (show ¬ (vx.length : Int) > 0 by omega), decide_eq_false z]; rfl
          show Q (.bl (decide ((vx.length : Int) > 0))) _
          rw [this]
          exact q H2 (s1.trans s2.same)
end
end T24
set_option Elab.async false
set_option linter.all false
set_option maxRecDepth 100000
set_option maxHeartbeats 1000000
namespace T24
open PySem PySem.Spec PyProof.Rows L2 Gd Zn Rp Dn Tb Gn En Zs
def GridD (d : PyData) (M : List (List Int)) : Prop := isSeq d = true ∧ (items d).length = M.length ∧ ∀ (i : Nat) (d' : PyData), (items d)[i]? = some d' → ∃ r, M[i]? = some r ∧ (d' = .list (iD r) ∨ d' = .tuple (iD r))
theorem RowV.sq {K : PySem.W.Frag} {H : Hp} {v : V} {r : List Int} (h : RowV H v r) : ∃ b, v = .ref b ∧ SqV K H true b (r.map V.int) := by
  obtain ⟨b, e, h⟩ := h
  exact ⟨b, e, .inl (.inl h)⟩
theorem RowV.seq {H : Hp} {v : V} {r : List Int} (h : RowV H v r) : SeqV H v (iD r) := .inr h.py
/-- the columns -/
theorem row_all {K : PySem.W.Frag} {H : Hp} {j m : Nat} (hj : j < m) : ∀ {src : List (Bool × Addr)} {M : List (List Int)}, RowsV H (kRefs src) M → (∀ q ∈ src, q.1 = true) → (∀ r ∈ M, r.length = m) → RowAt K H j src (M.map fun r => .int (r.getD j 0))
  | [], _, .nil, _, _ => trivial
  | (t, a) :: src, r :: M, .cons p q, ht, hm => by
    have e : t = true := ht _ List.mem_cons_self
    subst e
    obtain ⟨b, eb, hb⟩ := p
    cases eb
    have hr : j < r.length := by rw [hm r List.mem_cons_self]; exact hj
    refine ⟨⟨r.map V.int, .inl (.inl hb), ?_⟩, row_all hj q (fun q hq => ht q (List.mem_cons_of_mem _ hq)) fun r hr => hm r (List.mem_cons_of_mem _ hr)⟩
    show _ = some (V.int (r.getD j 0))
    rw [List.getElem?_map, List.getElem?_eq_getElem hr, List.getD_eq_getElem?_getD, List.getElem?_eq_getElem hr]
    rfl
theorem all_sq {K : PySem.W.Frag} {H : Hp} : ∀ {src : List (Bool × Addr)} {M : List (List Int)}, RowsV H (kRefs src) M → (∀ q ∈ src, q.1 = true) → AllSq K H src
  | [], _, _, _ => fun q hq => by cases hq
  | (t, a) :: src, r :: M, .cons p q, ht => fun z hz => by
    have e : t = true := ht _ List.mem_cons_self
    subst e
    obtain ⟨b, eb, hb⟩ := p
    cases eb
    rcases List.mem_cons.mp hz with rfl | hz
    · exact ⟨_, .inl (.inl hb)⟩
    · exact all_sq q (fun q hq => ht q (List.mem_cons_of_mem _ hq)) z hz
theorem rows_src {H : Hp} {vs : List V} {M : List (List Int)} (h : RowsV H vs M) : ∃ src : List (Bool × Addr), vs = kRefs src ∧ ∀ q ∈ src, q.1 = true := by
  induction h with
  | nil => exact ⟨[], rfl, fun q hq => by cases hq⟩
  | cons p _ ih =>
    obtain ⟨src, e, h⟩ := ih
    obtain ⟨b, rfl, _⟩ := p
    refine ⟨(true, b) :: src, by rw [e]; rfl, fun q hq => ?_⟩
    rcases List.mem_cons.mp hq with rfl | hq
    · rfl
    · exact h q hq
section
variable {P : Program} {w : World} {K : PySem.W.Frag} {mg : Str → Option Value} {base : Heap}
abbrev st_copied : Stmt := top 15
def sp_copied : Sp := fun vs H Q _ => ∃ v d M, vs = [v] ∧ AnyV H v d ∧ GridD d M ∧ M.length ≤ 100 ∧ ∀ v' H', Same H H' → Mx H' v' M → Q v' H'
theorem sc_copied : FnScope ["rows", "row"] ["rows"] (defScope st_copied) := ⟨rfl, rfl, rfl, by decide +kernel, rfl, by decide +kernel, by decide +kernel⟩
theorem ok_copied {f : Addr} {fd : FuncData} (F : Fun K "copied" "copied" st_copied f fd) (T : Txt mg) : FnOk P w K mg base CX0 1 f fd ["rows"] sp_copied := by
  refine F.ok sc_copied (fun vs H Q E h => ?_) (fun cdv A outer s H vs Q E hr h => ?_)
  · obtain ⟨v, d, M, rfl, _⟩ := h
    rfl
  · obtain ⟨v, d, M, rfl, av, ⟨g1, g2, g3⟩, hb, q⟩ := h
    refine ⟨_, pss_one (ps_ret (pe_callTy (r := rTup K) c_tup (by rfl) T.tuple PyProof.Rows.boot_tuple (pa_cons (pe_lc (own := [("row", 1)]) (g := gName 1) (tt := tYes) rfl sc_copied.nd (pi_seq (pv 0))
        (blkOk_by (N := ["rows", "row"]) (sc := defScope st_copied) (by decide +kernel))
        (fun _ _ _ _ _ => pg_name (i := 1) sc_copied.nd rfl (Or.inl rfl) (Or.inr rfl)) (fun _ _ _ _ _ => pts_nil)
        (fun _ _ _ _ _ => pe_callTy (r := rTup K) c_tup (by rfl) T.tuple PyProof.Rows.boot_tuple (pa_cons (pv 1) pa_nil))) pa_nil))), ?_⟩
    obtain ⟨t, a, vx, rfl, qx, px⟩ := (seq_of av g1).at K
    have hvl : vx.length = M.length := by rw [pyVs_len px]; exact g2
    refine r_ret (r_cb (r_cons ?_))
    refine tlc_of (Its t K a) (H1 := H) (fun R hR => ⟨_, rfl, t, a, vx, rfl, qx H (Same.refl H), hR⟩) ?_
    refine lc_ks (p := none) M.length (fun i v H => ∃ r, M[i]? = some r ∧ RowV H v r) (fun i v H H' k h => ?_) has_none (by omega) (fun i H2 hi s2 => ?_) (fun H2 s2 => ?_) (fun i x H2 H3 C hi s2 _ hy hC => ?_) fun Da H2 rs nD s2 hD hrl hE => ?_
    · obtain ⟨r, e, h⟩ := h
      exact ⟨r, e, h.mono k⟩
    · exact its_go (qx H2 s2.same) (List.getElem?_eq_getElem (by rw [hvl]; exact hi))
    · exact its_stop (qx H2 s2.same) (by rw [hvl]; exact Nat.le_refl _)
    · obtain ⟨rfl, ex⟩ := its_yld hy (qx H2 s2.same)
      obtain ⟨d', ed, pd⟩ := pyVs_get px ex
      obtain ⟨r, er, hd⟩ := g3 i d' ed
      refine ⟨rfl, ?_⟩
      refine r_cb (r_cons ?_)
      refine ⟨_, rfl, ?_⟩
      rcases hd with rfl | rfl
      · cases pd with
        | lst e p =>
          have ez := pyVs_ints p
          subst ez
          exact ⟨_, _, rfl, .inl ⟨.inl (.inl (s2.same _ _ e)), fun l nl => hC _ _ (RX.new nl) ⟨r, er, l, rfl, upd_same⟩⟩⟩
      · cases pd with
        | tup e p =>
          have ez := pyVs_ints p
          subst ez
          exact ⟨_, _, rfl, .inr ⟨.inl (.inl (s2.same _ _ e)), hC _ _ (RX.refl _) ⟨r, er, _, rfl, s2.same _ _ e⟩⟩⟩
    · refine ⟨Da, rs, rfl, .inl ⟨.inl (.inl hD), fun l nl => ?_⟩⟩
      have k : Same H2 (upd H2 l (.tup rs)) := same_new nl
      refine q _ _ (s2.same.trans k) ⟨l, rs, rfl, upd_same, ?_⟩
      exact (rows_of hrl hE).mono (KS.of k)
abbrev st_across : Stmt := top 16
def sp_across : Sp := fun vs H Q _ => ∃ v M m, vs = [v] ∧ Mx H v M ∧ 0 < M.length ∧ M.length ≤ 3 ∧ m ≤ 100 ∧ (∀ r ∈ M, r.length = m) ∧ ∀ v' H', Same H H' → Mx H' v' (transp m M) → Q v' H'
theorem sc_across : FnScope ["rows", "column"] ["rows"] (defScope st_across) := ⟨rfl, rfl, rfl, by decide +kernel, rfl, by decide +kernel, by decide +kernel⟩
theorem transp_get {m j : Nat} {M : List (List Int)} (h : j < m) : (transp m M)[j]? = some (M.map fun r => r.getD j 0) := by
  unfold transp
  rw [List.getElem?_map, List.getElem?_range h]
  rfl
theorem transp_len {m : Nat} {M : List (List Int)} : (transp m M).length = m := by
  unfold transp
  rw [List.length_map, List.length_range]
theorem ok_across {f : Addr} {fd : FuncData} (F : Fun K "across" "across" st_across f fd) (T : Txt mg) : FnOk P w K mg base CX0 1 f fd ["rows"] sp_across := by
  refine F.ok sc_across (fun vs H Q E h => ?_) (fun cdv A outer s H vs Q E hr h => ?_)
  · obtain ⟨v, M, m, rfl, _⟩ := h
    rfl
  · obtain ⟨v, M, m, rfl, ⟨a, vx, rfl, ha, hR⟩, h0, h3, hm, hM, q⟩ := h
    refine ⟨_, pss_one (ps_ret (pe_callTy (r := rTup K) c_tup (by rfl) T.tuple PyProof.Rows.boot_tuple (pa_cons (pe_lc (own := [("column", 1)]) (g := gName 1) (tt := tYes) rfl sc_across.nd (pi_zipStar (by rfl) T.zip (pv 0))
        (blkOk_by (N := ["rows", "column"]) (sc := defScope st_across) (by decide +kernel))
        (fun _ _ _ _ _ => pg_name (i := 1) sc_across.nd rfl (Or.inl rfl) (Or.inr rfl)) (fun _ _ _ _ _ => pts_nil)
        (fun _ _ _ _ _ => pe_callTy (r := rTup K) c_tup (by rfl) T.tuple PyProof.Rows.boot_tuple (pa_cons (pv 1) pa_nil))) pa_nil))), ?_⟩
    obtain ⟨src, rfl, hs⟩ := rows_src hR
    have hsl : src.length = M.length := by
      have := hR.len
      unfold kRefs at this
      rw [List.length_map] at this
      exact this
    refine r_ret (r_cb (r_cons ?_))
    refine tlc_of (Itn K src) (H1 := H) (fun R hR' => ⟨_, rfl, a, src, rfl, .inl (.inl (.inl ha)), by omega, by omega, all_sq hR hs, hR'⟩) ?_
    refine lc_ks (p := none) m (fun i v H => ∃ r, (transp m M)[i]? = some r ∧ RowV H v r) (fun i v H H' k h => ?_) has_none (by omega) (fun i H2 hi s2 => ?_) (fun H2 s2 => ?_) (fun i x H2 H3 C hi s2 _ hy hC => ?_) fun Da H2 rs nD s2 hD hrl hE => ?_
    · obtain ⟨r, e, h⟩ := h
      exact ⟨r, e, h.mono k⟩
    · exact ⟨_, row_all hi (hR.mono (KS.of s2.same)) hs hM⟩
    · refine ⟨all_sq (hR.mono (KS.of s2.same)) hs, ?_⟩
      cases src with
      | nil => rw [List.length_nil] at hsl; omega
      | cons q src =>
        obtain ⟨t, b⟩ := q
        cases M with
        | nil => rw [List.length_nil] at h0; omega
        | cons r M =>
          cases hR with
          | cons p _ =>
            obtain ⟨b', eb, hb⟩ := p
            cases eb
            have e : t = true := hs _ List.mem_cons_self
            subst e
            exact ⟨_, List.mem_cons_self, _, .inl (.inl (s2.same _ _ hb)), by rw [List.length_map, hM r List.mem_cons_self]; exact Nat.le_refl _⟩
    · obtain ⟨T2, ys, rfl, nT, rfl, hu⟩ := hy
      have ey := (hu _ (row_all hi (hR.mono (KS.of s2.same)) hs hM)).symm
      subst ey
      refine ⟨rfl, ?_⟩
      refine r_cb (r_cons ?_)
      refine ⟨_, rfl, ?_⟩
      refine ⟨T2, _, rfl, .inr ⟨.inl (.inl upd_same), hC _ _ (RX.new nT) ⟨_, transp_get hi, T2, rfl, ?_⟩⟩⟩
      rw [upd_same, List.map_map]
      rfl
    · refine ⟨Da, rs, rfl, .inl ⟨.inl (.inl hD), fun l nl => ?_⟩⟩
      have k : Same H2 (upd H2 l (.tup rs)) := same_new nl
      refine q _ _ (s2.same.trans k) ⟨l, rs, rfl, upd_same, ?_⟩
      exact (rows_of (by rw [hrl, transp_len]) hE).mono (KS.of k)
end
end T24
set_option Elab.async false
set_option linter.all false
set_option maxRecDepth 100000
set_option maxHeartbeats 1000000
namespace Ct
open PySem PySem.Spec PyProof.Rows L2 Gd Zn Rp Dn Tb
section
variable {X : Cx}
def rCat (x y : V) (H : Hp) (Q : VK) : Prop := ∃ a b xs ys, x = .ref a ∧ y = .ref b ∧ H a = some (.tup xs) ∧ H b = some (.tup ys) ∧ xs.length + ys.length ≤ 1000 ∧ ∀ c H', Same H H' → H' c = some (.tup (xs ++ ys)) → Q (.ref c) H'
end
end Ct
set_option Elab.async false
set_option linter.all false
set_option maxRecDepth 100000
set_option maxHeartbeats 1000000
namespace T24
open PySem PySem.Spec PyProof.Rows L2 Gd Zn Rp Dn Tb Gn En Zs Ct
def ledM (M : List (List Int)) (xs : List Int) : List Int := M.map fun r => dot r xs
def mulM (n : Nat) (M N : List (List Int)) : List (List Int) := M.map fun r => ledM (transp n N) r
end T24
set_option Elab.async false
set_option linter.all false
set_option maxRecDepth 100000
set_option maxHeartbeats 1000000
namespace Tb
open PySem PySem.Spec PyProof.Rows L2 Gd Zn Rp Dn
end Tb
set_option Elab.async false
set_option linter.all false
set_option maxRecDepth 100000
set_option maxHeartbeats 1000000
namespace T24
open PySem PySem.Spec PyProof.Rows L2 Gd Zn Rp Dn Tb Gn En Zs Ct
def cutAt (k : Nat) (r : List Int) : List Int := r.take k ++ r.drop (k + 1)
def outW (M : List (List Int)) (at_ k : Nat) (i : Nat) : List (List Int) := ((List.range i).filter fun j => !decide (j = at_)).map fun j => cutAt k (M.getD j [])
def outM (M : List (List Int)) (at_ k : Nat) : List (List Int) := outW M at_ k M.length
theorem cutV_to (r : List Int) (k : Nat) (h : k ≤ r.length) : cutV (r.map V.int) none (some (k : Int)) = (r.take k).map V.int := by
  unfold cutV
  rw [HT.sIx_nat, HT.sIx_none, List.length_map, List.drop_zero, Nat.min_eq_left h, Nat.sub_zero, List.map_take]
theorem cutV_from (r : List Int) (k : Nat) (h : k ≤ r.length) : cutV (r.map V.int) (some (k : Int)) none = (r.drop k).map V.int := by
  unfold cutV
  rw [HT.sIx_nat, HT.sIx_none, List.length_map, Nat.min_eq_left h, List.map_drop]
  exact List.take_of_length_le (by rw [List.length_drop, List.length_map]; exact Nat.le_refl _)
end T24
set_option Elab.async false
set_option linter.all false
set_option maxRecDepth 100000
set_option maxHeartbeats 1000000
namespace T24
open PySem PySem.Spec PyProof.Rows L2 Gd Zn Rp Dn Tb Gn En Zs Ct
mutual
def detM : Nat → List (List Int) → Int
  | 0, _ => 1
  | n + 1, M => ((List.range (n + 1)).map fun k => (M.getD 0 []).getD k 0 * cofM n M 0 k).sum
def cofM : Nat → List (List Int) → Nat → Nat → Int
  | n, M, a, k => if (a + k) % 2 = 0 then detM n (outM M a k) else -detM n (outM M a k)
end
structure Sq (n : Nat) (M : List (List Int)) : Prop where
  len : M.length = n
  row : ∀ r ∈ M, r.length = n
  small : ∀ r ∈ M, ∀ x ∈ r, Small x
section
variable {P : Program} {w : World} {K : PySem.W.Frag} {mg : Str → Option Value} {base : Heap}
theorem len2 {α : Type} {l : List α} (h : l.length = 2) : ∃ a b, l = [a, b] := by
  match l, h with
  | [a, b], _ => exact ⟨a, b, rfl⟩
theorem det2 (a b c d : Int) : detM 2 [[a, b], [c, d]] = a * d - b * c := by
  simp [detM, cofM, outM, outW, cutAt, List.range_succ, List.getD]
  grind
end
end T24
set_option Elab.async false
set_option linter.all false
set_option maxRecDepth 100000
set_option maxHeartbeats 1000000
namespace Op
open PySem PySem.Spec PyProof.Rows L2
end Op
set_option Elab.async false
set_option linter.all false
set_option maxRecDepth 100000
set_option maxHeartbeats 1000000
namespace T24
open PySem PySem.Spec PyProof.Rows L2 Gd Zn Rp Dn Tb Gn En Zs Ct Op
def fldsT (r : V) : List (Str × V) := putF "_rows" r []
theorem fldsT_rows (r : V) : (fldsT r).lookup ("_rows" : Str) = some r := by
  unfold fldsT
  rw [lookup_putF, if_pos rfl]
def Tab (C : Addr) (H : Hp) (v : V) (M : List (List Int)) : Prop := ∃ p dx r, v = .ref p ∧ H p = some (.ins C dx (fldsT r)) ∧ Mx H r M
theorem Tab.mono {C : Addr} {H H' : Hp} {v : V} {M : List (List Int)} (s : KS H H') (h : Tab C H v M) : Tab C H' v M := by
  obtain ⟨p, dx, r, e, h, m⟩ := h
  exact ⟨p, dx, r, e, s p _ (fun _ z => by cases z) h, m.mono s⟩
theorem RowsV.tup_mono {H H' : Hp} {vs : List V} {M : List (List Int)} (s : ∀ c xs, H c = some (.tup xs) → H' c = some (.tup xs)) (h : RowsV H vs M) : RowsV H' vs M := by
  induction h with
  | nil => exact .nil
  | cons p _ ih =>
    obtain ⟨b, e, h⟩ := p
    exact .cons ⟨b, e, s _ _ h⟩ ih
theorem Mx.tup_mono {H H' : Hp} {v : V} {M : List (List Int)} (s : ∀ c xs, H c = some (.tup xs) → H' c = some (.tup xs)) (h : Mx H v M) : Mx H' v M := by
  obtain ⟨a, vs, e, h, r⟩ := h
  exact ⟨a, vs, e, s _ _ h, T24.RowsV.tup_mono s r⟩
structure Tcl (K : PySem.W.Frag) (mg : Str → Option Value) (C : Addr) : Prop where
  cl : Cls K C
  nR : NoAttr K C "_rows"
  mgC : mg "Table" = some (.ref C)
  cc : PySem.W.findIn K (.ref C) "__class__" = some (some (.builtin "object.__class__"))
  cg : PySem.W.specialIn K (.builtin "object.__class__") "__get__" = some (some (.builtin "getset_descriptor.__get__"))
  ct : PySem.W.takesIn K (.builtin "object.__class__") = some true
  cm : PySem.W.mroIn K C (.type "object") = some true
theorem Tcl.ty {K : PySem.W.Frag} {mg : Str → Option Value} {C : Addr} (T : Tcl K mg C) {H : Hp} {p dx : Addr} {fs : List (Str × V)} (h : H p = some (.ins C dx fs)) : TyX K H (.ref p) (.ref C) := .base (.ins h T.cl T.cc T.cg T.ct T.cm)
theorem kit_own (K : PySem.W.Frag) (C : Addr) : PySem.W.kitOne K (.ref C) (.ref C) = some true := by
  unfold PySem.W.kitOne
  rw [if_pos (by simp)]
theorem row_true {n : Nat} {r : List Int} {d : PyData} (hd : d = .list (iD r) ∨ d = .tuple (iD r)) (h1 : 1 ≤ n) (h3 : n ≤ 3) (hl : r.length = n) : rowOfB n d = true := by
  have e1 : isSeq d = true := by rcases hd with rfl | rfl <;> rfl
  have e2 : items d = iD r := by rcases hd with rfl | rfl <;> rfl
  have e3 : (iD r).length = n := by unfold iD; rw [List.length_map]; exact hl
  have e4 : (iD r).all isIntD = true := by
    unfold iD
    rw [List.all_map]
    simp [isIntD, Function.comp_def]
  unfold rowOfB rowB
  rw [e1, e2, e3, e4, decide_eq_true h1, decide_eq_true h3, decide_eq_true rfl]
  rfl
theorem grid_true {n : Nat} {d : PyData} {M : List (List Int)} (g : GridD d M) (h1 : 1 ≤ n) (h3 : n ≤ 3) (hS : Sq n M) : gridB d = true ∧ ∀ r ∈ items d, (items r).length = n := by
  obtain ⟨g1, g2, g3⟩ := g
  have hl : (items d).length = n := by rw [g2]; exact hS.len
  have hr : ∀ d' ∈ items d, ∃ r, r.length = n ∧ (d' = .list (iD r) ∨ d' = .tuple (iD r)) := fun d' hd => by
    obtain ⟨i, hi, e⟩ := List.getElem_of_mem hd
    obtain ⟨r, er, h⟩ := g3 i d' (by rw [List.getElem?_eq_getElem hi, e])
    exact ⟨r, hS.row r (List.mem_of_getElem? er), h⟩
  refine ⟨?_, fun d' hd => ?_⟩
  · unfold gridB
    rw [g1, hl, decide_eq_true (show 0 < n by omega), Bool.and_true, Bool.true_and, List.all_eq_true]
    intro d' hd
    obtain ⟨r, l, h⟩ := hr d' hd
    exact row_true h h1 h3 l
  · obtain ⟨r, l, h⟩ := hr d' hd
    rcases h with rfl | rfl
    · show (iD r).length = n
      unfold iD
      rw [List.length_map]; exact l
    · show (iD r).length = n
      unfold iD
      rw [List.length_map]; exact l
section
variable {P : Program} {w : World} {K : PySem.W.Frag} {mg : Str → Option Value} {base : Heap} {C : Addr}
def sp_init (C : Addr) : Sp := fun vs H Q _ => ∃ p dx v d M n, vs = [.ref p, v] ∧ H p = some (.ins C dx []) ∧ AnyV H v d ∧ GridD d M ∧ Sq n M ∧ 1 ≤ n ∧ n ≤ 3 ∧ (detM n M = 1 ∨ detM n M = -1) ∧
  ∀ H', (∀ c o, c ≠ p → H c = some o → H' c = some o) → Tab C H' (.ref p) M → Q .non H'
end
end T24
set_option Elab.async false
set_option linter.all false
set_option maxRecDepth 100000
set_option maxHeartbeats 1000000
namespace T24
open PySem PySem.Spec PyProof.Rows L2 Gd Zn Rp Dn Tb Gn En Zs Ct Op
structure Prp (P : Program) (w : World) (K : PySem.W.Frag) (mg : Str → Option Value) (base : Heap) (C : Addr) (nm : Str) (k : Nat) (sp : Sp) : Prop where
  ex : ∃ (p g : Addr) (fd : FuncData), PropOf K C nm p g ∧ FnOk P w K mg base CX0 k g fd ["self"] sp ∧ Binds K fd ["self"] []
theorem pe_prp {X : Cx} {C : Addr} {nm : Str} {k j : Nat} {sp : Sp} {e : Expr} {ta : TE} {pos : Pos} (D : Prp X.prog X.w X.K X.mg X.base C nm k sp) (cl : Cls X.K C) (room : Room j X.A) (he : PE X e ta) (hkj : k + 1 ≤ j := by decide)
    (ha : PySem.attributeBase e nm X.env (PySem.eval e X.env) = PySem.eval e X.env := by rfl) : PE X (.Attribute e nm pos) (tProp C sp [] E0 ta) := by
  obtain ⟨p, g, fd, pr, G, b⟩ := D.ex
  exact pe_prop he cl pr G (room.mono hkj) b .nil pass0 ha
section
variable {P : Program} {w : World} {K : PySem.W.Frag} {mg : Str → Option Value} {base : Heap} {C : Addr}
def sp_rows (C : Addr) : Sp := fun vs H Q _ => ∃ v M, vs = [v] ∧ Tab C H v M ∧ ∀ r, Mx H r M → Q r H
def sp_size (C : Addr) : Sp := fun vs H Q _ => ∃ v M, vs = [v] ∧ Tab C H v M ∧ Q (.int M.length) H
end
end T24
set_option Elab.async false
set_option linter.all false
set_option maxRecDepth 100000
set_option maxHeartbeats 1000000
set_option Elab.async false
set_option linter.all false
set_option maxRecDepth 100000
set_option maxHeartbeats 1000000
set_option Elab.async false
set_option linter.all false
set_option maxRecDepth 100000
set_option maxHeartbeats 1000000
namespace T24
open PySem PySem.Spec PyProof.Rows L2 Gd Zn Rp Dn Tb Gn En Zs Ct Op
def unitM (n : Nat) : List (List Int) := (List.range n).map fun i => (List.range n).map fun j => if j = i then 1 else 0
theorem unit_sq (n : Nat) : Sq n (unitM n) := by
  refine ⟨by unfold unitM; simp, fun r hr => ?_, fun r hr x hx => ?_⟩
  · unfold unitM at hr
    rw [List.mem_map] at hr
    obtain ⟨i, _, rfl⟩ := hr
    simp
  · unfold unitM at hr
    rw [List.mem_map] at hr
    obtain ⟨i, _, rfl⟩ := hr
    rw [List.mem_map] at hx
    obtain ⟨j, _, rfl⟩ := hx
    show Small (if j = i then 1 else 0)
    by_cases h : j = i
    · rw [if_pos h]; exact Wd.lit ⟨by decide, by decide⟩
    · rw [if_neg h]; exact Wd.lit ⟨by decide, by decide⟩
section
variable {P : Program} {w : World} {K : PySem.W.Frag} {mg : Str → Option Value} {base : Heap} {C : Addr}
theorem det_unit (n : Nat) (h : n ≤ 3) : detM n (unitM n) = 1 := by
  have : n = 0 ∨ n = 1 ∨ n = 2 ∨ n = 3 := by omega
  rcases this with rfl | rfl | rfl | rfl <;> simp [detM, cofM, unitM, outM, outW, cutAt, List.range_succ, List.getD]
end
end T24
set_option Elab.async false
set_option linter.all false
set_option maxRecDepth 100000
set_option maxHeartbeats 1000000
namespace T24
open PySem PySem.Spec PyProof.Rows L2 Gd Zn Rp Dn Tb Gn En Zs Ct Op
theorem eqv_row : ∀ (r t : List Int), PyData.eqvAll (r.map PyData.int) (t.map PyData.int) = decide (r = t)
  | [], [] => by simp [PyData.eqvAll]
  | [], _ :: _ => by simp [PyData.eqvAll]
  | _ :: _, [] => by simp [PyData.eqvAll]
  | x :: r, y :: t => by
    rw [List.map_cons, List.map_cons, PyData.eqvAll, eqv_row r t, PyData.eqv]
    by_cases h : x = y <;> by_cases h2 : r = t <;> simp [h, h2]
theorem eqv_rows : ∀ (M N : List (List Int)), PyData.eqvAll (M.map fun r => .tuple (r.map PyData.int)) (N.map fun r => .tuple (r.map PyData.int)) = decide (M = N)
  | [], [] => by simp [PyData.eqvAll]
  | [], _ :: _ => by simp [PyData.eqvAll]
  | _ :: _, [] => by simp [PyData.eqvAll]
  | x :: r, y :: t => by
    rw [List.map_cons, List.map_cons, PyData.eqvAll, eqv_rows r t, PyData.eqv, eqv_row]
    by_cases h : x = y <;> by_cases h2 : r = t <;> simp [h, h2]
theorem eqv_mx (M N : List (List Int)) : (mxD M).eqv (mxD N) = decide (M = N) := by
  unfold mxD
  rw [PyData.eqv, eqv_rows]
theorem dp_ints {K : PySem.W.Frag} {H : Hp} : ∀ r : List Int, DpAll K H (r.map V.int) (r.map PyData.int)
  | [] => .nil
  | x :: r => .cons (.int x) (dp_ints r)
theorem dp_rows {K : PySem.W.Frag} {H : Hp} {vs : List V} {M : List (List Int)} (h : RowsV H vs M) : DpAll K H vs (M.map fun r => .tuple (r.map PyData.int)) := by
  induction h with
  | nil => exact .nil
  | cons p _ ih =>
    obtain ⟨b, rfl, hb⟩ := p
    exact .cons (.tup (.inl (.inl hb)) (dp_ints _)) ih
theorem dp_mx {K : PySem.W.Frag} {H : Hp} {v : V} {M : List (List Int)} (h : Mx H v M) : Dp K H v (mxD M) := by
  obtain ⟨a, vs, rfl, ha, hR⟩ := h
  exact .tup (.inl (.inl ha)) (dp_rows hR)
theorem depth_row (r : List Int) : PyData.depthAll (r.map PyData.int) = 0 := by
  induction r with
  | nil => simp [PyData.depthAll]
  | cons x r ih => rw [List.map_cons, PyData.depthAll, ih, PyData.depth]; rfl
theorem depth_rows (M : List (List Int)) : PyData.depthAll (M.map fun r => .tuple (r.map PyData.int)) ≤ 1 := by
  induction M with
  | nil => simp [PyData.depthAll]
  | cons x r ih =>
    rw [List.map_cons, PyData.depthAll, PyData.depth, depth_row]
    omega
theorem lay_row (r : List Int) : PyData.canLayAll0 (r.map PyData.int) = true := by
  induction r with
  | nil => simp [PyData.canLayAll0]
  | cons x r ih => rw [List.map_cons, PyData.canLayAll0, ih, PyData.canLay0]; rfl
theorem lay_rows (M : List (List Int)) : PyData.canLayAll0 (M.map fun r => .tuple (r.map PyData.int)) = true := by
  induction M with
  | nil => simp [PyData.canLayAll0]
  | cons x r ih => rw [List.map_cons, PyData.canLayAll0, ih, PyData.canLay0, lay_row]; rfl
theorem shaped_mx (M : List (List Int)) : SeqAt.shaped (mxD M) = true := by
  unfold SeqAt.shaped mxD
  rw [PyData.canLay0, lay_rows, PyData.depth]
  have := depth_rows M
  simp
  omega
section
variable {P : Program} {w : World} {K : PySem.W.Frag} {mg : Str → Option Value} {base : Heap} {C : Addr}
theorem Tab.same {H H' : Hp} {v : V} {M : List (List Int)} (s : Same H H') (h : Tab C H v M) : Tab C H' v M := T24.Tab.mono (KS.of s) h
end
end T24
set_option Elab.async false
set_option linter.all false
set_option maxRecDepth 100000
set_option maxHeartbeats 1000000
namespace T24
open PySem PySem.Spec PyProof.Rows L2 Gd Zn Rp Dn Tb Gn En Zs Ct Op
theorem atI_of {α : Type} {xs : List α} {r : Int} {x : α} (h : 0 ≤ r) (e : xs[r.toNat]? = some x) : atI xs r = some x := by
  have := atI_nat e
  rw [show ((r.toNat : Nat) : Int) = r by omega] at this
  exact this
theorem set_pot {p : Addr} {H H1 : Hp} {a b : Int} (s : Same H H1) (ha : 0 ≤ a) (hb : 0 ≤ b) (hb2 : b < 2 ^ 32) : RX (some p) H (upd H1 p (.lst [.int a, .int b])) := by
  refine ⟨fun c o n e => ?_, fun q e _ => ?_⟩
  · have nc : c ≠ p := fun z => n (by rw [z])
    rw [upd_ne nc]
    exact s _ _ e
  · cases e
    exact ⟨a, b, upd_same, ha, hb, hb2⟩
section
variable {P : Program} {w : World} {K : PySem.W.Frag} {mg : Str → Option Value} {base : Heap} {C : Addr}
abbrev st_draw : Stmt := top 28
def sp_draw : Sp := fun vs H Q _ => ∃ (p : Addr) (m : Int), vs = [.ref p, .int m] ∧ PotOk H p ∧ 0 < m ∧ m < 100000 ∧ ∀ (r : Int) H', 0 ≤ r → r < m → RX (some p) H H' → Q (.int r) H'
theorem sc_draw : FnScope ["_law_pot_here", "_law_size", "_law_digit"] ["_law_pot_here", "_law_size"] (defScope st_draw) := ⟨rfl, rfl, rfl, by decide +kernel, rfl, by decide +kernel, by decide +kernel⟩
theorem ok_draw {f : Addr} {fd : FuncData} (F : Fun K "_law_draw" "_law_draw" st_draw f fd) (T : Txt mg) : FnOk P w K mg base CX0 1 f fd ["_law_pot_here", "_law_size"] sp_draw := by
  refine F.ok sc_draw (fun vs H Q E h => ?_) (fun cdv A outer s H vs Q E hr h => ?_)
  · obtain ⟨p, m, rfl, _⟩ := h
    rfl
  · obtain ⟨p, m, rfl, ⟨a, b, hp, ha, hb, hb2⟩, m0, m1, q⟩ := h
    refine ⟨_, pss_cons (ps_if (pt_cmpR op_gt (pe_ix ix_list (pv 0) pe_int (fun _ _ => rfl)) pe_int (nomark _))
        (pss_cons (ps_asg (pe_callB call_divmod (by rfl) T.divmod boot_divmod (pa_cons (pe_ix ix_list (pv 0) pe_int (fun _ _ => rfl)) (pa_cons (pv 1) pa_nil)))
          (pg_tup rfl (pgs_cons (pg_sub (pv 0) pe_int set_list) (pgs_cons (pg_name (i := 2) sc_draw.nd rfl (Or.inl rfl)) pgs_nil)))) (pss_one (ps_ret (pv 2)))) pss_nil)
      (pss_cons (ps_asg (pe_op op_mod (pe_callTy call_int1 (by rfl) T.int PyProof.Rows.boot_int (pa_cons (pe_op op_add (pe_op op_mul (pe_ix ix_list (pv 0) pe_int (fun _ _ => rfl)) pe_int) pe_int) pa_nil)) pe_int) (pg_sub (pv 0) pe_int set_list))
      (pss_one (ps_ret (pe_op op_mod (pe_callTy call_int1 (by rfl) T.int PyProof.Rows.boot_int (pa_cons (pe_op op_fdiv (pe_op op_mod (pe_callTy call_int1 (by rfl) T.int PyProof.Rows.boot_int (pa_cons (pe_op op_mul (pe_ix ix_list (pv 0) pe_int (fun _ _ => rfl)) (pe_ix ix_list (pv 0) pe_int (fun _ _ => rfl))) pa_nil)) pe_int) pe_int) pa_nil)) (pv 1))))), ?_⟩
    have i0 : ∀ x y : V, atI [x, y] 0 = some x := fun x y => atI_nat (j := 0) rfl
    have i1 : ∀ x y : V, atI [x, y] 1 = some y := fun x y => atI_nat (j := 1) rfl
    refine ⟨_, rfl, p, _, (0 : Int), _, rfl, rfl, .inl (.inl hp), i0 _ _, _, _, rfl, rfl, _, rfl, ?_⟩
    by_cases c : 0 < a
    · rw [decide_eq_true c]
      refine iteT ?_
      refine ⟨_, rfl, p, _, (0 : Int), _, rfl, rfl, .inl (.inl hp), i0 _ _, _, rfl, _, _, rfl, ⟨m0, by omega⟩, fun t nt => ?_⟩
      have ne : p ≠ t := ne_of_none hp nt
      refine ⟨t, _, rfl, .inl (.inl upd_same), rfl, _, _, rfl, _, rfl, p, _, 0, 0, rfl, rfl, (by rw [upd_ne ne]; exact hp), rfl, _, _, rfl, rfl, ?_⟩
      refine ⟨_, rfl, ?_⟩
      refine q _ _ (Int.emod_nonneg _ (by omega)) (Int.emod_lt_of_pos _ m0) ?_
      exact set_pot (same_new nt) (Int.ediv_nonneg ha (by omega)) hb hb2
    · rw [decide_eq_false c]
      refine iteF ?_
      have hb' : (b * 39373 + 149) % 2147483587 < 2147483587 := Int.emod_lt_of_pos _ (by decide)
      have hb0 : 0 ≤ (b * 39373 + 149) % 2147483587 := Int.emod_nonneg _ (by decide)
      refine ⟨_, rfl, p, _, (1 : Int), _, rfl, rfl, .inl (.inl hp), i1 _ _, _, _, rfl, rfl, .inr ⟨by decide, by decide⟩, _, _, rfl, rfl, .inl ⟨_, rfl, _, _, rfl, rfl, (show (0 : Int) < 2147483587 by decide), _, rfl, p, _, 1, 1, rfl, rfl, hp, rfl, ?_⟩⟩
      have h2 : upd H p (.lst [V.int a, V.int ((b * 39373 + 149) % 2147483587)]) p = some (.lst [V.int a, V.int ((b * 39373 + 149) % 2147483587)]) := upd_same
      refine ⟨_, rfl, p, _, (1 : Int), _, rfl, rfl, .inl (.inl h2), i1 _ _, _, rfl, p, _, (1 : Int), _, rfl, rfl, .inl (.inl h2), i1 _ _, _, _, rfl, rfl, .inl ⟨by omega, by omega⟩, .inl ⟨_, rfl, _, _, rfl, rfl, (show (0 : Int) < 2147483563 by decide), _, _, rfl, rfl, ⟨by decide, by decide⟩, .inl ⟨_, rfl, _, rfl, _, _, rfl, rfl, m0, ?_⟩⟩⟩
      exact q _ _ (Int.emod_nonneg _ (by omega)) (Int.emod_lt_of_pos _ m0) (set_pot (Same.refl H) ha hb0 (by omega))
end
end T24
set_option Elab.async false
set_option linter.all false
set_option maxRecDepth 100000
set_option maxHeartbeats 1000000
namespace T24
open PySem PySem.Spec PyProof.Rows L2 Gd Zn Rp Dn Tb Gn En Zs Ct Op
section
variable {P : Program} {w : World} {K : PySem.W.Frag} {mg : Str → Option Value} {base : Heap} {C : Addr}
abbrev st_pot : Stmt := top 27
def sp_pot (K : PySem.W.Frag) : Sp := fun vs H Q _ => ∃ (a : Addr) (ns : List Int) (k : Int), vs = [.ref a, .int k] ∧ SqL K H a (ns.map V.int) ∧ ns.length ≤ 63 ∧ 0 ≤ k ∧ k ≤ 2 ∧ ∀ p H', H p = none → Same H H' → PotOk H' p → Q (.ref p) H'
theorem sc_pot : FnScope ["_law_script", "_law_k", "_law_cell"] ["_law_script", "_law_k"] (defScope st_pot) := ⟨rfl, rfl, rfl, by decide +kernel, rfl, by decide +kernel, by decide +kernel⟩
theorem ok_pot {f : Addr} {fd : FuncData} (F : Fun K "_law_pot" "_law_pot" st_pot f fd) (T : Txt mg) : FnOk P w K mg base CX0 1 f fd ["_law_script", "_law_k"] (sp_pot K) := by
  refine F.ok sc_pot (fun vs H Q E h => ?_) (fun cdv A outer s H vs Q E hr h => ?_)
  · obtain ⟨a, ns, k, rfl, _⟩ := h
    rfl
  · obtain ⟨a, ns, k, rfl, hS, hl, k0, k1, q⟩ := h
    refine ⟨_, pss_cons (ps_set (i := 2) sc_pot.nd rfl (Or.inl rfl) (pe_ifExp (pt_cmpR op_lt (pv 1) (pe_callB (r := Dn.rLen K) c_len (by rfl) T.len PySem.boot_len (pa_cons (pv 0) pa_nil)) (nomark _))
        (pe_callB call_abs (by rfl) T.abs boot_abs (pa_cons (pe_ix ix_list (pv 0) (pv 1) (fun _ _ => rfl)) pa_nil)) (pe_op op_add (pe_op op_mul pe_int (pv 1)) pe_int)))
      (pss_one (ps_ret (pe_lst (pa_cons (pe_callB (call_max2 rfl) (by rfl) T.max boot_max (pa_cons pe_int (pa_cons (pe_op op_sub (pv 2) (pe_op op_pow pe_int pe_int)) pa_nil)))
        (pa_cons (pe_op op_add (pe_op op_mod (pe_callTy call_int1 (by rfl) T.int PyProof.Rows.boot_int (pa_cons (pe_op op_add (pe_op op_add (pe_op op_mul (pe_op op_mod (pe_callTy call_int1 (by rfl) T.int PyProof.Rows.boot_int (pa_cons (pv 2) pa_nil)) pe_int) pe_int) (pe_op op_mul pe_int (pv 1))) pe_int) pa_nil)) pe_int) pe_int) pa_nil))))), ?_⟩
    have fin : ∀ (c : Int) (H1 : Hp), Same H H1 → ∀ p, H1 p = none → Q (.ref p) (upd H1 p (.lst [.int (if c - 10 ^ 18 > 0 then c - 10 ^ 18 else 0), .int ((c % 2147483549 * 40459 + 1009 * k + 71) % 2147483563 + 1)])) := fun c H1 s1 p np => by
      refine q p _ (Same.free s1 np) (s1.trans (same_new np)) ⟨_, _, upd_same, ?_, ?_, ?_⟩
      · split <;> omega
      · have := Int.emod_nonneg (c % 2147483549 * 40459 + 1009 * k + 71) (show (2147483563 : Int) ≠ 0 by decide)
        omega
      · have := Int.emod_lt_of_pos (c % 2147483549 * 40459 + 1009 * k + 71) (show (0 : Int) < 2147483563 by decide)
        omega
    have m1 : ∀ c : Int, 0 ≤ c % 2147483549 := fun c => Int.emod_nonneg c (show (2147483549 : Int) ≠ 0 by decide)
    have m2 : ∀ c : Int, c % 2147483549 < 2147483549 := fun c => Int.emod_lt_of_pos c (show (0 : Int) < 2147483549 by decide)
    refine ⟨_, rfl, _, rfl, a, _, rfl, .inl hS, _, _, rfl, rfl, _, rfl, ?_⟩
    rw [List.length_map]
    by_cases c : k < (ns.length : Int)
    · rw [decide_eq_true c]
      refine iteT ?_
      have hk : k.toNat < ns.length := by omega
      have e1 : (ns.map V.int)[k.toNat]? = some (.int ns[k.toNat]) := by simp [hk]
      refine ⟨_, rfl, _, rfl, a, _, _, _, rfl, rfl, hS, atI_of k0 e1, _, rfl, ?_⟩
      refine ⟨_, rfl, _, _, rfl, rfl, ⟨by decide, by decide, by decide⟩, _, _, rfl, rfl, _, _, rfl, ?_⟩
      refine ⟨_, rfl, .inl ⟨_, rfl, _, _, rfl, rfl, (show (0 : Int) < 2147483549 by decide), _, _, rfl, rfl, .inr ⟨by decide, by decide⟩, _, rfl, _, _, rfl, rfl, .inl ⟨by decide, by decide⟩, _, _, rfl, rfl, _, _, rfl, rfl, .inl ⟨_, rfl, _, _, rfl, rfl, (show (0 : Int) < 2147483563 by decide), _, _, rfl, rfl, ?_⟩⟩⟩
      exact ⟨(by show 2 ≤ sizeLine; decide), fun p np => fin _ H (Same.refl H) p np⟩
    · rw [decide_eq_false c]
      refine iteF ?_
      refine ⟨_, rfl, _, _, rfl, rfl, .inl ⟨by decide, by decide⟩, _, _, rfl, rfl, ?_⟩
      refine ⟨_, rfl, _, _, rfl, rfl, ⟨by decide, by decide, by decide⟩, _, _, rfl, rfl, _, _, rfl, ?_⟩
      refine ⟨_, rfl, .inl ⟨_, rfl, _, _, rfl, rfl, (show (0 : Int) < 2147483549 by decide), _, _, rfl, rfl, .inr ⟨by decide, by decide⟩, _, rfl, _, _, rfl, rfl, .inl ⟨by decide, by decide⟩, _, _, rfl, rfl, _, _, rfl, rfl, .inl ⟨_, rfl, _, _, rfl, rfl, (show (0 : Int) < 2147483563 by decide), _, _, rfl, rfl, ?_⟩⟩⟩
      exact ⟨(by show 2 ≤ sizeLine; decide), fun p np => fin _ H (Same.refl H) p np⟩
end
end T24
set_option Elab.async false
set_option linter.all false
set_option maxRecDepth 100000
set_option maxHeartbeats 1000000
set_option Elab.async false
set_option linter.all false
set_option maxRecDepth 100000
set_option maxHeartbeats 1000000
namespace Tb
open PySem PySem.Spec PyProof.Rows L2 Gd Zn Rp Dn
end Tb
set_option Elab.async false
set_option linter.all false
set_option maxRecDepth 100000
set_option maxHeartbeats 1000000
set_option Elab.async false
set_option linter.all false
set_option maxRecDepth 100000
set_option maxHeartbeats 1000000
namespace T24
open PySem PySem.Spec PyProof.Rows L2 Gd Zn Rp Dn Tb Gn En Zs Ct Op
theorem len3 {α : Type} {l : List α} (h : l.length = 3) : ∃ a b c, l = [a, b, c] := by
  match l, h with
  | [a, b, c], _ => exact ⟨a, b, c, rfl⟩
theorem len1 {α : Type} {l : List α} (h : l.length = 1) : ∃ a, l = [a] := by
  match l, h with
  | [a], _ => exact ⟨a, rfl⟩
theorem det1 (a : Int) : detM 1 [[a]] = a := by
  simp [detM, cofM, outM, outW, cutAt, List.range_succ, List.getD]
theorem det3 (a b c d e f g h i : Int) : detM 3 [[a, b, c], [d, e, f], [g, h, i]] = a * (e * i - f * h) - b * (d * i - f * g) + c * (d * h - e * g) := by
  simp [detM, cofM, outM, outW, cutAt, List.range_succ, List.getD]
  grind
end T24
set_option Elab.async false
set_option linter.all false
set_option maxRecDepth 100000
set_option maxHeartbeats 2000000
namespace T24
open PySem PySem.Spec PyProof.Rows L2 Gd Zn Rp Dn Tb Gn En Zs Ct Op
structure SqB (n : Nat) (B : Int) (M : List (List Int)) : Prop where
  len : M.length = n
  row : ∀ r ∈ M, r.length = n
  bd : ∀ r ∈ M, ∀ x ∈ r, -B ≤ x ∧ x ≤ B
theorem SqB.mono {n : Nat} {B B' : Int} {M : List (List Int)} (h : SqB n B M) (k : B ≤ B') : SqB n B' M := ⟨h.len, h.row, fun r hr x hx => by have := h.bd r hr x hx; omega⟩
theorem SqB.sq {n : Nat} {B : Int} {M : List (List Int)} (h : SqB n B M) (k : B < 2 ^ 64) : Sq n M := ⟨h.len, h.row, fun r hr x hx => by
  have := h.bd r hr x hx
  exact Wd.lit ⟨by omega, by omega⟩⟩
theorem getD_mem {M : List (List Int)} {i : Nat} (h : i < M.length) : M.getD i [] ∈ M := by
  rw [List.getD_eq_getElem?_getD, List.getElem?_eq_getElem h]
  exact List.getElem_mem h
theorem SqB.set {n : Nat} {B : Int} {M : List (List Int)} (h : SqB n B M) (i : Nat) {r : List Int} (hl : r.length = n) (hb : ∀ x ∈ r, -B ≤ x ∧ x ≤ B) : SqB n B (M.set i r) := by
  refine ⟨by rw [List.length_set]; exact h.len, fun s hs => ?_, fun s hs => ?_⟩
  · rcases List.mem_or_eq_of_mem_set hs with hs | rfl
    · exact h.row s hs
    · exact hl
  · rcases List.mem_or_eq_of_mem_set hs with hs | rfl
    · exact h.bd s hs
    · exact hb
theorem unit_sqB (n : Nat) : SqB n 1 (unitM n) := ⟨(unit_sq n).len, (unit_sq n).row, fun r hr x hx => by
  unfold unitM at hr
  rw [List.mem_map] at hr
  obtain ⟨i, _, rfl⟩ := hr
  rw [List.mem_map] at hx
  obtain ⟨j, _, rfl⟩ := hx
  by_cases h : j = i
  · rw [if_pos h]; exact ⟨by decide, by decide⟩
  · rw [if_neg h]; exact ⟨by decide, by decide⟩⟩
theorem tlc_call {wi : TI} {g : TG} {tt : TT} {te : TE} {vs : List Nat} {σ : L2.St} {H : Hp} {Q : VK} (h : wi σ H fun J H1 => LcB g tt te vs σ Q J H1) : tLc wi g tt te vs σ H Q := h
theorem lc_fresh2 {p : Option Addr} {J : It} {g : TG} {te : TE} {vs : List Nat} {σ : L2.St} {H1 : Hp} {Q : VK} (n : Nat) (O : Nat → HO) (hp : Has p H1) (hn : n ≤ 1000)
    (hgo : ∀ i H, i < n → RX p H1 H → J.go i H) (hst : ∀ H, RX p H1 H → J.stop n H)
    (hs : ∀ i x H H' (C : VK), i < n → RX p H1 H → Has p H → J.yld i H x H' → (∀ q H4, RX p H H4 → H q = none → H4 q = some (O i) → C (.ref q) H4) → g x (wipe σ vs) H' fun σ2 H2 => wipe σ2 vs = wipe σ vs ∧ te σ2 H2 C)
    (hd : ∀ D H xs, H1 D = none → RX p H1 H → H D = some (.lst xs) → xs.length = n → (∀ i v, xs[i]? = some v → ∃ q, v = .ref q ∧ H q = some (O i) ∧ q ≠ D ∧ p ≠ some q ∧ H1 q = none) → Q (.ref D) H) : LcB g tYes te vs σ Q J H1 := by
  intro D nD
  have nP : p ≠ some D := hp.ne nD
  refine ⟨fun i m H => i ≤ n ∧ m = n - i ∧ RX p H1 H ∧ ∃ xs, H D = some (.lst xs) ∧ xs.length = i ∧ ∀ j v, xs[j]? = some v → ∃ q, v = .ref q ∧ H q = some (O j) ∧ q ≠ D ∧ p ≠ some q ∧ H1 q = none, ⟨n, Nat.zero_le _, rfl, RX.new nD, [], upd_same, rfl, fun j v e => by simp at e⟩, ?_⟩
  rintro i m H ⟨hi, rfl, s1, xs, hD, hl, hE⟩
  by_cases hlt : i < n
  · refine .inr ⟨hgo i H hlt s1, fun H' => i + 1 ≤ n ∧ RX p H1 H' ∧ ∃ xs, H' D = some (.lst xs) ∧ xs.length = i + 1 ∧ ∀ j v, xs[j]? = some v → ∃ q, v = .ref q ∧ H' q = some (O j) ∧ q ≠ D ∧ p ≠ some q ∧ H1 q = none, fun H' h => ⟨n - (i + 1), by omega, h.1, rfl, h.2⟩, fun x H' hy => ?_⟩
    have hpH := hp.to s1
    refine hs i x H H' _ hlt s1 hpH hy fun q H4 s4 nq e4 => ?_
    have hD4 := s4.keep D _ nP hD
    have s5 : RX p H1 (upd H4 D (.lst (xs ++ [.ref q]))) := (s1.trans s4).mut nD hp
    refine ⟨xs, hD4, Nat.lt_of_lt_of_le (by omega : xs.length < 1001) (by decide), hlt, s5, xs ++ [.ref q], upd_same, by simp [hl], fun j v e => ?_⟩
    by_cases hj : j < xs.length
    · rw [List.getElem?_append_left hj] at e
      obtain ⟨q', e1, e2, e3, e5, e6⟩ := hE j v e
      exact ⟨q', e1, by rw [upd_ne e3]; exact s4.keep q' _ e5 e2, e3, e5, e6⟩
    · rw [List.getElem?_append_right (by omega)] at e
      have z : j - xs.length = 0 := by
        by_cases w : j - xs.length = 0
        · exact w
        · rw [List.getElem?_eq_none (by simp; omega)] at e; cases e
      rw [z] at e
      cases e
      have : j = i := by omega
      subst this
      have qD : q ≠ D := (ne_of_none hD nq).symm
      exact ⟨q, rfl, by rw [upd_ne qD]; exact e4, qD, hpH.ne nq, by
        cases e9 : H1 q with
        | none => rfl
        | some o =>
          have := s1.keep q o (hpH.ne nq) e9
          rw [nq] at this
          cases this⟩
  · have e : i = n := by omega
    subst e
    exact .inl ⟨hst H s1, hd D H xs nD s1 hD hl hE⟩
/-- a list of lists of ints at a, apart from the pot p -/
structure LM (H : Hp) (p a : Addr) (M : List (List Int)) (vs : List V) : Prop where
  at_ : H a = some (.lst vs)
  len : vs.length = M.length
  get : ∀ (i : Nat) (v : V), vs[i]? = some v → ∃ b, v = .ref b ∧ H b = some (.lst ((M.getD i []).map V.int)) ∧ b ≠ a ∧ b ≠ p
theorem LM.mono {H H' : Hp} {p a : Addr} {M : List (List Int)} {vs : List V} (h : LM H p a M vs) (s : RX (some p) H H') (hap : a ≠ p) : LM H' p a M vs := by
  refine ⟨s.keep a _ (fun z => hap (by cases z; rfl)) h.at_, h.len, fun i v e => ?_⟩
  obtain ⟨b, e1, e2, e3, e4⟩ := h.get i v e
  exact ⟨b, e1, s.keep b _ (fun z => e4 (by cases z; rfl)) e2, e3, e4⟩
/-- a row is put there -/
theorem LM.put {H : Hp} {p a : Addr} {M : List (List Int)} {vs : List V} (h : LM H p a M vs) {i : Nat} {b : Addr} {r : List Int} (hb : H b = some (.lst (r.map V.int))) (ba : b ≠ a) (bp : b ≠ p) :
    LM (upd H a (.lst (vs.set i (.ref b)))) p a (M.set i r) (vs.set i (.ref b)) := by
  refine ⟨upd_same, by rw [List.length_set, List.length_set]; exact h.len, fun j v e => ?_⟩
  by_cases hj : i = j
  · subst hj
    have hi : i < vs.length := by
      have := (List.getElem?_eq_some_iff.mp e).1
      rw [List.length_set] at this
      exact this
    rw [List.getElem?_set_self hi] at e
    cases e
    refine ⟨b, rfl, ?_, ba, bp⟩
    rw [upd_ne ba, List.getD_eq_getElem?_getD, List.getElem?_set_self (by rw [← h.len]; exact hi)]
    exact hb
  · rw [List.getElem?_set_ne hj] at e
    obtain ⟨c, e1, e2, e3, e4⟩ := h.get j v e
    refine ⟨c, e1, ?_, e3, e4⟩
    rw [upd_ne e3, List.getD_eq_getElem?_getD, List.getElem?_set_ne hj, ← List.getD_eq_getElem?_getD]
    exact e2
theorem LM.row {H : Hp} {p a : Addr} {M : List (List Int)} {vs : List V} (h : LM H p a M vs) {i : Nat} (hi : i < M.length) : ∃ b, vs[i]? = some (.ref b) ∧ H b = some (.lst ((M.getD i []).map V.int)) ∧ b ≠ a ∧ b ≠ p := by
  have hi' : i < vs.length := by rw [h.len]; exact hi
  obtain ⟨b, e1, e2⟩ := h.get i vs[i] (List.getElem?_eq_getElem hi')
  exact ⟨b, by rw [List.getElem?_eq_getElem hi', e1], e2⟩
end T24
set_option Elab.async false
set_option linter.all false
set_option maxRecDepth 100000
set_option maxHeartbeats 2000000
namespace T24
open PySem PySem.Spec PyProof.Rows L2 Gd Zn Rp Dn Tb Gn En Zs Ct Op
/-- list(..) -/
def rLst (K : PySem.W.Frag) : List V → Hp → VK → Prop := fun xs H Q => ∃ p ys, xs = [V.ref p] ∧ (SqL K H p ys ∨ SqT K H p ys) ∧ ∀ (l : Addr), H l = none → Q (V.ref l) (upd H l (HO.lst ys))
theorem c_lst {X : Cx} : CallR X (.type "list") (rLst X.K) := call_list_of
theorem ixN_at {n j : Nat} (hj : j < n) : ixN n (j : Int) = some j := by
  unfold ixN
  rw [if_pos (by omega), if_pos (by omega)]
  rfl
end T24
set_option Elab.async false
set_option linter.all false
set_option maxRecDepth 100000
set_option maxHeartbeats 2000000
set_option Elab.async false
set_option linter.all false
set_option maxRecDepth 100000
set_option maxHeartbeats 2000000
namespace T24
open PySem PySem.Spec PyProof.Rows L2 Gd Zn Rp Dn Tb Gn En Zs Ct Op
theorem mul_bd {x y B B' : Int} (hx : -B ≤ x ∧ x ≤ B) (hy : -B' ≤ y ∧ y ≤ B') : -(B * B') ≤ x * y ∧ x * y ≤ B * B' := by
  have h1 : x.natAbs ≤ B.natAbs := by omega
  have h2 : y.natAbs ≤ B'.natAbs := by omega
  have h := Nat.mul_le_mul h1 h2
  have e1 := Int.natAbs_mul x y
  have e2 := Int.natAbs_mul B B'
  have hp : 0 ≤ B * B' := Int.mul_nonneg (by omega) (by omega)
  omega
theorem dot_bd {B B' : Int} (hB : 0 ≤ B) (hB' : 0 ≤ B') : ∀ (k : Nat) (xs ys : List Int), xs.length ≤ k → (∀ x ∈ xs, -B ≤ x ∧ x ≤ B) → (∀ y ∈ ys, -B' ≤ y ∧ y ≤ B') → -(k * (B * B')) ≤ dot xs ys ∧ dot xs ys ≤ k * (B * B')
  | k, [], ys, _, _, _ => by
    have : 0 ≤ (k : Int) * (B * B') := Int.mul_nonneg (by omega) (Int.mul_nonneg hB hB')
    simp only [dot, List.zip_nil_left, List.map_nil, List.sum_nil]
    omega
  | k, x :: xs, [], _, _, _ => by
    have : 0 ≤ (k : Int) * (B * B') := Int.mul_nonneg (by omega) (Int.mul_nonneg hB hB')
    simp only [dot, List.zip_nil_right, List.map_nil, List.sum_nil]
    omega
  | 0, x :: xs, y :: ys, h, _, _ => by simp at h
  | k + 1, x :: xs, y :: ys, h, hx, hy => by
    have ih := dot_bd hB hB' k xs ys (by simpa using h) (fun z hz => hx z (List.mem_cons_of_mem _ hz)) (fun z hz => hy z (List.mem_cons_of_mem _ hz))
    have h1 := mul_bd (hx x List.mem_cons_self) (hy y List.mem_cons_self)
    have e : ((k + 1 : Nat) : Int) * (B * B') = (k : Int) * (B * B') + B * B' := by
      rw [show ((k + 1 : Nat) : Int) = (k : Int) + 1 by omega, Int.add_mul, Int.one_mul]
    rw [e]
    unfold dot at ih ⊢
    simp only [List.zip_cons_cons, List.map_cons, List.sum_cons]
    omega
theorem mulM_len (n : Nat) (M N : List (List Int)) : (mulM n M N).length = M.length := by
  unfold mulM
  rw [List.length_map]
theorem mulM_row {n : Nat} {M N : List (List Int)} : ∀ r ∈ mulM n M N, r.length = n := fun r hr => by
  unfold mulM ledM transp at hr
  obtain ⟨s, _, rfl⟩ := List.mem_map.mp hr
  simp
theorem SqB.mul {n : Nat} {B B' : Int} {M N : List (List Int)} (hM : SqB n B M) (hN : SqB n B' N) (h3 : n ≤ 3) (hB : 0 ≤ B) (hB' : 0 ≤ B') : SqB n (3 * (B' * B)) (mulM n M N) := by
  refine ⟨by rw [mulM_len]; exact hM.len, mulM_row, fun r hr x hx => ?_⟩
  unfold mulM ledM transp at hr
  obtain ⟨s, hs, rfl⟩ := List.mem_map.mp hr
  rw [List.map_map] at hx
  obtain ⟨j, hj, rfl⟩ := List.mem_map.mp hx
  have := dot_bd hB' hB 3 (N.map fun r => r.getD j 0) s (by rw [List.length_map, hN.len]; exact h3) (fun y hy => ?_) (hM.bd s hs)
  · simpa using this
  · obtain ⟨t, ht, rfl⟩ := List.mem_map.mp hy
    rw [List.getD_eq_getElem?_getD]
    cases e : t[j]? with
    | none => simp only [Option.getD_none]; omega
    | some z => exact hN.bd t ht z (List.mem_of_getElem? e)
end T24
set_option Elab.async false
set_option linter.all false
set_option maxRecDepth 100000
set_option maxHeartbeats 2000000
set_option Elab.async false
set_option linter.all false
set_option maxRecDepth 100000
set_option maxHeartbeats 2000000
namespace T24
open PySem PySem.Spec PyProof.Rows L2 Gd Zn Rp Dn Tb Gn En Zs Ct Op
section
variable {X : Cx} {CX : CXT} {k : Nat} {f : Addr} {fd : FuncData} {ps ks : List Str} {sp : Sp} {E : XK} {x m : Str} {p pos apos : Pos} {kws : List Keyword} {tk : TA} {g : List Value → List Value → List Value} {gV : List V → List V → List V} {C : Addr} {o : Expr} {ta : TE}
theorem pe_names (F : FnOk X.prog X.w X.K X.mg X.base CX k f fd ps sp) (room : Room k X.A) (hg : Gl X x) (hm : X.mg x = some (.ref f)) (hk : PySem.W.keepIn X.K (.ref f) = true) (hb : KBinds X.K fd ps ks g gV) (hx : Passes CX X E) (hkw : PK X kws tk)
    (hall : (backToKw pos (keywordEach kws X.env)).all (·.1.isSome) = true := by rfl) (hks : (backToKw pos (keywordEach kws X.env)).filterMap (·.1) = ks := by rfl) (hdb : (x == ("__debug__" : Str)) = false := by decide)
    (hpl : ((backTo pos (starEach [] X.env)).any (·.1) || (backToKw pos (keywordEach kws X.env)).any (·.1.isNone)) = false := by rfl) :
    PE X (.Call (.Name x p) [] kws pos) (fun σ H Q => tk σ H fun zs H2 => sp (gV [] zs) H2 Q E) := by
  refine ⟨fun pins s σ H Q I h => wpAny_Call_Name_kw (ld_glob I hg hm ?_ hdb)⟩
  refine PySem.W.callWith_KW0 (h₀ := X.base) I.ok.mod.kin hk hall ?_ hpl
  refine thn (hkw.run pos pins s σ H _ I h) fun ws s2 ⟨zs, H2, I2, rz, q2⟩ => ⟨I2.kIn, ?_⟩
  rw [hks]
  exact run_fnk F room hb hx I2 .nil rz q2
end
theorem fit_of {d : PyData} (h1 : d.showable = true) (h2 : d.depth ≤ 20) (h3 : d.leavesShort 40 = true) (h4 : d.bulk ≤ 1000) : Fit d := by
  refine ⟨h1, h2, Nat.le_trans (PyData.shown_le_bulk 40 (by decide) d h3) ?_⟩
  show (40 + 2) * d.bulk + 40 ≤ 2 ^ 24
  omega
structure SmN (a b : Nat) (d : PyData) : Prop where
  sh : d.showable = true
  dp : d.depth ≤ a
  ls : d.leavesShort 40 = true
  bk : d.bulk ≤ b
theorem smN_bool (b : Bool) : SmN 0 0 (.bool b) := ⟨by simp only [PyData.showable], by simp only [PyData.depth]; omega, by simp only [PyData.leavesShort], by simp only [PyData.bulk]; omega⟩
theorem all_smN {a b : Nat} {ds : List PyData} (h : ∀ d ∈ ds, SmN a b d) : PyData.showableAll ds = true ∧ PyData.depthAll ds ≤ a ∧ PyData.leavesShortAll 40 ds = true ∧ PyData.bulkAll ds ≤ (b + 1) * ds.length := by
  induction ds with
  | nil => exact ⟨by simp only [PyData.showableAll], by simp only [PyData.depthAll]; omega, by simp only [PyData.leavesShortAll], by simp only [PyData.bulkAll]; omega⟩
  | cons d r ih =>
    obtain ⟨a, b, c, e⟩ := ih fun x hx => h x (List.mem_cons_of_mem _ hx)
    have z := h d List.mem_cons_self
    refine ⟨?_, ?_, ?_, ?_⟩
    · simp only [PyData.showableAll, z.sh, a, Bool.and_self]
    · simp only [PyData.depthAll]
      exact Nat.max_le.mpr ⟨z.dp, b⟩
    · simp only [PyData.leavesShortAll, z.ls, c, Bool.and_self]
    · have := z.bk
      simp only [PyData.bulkAll, List.length_cons]
      rw [Nat.mul_add]
      omega
theorem smN_list {a b n : Nat} {ds : List PyData} (h : ∀ d ∈ ds, SmN a b d) (hl : ds.length ≤ n) : SmN (a + 1) ((b + 1) * n) (.list ds) := by
  obtain ⟨s1, s2, s3, s4⟩ := all_smN h
  have := Nat.mul_le_mul_left (b + 1) hl
  refine ⟨?_, ?_, ?_, ?_⟩
  · simp only [PyData.showable, s1]
  · simp only [PyData.depth]; omega
  · simp only [PyData.leavesShort, s3]
  · simp only [PyData.bulk]; omega
end T24
set_option Elab.async false
set_option linter.all false
set_option maxRecDepth 100000
set_option maxHeartbeats 4000000
namespace T24
open PySem PySem.Spec PyProof.Rows L2 Gd Zn Rp Dn Tb Gn En Zs Ct Op
structure Sh (n : Nat) (M : List (List Int)) : Prop where
  len : M.length = n
  row : ∀ r ∈ M, r.length = n
theorem Sq.sh {n : Nat} {M : List (List Int)} (h : Sq n M) : Sh n M := ⟨h.len, h.row⟩
theorem SqB.sh {n : Nat} {B : Int} {M : List (List Int)} (h : SqB n B M) : Sh n M := ⟨h.len, h.row⟩
theorem sh1 {n : Nat} {M : List (List Int)} (h : Sh n M) (e : n = 1) : ∃ a, M = [[a]] := by
  subst e
  obtain ⟨r, rfl⟩ := len1 h.len
  obtain ⟨a, rfl⟩ := len1 (h.row r (by simp))
  exact ⟨a, rfl⟩
theorem sh2 {n : Nat} {M : List (List Int)} (h : Sh n M) (e : n = 2) : ∃ a b c d, M = [[a, b], [c, d]] := by
  subst e
  obtain ⟨r1, r2, rfl⟩ := len2 h.len
  obtain ⟨a, b, rfl⟩ := len2 (h.row r1 (by simp))
  obtain ⟨c, d, rfl⟩ := len2 (h.row r2 (by simp))
  exact ⟨a, b, c, d, rfl⟩
theorem sh3 {n : Nat} {M : List (List Int)} (h : Sh n M) (e : n = 3) : ∃ a b c d e f g h i, M = [[a, b, c], [d, e, f], [g, h, i]] := by
  subst e
  obtain ⟨r1, r2, r3, rfl⟩ := len3 h.len
  obtain ⟨a, b, c, rfl⟩ := len3 (h.row r1 (by simp))
  obtain ⟨d, e, f, rfl⟩ := len3 (h.row r2 (by simp))
  obtain ⟨g, i, j, rfl⟩ := len3 (h.row r3 (by simp))
  exact ⟨a, b, c, d, e, f, g, i, j, rfl⟩
theorem mulE1 (a b : Int) : mulM 1 [[a]] [[b]] = [[a * b]] := by simp [mulM, ledM, transp, dot, List.range_succ, List.getD, Int.mul_comm]
theorem mulE2 (a b c d e f g h : Int) : mulM 2 [[a, b], [c, d]] [[e, f], [g, h]] = [[a * e + b * g, a * f + b * h], [c * e + d * g, c * f + d * h]] := by simp [mulM, ledM, transp, dot, List.range_succ, List.getD, Int.mul_comm]
theorem mulE3 (a b c d e f g h i j k l m n o p q r : Int) : mulM 3 [[a, b, c], [d, e, f], [g, h, i]] [[j, k, l], [m, n, o], [p, q, r]] =
    [[a * j + (b * m + c * p), a * k + (b * n + c * q), a * l + (b * o + c * r)], [d * j + (e * m + f * p), d * k + (e * n + f * q), d * l + (e * o + f * r)], [g * j + (h * m + i * p), g * k + (h * n + i * q), g * l + (h * o + i * r)]] := by
  simp [mulM, ledM, transp, dot, List.range_succ, List.getD, Int.mul_comm]
theorem unitE1 : unitM 1 = [[1]] := rfl
theorem unitE2 : unitM 2 = [[1, 0], [0, 1]] := rfl
theorem unitE3 : unitM 3 = [[1, 0, 0], [0, 1, 0], [0, 0, 1]] := rfl
structure Gr (n : Nat) (M : List (List Int)) : Prop where
  h1 : 1 ≤ n
  h3 : n ≤ 3
  sh : Sh n M
  d : detM n M = 1 ∨ detM n M = -1
theorem sh_mk1 (a : Int) : Sh 1 [[a]] := ⟨rfl, by simp⟩
theorem sh_mk2 (a b c d : Int) : Sh 2 [[a, b], [c, d]] := ⟨rfl, by simp⟩
theorem sh_mk3 (a b c d e f g h i : Int) : Sh 3 [[a, b, c], [d, e, f], [g, h, i]] := ⟨rfl, by simp⟩
theorem mul_sh {n : Nat} {M N : List (List Int)} (h1 : 1 ≤ n) (h3 : n ≤ 3) (hM : Sh n M) (hN : Sh n N) : Sh n (mulM n M N) := by
  have : n = 1 ∨ n = 2 ∨ n = 3 := by omega
  rcases this with rfl | rfl | rfl
  · obtain ⟨a, rfl⟩ := sh1 hM rfl
    obtain ⟨b, rfl⟩ := sh1 hN rfl
    rw [mulE1]; exact sh_mk1 _
  · obtain ⟨a, b, c, d, rfl⟩ := sh2 hM rfl
    obtain ⟨e, f, g, h, rfl⟩ := sh2 hN rfl
    rw [mulE2]; exact sh_mk2 _ _ _ _
  · obtain ⟨a, b, c, d, e, f, g, h, i, rfl⟩ := sh3 hM rfl
    obtain ⟨j, k, l, m, n, o, p, q, r, rfl⟩ := sh3 hN rfl
    rw [mulE3]; exact sh_mk3 _ _ _ _ _ _ _ _ _
theorem mul_detS {n : Nat} {M N : List (List Int)} (h1 : 1 ≤ n) (h3 : n ≤ 3) (hM : Sh n M) (hN : Sh n N) : detM n (mulM n M N) = detM n M * detM n N := by
  have : n = 1 ∨ n = 2 ∨ n = 3 := by omega
  rcases this with rfl | rfl | rfl
  · obtain ⟨a, rfl⟩ := sh1 hM rfl
    obtain ⟨b, rfl⟩ := sh1 hN rfl
    rw [mulE1, det1, det1, det1]
  · obtain ⟨a, b, c, d, rfl⟩ := sh2 hM rfl
    obtain ⟨e, f, g, h, rfl⟩ := sh2 hN rfl
    rw [mulE2, det2, det2, det2]; grind
  · obtain ⟨a, b, c, d, e, f, g, h, i, rfl⟩ := sh3 hM rfl
    obtain ⟨j, k, l, m, n, o, p, q, r, rfl⟩ := sh3 hN rfl
    rw [mulE3, det3, det3, det3]; grind
theorem unit_sh {n : Nat} : Sh n (unitM n) := (unit_sq n).sh
theorem unit_mulS {n : Nat} {M : List (List Int)} (h1 : 1 ≤ n) (h3 : n ≤ 3) (h : Sh n M) : mulM n (unitM n) M = M := by
  have : n = 1 ∨ n = 2 ∨ n = 3 := by omega
  rcases this with rfl | rfl | rfl
  · obtain ⟨a, rfl⟩ := sh1 h rfl
    rw [unitE1, mulE1]; simp
  · obtain ⟨a, b, c, d, rfl⟩ := sh2 h rfl
    rw [unitE2, mulE2]; simp
  · obtain ⟨a, b, c, d, e, f, g, h, i, rfl⟩ := sh3 h rfl
    rw [unitE3, mulE3]; simp
theorem pm_mul {a b : Int} (ha : a = 1 ∨ a = -1) (hb : b = 1 ∨ b = -1) : a * b = 1 ∨ a * b = -1 := by
  rcases ha with rfl | rfl <;> rcases hb with rfl | rfl <;> decide
theorem Gr.mul {n : Nat} {M N : List (List Int)} (hM : Gr n M) (hN : Gr n N) : Gr n (mulM n M N) := ⟨hM.h1, hM.h3, mul_sh hM.h1 hM.h3 hM.sh hN.sh, by rw [mul_detS hM.h1 hM.h3 hM.sh hN.sh]; exact pm_mul hM.d hN.d⟩
theorem gr_unit {n : Nat} (h1 : 1 ≤ n) (h3 : n ≤ 3) : Gr n (unitM n) := ⟨h1, h3, unit_sh, .inl (det_unit n h3)⟩
/-- the group of the tables of one size -/
def GL (n : Nat) : Type := { M : List (List Int) // Gr n M }
namespace GL
variable {n : Nat}
def mk (M : List (List Int)) (h : Gr n M) : GL n := ⟨M, h⟩
instance : Mul (GL n) := ⟨fun a b => ⟨mulM n a.val b.val, a.property.mul b.property⟩⟩
def one (h1 : 1 ≤ n) (h3 : n ≤ 3) : GL n := ⟨unitM n, gr_unit h1 h3⟩
theorem one_mul {h1 : 1 ≤ n} {h3 : n ≤ 3} (a : GL n) : one h1 h3 * a = a := Subtype.ext (unit_mulS h1 h3 a.property.sh)
end GL
end T24
set_option Elab.async false
set_option linter.all false
set_option maxRecDepth 100000
set_option maxHeartbeats 1000000
namespace Oc
open PySem PySem.Spec PyProof.Rows L2
end Oc
set_option Elab.async false
set_option linter.all false
set_option maxRecDepth 100000
set_option maxHeartbeats 1000000
namespace Oc
open PySem PySem.Spec PyProof.Rows L2
end Oc
set_option Elab.async false
set_option linter.all false
set_option maxRecDepth 100000
set_option maxHeartbeats 1000000
namespace Rg
open PySem PySem.Spec PyProof.Rows L2
end Rg
set_option Elab.async false
set_option linter.all false
set_option maxRecDepth 100000
set_option maxHeartbeats 2000000
namespace T24
open PySem PySem.Spec PyProof.Rows L2 Gd Zn Rp Dn Tb Gn En Zs Ct Op Oc Rg
section
variable {P : Program} {w : World} {K : PySem.W.Frag} {mg : Str → Option Value} {base : Heap} {C : Addr}
theorem SeqV.any {H : Hp} {v : V} {xs : List Int} (h : SeqV H v (iD xs)) : ∃ d, AnyV H v d ∧ items d = iD xs ∧ (d = .list (iD xs) ∨ d = .tuple (iD xs)) := by
  rcases h with h | h
  · exact ⟨_, .inl h, rfl, .inl rfl⟩
  · exact ⟨_, .inl h, rfl, .inr rfl⟩
end
end T24
set_option Elab.async false
set_option linter.all false
set_option maxRecDepth 100000
set_option maxHeartbeats 2000000
namespace T24
open PySem PySem.Spec PyProof.Rows L2 Gd Zn Rp Dn Tb Gn En Zs Ct Op Oc Rg
/-- Table(..) of anything that tells the rows -/
theorem make_any {C : Addr} {H : Hp} {v : V} {d : PyData} {M : List (List Int)} {n : Nat} {Q : VK} {E : XK} (av : AnyV H v d) (g : GridD d M) (hS : Sq n M) (h1 : 1 ≤ n) (h3 : n ≤ 3) (hd : detM n M = 1 ∨ detM n M = -1)
    (k : ∀ c H', Same H H' → Tab C H' (.ref c) M → Q (.ref c) H') : ∀ x dx : Addr, H x = none → H dx = none → dx ≠ x → sp_init C (V.ref x :: ([v] ++ [])) (upd (upd H dx (.own x)) x (.ins C dx [])) (fun u H2 => u = V.non ∧ Q (.ref x) H2) E := by
  intro x dx nx nd ne
  have s : Same H (upd (upd H dx (.own x)) x (.ins C dx [])) := fun c o e => by
    rw [upd_ne (ne_of_none e nx), upd_ne (ne_of_none e nd)]
    exact e
  refine ⟨x, dx, v, d, M, n, rfl, upd_same, av.mono s, g, hS, h1, h3, hd, fun H' kp ht => ⟨rfl, k x H' (fun c o e => ?_) ht⟩⟩
  exact kp c o (ne_of_none e nx) (s c o e)
def lmD (M : List (List Int)) : PyData := .list (M.map fun r => .list (r.map PyData.int))
theorem grid_lm (M : List (List Int)) : GridD (lmD M) M := by
  refine ⟨rfl, ?_, fun i d' e => ?_⟩
  · show (M.map _).length = _
    rw [List.length_map]
  · have e : (M.map fun r => PyData.list (r.map PyData.int))[i]? = some d' := e
    rw [List.getElem?_map] at e
    cases h : M[i]? with
    | none => rw [h] at e; cases e
    | some r =>
      rw [h] at e
      cases e
      exact ⟨r, rfl, .inl rfl⟩
theorem py_ints {H : Hp} : ∀ xs : List Int, PyVs H (xs.map V.int) (xs.map PyData.int)
  | [] => .nil
  | x :: xs => .cons (.int x) (py_ints xs)
theorem pys_lm {H : Hp} : ∀ {vs : List V} {M : List (List Int)}, vs.length = M.length → (∀ (i : Nat) (v : V), vs[i]? = some v → ∃ q, v = .ref q ∧ H q = some (.lst ((M.getD i []).map V.int))) → PyVs H vs (M.map fun r => .list (r.map PyData.int))
  | [], [], _, _ => .nil
  | v :: vs, r :: M, hl, h => by
    obtain ⟨q, rfl, hq⟩ := h 0 v rfl
    exact .cons (.lst hq (py_ints _)) (pys_lm (Nat.succ.inj hl) fun i w e => h (i + 1) w e)
theorem py_lm {H : Hp} {D : Addr} {vs : List V} {M : List (List Int)} (hD : H D = some (.lst vs)) (hl : vs.length = M.length) (h : ∀ (i : Nat) (v : V), vs[i]? = some v → ∃ q, v = .ref q ∧ H q = some (.lst ((M.getD i []).map V.int))) : PyV H (.ref D) (lmD M) := .lst hD (pys_lm hl h)
end T24
set_option Elab.async false
set_option linter.all false
set_option maxRecDepth 100000
set_option maxHeartbeats 4000000
namespace Rt
open PySem PySem.Spec PyProof.Rows L2 Dn
theorem tuple_mul1 (l : Addr) (items : Array Value) (n : Nat) (dd : Option Addr) (sl : Array (Option Value)) (u : Tok) :
    Meets (Builtin.«tuple.__mul__» ⟨[.ref l, .int 1 u], []⟩) (fun _ R s => s.heap.get? l = some { cls := .type "tuple", dict := dd, data := .seq items n, slots := sl } ∧
      R (.ok (.ret (Value.ref l))) s) :=
  .of_wp fun prog w A R s h => by
    obtain ⟨hp, g, d, tk, os⟩ := s
    obtain ⟨hl, h⟩ := h
    have f1 := AutoSeq1.idx_int
    wp_walk using wpAny_loadPart' hl
    repeat (first
      | (refine wpAny_ite_false (by decide) ?_; wp_walk using wpAny_loadPart' hl)
      | (refine wpAny_ite_true (by simp) ?_; wp_walk using wpAny_loadPart' hl))
    exact ⟨_, rfl, h⟩
end Rt
set_option Elab.async false
set_option linter.all false
set_option maxRecDepth 100000
set_option maxHeartbeats 2000000
namespace T24
open PySem PySem.Spec PyProof.Rows L2 Gd Zn Rp Dn Tb Gn En Zs Ct Op Oc Rg Rt
def besM (n m : Nat) (M N : List (List Int)) : List (List Int) := (M.map fun r => r ++ List.replicate m 0) ++ (N.map fun r => List.replicate n 0 ++ r)
theorem bes_sh {n m : Nat} {M N : List (List Int)} (hM : Sh n M) (hN : Sh m N) : Sh (n + m) (besM n m M N) := by
  refine ⟨?_, fun r hr => ?_⟩
  · unfold besM
    rw [List.length_append, List.length_map, List.length_map, hM.len, hN.len]
  · unfold besM at hr
    rcases List.mem_append.mp hr with h | h
    · obtain ⟨s, hs, rfl⟩ := List.mem_map.mp h
      rw [List.length_append, List.length_replicate, hM.row s hs]
    · obtain ⟨s, hs, rfl⟩ := List.mem_map.mp h
      rw [List.length_append, List.length_replicate, hN.row s hs]
section
variable {P : Program} {w : World} {K : PySem.W.Frag} {mg : Str → Option Value} {base : Heap} {C : Addr}
structure OkB (n m : Nat) (M N : List (List Int)) : Prop where
  gM : Gr n M
  gN : Gr m N
  sM : Sq n M
  sN : Sq m N
  h3 : n + m ≤ 3
theorem OkB.sq {n m : Nat} {M N : List (List Int)} (h : OkB n m M N) : Sq (n + m) (besM n m M N) := by
  refine ⟨(bes_sh h.gM.sh h.gN.sh).len, (bes_sh h.gM.sh h.gN.sh).row, fun r hr x hx => ?_⟩
  unfold besM at hr
  have z : Small 0 := Wd.lit ⟨by decide, by decide⟩
  rcases List.mem_append.mp hr with h' | h'
  · obtain ⟨s, hs, rfl⟩ := List.mem_map.mp h'
    rcases List.mem_append.mp hx with h' | h'
    · exact h.sM.small s hs x h'
    · rw [(List.mem_replicate.mp h').2]; exact z
  · obtain ⟨s, hs, rfl⟩ := List.mem_map.mp h'
    rcases List.mem_append.mp hx with h' | h'
    · rw [(List.mem_replicate.mp h').2]; exact z
    · exact h.sN.small s hs x h'
theorem _root_.Tb.RowsV.append {H : Hp} {vs ws : List V} {M N : List (List Int)} (h : RowsV H vs M) (k : RowsV H ws N) : RowsV H (vs ++ ws) (M ++ N) := by
  induction h with
  | nil => exact k
  | cons p _ ih => exact .cons p ih
end
end T24
set_option Elab.async false
set_option linter.all false
set_option maxRecDepth 100000
set_option maxHeartbeats 2000000
namespace T24
open PySem PySem.Spec PyProof.Rows L2 Gd Zn Rp Dn Tb Gn En Zs Ct Op Oc Rg Rt
/-- any iterator, walked by an invariant -/
theorem for_by {J : It} {g : TG} {tb : TS} {D : Ends} {σ : L2.St} {H : Hp} (n : Nat) (Pv : Nat → L2.St → Hp → Prop) (h0 : Pv 0 σ H) (hgo : ∀ i σ H, i < n → Pv i σ H → J.go i H) (hst : ∀ σ H, Pv n σ H → J.stop n H)
    (hs : ∀ i x σ H H', i < n → Pv i σ H → J.yld i H x H' → g x σ H' fun σ2 H2 => tb { D with nx := Pv (i + 1), ct := Pv (i + 1), bk := D.nx } σ2 H2) (hd : ∀ σ H, Pv n σ H → D.nx σ H) :
    ∃ W : Nat → Nat → L2.St → Hp → Prop, (∃ m, W 0 m σ H) ∧ ∀ i m σ H, W i m σ H →
      (J.stop i H ∧ D.nx σ H) ∨ (J.go i H ∧ ∃ N : L2.St → Hp → Prop, (∀ σ' H', N σ' H' → ∃ m', m' < m ∧ W (i + 1) m' σ' H') ∧ ∀ x H', J.yld i H x H' → g x σ H' fun σ2 H2 => tb { D with nx := N, ct := N, bk := D.nx } σ2 H2) := by
  refine ⟨fun i m σ H => m = n - i ∧ i ≤ n ∧ Pv i σ H, ⟨n, by simp, Nat.zero_le _, h0⟩, ?_⟩
  rintro i m σ H ⟨rfl, hi, p⟩
  by_cases hlt : i < n
  · exact .inr ⟨hgo i σ H hlt p, Pv (i + 1), fun σ' H' p' => ⟨n - (i + 1), by omega, rfl, hlt, p'⟩, fun x H' y => hs i x σ H H' hlt p y⟩
  · have e : i = n := by omega
    subst e
    exact .inl ⟨hst σ H p, hd σ H p⟩
/-- rows as tuples, in a tuple or a list -/
def MxS (H : Hp) (v : V) (M : List (List Int)) : Prop := ∃ (t : Bool) (a : Addr) (vs : List V), v = .ref a ∧ H a = some (if t = true then .tup vs else .lst vs) ∧ RowsV H vs M
theorem Mx.s {H : Hp} {v : V} {M : List (List Int)} (h : Mx H v M) : MxS H v M := by
  obtain ⟨a, vs, rfl, h, r⟩ := h
  exact ⟨true, a, vs, rfl, h, r⟩
theorem MxS.same {H H' : Hp} {v : V} {M : List (List Int)} (s : Same H H') (h : MxS H v M) : MxS H' v M := by
  obtain ⟨t, a, vs, rfl, h, r⟩ := h
  exact ⟨t, a, vs, rfl, s _ _ h, r.mono (KS.of s)⟩
theorem cutV_drop (vs : List V) (h : 1 ≤ vs.length) : cutV vs (some 1) none = vs.drop 1 := by
  unfold cutV
  rw [show (1 : Int) = ((1 : Nat) : Int) by rfl, HT.sIx_nat, HT.sIx_none, Nat.min_eq_left h]
  exact List.take_of_length_le (by rw [List.length_drop]; exact Nat.le_refl _)
end T24
set_option Elab.async false
set_option linter.all false
set_option maxRecDepth 100000
set_option maxHeartbeats 2000000
set_option Elab.async false
set_option linter.all false
set_option maxRecDepth 100000
set_option maxHeartbeats 2000000
set_option Elab.async false
set_option linter.all false
set_option maxRecDepth 100000
set_option maxHeartbeats 2000000
namespace T24
open PySem PySem.Spec PyProof.Rows L2 Gd Zn Rp Dn Tb Gn En Zs Ct Op Oc Rg Rt
/-- bounds by bits -/
structure SqE (n k : Nat) (M : List (List Int)) : Prop where
  len : M.length = n
  row : ∀ r ∈ M, r.length = n
  bd : ∀ r ∈ M, ∀ x ∈ r, x.natAbs < 2 ^ k
theorem SqE.sh {n k : Nat} {M : List (List Int)} (h : SqE n k M) : Sh n M := ⟨h.len, h.row⟩
theorem SqE.mono {n k l : Nat} {M : List (List Int)} (h : SqE n k M) (e : k ≤ l) : SqE n l M := ⟨h.len, h.row, fun r hr x hx => Wd.abs_mono (h.bd r hr x hx) e⟩
theorem SqE.sq {n k : Nat} {M : List (List Int)} (h : SqE n k M) (e : k ≤ 20000) : Sq n M := ⟨h.len, h.row, fun r hr x hx => ⟨k, e, h.bd r hr x hx⟩⟩
theorem SqB.e {n k : Nat} {B : Int} {M : List (List Int)} (h : SqB n B M) (e : B.toNat < 2 ^ k) : SqE n k M := ⟨h.len, h.row, fun r hr x hx => by
  have := h.bd r hr x hx
  omega⟩
theorem ae1 {a b : Int} {k l : Nat} (ha : a.natAbs < 2 ^ k) (hb : b.natAbs < 2 ^ l) : (a * b).natAbs < 2 ^ (k + l + 2) := Wd.abs_mono (Wd.abs_mul ha hb) (by omega)
theorem ae2 {a b c d : Int} {k l : Nat} (ha : a.natAbs < 2 ^ k) (hb : b.natAbs < 2 ^ l) (hc : c.natAbs < 2 ^ k) (hd : d.natAbs < 2 ^ l) : (a * b + c * d).natAbs < 2 ^ (k + l + 2) :=
  Wd.abs_mono (Wd.abs_add (Wd.abs_mul ha hb) (Wd.abs_mul hc hd)) (by omega)
theorem ae3 {a b c d e f : Int} {k l : Nat} (ha : a.natAbs < 2 ^ k) (hb : b.natAbs < 2 ^ l) (hc : c.natAbs < 2 ^ k) (hd : d.natAbs < 2 ^ l) (he : e.natAbs < 2 ^ k) (hf : f.natAbs < 2 ^ l) : (a * b + (c * d + e * f)).natAbs < 2 ^ (k + l + 2) :=
  Wd.abs_add (Wd.abs_mono (Wd.abs_mul ha hb) (by omega)) (Wd.abs_add (Wd.abs_mul hc hd) (Wd.abs_mul he hf))
theorem SqE.mul {n k l : Nat} {M N : List (List Int)} (hM : SqE n k M) (hN : SqE n l N) (h1 : 1 ≤ n) (h3 : n ≤ 3) : SqE n (k + l + 2) (mulM n M N) := by
  refine ⟨(mul_sh h1 h3 hM.sh hN.sh).len, (mul_sh h1 h3 hM.sh hN.sh).row, ?_⟩
  have : n = 1 ∨ n = 2 ∨ n = 3 := by omega
  rcases this with rfl | rfl | rfl
  · obtain ⟨a, rfl⟩ := sh1 hM.sh rfl
    obtain ⟨b, rfl⟩ := sh1 hN.sh rfl
    have x := hM.bd
    have y := hN.bd
    rw [mulE1]
    simp only [List.mem_cons, List.not_mem_nil, or_false, forall_eq] at x y ⊢
    exact ae1 x y
  · obtain ⟨a, b, c, d, rfl⟩ := sh2 hM.sh rfl
    obtain ⟨e, f, g, h, rfl⟩ := sh2 hN.sh rfl
    have x := hM.bd
    have y := hN.bd
    rw [mulE2]
    simp only [List.mem_cons, List.not_mem_nil, or_false, forall_eq_or_imp, forall_eq] at x y ⊢
    obtain ⟨⟨x1, x2⟩, x3, x4⟩ := x
    obtain ⟨⟨y1, y2⟩, y3, y4⟩ := y
    exact ⟨⟨ae2 x1 y1 x2 y3, ae2 x1 y2 x2 y4⟩, ae2 x3 y1 x4 y3, ae2 x3 y2 x4 y4⟩
  · obtain ⟨a, b, c, d, e, f, g, h, i, rfl⟩ := sh3 hM.sh rfl
    obtain ⟨j, k', l', m, n, o, p, q, r, rfl⟩ := sh3 hN.sh rfl
    have x := hM.bd
    have y := hN.bd
    rw [mulE3]
    simp only [List.mem_cons, List.not_mem_nil, or_false, forall_eq_or_imp, forall_eq] at x y ⊢
    obtain ⟨⟨x1, x2, x3⟩, ⟨x4, x5, x6⟩, x7, x8, x9⟩ := x
    obtain ⟨⟨y1, y2, y3⟩, ⟨y4, y5, y6⟩, y7, y8, y9⟩ := y
    exact ⟨⟨ae3 x1 y1 x2 y4 x3 y7, ae3 x1 y2 x2 y5 x3 y8, ae3 x1 y3 x2 y6 x3 y9⟩, ⟨ae3 x4 y1 x5 y4 x6 y7, ae3 x4 y2 x5 y5 x6 y8, ae3 x4 y3 x5 y6 x6 y9⟩, ae3 x7 y1 x8 y4 x9 y7, ae3 x7 y2 x8 y5 x9 y8, ae3 x7 y3 x8 y6 x9 y9⟩
/-- a Table in the heap, with the bits of its numbers -/
structure Tv (C : Addr) (H : Hp) (x : V) (n : Nat) (b : Nat) (M : List (List Int)) : Prop where
  tab : Tab C H x M
  gr : Gr n M
  bd : SqE n b M
theorem Tv.same {C : Addr} {H H' : Hp} {x : V} {n : Nat} {b : Nat} {M : List (List Int)} (h : Tv C H x n b M) (s : Same H H') : Tv C H' x n b M := ⟨T24.Tab.same s h.tab, h.gr, h.bd⟩
section
variable {C : Addr} {H : Hp} {Q : VK} {E : XK} {n m : Nat} {b c : Nat} {M N : List (List Int)} {x y : V}
theorem p_rows (hx : Tab C H x M) (q : ∀ r, Mx H r M → Q r H) : ∃ a dx fs, x = .ref a ∧ H a = some (.ins C dx fs) ∧ sp_rows C (.ref a :: []) H Q E := by
  obtain ⟨a, dx, r, rfl, ha, hm⟩ := id hx
  exact ⟨a, dx, _, rfl, ha, _, M, rfl, hx, q⟩
theorem p_size (hx : Tab C H x M) (q : Q (.int M.length) H) : ∃ a dx fs, x = .ref a ∧ H a = some (.ins C dx fs) ∧ sp_size C (.ref a :: []) H Q E := by
  obtain ⟨a, dx, r, rfl, ha, hm⟩ := id hx
  exact ⟨a, dx, _, rfl, ha, _, M, rfl, hx, q⟩
theorem Tv.up (h : Tv C H x n b M) (k : b ≤ c) : Tv C H x n c M := ⟨h.tab, h.gr, h.bd.mono k⟩
end
structure DefK (P : Program) (w : World) (K : PySem.W.Frag) (mg : Str → Option Value) (base : Heap) (nm : Str) (k : Nat) (ps ks : List Str) (sp : Sp) (g : List Value → List Value → List Value) (gV : List V → List V → List V) : Prop where
  ex : ∃ (f : Addr) (fd : FuncData), FnOk P w K mg base CX0 k f fd ps sp ∧ mg nm = some (.ref f) ∧ PySem.W.keepIn K (.ref f) = true ∧ Binds K fd ps [] ∧ KBinds K fd ps ks g gV
theorem DefK.d {P : Program} {w : World} {K : PySem.W.Frag} {mg : Str → Option Value} {base : Heap} {nm : Str} {k : Nat} {ps ks : List Str} {sp : Sp} {g gV} (D : DefK P w K mg base nm k ps ks sp g gV) : Def P w K mg base nm k ps sp :=
  let ⟨f, fd, G, m, kp, b, _⟩ := D.ex
  ⟨f, fd, G, m, kp, b⟩
theorem pe_defN {X : Cx} {nm : Str} {k j : Nat} {ps ks : List Str} {sp : Sp} {g gV} {kws : List Keyword} {tk : TA} {p pos : Pos} (D : DefK X.prog X.w X.K X.mg X.base nm k ps ks sp g gV) (room : Room j X.A) (hkw : PK X kws tk) (hkj : k ≤ j := by decide) (hg : Gl X nm := by rfl) (hdb : (nm == ("__debug__" : Str)) = false := by decide)
    (hall : (backToKw pos (keywordEach kws X.env)).all (·.1.isSome) = true := by rfl) (hks : (backToKw pos (keywordEach kws X.env)).filterMap (·.1) = ks := by rfl)
    (hpl : ((backTo pos (starEach [] X.env)).any (·.1) || (backToKw pos (keywordEach kws X.env)).any (·.1.isNone)) = false := by rfl) :
    PE X (.Call (.Name nm p) [] kws pos) (fun σ H Q => tk σ H fun zs H2 => sp (gV [] zs) H2 Q E0) := by
  obtain ⟨f, fd, G, m, kp, b, kb⟩ := D.ex
  exact pe_names G (room.mono hkj) hg m kp kb pass0 hkw hall hks hdb hpl
abbrev gV2 : List V → List V → List V := fun us ws => match us, ws with | [], [a, b] => [b, a] | _, _ => []
abbrev gU2 : List Value → List Value → List Value := fun us ws => match us, ws with | [], [a, b] => [b, a] | _, _ => []
abbrev gV1 : List V → List V → List V := fun us ws => match us, ws with | [], [a] => [a] | _, _ => []
end T24
set_option Elab.async false
set_option linter.all false
set_option maxRecDepth 100000
set_option maxHeartbeats 4000000
namespace T24
open PySem PySem.Spec PyProof.Rows L2 Gd Zn Rp Dn Tb Gn En Zs Ct Op Oc Rg Rt
theorem r_neMx {K : PySem.W.Frag} {H : Hp} {x y : V} {M N : List (List Int)} {Q : VK} (hx : Mx H x M) (hy : Mx H y N) (q : Q (.bl (!decide (M = N))) H) : rNeD K x y H Q := by
  refine ⟨mxD M, mxD N, dp_mx hx, dp_mx hy, shaped_mx M, shaped_mx N, ?_⟩
  rw [eqv_mx]
  exact q
theorem ne_no {M N : List (List Int)} (e : M = N) : (!decide (M = N)) = false := by rw [decide_eq_true e]; rfl
theorem r_or {t u : TT} {σ : L2.St} {H : Hp} {Q : Bool → Hp → Prop} (h : t σ H fun c H1 => if c = true then Q true H1 else u σ H1 Q) : tOr t u σ H Q := h
theorem r_tt {te : TE} {σ : L2.St} {H : Hp} {Q : Bool → Hp → Prop} (h : te σ H fun x H1 => ∃ k, x = .bl k ∧ Q k H1) : tTest te σ H Q := h
theorem r_andV {ta tb : TE} {σ : L2.St} {H : Hp} {Q : VK} (h : ta σ H fun x H1 => ∃ c, x = .bl c ∧ if c = true then tb σ H1 Q else Q (.bl false) H1) : tAndV ta tb σ H Q := h
theorem a1 {sp : Sp} {E : XK} {ta : TE} {σ : L2.St} {H : Hp} {Q : VK} (h : ta σ H fun x H1 => sp [x] H1 Q E) : tCall sp [] E (tCons ta tNil) σ H Q := h
theorem a2 {sp : Sp} {E : XK} {ta tb : TE} {σ : L2.St} {H : Hp} {Q : VK} (h : ta σ H fun x H1 => tb σ H1 fun y H2 => sp [x, y] H2 Q E) : tCall sp [] E (tCons ta (tCons tb tNil)) σ H Q := h
def sp_right : Sp := fun vs H Q _ => ∃ p, vs = [.ref p] ∧ PotOk H p ∧ ∀ H', RX (some p) H H' → Q (.bl true) H'
theorem r_tup {t : TA} {σ : L2.St} {H : Hp} {Q : VK} (h : t σ H fun xs H1 => xs.length ≤ sizeLine ∧ ∀ p, H1 p = none → Q (.ref p) (upd H1 p (.tup xs))) : tTup t σ H Q := h
theorem n2 {sp : Sp} {ta tb : TE} {σ : L2.St} {H : Hp} {Q : VK} (h : ta σ H fun x H1 => tb σ H1 fun y H2 => sp [y, x] H2 Q E0) : tCons ta (tCons tb tNil) σ H (fun zs H2 => sp (gV2 [] zs) H2 Q E0) := h
theorem r_prop {C : Addr} {sp : Sp} {E : XK} {ta : TE} {σ : L2.St} {H : Hp} {Q : VK} (h : ta σ H fun x H1 => ∃ a dx fs, x = .ref a ∧ H1 a = some (.ins C dx fs) ∧ sp (.ref a :: []) H1 Q E) : tProp C sp [] E ta σ H Q := h
theorem a3 {sp : Sp} {E : XK} {ta tb tc : TE} {σ : L2.St} {H : Hp} {Q : VK} (h : ta σ H fun x H1 => tb σ H1 fun y H2 => tc σ H2 fun z H3 => sp [x, y, z] H3 Q E) : tCall sp [] E (tCons ta (tCons tb (tCons tc tNil))) σ H Q := h
def sp_law (K : PySem.W.Frag) : Sp := fun vs H Q _ => ∃ (a : Addr) (ns : List Int), vs = [.ref a] ∧ SqL K H a (ns.map V.int) ∧ ns.length ≤ 63 ∧ ∀ H', Q (.bl true) H'
structure DefG (P : Program) (w : World) (K : PySem.W.Frag) (mg : Str → Option Value) (base : Heap) (nm : Str) (k : Nat) (ps : List Str) (sp : Sp) : Prop where
  ex : ∃ (f : Addr) (fd : FuncData), FnG P w K mg base CX0 k f fd ps sp ∧ mg nm = some (.ref f) ∧ PySem.W.keepIn K (.ref f) = true ∧ Binds K fd ps []
theorem pe_defG {X : Cx} {nm : Str} {k j : Nat} {ps : List Str} {sp : Sp} {e : Expr} {es : List Expr} {t : TA} {p pos : Pos} (D : DefG X.prog X.w X.K X.mg X.base nm k ps sp) (hst : Still X.A) (room : Room j X.A) (ha : PA X (e :: es) t) (hkj : k ≤ j := by decide) (hg : Gl X nm := by rfl)
    (hdb : (nm == ("__debug__" : Str)) = false := by decide) (he : starEach (e :: es) X.env = (false, eval e X.env) :: starEach es X.env := by rfl) (hpl : (backTo pos (starEach es X.env)).any (·.1) = false := by rfl) :
    PE X (.Call (.Name nm p) (e :: es) [] pos) (tCall sp [] E0 t) := by
  obtain ⟨f, fd, G, m, kp, b⟩ := D.ex
  exact pe_callG G hst (room.mono hkj) hg m kp b .nil pass0 ha hdb he hpl
theorem cb1 {r : List V → Hp → VK → Prop} {ta : TE} {σ : L2.St} {H : Hp} {Q : VK} (h : ta σ H fun x H1 => r [x] H1 Q) : tCB r (tCons ta tNil) σ H Q := h
theorem r_lst {t : TA} {σ : L2.St} {H : Hp} {Q : VK} (h : t σ H fun xs H1 => xs.length ≤ sizeLine ∧ ∀ p, H1 p = none → Q (.ref p) (upd H1 p (.lst xs))) : tLst t σ H Q := h
def MkA (C : Addr) (H : Hp) (x : V) (Q : VK) : Prop := ∀ z dx : Addr, H z = none → H dx = none → dx ≠ z → sp_init C (V.ref z :: ([x] ++ [])) (upd (upd H dx (.own z)) z (.ins C dx [])) (fun u H2 => u = V.non ∧ Q (.ref z) H2) E0
theorem MkA.of {C : Addr} {H : Hp} {v : V} {d : PyData} {M : List (List Int)} {n : Nat} {b : Nat} {Q : VK} (av : AnyV H v d) (g : GridD d M) (gr : Gr n M) (bd : SqE n b M) (lb : b ≤ 20000) (k : ∀ c H', Same H H' → Tv C H' (.ref c) n b M → Q (.ref c) H') : MkA C H v Q :=
  fun z dx nz nd ne => make_any (Q := Q) av g (bd.sq lb) gr.h1 gr.h3 gr.d (fun c H' s t => k c H' s ⟨t, gr, bd⟩) z dx nz nd ne
theorem SmN.up {a b a' b' : Nat} {d : PyData} (h : SmN a b d) (ha : a ≤ a') (hb : b ≤ b') : SmN a' b' d := ⟨h.sh, Nat.le_trans h.dp ha, h.ls, Nat.le_trans h.bk hb⟩
theorem SmN.fit {a b : Nat} {d : PyData} (h : SmN a b d) (ha : a ≤ 20) (hb : b ≤ 1000) : Fit d := fit_of h.sh (Nat.le_trans h.dp ha) h.ls (Nat.le_trans h.bk hb)
theorem n1 {sp : Sp} {ta : TE} {σ : L2.St} {H : Hp} {Q : VK} (h : ta σ H fun x H1 => sp [x] H1 Q E0) : tCons ta tNil σ H (fun zs H2 => sp (gV1 [] zs) H2 Q E0) := h
end T24
set_option Elab.async false
set_option linter.all false
set_option maxRecDepth 100000
set_option maxHeartbeats 1000000
namespace Ro
open PySem PySem.Spec PyProof.Rows L2 Gd Rp
end Ro
set_option Elab.async false
set_option linter.all false
set_option maxRecDepth 100000
set_option maxHeartbeats 4000000
set_option Elab.async false
set_option linter.all false
set_option maxRecDepth 100000
set_option maxHeartbeats 2000000
namespace T24
open PySem PySem.Spec PyProof.Rows L2 Gd Zn Rp Dn Tb Gn En Zs Ct Op Oc Rg Rt Ro
inductive GRows (H : Hp) : List (Bool × Addr) → List (List Int) → Prop
  | nil : GRows H [] []
  | lst {a : Addr} {r : List Int} {src : List (Bool × Addr)} {M : List (List Int)} : H a = some (.lst (r.map V.int)) → GRows H src M → GRows H ((false, a) :: src) (r :: M)
  | tup {a : Addr} {r : List Int} {src : List (Bool × Addr)} {M : List (List Int)} : H a = some (.tup (r.map V.int)) → GRows H src M → GRows H ((true, a) :: src) (r :: M)
theorem GRows.mono {H H' : Hp} {src : List (Bool × Addr)} {M : List (List Int)} (s : Same H H') (h : GRows H src M) : GRows H' src M := by
  induction h with
  | nil => exact .nil
  | lst e _ ih => exact .lst (s _ _ e) ih
  | tup e _ ih => exact .tup (s _ _ e) ih
theorem GRows.len {H : Hp} {src : List (Bool × Addr)} {M : List (List Int)} (h : GRows H src M) : src.length = M.length := by
  induction h with
  | nil => rfl
  | lst _ _ ih => rw [List.length_cons, List.length_cons, ih]
  | tup _ _ ih => rw [List.length_cons, List.length_cons, ih]
theorem grid_src {H : Hp} : ∀ {vx : List V} {ds : List PyData} {M : List (List Int)}, PyVs H vx ds → ds.length = M.length → (∀ (i : Nat) (d' : PyData), ds[i]? = some d' → ∃ r, M[i]? = some r ∧ (d' = .list (iD r) ∨ d' = .tuple (iD r))) → ∃ src, vx = kRefs src ∧ GRows H src M
  | _, _, [], .nil, _, _ => ⟨[], rfl, .nil⟩
  | _, _, _ :: _, .nil, l, _ => by simp at l
  | _, _, [], .cons _ _, l, _ => by simp at l
  | v :: vx, d :: ds, r :: M, .cons p q, l, h => by
    obtain ⟨src, e, g⟩ := grid_src q (Nat.succ.inj l) fun i d' e => h (i + 1) d' e
    obtain ⟨r', er, hd⟩ := h 0 d rfl
    cases er
    subst e
    rcases hd with rfl | rfl
    · cases p with
      | lst e z =>
        have ez := pyVs_ints z
        subst ez
        exact ⟨(false, _) :: src, rfl, .lst e g⟩
    · cases p with
      | tup e z =>
        have ez := pyVs_ints z
        subst ez
        exact ⟨(true, _) :: src, rfl, .tup e g⟩
theorem grow_all {K : PySem.W.Frag} {H : Hp} {j m : Nat} (hj : j < m) {src : List (Bool × Addr)} {M : List (List Int)} (h : GRows H src M) (hm : ∀ r ∈ M, r.length = m) : RowAt K H j src (M.map fun r => .int (r.getD j 0)) := by
  induction h with
  | nil => trivial
  | @lst a r src M e _ ih =>
    have hr : j < r.length := by rw [hm r List.mem_cons_self]; exact hj
    refine ⟨⟨r.map V.int, .inl (.inl e), ?_⟩, ih fun r hr => hm r (List.mem_cons_of_mem _ hr)⟩
    show _ = some (V.int (r.getD j 0))
    rw [List.getElem?_map, List.getElem?_eq_getElem hr, List.getD_eq_getElem?_getD, List.getElem?_eq_getElem hr]
    rfl
  | @tup a r src M e _ ih =>
    have hr : j < r.length := by rw [hm r List.mem_cons_self]; exact hj
    refine ⟨⟨r.map V.int, .inl (.inl e), ?_⟩, ih fun r hr => hm r (List.mem_cons_of_mem _ hr)⟩
    show _ = some (V.int (r.getD j 0))
    rw [List.getElem?_map, List.getElem?_eq_getElem hr, List.getD_eq_getElem?_getD, List.getElem?_eq_getElem hr]
    rfl
theorem gall_sq {K : PySem.W.Frag} {H : Hp} {src : List (Bool × Addr)} {M : List (List Int)} (h : GRows H src M) : AllSq K H src := by
  induction h with
  | nil => exact fun q hq => by cases hq
  | lst e _ ih =>
    intro z hz
    rcases List.mem_cons.mp hz with rfl | hz
    · exact ⟨_, .inl (.inl e)⟩
    · exact ih z hz
  | tup e _ ih =>
    intro z hz
    rcases List.mem_cons.mp hz with rfl | hz
    · exact ⟨_, .inl (.inl e)⟩
    · exact ih z hz
section
variable {P : Program} {w : World} {K : PySem.W.Frag} {mg : Str → Option Value} {base : Heap}
def sp_acrossG : Sp := fun vs H Q _ => ∃ v d M m, vs = [v] ∧ AnyV H v d ∧ GridD d M ∧ 0 < M.length ∧ M.length ≤ 3 ∧ m ≤ 100 ∧ (∀ r ∈ M, r.length = m) ∧ ∀ v' H', Same H H' → Mx H' v' (transp m M) → Q v' H'
theorem sc_acrossG : FnScope ["rows", "column"] ["rows"] (defScope st_across) := ⟨rfl, rfl, rfl, by decide +kernel, rfl, by decide +kernel, by decide +kernel⟩
theorem ok_acrossG {f : Addr} {fd : FuncData} (F : Fun K "across" "across" st_across f fd) (T : Txt mg) : FnOk P w K mg base CX0 1 f fd ["rows"] sp_acrossG := by
  refine F.ok sc_acrossG (fun vs H Q E h => ?_) (fun cdv A outer s H vs Q E hr h => ?_)
  · obtain ⟨v, d, M, m, rfl, _⟩ := h
    rfl
  · obtain ⟨v, d, M, m, rfl, av, ⟨g1, g2, g3⟩, h0, h3, hm, hM, q⟩ := h
    refine ⟨_, pss_one (ps_ret (pe_callTy (r := rTup K) c_tup (by rfl) T.tuple PyProof.Rows.boot_tuple (pa_cons (pe_lc (own := [("column", 1)]) (g := gName 1) (tt := tYes) rfl sc_acrossG.nd (pi_zipStar (by rfl) T.zip (pv 0))
        (blkOk_by (N := ["rows", "column"]) (sc := defScope st_across) (by decide +kernel))
        (fun _ _ _ _ _ => pg_name (i := 1) sc_acrossG.nd rfl (Or.inl rfl) (Or.inr rfl)) (fun _ _ _ _ _ => pts_nil)
        (fun _ _ _ _ _ => pe_callTy (r := rTup K) c_tup (by rfl) T.tuple PyProof.Rows.boot_tuple (pa_cons (pv 1) pa_nil))) pa_nil))), ?_⟩
    obtain ⟨t, a, vx, rfl, qx, px⟩ := (seq_of av g1).at K
    obtain ⟨src, rfl, hR⟩ := grid_src px g2 g3
    have hsl := hR.len
    refine r_ret (r_cb (r_cons ?_))
    refine tlc_of (Itn K src) (H1 := H) (fun R hR' => ⟨_, rfl, a, src, rfl, (sq_or (qx H (Same.refl H))).symm, by omega, by omega, gall_sq hR, hR'⟩) ?_
    refine lc_ks (p := none) m (fun i v H => ∃ r, (transp m M)[i]? = some r ∧ RowV H v r) (fun i v H H' k h => ?_) has_none (by omega) (fun i H2 hi s2 => ?_) (fun H2 s2 => ?_) (fun i x H2 H3 C hi s2 _ hy hC => ?_) fun Da H2 rs nD s2 hD hrl hE => ?_
    · obtain ⟨r, e, h⟩ := h
      exact ⟨r, e, h.mono k⟩
    · exact ⟨_, grow_all hi (hR.mono s2.same) hM⟩
    · refine ⟨gall_sq (hR.mono s2.same), ?_⟩
      cases hR with
      | nil => simp at h0
      | @lst b r src M e _ => exact ⟨_, List.mem_cons_self, _, .inl (.inl (s2.same _ _ e)), by rw [List.length_map, hM r List.mem_cons_self]; exact Nat.le_refl _⟩
      | @tup b r src M e _ => exact ⟨_, List.mem_cons_self, _, .inl (.inl (s2.same _ _ e)), by rw [List.length_map, hM r List.mem_cons_self]; exact Nat.le_refl _⟩
    · obtain ⟨T2, ys, rfl, nT, rfl, hu⟩ := hy
      have ey := (hu _ (grow_all hi (hR.mono s2.same) hM)).symm
      subst ey
      refine ⟨rfl, ?_⟩
      refine r_cb (r_cons ?_)
      refine ⟨_, rfl, ?_⟩
      refine ⟨T2, _, rfl, .inr ⟨.inl (.inl upd_same), hC _ _ (RX.new nT) ⟨_, transp_get hi, T2, rfl, ?_⟩⟩⟩
      rw [upd_same, List.map_map]
      rfl
    · refine ⟨Da, rs, rfl, .inl ⟨.inl (.inl hD), fun l nl => ?_⟩⟩
      have k : Same H2 (upd H2 l (.tup rs)) := same_new nl
      refine q _ _ (s2.same.trans k) ⟨l, rs, rfl, upd_same, ?_⟩
      exact (rows_of (by rw [hrl, transp_len]) hE).mono (KS.of k)
end
abbrev st_F (i : Nat) : Stmt := inClass (top 20) i
structure Fcl (K : PySem.W.Frag) (mg : Str → Option Value) (C : Addr) : Prop where
  cl : Cls K C
  nR : NoAttr K C "_rows"
  mgC : mg "Form" = some (.ref C)
  cc : PySem.W.findIn K (.ref C) "__class__" = some (some (.builtin "object.__class__"))
  cg : PySem.W.specialIn K (.builtin "object.__class__") "__get__" = some (some (.builtin "getset_descriptor.__get__"))
  ct : PySem.W.takesIn K (.builtin "object.__class__") = some true
  cm : PySem.W.mroIn K C (.type "object") = some true
theorem Fcl.ty {K : PySem.W.Frag} {mg : Str → Option Value} {C : Addr} (T : Fcl K mg C) {H : Hp} {p dx : Addr} {fs : List (Str × V)} (h : H p = some (.ins C dx fs)) : TyX K H (.ref p) (.ref C) := .base (.ins h T.cl T.cc T.cg T.ct T.cm)
/-- rows that are the same across -/
structure Sy (n : Nat) (M : List (List Int)) : Prop where
  sq : Sq n M
  h1 : 1 ≤ n
  h3 : n ≤ 3
  eq : transp n M = M
section
variable {P : Program} {w : World} {K : PySem.W.Frag} {mg : Str → Option Value} {base : Heap} {C D : Addr}
def sp_initF (C : Addr) : Sp := fun vs H Q _ => ∃ p dx v d M n, vs = [.ref p, v] ∧ H p = some (.ins C dx []) ∧ AnyV H v d ∧ GridD d M ∧ Sy n M ∧
  ∀ H', (∀ c o, c ≠ p → H c = some o → H' c = some o) → Tab C H' (.ref p) M → Q .non H'
theorem sc_initF : FnScope ["self", "rows"] ["self", "rows"] (defScope (st_F 0)) := ⟨rfl, rfl, rfl, by decide +kernel, rfl, by decide +kernel, by decide +kernel⟩
theorem ok_initF {f : Addr} {fd : FuncData} (F : Fun K "__init__" "Form.__init__" (st_F 0) f fd) (T : Txt mg) (Fc : Fcl K mg C) (D1 : Def P w K mg base "is_grid" 4 ["value"] sp_is_grid) (D2 : Def P w K mg base "copied" 1 ["rows"] sp_copied)
    (D3 : Def P w K mg base "across" 1 ["rows"] sp_acrossG) : FnOk P w K mg base CX0 8 f fd ["self", "rows"] (sp_initF C) := by
  refine F.ok sc_initF (fun vs H Q E h => ?_) (fun cdv A outer s H vs Q E hr h => ?_)
  · obtain ⟨p, dx, v, d, M, n, rfl, _⟩ := h
    rfl
  · obtain ⟨p, dx, v, d, M, n, rfl, hp, av, g, ⟨hS, h1, h3, he⟩, q⟩ := h
    obtain ⟨gt, gl⟩ := grid_true g h1 h3 hS
    refine ⟨_, pss_cons (ps_if (PW.pt (pw_or (pt_not (pt_val (pe_def D1 hr (pa_cons (pv 1) pa_nil)))) (pw_or1 (pt_cmpR (op_neD hr.units) (pe_def D2 hr (pa_cons (pv 1) pa_nil)) (pe_def D3 hr (pa_cons (pv 1) pa_nil)) (nomark _))))) pss_dead pss_nil)
      (pss_one (ps_fld (pv 0) (pe_def D2 hr (pa_cons (pv 1) pa_nil)) rfl)), ?_⟩
    have hl : (items d).length = n := by rw [g.2.1]; exact hS.len
    refine r_seq (r_if (r_or (r_not (r_tt (a1 ⟨_, rfl, v, d, rfl, av, by omega, fun r hr => by rw [gl r hr]; omega, fun H1 s1 => ⟨_, rfl, ?_⟩⟩)))))
    rw [gt]
    refine iteF ?_
    refine r_tt (r_op (a1 ⟨_, rfl, v, d, M, rfl, av.mono s1, g, by rw [hS.len]; omega, fun v2 H2 s2 hM => ?_⟩))
    refine a1 ⟨_, rfl, v, d, M, n, rfl, (av.mono s1).mono s2, g, by rw [hS.len]; omega, by rw [hS.len]; omega, by omega, hS.row, fun v3 H3 s3 hM3 => ?_⟩
    rw [he] at hM3
    refine r_neMx (hM.mono (KS.of s3)) hM3 ⟨_, rfl, ?_⟩
    rw [ne_no rfl]
    refine iteF ?_
    have S3 := s1.trans (s2.trans s3)
    refine ⟨_, rfl, v, d, M, rfl, av.mono S3, g, by rw [hS.len]; omega, fun v4 H4 s4 hM4 => ?_⟩
    have S4 := S3.trans s4
    refine ⟨_, rfl, p, C, dx, [], rfl, S4 _ _ hp, Fc.cl, Fc.nR, (by show 0 < 1000; decide), ?_⟩
    refine q _ (fun c o hc e => ?_) ?_
    · rw [upd_ne hc]
      exact S4 _ _ e
    · refine ⟨p, dx, v4, rfl, upd_same, T24.Mx.tup_mono (fun c xs e => ?_) hM4⟩
      have nc : c ≠ p := fun z => by
        subst z
        have := S4 _ _ hp
        rw [e] at this
        cases this
      rw [upd_ne nc]
      exact e
end
end T24
set_option Elab.async false
set_option linter.all false
set_option maxRecDepth 100000
set_option maxHeartbeats 4000000
namespace T24
open PySem PySem.Spec PyProof.Rows L2 Gd Zn Rp Dn Tb Gn En Zs Ct Op Oc Rg Rt Ro
def btwM (M : List (List Int)) (x y : List Int) : Int := dot x (ledM M y)
theorem trE2 (a b c d : Int) : transp 2 [[a, b], [c, d]] = [[a, c], [b, d]] := rfl
theorem trE3 (a b c d e f g h i : Int) : transp 3 [[a, b, c], [d, e, f], [g, h, i]] = [[a, d, g], [b, e, h], [c, f, i]] := rfl
theorem tr_sh {n : Nat} {M : List (List Int)} (h : Sh n M) (h1 : 1 ≤ n) (h3 : n ≤ 3) : Sh n (transp n M) := by
  have : n = 1 ∨ n = 2 ∨ n = 3 := by omega
  rcases this with rfl | rfl | rfl
  · obtain ⟨a, rfl⟩ := sh1 h rfl
    exact sh_mk1 _
  · obtain ⟨a, b, c, d, rfl⟩ := sh2 h rfl
    exact sh_mk2 _ _ _ _
  · obtain ⟨a, b, c, d, e, f, g, h', i, rfl⟩ := sh3 h rfl
    exact sh_mk3 _ _ _ _ _ _ _ _ _
theorem sy2 {M : List (List Int)} (h : Sh 2 M) (e : transp 2 M = M) : ∃ a b c, M = [[a, b], [b, c]] := by
  obtain ⟨a, b, c, d, rfl⟩ := sh2 h rfl
  rw [trE2] at e
  simp only [List.cons.injEq, and_true, true_and] at e
  obtain ⟨e, _⟩ := e
  subst e
  exact ⟨a, c, d, rfl⟩
theorem sy3 {M : List (List Int)} (h : Sh 3 M) (e : transp 3 M = M) : ∃ a b c d e f, M = [[a, b, c], [b, d, e], [c, e, f]] := by
  obtain ⟨a, b, c, d, e', f, g, h', i, rfl⟩ := sh3 h rfl
  rw [trE3] at e
  simp only [List.cons.injEq, and_true, true_and] at e
  obtain ⟨⟨e1, e2⟩, ⟨_, e3⟩, _⟩ := e
  subst e1 e2 e3
  exact ⟨a, d, g, e', h', i, rfl⟩
theorem SqE.tr {n k : Nat} {M : List (List Int)} (h : SqE n k M) (h1 : 1 ≤ n) (h3 : n ≤ 3) : SqE n k (transp n M) := by
  have s := tr_sh h.sh h1 h3
  refine ⟨s.len, s.row, fun r hr x hx => ?_⟩
  unfold transp at hr
  obtain ⟨j, hj, rfl⟩ := List.mem_map.mp hr
  have hj : j < n := by simpa using hj
  obtain ⟨r', hr', rfl⟩ := List.mem_map.mp hx
  have l := h.row r' hr'
  refine h.bd r' hr' _ ?_
  rw [List.getD_eq_getElem?_getD, List.getElem?_eq_getElem (by omega : j < r'.length)]
  exact List.getElem_mem _
/-- rows with bits -/
def Rb (k : Nat) (xs : List Int) : Prop := ∀ x ∈ xs, x.natAbs < 2 ^ k
theorem Rb.mono {k l : Nat} {xs : List Int} (h : Rb k xs) (e : k ≤ l) : Rb l xs := fun x hx => Wd.abs_mono (h x hx) e
theorem Rb.small {k : Nat} {xs : List Int} (h : Rb k xs) (e : k ≤ 20000) : ∀ x ∈ xs, Small x := fun x hx => ⟨k, e, h x hx⟩
/-- a Form in the heap, with the bits of its numbers -/
structure Fv (C : Addr) (H : Hp) (x : V) (n : Nat) (b : Nat) (M : List (List Int)) : Prop where
  tab : Tab C H x M
  h1 : 1 ≤ n
  h3 : n ≤ 3
  eq : transp n M = M
  bd : SqE n b M
theorem Fv.same {C : Addr} {H H' : Hp} {x : V} {n : Nat} {b : Nat} {M : List (List Int)} (h : Fv C H x n b M) (s : Same H H') : Fv C H' x n b M := ⟨T24.Tab.same s h.tab, h.h1, h.h3, h.eq, h.bd⟩
theorem Fv.up {C : Addr} {H : Hp} {x : V} {n b c : Nat} {M : List (List Int)} (h : Fv C H x n b M) (k : b ≤ c) : Fv C H x n c M := ⟨h.tab, h.h1, h.h3, h.eq, h.bd.mono k⟩
theorem Fv.len {C : Addr} {H : Hp} {x : V} {n b : Nat} {M : List (List Int)} (h : Fv C H x n b M) : M.length = n := h.bd.len
theorem make_frm {C : Addr} {H : Hp} {v : V} {d : PyData} {M : List (List Int)} {n : Nat} {Q : VK} {E : XK} (av : AnyV H v d) (g : GridD d M) (hS : Sy n M)
    (k : ∀ c H', Same H H' → Tab C H' (.ref c) M → Q (.ref c) H') : ∀ x dx : Addr, H x = none → H dx = none → dx ≠ x → sp_initF C (V.ref x :: ([v] ++ [])) (upd (upd H dx (.own x)) x (.ins C dx [])) (fun u H2 => u = V.non ∧ Q (.ref x) H2) E := by
  intro x dx nx nd ne
  have s : Same H (upd (upd H dx (.own x)) x (.ins C dx [])) := fun c o e => by
    rw [upd_ne (ne_of_none e nx), upd_ne (ne_of_none e nd)]
    exact e
  refine ⟨x, dx, v, d, M, n, rfl, upd_same, av.mono s, g, hS, fun H' kp ht => ⟨rfl, k x H' (fun c o e => ?_) ht⟩⟩
  exact kp c o (ne_of_none e nx) (s c o e)
structure MkrF (P : Program) (w : World) (K : PySem.W.Frag) (mg : Str → Option Value) (base : Heap) (C : Addr) : Prop where
  ex : ∃ (f : Addr) (fd : FuncData), Mk K C f ∧ FnOk P w K mg base CX0 8 f fd ["self", "rows"] (sp_initF C) ∧ Binds K fd ["self", "rows"] []
theorem pe_mkrF {X : Cx} {C : Addr} {j : Nat} {e : Expr} {t : TA} {p pos : Pos} (D : MkrF X.prog X.w X.K X.mg X.base C) (Fc : Fcl X.K X.mg C) (room : Room j X.A) (ha : PA X [e] t) (hkj : 9 ≤ j := by decide) (hg : Gl X "Form" := by rfl)
    (he : starEach [e] X.env = (false, eval e X.env) :: starEach [] X.env := by rfl) (hpl : (backTo pos (starEach [] X.env)).any (·.1) = false := by rfl) :
    PE X (.Call (.Name "Form" p) [e] [] pos) (tMake C (sp_initF C) [] E0 t) := by
  obtain ⟨f, fd, m, G, b⟩ := D.ex
  exact pe_make m G (room.mono hkj) hg Fc.mgC b .nil pass0 ha (by decide +kernel) he hpl
def MkF (C : Addr) (H : Hp) (x : V) (Q : VK) : Prop := ∀ z dx : Addr, H z = none → H dx = none → dx ≠ z → sp_initF C (V.ref z :: ([x] ++ [])) (upd (upd H dx (.own z)) z (.ins C dx [])) (fun u H2 => u = V.non ∧ Q (.ref z) H2) E0
theorem mkF {C : Addr} {ta : TE} {σ : L2.St} {H : Hp} {Q : VK} (h : ta σ H fun x H1 => MkF C H1 x Q) : tMake C (sp_initF C) [] E0 (tCons ta tNil) σ H Q := h
theorem MkF.of {C : Addr} {H : Hp} {v : V} {d : PyData} {M : List (List Int)} {n : Nat} {b : Nat} {Q : VK} (av : AnyV H v d) (g : GridD d M) (h1 : 1 ≤ n) (h3 : n ≤ 3) (e : transp n M = M) (bd : SqE n b M) (lb : b ≤ 20000) (k : ∀ c H', Same H H' → Fv C H' (.ref c) n b M → Q (.ref c) H') : MkF C H v Q :=
  fun z dx nz nd ne => make_frm (Q := Q) av g ⟨bd.sq lb, h1, h3, e⟩ (fun c H' s t => k c H' s ⟨t, h1, h3, e, bd⟩) z dx nz nd ne
section
variable {P : Program} {w : World} {K : PySem.W.Frag} {mg : Str → Option Value} {base : Heap} {C D : Addr}
theorem sc_rowsF : FnScope ["self"] ["self"] (defScope (st_F 1)) := ⟨rfl, rfl, rfl, by decide +kernel, rfl, by decide +kernel, by decide +kernel⟩
theorem ok_rowsF {f : Addr} {fd : FuncData} (F : Fun K "rows" "Form.rows" (st_F 1) f fd) (Fc : Fcl K mg C) : FnOk P w K mg base CX0 1 f fd ["self"] (sp_rows C) := by
  refine F.ok sc_rowsF (fun vs H Q E h => ?_) (fun cdv A outer s H vs Q E hr h => ?_)
  · obtain ⟨v, M, rfl, _⟩ := h
    rfl
  · obtain ⟨v, M, rfl, ⟨p, dx, r, rfl, hp, hM⟩, q⟩ := h
    refine ⟨_, pss_one (ps_ret (pe_fld (pv 0) rfl)), ?_⟩
    exact ⟨_, rfl, p, C, dx, _, _, rfl, hp, Fc.cl, Fc.nR, fldsT_rows _, q r hM⟩
theorem sc_sizeF : FnScope ["self"] ["self"] (defScope (st_F 2)) := ⟨rfl, rfl, rfl, by decide +kernel, rfl, by decide +kernel, by decide +kernel⟩
theorem ok_sizeF {f : Addr} {fd : FuncData} (F : Fun K "size" "Form.size" (st_F 2) f fd) (T : Txt mg) (Fc : Fcl K mg C) : FnOk P w K mg base CX0 1 f fd ["self"] (sp_size C) := by
  refine F.ok sc_sizeF (fun vs H Q E h => ?_) (fun cdv A outer s H vs Q E hr h => ?_)
  · obtain ⟨v, M, rfl, _⟩ := h
    rfl
  · obtain ⟨v, M, rfl, ⟨p, dx, r, rfl, hp, a, vx, rfl, ha, hR⟩, q⟩ := h
    refine ⟨_, pss_one (ps_ret (pe_callB (r := Dn.rLen K) c_len (by rfl) T.len PySem.boot_len (pa_cons (pe_fld (pv 0) rfl) pa_nil))), ?_⟩
    refine ⟨_, rfl, p, C, dx, _, _, rfl, hp, Fc.cl, Fc.nR, fldsT_rows _, a, vx, rfl, .inr (.inl (.inl ha)), ?_⟩
    rw [hR.len]
    exact q
abbrev st_check_form : Stmt := top 21
def sp_check_form (C : Addr) : Sp := fun vs H Q _ => ∃ v M, vs = [v] ∧ Tab C H v M ∧ Q .non H
theorem sc_check_form : FnScope ["form"] ["form"] (defScope st_check_form) := ⟨rfl, rfl, rfl, by decide +kernel, rfl, by decide +kernel, by decide +kernel⟩
theorem ok_check_form {f : Addr} {fd : FuncData} (F : Fun K "check_form" "check_form" st_check_form f fd) (T : Txt mg) (Fc : Fcl K mg C) :
    FnOk P w K mg base CX0 1 f fd ["form"] (sp_check_form C) := by
  refine F.ok sc_check_form (fun vs H Q E h => ?_) (fun cdv A outer s H vs Q E hr h => ?_)
  · obtain ⟨v, M, rfl, _⟩ := h
    rfl
  · obtain ⟨v, M, rfl, ⟨p, dx, r, rfl, hp, hM⟩, q⟩ := h
    refine ⟨_, pss_one (ps_if (pt_not (pt_val (pe_callB (r := rIsi K) call_isi (by rfl) T.isi boot_isinstance (pa_cons (pv 0) (pa_cons (pe_glob (v := .ref C) (by rfl) Fc.mgC rfl) pa_nil))))) pss_dead pss_nil), ?_⟩
    refine ⟨_, rfl, .ref p, .ref C, _, _, _, rfl, .own C, Fc.ty hp, kit_own K C, _, rfl, ?_⟩
    exact iteF q
end
end T24
set_option Elab.async false
set_option linter.all false
set_option maxRecDepth 100000
set_option maxHeartbeats 1000000
namespace Oa
open PySem PySem.Spec PyProof.Rows L2 Op
end Oa
set_option Elab.async false
set_option linter.all false
set_option maxRecDepth 100000
set_option maxHeartbeats 4000000
namespace T24
open PySem PySem.Spec PyProof.Rows L2 Gd Zn Rp Dn Tb Gn En Zs Ct Op Oc Rg Rt Ro Oa
theorem unit_sy {n : Nat} (h1 : 1 ≤ n) (h3 : n ≤ 3) : transp n (unitM n) = unitM n := by
  have : n = 1 ∨ n = 2 ∨ n = 3 := by omega
  rcases this with rfl | rfl | rfl <;> rfl
theorem getD_of {M : List (List Int)} {i : Nat} {r : List Int} (h : M[i]? = some r) : M.getD i [] = r := by
  rw [List.getD_eq_getElem?_getD, h]
  rfl
end T24
set_option Elab.async false
set_option linter.all false
set_option maxRecDepth 100000
set_option maxHeartbeats 4000000
namespace T24
open PySem PySem.Spec PyProof.Rows L2 Gd Zn Rp Dn Tb Gn En Zs Ct Op Oc Rg Rt Ro Oa
theorem lm_at {H : Hp} {v : V} {M : List (List Int)} (h : PyV H v (lmD M)) : ∃ (a : Addr) (bs : List Addr), v = .ref a ∧ H a = some (.lst (bs.map V.ref)) ∧ bs.length = M.length ∧ ∀ (i : Nat) (b : Addr), bs[i]? = some b → H b = some (.lst ((M.getD i []).map V.int)) := by
  unfold lmD at h
  cases h with
  | @lst a vs _ e q =>
    have : ∃ bs : List Addr, vs = bs.map V.ref ∧ bs.length = M.length ∧ ∀ (i : Nat) (b : Addr), bs[i]? = some b → H b = some (.lst ((M.getD i []).map V.int)) := by
      clear e
      induction M generalizing vs with
      | nil =>
        cases q
        exact ⟨[], rfl, rfl, fun i b e => by simp at e⟩
      | cons r M ih =>
        cases q with
        | cons p q =>
          obtain ⟨bs, rfl, l, hb⟩ := ih q
          cases p with
          | @lst b ws _ e z =>
            have ez := pyVs_ints z
            subst ez
            refine ⟨b :: bs, rfl, by rw [List.length_cons, List.length_cons, l], fun i c ec => ?_⟩
            cases i with
            | zero => cases ec; exact e
            | succ i => exact hb i c ec
    obtain ⟨bs, rfl, l, hb⟩ := this
    exact ⟨a, bs, rfl, e, l, hb⟩
theorem lm_of {H : Hp} {a : Addr} {bs : List Addr} {M : List (List Int)} (e : H a = some (.lst (bs.map V.ref))) (l : bs.length = M.length) (h : ∀ (i : Nat) (b : Addr), bs[i]? = some b → H b = some (.lst ((M.getD i []).map V.int))) : PyV H (.ref a) (lmD M) :=
  py_lm e (by rw [List.length_map, l]) fun i v ev => by
    rw [List.getElem?_map] at ev
    cases hb : bs[i]? with
    | none => rw [hb] at ev; cases ev
    | some b => rw [hb] at ev; cases ev; exact ⟨b, rfl, h i b hb⟩
theorem getD_row {n : Nat} {M : List (List Int)} (h : Sh n M) {i : Nat} (hi : i < n) : (M.getD i []).length = n := h.row _ (getD_mem (by rw [h.len]; exact hi))
theorem ixL {xs : List Int} {j : Nat} (h : j < xs.length) : atI (xs.map V.int) (j : Int) = some (.int (xs.getD j 0)) := atI_nat (by
  rw [List.getElem?_map, List.getElem?_eq_getElem h, List.getD_eq_getElem?_getD, List.getElem?_eq_getElem h]
  rfl)
theorem ixR {bs : List Addr} {j : Nat} {b : Addr} (h : bs[j]? = some b) : atI (bs.map V.ref) (j : Int) = some (.ref b) := atI_nat (by rw [List.getElem?_map, h]; rfl)
theorem rb_get {k : Nat} {xs : List Int} (h : Rb k xs) {j : Nat} (hj : j < xs.length) : (xs.getD j 0).natAbs < 2 ^ k := by
  rw [List.getD_eq_getElem?_getD, List.getElem?_eq_getElem hj]
  exact h _ (List.getElem_mem hj)
end T24
set_option Elab.async false
set_option linter.all false
set_option maxRecDepth 100000
set_option maxHeartbeats 4000000
namespace T24
open PySem PySem.Spec PyProof.Rows L2 Gd Zn Rp Dn Tb Gn En Zs Ct Op Oc Rg Rt Ro Oa
theorem rx_none {p : Option Addr} {H H' : Hp} {q : Addr} (s : RX p H H') (hp : Has p H) (n : H' q = none) : H q = none := by
  cases e : H q with
  | none => rfl
  | some o =>
    by_cases z : p = some q
    · obtain ⟨x, y, e1, _⟩ := s.pot q z (hp q z)
      rw [n] at e1
      cases e1
    · have := s.keep q o z e
      rw [n] at this
      cases this
/-- new objects, one for each turn -/
theorem lc_new {p : Option Addr} {J : It} {g : TG} {te : TE} {vs : List Nat} {σ : L2.St} {H1 : Hp} {Q : VK} (n : Nat) (Ok : Nat → HO → Prop) (hp : Has p H1) (hn : n ≤ 1000)
    (hgo : ∀ i H, i < n → RX p H1 H → J.go i H) (hst : ∀ H, RX p H1 H → J.stop n H)
    (hs : ∀ i x H H' (C : VK), i < n → RX p H1 H → Has p H → J.yld i H x H' → (∀ q H4 o, RX p H H4 → H q = none → H4 q = some o → Ok i o → C (.ref q) H4) → g x (wipe σ vs) H' fun σ2 H2 => wipe σ2 vs = wipe σ vs ∧ te σ2 H2 C)
    (hd : ∀ D H (bs : List Addr), H1 D = none → RX p H1 H → H D = some (.lst (bs.map V.ref)) → bs.length = n → bs.Nodup → D ∉ bs → (∀ b ∈ bs, H1 b = none) → (∀ i b, bs[i]? = some b → ∃ o, H b = some o ∧ Ok i o) → Q (.ref D) H) : LcB g tYes te vs σ Q J H1 := by
  intro D nD
  have nP : p ≠ some D := hp.ne nD
  refine ⟨fun i m H => i ≤ n ∧ m = n - i ∧ RX p H1 H ∧ ∃ bs : List Addr, H D = some (.lst (bs.map V.ref)) ∧ bs.length = i ∧ bs.Nodup ∧ D ∉ bs ∧ (∀ b ∈ bs, H1 b = none) ∧ (∀ j b, bs[j]? = some b → ∃ o, H b = some o ∧ Ok j o),
    ⟨n, Nat.zero_le _, rfl, RX.new nD, [], upd_same, rfl, .nil, by simp, by simp, fun j v e => by simp at e⟩, ?_⟩
  rintro i m H ⟨hi, rfl, s1, bs, hD, hl, nd, nDb, fr, hE⟩
  by_cases hlt : i < n
  · refine .inr ⟨hgo i H hlt s1, fun H' => i + 1 ≤ n ∧ RX p H1 H' ∧ ∃ bs : List Addr, H' D = some (.lst (bs.map V.ref)) ∧ bs.length = i + 1 ∧ bs.Nodup ∧ D ∉ bs ∧ (∀ b ∈ bs, H1 b = none) ∧ (∀ j b, bs[j]? = some b → ∃ o, H' b = some o ∧ Ok j o), fun H' h => ⟨n - (i + 1), by omega, h.1, rfl, h.2⟩, fun x H' hy => ?_⟩
    have hpH := hp.to s1
    refine hs i x H H' _ hlt s1 hpH hy fun q H4 o s4 nq e4 ok => ?_
    have hD4 := s4.keep D _ nP hD
    have qD : q ≠ D := (ne_of_none hD nq).symm
    have nq1 : H1 q = none := rx_none s1 hp nq
    have qb : q ∉ bs := fun z => by
      obtain ⟨j, hj, ej⟩ := List.getElem_of_mem z
      obtain ⟨o', e', _⟩ := hE j q (by rw [List.getElem?_eq_getElem hj, ej])
      rw [nq] at e'
      cases e'
    refine ⟨bs.map V.ref, hD4, by rw [List.length_map]; exact Nat.lt_of_lt_of_le (by omega : bs.length < 1001) (by decide), hlt, (s1.trans s4).mut nD hp, bs ++ [q], by rw [upd_same, List.map_append]; rfl, by simp [hl], ?_, ?_, ?_, fun j b e => ?_⟩
    · rw [List.nodup_append]
      exact ⟨nd, by simp, fun a ha b hb => by rw [List.mem_singleton.mp hb]; exact fun z => qb (z ▸ ha)⟩
    · rw [List.mem_append, List.mem_singleton]
      rintro (z | z)
      · exact nDb z
      · exact qD z.symm
    · intro b hb
      rcases List.mem_append.mp hb with hb | hb
      · exact fr b hb
      · rw [List.mem_singleton.mp hb]; exact nq1
    · by_cases hj : j < bs.length
      · rw [List.getElem?_append_left hj] at e
        obtain ⟨o', e1, e2⟩ := hE j b e
        have hb : b ∈ bs := List.mem_of_getElem? e
        have bD : b ≠ D := fun z => nDb (z ▸ hb)
        have bp : p ≠ some b := fun z => by
          have := fr b hb
          obtain ⟨x, y, e9, _⟩ := hp b z
          rw [this] at e9
          cases e9
        exact ⟨o', by rw [upd_ne bD]; exact s4.keep b _ bp e1, e2⟩
      · rw [List.getElem?_append_right (by omega)] at e
        have z : j - bs.length = 0 := by
          by_cases w : j - bs.length = 0
          · exact w
          · rw [List.getElem?_eq_none (by simp; omega)] at e; cases e
        rw [z] at e
        cases e
        have : j = i := by omega
        subst this
        exact ⟨o, by rw [upd_ne qD]; exact e4, ok⟩
  · have e : i = n := by omega
    subst e
    exact .inl ⟨hst H s1, hd D H bs nD s1 hD hl nd nDb fr hE⟩
def ent (M : List (List Int)) (i j : Nat) : Int := (M.getD i []).getD j 0
def setIJ (M : List (List Int)) (i j : Nat) (x : Int) : List (List Int) := M.set i ((M.getD i []).set j x)
theorem ent_set {n : Nat} {M : List (List Int)} (h : Sh n M) {i j : Nat} (hi : i < n) (hj : j < n) (x : Int) (k l : Nat) : ent (setIJ M i j x) k l = if k = i ∧ l = j then x else ent M k l := by
  have hi' : i < M.length := by rw [h.len]; exact hi
  have hr : (M.getD i []).length = n := getD_row h hi
  unfold ent setIJ
  by_cases e : k = i
  · subst e
    have z : (M.set k ((M.getD k []).set j x)).getD k [] = (M.getD k []).set j x := by
      rw [List.getD_eq_getElem?_getD, List.getElem?_set_self hi']
      rfl
    rw [z]
    by_cases e2 : l = j
    · subst e2
      rw [if_pos ⟨rfl, rfl⟩, List.getD_eq_getElem?_getD, List.getElem?_set_self (by rw [hr]; exact hj)]
      rfl
    · rw [if_neg (fun q => e2 q.2), List.getD_eq_getElem?_getD, List.getElem?_set_ne (fun q => e2 q.symm), ← List.getD_eq_getElem?_getD]
  · rw [if_neg (fun q => e q.1)]
    have z : (M.set i ((M.getD i []).set j x)).getD k [] = M.getD k [] := by
      rw [List.getD_eq_getElem?_getD, List.getElem?_set_ne (fun q => e q.symm), ← List.getD_eq_getElem?_getD]
    rw [z]
def Sym (n : Nat) (M : List (List Int)) : Prop := ∀ i j, i < n → j < n → ent M i j = ent M j i
theorem Sym.tr {n : Nat} {M : List (List Int)} (h : Sym n M) (s : Sh n M) (h1 : 1 ≤ n) (h3 : n ≤ 3) : transp n M = M := by
  have : n = 1 ∨ n = 2 ∨ n = 3 := by omega
  rcases this with rfl | rfl | rfl
  · obtain ⟨a, rfl⟩ := sh1 s rfl
    rfl
  · obtain ⟨a, b, c, d, rfl⟩ := sh2 s rfl
    have e : b = c := h 0 1 (by decide) (by decide)
    subst e
    rfl
  · obtain ⟨a, b, c, d, e, f, g, h', i, rfl⟩ := sh3 s rfl
    have e1 : b = d := h 0 1 (by decide) (by decide)
    have e2 : c = g := h 0 2 (by decide) (by decide)
    have e3 : f = h' := h 1 2 (by decide) (by decide)
    subst e1 e2 e3
    rfl
theorem nodup_inj {α : Type} : ∀ {bs : List α} {i j : Nat} {c : α}, bs.Nodup → bs[i]? = some c → bs[j]? = some c → i = j
  | [], i, _, _, _, e, _ => by simp at e
  | b :: bs, 0, 0, _, _, _, _ => rfl
  | b :: bs, 0, j + 1, c, nd, e, e' => by
    cases e
    exact absurd (List.mem_of_getElem? (show bs[j]? = some b from e')) (List.nodup_cons.mp nd).1
  | b :: bs, i + 1, 0, c, nd, e, e' => by
    cases e'
    exact absurd (List.mem_of_getElem? (show bs[i]? = some b from e)) (List.nodup_cons.mp nd).1
  | b :: bs, i + 1, j + 1, c, nd, e, e' => congrArg (· + 1) (nodup_inj (List.nodup_cons.mp nd).2 (show bs[i]? = some c from e) (show bs[j]? = some c from e'))
structure LL (H : Hp) (a : Addr) (bs : List Addr) (M : List (List Int)) : Prop where
  top : H a = some (.lst (bs.map V.ref))
  len : bs.length = M.length
  row : ∀ (i : Nat) (b : Addr), bs[i]? = some b → H b = some (.lst ((M.getD i []).map V.int))
  nd : bs.Nodup
  ne : a ∉ bs
theorem LL.put {H : Hp} {a : Addr} {bs : List Addr} {M : List (List Int)} (h : LL H a bs M) {i j : Nat} {b : Addr} (eb : bs[i]? = some b) (x : Int) :
    LL (upd H b (.lst (((M.getD i []).map V.int).set j (.int x)))) a bs (setIJ M i j x) := by
  have hb := List.mem_of_getElem? eb
  have hi : i < bs.length := (List.getElem?_eq_some_iff.mp eb).1
  have nab : a ≠ b := fun z => h.ne (by rw [z]; exact hb)
  refine ⟨by rw [upd_ne nab]; exact h.top, by unfold setIJ; rw [List.length_set]; exact h.len, fun k c ec => ?_, h.nd, h.ne⟩
  by_cases e : k = i
  · subst e
    rw [eb] at ec
    cases ec
    rw [upd_same]
    unfold setIJ
    rw [List.getD_eq_getElem?_getD (l := M.set _ _), List.getElem?_set_self (by rw [← h.len]; exact hi)]
    show some (HO.lst _) = some (HO.lst (List.map V.int ((M.getD k []).set j x)))
    rw [List.map_set]
  · have nc : c ≠ b := fun z => by
      subst z
      exact e (nodup_inj h.nd ec eb)
    rw [upd_ne nc, h.row k c ec]
    unfold setIJ
    rw [List.getD_eq_getElem?_getD (l := M.set _ _), List.getElem?_set_ne (fun z => e z.symm), ← List.getD_eq_getElem?_getD]
theorem LL.py {p : Addr} {H : Hp} {a : Addr} {bs : List Addr} {M : List (List Int)} (h : LL H a bs M) (hp : p ∉ a :: bs) : PyV (hid (some p) H) (.ref a) (lmD M) := by
  rw [List.mem_cons, not_or] at hp
  refine lm_of (by rw [hid_at (fun z => hp.1 (by cases z; rfl))]; exact h.top) h.len fun i b e => ?_
  rw [hid_at (fun z => hp.2 (by cases z; exact List.mem_of_getElem? e))]
  exact h.row i b e
theorem py_rx {p : Option Addr} {H H' : Hp} {v : V} {d : PyData} (h : PyV (hid p H) v d) (s : RX p H H') : PyV (hid p H') v d := PyV.mono s.hid h
theorem py_un {p : Option Addr} {H : Hp} {v : V} {d : PyData} (h : PyV (hid p H) v d) : PyV H v d := PyV.mono hid_le h
def zeroM (n : Nat) : List (List Int) := List.replicate n (List.replicate n 0)
theorem zero_sqB (n : Nat) (B : Int) (h : 0 ≤ B) : SqB n B (zeroM n) := ⟨by simp [zeroM], fun r hr => by
  unfold zeroM at hr
  rw [(List.mem_replicate.mp hr).2]
  simp, fun r hr x hx => by
  unfold zeroM at hr
  rw [(List.mem_replicate.mp hr).2] at hx
  rw [(List.mem_replicate.mp hx).2]
  omega⟩
theorem zero_getD {n i : Nat} (h : i < n) : (zeroM n).getD i [] = List.replicate n 0 := by
  unfold zeroM
  rw [List.getD_eq_getElem?_getD, List.getElem?_replicate, if_pos h]
  rfl
theorem zero_sym (n : Nat) : Sym n (zeroM n) := fun i j hi hj => by
  unfold ent
  rw [zero_getD hi, zero_getD hj, List.getD_eq_getElem?_getD, List.getD_eq_getElem?_getD, List.getElem?_replicate, List.getElem?_replicate, if_pos hj, if_pos hi]
theorem Sym.put {n : Nat} {M : List (List Int)} (h : Sym n M) (s : Sh n M) {i j : Nat} (hi : i < n) (hj : j < n) (x : Int) : Sym n (setIJ (setIJ M i j x) j i x) := fun k l hk hl => by
  have s2 : Sh n (setIJ M i j x) := by
    refine ⟨by unfold setIJ; rw [List.length_set, s.len], fun r hr => ?_⟩
    unfold setIJ at hr
    rcases List.mem_or_eq_of_mem_set hr with hr | rfl
    · exact s.row r hr
    · rw [List.length_set]; exact getD_row s hi
  rw [ent_set s2 hj hi, ent_set s2 hj hi, ent_set s hi hj, ent_set s hi hj]
  have := h k l hk hl
  by_cases a : k = j <;> by_cases b : l = i <;> by_cases c : k = i <;> by_cases d : l = j <;> simp [a, b, c, d] <;> grind
theorem n_asg {te : TE} {g : TG} {D : Ends} {rt : VK} {bk ct : L2.St → Hp → Prop} {σ : L2.St} {H : Hp} (h : te σ H fun x H1 => g x σ H1 D.nx) : Ends.nx ⟨tAsg te g D, rt, bk, ct⟩ σ H := h
theorem rep_flat (m : Nat) (x : V) : (List.replicate m [x]).flatten = List.replicate m x := by
  induction m with
  | zero => rfl
  | succ m ih => rw [List.replicate_succ, List.replicate_succ, List.flatten_cons, ih]; rfl
end T24
set_option Elab.async false
set_option linter.all false
set_option maxRecDepth 100000
set_option maxHeartbeats 4000000
namespace T24
open PySem PySem.Spec PyProof.Rows L2 Gd Zn Rp Dn Tb Gn En Zs Ct Op Oc Rg Rt Ro Oa
theorem d_bm {K : PySem.W.Frag} {T : String} {r : V → List V → Hp → VK → Prop} {to : TE} {t : TA} {D : Ends} {σ : L2.St} {H : Hp} (h : to σ H fun x H1 => tyV K T x H1 ∧ t σ H1 fun xs H2 => r x xs H2 fun _ H3 => D.nx σ H3) : tDrop (tBM K T r to t) D σ H := h
theorem lt_cases {n i : Nat} (h3 : n ≤ 3) (hi : i < n) : (n = 1 ∧ i = 0) ∨ (n = 2 ∧ (i = 0 ∨ i = 1)) ∨ (n = 3 ∧ (i = 0 ∨ i = 1 ∨ i = 2)) := by omega
end T24
set_option Elab.async false
set_option linter.all false
set_option maxRecDepth 100000
set_option maxHeartbeats 4000000
set_option Elab.async false
set_option linter.all false
set_option maxRecDepth 100000
set_option maxHeartbeats 4000000
namespace T24
open PySem PySem.Spec PyProof.Rows L2 Gd Zn Rp Dn Tb Gn En Zs Ct Op Oc Rg Rt Ro Oa
theorem SeqV.un {p : Option Addr} {H : Hp} {v : V} {ds : List PyData} (h : SeqV (hid p H) v ds) : SeqV H v ds := h.mono hid_le
end T24
set_option Elab.async false
set_option linter.all false
set_option maxRecDepth 100000
set_option maxHeartbeats 4000000
namespace T24
open PySem PySem.Spec PyProof.Rows L2 Gd Zn Rp Dn Tb Gn En Zs Ct Op Oc Rg Rt Ro Oa
theorem r_k {v : V} {σ : L2.St} {H : Hp} {Q : VK} (h : Q v H) : tC v σ H Q := h
def leadM (m : Nat) (M : List (List Int)) : List (List Int) := (M.take m).map fun r => r.take m
def pitM (n a : Nat) (M : List (List Int)) : List Int := ((List.range (a + 1)).map fun k => cofM a (leadM (a + 1) M) a k) ++ List.replicate (n - a - 1) 0
theorem cutV_take {xs : List V} {m : Nat} (h : m ≤ xs.length) : cutV xs none (some (m : Int)) = xs.take m := by
  unfold cutV
  rw [HT.sIx_nat, HT.sIx_none, List.drop_zero, Nat.min_eq_left h, Nat.sub_zero]
section
variable {P : Program} {w : World} {K : PySem.W.Frag} {mg : Str → Option Value} {base : Heap} {C : Addr}
theorem sl_all {Q : VK} {H : Hp} {a : Addr} {xs : List V} {m : Nat} (h : H a = some (.tup xs)) (hm : m ≤ xs.length) (q : ∀ b H', Same H H' → H' b = some (.tup (xs.take m)) → Q (.ref b) H') : rSlA K (.ref a) none (some (m : Int)) H Q := by
  refine ⟨a, xs, rfl, .inl (.inl h), fun z => ?_, fun z p np => ?_⟩
  · have e : m = xs.length := by
      have := z.2
      rw [HT.sIx_nat] at this
      omega
    refine q a H (Same.refl H) ?_
    rw [e, List.take_length]
    exact h
  · rw [cutV_take hm]
    exact q p _ (same_new np) upd_same
end
end T24
set_option Elab.async false
set_option linter.all false
set_option maxRecDepth 100000
set_option maxHeartbeats 4000000
namespace T24
open PySem PySem.Spec PyProof.Rows L2 Gd Zn Rp Dn Tb Gn En Zs Ct Op Oc Rg Rt Ro Oa
theorem pitE10 (m : Int) : pitM 1 0 [[m]] = [1] := by simp [pitM, leadM, cofM, detM, outM, outW, cutAt, List.range_succ, List.getD]
theorem pitE20 (a b c d : Int) : pitM 2 0 [[a, b], [c, d]] = [1, 0] := by simp [pitM, leadM, cofM, detM, outM, outW, cutAt, List.range_succ, List.getD, List.replicate]
theorem pitE21 (a b c d : Int) : pitM 2 1 [[a, b], [c, d]] = [-b, a] := by simp [pitM, leadM, cofM, detM, outM, outW, cutAt, List.range_succ, List.getD, List.replicate]
theorem pitE30 (a b c d e f g h i : Int) : pitM 3 0 [[a, b, c], [d, e, f], [g, h, i]] = [1, 0, 0] := by simp [pitM, leadM, cofM, detM, outM, outW, cutAt, List.range_succ, List.getD, List.replicate]
theorem pitE31 (a b c d e f g h i : Int) : pitM 3 1 [[a, b, c], [d, e, f], [g, h, i]] = [-b, a, 0] := by simp [pitM, leadM, cofM, detM, outM, outW, cutAt, List.range_succ, List.getD, List.replicate]
theorem cof2 (M : List (List Int)) (a k : Nat) : cofM 2 M a k = if (a + k) % 2 = 0 then detM 2 (outM M a k) else -detM 2 (outM M a k) := by rw [cofM]
theorem pitE32 (a b c d e f g h i : Int) : pitM 3 2 [[a, b, c], [d, e, f], [g, h, i]] = [b * f - c * e, -(a * f - c * d), a * e - b * d] := by
  simp [pitM, leadM, cof2, outM, outW, cutAt, List.range_succ, List.getD, det2]
theorem d1E1 (a : Int) : detM 1 (leadM 1 [[a]]) = a := det1 a
theorem d1E2 (a b c d : Int) : detM 1 (leadM 1 [[a, b], [c, d]]) = a := det1 a
theorem d1E3 (a b c d e f g h i : Int) : detM 1 (leadM 1 [[a, b, c], [d, e, f], [g, h, i]]) = a := det1 a
theorem d2E2 (a b c d : Int) : detM 2 (leadM 2 [[a, b], [c, d]]) = a * d - b * c := det2 a b c d
theorem d2E3 (a b c d e f g h i : Int) : detM 2 (leadM 2 [[a, b, c], [d, e, f], [g, h, i]]) = a * e - b * d := det2 a b d e
theorem d3E3 (a b c d e f g h i : Int) : detM 3 (leadM 3 [[a, b, c], [d, e, f], [g, h, i]]) = a * (e * i - f * h) - b * (d * i - f * g) + c * (d * h - e * g) := det3 a b c d e f g h i
theorem prod_np {p q w : Int} (e : w = p * q) (hp : 0 < p) (hq : q ≤ 0) : w ≤ 0 := by
  have := Int.mul_le_mul_of_nonneg_left hq (Int.le_of_lt hp)
  rw [e]
  omega
theorem pit_ok {n a : Nat} {M : List (List Int)} (h3 : n ≤ 3) (hM : Sh n M) (e : transp n M = M) (ha : a < n) (hb : ∀ i, i < a → 0 < detM (i + 1) (leadM (i + 1) M)) (hc : detM (a + 1) (leadM (a + 1) M) ≤ 0) :
    (pitM n a M).length = n ∧ (∃ x ∈ pitM n a M, x ≠ 0) ∧ btwM M (pitM n a M) (pitM n a M) ≤ 0 := by
  rcases lt_cases h3 ha with ⟨rfl, rfl⟩ | ⟨rfl, h⟩ | ⟨rfl, h⟩
  · obtain ⟨m, rfl⟩ := sh1 hM rfl
    rw [d1E1] at hc
    rw [pitE10]
    refine ⟨rfl, ⟨1, by simp, by decide⟩, ?_⟩
    simp [btwM, ledM, dot]
    omega
  · obtain ⟨p, q, r, rfl⟩ := sy2 hM e
    rcases h with rfl | rfl
    · rw [d1E2] at hc
      rw [pitE20]
      refine ⟨rfl, ⟨1, by simp, by decide⟩, ?_⟩
      simp [btwM, ledM, dot]
      omega
    · have h0 := hb 0 (by decide)
      rw [d1E2] at h0
      rw [d2E2] at hc
      rw [pitE21]
      refine ⟨rfl, ⟨p, by simp, by omega⟩, prod_np (p := p) (q := p * r - q * q) ?_ h0 hc⟩
      simp [btwM, ledM, dot]
      grind
  · obtain ⟨p, q, r, s, t, u, rfl⟩ := sy3 hM e
    rcases h with rfl | rfl | rfl
    · rw [d1E3] at hc
      rw [pitE30]
      refine ⟨rfl, ⟨1, by simp, by decide⟩, ?_⟩
      simp [btwM, ledM, dot]
      omega
    · have h0 := hb 0 (by decide)
      rw [d1E3] at h0
      rw [d2E3] at hc
      rw [pitE31]
      refine ⟨rfl, ⟨p, by simp, by omega⟩, prod_np (p := p) (q := p * s - q * q) ?_ h0 hc⟩
      simp [btwM, ledM, dot]
      grind
    · have h1 := hb 1 (by decide)
      rw [d2E3] at h1
      rw [d3E3] at hc
      rw [pitE32]
      refine ⟨rfl, ⟨p * s - q * q, by simp, by omega⟩, prod_np ?_ h1 hc⟩
      simp [btwM, ledM, dot]
      grind
section
variable {P : Program} {w : World} {K : PySem.W.Frag} {mg : Str → Option Value} {base : Heap} {C : Addr}
def dC (M : List (List Int)) (i : Nat) : Int := detM (i + 1) (leadM (i + 1) M)
end
end T24
set_option Elab.async false
set_option linter.all false
set_option maxRecDepth 100000
set_option maxHeartbeats 4000000
namespace T24
open PySem PySem.Spec PyProof.Rows L2 Gd Zn Rp Dn Tb Gn En Zs Ct Op Oc Rg Rt Ro Oa
structure KitF (K : PySem.W.Frag) (C : Addr) : Prop where
  list : PySem.W.kitOne K (.ref C) (.type "list") = some false
  tuple : PySem.W.kitOne K (.ref C) (.type "tuple") = some false
theorem kitF_seq {K : PySem.W.Frag} {C : Addr} (kc : KitF K C) : PySem.W.kitAny K (.ref C) [.type "list", .type "tuple"] = some false := by
  unfold PySem.W.kitAny
  rw [kc.list]
  unfold PySem.W.kitAny
  simp only [kc.tuple]
  rfl
theorem FnOk_or {P : Program} {w : World} {K : PySem.W.Frag} {mg : Str → Option Value} {base : Heap} {CX : CXT} {k : Nat} {f : Addr} {fd : FuncData} {ps : List Str} {sp1 sp2 : Sp} (F : FnOk P w K mg base CX k f fd ps sp1) (G : FnOk P w K mg base CX k f fd ps sp2) :
    FnOk P w K mg base CX k f fd ps (fun vs H Q E => sp1 vs H Q E ∨ sp2 vs H Q E) :=
  ⟨fun vs H Q E h => h.elim (F.len vs H Q E) (G.len vs H Q E), fun A outer s H args us vs Q E hr he hb hv h => h.elim (F.run A outer s H args us vs Q E hr he hb hv) (G.run A outer s H args us vs Q E hr he hb hv)⟩
def OddV (n : Nat) (C : Addr) (H : Hp) (v : V) : Prop := (∃ d, AnyV H v d ∧ rowOfB n d = false ∧ (items d).length ≤ 200) ∨ ∃ M, Tab C H v M
theorem OddV.mono {n : Nat} {C : Addr} {H H' : Hp} {v : V} (s : Same H H') (h : OddV n C H v) : OddV n C H' v := by
  rcases h with ⟨d, a, b, c⟩ | ⟨M, t⟩
  · exact .inl ⟨d, a.mono s, b, c⟩
  · exact .inr ⟨M, T24.Tab.same s t⟩
section
variable {P : Program} {w : World} {K : PySem.W.Frag} {mg : Str → Option Value} {base : Heap} {C : Addr}
def sp_no1 (C : Addr) : Sp := fun vs H Q _ => ∃ v M, vs = [v] ∧ Tab C H v M ∧ ∀ H', Same H H' → Q (.bl false) H'
theorem ok_il2 {f : Addr} {fd : FuncData} (F : Fun K "is_list" "is_list" st_is_list f fd) (T : Txt mg) (Fc : Fcl K mg C) (kc : KitF K C) : FnOk P w K mg base CX0 1 f fd ["value"] (sp_no1 C) := by
  refine F.ok sc_is_list (fun vs H Q E h => ?_) (fun cdv A outer s H vs Q E hr h => ?_)
  · obtain ⟨v, M, rfl, _⟩ := h
    rfl
  · obtain ⟨v, M, rfl, hv, q⟩ := h
    refine ⟨_, pss_one (ps_ret (pe_callB call_isiT (by rfl) T.isi boot_isinstance (pa_cons (pv 0) (pa_cons (pe_tup (pa_cons (pe_bltn (v := .ty "list") (by rfl) T.list PyProof.Rows.boot_list rfl) (pa_cons (pe_bltn (v := .ty "tuple") (by rfl) T.tuple PyProof.Rows.boot_tuple rfl) pa_nil))) pa_nil)))), ?_⟩
    obtain ⟨p, dx, r, rfl, hp, _⟩ := id hv
    refine ⟨_, rfl, (by show 2 ≤ sizeLine; decide), fun t ht => ?_⟩
    exact ⟨_, t, _, _, _, _, rfl, upd_same, .cons (.ty _) (.cons (.ty _) .nil), Fc.ty (same_new ht _ _ hp), kitF_seq kc, q _ (same_new ht)⟩
end
end T24
set_option Elab.async false
set_option linter.all false
set_option maxRecDepth 100000
set_option maxHeartbeats 4000000
set_option Elab.async false
set_option linter.all false
set_option maxRecDepth 100000
set_option maxHeartbeats 4000000
namespace T24
open PySem PySem.Spec PyProof.Rows L2 Gd Zn Rp Dn Tb Gn En Zs Ct Op Oc Rg Rt Ro Oa
def Bowl (n : Nat) (M : List (List Int)) : Prop := ∀ i, i < n → 0 < dC M i
instance (n : Nat) (M : List (List Int)) : Decidable (Bowl n M) := inferInstanceAs (Decidable (∀ i, i < n → 0 < dC M i))
end T24
set_option Elab.async false
set_option linter.all false
set_option maxRecDepth 100000
set_option maxHeartbeats 4000000
set_option Elab.async false
set_option linter.all false
set_option maxRecDepth 100000
set_option maxHeartbeats 4000000
namespace T24
open PySem PySem.Spec PyProof.Rows L2 Gd Zn Rp Dn Tb Gn En Zs Ct Op Oc Rg Rt Ro Oa
structure NewM (H H' : Hp) (D : Addr) (M : List (List Int)) : Prop where
  py : PyV H' (.ref D) (lmD M)
  hid : ∀ p, H p ≠ none → PyV (Dn.hid (some p) H') (.ref D) (lmD M)
theorem NewM.to {H H' H2 : Hp} {D : Addr} {M : List (List Int)} (h : NewM H H' D M) (s : Same H' H2) : NewM H H2 D M := ⟨h.py.mono s, fun p hp => PyV.mono (RX.of (p := some p) s).hid (h.hid p hp)⟩
theorem Same.some_ {H H' : Hp} (s : Same H H') : ∀ p, H p ≠ none → H' p ≠ none := fun p hp e => by
  cases h : H p with
  | none => exact hp h
  | some o => rw [s p o h] at e; cases e
end T24
set_option Elab.async false
set_option linter.all false
set_option maxRecDepth 100000
set_option maxHeartbeats 4000000
set_option Elab.async false
set_option linter.all false
set_option maxRecDepth 100000
set_option maxHeartbeats 4000000
namespace T24
open PySem PySem.Spec PyProof.Rows L2 Gd Zn Rp Dn Tb Gn En Zs Ct Op Oc Rg Rt Ro Oa
section
variable {P : Program} {w : World} {K : PySem.W.Frag} {mg : Str → Option Value} {base : Heap} {C : Addr}
theorem LM.py {p : Addr} {H : Hp} {a : Addr} {M : List (List Int)} {vs : List V} (h : LM H p a M vs) (hap : a ≠ p) : PyV (hid (some p) H) (.ref a) (lmD M) := by
  refine py_lm (by rw [hid_at (fun z => hap (by cases z; rfl))]; exact h.at_) h.len fun i v e => ?_
  obtain ⟨b, e1, e2, e3, e4⟩ := h.get i v e
  exact ⟨b, e1, by rw [hid_at (fun z => e4 (by cases z; rfl))]; exact e2⟩
end
end T24
set_option Elab.async false
set_option linter.all false
set_option maxRecDepth 100000
set_option maxHeartbeats 4000000
namespace T24
open PySem PySem.Spec PyProof.Rows L2 Gd Zn Rp Dn Tb Gn En Zs Ct Op Oc Rg Rt Ro Oa
/-- every row but that of zeros has a worth above 0 -/
def Pos (n : Nat) (M : List (List Int)) : Prop := ∀ xs : List Int, xs.length = n → (∃ x ∈ xs, x ≠ 0) → 0 < btwM M xs xs
theorem pos_bowl {n : Nat} {M : List (List Int)} (h3 : n ≤ 3) (hM : Sh n M) (e : transp n M = M) (h : Pos n M) : Bowl n M := by
  intro i
  induction i using Nat.strongRecOn with
  | _ i ih =>
    intro hi
    by_cases z : 0 < dC M i
    · exact z
    · obtain ⟨a, b, c⟩ := pit_ok h3 hM e hi (fun j hj => ih j hj (by omega)) (by unfold dC at z; omega)
      have := h _ a b
      omega
theorem w1 (a x : Int) : btwM [[a]] [x] [x] = a * x * x := by
  simp [btwM, ledM, dot]
  grind
theorem w2 (a b c x y : Int) : btwM [[a, b], [b, c]] [x, y] [x, y] = a * x * x + 2 * b * x * y + c * y * y := by
  simp [btwM, ledM, dot]
  grind
theorem w3 (a b c d e f x y z : Int) : btwM [[a, b, c], [b, d, e], [c, e, f]] [x, y, z] [x, y, z] = a * x * x + d * y * y + f * z * z + 2 * b * x * y + 2 * c * x * z + 2 * e * y * z := by
  simp [btwM, ledM, dot]
  grind
theorem c1 (a : Int) : cofM 0 [[a]] 0 0 = 1 := by simp [cofM, detM, outM, outW, cutAt, List.range_succ]
theorem c20 (a b c d : Int) : cofM 1 [[a, b], [c, d]] 0 0 = d := by
  simp [cofM, outM, outW, cutAt, List.range_succ, List.getD]
  exact det1 d
theorem c21 (a b c d : Int) : cofM 1 [[a, b], [c, d]] 1 1 = a := by
  simp [cofM, outM, outW, cutAt, List.range_succ, List.getD]
  exact det1 a
theorem c30 (a b c d e f g h i : Int) : cofM 2 [[a, b, c], [d, e, f], [g, h, i]] 0 0 = e * i - f * h := by
  rw [cof2]
  simp [outM, outW, cutAt, List.range_succ, List.getD, det2]
theorem c31 (a b c d e f g h i : Int) : cofM 2 [[a, b, c], [d, e, f], [g, h, i]] 1 1 = a * i - c * g := by
  rw [cof2]
  simp [outM, outW, cutAt, List.range_succ, List.getD, det2]
theorem sq_nn (x : Int) : 0 ≤ x * x := by
  rcases Int.le_total 0 x with h | h
  · exact Int.mul_nonneg h h
  · exact Int.mul_nonneg_of_nonpos_of_nonpos h h
end T24
set_option Elab.async false
set_option linter.all false
set_option maxRecDepth 100000
set_option maxHeartbeats 4000000
set_option Elab.async false
set_option linter.all false
set_option maxRecDepth 100000
set_option maxHeartbeats 4000000
namespace T24
open PySem PySem.Spec PyProof.Rows L2 Gd Zn Rp Dn Tb Gn En Zs Ct Op Oc Rg Rt Ro Oa
def stepB (n : Nat) (M : List (List Int)) (h : Int) (l : List Int) : List (List Int) := (List.range n).map fun a => (List.range n).map fun b => ent M a b + h * l.getD a 0 * l.getD b 0
theorem stepB_row {n a : Nat} {M : List (List Int)} {h : Int} {l : List Int} (ha : a < n) : (stepB n M h l).getD a [] = (List.range n).map fun b => ent M a b + h * l.getD a 0 * l.getD b 0 := by
  unfold stepB
  rw [List.getD_eq_getElem?_getD, List.getElem?_map, List.getElem?_range ha]
  rfl
theorem stepB_ent {n a b : Nat} {M : List (List Int)} {h : Int} {l : List Int} (ha : a < n) (hb : b < n) : ent (stepB n M h l) a b = ent M a b + h * l.getD a 0 * l.getD b 0 := by
  unfold ent
  rw [stepB_row ha, List.getD_eq_getElem?_getD, List.getElem?_map, List.getElem?_range hb]
  rfl
theorem stepB_btw {n : Nat} {M : List (List Int)} {h : Int} {l xs : List Int} (h1 : 1 ≤ n) (h3 : n ≤ 3) (hM : Sh n M) (hl : l.length = n) (hx : xs.length = n) : btwM (stepB n M h l) xs xs = btwM M xs xs + h * (dot l xs * dot l xs) := by
  have : n = 1 ∨ n = 2 ∨ n = 3 := by omega
  rcases this with rfl | rfl | rfl
  · obtain ⟨a, rfl⟩ := sh1 hM rfl
    obtain ⟨x, rfl⟩ := len1 hx
    obtain ⟨u, rfl⟩ := len1 hl
    simp [stepB, ent, btwM, ledM, dot, List.range_succ]
    grind
  · obtain ⟨a, b, c, d, rfl⟩ := sh2 hM rfl
    obtain ⟨x, y, rfl⟩ := len2 hx
    obtain ⟨u, v, rfl⟩ := len2 hl
    simp [stepB, ent, btwM, ledM, dot, List.range_succ]
    grind
  · obtain ⟨a, b, c, d, e, f, g, h', i, rfl⟩ := sh3 hM rfl
    obtain ⟨x, y, z, rfl⟩ := len3 hx
    obtain ⟨u, v, w, rfl⟩ := len3 hl
    simp [stepB, ent, btwM, ledM, dot, List.range_succ]
    grind
def PosTo (n i : Nat) (M : List (List Int)) : Prop := ∀ xs : List Int, xs.length = n → 0 ≤ btwM M xs xs ∧ (btwM M xs xs = 0 → (∀ k, i ≤ k → xs.getD k 0 = 0) → ∀ k, xs.getD k 0 = 0)
/-- a line that begins at its place -/
structure LineAt (n i : Nat) (l : List Int) : Prop where
  len : l.length = n
  head : ∀ k, k < i → l.getD k 0 = 0
  at_ : 1 ≤ l.getD i 0
  bd : ∀ x ∈ l, -2 ≤ x ∧ x ≤ 2
theorem line_dot {n i : Nat} {l xs : List Int} (h3 : n ≤ 3) (hi : i < n) (hl : LineAt n i l) (hx : xs.length = n) (z : ∀ k, i + 1 ≤ k → xs.getD k 0 = 0) : dot l xs = l.getD i 0 * xs.getD i 0 := by
  have hd := hl.head
  have ll := hl.len
  rcases lt_cases h3 hi with ⟨rfl, rfl⟩ | ⟨rfl, hq⟩ | ⟨rfl, hq⟩
  · obtain ⟨x, rfl⟩ := len1 hx
    obtain ⟨u, rfl⟩ := len1 ll
    simp [dot]
  · obtain ⟨x, y, rfl⟩ := len2 hx
    obtain ⟨u, v, rfl⟩ := len2 ll
    rcases hq with rfl | rfl
    · have : y = 0 := z 1 (by decide)
      subst this
      simp [dot]
    · have : u = 0 := hd 0 (by decide)
      subst this
      simp [dot]
  · obtain ⟨x, y, w, rfl⟩ := len3 hx
    obtain ⟨u, v, t, rfl⟩ := len3 ll
    rcases hq with rfl | rfl | rfl
    · have e1 : y = 0 := z 1 (by decide)
      have e2 : w = 0 := z 2 (by decide)
      subst e1 e2
      simp [dot]
    · have e1 : u = 0 := hd 0 (by decide)
      have e2 : w = 0 := z 2 (by decide)
      subst e1 e2
      simp [dot]
    · have e1 : u = 0 := hd 0 (by decide)
      have e2 : v = 0 := hd 1 (by decide)
      subst e1 e2
      simp [dot]
theorem getD_bd {l : List Int} {k : Nat} (h : ∀ x ∈ l, -2 ≤ x ∧ x ≤ 2) : -2 ≤ l.getD k 0 ∧ l.getD k 0 ≤ 2 := by
  by_cases z : k < l.length
  · rw [List.getD_eq_getElem?_getD, List.getElem?_eq_getElem z]
    exact h _ (List.getElem_mem z)
  · rw [List.getD_eq_getElem?_getD, List.getElem?_eq_none (by omega)]
    exact ⟨by decide, by decide⟩
theorem hab {h a b : Int} (hh : 1 ≤ h ∧ h ≤ 3) (ha : -2 ≤ a ∧ a ≤ 2) (hb : -2 ≤ b ∧ b ≤ 2) : -12 ≤ h * a * b ∧ h * a * b ≤ 12 := by
  have h' : h = 1 ∨ h = 2 ∨ h = 3 := by omega
  have a' : a = -2 ∨ a = -1 ∨ a = 0 ∨ a = 1 ∨ a = 2 := by omega
  rcases h' with rfl | rfl | rfl <;> rcases a' with rfl | rfl | rfl | rfl | rfl <;> omega
structure BwI (n i : Nat) (M : List (List Int)) : Prop where
  sym : Sym n M
  bd : SqB n (12 * i) M
  pos : PosTo n i M
theorem bw_zero {n : Nat} (h1 : 1 ≤ n) (h3 : n ≤ 3) : BwI n 0 (zeroM n) := by
  refine ⟨zero_sym n, zero_sqB n _ (by decide), fun xs hx => ⟨?_, fun _ z k => z k (Nat.zero_le k)⟩⟩
  have : btwM (zeroM n) xs xs = 0 := by
    have : n = 1 ∨ n = 2 ∨ n = 3 := by omega
    rcases this with rfl | rfl | rfl
    · obtain ⟨x, rfl⟩ := len1 hx
      simp [zeroM, btwM, ledM, dot, List.replicate]
    · obtain ⟨x, y, rfl⟩ := len2 hx
      simp [zeroM, btwM, ledM, dot, List.replicate]
    · obtain ⟨x, y, w, rfl⟩ := len3 hx
      simp [zeroM, btwM, ledM, dot, List.replicate]
  omega
theorem bw_step {n i : Nat} {M : List (List Int)} {h : Int} {l : List Int} (h1 : 1 ≤ n) (h3 : n ≤ 3) (hi : i < n) (B : BwI n i M) (hh : 1 ≤ h ∧ h ≤ 3) (hl : LineAt n i l) : BwI n (i + 1) (stepB n M h l) := by
  refine ⟨fun a b ha hb => ?_, ?_, fun xs hx => ?_⟩
  · rw [stepB_ent ha hb, stepB_ent hb ha, B.sym a b ha hb]
    grind
  · refine ⟨by unfold stepB; rw [List.length_map, List.length_range], fun r hr => ?_, fun r hr x hx => ?_⟩
    · unfold stepB at hr
      obtain ⟨a, _, rfl⟩ := List.mem_map.mp hr
      rw [List.length_map, List.length_range]
    · unfold stepB at hr
      obtain ⟨a, ma, rfl⟩ := List.mem_map.mp hr
      obtain ⟨b, mb, rfl⟩ := List.mem_map.mp hx
      have la := List.mem_range.mp ma
      have lb := List.mem_range.mp mb
      have k := hab hh (getD_bd (k := a) hl.bd) (getD_bd (k := b) hl.bd)
      have e : -(12 * (i : Int)) ≤ ent M a b ∧ ent M a b ≤ 12 * (i : Int) := by
        have hr := getD_mem (M := M) (i := a) (by rw [B.bd.len]; exact la)
        have lr := B.bd.row _ hr
        unfold ent
        rw [List.getD_eq_getElem?_getD (l := M.getD a []), List.getElem?_eq_getElem (by omega : b < (M.getD a []).length)]
        exact B.bd.bd _ hr _ (List.getElem_mem _)
      omega
  · obtain ⟨p0, pz⟩ := B.pos xs hx
    rw [stepB_btw h1 h3 B.bd.sh hl.len hx]
    have s := sq_nn (dot l xs)
    have hs : 0 ≤ h * (dot l xs * dot l xs) := Int.mul_nonneg (by omega) s
    refine ⟨by omega, fun e z => ?_⟩
    have e1 : btwM M xs xs = 0 := by omega
    have e2 : h * (dot l xs * dot l xs) = 0 := by omega
    have e3 : dot l xs * dot l xs = 0 := by
      rcases Int.mul_eq_zero.mp e2 with q | q
      · omega
      · exact q
    have e4 : dot l xs = 0 := by
      rcases Int.mul_eq_zero.mp e3 with q | q <;> exact q
    rw [line_dot h3 hi hl hx z] at e4
    have e5 : xs.getD i 0 = 0 := by
      rcases Int.mul_eq_zero.mp e4 with q | q
      · have := hl.at_; omega
      · exact q
    refine pz e1 fun k hk => ?_
    by_cases c : k = i
    · rw [c]; exact e5
    · exact z k (by omega)
theorem bw_pos {n : Nat} {M : List (List Int)} (B : BwI n n M) : Pos n M := fun xs hx ⟨x, mx, nx⟩ => by
  obtain ⟨p0, pz⟩ := B.pos xs hx
  by_cases z : btwM M xs xs = 0
  · exfalso
    have k := pz z fun k hk => by rw [List.getD_eq_getElem?_getD, List.getElem?_eq_none (by omega)]; rfl
    obtain ⟨i, hi, rfl⟩ := List.getElem_of_mem mx
    have := k i
    rw [List.getD_eq_getElem?_getD, List.getElem?_eq_getElem hi] at this
    exact nx this
  · omega
/-- the rows of the law -/
structure Rw (n b : Nat) (M : List (List Int)) : Prop where
  h1 : 1 ≤ n
  h3 : n ≤ 3
  sy : transp n M = M
  bd : SqE n b M
  pos : Pos n M
theorem bw_rw {n : Nat} {M : List (List Int)} (h1 : 1 ≤ n) (h3 : n ≤ 3) (B : BwI n n M) : Rw n 6 M :=
  ⟨h1, h3, B.sym.tr B.bd.sh h1 h3, B.bd.e (by have : (2 : Nat) ^ 6 = 64 := rfl; omega), bw_pos B⟩
theorem Rw.up {n b c : Nat} {M : List (List Int)} (h : Rw n b M) (k : b ≤ c) : Rw n c M := ⟨h.h1, h.h3, h.sy, h.bd.mono k, h.pos⟩
theorem Rw.bowl {n b : Nat} {M : List (List Int)} (h : Rw n b M) : Bowl n M := pos_bowl h.h3 h.bd.sh h.sy h.pos
end T24
set_option Elab.async false
set_option linter.all false
set_option maxRecDepth 100000
set_option maxHeartbeats 4000000
set_option Elab.async false
set_option linter.all false
set_option maxRecDepth 100000
set_option maxHeartbeats 4000000
namespace T24
open PySem PySem.Spec PyProof.Rows L2 Gd Zn Rp Dn Tb Gn En Zs Ct Op Oc Rg Rt Ro Oa
theorem py_new {H H2 : Hp} {p Da : Addr} {bs : List Addr} {M : List (List Int)} (hp : PotOk H p) (nD : H Da = none) (hD : H2 Da = some (.lst (bs.map V.ref))) (hl : bs.length = M.length) (fr : ∀ b ∈ bs, H b = none)
    (hE : ∀ (i : Nat) (b : Addr), bs[i]? = some b → ∃ o, H2 b = some o ∧ o = .lst ((M.getD i []).map V.int)) : PyV (hid (some p) H2) (.ref Da) (lmD M) := by
  refine lm_of ?_ hl fun i b e => ?_
  · rw [hid_at (fun z => by cases z; exact hp.some_ nD)]
    exact hD
  · obtain ⟨o, e1, rfl⟩ := hE i b e
    rw [hid_at (fun z => by cases z; exact hp.some_ (fr _ (List.mem_of_getElem? e)))]
    exact e1
theorem ints_of {rs : List V} {P : Int → Prop} (h : ∀ (i : Nat) (v : V), rs[i]? = some v → ∃ x : Int, v = .int x ∧ P x) : ∃ xs : List Int, rs = xs.map V.int ∧ ∀ x ∈ xs, P x := by
  induction rs with
  | nil => exact ⟨[], rfl, fun x hx => by cases hx⟩
  | cons r rs ih =>
    obtain ⟨x, rfl, hb⟩ := h 0 r rfl
    obtain ⟨xs, rfl, hbs⟩ := ih fun i v e => h (i + 1) v e
    refine ⟨x :: xs, rfl, fun y hy => ?_⟩
    rcases List.mem_cons.mp hy with rfl | hy
    · exact hb
    · exact hbs y hy
theorem line_of {n i : Nat} {d : Int} {xs : List Int} (hi : i < n) (hd : 1 ≤ d ∧ d ≤ 2) (hl : xs.length = n - (i + 1)) (hb : ∀ x ∈ xs, -2 ≤ x ∧ x ≤ 2) : LineAt n i (List.replicate i 0 ++ [d] ++ xs) := by
  refine ⟨by simp; omega, fun k hk => ?_, ?_, fun x hx => ?_⟩
  · rw [List.getD_eq_getElem?_getD, List.append_assoc, List.getElem?_append_left (by rw [List.length_replicate]; exact hk), List.getElem?_replicate_of_lt hk]
    rfl
  · rw [List.getD_eq_getElem?_getD, List.append_assoc, List.getElem?_append_right (by rw [List.length_replicate]; exact Nat.le_refl _), List.length_replicate, Nat.sub_self]
    exact hd.1
  · rcases List.mem_append.mp hx with h | h
    · rcases List.mem_append.mp h with h | h
      · have := List.eq_of_mem_replicate h
        omega
      · have := List.mem_singleton.mp h
        omega
    · exact hb x h
theorem wid_s {x : Int} (h : -1000 ≤ x ∧ x ≤ 1000) : Wd.Wid x := ⟨20, by omega, (by show x.natAbs < 2 ^ 20; omega)⟩
section
variable {P : Program} {w : World} {K : PySem.W.Frag} {mg : Str → Option Value} {base : Heap} {C : Addr}
abbrev st_lbw : Stmt := top 29
def sp_lbw : Sp := fun vs H Q _ => ∃ (p : Addr) (n : Nat), vs = [.ref p, .int n] ∧ PotOk H p ∧ 1 ≤ n ∧ n ≤ 3 ∧ ∀ D H' M, RX (some p) H H' → PyV (hid (some p) H') (.ref D) (lmD M) → Rw n 6 M → Q (.ref D) H'
abbrev N_lbw : List Str := ["_law_pot_here", "_law_size", "_law_found", "_law_place", "_law_line", "_law_head", "_law_row", "_law_spot", "_law_near", "_law_far"]
theorem sc_lbw : FnScope N_lbw ["_law_pot_here", "_law_size"] (defScope st_lbw) := ⟨rfl, rfl, rfl, by decide +kernel, rfl, by decide +kernel, by decide +kernel⟩
theorem ok_lbw {f : Addr} {fd : FuncData} (F : Fun K "_law_bowl" "_law_bowl" st_lbw f fd) (T : Txt mg) (D1 : Def P w K mg base "_law_draw" 1 ["_law_pot_here", "_law_size"] sp_draw) : FnOk P w K mg base CX0 2 f fd ["_law_pot_here", "_law_size"] sp_lbw := by
  refine F.ok sc_lbw (fun vs H Q E h => ?_) (fun cdv A outer s H vs Q E hr h => ?_)
  · obtain ⟨p, n, rfl, _⟩ := h
    rfl
  · obtain ⟨p, n, rfl, hp, h1, h3, q⟩ := h
    refine ⟨_, pss_cons (ps_set (i := 2) sc_lbw.nd rfl (Or.inr rfl) (pe_lc (own := [("_law_row", 6)]) (g := gName 6) (tt := tYes) rfl sc_lbw.nd (pi_range1 (by rfl) T.range (pa_cons (pv 1) pa_nil))
        (blkOk_by (N := N_lbw) (sc := defScope st_lbw) (by decide +kernel)) (fun _ _ _ _ _ => pg_name (i := 6) sc_lbw.nd rfl (Or.inl rfl) (Or.inr rfl)) (fun _ _ _ _ _ => pts_nil)
        (fun _ _ _ _ _ => pe_op op_rep (pe_lst (pa_cons pe_int pa_nil)) (pv 1))))
      (pss_cons (ps_for PassesOwn.never rfl (pi_range1 (by rfl) T.range (pa_cons (pv 1) pa_nil)) (pg_name (i := 3) sc_lbw.nd rfl (Or.inl rfl))
        (pss_cons (ps_set (i := 4) sc_lbw.nd rfl (Or.inr rfl) (pe_op op_cat (pe_op op_cat (pe_op op_rep (pe_lst (pa_cons pe_int pa_nil)) (pv 3)) (pe_lst (pa_cons (pe_op op_add pe_int (pe_def D1 hr (pa_cons (pv 0) (pa_cons pe_int pa_nil)))) pa_nil)))
          (pe_lc (own := [("_law_spot", 7)]) (g := gName 7) (tt := tYes) rfl sc_lbw.nd (pi_range2 (by rfl) T.range (pa_cons (pe_op op_add (pv 3) pe_int) (pa_cons (pv 1) pa_nil)))
            (blkOk_by (N := N_lbw) (sc := defScope st_lbw) (by decide +kernel)) (fun _ _ _ _ _ => pg_name (i := 7) sc_lbw.nd rfl (Or.inl rfl) (Or.inr rfl)) (fun _ _ _ _ _ => pts_nil)
            (fun _ _ _ _ _ => pe_op op_sub (pe_def (X := Cx.blk _ _ _ _ _ _) D1 hr (pa_cons (pv 0) (pa_cons pe_int pa_nil))) pe_int))))
        (pss_cons (ps_set (i := 5) sc_lbw.nd rfl (Or.inr rfl) (pe_op op_add pe_int (pe_def D1 hr (pa_cons (pv 0) (pa_cons pe_int pa_nil)))))
        (pss_one (ps_set (i := 2) sc_lbw.nd rfl (Or.inr rfl) (pe_lc (own := [("_law_near", 8)]) (g := gName 8) (tt := tYes) rfl sc_lbw.nd (pi_range1 (by rfl) T.range (pa_cons (pv 1) pa_nil))
          (blkOk_by (N := N_lbw) (sc := defScope st_lbw) (by decide +kernel)) (fun _ _ _ _ _ => pg_name (i := 8) sc_lbw.nd rfl (Or.inr rfl) (Or.inl rfl)) (fun _ _ _ _ _ => pts_nil)
          (fun s' H' C' cl' fp' => by
            refine pe_lc (own := [("_law_far", 9)]) (wi := iRng1 (tCons (tVar 1) tNil)) (g := gName 9) (tt := tYes) (te := tOp (rI0 fun i j => .int (i + j)) (tOp (rIxS2 K) (tOp (rIxS2 K) (tVar 2) (tVar 8)) (tVar 9)) (tOp (rI CMulX fun i j => .int (i * j)) (tOp (rI CMulX fun i j => .int (i * j)) (tVar 5) (tOp (rIxS2 K) (tVar 4) (tVar 8))) (tOp (rIxS2 K) (tVar 4) (tVar 9)))) rfl sc_lbw.nd ?p1 ?p2 ?p3 ?p4 ?p5
            case p1 => exact pi_range1 (by rfl) T.range (pa_cons (pv 1) pa_nil)
            case p2 => exact blkOk_by (N := N_lbw) (by rfl)
            case p3 => exact (fun _ _ _ _ _ => pg_name (i := 9) sc_lbw.nd rfl (Or.inl rfl) (Or.inr rfl))
            case p4 => exact (fun _ _ _ _ _ => pts_nil)
            case p5 => exact (fun _ _ _ _ _ => pe_op op_add (pe_ix (r := rIxS2 K) ix_sq (pe_ix (r := rIxS2 K) ix_sq (pv 2) (pv 8) (fun _ _ => rfl)) (pv 9) (fun _ _ => rfl)) (pe_op op_mulX (pe_op op_mulX (pv 5) (pe_ix (r := rIxS2 K) ix_sq (pv 4) (pv 8) (fun _ _ => rfl))) (pe_ix (r := rIxS2 K) ix_sq (pv 4) (pv 9) (fun _ _ => rfl))))))))))
      ) (pss_one (ps_ret (pv 2)))), ?_⟩
    have hh : Has (some p) H := fun q e => by cases e; exact hp
    refine r_seq (r_asg (tlc_call ⟨_, rfl, (n : Int), rfl, by omega, by omega, ?_⟩))
    rw [Int.toNat_natCast]
    refine lc_new (p := some p) n (fun i o => o = .lst ((List.replicate n (0 : Int)).map V.int)) hh (by omega) (fun i H2 hi s2 => hi) (fun H2 s2 => Nat.le_refl _) (fun i x H2 H3 C' hi s2 hp2 hy hC => ?_) fun Da H2 bs nD s2 hD hl nd nDb fr hE => ?_
    · obtain ⟨rfl, rfl⟩ := hy
      refine ⟨rfl, r_op (r_lst ⟨(by show 1 ≤ sizeLine; decide), fun l nl => ?_⟩)⟩
      have s5 : Same H3 (upd H3 l (.lst [V.int 0])) := same_new nl
      refine ⟨_, rfl, l, _, [V.int 0], rfl, rfl, upd_same, by omega, by omega, ?_, fun c nc => ?_⟩
      · rw [Int.toNat_natCast]
        exact Nat.le_trans (by simp; omega : _ ≤ 100) (by decide)
      · have nc2 := Same.free s5 nc
        refine hC c _ _ ((RX.of s5).trans (RX.new nc)) nc2 upd_same ?_
        rw [Int.toNat_natCast]
        show HO.lst (List.replicate n [V.int 0]).flatten = _
        rw [rep_flat, List.map_replicate]
    · have hL : PyV (hid (some p) H2) (.ref Da) (lmD (zeroM n)) := py_new hp nD hD (by rw [hl]; exact (zero_sqB n 0 (by decide)).len.symm) fr fun i b e => by
        obtain ⟨o, e1, e2⟩ := hE i b e
        have hi : i < n := by rw [← hl]; exact (List.getElem?_eq_some_iff.mp e).1
        exact ⟨o, e1, by rw [e2, zero_getD hi]⟩
      refine r_next (r_nseq ?_)
      refine ⟨_, rfl, (n : Int), rfl, by omega, by omega, ?_⟩
      rw [Int.toNat_natCast]
      refine for_range (lo := 0) (n := n) (fun i σ H' => ∃ x3 x4 x5 x6 x7 x8 x9 D M, σ = [some (.ref p), some (.int n), some (.ref D), x3, x4, x5, x6, x7, x8, x9] ∧ RX (some p) H H' ∧ PyV (hid (some p) H') (.ref D) (lmD M) ∧ BwI n i M) ⟨_, _, _, _, _, _, _, Da, _, rfl, s2, hL, bw_zero h1 h3⟩ (fun i σ H' hi hP => ?_) (fun σ H' hP => ?_)
      · obtain ⟨x3, x4, x5, x6, x7, x8, x9, D, M, rfl, s3, hM, hB⟩ := hP
        rw [show (0 : Int) + (i : Int) = (i : Int) by omega]
        have hp3 := s3.pot p rfl hp
        refine r_seq (r_asg (r_op (r_op (r_op (r_lst ⟨(by show 1 ≤ sizeLine; decide), fun l nl => ?_⟩)))))
        have s5 : Same H' (upd H' l (.lst [V.int 0])) := same_new nl
        refine ⟨_, rfl, l, (i : Int), [V.int 0], rfl, rfl, upd_same, by omega, by omega, ?_, fun c nc => ?_⟩
        · rw [Int.toNat_natCast]
          exact Nat.le_trans (by simp; omega : _ ≤ 100) (by decide)
        have nc0 := Same.free s5 nc
        have ec : upd (upd H' l (.lst [V.int 0])) c (.lst (List.replicate (i : Int).toNat [V.int 0]).flatten) c = some (.lst ((List.replicate i (0 : Int)).map V.int)) := by
          rw [upd_same, Int.toNat_natCast, rep_flat, List.map_replicate]
        have s6 : Same H' (upd (upd H' l (.lst [V.int 0])) c (.lst (List.replicate (i : Int).toNat [V.int 0]).flatten)) := s5.trans (same_new nc)
        generalize upd (upd H' l (.lst [V.int 0])) c (.lst (List.replicate (i : Int).toNat [V.int 0]).flatten) = H4 at ec s6
        have cp : some p ≠ some c := fun z => by cases z; exact hp3.some_ nc0
        have s36 := s3.trans (RX.of s6)
        refine r_lst (r_cons (r_op ⟨_, rfl, p, 2, rfl, s36.pot p rfl hp, by decide, by decide, fun r H5 r0 r1 s7 => ⟨_, _, rfl, rfl, ⟨(by show 1 ≤ sizeLine; decide), fun l2 nl2 => ?_⟩⟩⟩))
        have ec5 := s7.keep c _ cp ec
        have s37 := s36.trans s7
        have l2p : some p ≠ some l2 := fun z => by cases z; exact (s37.pot p rfl hp).some_ nl2
        have s38 := s37.trans (RX.new (o := .lst [V.int (1 + r)]) nl2)
        refine ⟨c, l2, _, _, rfl, rfl, (same_new nl2) _ _ ec5, upd_same, ?_, fun c2 nc2 => ?_⟩
        · exact Nat.le_trans (by simp; omega : _ ≤ 100) (by decide)
        have c2p : some p ≠ some c2 := fun z => by cases z; exact (s38.pot p rfl hp).some_ nc2
        have ec2 : upd (upd H5 l2 (.lst [V.int (1 + r)])) c2 (.lst ((List.replicate i (0 : Int)).map V.int ++ [V.int (1 + r)])) c2 = some (.lst ((List.replicate i (0 : Int) ++ [1 + r]).map V.int)) := by
          rw [upd_same, List.map_append]
          rfl
        have s39 := s38.trans (RX.new (o := .lst ((List.replicate i (0 : Int)).map V.int ++ [V.int (1 + r)])) nc2)
        have u39 := (RX.of s6).trans (s7.trans ((RX.new (o := .lst [V.int (1 + r)]) nl2).trans (RX.new (p := some p) (o := .lst ((List.replicate i (0 : Int)).map V.int ++ [V.int (1 + r)])) nc2)))
        generalize upd (upd H5 l2 (.lst [V.int (1 + r)])) c2 (.lst ((List.replicate i (0 : Int)).map V.int ++ [V.int (1 + r)])) = H6 at ec2 s39 u39
        have hh6 : Has (some p) H6 := fun q e => by cases e; exact s39.pot p rfl hp
        refine tlc_call (r_cons (r_op ⟨_, rfl, _, _, rfl, rfl, _, rfl, _, _, rfl, ⟨by omega, by omega, by omega, by omega⟩, ?_⟩))
        rw [show ((n : Int) - ((i : Int) + 1)).toNat = n - (i + 1) by omega]
        refine lc_el (p := some p) (n - (i + 1)) (fun j v => ∃ x : Int, v = .int x ∧ -2 ≤ x ∧ x ≤ 2) hh6 (by omega) (fun j H2 hj s2 => hj) (fun H2 s2 => Nat.le_refl _) (fun j x H7 H8 C' hj s8 hp8 hy hC => ?_) fun Dx H7 rs nDx s8 hDx hrl hrE => ?_
        · obtain ⟨rfl, rfl⟩ := hy
          refine ⟨rfl, r_op ⟨_, rfl, p, 5, rfl, hp8 p rfl, by decide, by decide, fun r H9 r0 r1 s9 => ⟨_, _, rfl, rfl, hC _ _ s9 ⟨_, rfl, by omega, by omega⟩⟩⟩⟩
        obtain ⟨xs, rfl, hxs⟩ := ints_of hrE
        have hxl : xs.length = n - (i + 1) := by rw [← hrl, List.length_map]
        have ec7 := s8.keep c2 _ c2p ec2
        refine ⟨c2, Dx, _, _, rfl, rfl, ec7, hDx, ?_, fun c3 nc3 => ?_⟩
        · exact Nat.le_trans (by simp; omega : _ ≤ 100) (by decide)
        have S7 := s39.trans s8
        have c3p : some p ≠ some c3 := fun z => by cases z; exact (S7.pot p rfl hp).some_ nc3
        have hLn := line_of (n := n) (i := i) (d := 1 + r) (xs := xs) hi (by omega) hxl hxs
        have ec3 : upd H7 c3 (.lst ((List.replicate i (0 : Int) ++ [1 + r]).map V.int ++ xs.map V.int)) c3 = some (.lst ((List.replicate i (0 : Int) ++ [1 + r] ++ xs).map V.int)) := by
          rw [upd_same, ← List.map_append]
        have S8 := S7.trans (RX.new (o := .lst ((List.replicate i (0 : Int) ++ [1 + r]).map V.int ++ xs.map V.int)) nc3)
        have hM8 : PyV (hid (some p) (upd H7 c3 (.lst ((List.replicate i (0 : Int) ++ [1 + r]).map V.int ++ xs.map V.int)))) (.ref D) (lmD M) := by
          refine py_rx hM ?_
          exact u39.trans (s8.trans (RX.new nc3))
        generalize upd H7 c3 (.lst ((List.replicate i (0 : Int) ++ [1 + r]).map V.int ++ xs.map V.int)) = H8 at ec3 S8 hM8
        generalize List.replicate i (0 : Int) ++ [1 + r] ++ xs = L at hLn ec3
        refine r_next (r_nseq (r_asg (r_op ⟨_, rfl, p, 3, rfl, S8.pot p rfl hp, by decide, by decide, fun h H9 h0 h4 s9 => ⟨_, _, rfl, rfl, ?_⟩⟩)))
        have S9 := S8.trans s9
        have ec9 := s9.keep c3 _ c3p ec3
        have hM9 := py_rx hM8 s9
        refine r_next (n_asg (tlc_call ⟨_, rfl, (n : Int), rfl, by omega, by omega, ?_⟩))
        rw [Int.toNat_natCast]
        obtain ⟨aD, ds, eD, had, hdl, hde⟩ := lm_at hM9
        cases eD
        have dl : ds.length = n := by rw [hdl, hB.bd.len]
        have hp9 : PotOk H9 p := S9.pot p rfl hp
        have hh9 : Has (some p) H9 := fun q e => by cases e; exact hp9
        refine lc_new (p := some p) n (fun j o => o = .lst (((stepB n M (1 + h) L).getD j []).map V.int)) hh9 (by omega) (fun i H2 hi s2 => hi) (fun H2 s2 => Nat.le_refl _) (fun a x Ha Hb C' ha sa hpa hy hC => ?_) fun De Hc es nDe sc hDe hel nde nDee fre hEe => ?_
        · obtain ⟨rfl, rfl⟩ := hy
          rw [show (0 : Int) + (a : Int) = (a : Int) by omega]
          refine ⟨rfl, tlc_call ⟨_, rfl, (n : Int), rfl, by omega, by omega, ?_⟩⟩
          rw [Int.toNat_natCast]
          refine lc_el (p := none) n (fun j v => v = .int (ent M a j + (1 + h) * L.getD a 0 * L.getD j 0)) has_none (by omega) (fun j H4 hj s4 => hj) (fun H4 s4 => Nat.le_refl _) (fun b x H4 H5 C2 hb s4 _ hy2 hC2 => ?_) fun Dz H4 ys nDz s4 hDz hyl hyE => ?_
          · obtain ⟨rfl, rfl⟩ := hy2
            rw [show (0 : Int) + (b : Int) = (b : Int) by omega]
            have SA := sa.trans (RX.of s4.same)
            have ed : ds[a]? = some (ds[a]'(by omega)) := List.getElem?_eq_getElem _
            have hr1 := hid_le _ _ (SA.hid _ _ had)
            have hr2 := hid_le _ _ (SA.hid _ _ (hde a _ ed))
            have e9 := SA.keep c3 _ c3p ec9
            have lr : (M.getD a []).length = n := getD_row hB.bd.sh ha
            have ll := hLn.len
            refine ⟨rfl, r_op (r_op (r_op ⟨_, rfl, _, rfl, false, D, _, _, _, rfl, rfl, .inl (.inl hr1), ixR ed, _, rfl, false, _, _, _, _, rfl, rfl, .inl (.inl hr2), ixL (by omega), ?_⟩))⟩
            have w1 : Wd.Wid (1 + h) := wid_s ⟨by omega, by omega⟩
            have ba := getD_bd (k := a) hLn.bd
            have bb := getD_bd (k := b) hLn.bd
            refine r_op (r_op ⟨_, rfl, _, rfl, _, rfl, false, c3, _, _, _, rfl, rfl, .inl (.inl e9), ixL (by omega), _, _, rfl, rfl, Wd.mulW w1 (wid_s ⟨by omega, by omega⟩), _, rfl, _, rfl, false, c3, _, _, _, rfl, rfl, .inl (.inl e9), ixL (by omega), _, _, rfl, rfl, Wd.mulW ?_ (wid_s ⟨by omega, by omega⟩), _, _, rfl, rfl, ?_⟩)
            · have h' : h = 0 ∨ h = 1 ∨ h = 2 := by omega
              refine wid_s ?_
              rcases h' with rfl | rfl | rfl <;> omega
            · exact hC2 _ _ (RX.refl _) rfl
          · refine hC Dz H4 (.lst ys) (RX.of s4.same) nDz hDz ?_
            · have ey : ys = (List.range n).map fun b => V.int (ent M a b + (1 + h) * L.getD a 0 * L.getD b 0) := map_of_get (n := 0) _ (by rw [hyl, List.length_range]) fun j v e => by
                have hj : j < n := by rw [← hyl]; exact (List.getElem?_eq_some_iff.mp e).1
                exact ⟨j, List.getElem?_range hj, hyE j v e⟩
              rw [ey, stepB_row ha, List.map_map]
              rfl
        · have hB2 := bw_step h1 h3 hi hB (h := 1 + h) ⟨by omega, by omega⟩ hLn
          have pN : PyV (hid (some p) Hc) (.ref De) (lmD (stepB n M (1 + h) L)) := py_new hp9 nDe hDe (by rw [hel, hB2.bd.len]) fre hEe
          exact ⟨_, _, _, _, _, _, _, De, _, rfl, S9.trans sc, pN, hB2⟩
      · obtain ⟨x3, x4, x5, x6, x7, x8, x9, D, M, rfl, s3, hM, hB⟩ := hP
        exact ⟨_, rfl, q D H' M s3 hM (bw_rw h1 h3 hB)⟩
end
end T24
set_option Elab.async false
set_option linter.all false
set_option maxRecDepth 100000
set_option maxHeartbeats 4000000
namespace T24
open PySem PySem.Spec PyProof.Rows L2 Gd Zn Rp Dn Tb Gn En Zs Ct Op Oc Rg Rt Ro Oa
theorem g_nm {i : Nat} {v : V} {σ : L2.St} {H : Hp} {k : L2.St → Hp → Prop} (h : k (σ.set i (some v)) H) : gName i v σ H k := h
theorem ifF {b : Bool} {A B : Prop} (h : b = false) (x : B) : if b = true then A else B := by rw [h]; exact x
theorem ifT {b : Bool} {A B : Prop} (h : b = true) (x : A) : if b = true then A else B := by rw [if_pos h]; exact x
def isTupD : PyData → Bool
  | .tuple _ => true
  | _ => false
theorem kit_tup (K : PySem.W.Frag) (d : PyData) : PySem.W.kitOne K (.type (tyD d)) (.type "tuple") = some (isTupD d) := by
  cases d <;> dsimp only [tyD, isTupD] <;> exact kit_ty (by decide +kernel)
def headB (k : Nat) (xs : List Int) : Bool := decide (xs.getD k 0 ≠ 0) && (xs.take k).all (fun x => decide (x = 0))
def intsD (ds : List PyData) : List Int := ds.map fun d => match d with | .int x => x | _ => 0
def sqAtB (n k : Nat) : PyData → Bool
  | .tuple [.int b, r] => decide (1 ≤ b) && rowOfB n r && headB k (intsD (items r))
  | _ => false
theorem sqAt_pair (n k : Nat) (b : Int) (r : PyData) : sqAtB n k (.tuple [.int b, r]) = (decide (1 ≤ b) && rowOfB n r && headB k (intsD (items r))) := rfl
theorem pyVs_at {H : Hp} : ∀ {vs : List V} {ds : List PyData}, PyVs H vs ds → ∀ {j : Nat} {v : V} {d : PyData}, vs[j]? = some v → ds[j]? = some d → PyV H v d
  | _, _, .cons a b, 0, _, _, e1, e2 => by cases e1; cases e2; exact a
  | _, _, .cons a b, j + 1, _, _, e1, e2 => pyVs_at b (by simpa using e1) (by simpa using e2)
theorem pyVs_app {H : Hp} : ∀ {xs ys : List V} {ds es : List PyData}, PyVs H xs ds → PyVs H ys es → PyVs H (xs ++ ys) (ds ++ es)
  | [], _, [], _, .nil, b => b
  | _ :: _, _, _ :: _, _, .cons a r, b => .cons a (pyVs_app r b)
theorem ints_iD (xs : List Int) : intsD (iD xs) = xs := by
  unfold intsD iD
  rw [List.map_map]
  exact List.map_id _
theorem row_ints {n : Nat} {d : PyData} (h : rowOfB n d = true) : isSeq d = true ∧ items d = iD (intsD (items d)) ∧ (intsD (items d)).length = n ∧ 1 ≤ n ∧ n ≤ 3 := by
  unfold rowOfB rowB at h
  simp only [Bool.and_eq_true, decide_eq_true_eq] at h
  obtain ⟨⟨⟨h1, h2, h3⟩, h4⟩, h5⟩ := h
  have : items d = iD (intsD (items d)) := by
    have k : ∀ ds : List PyData, ds.all isIntD = true → ds = iD (intsD ds) := fun ds => by
      induction ds with
      | nil => intro _; rfl
      | cons d ds ih =>
        intro h
        rw [List.all_cons, Bool.and_eq_true] at h
        cases d with
        | int x => exact congrArg (PyData.int x :: ·) (ih h.2)
        | _ => exact absurd h.1 (by simp [isIntD])
    exact k _ h4
  refine ⟨h1, this, by unfold intsD; rw [List.length_map]; exact h5, by omega, by omega⟩
theorem row_of {n : Nat} {d : PyData} {xs : List Int} (h1 : isSeq d = true) (h2 : items d = iD xs) (h3 : xs.length = n) (h4 : 1 ≤ n) (h5 : n ≤ 3) : rowOfB n d = true := by
  unfold rowOfB rowB
  have : (iD xs).all isIntD = true := by
    unfold iD
    rw [List.all_map]
    exact List.all_eq_true.mpr fun x _ => rfl
  have l : (iD xs).length = n := by unfold iD; rw [List.length_map]; exact h3
  rw [h1, h2, this, l, decide_eq_true h4, decide_eq_true h5, decide_eq_true rfl]
  rfl
section
variable {P : Program} {w : World} {K : PySem.W.Frag} {mg : Str → Option Value} {base : Heap} {C : Addr}
theorem sl_seq {H : Hp} {v : V} {xs : List Int} {k : Nat} {Q : VK} (h : SeqV H v (iD xs)) (hk : k ≤ xs.length) (q : ∀ b t H', Same H H' → (∀ H2, Same H' H2 → SqV K H2 t b ((xs.take k).map V.int)) → Q (.ref b) H') : rSlL K v none (some (k : Int)) H Q ∨ rSlA K v none (some (k : Int)) H Q := by
  rcases h with h | h
  · cases h with
    | @lst a vs _ e z =>
      have ez := pyVs_ints z
      subst ez
      refine .inl ⟨a, _, rfl, SqL.of e, fun p np => ?_⟩
      rw [cutV_to xs k hk]
      exact q p false _ (same_new np) fun H2 s => .inl (.inl (s _ _ upd_same))
  · cases h with
    | @tup a vs _ e z =>
      have ez := pyVs_ints z
      subst ez
      refine .inr (sl_all e (by rw [List.length_map]; exact hk) fun b H1 s1 hb => ?_)
      rw [← List.map_take] at hb
      exact q b true _ s1 fun H2 s => .inl (.inl (s _ _ hb))
abbrev st_isat : Stmt := top 24
abbrev N_isat : List Str := ["size", "place", "pair", "bottom", "row", "number"]
theorem sc_isat : FnScope N_isat ["size", "place", "pair"] (defScope st_isat) := ⟨rfl, rfl, rfl, by decide +kernel, rfl, by decide +kernel, by decide +kernel⟩
def sp_isat : Sp := fun vs H Q _ => ∃ (x : V) (d : PyData) (n k : Nat), vs = [.int n, .int k, x] ∧ PyV H x d ∧ k < n ∧ (items d).length ≤ 200 ∧ (∀ e ∈ items d, (items e).length ≤ 200) ∧ ∀ H', Same H H' → Q (.bl (sqAtB n k d)) H'
theorem ok_isat {f : Addr} {fd : FuncData} (F : Fun K "is_square_at" "is_square_at" st_isat f fd) (T : Txt mg) (D1 : Def P w K mg base "is_integer" 1 ["value"] sp_is_integer) (D2 : Def P w K mg base "is_row_of" 3 ["size", "value"] sp_is_row_of) : FnOk P w K mg base CX0 4 f fd ["size", "place", "pair"] sp_isat := by
  refine F.ok sc_isat (fun vs H Q E h => ?_) (fun cdv A outer s H vs Q E hr h => ?_)
  · obtain ⟨x, d, n, k, rfl, _⟩ := h
    rfl
  · obtain ⟨x, d, n, k, rfl, hx, hk, l1, l2, q⟩ := h
    refine ⟨_, pss_cons (ps_if (PW.pt (pw_or (pt_not (pt_val (pe_callB call_isi (by rfl) T.isi boot_isinstance (pa_cons (pv 2) (pa_cons (pe_bltn (v := .ty "tuple") (by rfl) T.tuple PyProof.Rows.boot_tuple rfl) pa_nil)))))
          (pw_or1 (pt_cmpR op_ne (pe_callB (r := Dn.rLen K) c_len (by rfl) T.len PySem.boot_len (pa_cons (pv 2) pa_nil)) pe_int (nomark _))))) (pss_one (ps_ret pe_bl)) pss_nil)
      (pss_cons (ps_asg (pv 2) (pg_tup rfl (pgs_cons (pg_name (i := 3) sc_isat.nd rfl (Or.inl rfl)) (pgs_cons (pg_name (i := 4) sc_isat.nd rfl (Or.inl rfl)) pgs_nil))))
      (pss_cons (ps_if (PW.pt (pw_or (pt_not (pt_val (pe_def D1 hr (pa_cons (pv 3) pa_nil)))) (pw_or (pt_cmpR op_lt (pv 3) pe_int (nomark _)) (pw_or1 (pt_not (pt_val (pe_def D2 hr (pa_cons (pv 0) (pa_cons (pv 4) pa_nil))))))))) (pss_one (ps_ret pe_bl)) pss_nil)
      (pss_one (ps_ret (pe_and (pe_cmpR op_ne (pe_ix (r := rIxS2 K) ix_sq (pv 4) (pv 1) (fun _ _ => rfl)) pe_int (nomark _))
        (pe_one (pe_callB (cr_all rfl) (by rfl) T.all boot_all (pa_cons (pe_lc (own := [("number", 5)]) (g := gName 5) (tt := tYes) rfl sc_isat.nd (pi_seq (pe_slice (r := fun x lo hi H Q => rSlL K x lo hi H Q ∨ rSlA K x lo hi H Q) (SlR.or sl_list sl_tupA) (pv 4) po_none (po_some (pv 1))))
          (blkOk_by (N := N_isat) (sc := defScope st_isat) (by decide +kernel)) (fun _ _ _ _ _ => pg_name (i := 5) sc_isat.nd rfl (Or.inl rfl) (Or.inr rfl)) (fun _ _ _ _ _ => pts_nil)
          (fun _ _ _ _ _ => pe_cmpR op_eq (pv 5) pe_int (nomark _))) pa_nil)))))))), ?_⟩
    have av : AnyV H x d := .inl hx
    refine r_seq (r_if (r_or (r_not (r_b ⟨_, rfl, x, .ty "tuple", _, _, _, rfl, .ty _, av.ty, kit_tup K d, _, rfl, ?_⟩))))
    by_cases hT : isTupD d = true
    · obtain ⟨ds, rfl⟩ : ∃ ds, d = .tuple ds := by
        cases d with
        | tuple ds => exact ⟨ds, rfl⟩
        | _ => exact absurd hT (by simp [isTupD])
      cases hx with
      | @tup a vs _ e z =>
      refine ifF rfl (r_tt (r_op (cb1 ⟨_, rfl, a, _, rfl, .inr (.inl (.inl e)), rfl, _, rfl, ?_⟩)))
      have lv := pyVs_len z
      by_cases l : vs.length = 2
      · refine ifF (by rw [l]; rfl) ?_
        obtain ⟨vb, vr, rfl⟩ := len2 l
        obtain ⟨db, dr, rfl⟩ : ∃ db dr, ds = [db, dr] := len2 (by rw [← lv]; rfl)
        have hb : PyV H vb db := pyVs_at z (j := 0) rfl rfl
        have hrw : PyV H vr dr := pyVs_at z (j := 1) rfl rfl
        refine r_next (r_nseq (r_asg ⟨_, rfl, a, _, rfl, .inl (.inl e), rfl, _, _, rfl, _, _, rfl, rfl, ?_⟩))
        refine r_next (r_nseq (r_if (r_or (r_not (r_b (a1 ⟨_, rfl, vb, db, rfl, .inl hb, fun H1 s1 => ⟨_, rfl, ?_⟩⟩))))))
        by_cases hI : isIntD db = true
        · obtain ⟨b, rfl⟩ : ∃ b, db = .int b := by
            cases db with
            | int b => exact ⟨b, rfl⟩
            | _ => exact absurd hI (by simp [isIntD])
          cases hb
          refine ifF rfl (r_or (r_tt (r_op ⟨_, rfl, _, _, rfl, rfl, _, rfl, ?_⟩)))
          by_cases hb1 : b < 1
          · refine ifT (decide_eq_true hb1) (r_ret (r_k ?_))
            have : sqAtB n k (.tuple [.int b, dr]) = false := by
              rw [sqAt_pair, decide_eq_false (by omega : ¬ 1 ≤ b)]
              rfl
            rw [← this]
            exact q _ s1
          · refine ifF (decide_eq_false hb1) (r_not (r_b (a2 ⟨_, rfl, _, rfl, vr, dr, n, rfl, .inl (hrw.mono s1), l2 dr (by simp [items]), fun H2 s2 => ⟨_, rfl, ?_⟩⟩)))
            by_cases hR : rowOfB n dr = true
            · refine ifF (by rw [hR]; rfl) ?_
              obtain ⟨k1, k2, k3, k4, k5⟩ := row_ints hR
              have S2 := s1.trans s2
              have sv : SeqV H2 vr (iD (intsD (items dr))) := by
                have := seq_of (.inl (hrw.mono S2)) k1
                rwa [k2] at this
              generalize hxs : intsD (items dr) = xs at k3 sv
              obtain ⟨t, ar, wv, rfl, qx, px⟩ := sv.at K
              have ew := pyVs_ints px
              subst ew
              have eqS : sqAtB n k (.tuple [.int b, dr]) = (!decide (V.int (xs.getD k 0) = V.int 0) && (xs.take k).all fun x => decide (x = 0)) := by
                rw [sqAt_pair]
                unfold headB
                rw [decide_eq_true (by omega : 1 ≤ b), hR, hxs]
                simp
              refine r_next (r_nret (r_andV (r_op (r_op ⟨_, rfl, _, rfl, t, ar, _, _, _, rfl, rfl, qx _ (Same.refl _), ixL (by omega), rfl, _, rfl, ?_⟩))))
              by_cases h0 : xs.getD k 0 = 0
              · refine ifF (by rw [h0]; rfl) ?_
                have : sqAtB n k (.tuple [.int b, dr]) = false := by rw [eqS, h0]; rfl
                rw [← this]
                exact q H2 S2
              · refine ifT (by rw [decide_eq_false (fun z => h0 (V.int.inj z))]; rfl) (cb1 (tlc_call ⟨_, rfl, _, rfl, _, rfl, sl_seq sv (by omega) fun b2 t2 H3 s3 qb => ⟨t2, b2, _, rfl, qb _ (Same.refl _), ?_⟩⟩))
                have lk : (xs.take k).length = k := by rw [List.length_take]; omega
                refine lc_el (p := none) k (fun j v => ∃ x, (xs.take k)[j]? = some x ∧ v = .bl (decide (x = 0))) has_none (by omega) (fun j H4 hj s4 => its_go (qb _ s4.same) (List.getElem?_eq_getElem (by rw [List.length_map, lk]; exact hj))) (fun H4 s4 => its_stop (qb _ s4.same) (by rw [List.length_map, lk]; exact Nat.le_refl _)) (fun j x H4 H5 C' hj s4 _ hy hC => ?_) fun Da H4 rs nDa s4 hDa hrl hrE => ?_
                · obtain ⟨rfl, ex⟩ := its_yld hy (qb _ s4.same)
                  have ej : (xs.take k)[j]? = some ((xs.take k)[j]'(by omega)) := List.getElem?_eq_getElem _
                  rw [List.getElem?_map, ej] at ex
                  cases ex
                  refine ⟨rfl, r_op ⟨_, rfl, rfl, hC _ _ (RX.refl _) ⟨_, ej, ?_⟩⟩⟩
                  exact congrArg V.bl (decide_eq_decide.mpr ⟨fun e => V.int.inj e, fun e => congrArg V.int e⟩)
                · have er : rs = ((xs.take k).map fun x => decide (x = 0)).map V.bl := by
                    rw [List.map_map]
                    exact map_of_get (n := 0) _ (by rw [hrl, lk]) hrE
                  subst er
                  refine ⟨Da, _, rfl, SqL.of hDa, ?_⟩
                  have := q _ (S2.trans (s3.trans s4.same))
                  rw [eqS, decide_eq_false (fun z => h0 (V.int.inj z))] at this
                  rw [List.all_map]
                  exact this
            · refine ifT (by rw [Bool.eq_false_iff.mpr hR]; rfl) (r_ret (r_k ?_))
              have : sqAtB n k (.tuple [.int b, dr]) = false := by
                rw [sqAt_pair, Bool.eq_false_iff.mpr hR, Bool.and_false]
                rfl
              rw [← this]
              exact q _ (s1.trans s2)
        · refine ifT (by rw [Bool.eq_false_iff.mpr hI]; rfl) (r_ret (r_k ?_))
          have : sqAtB n k (.tuple [db, dr]) = false := by
            cases db with
            | int b => exact absurd rfl hI
            | _ => rfl
          rw [← this]
          exact q _ s1
      · refine ifT (by simp; omega) (r_ret (r_k ?_))
        have : sqAtB n k (.tuple ds) = false := by
          match ds, lv with
          | [], _ => rfl
          | [x], _ => cases x <;> rfl
          | [_, _], lv => exact absurd lv l
          | x :: _ :: _ :: _, _ => cases x <;> rfl
        rw [← this]
        exact q _ (Same.refl H)
    · refine ifT (by rw [Bool.eq_false_iff.mpr hT]; rfl) (r_ret (r_k ?_))
      have : sqAtB n k d = false := by
        cases d with
        | tuple ds => exact absurd rfl hT
        | _ => rfl
      rw [← this]
      exact q _ (Same.refl H)
end
end T24
set_option Elab.async false
set_option linter.all false
set_option maxRecDepth 100000
set_option maxHeartbeats 4000000
namespace T24
open PySem PySem.Spec PyProof.Rows L2 Gd Zn Rp Dn Tb Gn En Zs Ct Op Oc Rg Rt Ro Oa
def GoodD (d : PyData) (p : Int × List Int) : Prop := ∃ dr, d = .tuple [.int p.1, dr] ∧ isSeq dr = true ∧ items dr = iD p.2
def Tol (H : Hp) (v : V) (ps : List (Int × List Int)) : Prop := ∃ ds, SeqV H v ds ∧ ds.length = ps.length ∧ ∀ (i : Nat) (d : PyData) (p : Int × List Int), ds[i]? = some d → ps[i]? = some p → GoodD d p
theorem Tol.mono {H H' : Hp} {v : V} {ps : List (Int × List Int)} (h : Tol H v ps) (s : Same H H') : Tol H' v ps := by
  obtain ⟨ds, a, b⟩ := h
  exact ⟨ds, SeqV.mono s a, b⟩
theorem tol_at {H : Hp} {v : V} {ps : List (Int × List Int)} (K : PySem.W.Frag) (h : Tol H v ps) : ∃ (t : Bool) (a : Addr) (vs : List V), v = .ref a ∧ (∀ H', Same H H' → SqV K H' t a vs) ∧ vs.length = ps.length ∧
    ∀ (i : Nat) (x : V), vs[i]? = some x → ∃ c p rv, ps[i]? = some p ∧ x = .ref c ∧ H c = some (.tup [.int p.1, rv]) ∧ SeqV H rv (iD p.2) := by
  obtain ⟨ds, sv, l, hg⟩ := h
  obtain ⟨t, a, vs, rfl, q, z⟩ := sv.at K
  have lv := pyVs_len z
  refine ⟨t, a, vs, rfl, q, by omega, fun i x e => ?_⟩
  have hi : i < vs.length := (List.getElem?_eq_some_iff.mp e).1
  have ed : ds[i]? = some ds[i] := List.getElem?_eq_getElem (by omega)
  have ep : ps[i]? = some ps[i] := List.getElem?_eq_getElem (by omega)
  obtain ⟨dr, e1, e2, e3⟩ := hg i _ _ ed ep
  have px := pyVs_at z e ed
  rw [e1] at px
  cases px with
  | @tup c ws _ ec zc =>
    cases zc with
    | cons h1 h2 =>
      cases h1
      cases h2 with
      | cons h3 h4 =>
        cases h4
        refine ⟨c, _, _, ep, rfl, ec, ?_⟩
        have := seq_of (.inl h3) e2
        rwa [e3] at this
def prodP (ps : List (Int × List Int)) : Int := ps.foldl (fun w p => w * p.1) 1
def termP (W : Int) (a b : Nat) (p : Int × List Int) : Int := p.2.getD a 0 * p.2.getD b 0 * (W / p.1)
def sumP (ps : List (Int × List Int)) (a b : Nat) : Int := (ps.map (termP (prodP ps) a b)).sum
def addsB (n : Nat) (M : List (List Int)) (ps : List (Int × List Int)) : Bool := decide (∀ a, a < n → ∀ b, b < n → sumP ps a b = ent M a b * prodP ps)
def OkP (n : Nat) (ps : List (Int × List Int)) : Prop := ∀ p ∈ ps, p.2.length = n ∧ 1 ≤ p.1 ∧ p.1.natAbs < 2 ^ 2000 ∧ Rb 2000 p.2
theorem prod_take {ps : List (Int × List Int)} {i : Nat} (hi : i < ps.length) : prodP (ps.take (i + 1)) = prodP (ps.take i) * (ps[i]).1 := by
  unfold prodP
  rw [List.take_add_one, List.getElem?_eq_getElem hi, List.foldl_append]
  rfl
theorem prod_bits {n : Nat} {ps : List (Int × List Int)} (h : OkP n ps) : ∀ i, i ≤ ps.length → (prodP (ps.take i)).natAbs < 2 ^ (2000 * i + 1) := fun i => by
  induction i with
  | zero => intro _; show (1 : Int).natAbs < 2 ^ 1; decide
  | succ i ih =>
    intro hi
    rw [prod_take (by omega)]
    exact Wd.abs_mono (Wd.abs_mul (ih (by omega)) (h _ (List.getElem_mem (by omega : i < ps.length))).2.2.1) (by omega)
theorem div_bits {W b : Int} {k : Nat} (hW : W.natAbs < 2 ^ k) (hb : 1 ≤ b) : (W / b).natAbs < 2 ^ k := by
  have : (W / b).natAbs ≤ W.natAbs := Int.natAbs_ediv_le_natAbs W b
  omega
theorem log_of {b : Int} {k : Nat} (hb : 1 ≤ b) (h : b.natAbs < 2 ^ k) : b.natAbs.log2 < k := (Nat.log2_lt (by omega)).mpr h
section
variable {P : Program} {w : World} {K : PySem.W.Frag} {mg : Str → Option Value} {base : Heap} {C : Addr}
abbrev st_adds : Stmt := top 25
abbrev N_adds : List Str := ["rows", "told", "whole", "bottom", "_", "at", "line", "place", "number", "row"]
theorem sc_adds : FnScope N_adds ["rows", "told"] (defScope st_adds) := ⟨rfl, rfl, rfl, by decide +kernel, rfl, by decide +kernel, by decide +kernel⟩
def sp_adds : Sp := fun vs H Q _ => ∃ (rv v : V) (M : List (List Int)) (n : Nat) (ps : List (Int × List Int)), vs = [rv, v] ∧ Mx H rv M ∧ Sq n M ∧ n ≤ 3 ∧ Tol H v ps ∧ ps.length ≤ 3 ∧ OkP n ps ∧ ∀ H', Same H H' → Q (.bl (addsB n M ps)) H'
theorem ok_adds {f : Addr} {fd : FuncData} (F : Fun K "_adds_up" "_adds_up" st_adds f fd) (T : Txt mg) : FnOk P w K mg base CX0 1 f fd ["rows", "told"] sp_adds := by
  refine F.ok sc_adds (fun vs H Q E h => ?_) (fun cdv A outer s H vs Q E hr h => ?_)
  · obtain ⟨rv, v, M, n, ps, rfl, _⟩ := h
    rfl
  · obtain ⟨rv, v, M, n, ps, rfl, ⟨ra, rx, rfl, hra, hR⟩, hS, h3, hT, l3, hO, q⟩ := h
    refine ⟨_, pss_cons (ps_set (i := 2) sc_adds.nd rfl (Or.inr rfl) pe_int)
      (pss_cons (ps_for PassesOwn.never rfl (pi_seq (pv 1)) (pg_tup rfl (pgs_cons (pg_name (i := 3) sc_adds.nd rfl (Or.inl rfl)) (pgs_cons (pg_name (i := 4) sc_adds.nd rfl (Or.inl rfl)) pgs_nil)))
        (pss_one (ps_set (i := 2) sc_adds.nd rfl (Or.inr rfl) (pe_op op_mulX (pv 2) (pv 3)))))
      (pss_cons (ps_for PassesOwn.never rfl (pi_enumS (by rfl) T.enum (pa_cons (pv 0) pa_nil)) (pg_tup rfl (pgs_cons (pg_name (i := 5) sc_adds.nd rfl (Or.inr rfl)) (pgs_cons (pg_name (i := 6) sc_adds.nd rfl (Or.inl rfl)) pgs_nil)))
        (pss_one (ps_for PassesOwn.never rfl (pi_enumS (by rfl) T.enum (pa_cons (pv 6) pa_nil)) (pg_tup rfl (pgs_cons (pg_name (i := 7) sc_adds.nd rfl (Or.inr rfl)) (pgs_cons (pg_name (i := 8) sc_adds.nd rfl (Or.inl rfl)) pgs_nil)))
          (pss_one (ps_if (pt_cmpR op_ne (pe_callB (r := rSum K) (cr_sum rfl) (by rfl) T.sum boot_sum (pa_cons (pe_lc (own := [("bottom", 3), ("row", 9)]) (g := gTup K 2 (gCons (gName 3) (gCons (gName 9) gNil))) (tt := tYes) rfl sc_adds.nd (pi_seq (pv 1))
            (blkOk_by (N := N_adds) (sc := defScope st_adds) (by decide +kernel)) (fun _ _ _ _ _ => pg_tup rfl (pgs_cons (pg_name (i := 3) sc_adds.nd rfl (Or.inl rfl) (Or.inr rfl)) (pgs_cons (pg_name (i := 9) sc_adds.nd rfl (Or.inl rfl) (Or.inr rfl)) pgs_nil))) (fun _ _ _ _ _ => pts_nil)
            (fun _ _ _ _ _ => pe_op op_mulX (pe_op op_mulX (pe_ix (r := rIxS2 K) ix_sq (pv 9) (pv 5) (fun _ _ => rfl)) (pe_ix (r := rIxS2 K) ix_sq (pv 9) (pv 7) (fun _ _ => rfl))) (pe_op op_fdivW (pv 2) (pv 3)))) pa_nil)) (pe_op op_mulX (pv 8) (pv 2)) (nomark _)) (pss_one (ps_ret pe_bl)) pss_nil)))))
      (pss_one (ps_ret pe_bl)))), ?_⟩
    obtain ⟨t, a, vs, rfl, qv, lv, hv⟩ := tol_at K hT
    refine r_seq (r_asg (r_k ?_))
    refine r_next (r_nseq ⟨_, rfl, t, a, vs, rfl, qv _ (Same.refl _), ?_⟩)
    refine for_by ps.length (fun i σ H' => ∃ x3 x4 x5 x6 x7 x8 x9, σ = [some (.ref ra), some (.ref a), some (.int (prodP (ps.take i))), x3, x4, x5, x6, x7, x8, x9] ∧ Same H H')
      ⟨_, _, _, _, _, _, _, rfl, Same.refl _⟩ (fun i σ H' hi hP => ?_) (fun σ H' hP => ?_) (fun i x σ Hb Ha hi hP hy => ?_) (fun σ H' hP => ?_)
    · obtain ⟨_, _, _, _, _, _, _, _, s1⟩ := hP
      exact its_go (qv _ s1) (List.getElem?_eq_getElem (by omega))
    · obtain ⟨_, _, _, _, _, _, _, _, s1⟩ := hP
      exact its_stop (qv _ s1) (by omega)
    · obtain ⟨x3, x4, x5, x6, x7, x8, x9, rfl, s1⟩ := hP
      obtain ⟨rfl, ex⟩ := its_yld hy (qv _ s1)
      obtain ⟨c, p, rv, ep, rfl, hc, hrv⟩ := hv i x ex
      refine ⟨c, _, rfl, .inl (.inl (s1 _ _ hc)), rfl, _, _, rfl, _, _, rfl, rfl, ?_⟩
      have ei : ps[i]'hi = p := by rw [List.getElem?_eq_getElem hi] at ep; exact Option.some.inj ep
      have op := hO p (by rw [← ei]; exact List.getElem_mem hi)
      refine r_asg (r_op ⟨_, rfl, _, rfl, _, _, rfl, rfl, Wd.mulW ⟨_, by omega, prod_bits hO i (by omega)⟩ ⟨2000, by decide, op.2.2.1⟩, ?_⟩)
      refine ⟨some (.int p.1), some rv, x5, x6, x7, x8, x9, ?_, s1⟩
      rw [prod_take hi, ei]
      rfl
    · obtain ⟨x3, x4, x5, x6, x7, x8, x9, rfl, s1⟩ := hP
      rw [List.take_length]
      have wW : (prodP ps).natAbs < 2 ^ (2000 * 3 + 1) := by
        have := prod_bits hO ps.length (Nat.le_refl _)
        rw [List.take_length] at this
        exact Wd.abs_mono this (by omega)
      have lR : rx.length = n := by rw [hR.len, hS.len]
      have qr : ∀ H', Same H H' → SqV K H' true ra rx := fun H' s => .inl (.inl (s _ _ hra))
      refine r_next (r_nseq ⟨_, rfl, true, ra, rx, rfl, qr _ s1, ?_⟩)
      refine for_by n (fun i σ H' => ∃ x3 x4 x5 x6 x7 x8 x9, σ = [some (.ref ra), some (.ref a), some (.int (prodP ps)), x3, x4, x5, x6, x7, x8, x9] ∧ Same H H' ∧ ∀ a, a < i → ∀ b, b < n → sumP ps a b = ent M a b * prodP ps)
        ⟨_, _, _, _, _, _, _, rfl, s1, fun a ha => absurd ha (by omega)⟩ (fun i σ H' hi hP => ?_) (fun σ H' hP => ?_) (fun i x σ Hb Ha hi hP hy => ?_) (fun σ H' hP => ?_)
      · obtain ⟨_, _, _, _, _, _, _, _, s2, _⟩ := hP
        exact ⟨_, _, qr _ s2, List.getElem?_eq_getElem (by omega)⟩
      · obtain ⟨_, _, _, _, _, _, _, _, s2, _⟩ := hP
        exact ⟨_, qr _ s2, by omega⟩
      · obtain ⟨x3, x4, x5, x6, x7, x8, x9, rfl, s2, hA⟩ := hP
        obtain ⟨T2, y, rfl, nT, rfl, hu⟩ := hy
        have ey := hu _ (qr _ s2)
        obtain ⟨r, er, ⟨rb, rfl, hrb⟩⟩ := hR.get ey
        have sT := s2.trans (same_new (o := .tup [V.int (i : Nat), .ref rb]) nT)
        refine ⟨T2, _, rfl, .inl (.inl upd_same), rfl, _, _, rfl, _, _, rfl, rfl, ?_⟩
        generalize upd Hb T2 (.tup [V.int (i : Nat), .ref rb]) = H3 at sT
        have lr := hS.row r (List.mem_of_getElem? er)
        have qrb : ∀ H', Same H H' → SqV K H' true rb (r.map V.int) := fun H' s => .inl (.inl (s _ _ hrb))
        have eM : M.getD i [] = r := getD_of er
        have sr := hS.small r (List.mem_of_getElem? er)
        refine ⟨_, rfl, true, rb, r.map V.int, rfl, qrb _ sT, ?_⟩
        refine for_by n (fun j σ H' => ∃ x3 x4 x7 x8 x9, σ = [some (.ref ra), some (.ref a), some (.int (prodP ps)), x3, x4, some (.int (i : Nat)), some (.ref rb), x7, x8, x9] ∧ Same H H' ∧ ∀ b, b < j → sumP ps i b = ent M i b * prodP ps)
          ⟨_, _, _, _, _, rfl, sT, fun b hb => absurd hb (by omega)⟩ (fun j σ H' hj hP => ?_) (fun σ H' hP => ?_) (fun j x σ Hb Ha hj hP hy => ?_) (fun σ H' hP => ?_)
        · obtain ⟨_, _, _, _, _, _, s4, _⟩ := hP
          exact ⟨_, _, qrb _ s4, List.getElem?_eq_getElem (by rw [List.length_map]; omega)⟩
        · obtain ⟨_, _, _, _, _, _, s4, _⟩ := hP
          exact ⟨_, qrb _ s4, by rw [List.length_map]; omega⟩
        · obtain ⟨x3, x4, x7, x8, x9, rfl, s4, hB⟩ := hP
          obtain ⟨T3, y, rfl, nT3, rfl, hu⟩ := hy
          have ey2 := hu _ (qrb _ s4)
          have hj' : j < r.length := by omega
          rw [List.getElem?_map, List.getElem?_eq_getElem hj'] at ey2
          cases ey2
          have sT3 := s4.trans (same_new (o := .tup [V.int (j : Nat), .int r[j]]) nT3)
          refine ⟨T3, _, rfl, .inl (.inl upd_same), rfl, _, _, rfl, _, _, rfl, rfl, ?_⟩
          generalize upd Hb T3 (.tup [V.int (j : Nat), .int r[j]]) = H5 at sT3
          have eE : ent M i j = r[j] := by
            unfold ent
            rw [eM, List.getD_eq_getElem?_getD, List.getElem?_eq_getElem hj']
            rfl
          refine r_if (r_tt (r_op (cb1 (tlc_call ⟨_, rfl, t, a, vs, rfl, qv _ sT3, ?_⟩))))
          refine lc_el (p := none) ps.length (fun k v => ∃ p, ps[k]? = some p ∧ v = .int (termP (prodP ps) i j p)) has_none (by omega) (fun k H6 hk s6 => its_go (qv _ (sT3.trans s6.same)) (List.getElem?_eq_getElem (by omega))) (fun H6 s6 => its_stop (qv _ (sT3.trans s6.same)) (by omega)) (fun k x H6 H7 C' hk s6 _ hy hC => ?_) fun Da H6 rs nDa s6 hDa hrl hrE => ?_
          · obtain ⟨rfl, ex⟩ := its_yld hy (qv _ (sT3.trans s6.same))
            obtain ⟨c, p, rv, ep, rfl, hc, hrv⟩ := hv k x ex
            have S6 := sT3.trans s6.same
            have op := hO p (List.mem_of_getElem? ep)
            obtain ⟨t2, ar, wv, rfl, qx, px⟩ := hrv.at K
            have ew := pyVs_ints px
            subst ew
            refine ⟨c, _, rfl, .inl (.inl (S6 _ _ hc)), rfl, _, _, rfl, _, _, rfl, rfl, rfl, ?_⟩
            have w1 : ∀ k, k < n → (p.2.getD k 0).natAbs < 2 ^ 2000 := fun k hk => rb_get op.2.2.2 (by omega)
            refine r_op (r_op (r_op ⟨_, rfl, _, rfl, t2, ar, _, _, _, rfl, rfl, qx _ S6, ixL (by omega), ?_⟩))
            refine ⟨_, rfl, _, rfl, t2, ar, _, _, _, rfl, rfl, qx _ S6, ixL (by omega), _, _, rfl, rfl, Wd.mulW ⟨2000, by decide, w1 i hi⟩ ⟨2000, by decide, w1 j hj⟩, ?_⟩
            refine ⟨_, rfl, _, rfl, _, _, rfl, rfl, ⟨by omega, Nat.lt_trans (log_of op.2.1 op.2.2.1) (by decide)⟩, _, _, rfl, rfl, Wd.mulW ⟨_, by decide, Wd.abs_mul (w1 i hi) (w1 j hj)⟩ ⟨_, by decide, div_bits wW op.2.1⟩, ?_⟩
            exact hC _ _ (RX.refl _) ⟨p, ep, rfl⟩
          · have er2 : rs = (ps.map (termP (prodP ps) i j)).map V.int := by
              rw [List.map_map]
              exact map_of_get (n := 0) _ hrl hrE
            subst er2
            have S6 := sT3.trans s6.same
            refine ⟨Da, _, rfl, SqL.of hDa, r_op ⟨_, rfl, _, rfl, _, _, rfl, rfl, Wd.mulW (sr _ (List.getElem_mem hj')).w ⟨_, by decide, wW⟩, rfl, _, rfl, ?_⟩⟩
            by_cases hz : sumP ps i j = ent M i j * prodP ps
            · refine ifF ?_ ?_
              · rw [show (ps.map (termP (prodP ps) i j)).sum = r[j] * prodP ps by rw [← eE]; exact hz]
                simp
              · refine ⟨_, _, _, _, _, rfl, S6, fun b hb => ?_⟩
                by_cases hbj : b = j
                · subst hbj; exact hz
                · exact hB b (by omega)
            · refine ifT ?_ ?_
              · rw [decide_eq_false (fun e => hz (by rw [eE]; exact V.int.inj e))]
                rfl
              · have e : addsB n M ps = false := decide_eq_false fun k => hz (k i hi j hj)
                have := q _ S6
                rw [e] at this
                exact this
        · obtain ⟨x3, x4, x7, x8, x9, rfl, s4, hB⟩ := hP
          refine ⟨_, _, _, _, _, _, _, rfl, s4, fun a ha b hb => ?_⟩
          by_cases hai : a = i
          · subst hai; exact hB b hb
          · exact hA a (by omega) b hb
      · obtain ⟨x3, x4, x5, x6, x7, x8, x9, rfl, s2, hA⟩ := hP
        refine r_next (r_nret (r_k ?_))
        have e : addsB n M ps = true := decide_eq_true hA
        have := q H' s2
        rw [e] at this
        exact this
end
end T24
set_option Elab.async false
set_option linter.all false
set_option maxRecDepth 100000
set_option maxHeartbeats 4000000
namespace T24
open PySem PySem.Spec PyProof.Rows L2 Gd Zn Rp Dn Tb Gn En Zs Ct Op Oc Rg Rt Ro Oa
def pairOf : PyData → Int × List Int
  | .tuple [.int b, r] => (b, intsD (items r))
  | _ => (0, [])
def toP (ds : List PyData) : List (Int × List Int) := ds.map pairOf
def allAt (n : Nat) (ds : List PyData) : Bool := (List.range ds.length).all fun k => sqAtB n k (ds.getD k .none)
def sqB (n : Nat) (M : List (List Int)) (d : PyData) : Bool := isSeq d && decide ((items d).length = n) && allAt n (items d) && addsB n M (toP (items d))
theorem sqAt_good {n k : Nat} {d : PyData} (h : sqAtB n k d = true) : GoodD d (pairOf d) ∧ 1 ≤ (pairOf d).1 ∧ (pairOf d).2.length = n := by
  have : ∃ b r, d = .tuple [.int b, r] := by
    unfold sqAtB at h
    split at h
    · exact ⟨_, _, rfl⟩
    · cases h
  obtain ⟨b, r, rfl⟩ := this
  rw [sqAt_pair] at h
  simp only [Bool.and_eq_true, decide_eq_true_eq] at h
  obtain ⟨k1, k2, k3, _⟩ := row_ints h.1.2
  exact ⟨⟨r, rfl, k1, k2⟩, h.1.1, k3⟩
/-- what may be judged: nothing large in it -/
structure Fine (d : PyData) : Prop where
  l0 : (items d).length ≤ 200
  l1 : ∀ e ∈ items d, (items e).length ≤ 200
  l2 : ∀ e ∈ items d, ∀ c ∈ items e, (items c).length ≤ 200
  sm : ∀ e ∈ items d, ∀ p, GoodD e p → p.1.natAbs < 2 ^ 2000 ∧ Rb 2000 p.2
section
variable {P : Program} {w : World} {K : PySem.W.Frag} {mg : Str → Option Value} {base : Heap} {C : Addr}
abbrev st_isq : Stmt := top 23
abbrev N_isq : List Str := ["form", "value", "place", "pair"]
theorem sc_isq : FnScope N_isq ["form", "value"] (defScope st_isq) := ⟨rfl, rfl, rfl, by decide +kernel, rfl, by decide +kernel, by decide +kernel⟩
def sp_il (C : Addr) : Sp := fun vs H Q E => sp_is_list vs H Q E ∨ sp_no1 C vs H Q E
/-- what is_squares says of v -/
def IsqV (C : Addr) (H : Hp) (n : Nat) (M : List (List Int)) (v : V) (b : Bool) : Prop := (∃ d, AnyV H v d ∧ Fine d ∧ sqB n M d = b) ∨ ((∃ N, Tab C H v N) ∧ b = false)
theorem IsqV.mono {C : Addr} {H H' : Hp} {n : Nat} {M : List (List Int)} {v : V} {b : Bool} (h : IsqV C H n M v b) (s : Same H H') : IsqV C H' n M v b := by
  rcases h with ⟨d, h1, h2, h3⟩ | ⟨⟨N, t⟩, h⟩
  · exact .inl ⟨d, h1.mono s, h2, h3⟩
  · exact .inr ⟨⟨N, T24.Tab.same s t⟩, h⟩
def sp_isq (C : Addr) : Sp := fun vs H Q _ => ∃ f v M, ∃ n b : Nat, ∃ r, vs = [f, v] ∧ Fv C H f n b M ∧ b ≤ 2000 ∧ IsqV C H n M v r ∧ ∀ H', Same H H' → Q (.bl r) H'
theorem ok_isq {f : Addr} {fd : FuncData} (F : Fun K "is_squares" "is_squares" st_isq f fd) (T : Txt mg) (Fc : Fcl K mg C) (D0 : Def P w K mg base "check_form" 1 ["form"] (sp_check_form C)) (D1 : Def P w K mg base "is_list" 1 ["value"] (sp_il C)) (D2 : Def P w K mg base "is_square_at" 4 ["size", "place", "pair"] sp_isat) (D3 : Def P w K mg base "_adds_up" 1 ["rows", "told"] sp_adds)
    (D4 : Prp P w K mg base C "rows" 1 (sp_rows C)) (D5 : Prp P w K mg base C "size" 1 (sp_size C)) : FnOk P w K mg base CX0 5 f fd ["form", "value"] (sp_isq C) := by
  refine F.ok sc_isq (fun vs H Q E h => ?_) (fun cdv A outer s H vs Q E hr h => ?_)
  · obtain ⟨fv, v, M, n, b, r, rfl, _⟩ := h
    rfl
  · obtain ⟨fv, v, M, n, b, r, rfl, hf, lb, hV, q⟩ := h
    refine ⟨_, pss_cons (ps_expr (pe_def D0 hr (pa_cons (pv 0) pa_nil)))
      (pss_cons (ps_if (PW.pt (pw_or (pt_not (pt_val (pe_def D1 hr (pa_cons (pv 1) pa_nil)))) (pw_or1 (pt_cmpR op_ne (pe_callB (r := Dn.rLen K) c_len (by rfl) T.len PySem.boot_len (pa_cons (pv 1) pa_nil)) (pe_prp D5 Fc.cl hr (pv 0)) (nomark _))))) (pss_one (ps_ret pe_bl)) pss_nil)
      (pss_cons (ps_if (pt_not (pt_val (pe_callB (cr_all rfl) (by rfl) T.all boot_all (pa_cons (pe_lc (own := [("place", 2), ("pair", 3)]) (g := gTup K 2 (gCons (gName 2) (gCons (gName 3) gNil))) (tt := tYes) rfl sc_isq.nd (pi_enumS (by rfl) T.enum (pa_cons (pv 1) pa_nil))
        (blkOk_by (N := N_isq) (sc := defScope st_isq) (by decide +kernel)) (fun _ _ _ _ _ => pg_tup rfl (pgs_cons (pg_name (i := 2) sc_isq.nd rfl (Or.inl rfl) (Or.inr rfl)) (pgs_cons (pg_name (i := 3) sc_isq.nd rfl (Or.inl rfl) (Or.inr rfl)) pgs_nil))) (fun _ _ _ _ _ => pts_nil)
        (fun _ _ _ _ _ => pe_def (X := Cx.blk _ _ _ _ _ _) D2 hr (pa_cons (pe_prp (X := Cx.blk _ _ _ _ _ _) D5 Fc.cl hr (pv 0)) (pa_cons (pv 2) (pa_cons (pv 3) pa_nil))))) pa_nil)))) (pss_one (ps_ret pe_bl)) pss_nil)
      (pss_one (ps_ret (pe_def D3 hr (pa_cons (pe_prp D4 Fc.cl hr (pv 0)) (pa_cons (pv 1) pa_nil))))))), ?_⟩
    have hS := hf.bd.sq (by omega : b ≤ 20000)
    have h3 := hf.h3
    refine r_seq (a1 ⟨_, rfl, fv, M, rfl, hf.tab, ?_⟩)
    rcases hV with ⟨d, av, fi, rfl⟩ | ⟨⟨N, ht⟩, rfl⟩
    · refine r_next (r_nseq (r_if (r_or (r_not (r_b (a1 ⟨_, rfl, .inl ⟨v, d, rfl, av, fun H1 s1 => ⟨_, rfl, ?_⟩⟩⟩))))))
      by_cases hI : isSeq d = true
      · have sv := seq_of av hI
        obtain ⟨t, a, vs, rfl, qv, px⟩ := sv.at K
        have lv := pyVs_len px
        refine ifF (by rw [hI]; rfl) (r_tt (r_op (cb1 ⟨_, rfl, a, vs, rfl, sq_or (qv _ s1), r_prop ⟨_, rfl, p_size (hf.same s1).tab ⟨rfl, _, rfl, ?_⟩⟩⟩)))
        have hlen : (M.length : Int) = (n : Int) := by rw [hS.len]
        rw [hlen]
        by_cases hl : vs.length = n
        · refine ifF (by rw [hl]; simp) ?_
          refine r_next (r_nseq (r_if (r_not (r_b (cb1 (tlc_call ⟨_, rfl, t, a, vs, rfl, qv _ s1, ?_⟩))))))
          refine lc_el (p := none) vs.length (fun k v => v = .bl (sqAtB n k ((items d).getD k .none))) has_none (by omega) (fun k H6 hk s6 => ⟨_, _, qv _ (s1.trans s6.same), List.getElem?_eq_getElem hk⟩) (fun H6 s6 => ⟨_, qv _ (s1.trans s6.same), Nat.le_refl _⟩) (fun k x H6 H7 C' hk s6 _ hy hC => ?_) fun Da H6 rs nDa s6 hDa hrl hrE => ?_
          · obtain ⟨T2, y, rfl, nT, rfl, hu⟩ := hy
            have ex := hu _ (qv _ (s1.trans s6.same))
            have sT := s6.same.trans (same_new (o := .tup [V.int (k : Nat), y]) nT)
            refine ⟨T2, _, rfl, .inl (.inl upd_same), rfl, _, _, rfl, _, _, rfl, rfl, rfl, ?_⟩
            have sN := same_new (o := .tup [V.int (k : Nat), y]) nT
            generalize upd H6 T2 (.tup [V.int (k : Nat), y]) = H7 at sT sN
            have ed : (items d)[k]? = some ((items d)[k]'(by omega)) := List.getElem?_eq_getElem _
            have md := List.mem_of_getElem? ed
            have eg : (items d).getD k .none = (items d)[k]'(by omega) := by rw [List.getD_eq_getElem?_getD, ed]; rfl
            have py := pyVs_at px ex ed
            rw [eg] at hC
            refine a3 (r_prop ⟨_, rfl, p_size (hf.same (s1.trans sT)).tab ⟨_, rfl, _, rfl, y, _, n, k, ?_, py.mono (s1.trans sT), by omega, fi.l1 _ md, fi.l2 _ md, fun H8 s8 => hC _ _ (RX.of (sN.trans s8)) rfl⟩⟩)
            rw [hlen]
          · have er : rs = ((List.range (items d).length).map fun k => sqAtB n k ((items d).getD k .none)).map V.bl := by
              rw [List.map_map]
              exact map_of_get (n := 0) _ (by rw [hrl, List.length_range, lv]) fun j v e => by
                have hj : j < rs.length := (List.getElem?_eq_some_iff.mp e).1
                exact ⟨j, List.getElem?_range (by omega), hrE j v e⟩
            subst er
            have S6 := s1.trans s6.same
            refine ⟨Da, _, rfl, SqL.of hDa, _, rfl, ?_⟩
            rw [List.all_map]
            by_cases hA : allAt n (items d) = true
            · refine ifF (by show (!allAt n (items d)) = false; rw [hA]; rfl) ?_
              have gd : ∀ k, (hk : k < (items d).length) → GoodD (items d)[k] (pairOf (items d)[k]) ∧ 1 ≤ (pairOf (items d)[k]).1 ∧ (pairOf (items d)[k]).2.length = n := fun k hk => by
                have := List.all_eq_true.mp hA k (List.mem_range.mpr hk)
                rw [List.getD_eq_getElem?_getD, List.getElem?_eq_getElem hk] at this
                exact sqAt_good this
              refine r_next (r_nret (a2 (r_prop ⟨_, rfl, p_rows (hf.same S6).tab fun rr mr => ⟨_, rfl, rr, _, M, n, toP (items d), rfl, mr, hS, h3, ⟨items d, SeqV.mono S6 sv, by unfold toP; rw [List.length_map], fun i e p e1 e2 => ?_⟩, by unfold toP; rw [List.length_map]; omega, fun p hp => ?_, fun H7 s7 => ?_⟩⟩)))
              · have hi := (List.getElem?_eq_some_iff.mp e1).1
                have := gd i hi
                rw [List.getElem?_eq_getElem hi] at e1
                cases e1
                unfold toP at e2
                rw [List.getElem?_map, List.getElem?_eq_getElem hi] at e2
                cases e2
                exact this.1
              · unfold toP at hp
                obtain ⟨e, me, rfl⟩ := List.mem_map.mp hp
                obtain ⟨i, hi, rfl⟩ := List.getElem_of_mem me
                obtain ⟨g1, g2, g3⟩ := gd i hi
                have := fi.sm _ me _ g1
                exact ⟨g3, g2, this.1, this.2⟩
              · have e : sqB n M d = addsB n M (toP (items d)) := by
                  unfold sqB
                  rw [hI, decide_eq_true (by omega : (items d).length = n), hA]
                  rfl
                rw [← e]
                exact q _ (S6.trans s7)
            · refine ifT (by show (!allAt n (items d)) = true; rw [Bool.eq_false_iff.mpr hA]; rfl) (r_ret (r_k ?_))
              have : sqB n M d = false := by
                unfold sqB
                rw [Bool.eq_false_iff.mpr hA, Bool.and_false]
                rfl
              rw [← this]
              exact q _ S6
        · refine ifT (by simp; omega) (r_ret (r_k ?_))
          have : sqB n M d = false := by
            unfold sqB
            rw [decide_eq_false (by omega : ¬ (items d).length = n), Bool.and_false]
            rfl
          rw [← this]
          exact q _ s1
      · refine ifT (by rw [Bool.eq_false_iff.mpr hI]; rfl) (r_ret (r_k ?_))
        have : sqB n M d = false := by
          unfold sqB
          rw [Bool.eq_false_iff.mpr hI]
          rfl
        rw [← this]
        exact q _ s1
    · exact r_next (r_nseq (r_if (r_or (r_not (r_b (a1 ⟨_, rfl, .inr ⟨v, N, rfl, ht, fun H1 s1 => ⟨_, rfl, ifT rfl (r_ret (r_k (q _ s1)))⟩⟩⟩))))))
end
end T24
set_option Elab.async false
set_option linter.all false
set_option maxRecDepth 100000
set_option maxHeartbeats 4000000
namespace T24
open PySem PySem.Spec PyProof.Rows L2 Gd Zn Rp Dn Tb Gn En Zs Ct Op Oc Rg Rt Ro Oa
def HeadOk (k : Nat) (p : Int × List Int) : Prop := 1 ≤ p.1 ∧ p.2.getD k 0 ≠ 0 ∧ ∀ j, j < k → p.2.getD j 0 = 0
instance (k : Nat) (p : Int × List Int) : Decidable (HeadOk k p) := inferInstanceAs (Decidable (_ ∧ _ ∧ _))
def headsB (ps : List (Int × List Int)) : Bool := decide (∀ k, k < ps.length → HeadOk k (ps.getD k (0, [])))
def fitsB (n : Nat) (M : List (List Int)) (ps : List (Int × List Int)) : Bool := headsB ps && addsB n M ps
def OkQ (n : Nat) (ps : List (Int × List Int)) : Prop := ∀ p ∈ ps, p.2.length = n ∧ p.1.natAbs < 2 ^ 2000 ∧ Rb 2000 p.2
theorem okp_of {n : Nat} {ps : List (Int × List Int)} (h : OkQ n ps) (k : ∀ k, k < ps.length → HeadOk k (ps.getD k (0, []))) : OkP n ps := fun p hp => by
  obtain ⟨a, b, c⟩ := h p hp
  obtain ⟨i, hi, rfl⟩ := List.getElem_of_mem hp
  have := k i hi
  rw [List.getD_eq_getElem?_getD, List.getElem?_eq_getElem hi] at this
  exact ⟨a, this.1, b, c⟩
theorem prod_bitsQ {n : Nat} {ps : List (Int × List Int)} (h : OkQ n ps) : ∀ i, i ≤ ps.length → (prodP (ps.take i)).natAbs < 2 ^ (2000 * i + 1) := fun i => by
  induction i with
  | zero => intro _; show (1 : Int).natAbs < 2 ^ 1; decide
  | succ i ih =>
    intro hi
    rw [prod_take (by omega)]
    exact Wd.abs_mono (Wd.abs_mul (ih (by omega)) (h _ (List.getElem_mem (by omega : i < ps.length))).2.1) (by omega)
section
variable {P : Program} {w : World} {K : PySem.W.Frag} {mg : Str → Option Value} {base : Heap} {C : Addr}
abbrev st_fits : Stmt := top 30
abbrev N_fits : List Str := ["_law_rows", "_law_value", "_law_size", "_law_whole", "_law_place", "_law_bottom", "_law_row", "_law_near", "_law_far", "_law_at"]
theorem sc_fits : FnScope N_fits ["_law_rows", "_law_value"] (defScope st_fits) := ⟨rfl, rfl, rfl, by decide +kernel, rfl, by decide +kernel, by decide +kernel⟩
def sp_fits : Sp := fun vs H Q _ => ∃ (rv v : V) (M : List (List Int)) (n : Nat) (ps : List (Int × List Int)), vs = [rv, v] ∧ PyV H rv (lmD M) ∧ Sq n M ∧ n ≤ 3 ∧ Tol H v ps ∧ ps.length ≤ n ∧ OkQ n ps ∧ ∀ H', Same H H' → Q (.bl (fitsB n M ps)) H'
theorem ok_fits {f : Addr} {fd : FuncData} (F : Fun K "_law_fits" "_law_fits" st_fits f fd) (T : Txt mg) (hany : mg "any" = none) : FnOk P w K mg base CX0 1 f fd ["_law_rows", "_law_value"] sp_fits := by
  refine F.ok sc_fits (fun vs H Q E h => ?_) (fun cdv A outer s H vs Q E hr h => ?_)
  · obtain ⟨rv, v, M, n, ps, rfl, _⟩ := h
    rfl
  · obtain ⟨rv, v, M, n, ps, rfl, hM, hS, h3, hT, l3, hO, q⟩ := h
    refine ⟨_, pss_cons (ps_asg (pe_tup (pa_cons (pe_callB (r := Dn.rLen K) c_len (by rfl) T.len PySem.boot_len (pa_cons (pv 0) pa_nil)) (pa_cons pe_int pa_nil))) (pg_tup rfl (pgs_cons (pg_name (i := 2) sc_fits.nd rfl (Or.inl rfl)) (pgs_cons (pg_name (i := 3) sc_fits.nd rfl (Or.inr rfl)) pgs_nil))))
      (pss_cons (ps_for PassesOwn.never rfl (pi_enumS (by rfl) T.enum (pa_cons (pv 1) pa_nil)) (pg_tup rfl (pgs_cons (pg_name (i := 4) sc_fits.nd rfl (Or.inl rfl)) (pgs_cons (pg_tup rfl (pgs_cons (pg_name (i := 5) sc_fits.nd rfl (Or.inl rfl)) (pgs_cons (pg_name (i := 6) sc_fits.nd rfl (Or.inr rfl)) pgs_nil))) pgs_nil)))
        (pss_cons (ps_if (PW.pt (pw_or (pt_cmpR op_lt (pv 5) pe_int (nomark _)) (pw_or (pt_cmpR op_eq (pe_ix (r := rIxS2 K) ix_sq (pv 6) (pv 4) (fun _ _ => rfl)) pe_int (nomark _)) (pw_or1 (pt_val (pe_callB (cr_any rfl) (by rfl) hany boot_any (pa_cons (pe_lc (own := [("_law_at", 9)]) (g := gName 9) (tt := tYes) rfl sc_fits.nd (pi_range1 (by rfl) T.range (pa_cons (pv 4) pa_nil))
            (blkOk_by (N := N_fits) (sc := defScope st_fits) (by decide +kernel)) (fun _ _ _ _ _ => pg_name (i := 9) sc_fits.nd rfl (Or.inl rfl) (Or.inr rfl)) (fun _ _ _ _ _ => pts_nil)
            (fun _ _ _ _ _ => pe_cmpR op_ne (pe_ix (r := rIxS2 K) ix_sq (pv 6) (pv 9) (fun _ _ => rfl)) pe_int (nomark _))) pa_nil))))))) (pss_one (ps_ret pe_bl)) pss_nil)
        (pss_one (ps_set (i := 3) sc_fits.nd rfl (Or.inr rfl) (pe_op op_mulX (pv 3) (pv 5))))))
      (pss_cons (ps_for PassesOwn.never rfl (pi_range1 (by rfl) T.range (pa_cons (pv 2) pa_nil)) (pg_name (i := 7) sc_fits.nd rfl (Or.inr rfl))
        (pss_one (ps_for PassesOwn.never rfl (pi_range1 (by rfl) T.range (pa_cons (pv 2) pa_nil)) (pg_name (i := 8) sc_fits.nd rfl (Or.inr rfl))
          (pss_one (ps_if (pt_cmpR op_ne (pe_callB (r := rSum K) (cr_sum rfl) (by rfl) T.sum boot_sum (pa_cons (pe_lc (own := [("_law_bottom", 5), ("_law_row", 6)]) (g := gTup K 2 (gCons (gName 5) (gCons (gName 6) gNil))) (tt := tYes) rfl sc_fits.nd (pi_seq (pv 1))
            (blkOk_by (N := N_fits) (sc := defScope st_fits) (by decide +kernel)) (fun _ _ _ _ _ => pg_tup rfl (pgs_cons (pg_name (i := 5) sc_fits.nd rfl (Or.inl rfl) (Or.inr rfl)) (pgs_cons (pg_name (i := 6) sc_fits.nd rfl (Or.inl rfl) (Or.inr rfl)) pgs_nil))) (fun _ _ _ _ _ => pts_nil)
            (fun _ _ _ _ _ => pe_op op_mulX (pe_op op_mulX (pe_ix (r := rIxS2 K) ix_sq (pv 6) (pv 7) (fun _ _ => rfl)) (pe_ix (r := rIxS2 K) ix_sq (pv 6) (pv 8) (fun _ _ => rfl))) (pe_op op_fdivW (pv 3) (pv 5)))) pa_nil)) (pe_op op_mulX (pv 3) (pe_ix (r := rIxS2 K) ix_sq (pe_ix (r := rIxS2 K) ix_sq (pv 0) (pv 7) (fun _ _ => rfl)) (pv 8) (fun _ _ => rfl))) (nomark _)) (pss_one (ps_ret pe_bl)) pss_nil)))))
      (pss_one (ps_ret pe_bl)))), ?_⟩
    obtain ⟨t, a, vs, rfl, qv, lv, hv⟩ := tol_at K hT
    obtain ⟨ra, rs, rfl, hra, hrl, hre⟩ := lm_at hM
    have rl : rs.length = n := by rw [hrl, hS.len]
    refine r_seq (r_asg (r_tup (r_cons (cb1 ⟨_, rfl, ra, _, rfl, .inl (.inl (.inl hra)), (by show 2 ≤ sizeLine; decide), fun t0 nt0 => ⟨t0, _, rfl, .inl (.inl upd_same), rfl, _, _, rfl, _, _, rfl, rfl, ?_⟩⟩))))
    rw [List.length_map, rl]
    generalize hH0 : upd H t0 _ = H0
    have s0 : Same H H0 := by rw [← hH0]; exact same_new nt0
    clear hH0
    refine r_next (r_nseq ⟨_, rfl, t, a, vs, rfl, qv _ s0, ?_⟩)
    refine for_by ps.length (fun i σ H' => ∃ x4 x5 x6 x7 x8 x9, σ = [some (.ref ra), some (.ref a), some (.int (n : Int)), some (.int (prodP (ps.take i))), x4, x5, x6, x7, x8, x9] ∧ Same H H' ∧ ∀ k, k < i → HeadOk k (ps.getD k (0, [])))
      ⟨_, _, _, _, _, _, rfl, s0, fun k hk => absurd hk (by omega)⟩ (fun i σ H' hi hP => ?_) (fun σ H' hP => ?_) (fun i x σ Hb Ha hi hP hy => ?_) (fun σ H' hP => ?_)
    · obtain ⟨_, _, _, _, _, _, _, s1, _⟩ := hP
      exact ⟨_, _, qv _ s1, List.getElem?_eq_getElem (by omega)⟩
    · obtain ⟨_, _, _, _, _, _, _, s1, _⟩ := hP
      exact ⟨_, qv _ s1, by omega⟩
    · obtain ⟨x4, x5, x6, x7, x8, x9, rfl, s1, hA⟩ := hP
      obtain ⟨T2, y, rfl, nT, rfl, hu⟩ := hy
      have ex := hu _ (qv _ s1)
      obtain ⟨c, p, rv, ep, rfl, hc, hrv⟩ := hv i y ex
      have sT := s1.trans (same_new (o := .tup [V.int (i : Nat), .ref c]) nT)
      have hc2 := sT _ _ hc
      refine ⟨T2, _, rfl, .inl (.inl upd_same), rfl, _, _, rfl, _, _, rfl, c, _, rfl, .inl (.inl hc2), rfl, _, _, rfl, _, _, rfl, rfl, rfl, ?_⟩
      generalize upd Hb T2 (.tup [V.int (i : Nat), .ref c]) = H2 at sT hc2
      have ei : ps[i]'hi = p := by rw [List.getElem?_eq_getElem hi] at ep; exact Option.some.inj ep
      have eg : ps.getD i (0, []) = p := by rw [List.getD_eq_getElem?_getD, ep]; rfl
      have mp : p ∈ ps := by rw [← ei]; exact List.getElem_mem hi
      obtain ⟨o1, o2, o3⟩ := hO p mp
      have bad : ¬ HeadOk i p → fitsB n M ps = false := fun k => by
        unfold fitsB headsB
        rw [decide_eq_false (fun z => k (by have := z i hi; rwa [eg] at this)), Bool.false_and]
      obtain ⟨t2, ar, wv, rfl, qx, px⟩ := hrv.at K
      have ew := pyVs_ints px
      subst ew
      refine r_seq (r_if (r_or (r_tt (r_op ⟨_, rfl, _, _, rfl, rfl, _, rfl, ?_⟩))))
      by_cases hb1 : p.1 < 1
      · refine ifT (decide_eq_true hb1) (ifT rfl (r_ret (r_k ?_)))
        have := q _ sT
        rw [bad fun k => by have := k.1; omega] at this
        exact this
      refine ifF (decide_eq_false hb1) (r_or (r_tt (r_op (r_op ⟨_, rfl, _, rfl, t2, ar, _, _, _, rfl, rfl, qx _ sT, ixL (by omega), rfl, _, rfl, ?_⟩))))
      by_cases hz : p.2.getD i 0 = 0
      · refine ifT (decide_eq_true (congrArg V.int hz)) (ifT rfl (r_ret (r_k ?_)))
        have := q _ sT
        rw [bad fun k => k.2.1 hz] at this
        exact this
      refine ifF (decide_eq_false fun e => hz (V.int.inj e)) (r_b (cb1 (tlc_call ⟨_, rfl, (i : Int), rfl, by omega, by omega, ?_⟩)))
      rw [Int.toNat_natCast]
      refine lc_el (p := none) i (fun j v => v = .bl (!decide (p.2.getD j 0 = 0))) has_none (by omega) (fun j H4 hj s4 => hj) (fun H4 s4 => Nat.le_refl _) (fun j x H4 H5 C' hj s4 _ hy hC => ?_) fun Da H4 bs nDa s4 hDa hbl hbE => ?_
      · obtain ⟨rfl, rfl⟩ := hy
        rw [show (0 : Int) + (j : Int) = (j : Int) by omega]
        refine ⟨rfl, r_op (r_op ⟨_, rfl, _, rfl, t2, ar, _, _, _, rfl, rfl, qx _ (sT.trans s4.same), ixL (by omega), rfl, hC _ _ (RX.refl _) ?_⟩)⟩
        refine congrArg (fun b => V.bl (!b)) (decide_eq_decide.mpr ⟨fun e => V.int.inj e, fun e => congrArg V.int e⟩)
      · have er : bs = ((List.range i).map fun j => !decide (p.2.getD j 0 = 0)).map V.bl := by
          rw [List.map_map]
          exact map_of_get (n := 0) _ (by rw [hbl, List.length_range]) fun j v e => by
            have hj : j < bs.length := (List.getElem?_eq_some_iff.mp e).1
            exact ⟨j, List.getElem?_range (by omega), hbE j v e⟩
        subst er
        have S4 := sT.trans s4.same
        refine ⟨Da, _, rfl, SqL.of hDa, _, rfl, ?_⟩
        by_cases hh : ∀ j, j < i → p.2.getD j 0 = 0
        · have e0 : ((List.range i).map fun j => !decide (p.2.getD j 0 = 0)).any id = false := by
            rw [List.any_map]
            exact List.any_eq_false.mpr fun j hj => by
              show ¬ ((!decide (p.2.getD j 0 = 0)) = true)
              rw [decide_eq_true (hh j (List.mem_range.mp hj))]
              exact Bool.false_ne_true
          refine ifF e0 ?_
          have ho : HeadOk i p := ⟨by omega, hz, hh⟩
          refine r_next (n_asg (r_op ⟨_, rfl, _, rfl, _, _, rfl, rfl, Wd.mulW ⟨_, by omega, prod_bitsQ hO i (by omega)⟩ ⟨2000, by decide, o2⟩, ?_⟩))
          refine ⟨some (.int (i : Nat)), some (.int p.1), some (.ref ar), x7, x8, x9, ?_, S4, fun k hk => ?_⟩
          · rw [prod_take hi, ei]
            rfl
          · by_cases hki : k = i
            · rw [hki, eg]; exact ho
            · exact hA k (by omega)
        · have e0 : ((List.range i).map fun j => !decide (p.2.getD j 0 = 0)).any id = true := by
            rw [List.any_map]
            obtain ⟨j, hj⟩ := Classical.not_forall.mp hh
            obtain ⟨hj1, hj2⟩ := Classical.not_imp.mp hj
            exact List.any_eq_true.mpr ⟨j, List.mem_range.mpr hj1, by
              show (!decide (p.2.getD j 0 = 0)) = true
              rw [decide_eq_false hj2]
              rfl⟩
          refine ifT e0 (r_ret (r_k ?_))
          have := q _ S4
          rw [bad fun k => hh k.2.2] at this
          exact this
    · obtain ⟨x4, x5, x6, x7, x8, x9, rfl, s1, hA⟩ := hP
      rw [List.take_length]
      have wW : (prodP ps).natAbs < 2 ^ (2000 * 3 + 1) := by
        have := prod_bitsQ hO ps.length (Nat.le_refl _)
        rw [List.take_length] at this
        exact Wd.abs_mono this (by omega)
      have hP' := okp_of hO hA
      have fe : fitsB n M ps = addsB n M ps := by
        unfold fitsB headsB
        rw [decide_eq_true hA, Bool.true_and]
      refine r_next (r_nseq ⟨_, rfl, (n : Int), rfl, by omega, by omega, ?_⟩)
      rw [Int.toNat_natCast]
      refine for_range (lo := 0) (n := n) (fun i σ H' => ∃ x4 x5 x6 x7 x8 x9, σ = [some (.ref ra), some (.ref a), some (.int (n : Int)), some (.int (prodP ps)), x4, x5, x6, x7, x8, x9] ∧ Same H H' ∧ ∀ a, a < i → ∀ b, b < n → sumP ps a b = ent M a b * prodP ps)
        ⟨_, _, _, _, _, _, rfl, s1, fun a ha => absurd ha (by omega)⟩ (fun i σ H' hi hP => ?_) (fun σ H' hP => ?_)
      · obtain ⟨x4, x5, x6, x7, x8, x9, rfl, s2, hA2⟩ := hP
        rw [show (0 : Int) + (i : Int) = (i : Int) by omega]
        refine ⟨_, rfl, (n : Int), rfl, by omega, by omega, ?_⟩
        rw [Int.toNat_natCast]
        refine for_range (lo := 0) (n := n) (fun j σ H' => ∃ x4 x5 x6 x8 x9, σ = [some (.ref ra), some (.ref a), some (.int (n : Int)), some (.int (prodP ps)), x4, x5, x6, some (.int (i : Nat)), x8, x9] ∧ Same H H' ∧ ∀ b, b < j → sumP ps i b = ent M i b * prodP ps)
          ⟨_, _, _, _, _, rfl, s2, fun b hb => absurd hb (by omega)⟩ (fun j σ H' hj hP => ?_) (fun σ H' hP => ?_)
        · obtain ⟨x4, x5, x6, x8, x9, rfl, s4, hB⟩ := hP
          rw [show (0 : Int) + (j : Int) = (j : Int) by omega]
          refine r_if (r_tt (r_op (cb1 (tlc_call ⟨_, rfl, t, a, vs, rfl, qv _ s4, ?_⟩))))
          refine lc_el (p := none) ps.length (fun k v => ∃ p, ps[k]? = some p ∧ v = .int (termP (prodP ps) i j p)) has_none (by omega) (fun k H6 hk s6 => its_go (qv _ (s4.trans s6.same)) (List.getElem?_eq_getElem (by omega))) (fun H6 s6 => its_stop (qv _ (s4.trans s6.same)) (by omega)) (fun k x H6 H7 C' hk s6 _ hy hC => ?_) fun Da H6 rs2 nDa s6 hDa hrl2 hrE => ?_
          · obtain ⟨rfl, ex⟩ := its_yld hy (qv _ (s4.trans s6.same))
            obtain ⟨c, p, rv, ep, rfl, hc, hrv⟩ := hv k x ex
            have S6 := s4.trans s6.same
            have op := hP' p (List.mem_of_getElem? ep)
            obtain ⟨t2, ar, wv, rfl, qx, px⟩ := hrv.at K
            have ew := pyVs_ints px
            subst ew
            refine ⟨c, _, rfl, .inl (.inl (S6 _ _ hc)), rfl, _, _, rfl, _, _, rfl, rfl, rfl, ?_⟩
            have w1 : ∀ k, k < n → (p.2.getD k 0).natAbs < 2 ^ 2000 := fun k hk => rb_get op.2.2.2 (by omega)
            refine r_op (r_op (r_op ⟨_, rfl, _, rfl, t2, ar, _, _, _, rfl, rfl, qx _ S6, ixL (by omega), ?_⟩))
            refine ⟨_, rfl, _, rfl, t2, ar, _, _, _, rfl, rfl, qx _ S6, ixL (by omega), _, _, rfl, rfl, Wd.mulW ⟨2000, by decide, w1 i hi⟩ ⟨2000, by decide, w1 j hj⟩, ?_⟩
            refine ⟨_, rfl, _, rfl, _, _, rfl, rfl, ⟨by omega, Nat.lt_trans (log_of op.2.1 op.2.2.1) (by decide)⟩, _, _, rfl, rfl, Wd.mulW ⟨_, by decide, Wd.abs_mul (w1 i hi) (w1 j hj)⟩ ⟨_, by decide, div_bits wW op.2.1⟩, ?_⟩
            exact hC _ _ (RX.refl _) ⟨p, ep, rfl⟩
          · have er2 : rs2 = (ps.map (termP (prodP ps) i j)).map V.int := by
              rw [List.map_map]
              exact map_of_get (n := 0) _ hrl2 hrE
            subst er2
            have S6 := s4.trans s6.same
            have rk : rs[i]? = some (rs[i]'(by omega)) := List.getElem?_eq_getElem _
            have lr : (M.getD i []).length = n := getD_row hS.sh hi
            have sr := hS.small _ (getD_mem (M := M) (i := i) (by rw [hS.len]; exact hi))
            have ge : (M.getD i []).getD j 0 = (M.getD i [])[j]'(by omega) := by rw [List.getD_eq_getElem?_getD, List.getElem?_eq_getElem (by omega : j < (M.getD i []).length)]; rfl
            have wr : Wd.Wid ((M.getD i []).getD j 0) := by rw [ge]; exact (sr _ (List.getElem_mem _)).w
            refine ⟨Da, _, rfl, SqL.of hDa, r_op ⟨_, rfl, r_op (r_op ⟨_, rfl, _, rfl, false, ra, _, _, _, rfl, rfl, .inl (.inl (S6 _ _ hra)), ixR rk, _, rfl, false, _, _, _, _, rfl, rfl, .inl (.inl (S6 _ _ (hre i _ rk))), ixL (by omega), _, _, rfl, rfl, Wd.mulW ⟨_, by decide, wW⟩ wr, rfl, _, rfl, ?_⟩)⟩⟩
            by_cases hz : sumP ps i j = ent M i j * prodP ps
            · refine ifF ?_ ?_
              · rw [show (ps.map (termP (prodP ps) i j)).sum = prodP ps * (M.getD i []).getD j 0 by rw [Int.mul_comm]; exact hz]
                simp
              · refine ⟨_, _, _, _, _, rfl, S6, fun b hb => ?_⟩
                by_cases hbj : b = j
                · subst hbj; exact hz
                · exact hB b (by omega)
            · refine ifT ?_ ?_
              · rw [decide_eq_false (fun e => hz (by rw [Int.mul_comm]; exact V.int.inj e))]
                rfl
              · have e : addsB n M ps = false := decide_eq_false fun k => hz (k i hi j hj)
                have := q _ S6
                rw [fe, e] at this
                exact this
        · obtain ⟨x4, x5, x6, x8, x9, rfl, s4, hB⟩ := hP
          refine ⟨_, _, _, _, _, _, rfl, s4, fun a ha b hb => ?_⟩
          by_cases hai : a = i
          · subst hai; exact hB b hb
          · exact hA2 a (by omega) b hb
      · obtain ⟨x4, x5, x6, x7, x8, x9, rfl, s2, hA2⟩ := hP
        refine r_next (r_nret (r_k ?_))
        have e : addsB n M ps = true := decide_eq_true hA2
        have := q H' s2
        rw [fe, e] at this
        exact this
end
end T24
set_option Elab.async false
set_option linter.all false
set_option maxRecDepth 100000
set_option maxHeartbeats 4000000
namespace T24
open PySem PySem.Spec PyProof.Rows L2 Gd Zn Rp Dn Tb Gn En Zs Ct Op Oc Rg Rt Ro Oa
def valM (p : Nat) (L : List (List Int)) (a b : Nat) : Int := ent L p p * ent L a b - ent L a p * ent L p b
def rstM (n p : Nat) (L : List (List Int)) : List (List Int) := (List.range n).map fun a => (List.range n).map fun b => if p < a ∧ p < b then valM p L a b else 0
def leftM (n : Nat) (M : List (List Int)) : Nat → List (List Int)
  | 0 => M
  | p + 1 => rstM n p (leftM n M p)
def hdM (n : Nat) (M : List (List Int)) (p : Nat) : Int := ent (leftM n M p) p p
def belM (n : Nat) (M : List (List Int)) : Nat → Int
  | 0 => 1
  | p + 1 => belM n M p * hdM n M p
def ownP (n : Nat) (M : List (List Int)) (p : Nat) : Int × List Int := (belM n M p * hdM n M p, List.replicate p 0 ++ ((leftM n M p).getD p []).drop p)
theorem rest_ent {n p a b : Nat} {L : List (List Int)} (ha : a < n) (hb : b < n) : ent (rstM n p L) a b = if p < a ∧ p < b then valM p L a b else 0 := by
  unfold ent rstM
  rw [List.getD_eq_getElem?_getD, List.getD_eq_getElem?_getD, List.getElem?_map, List.getElem?_range ha]
  show (((List.range n).map fun b => if p < a ∧ p < b then valM p L a b else 0)[b]?).getD 0 = _
  rw [List.getElem?_map, List.getElem?_range hb]
  rfl
theorem ent_mem {n a b : Nat} {L : List (List Int)} (h : Sh n L) (ha : a < n) (hb : b < n) : ∃ r ∈ L, ent L a b ∈ r := by
  have hr := getD_mem (M := L) (i := a) (by rw [h.len]; exact ha)
  have lr := h.row _ hr
  refine ⟨_, hr, ?_⟩
  unfold ent
  rw [List.getD_eq_getElem?_getD (l := L.getD a []), List.getElem?_eq_getElem (by omega : b < (L.getD a []).length)]
  exact List.getElem_mem _
theorem ent_bits {n k a b : Nat} {L : List (List Int)} (h : SqE n k L) (ha : a < n) (hb : b < n) : (ent L a b).natAbs < 2 ^ k := by
  obtain ⟨r, hr, hx⟩ := ent_mem h.sh ha hb
  exact h.bd r hr _ hx
theorem val_bits {n k p a b : Nat} {L : List (List Int)} (h : SqE n k L) (hp : p < n) (ha : a < n) (hb : b < n) : (valM p L a b).natAbs < 2 ^ (k + k + 1) := by
  have s : ∀ {x y : Int}, x.natAbs < 2 ^ (k + k) → y.natAbs < 2 ^ (k + k) → (x - y).natAbs < 2 ^ (k + k + 1) := fun hx hy => by
    rw [Nat.pow_succ]; omega
  exact s (Wd.abs_mul (ent_bits h hp hp) (ent_bits h ha hb)) (Wd.abs_mul (ent_bits h ha hp) (ent_bits h hp hb))
theorem rest_sqe {n k p : Nat} {L : List (List Int)} (h : SqE n k L) (hp : p < n) : SqE n (k + k + 1) (rstM n p L) := by
  refine ⟨by unfold rstM; rw [List.length_map, List.length_range], fun r hr => ?_, fun r hr x hx => ?_⟩
  · unfold rstM at hr
    obtain ⟨a, _, rfl⟩ := List.mem_map.mp hr
    rw [List.length_map, List.length_range]
  · unfold rstM at hr
    obtain ⟨a, ma, rfl⟩ := List.mem_map.mp hr
    obtain ⟨b, mb, rfl⟩ := List.mem_map.mp hx
    split
    · exact val_bits h hp (List.mem_range.mp ma) (List.mem_range.mp mb)
    · exact Nat.pow_pos (by decide)
theorem left_sqe {n p : Nat} {M : List (List Int)} (h : SqE n 20 M) (h3 : n ≤ 3) (hp : p ≤ n) : SqE n 200 (leftM n M p) := by
  have e1 : 1 ≤ n → SqE n 41 (leftM n M 1) := fun h1 => rest_sqe (p := 0) h (by omega)
  have e2 : 2 ≤ n → SqE n 83 (leftM n M 2) := fun h1 => rest_sqe (p := 1) (e1 (by omega)) (by omega)
  have e3 : 3 ≤ n → SqE n 167 (leftM n M 3) := fun h1 => rest_sqe (p := 2) (e2 (by omega)) (by omega)
  have : p = 0 ∨ p = 1 ∨ p = 2 ∨ p = 3 := by omega
  rcases this with rfl | rfl | rfl | rfl
  · exact h.mono (by decide)
  · exact (e1 hp).mono (by decide)
  · exact (e2 hp).mono (by decide)
  · exact (e3 hp).mono (by decide)
theorem bel_bits {n : Nat} {M : List (List Int)} (h : SqE n 20 M) (h3 : n ≤ 3) : ∀ p, p ≤ n → (belM n M p).natAbs < 2 ^ (200 * p + 1) := fun p => by
  induction p with
  | zero => intro _; show (1 : Int).natAbs < 2 ^ 1; decide
  | succ p ih =>
    intro hp
    exact Wd.abs_mono (Wd.abs_mul (ih (by omega)) (ent_bits (left_sqe h h3 (by omega : p ≤ n)) (by omega) (by omega))) (by omega)
theorem sh_ext {n : Nat} {A B : List (List Int)} (hA : Sh n A) (hB : Sh n B) (h : ∀ a b, a < n → b < n → ent A a b = ent B a b) : A = B := by
  refine List.ext_getElem (by rw [hA.len, hB.len]) fun i h1 h2 => ?_
  have la := hA.row _ (List.getElem_mem h1)
  have lb := hB.row _ (List.getElem_mem h2)
  refine List.ext_getElem (by rw [la, lb]) fun j k1 k2 => ?_
  have := h i j (by rw [← hA.len]; exact h1) (by rw [← la]; exact k1)
  unfold ent at this
  rw [List.getD_eq_getElem?_getD, List.getD_eq_getElem?_getD, List.getD_eq_getElem?_getD, List.getD_eq_getElem?_getD, List.getElem?_eq_getElem h1, List.getElem?_eq_getElem h2] at this
  show A[i][j] = B[i][j]
  have e1 : (A[i])[j]? = some A[i][j] := List.getElem?_eq_getElem k1
  have e2 : (B[i])[j]? = some B[i][j] := List.getElem?_eq_getElem k2
  simp only [Option.getD_some, e1, e2] at this
  exact this
def ownL (n : Nat) (M : List (List Int)) : List (Int × List Int) := (List.range n).map (ownP n M)
theorem t0 {W a k : Int} (ha : 0 < a) (e : W = a * k) : W / a = k := by rw [e, Int.mul_ediv_cancel_left _ (by omega)]
theorem g00 (a b c k m x d f g : Int) : a * a * (k * m) + 0 * 0 * m + 0 * 0 = a * a * (k * m) := by grind
theorem g01 (a b c k m x d f g : Int) : a * b * (k * m) + 0 * k * m + 0 * 0 = b * a * (k * m) := by grind
theorem g02 (a b c k m x d f g : Int) : a * c * (k * m) + 0 * x * m + 0 * m = c * a * (k * m) := by grind
theorem g10 (a b c k m x d f g : Int) : b * a * (k * m) + k * 0 * m + 0 * 0 = b * a * (k * m) := by grind
theorem g11 (a b c k m x d f g : Int) (e : a * d = k + b * b) : b * b * (k * m) + k * k * m + 0 * 0 = d * a * (k * m) := by
  rw [Int.mul_comm d a, e]
  grind
theorem g12 (a b c k m x d f g : Int) (e : a * f = x + b * c) : b * c * (k * m) + k * x * m + 0 * m = f * a * (k * m) := by
  rw [Int.mul_comm f a, e]
  grind
theorem g20 (a b c k m x d f g : Int) : c * a * (k * m) + x * 0 * m + m * 0 = c * a * (k * m) := by grind
theorem g21 (a b c k m x d f g : Int) (e : a * f = x + b * c) : c * b * (k * m) + x * k * m + m * 0 = f * a * (k * m) := by
  rw [Int.mul_comm f a, e]
  grind
theorem g22 (a b c k m x d f g : Int) (e : k * (a * g) = m + x * x + k * (c * c)) : c * c * (k * m) + x * x * m + m * m = g * a * (k * m) := by
  have : g * a * (k * m) = k * (a * g) * m := by grind
  rw [this, e]
  grind
theorem gq1 (a k m : Int) : (1 * (1 * a) * (1 * a * k) * (1 * a * k * m)) = 1 * a * (a * a * k * k * m) := by grind
theorem gq2 (a k m : Int) : (1 * (1 * a) * (1 * a * k) * (1 * a * k * m)) = 1 * a * k * (a * a * k * m) := by grind
theorem gq3 (a k m : Int) : (1 * (1 * a) * (1 * a * k) * (1 * a * k * m)) = 1 * a * k * m * (a * a * k) := by grind
theorem gg (a k m r0 s0 r1 s1 r2 s2 : Int) : r0 * s0 * (a * a * k * k * m) + (r1 * s1 * (a * a * k * m) + (r2 * s2 * (a * a * k) + 0)) = a * a * k * (r0 * s0 * (k * m) + r1 * s1 * m + r2 * s2) := by grind
theorem gz (a k m z : Int) : a * a * k * (z * a * (k * m)) = z * (1 * (1 * a) * (1 * a * k) * (1 * a * k * m)) := by grind
theorem own_fits {n : Nat} {M : List (List Int)} (h : Rw n 20 M) : fitsB n M (ownL n M) = true := by
  have h3 := h.h3
  have hB := h.bowl
  have : n = 1 ∨ n = 2 ∨ n = 3 := by have := h.h1; omega
  rcases this with rfl | rfl | rfl
  · obtain ⟨a, rfl⟩ := sh1 h.bd.sh rfl
    have a0 : 0 < a := by have := hB 0 (by decide); unfold dC at this; rw [d1E1] at this; exact this
    have e : ownL 1 [[a]] = [(1 * a, [a])] := rfl
    rw [e]
    unfold fitsB headsB addsB
    rw [Bool.and_eq_true, decide_eq_true_eq, decide_eq_true_eq]
    refine ⟨fun k hk => ?_, fun i hi j hj => ?_⟩
    · have : k = 0 := by simp at hk; exact hk
      subst this
      refine ⟨by show 1 ≤ 1 * a; omega, by show a ≠ 0; omega, fun j hj => absurd hj (by omega)⟩
    · obtain rfl : i = 0 := by omega
      obtain rfl : j = 0 := by omega
      show a * a * (1 * (1 * a) / (1 * a)) + 0 = a * (1 * (1 * a))
      rw [t0 (k := 1) (by omega) (by omega)]
      grind
  · obtain ⟨a, b, c, rfl⟩ := sy2 h.bd.sh h.sy
    have a0 : 0 < a := by have := hB 0 (by decide); unfold dC at this; rw [d1E2] at this; exact this
    have k0 : 0 < a * c - b * b := by have := hB 1 (by decide); unfold dC at this; rw [d2E2] at this; exact this
    have e : ownL 2 [[a, b], [b, c]] = [(1 * a, [a, b]), (1 * a * (a * c - b * b), [0, a * c - b * b])] := rfl
    rw [e]
    unfold fitsB headsB addsB
    rw [Bool.and_eq_true, decide_eq_true_eq, decide_eq_true_eq]
    generalize hk : a * c - b * b = k at k0 ⊢
    have p1 : 0 < 1 * a * k := by rw [Int.one_mul]; exact Int.mul_pos a0 k0
    refine ⟨fun i hi => ?_, fun i hi j hj => ?_⟩
    · have : i = 0 ∨ i = 1 := by simp at hi; omega
      rcases this with rfl | rfl
      · exact ⟨by show 1 ≤ 1 * a; omega, by show a ≠ 0; omega, fun j hj => absurd hj (by omega)⟩
      · refine ⟨p1, by show k ≠ 0; omega, fun j hj => ?_⟩
        obtain rfl : j = 0 := by omega
        rfl
    · have q1 : 1 * (1 * a) * (1 * a * k) / (1 * a) = a * k := t0 (by omega) (by grind)
      have q2 : 1 * (1 * a) * (1 * a * k) / (1 * a * k) = a := t0 p1 (by grind)
      have gi : i = 0 ∨ i = 1 := by omega
      have gj : j = 0 ∨ j = 1 := by omega
      rcases gi with rfl | rfl <;> rcases gj with rfl | rfl
      · show a * a * (1 * (1 * a) * (1 * a * k) / (1 * a)) + (0 * 0 * (1 * (1 * a) * (1 * a * k) / (1 * a * k)) + 0) = a * (1 * (1 * a) * (1 * a * k))
        rw [q1, q2]; grind
      · show a * b * (1 * (1 * a) * (1 * a * k) / (1 * a)) + (0 * k * (1 * (1 * a) * (1 * a * k) / (1 * a * k)) + 0) = b * (1 * (1 * a) * (1 * a * k))
        rw [q1, q2]; grind
      · show b * a * (1 * (1 * a) * (1 * a * k) / (1 * a)) + (k * 0 * (1 * (1 * a) * (1 * a * k) / (1 * a * k)) + 0) = b * (1 * (1 * a) * (1 * a * k))
        rw [q1, q2]; grind
      · show b * b * (1 * (1 * a) * (1 * a * k) / (1 * a)) + (k * k * (1 * (1 * a) * (1 * a * k) / (1 * a * k)) + 0) = c * (1 * (1 * a) * (1 * a * k))
        rw [q1, q2]
        have : b * b + k = a * c := by omega
        have e2 : b * b * (a * k) + (k * k * a + 0) = a * k * (b * b + k) := by grind
        rw [e2, this]; grind
  · obtain ⟨a, b, c, d, f, g, rfl⟩ := sy3 h.bd.sh h.sy
    have a0 : 0 < a := by have := hB 0 (by decide); unfold dC at this; rw [d1E3] at this; exact this
    have k0 : 0 < a * d - b * b := by have := hB 1 (by decide); unfold dC at this; rw [d2E3] at this; exact this
    have l0 : 0 < a * (d * g - f * f) - b * (b * g - f * c) + c * (b * f - d * c) := by have := hB 2 (by decide); unfold dC at this; rw [d3E3] at this; exact this
    have e : ownL 3 [[a, b, c], [b, d, f], [c, f, g]] = [(1 * a, [a, b, c]), (1 * a * (a * d - b * b), [0, a * d - b * b, a * f - b * c]), (1 * a * (a * d - b * b) * ((a * d - b * b) * (a * g - c * c) - (a * f - c * b) * (a * f - b * c)), [0, 0, (a * d - b * b) * (a * g - c * c) - (a * f - c * b) * (a * f - b * c)])] := rfl
    have m0 : 0 < (a * d - b * b) * (a * g - c * c) - (a * f - c * b) * (a * f - b * c) := by
      have : (a * d - b * b) * (a * g - c * c) - (a * f - c * b) * (a * f - b * c) = a * (a * (d * g - f * f) - b * (b * g - f * c) + c * (b * f - d * c)) := by grind
      rw [this]
      exact Int.mul_pos a0 l0
    rw [e]
    unfold fitsB headsB addsB
    rw [Bool.and_eq_true, decide_eq_true_eq, decide_eq_true_eq]
    generalize hx : a * f - b * c = x at m0 ⊢
    have hx2 : a * f - c * b = x := by rw [← hx]; grind
    rw [hx2] at m0 ⊢
    generalize hk : a * d - b * b = k at k0 m0 ⊢
    generalize hm : k * (a * g - c * c) - x * x = m at m0 ⊢
    have p1 : 0 < 1 * a * k := by rw [Int.one_mul]; exact Int.mul_pos a0 k0
    have p2 : 0 < 1 * a * k * m := Int.mul_pos p1 m0
    refine ⟨fun i hi => ?_, fun i hi j hj => ?_⟩
    · have hi' : i < 3 := hi
      have : i = 0 ∨ i = 1 ∨ i = 2 := by omega
      rcases this with rfl | rfl | rfl
      · exact ⟨by show 1 ≤ 1 * a; omega, by show a ≠ 0; omega, fun j hj => absurd hj (by omega)⟩
      · refine ⟨p1, by show k ≠ 0; omega, fun j hj => ?_⟩
        obtain rfl : j = 0 := by omega
        rfl
      · refine ⟨p2, by show m ≠ 0; omega, fun j hj => ?_⟩
        have : j = 0 ∨ j = 1 := by omega
        rcases this with rfl | rfl <;> rfl
    · have q1 : (1 * (1 * a) * (1 * a * k) * (1 * a * k * m)) / (1 * a) = a * a * k * k * m := t0 (by omega) (gq1 a k m)
      have q2 : (1 * (1 * a) * (1 * a * k) * (1 * a * k * m)) / (1 * a * k) = a * a * k * m := t0 p1 (gq2 a k m)
      have q3 : (1 * (1 * a) * (1 * a * k) * (1 * a * k * m)) / (1 * a * k * m) = a * a * k := t0 p2 (gq3 a k m)
      have gen : ∀ r0 s0 r1 s1 r2 s2 z : Int, r0 * s0 * (k * m) + r1 * s1 * m + r2 * s2 = z * a * (k * m) → r0 * s0 * ((1 * (1 * a) * (1 * a * k) * (1 * a * k * m)) / (1 * a)) + (r1 * s1 * ((1 * (1 * a) * (1 * a * k) * (1 * a * k * m)) / (1 * a * k)) + (r2 * s2 * ((1 * (1 * a) * (1 * a * k) * (1 * a * k * m)) / (1 * a * k * m)) + 0)) = z * (1 * (1 * a) * (1 * a * k) * (1 * a * k * m)) := fun r0 s0 r1 s1 r2 s2 z hz => by
        rw [q1, q2, q3, gg, hz, gz]
      have gi : i = 0 ∨ i = 1 ∨ i = 2 := by omega
      have gj : j = 0 ∨ j = 1 ∨ j = 2 := by omega
      have eD : a * d = k + b * b := by omega
      have eX : a * f = x + b * c := by omega
      have eM : k * (a * g) = m + x * x + k * (c * c) := by
        have : k * (a * g - c * c) = k * (a * g) - k * (c * c) := by grind
        omega
      rcases gi with rfl | rfl | rfl <;> rcases gj with rfl | rfl | rfl
      · show a * a * ((1 * (1 * a) * (1 * a * k) * (1 * a * k * m)) / (1 * a)) + (0 * 0 * ((1 * (1 * a) * (1 * a * k) * (1 * a * k * m)) / (1 * a * k)) + (0 * 0 * ((1 * (1 * a) * (1 * a * k) * (1 * a * k * m)) / (1 * a * k * m)) + 0)) = a * (1 * (1 * a) * (1 * a * k) * (1 * a * k * m))
        exact gen _ _ _ _ _ _ _ (g00 a b c k m x d f g)
      · show a * b * ((1 * (1 * a) * (1 * a * k) * (1 * a * k * m)) / (1 * a)) + (0 * k * ((1 * (1 * a) * (1 * a * k) * (1 * a * k * m)) / (1 * a * k)) + (0 * 0 * ((1 * (1 * a) * (1 * a * k) * (1 * a * k * m)) / (1 * a * k * m)) + 0)) = b * (1 * (1 * a) * (1 * a * k) * (1 * a * k * m))
        exact gen _ _ _ _ _ _ _ (g01 a b c k m x d f g)
      · show a * c * ((1 * (1 * a) * (1 * a * k) * (1 * a * k * m)) / (1 * a)) + (0 * x * ((1 * (1 * a) * (1 * a * k) * (1 * a * k * m)) / (1 * a * k)) + (0 * m * ((1 * (1 * a) * (1 * a * k) * (1 * a * k * m)) / (1 * a * k * m)) + 0)) = c * (1 * (1 * a) * (1 * a * k) * (1 * a * k * m))
        exact gen _ _ _ _ _ _ _ (g02 a b c k m x d f g)
      · show b * a * ((1 * (1 * a) * (1 * a * k) * (1 * a * k * m)) / (1 * a)) + (k * 0 * ((1 * (1 * a) * (1 * a * k) * (1 * a * k * m)) / (1 * a * k)) + (0 * 0 * ((1 * (1 * a) * (1 * a * k) * (1 * a * k * m)) / (1 * a * k * m)) + 0)) = b * (1 * (1 * a) * (1 * a * k) * (1 * a * k * m))
        exact gen _ _ _ _ _ _ _ (g10 a b c k m x d f g)
      · show b * b * ((1 * (1 * a) * (1 * a * k) * (1 * a * k * m)) / (1 * a)) + (k * k * ((1 * (1 * a) * (1 * a * k) * (1 * a * k * m)) / (1 * a * k)) + (0 * 0 * ((1 * (1 * a) * (1 * a * k) * (1 * a * k * m)) / (1 * a * k * m)) + 0)) = d * (1 * (1 * a) * (1 * a * k) * (1 * a * k * m))
        exact gen _ _ _ _ _ _ _ (g11 a b c k m x d f g eD)
      · show b * c * ((1 * (1 * a) * (1 * a * k) * (1 * a * k * m)) / (1 * a)) + (k * x * ((1 * (1 * a) * (1 * a * k) * (1 * a * k * m)) / (1 * a * k)) + (0 * m * ((1 * (1 * a) * (1 * a * k) * (1 * a * k * m)) / (1 * a * k * m)) + 0)) = f * (1 * (1 * a) * (1 * a * k) * (1 * a * k * m))
        exact gen _ _ _ _ _ _ _ (g12 a b c k m x d f g eX)
      · show c * a * ((1 * (1 * a) * (1 * a * k) * (1 * a * k * m)) / (1 * a)) + (x * 0 * ((1 * (1 * a) * (1 * a * k) * (1 * a * k * m)) / (1 * a * k)) + (m * 0 * ((1 * (1 * a) * (1 * a * k) * (1 * a * k * m)) / (1 * a * k * m)) + 0)) = c * (1 * (1 * a) * (1 * a * k) * (1 * a * k * m))
        exact gen _ _ _ _ _ _ _ (g20 a b c k m x d f g)
      · show c * b * ((1 * (1 * a) * (1 * a * k) * (1 * a * k * m)) / (1 * a)) + (x * k * ((1 * (1 * a) * (1 * a * k) * (1 * a * k * m)) / (1 * a * k)) + (m * 0 * ((1 * (1 * a) * (1 * a * k) * (1 * a * k * m)) / (1 * a * k * m)) + 0)) = f * (1 * (1 * a) * (1 * a * k) * (1 * a * k * m))
        exact gen _ _ _ _ _ _ _ (g21 a b c k m x d f g eX)
      · show c * c * ((1 * (1 * a) * (1 * a * k) * (1 * a * k * m)) / (1 * a)) + (x * x * ((1 * (1 * a) * (1 * a * k) * (1 * a * k * m)) / (1 * a * k)) + (m * m * ((1 * (1 * a) * (1 * a * k) * (1 * a * k * m)) / (1 * a * k * m)) + 0)) = g * (1 * (1 * a) * (1 * a * k) * (1 * a * k * m))
        exact gen _ _ _ _ _ _ _ (g22 a b c k m x d f g eM)
end T24
set_option Elab.async false
set_option linter.all false
set_option maxRecDepth 100000
set_option maxHeartbeats 4000000
namespace T24
open PySem PySem.Spec PyProof.Rows L2 Gd Zn Rp Dn Tb Gn En Zs Ct Op Oc Rg Rt Ro Oa
theorem n_par {i j : Nat} {ta : TA} {D : Ends} {rt : VK} {bk ct : L2.St → Hp → Prop} {σ : L2.St} {H : Hp} (h : ta σ H fun vs H1 => ∃ v w, vs = [v, w] ∧ D.nx ((σ.set i (some v)).set j (some w)) H1) : Ends.nx ⟨tPar i j ta D, rt, bk, ct⟩ σ H := h
/-- a square in the heap -/
def SquA (H : Hp) (c : Addr) (p : Int × List Int) : Prop := ∃ r, H c = some (.tup [.int p.1, .ref r]) ∧ H r = some (.tup (p.2.map V.int))
theorem SquA.same {H H' : Hp} {c : Addr} {p : Int × List Int} (h : SquA H c p) (s : Same H H') : SquA H' c p := by
  obtain ⟨r, a, b⟩ := h
  exact ⟨r, s _ _ a, s _ _ b⟩
theorem LL.same {H H' : Hp} {a : Addr} {bs : List Addr} {M : List (List Int)} (h : LL H a bs M) (s : Same H H') : LL H' a bs M := ⟨s _ _ h.top, h.len, fun i b e => s _ _ (h.row i b e), h.nd, h.ne⟩
theorem mut_same {H H' : Hp} {b : Addr} {o : HO} (s : Same H H') (n : H b = none) : Same H (upd H' b o) := fun c u e => by
  rw [upd_ne (fun z => by rw [z, n] at e; cases e)]
  exact s c u e
theorem LL.upd {H : Hp} {a d : Addr} {bs : List Addr} {M : List (List Int)} {o : HO} (h : LL H a bs M) (n : d ∉ a :: bs) : LL (upd H d o) a bs M := by
  rw [List.mem_cons, not_or] at n
  exact ⟨by rw [upd_ne (fun z => n.1 z.symm)]; exact h.top, h.len, fun i b e => by rw [upd_ne (fun z => n.2 (by rw [← z]; exact List.mem_of_getElem? e))]; exact h.row i b e, h.nd, h.ne⟩
theorem own_len {n p : Nat} {M : List (List Int)} (hs : Sh n (leftM n M p)) (hp : p < n) : (ownP n M p).2.length = n := by
  unfold ownP
  rw [List.length_append, List.length_replicate, List.length_drop, hs.row _ (getD_mem (by rw [hs.len]; exact hp))]
  omega
section
variable {P : Program} {w : World} {K : PySem.W.Frag} {mg : Str → Option Value} {base : Heap} {C : Addr}
abbrev st_own : Stmt := top 31
abbrev N_own : List Str := ["_law_rows", "_law_size", "_law_left", "_law_below", "_law_found", "_law_place", "_law_head", "_law_rest", "_law_near", "_law_far", "_law_row"]
theorem sc_own : FnScope N_own ["_law_rows"] (defScope st_own) := ⟨rfl, rfl, rfl, by decide +kernel, rfl, by decide +kernel, by decide +kernel⟩
def sp_own : Sp := fun vs H Q _ => ∃ (v : V) (M : List (List Int)) (n : Nat), vs = [v] ∧ PyV H v (lmD M) ∧ SqE n 20 M ∧ 1 ≤ n ∧ n ≤ 3 ∧ ∀ (D : Addr) (cs : List Addr) (H' : Hp), Same H H' → H' D = some (.lst (cs.map V.ref)) → cs.length = n → (∀ (k : Nat) (c : Addr), cs[k]? = some c → SquA H' c (ownP n M k)) → Q (.ref D) H'
theorem ok_own {f : Addr} {fd : FuncData} (F : Fun K "_law_own" "_law_own" st_own f fd) (T : Txt mg) : FnOk P w K mg base CX0 1 f fd ["_law_rows"] sp_own := by
  refine F.ok sc_own (fun vs H Q E h => ?_) (fun cdv A outer s H vs Q E hr h => ?_)
  · obtain ⟨v, M, n, rfl, _⟩ := h
    rfl
  · obtain ⟨v, M, n, rfl, hM, hS, h1, h3, q⟩ := h
    refine ⟨_, pss_cons (ps_asg (pe_tup (pa_cons (pe_callB (r := Dn.rLen K) c_len (by rfl) T.len PySem.boot_len (pa_cons (pv 0) pa_nil)) (pa_cons
          (pe_lc (own := [("_law_row", 10)]) (g := gName 10) (tt := tYes) rfl sc_own.nd (pi_seq (pv 0)) (blkOk_by (N := N_own) (sc := defScope st_own) (by decide +kernel)) (fun _ _ _ _ _ => pg_name (i := 10) sc_own.nd rfl (Or.inl rfl) (Or.inr rfl)) (fun _ _ _ _ _ => pts_nil)
            (fun _ _ _ _ _ => pe_callTy (r := T24.rLst K) T24.c_lst (by rfl) T.list PyProof.Rows.boot_list (pa_cons (pv 10) pa_nil))) (pa_cons pe_int (pa_cons (pe_lst pa_nil) pa_nil)))))
        (pg_tup rfl (pgs_cons (pg_name (i := 1) sc_own.nd rfl (Or.inr rfl)) (pgs_cons (pg_name (i := 2) sc_own.nd rfl (Or.inl rfl)) (pgs_cons (pg_name (i := 3) sc_own.nd rfl (Or.inl rfl)) (pgs_cons (pg_name (i := 4) sc_own.nd rfl (Or.inl rfl)) pgs_nil))))))
      (pss_cons (ps_for PassesOwn.never rfl (pi_range1 (by rfl) T.range (pa_cons (pv 1) pa_nil)) (pg_name (i := 5) sc_own.nd rfl (Or.inl rfl))
        (pss_cons (ps_set (i := 6) sc_own.nd rfl (Or.inl rfl) (pe_ix (r := rIxS2 K) ix_sq (pe_ix (r := rIxS2 K) ix_sq (pv 2) (pv 5) (fun _ _ => rfl)) (pv 5) (fun _ _ => rfl)))
        (pss_cons (ps_expr (pe_bm PySem.F.plainAttrs_list PySem.F.slot_list_append PySem.F.type_list_append mt_append (pv 4) (pa_cons (pe_tup (pa_cons (pe_op op_mulX (pv 3) (pv 6)) (pa_cons (pe_callTy (r := rTup K) c_tup (by rfl) T.tuple PyProof.Rows.boot_tuple (pa_cons (pe_op op_cat (pe_op op_rep (pe_lst (pa_cons pe_int pa_nil)) (pv 5)) (pe_slice (r := rSlL K) sl_list (pe_ix (r := rIxS2 K) ix_sq (pv 2) (pv 5) (fun _ _ => rfl)) (po_some (pv 5)) po_none)) pa_nil)) pa_nil))) pa_nil)))
        (pss_cons (ps_setLc (i := 7) (own := [("_law_row", 10)]) (g := gName 10) (tt := tYes) rfl sc_own.nd rfl rfl (sw_true rfl rfl rfl (by decide +kernel)) (pi_range1 (by rfl) T.range (pa_cons (pv 1) pa_nil))
          (blkOk_by (N := N_own) (sc := defScope st_own) (by decide +kernel)) (fun _ _ _ _ _ => pg_name (i := 10) sc_own.nd rfl (Or.inl rfl) (Or.inr rfl)) (fun _ _ _ _ _ => pts_nil)
          (fun _ _ _ _ _ => pe_op op_rep (pe_lst (pa_cons pe_int pa_nil)) (pv 1)))
        (pss_cons (ps_for PassesOwn.never rfl (pi_range2 (by rfl) T.range (pa_cons (pe_op op_add (pv 5) pe_int) (pa_cons (pv 1) pa_nil))) (pg_name (i := 8) sc_own.nd rfl (Or.inl rfl))
          (pss_one (ps_for PassesOwn.never rfl (pi_range2 (by rfl) T.range (pa_cons (pe_op op_add (pv 5) pe_int) (pa_cons (pv 1) pa_nil))) (pg_name (i := 9) sc_own.nd rfl (Or.inl rfl))
            (pss_one (ps_asg (pe_op op_sub (pe_op op_mulX (pv 6) (pe_ix (r := rIxS2 K) ix_sq (pe_ix (r := rIxS2 K) ix_sq (pv 2) (pv 8) (fun _ _ => rfl)) (pv 9) (fun _ _ => rfl))) (pe_op op_mulX (pe_ix (r := rIxS2 K) ix_sq (pe_ix (r := rIxS2 K) ix_sq (pv 2) (pv 8) (fun _ _ => rfl)) (pv 5) (fun _ _ => rfl)) (pe_ix (r := rIxS2 K) ix_sq (pe_ix (r := rIxS2 K) ix_sq (pv 2) (pv 5) (fun _ _ => rfl)) (pv 9) (fun _ _ => rfl)))) (pg_sub (pe_ix (r := rIxS2 K) ix_sq (pv 7) (pv 8) (fun _ _ => rfl)) (pv 9) set_list))))))
        (pss_one (ps_par (i := 2) (j := 3) rfl sc_own.nd rfl rfl (by decide) rfl rfl (pa_cons (pv 7) (pa_cons (pe_op op_mulX (pv 3) (pv 6)) pa_nil)) (by rfl))))))))
      (pss_one (ps_ret (pv 4)))), ?_⟩
    obtain ⟨Dg, gs, rfl, hg, hgl, hge⟩ := lm_at hM
    have gl : gs.length = n := by rw [hgl, hS.len]
    have qg : ∀ H', Same H H' → SqV K H' false Dg (gs.map V.ref) := fun H' u => .inl (.inl (u _ _ hg))
    refine r_seq (r_asg (r_tup (r_cons (cb1 ⟨_, rfl, Dg, _, rfl, .inl (.inl (.inl hg)), r_cons (tlc_call ⟨_, rfl, false, Dg, _, rfl, qg _ (Same.refl _), ?_⟩)⟩))))
    refine lc_new (p := none) n (fun i o => o = .lst ((M.getD i []).map V.int)) has_none (by omega) (fun j H14 hj s14 => its_go (t := false) (qg _ s14.same) (List.getElem?_eq_getElem (by rw [List.length_map]; omega))) (fun H14 s14 => its_stop (t := false) (qg _ s14.same) (by rw [List.length_map]; omega)) (fun j x H14 H15 C' hj s14 hp2 hy2 hC => ?_) fun L H1 ls nL s1 hL hll nls nLs frl hlE => ?_
    · obtain ⟨e15, ex2⟩ := its_yld (t := false) hy2 (qg _ s14.same)
      subst e15
      have ebk : gs[j]? = some (gs[j]'(by omega)) := List.getElem?_eq_getElem _
      rw [List.getElem?_map, ebk] at ex2
      cases ex2
      exact ⟨rfl, cb1 ⟨_, rfl, _, _, rfl, .inl (.inl (.inl (s14.same _ _ (hge j _ ebk)))), fun l nl => hC l _ _ (RX.new nl) nl upd_same rfl⟩⟩
    have hLL : LL H1 L ls M := ⟨hL, by rw [hll, hS.len], fun i b e => by
      obtain ⟨o, e1, e2⟩ := hlE i b e
      rw [e1, e2], nls, nLs⟩
    refine ⟨Nat.zero_le _, fun Fd nF => ⟨(by show 4 ≤ sizeLine; decide), fun t nt => ⟨t, _, rfl, .inl (.inl upd_same), rfl, _, _, rfl, _, _, rfl, _, _, rfl, _, _, rfl, rfl, ?_⟩⟩⟩
    rw [List.length_map, gl]
    have s1' := s1.same
    have nF0 := Same.free s1' nF
    generalize hH2 : upd (upd H1 Fd _) t _ = H2
    have s12 : Same H1 H2 := by rw [← hH2]; exact (same_new nF).trans (same_new nt)
    have hF2 : H2 Fd = some (.lst (([] : List Addr).map V.ref)) := by rw [← hH2]; exact same_new nt _ _ upd_same
    have nFL : Fd ∉ L :: ls := by
      rw [List.mem_cons, not_or]
      refine ⟨(fun z => by rw [z, hLL.top] at nF; cases nF), fun z => ?_⟩
      obtain ⟨i, hi, e⟩ := List.getElem_of_mem z
      have := hLL.row i Fd (by rw [List.getElem?_eq_getElem hi, e])
      rw [this] at nF; cases nF
    clear hH2
    have S2 := s1'.trans s12
    refine r_next (r_nseq ⟨_, rfl, (n : Int), rfl, by omega, by omega, ?_⟩)
    rw [Int.toNat_natCast]
    refine for_range (lo := 0) (n := n) (fun p σ H' => ∃ (L : Addr) (ls cs : List Addr) (x5 x6 x7 x8 x9 x10 : Option V), σ = [some (.ref Dg), some (.int (n : Int)), some (.ref L), some (.int (belM n M p)), some (.ref Fd), x5, x6, x7, x8, x9, x10] ∧ Same H H' ∧ H' Fd = some (.lst (cs.map V.ref)) ∧ cs.length = p ∧ (∀ (k : Nat) (c : Addr), cs[k]? = some c → SquA H' c (ownP n M k)) ∧ LL H' L ls (leftM n M p) ∧ Fd ∉ L :: ls)
      ⟨L, ls, [], _, _, _, _, _, _, rfl, S2, hF2, rfl, fun k c e => by simp at e, hLL.same s12, nFL⟩ (fun p σ H' hp hP => ?_) (fun σ H' hP => ?_)
    · obtain ⟨L, ls, cs, x5, x6, x7, x8, x9, x10, rfl, s3, hF, hcl, hcs, hL3, nFL⟩ := hP
      rw [show (0 : Int) + (p : Int) = (p : Int) by omega]
      have bL := left_sqe hS h3 (by omega : p ≤ n)
      have ll : ls.length = n := by rw [hL3.len, bL.len]
      have el : ls[p]? = some (ls[p]'(by omega)) := List.getElem?_eq_getElem _
      have lrow : ((leftM n M p).getD p []).length = n := getD_row bL.sh hp
      have hb := ent_bits bL hp hp
      refine r_seq (r_asg (r_op (r_op ⟨_, rfl, _, rfl, false, L, _, _, _, rfl, rfl, .inl (.inl hL3.top), ixR el, _, rfl, false, _, _, _, _, rfl, rfl, .inl (.inl (hL3.row p _ el)), ixL (by omega), ?_⟩)))
      have bb := bel_bits hS h3 p (by omega)
      refine r_next (r_nseq (d_bm ⟨_, rfl, .inl ⟨rfl, _, .inl (.inl hF)⟩, r_cons (r_tup (r_cons (r_op ⟨_, rfl, _, rfl, _, _, rfl, rfl, Wd.mulW ⟨_, by omega, bb⟩ ⟨200, by decide, hb⟩, r_cons (r_cb (r_cons (r_op (r_op (r_lst ⟨(by show 1 ≤ sizeLine; decide), fun l nl => ?_⟩)))))⟩)))⟩))
      have u1 : Same H' (upd H' l (.lst [V.int 0])) := same_new nl
      refine ⟨_, rfl, l, (p : Int), [V.int 0], rfl, rfl, upd_same, by omega, by omega, ?_, fun c nc => ?_⟩
      · rw [Int.toNat_natCast]
        exact Nat.le_trans (by simp; omega : _ ≤ 100) (by decide)
      have ec : upd (upd H' l (.lst [V.int 0])) c (.lst (List.replicate (p : Int).toNat [V.int 0]).flatten) c = some (.lst ((List.replicate p (0 : Int)).map V.int)) := by
        rw [upd_same, Int.toNat_natCast, rep_flat, List.map_replicate]
      have u2 : Same H' (upd (upd H' l (.lst [V.int 0])) c (.lst (List.replicate (p : Int).toNat [V.int 0]).flatten)) := u1.trans (same_new nc)
      generalize upd (upd H' l (.lst [V.int 0])) c (.lst (List.replicate (p : Int).toNat [V.int 0]).flatten) = H3 at ec u2
      refine ⟨_, rfl, _, rfl, false, L, _, _, _, rfl, rfl, .inl (.inl (u2 _ _ hL3.top)), ixR el, _, rfl, _, rfl, _, _, rfl, SqL.of (u2 _ _ (hL3.row p _ el)), fun p1 np1 => ?_⟩
      rw [cutV_from ((leftM n M p).getD p []) p (by omega)]
      refine ⟨c, p1, _, _, rfl, rfl, same_new np1 _ _ ec, upd_same, ?_, fun c2 nc2 => ⟨c2, _, rfl, .inl ⟨.inl (.inl upd_same), fun r nr => ⟨(by show 2 ≤ sizeLine; decide), fun tt ntt => ?_⟩⟩⟩⟩
      · refine Nat.le_trans ?_ (by decide : 1000 ≤ sizeLine)
        rw [List.length_map, List.length_map, List.length_replicate, List.length_drop]
        omega
      generalize hH4 : upd (upd (upd (upd H3 p1 _) c2 _) r _) tt _ = H4
      have u4 : Same H' H4 := by rw [← hH4]; exact u2.trans ((same_new np1).trans ((same_new nc2).trans ((same_new nr).trans (same_new ntt))))
      have ett : SquA H4 tt (ownP n M p) := by
        rw [← hH4]
        refine ⟨r, upd_same, ?_⟩
        rw [same_new ntt _ _ upd_same]
        unfold ownP
        rw [List.map_append]
      have ntF : tt ≠ Fd := (ne_of_none (((same_new np1).trans ((same_new nc2).trans (same_new nr))) _ _ (u2 _ _ hF)) ntt).symm
      clear hH4
      have hF4 := u4 _ _ hF
      refine ⟨Fd, _, _, rfl, rfl, hF4, ?_, ?_⟩
      · rw [List.length_map, hcl]
        exact Nat.lt_of_lt_of_le (by omega : p < 4) (by decide)
      have sF : ∀ {c : Addr} {q : Int × List Int}, SquA H4 c q → SquA (upd H4 Fd (.lst (cs.map V.ref ++ [.ref tt]))) c q := fun ⟨r, a, b⟩ => ⟨r, by rw [upd_ne (fun z => by rw [z, hF4] at a; cases a)]; exact a, by rw [upd_ne (fun z => by rw [z, hF4] at b; cases b)]; exact b⟩
      have k5 : ∀ (k : Nat) (c : Addr), (cs ++ [tt])[k]? = some c → SquA (upd H4 Fd (.lst (cs.map V.ref ++ [.ref tt]))) c (ownP n M k) := fun k c e => by
        by_cases hk : k < cs.length
        · rw [List.getElem?_append_left hk] at e
          exact sF ((hcs k c e).same u4)
        · rw [List.getElem?_append_right (by omega)] at e
          have z : k - cs.length = 0 := by
            by_cases w : k - cs.length = 0
            · exact w
            · rw [List.getElem?_eq_none (by simp; omega)] at e; cases e
          rw [z] at e
          cases e
          have : k = p := by omega
          subst this
          exact sF ett
      have hF5 : upd H4 Fd (.lst (cs.map V.ref ++ [.ref tt])) Fd = some (.lst ((cs ++ [tt]).map V.ref)) := by rw [upd_same, List.map_append]; rfl
      have hL5 : LL (upd H4 Fd (.lst (cs.map V.ref ++ [.ref tt]))) L ls (leftM n M p) := (hL3.same u4).upd nFL
      have s5 : Same H (upd H4 Fd (.lst (cs.map V.ref ++ [.ref tt]))) := mut_same (s3.trans u4) nF0
      generalize upd H4 Fd (.lst (cs.map V.ref ++ [.ref tt])) = H5 at k5 hF5 hL5 s5
      refine r_next (r_nseq (r_asg (tlc_call ⟨_, rfl, (n : Int), rfl, by omega, by omega, ?_⟩)))
      rw [Int.toNat_natCast]
      refine lc_new (p := none) n (fun i o => o = .lst ((List.replicate n (0 : Int)).map V.int)) has_none (by omega) (fun i H2 hi s2 => hi) (fun H2 s2 => Nat.le_refl _) (fun i x H6 H7 C' hi s6 hp2 hy hC => ?_) fun R H6 bs nR s6 hR hbl nbs nRb frb hbE => ?_
      · obtain ⟨rfl, rfl⟩ := hy
        refine ⟨rfl, r_op (r_lst ⟨(by show 1 ≤ sizeLine; decide), fun l nl => ?_⟩)⟩
        have v5 : Same H7 (upd H7 l (.lst [V.int 0])) := same_new nl
        refine ⟨_, rfl, l, _, [V.int 0], rfl, rfl, upd_same, by omega, by omega, ?_, fun c nc => ?_⟩
        · rw [Int.toNat_natCast]
          exact Nat.le_trans (by simp; omega : _ ≤ 100) (by decide)
        · have nc2 := Same.free v5 nc
          refine hC c _ _ ((RX.of v5).trans (RX.new nc)) nc2 upd_same ?_
          rw [Int.toNat_natCast]
          show HO.lst (List.replicate n [V.int 0]).flatten = _
          rw [rep_flat, List.map_replicate]
      have hR6 : LL H6 R bs (zeroM n) := ⟨hR, by rw [hbl]; exact (zero_sqB n 0 (by decide)).len.symm, fun i b e => by
        obtain ⟨o, e1, e2⟩ := hbE i b e
        have hi : i < n := by rw [← hbl]; exact (List.getElem?_eq_some_iff.mp e).1
        rw [e1, e2, zero_getD hi], nbs, nRb⟩
      have frA : ∀ b ∈ R :: bs, H5 b = none := fun b hb => by
        rcases List.mem_cons.mp hb with rfl | hb
        · exact nR
        · exact frb b hb
      have zsh : Sh n (zeroM n) := (zero_sqB n 0 (by decide)).sh
      have zen : ∀ a b, a < n → b < n → ent (zeroM n) a b = 0 := fun a b ha hb => by
        unfold ent
        rw [zero_getD ha, List.getD_eq_getElem?_getD, List.getElem?_replicate_of_lt hb]
        rfl
      refine r_next (r_nseq ⟨_, rfl, _, _, rfl, rfl, _, rfl, _, _, rfl, ⟨by omega, by omega, by omega, by omega⟩, ?_⟩)
      rw [show ((n : Int) - ((p : Int) + 1)).toNat = n - (p + 1) by omega]
      have lrow5 : ∀ a, a < n → ((leftM n M p).getD a []).length = n := fun a ha => getD_row bL.sh ha
      refine for_range (lo := (p : Int) + 1) (n := n - (p + 1)) (fun i σ H' => ∃ (x8 x9 x10 : Option V) (Mx : List (List Int)), σ = [some (.ref Dg), some (.int (n : Int)), some (.ref L), some (.int (belM n M p)), some (.ref Fd), some (.int (p : Nat)), some (.int (hdM n M p)), some (.ref R), x8, x9, x10] ∧ Same H5 H' ∧ LL H' R bs Mx ∧ Sh n Mx ∧ ∀ a b, a < n → b < n → ent Mx a b = if p < a ∧ p < b ∧ a < p + 1 + i then valM p (leftM n M p) a b else 0)
        ⟨_, _, _, _, rfl, s6.same, hR6, zsh, fun a b ha hb => by rw [zen a b ha hb, if_neg (by omega)]⟩ (fun i σ H' hi hP => ?_) (fun σ H' hP => ?_)
      · obtain ⟨x8, x9, x10, Mx, rfl, s7, hRx, hsh, hen⟩ := hP
        have ea0 : (p : Int) + 1 + (i : Int) = ((p + 1 + i : Nat) : Int) := by omega
        rw [ea0]
        obtain ⟨a0, ha0⟩ : ∃ a0, a0 = p + 1 + i := ⟨_, rfl⟩
        rw [← ha0]
        have la0 : a0 < n := by omega
        refine ⟨_, rfl, _, _, rfl, rfl, _, rfl, _, _, rfl, ⟨by omega, by omega, by omega, by omega⟩, ?_⟩
        rw [show ((n : Int) - ((p : Int) + 1)).toNat = n - (p + 1) by omega]
        refine for_range (lo := (p : Int) + 1) (n := n - (p + 1)) (fun j σ H' => ∃ (x9 x10 : Option V) (Mx : List (List Int)), σ = [some (.ref Dg), some (.int (n : Int)), some (.ref L), some (.int (belM n M p)), some (.ref Fd), some (.int (p : Nat)), some (.int (hdM n M p)), some (.ref R), some (.int (a0 : Nat)), x9, x10] ∧ Same H5 H' ∧ LL H' R bs Mx ∧ Sh n Mx ∧ ∀ a b, a < n → b < n → ent Mx a b = if p < a ∧ p < b ∧ (a < a0 ∨ (a = a0 ∧ b < p + 1 + j)) then valM p (leftM n M p) a b else 0)
          ⟨_, _, _, rfl, s7, hRx, hsh, fun a b ha hb => by
            rw [hen a b ha hb]
            by_cases c : p < a ∧ p < b ∧ a < a0
            · rw [if_pos (by omega), if_pos (by omega)]
            · rw [if_neg (by omega), if_neg (by omega)]⟩ (fun j σ H' hj hP => ?_) (fun σ H' hP => ?_)
        · obtain ⟨x9, x10, Mx, rfl, s8, hRx, hsh, hen⟩ := hP
          have eb0 : (p : Int) + 1 + (j : Int) = ((p + 1 + j : Nat) : Int) := by omega
          rw [eb0]
          obtain ⟨b0, hb0⟩ : ∃ b0, b0 = p + 1 + j := ⟨_, rfl⟩
          rw [← hb0]
          have lb0 : b0 < n := by omega
          have hL8 := hL5.same s8
          have ea : ls[a0]? = some (ls[a0]'(by omega)) := List.getElem?_eq_getElem _
          have eR : bs[a0]? = some (bs[a0]'(by omega)) := List.getElem?_eq_getElem _
          have lrR : (Mx.getD a0 []).length = n := getD_row hsh la0
          have la := lrow5 a0 la0
          have w1 : Wd.Wid (hdM n M p) := ⟨200, by decide, hb⟩
          have wE : ∀ {a b : Nat}, a < n → b < n → Wd.Wid (((leftM n M p).getD a []).getD b 0) := fun ha hb => ⟨200, by decide, ent_bits bL ha hb⟩
          refine r_asg (r_op (r_op ⟨_, rfl, _, rfl, _, rfl, false, L, _, _, _, rfl, rfl, .inl (.inl hL8.top), ixR ea, _, rfl, false, _, _, _, _, rfl, rfl, .inl (.inl (hL8.row a0 _ ea)), ixL (by omega), _, _, rfl, rfl, Wd.mulW w1 (wE la0 lb0), ?_⟩))
          refine ⟨_, rfl, _, rfl, false, L, _, _, _, rfl, rfl, .inl (.inl hL8.top), ixR ea, _, rfl, false, _, _, _, _, rfl, rfl, .inl (.inl (hL8.row a0 _ ea)), ixL (by omega), ?_⟩
          refine ⟨_, rfl, _, rfl, false, L, _, _, _, rfl, rfl, .inl (.inl hL8.top), ixR el, _, rfl, false, _, _, _, _, rfl, rfl, .inl (.inl (hL8.row p _ el)), ixL (by omega), _, _, rfl, rfl, Wd.mulW (wE la0 hp) (wE hp lb0), _, _, rfl, rfl, ?_⟩
          refine ⟨_, rfl, _, rfl, false, R, _, _, _, rfl, rfl, .inl (.inl hRx.top), ixR eR, _, rfl, _, _, _, b0, rfl, rfl, hRx.row a0 _ eR, ixN_at (by rw [List.length_map]; omega), ?_⟩
          have hPut := hRx.put (j := b0) eR (valM p (leftM n M p) a0 b0)
          have nb0 := frA _ (List.mem_cons_of_mem _ (List.getElem_mem (by omega : a0 < bs.length)))
          refine ⟨_, _, setIJ Mx a0 b0 (valM p (leftM n M p) a0 b0), rfl, mut_same s8 nb0, hPut, ?_, fun a b ha hb => ?_⟩
          · refine ⟨by unfold setIJ; rw [List.length_set]; exact hsh.len, fun r hr => ?_⟩
            unfold setIJ at hr
            rcases List.mem_or_eq_of_mem_set hr with h | rfl
            · exact hsh.row r h
            · rw [List.length_set]; exact lrR
          · rw [ent_set hsh la0 lb0]
            by_cases c : a = a0 ∧ b = b0
            · rw [if_pos c, if_pos (by omega), c.1, c.2]
            · rw [if_neg c, hen a b ha hb]
              by_cases c2 : p < a ∧ p < b ∧ (a < a0 ∨ (a = a0 ∧ b < p + 1 + j))
              · rw [if_pos c2, if_pos (by omega)]
              · rw [if_neg c2, if_neg (by omega)]
        · obtain ⟨x9, x10, Mx, rfl, s8, hRx, hsh, hen⟩ := hP
          refine ⟨_, _, _, Mx, rfl, s8, hRx, hsh, fun a b ha hb => ?_⟩
          rw [hen a b ha hb]
          by_cases c : p < a ∧ p < b ∧ (a < a0 ∨ (a = a0 ∧ b < p + 1 + (n - (p + 1))))
          · rw [if_pos c, if_pos (by omega)]
          · rw [if_neg c, if_neg (by omega)]
      · obtain ⟨x8, x9, x10, Mx, rfl, s7, hRx, hsh, hen⟩ := hP
        have eMx : Mx = leftM n M (p + 1) := sh_ext hsh (left_sqe hS h3 (by omega : p + 1 ≤ n)).sh fun a b ha hb => by
          show _ = ent (rstM n p (leftM n M p)) a b
          rw [hen a b ha hb, rest_ent ha hb]
          by_cases c : p < a ∧ p < b
          · rw [if_pos (by omega), if_pos c]
          · rw [if_neg (by omega), if_neg c]
        rw [eMx] at hRx
        refine r_next (n_par ⟨_, rfl, _, rfl, _, rfl, _, _, rfl, rfl, Wd.mulW ⟨_, by omega, bb⟩ ⟨200, by decide, hb⟩, _, _, rfl, ?_⟩)
        refine ⟨R, bs, cs ++ [tt], _, _, _, _, _, _, rfl, s5.trans s7, s7 _ _ hF5, by rw [List.length_append, hcl]; rfl, fun k c e => (k5 k c e).same s7, hRx, fun z => ?_⟩
        have := frA _ z
        rw [hF5] at this
        cases this
    · obtain ⟨L, ls, cs, x5, x6, x7, x8, x9, x10, rfl, s3, hF, hcl, hcs, hL3, nFL⟩ := hP
      exact r_nret ⟨_, rfl, q Fd cs H' s3 hF hcl hcs⟩
end
end T24
set_option Elab.async false
set_option linter.all false
set_option maxRecDepth 100000
set_option maxHeartbeats 4000000
namespace Ob
open PySem PySem.Spec PyProof.Rows L2
theorem tuple_mul1 (l : Addr) (items : Array Value) (n : Nat) (dd : Option Addr) (sl : Array (Option Value)) (x : Int) (u : Tok) (c0 : (decide (x < -(2 ^ 63)) || decide (x ≥ 2 ^ 63)) = false) (c1 : (items.isEmpty || x == 1) = true) :
    Meets (Builtin.«tuple.__mul__» ⟨[.ref l, .int x u], []⟩) (fun _ R s => s.heap.get? l = some { cls := .type "tuple", dict := dd, data := .seq items n, slots := sl } ∧
      R (.ok (.ret (Value.ref l))) s) :=
  .of_wp fun prog w A R s h => by
    obtain ⟨hp, g, d, tk, os⟩ := s
    obtain ⟨hl, h⟩ := h
    have f1 := AutoSeq1.idx_int
    wp_walk using wpAny_loadPart' hl
    repeat (first
      | (refine wpAny_ite_false (decide_eq_false (by rw [c0]; exact Bool.false_ne_true)) ?_; wp_walk using wpAny_loadPart' hl)
      | (refine wpAny_ite_true (decide_eq_true c1) ?_; wp_walk using wpAny_loadPart' hl))
    exact ⟨_, rfl, h⟩
def rRepN : R2 := fun x y H Q => ∃ l k xs, x = .ref l ∧ y = .int k ∧ H l = some (.tup xs) ∧ xs ≠ [] ∧ 1 ≤ k ∧ k ≤ 1000 ∧ xs.length ≤ 1000 ∧ ∀ p H', (∀ b o, H b = some o → H' b = some o) → H' p = some (.tup (List.replicate k.toNat xs).flatten) → Q (.ref p) H'
def rStrN : R2 := fun x y H Q => ∃ a k, x = .str a ∧ y = .int k ∧ a.length = 1 ∧ 1 ≤ k ∧ k ≤ 1000 ∧ ∀ z, Q (.str z) H
theorem fold_size {α : Type} (c : Array α) : ∀ (m : Nat) (acc : Array α), ((List.replicate m c).foldl (· ++ ·) acc).size = acc.size + m * c.size
  | 0, acc => by simp
  | m + 1, acc => by
    rw [List.replicate_succ, List.foldl_cons, fold_size c m, Array.size_append, Nat.succ_mul]
    omega
section
variable {X : Cx}
theorem op_repN : OpR X (binaryOp .Mult) rRepN := by
  intro pins s σ H x y v u Q I rx ry h
  obtain ⟨l, k, xs, rfl, rfl, hT, hne, h1, h2, hz, q⟩ := h
  by_cases e1 : k = 1
  · subst e1
    cases rx
    obtain ⟨t, rfl⟩ := ry
    obtain ⟨its, r, ⟨⟨cls, dd, data, sl⟩, ho, hc, n, hd⟩, hs⟩ := I.tuple (.inl (.inl hT))
    simp only at hc hd
    subst hc hd
    refine wpAny_binaryOp_repeat_ref (T := "tuple") (U := "int") (by decide) ⟨_, ho, rfl⟩ (fun s' => typeIs_int s' 1 t) noFill_tuple_mul F.fills_int_mul F.slot_int_rmul repeat_tuple F.slot_int_index.lookup
      (call_meets F.slot_int_rmul (typeIs_int s 1 t) F.entry_int_rmul (F.args_int_rmul_2 _ _) (int_rmul_tuple 1 t l its.toArray n dd sl)
        ⟨ho, rfl, ⟨_, ho, rfl⟩, call_meets F.slot_tuple_mul ⟨_, ho, rfl⟩ F.entry_tuple_mul (F.args_tuple_mul_2 _ _) (tuple_mul1 l its.toArray n dd sl 1 t (by decide) (by simp)) ⟨ho, ?_⟩⟩)
    refine ⟨.ref l, H, I, rfl, q l H (fun _ _ e => e) ?_⟩
    rw [show (List.replicate (1 : Int).toNat xs).flatten = xs by simp]
    exact hT
  · exact op_repT pins s σ H _ _ v u Q I rx ry ⟨l, k, xs, rfl, rfl, .inl (.inl hT), hne, by omega, h2, hz, fun p np => q p _ (fun b o e => by rw [upd_ne (fun z => by rw [z, np] at e; cases e)]; exact e) upd_same⟩
theorem op_strN : OpR X (binaryOp .Mult) rStrN := by
  intro pins s σ H x y v u Q I rx ry h
  obtain ⟨a, k, rfl, rfl, ha, h1, h2, q⟩ := h
  obtain ⟨t, rfl⟩ := rx
  obtain ⟨t', rfl⟩ := ry
  refine PySem.P.mul_str ?_ ?_ ?_ ?_
  · rw [decide_eq_false (by omega), decide_eq_false (by omega)] <;> rfl
  · intro _ _
    rw [ha]
    have : (2 ^ 63 - 1 : Int) / k ≥ 1 := by
      apply (Int.le_ediv_iff_mul_le (by omega)).mpr
      omega
    omega
  · intro _ _
    unfold Builtin.Str.tooLong
    rw [ha]
    refine decide_eq_false ?_
    have : (1000 : Nat) ≤ sizeLine := by decide
    omega
  · rw [if_neg (by omega)]
    split
    · exact ⟨.str a, H, I, ⟨_, rfl⟩, q a⟩
    · refine ⟨?_, ⟨.str _, H, I.tok _, ⟨_, rfl⟩, q _⟩⟩
      refine Nat.le_trans (Nat.le_of_eq (fold_size a.cps k.toNat #[])) ?_
      have e : a.cps.size = 1 := ha
      have : (1000 : Nat) ≤ sizeLine := by decide
      rw [e]
      show 0 + k.toNat * 1 ≤ _
      omega
end
end Ob
set_option Elab.async false
set_option linter.all false
set_option maxRecDepth 100000
set_option maxHeartbeats 4000000
namespace T24
open PySem PySem.Spec PyProof.Rows L2 Gd Zn Rp Dn Tb Gn En Zs Ct Op Oc Rg Rt Ro Oa Ob
theorem hid_same {p : Option Addr} {H H' : Hp} (s : Same H H') : Same (hid p H) (hid p H') := (RX.of (p := p) s).hid
def NvD (A : Option Addr → Prop) (D : Option Addr) (H : Hp) (v : V) (d : PyData) : Prop := ∀ p, A p → PyV (hid p (hid D H)) v d
def NvsD (A : Option Addr → Prop) (D : Option Addr) (H : Hp) (vs : List V) (ds : List PyData) : Prop := ∀ p, A p → PyVs (hid p (hid D H)) vs ds
structure Cxt (A : Option Addr → Prop) (H0 H : Hp) (D : Option Addr) : Prop where
  hA : ∀ a, A (some a) → H0 a ≠ none
  s : Same H0 H
  hD : ∀ d, D = some d → H d ≠ none
theorem ne_mono {H H' : Hp} (s : Same H H') {a : Addr} (h : H a ≠ none) : H' a ≠ none := by
  cases e : H a with
  | none => exact absurd e h
  | some o => rw [s _ _ e]; intro z; cases z
section
variable {A : Option Addr → Prop} {H0 H H' : Hp} {D : Option Addr}
theorem Cxt.same (c : Cxt A H0 H D) (s : Same H H') : Cxt A H0 H' D := ⟨c.hA, c.s.trans s, fun d e => ne_mono s (c.hD d e)⟩
theorem NvD.mono {v : V} {d : PyData} (h : NvD A D H v d) (s : Same H H') : NvD A D H' v d := fun p hp => PyV.mono (hid_same (hid_same s)) (h p hp)
theorem NvsD.mono {vs : List V} {ds : List PyData} (h : NvsD A D H vs ds) (s : Same H H') : NvsD A D H' vs ds := fun p hp => PyVs.mono (hid_same (hid_same s)) (h p hp)
theorem nv_int (i : Int) : NvD A D H (.int i) (.int i) := fun _ _ => .int i
theorem nv_bl (b : Bool) : NvD A D H (.bl b) (.bool b) := fun _ _ => .bl b
theorem nv_non : NvD A D H .non .none := fun _ _ => .non
theorem nv_str (x : Str) : NvD A D H (.str x) (.str x) := fun _ _ => .str x
theorem nv_nil : NvsD A D H [] [] := fun _ _ => .nil
theorem nv_cons {v : V} {d : PyData} {vs : List V} {ds : List PyData} (a : NvD A D H v d) (b : NvsD A D H vs ds) : NvsD A D H (v :: vs) (d :: ds) := fun p hp => .cons (a p hp) (b p hp)
theorem nv_at {t : Addr} {o : HO} (c : Cxt A H0 H D) (n : H t = none) {p : Option Addr} (hp : A p) : hid p (hid D (upd H t o)) t = some o := by
  have e1 : p ≠ some t := fun z => by subst z; exact c.hA t hp (Same.free c.s n)
  have e2 : D ≠ some t := fun z => c.hD t z n
  rw [hid_at e1, hid_at e2, upd_same]
theorem nv_tup {t : Addr} {vs : List V} {ds : List PyData} (c : Cxt A H0 H D) (n : H t = none) (h : NvsD A D H vs ds) : NvD A D (upd H t (.tup vs)) (.ref t) (.tuple ds) := fun p hp => .tup (nv_at c n hp) (h.mono (same_new n) p hp)
theorem nv_lst {t : Addr} {vs : List V} {ds : List PyData} (c : Cxt A H0 H D) (n : H t = none) (h : NvsD A D H vs ds) : NvD A D (upd H t (.lst vs)) (.ref t) (.list ds) := fun p hp => .lst (nv_at c n hp) (h.mono (same_new n) p hp)
theorem nv_ints (xs : List Int) : NvsD A D H (xs.map V.int) (iD xs) := fun p hp => py_ints xs
/-- what is known stays known when a new list is to be changed -/
theorem nv_hide {v : V} {d : PyData} {L : Addr} {o : HO} (h : NvD A none H v d) (n : H L = none) : NvD A (some L) (upd H L o) v d := fun p hp => by
  refine PyV.mono (fun b u e => ?_) (h p hp)
  have np : p ≠ some b := fun z => by unfold hid at e; rw [if_pos z] at e; cases e
  rw [hid_at np, hid_at (by intro z; cases z)] at e
  have nb : b ≠ L := fun z => by rw [z, n] at e; cases e
  rw [hid_at np, hid_at (fun z => nb (by cases z; rfl)), upd_ne nb]
  exact e
theorem nv_upd {v : V} {d : PyData} {L : Addr} {o : HO} (h : NvD A (some L) H v d) : NvD A (some L) (upd H L o) v d := fun p hp => by
  have : hid (some L) (upd H L o) = hid (some L) H := by
    funext b
    unfold hid
    by_cases e : (some L : Option Addr) = some b
    · rw [if_pos e, if_pos e]
    · rw [if_neg e, if_neg e, upd_ne (fun z => e (by rw [z]))]
  rw [this]
  exact h p hp
theorem nv_un {v : V} {d : PyData} (h : NvD A D H v d) : ∀ p, A p → PyV (hid p H) v d := fun p hp => PyV.mono (hid_same hid_le) (h p hp)
theorem nv_of {v : V} {d : PyData} (h : ∀ p, A p → PyV (hid p H) v d) : NvD A none H v d := fun p hp => PyV.mono (hid_same fun b u e => by rw [hid_at (by intro z; cases z)]; exact e) (h p hp)
end
structure BadP (n k : Nat) (d : PyData) : Prop where
  no : sqAtB n k d = false
  l1 : (items d).length ≤ 200
  l2 : ∀ c ∈ items d, (items c).length ≤ 200
  sm : ∀ p, GoodD d p → p.1.natAbs < 2 ^ 2000 ∧ Rb 2000 p.2
end T24
set_option Elab.async false
set_option linter.all false
set_option maxRecDepth 100000
set_option maxHeartbeats 4000000
namespace T24
open PySem PySem.Spec PyProof.Rows L2 Gd Zn Rp Dn Tb Gn En Zs Ct Op Oc Rg Rt Ro Oa Ob
theorem rowOf_len {n : Nat} {d : PyData} (h : (items d).length ≠ n) : rowOfB n d = false := by
  unfold rowOfB
  rw [decide_eq_false h, Bool.and_false]
theorem rowOf_seq {n : Nat} {d : PyData} (h : isSeq d = false) : rowOfB n d = false := by
  unfold rowOfB rowB
  rw [h]
  rfl
theorem rowOf_it {n : Nat} {d : PyData} {e : PyData} (m : e ∈ items d) (h : isIntD e = false) : rowOfB n d = false := by
  have : (items d).all isIntD = false := by
    rw [List.all_eq_false]
    exact ⟨e, m, by rw [h]; simp⟩
  unfold rowOfB rowB
  rw [this, Bool.and_false]
  rfl
theorem iD_inj {xs ys : List Int} (h : iD xs = iD ys) : xs = ys := by
  have := congrArg intsD h
  rwa [ints_iD, ints_iD] at this
theorem l3 {n : Nat} {R : List Int} (l : R.length = n) (h3 : n ≤ 3) : (iD R).length ≤ 200 := by unfold iD; rw [List.length_map]; omega
theorem its_int {R : List Int} : ∀ c ∈ iD R, (items c).length ≤ 200 := fun c hc => by
  unfold iD at hc
  obtain ⟨x, _, rfl⟩ := List.mem_map.mp hc
  exact Nat.zero_le _
/-- a pair whose second part is wrong -/
theorem bad_pair {n k : Nat} {b : Int} {X : PyData} (hb : b.natAbs < 2 ^ 2000) (lX : (items X).length ≤ 200) (hX : rowOfB n X = false ∨ headB k (intsD (items X)) = false) (sm : ∀ xs, items X = iD xs → Rb 2000 xs) : BadP n k (.tuple [.int b, X]) := by
  refine ⟨?_, by show 2 ≤ 200; decide, fun c hc => ?_, fun p hg => ?_⟩
  · rw [sqAt_pair]
    rcases hX with h | h
    · rw [h, Bool.and_false, Bool.false_and]
    · rw [h, Bool.and_false]
  · have : c = .int b ∨ c = X := by simpa [items] using hc
    rcases this with rfl | rfl
    · exact Nat.zero_le _
    · exact lX
  · obtain ⟨dr, e, _, e3⟩ := hg
    cases e
    exact ⟨hb, sm _ e3⟩
theorem bad_no {n k : Nat} {d : PyData} (h : ∀ b X, d ≠ .tuple [.int b, X]) (l1 : (items d).length ≤ 200) (l2 : ∀ c ∈ items d, (items c).length ≤ 200) : BadP n k d := by
  refine ⟨?_, l1, l2, fun p hg => ?_⟩
  · unfold sqAtB
    split
    · exact absurd rfl (h _ _)
    · rfl
  · obtain ⟨dr, e, _⟩ := hg
    exact absurd e (h _ _)
theorem bad_head {n k : Nat} {b : Int} {R : List Int} (hb : b.natAbs < 2 ^ 2000) (h1 : b < 1) (l : R.length = n) (h3 : n ≤ 3) (hR : Rb 2000 R) : BadP n k (.tuple [.int b, .tuple (iD R)]) := by
  refine ⟨?_, by show 2 ≤ 200; decide, fun c hc => ?_, fun p hg => ?_⟩
  · rw [sqAt_pair, decide_eq_false (by omega), Bool.false_and, Bool.false_and]
  · have : c = .int b ∨ c = .tuple (iD R) := by simpa [items] using hc
    rcases this with rfl | rfl
    · exact Nat.zero_le _
    · exact l3 l h3
  · obtain ⟨dr, e, _, e3⟩ := hg
    cases e
    exact ⟨hb, by rw [iD_inj e3] at hR; exact hR⟩
section
variable {n k : Nat} {b : Int} {R : List Int}
theorem bd1 (l : R.length = n) (h3 : n ≤ 3) : BadP n k (.list [.int b, .tuple (iD R)]) := bad_no (fun _ _ z => by cases z) (by show 2 ≤ 200; decide) fun c hc => by
  have : c = .int b ∨ c = .tuple (iD R) := by simpa [items] using hc
  rcases this with rfl | rfl
  · exact Nat.zero_le _
  · exact l3 l h3
theorem bd2 (l : R.length = n) (h3 : n ≤ 3) : BadP n k (.tuple [.bool true, .tuple (iD R)]) := bad_no (fun _ _ z => by cases z) (by show 2 ≤ 200; decide) fun c hc => by
  have : c = .bool true ∨ c = .tuple (iD R) := by simpa [items] using hc
  rcases this with rfl | rfl
  · exact Nat.zero_le _
  · exact l3 l h3
theorem bd5 (l : R.length = n) (h3 : n ≤ 3) : BadP n k (.tuple [.int b, .tuple (iD R), .int 0]) := bad_no (fun _ _ z => by cases z) (by show 3 ≤ 200; decide) fun c hc => by
  have : c = .int b ∨ c = .tuple (iD R) ∨ c = .int 0 := by simpa [items] using hc
  rcases this with rfl | rfl | rfl
  · exact Nat.zero_le _
  · exact l3 l h3
  · exact Nat.zero_le _
theorem bd6 : BadP n k (.tuple [.int b]) := bad_no (fun _ _ z => by cases z) (by show 1 ≤ 200; decide) fun c hc => by
  have : c = .int b := by simpa [items] using hc
  subst this
  exact Nat.zero_le _
theorem bd7 : BadP n k (.int b) := bad_no (fun _ _ z => by cases z) (Nat.zero_le _) fun c hc => by cases hc
theorem bd8 (l : R.length = n) (h3 : n ≤ 3) (hR : Rb 2000 R) : BadP n k (.tuple (iD R)) := by
  by_cases l2 : R.length = 2
  · obtain ⟨x, y, rfl⟩ := len2 l2
    exact bad_pair (b := x) (X := .int y) (hR x (by simp)) (Nat.zero_le _) (.inl (rowOf_seq rfl)) fun xs e => by
      have : xs = [] := by
        cases xs with
        | nil => rfl
        | cons x xs => cases e
      subst this
      exact fun x hx => by cases hx
  · exact bad_no (fun b X z => l2 (by
      have : iD R = [.int b, X] := PyData.tuple.inj z
      have := congrArg List.length this
      unfold iD at this
      rw [List.length_map] at this
      exact this)) (l3 l h3) its_int
theorem bd9 : BadP n k .none := bad_no (fun _ _ z => by cases z) (Nat.zero_le _) fun c hc => by cases hc
theorem bd10 (l : R.length = n) (h3 : n ≤ 3) : BadP n k (.tuple [.none, .tuple (iD R)]) := bad_no (fun _ _ z => by cases z) (by show 2 ≤ 200; decide) fun c hc => by
  have : c = .none ∨ c = .tuple (iD R) := by simpa [items] using hc
  rcases this with rfl | rfl
  · exact Nat.zero_le _
  · exact l3 l h3
theorem bdL (hb : b.natAbs < 2 ^ 2000) {Y : List Int} (l : Y.length ≠ n) (l2 : Y.length ≤ 100) (hY : Rb 2000 Y) : BadP n k (.tuple [.int b, .tuple (iD Y)]) :=
  bad_pair hb (by show (iD Y).length ≤ 200; unfold iD; rw [List.length_map]; omega) (.inl (rowOf_len (by show (iD Y).length ≠ n; unfold iD; rw [List.length_map]; exact l))) fun xs e => by rw [← iD_inj (xs := Y) e]; exact hY
theorem bd13 (hb : b.natAbs < 2 ^ 2000) : BadP n k (.tuple [.int b, .none]) := bad_pair hb (Nat.zero_le _) (.inl (rowOf_seq rfl)) fun xs e => by
  have : xs = [] := by
    cases xs with
    | nil => rfl
    | cons x xs => cases e
  subst this
  exact fun x hx => by cases hx
theorem bdS (hb : b.natAbs < 2 ^ 2000) {z : Str} : BadP n k (.tuple [.int b, .str z]) := bad_pair hb (Nat.zero_le _) (.inl (rowOf_seq rfl)) fun xs e => by
  have : xs = [] := by
    cases xs with
    | nil => rfl
    | cons x xs => cases e
  subst this
  exact fun x hx => by cases hx
theorem bdI (hb : b.natAbs < 2 ^ 2000) {X e : PyData} (l : (items X).length ≤ 100) (m : e ∈ items X) (h : isIntD e = false) : BadP n k (.tuple [.int b, X]) :=
  bad_pair hb (by omega) (.inl (rowOf_it m h)) fun xs ex => by
    exfalso
    rw [ex] at m
    unfold iD at m
    obtain ⟨x, _, rfl⟩ := List.mem_map.mp m
    cases h
theorem bd15 (l : R.length = n) (h3 : n ≤ 3) : BadP n k (.tuple [.tuple (iD R), .int b]) := bad_no (fun _ _ z => by cases z) (by show 2 ≤ 200; decide) fun c hc => by
  have : c = .tuple (iD R) ∨ c = .int b := by simpa [items] using hc
  rcases this with rfl | rfl
  · exact l3 l h3
  · exact Nat.zero_le _
theorem bdH (hb : b.natAbs < 2 ^ 2000) {X : PyData} {Y : List Int} (e : items X = iD Y) (l : Y.length ≤ 100) (hY : Rb 2000 Y) (h : headB k Y = false) : BadP n k (.tuple [.int b, X]) :=
  bad_pair hb (by rw [e]; unfold iD; rw [List.length_map]; omega) (.inr (by rw [e, ints_iD]; exact h)) fun xs ex => by rw [e] at ex; rw [← iD_inj ex]; exact hY
end
end T24
set_option Elab.async false
set_option linter.all false
set_option maxRecDepth 100000
set_option maxHeartbeats 4000000
namespace T24
open PySem PySem.Spec PyProof.Rows L2 Gd Zn Rp Dn Tb Gn En Zs Ct Op Oc Rg Rt Ro Oa Ob
theorem cut_last {xs : List V} : cutV xs none (some (-1)) = xs.take (xs.length - 1) := by
  cases xs with
  | nil => rfl
  | cons x xs =>
    unfold cutV
    have : HT.sIx (x :: xs).length (x :: xs).length (some (-1)) = (x :: xs).length - 1 := by
      unfold HT.sIx
      simp
      omega
    rw [this, HT.sIx_none, List.drop_zero, Nat.sub_zero]
theorem sl_last {K : PySem.W.Frag} {Q : VK} {H : Hp} {a : Addr} {xs : List V} (h : H a = some (.tup xs)) (hx : xs ≠ []) (q : ∀ b H', Same H H' → H' b = some (.tup (xs.take (xs.length - 1))) → (H b = none) → Q (.ref b) H') : rSlA K (.ref a) none (some (-1)) H Q := by
  have l : 0 < xs.length := List.length_pos_iff.mpr hx
  refine ⟨a, xs, rfl, .inl (.inl h), fun z => ?_, fun _ p np => ?_⟩
  · exfalso
    have := z.2
    unfold HT.sIx at this
    simp at this
    omega
  · rw [cut_last]
    exact q p _ (same_new np) upd_same np
theorem ct_cat {K : PySem.W.Frag} {H : Hp} {a b : Addr} {xs ys : List V} {Q : VK} (ha : H a = some (.tup xs)) (hb : H b = some (.tup ys)) (hx : xs ≠ []) (hy : ys ≠ []) (l : xs.length + ys.length ≤ 1000) (q : ∀ p, H p = none → Q (.ref p) (upd H p (.tup (xs ++ ys)))) : rCatT K (.ref a) (.ref b) H Q :=
  ⟨a, b, xs, ys, rfl, rfl, .inl (.inl ha), .inl (.inl hb), hx, Nat.le_trans l (by decide), fun z => absurd z hy, fun _ => q⟩
theorem nv_new {A : Option Addr → Prop} {D : Option Addr} {H0 H H' : Hp} {u : Addr} {vs : List V} {ds : List PyData} (c : Cxt A H0 H D) (n : H u = none) (e : H' u = some (.tup vs)) (h : NvsD A D H' vs ds) : NvD A D H' (.ref u) (.tuple ds) := fun p hp => by
  have e1 : p ≠ some u := fun z => by subst z; exact c.hA u hp (Same.free c.s n)
  have e2 : D ≠ some u := fun z => c.hD u z n
  exact .tup (by rw [hid_at e1, hid_at e2]; exact e) (h p hp)
def EW (A : Option Addr → Prop) (D : Option Addr) (n k : Nat) (H : Hp) (v : V) : Prop := ∃ d, BadP n k d ∧ NvD A D H v d
theorem EW.mono {A : Option Addr → Prop} {D : Option Addr} {n k : Nat} {H H' : Hp} {v : V} (h : EW A D n k H v) (s : Same H H') : EW A D n k H' v := by
  obtain ⟨d, a, b⟩ := h
  exact ⟨d, a, b.mono s⟩
theorem EW.hide {A : Option Addr → Prop} {n k : Nat} {H : Hp} {v : V} {L : Addr} {o : HO} (h : EW A none n k H v) (e : H L = none) : EW A (some L) n k (upd H L o) v := by
  obtain ⟨d, a, b⟩ := h
  exact ⟨d, a, nv_hide b e⟩
theorem EW.chg {A : Option Addr → Prop} {n k : Nat} {H : Hp} {v : V} {L : Addr} {o : HO} (h : EW A (some L) n k H v) : EW A (some L) n k (upd H L o) v := by
  obtain ⟨d, a, b⟩ := h
  exact ⟨d, a, nv_upd b⟩
theorem EW.app {A : Option Addr → Prop} {n k : Nat} {H : Hp} {ws : List V} {v : V} {L : Addr} {o : HO} (h : ∀ w ∈ ws, EW A (some L) n k H w) (h2 : EW A (some L) n k H v) : ∀ w ∈ ws ++ [v], EW A (some L) n k (upd H L o) w := fun w hw => by
  rcases List.mem_append.mp hw with hw | hw
  · exact (h w hw).chg
  · rw [List.mem_singleton.mp hw]; exact h2.chg
theorem r_tif {c : TT} {ta tb : TE} {σ : L2.St} {H : Hp} {Q : VK} (T : V → Hp → Prop) (hT : ∀ v H', T v H' → Q v H') (h : ∀ Q' : VK, (∀ v H', T v H' → Q' v H') → tIf c ta tb σ H Q') : tIf c ta tb σ H Q := h Q hT
theorem inV_zero {R : List Int} : inV (.int 0) (R.map V.int) = true ↔ (0 : Int) ∈ R := by
  unfold inV
  rw [List.any_map, List.any_eq_true]
  constructor
  · rintro ⟨x, hx, e⟩
    have : (x == 0) = true := e
    rw [beq_iff_eq] at this
    rw [← this]; exact hx
  · intro h
    exact ⟨0, h, rfl⟩
theorem flat_ints {R : List Int} : (R.map V.int).all flatV = true := by
  rw [List.all_map]
  exact List.all_eq_true.mpr fun x _ => rfl
def fzD (x : Int) : PyData := if x = 0 then .bool false else .int x
def fzV (x : Int) : V := if x = 0 then .bl false else .int x
theorem nv_fz {A : Option Addr → Prop} {D : Option Addr} {H : Hp} (R : List Int) : NvsD A D H (R.map fzV) (R.map fzD) := fun p hp => by
  induction R with
  | nil => exact .nil
  | cons x R ih =>
    refine .cons ?_ ih
    unfold fzV fzD
    split
    · exact .bl false
    · exact .int x
theorem sl_from1 {K : PySem.W.Frag} {Q : VK} {H : Hp} {a : Addr} {xs : List V} (h : H a = some (.tup xs)) (hx : xs ≠ []) (q : ∀ p, H p = none → Q (.ref p) (upd H p (.tup (xs.drop 1)))) : rSlA K (.ref a) (some 1) none H Q := by
  have l : 0 < xs.length := List.length_pos_iff.mpr hx
  refine ⟨a, xs, rfl, .inl (.inl h), fun z => ?_, fun _ p np => ?_⟩
  · exfalso
    have := z.1
    rw [show (1 : Int) = ((1 : Nat) : Int) from rfl, HT.sIx_nat] at this
    omega
  · have := cutV_drop xs l
    rw [this]
    exact q p np
section
variable {P : Program} {w : World} {K : PySem.W.Frag} {mg : Str → Option Value} {base : Heap} {C : Addr}
abbrev st_spo : Stmt := top 32
abbrev N_spo : List Str := ["_law_told", "_law_at", "_law_bottom", "_law_row", "_law_size", "_law_parts", "_law_number"]
theorem sc_spo : FnScope N_spo ["_law_told", "_law_at"] (defScope st_spo) := ⟨rfl, rfl, rfl, by decide +kernel, rfl, by decide +kernel, by decide +kernel⟩
def sp_spo : Sp := fun vs H Q _ => ∃ (D : Addr) (cs : List Addr) (n k : Nat) (b : Int) (R : List Int) (c r : Addr) (A : Option Addr → Prop), vs = [.ref D, .int k] ∧ H D = some (.lst (cs.map V.ref)) ∧ cs[k]? = some c ∧ H c = some (.tup [.int b, .ref r]) ∧ H r = some (.tup (R.map V.int)) ∧ (∀ p, A p → PyV (hid p H) (.ref r) (.tuple (iD R))) ∧ (∀ a, A (some a) → H a ≠ none) ∧
  b.natAbs < 2 ^ 1999 ∧ 1 ≤ b ∧ R.length = n ∧ 1 ≤ n ∧ n ≤ 3 ∧ Rb 2000 R ∧ (∀ j, j < k → R.getD j 0 = 0) ∧ k < n ∧ ∀ (E : Addr) (ws : List V) (H' : Hp), Same H H' → H E = none → H' E = some (.lst ws) → ws.length ≤ 30 → (∀ w ∈ ws, ∃ d, BadP n k d ∧ ∀ p, A p → PyV (hid p H') w d) → Q (.ref E) H'
theorem ok_spo {f : Addr} {fd : FuncData} (F : Fun K "_law_spoilt" "_law_spoilt" st_spo f fd) (T : Txt mg) : FnOk P w K mg base CX0 1 f fd ["_law_told", "_law_at"] sp_spo := by
  refine F.ok sc_spo (fun vs H Q E h => ?_) (fun cdv A outer s H vs Q E hr h => ?_)
  · obtain ⟨D, cs, n, k, b, R, c, r, A, rfl, _⟩ := h
    rfl
  · obtain ⟨D, cs, n, k, b, R, c, r, A', rfl, hD, hc, hcc, hrr, hrp, hA, bb, b1, lR, h1, h3, hRb, hz, hk, q⟩ := h
    refine ⟨_, pss_cons (ps_asg (pe_ix (r := rIxS2 K) ix_sq (pv 0) (pv 1) (fun _ _ => rfl)) (pg_tup rfl (pgs_cons (pg_name (i := 2) sc_spo.nd rfl (Or.inl rfl)) (pgs_cons (pg_name (i := 3) sc_spo.nd rfl (Or.inl rfl)) pgs_nil))))
      (pss_cons (ps_set (i := 4) sc_spo.nd rfl (Or.inl rfl) (pe_callB (r := Dn.rLen K) c_len (by rfl) T.len PySem.boot_len (pa_cons (pv 3) pa_nil)))
      (pss_cons (ps_set (i := 5) sc_spo.nd rfl (Or.inl rfl) (pe_lst (pa_cons (pe_lst (pa_cons (pv 2) (pa_cons (pv 3) pa_nil))) (pa_cons (pe_tup (pa_cons pe_bl (pa_cons (pv 3) pa_nil))) (pa_cons (pe_tup (pa_cons pe_int (pa_cons (pv 3) pa_nil))) (pa_cons (pe_tup (pa_cons (pe_op op_sub pe_int (pv 2)) (pa_cons (pv 3) pa_nil))) (pa_cons (pe_tup (pa_cons (pv 2) (pa_cons (pv 3) (pa_cons pe_int pa_nil)))) (pa_cons (pe_tup (pa_cons (pv 2) pa_nil)) (pa_cons (pv 2) (pa_cons (pv 3) (pa_cons pe_non (pa_cons (pe_tup (pa_cons pe_non (pa_cons (pv 3) pa_nil))) pa_nil))))))))))))
      (pss_cons (ps_set (i := 5) sc_spo.nd rfl (Or.inl rfl) (pe_op op_cat (pv 5) (pe_lst (pa_cons (pe_tup (pa_cons (pv 2) (pa_cons (pe_slice (r := rSlA K) sl_tupA (pv 3) po_none (po_some (pe_un un_neg pe_int))) pa_nil))) (pa_cons (pe_tup (pa_cons (pv 2) (pa_cons (pe_op (r := rCatT K) op_catT (pv 3) (pe_tup (pa_cons pe_int pa_nil))) pa_nil))) (pa_cons (pe_tup (pa_cons (pv 2) (pa_cons pe_non pa_nil))) (pa_cons (pe_tup (pa_cons (pv 2) (pa_cons (pe_op op_cat (pe_callTy (r := T24.rLst K) T24.c_lst (by rfl) T.list PyProof.Rows.boot_list (pa_cons (pe_slice (r := rSlA K) sl_tupA (pv 3) po_none (po_some (pe_un un_neg pe_int))) pa_nil)) (pe_lst (pa_cons pe_non pa_nil))) pa_nil))) (pa_cons (pe_tup (pa_cons (pv 3) (pa_cons (pv 2) pa_nil))) pa_nil))))))))
      (pss_cons (ps_expr (pe_bm PySem.F.plainAttrs_list PySem.F.slot_list_append PySem.F.type_list_append mt_append (pv 5) (pa_cons (pe_ifExp (pt_cmpR (r := rIn K false) op_in_seq pe_int (pv 3) (by rfl))
          (pe_tup (pa_cons (pv 2) (pa_cons (pe_callTy (r := rTup K) c_tup (by rfl) T.tuple PyProof.Rows.boot_tuple (pa_cons (pe_lc (own := [("_law_number", 6)]) (g := gName 6) (tt := tYes) rfl sc_spo.nd (pi_seq (pv 3)) (blkOk_by (N := N_spo) (sc := defScope st_spo) (by decide +kernel)) (fun _ _ _ _ _ => pg_name (i := 6) sc_spo.nd rfl (Or.inl rfl) (Or.inr rfl)) (fun _ _ _ _ _ => pts_nil)
            (fun _ _ _ _ _ => pe_ifExp (pt_cmpR op_eq (pv 6) pe_int (nomark _)) pe_bl (pv 6))) pa_nil)) pa_nil)))
          (pe_tup (pa_cons (pv 2) (pa_cons (pe_op op_strN pe_str (pv 4)) pa_nil)))) pa_nil)))
      (pss_cons (ps_expr (pe_bm PySem.F.plainAttrs_list PySem.F.slot_list_append PySem.F.type_list_append mt_append (pv 5) (pa_cons (pe_tup (pa_cons (pv 2) (pa_cons (pe_op op_rep (pe_lst (pa_cons pe_int pa_nil)) (pv 4)) pa_nil))) pa_nil)))
      (pss_cons (ps_if (pt_cmpR op_gt (pv 1) pe_int (nomark _)) (pss_one (ps_expr (pe_bm PySem.F.plainAttrs_list PySem.F.slot_list_append PySem.F.type_list_append mt_append (pv 5) (pa_cons (pe_tup (pa_cons (pv 2) (pa_cons (pe_op (r := rCatT K) op_catT (pe_tup (pa_cons pe_int pa_nil)) (pe_slice (r := rSlA K) sl_tupA (pv 3) (po_some pe_int) po_none)) pa_nil))) pa_nil)))) pss_nil)
      (pss_one (ps_ret (pv 5))))))))), ?_⟩
    have c0 : Cxt A' H H none := ⟨hA, Same.refl H, fun d e => by cases e⟩
    have nR : NvD A' none H (.ref r) (.tuple (iD R)) := nv_of hrp
    have b2 : b.natAbs < 2 ^ 2000 := Wd.abs_mono bb (by decide)
    have lr : (R.map V.int).length = n := by rw [List.length_map]; exact lR
    refine r_seq (r_asg (r_op ⟨_, rfl, _, rfl, false, D, _, _, _, rfl, rfl, .inl (.inl hD), ixR hc, ?_⟩))
    refine ⟨c, _, rfl, .inl (.inl hcc), rfl, _, _, rfl, _, _, rfl, rfl, ?_⟩
    refine r_next (r_nseq (r_asg (cb1 ⟨_, rfl, r, _, rfl, .inr (.inl (.inl hrr)), ?_⟩)))
    rw [lr]
    refine r_next (r_nseq (r_asg ?_))
    refine ⟨_, rfl, _, rfl, (by show 2 ≤ sizeLine; decide), fun t1 m1 => ?_⟩
    generalize e1 : upd H t1 _ = H1
    have s1 : Same H H1 := by rw [← e1]; exact same_new m1
    have k1 : NvD A' none H1 (.ref t1) (.list [.int b, .tuple (iD R)]) := by rw [← e1]; exact nv_lst c0 m1 (nv_cons (nv_int b) (nv_cons nR nv_nil))
    clear e1
    have c1 := c0.same s1
    have nR1 := nR.mono s1
    refine ⟨_, rfl, (by show 2 ≤ sizeLine; decide), fun t2 m2 => ?_⟩
    generalize e2 : upd H1 t2 _ = H2
    have s2 : Same H1 H2 := by rw [← e2]; exact same_new m2
    have k2 : NvD A' none H2 (.ref t2) (.tuple [.bool true, .tuple (iD R)]) := by rw [← e2]; exact nv_tup c1 m2 (nv_cons (nv_bl true) (nv_cons nR1 nv_nil))
    clear e2
    have c2 := c1.same s2
    have nR2 := nR1.mono s2
    refine ⟨_, rfl, (by show 2 ≤ sizeLine; decide), fun t3 m3 => ?_⟩
    generalize e3 : upd H2 t3 _ = H3
    have s3 : Same H2 H3 := by rw [← e3]; exact same_new m3
    have k3 : NvD A' none H3 (.ref t3) (.tuple [.int 0, .tuple (iD R)]) := by rw [← e3]; exact nv_tup c2 m3 (nv_cons (nv_int 0) (nv_cons nR2 nv_nil))
    clear e3
    have c3 := c2.same s3
    have nR3 := nR2.mono s3
    refine ⟨_, rfl, _, _, rfl, rfl, _, rfl, (by show 2 ≤ sizeLine; decide), fun t4 m4 => ?_⟩
    generalize e4 : upd H3 t4 _ = H4
    have s4 : Same H3 H4 := by rw [← e4]; exact same_new m4
    have k4 : NvD A' none H4 (.ref t4) (.tuple [.int (0 - b), .tuple (iD R)]) := by rw [← e4]; exact nv_tup c3 m4 (nv_cons (nv_int (0 - b)) (nv_cons nR3 nv_nil))
    clear e4
    have c4 := c3.same s4
    have nR4 := nR3.mono s4
    refine ⟨_, rfl, _, rfl, (by show 3 ≤ sizeLine; decide), fun t5 m5 => ?_⟩
    generalize e5 : upd H4 t5 _ = H5
    have s5 : Same H4 H5 := by rw [← e5]; exact same_new m5
    have k5 : NvD A' none H5 (.ref t5) (.tuple [.int b, .tuple (iD R), .int 0]) := by rw [← e5]; exact nv_tup c4 m5 (nv_cons (nv_int b) (nv_cons nR4 (nv_cons (nv_int 0) nv_nil)))
    clear e5
    have c5 := c4.same s5
    have nR5 := nR4.mono s5
    refine ⟨_, rfl, (by show 1 ≤ sizeLine; decide), fun t6 m6 => ?_⟩
    generalize e6 : upd H5 t6 _ = H6
    have s6 : Same H5 H6 := by rw [← e6]; exact same_new m6
    have k6 : NvD A' none H6 (.ref t6) (.tuple [.int b]) := by rw [← e6]; exact nv_tup c5 m6 (nv_cons (nv_int b) nv_nil)
    clear e6
    have c6 := c5.same s6
    have nR6 := nR5.mono s6
    refine ⟨_, rfl, _, rfl, _, rfl, (by show 2 ≤ sizeLine; decide), fun t7 m7 => ?_⟩
    generalize e7 : upd H6 t7 _ = H7
    have s7 : Same H6 H7 := by rw [← e7]; exact same_new m7
    have k7 : NvD A' none H7 (.ref t7) (.tuple [.none, .tuple (iD R)]) := by rw [← e7]; exact nv_tup c6 m7 (nv_cons nv_non (nv_cons nR6 nv_nil))
    clear e7
    have c7 := c6.same s7
    have nR7 := nR6.mono s7
    refine ⟨(by show 10 ≤ sizeLine; decide), fun P1 nP1 => ?_⟩
    generalize e8 : upd H7 P1 _ = H8
    have s8 : Same H7 H8 := by rw [← e8]; exact same_new nP1
    have hP1 : H8 P1 = some (.lst [.ref t1, .ref t2, .ref t3, .ref t4, .ref t5, .ref t6, .int b, .ref r, .non, .ref t7]) := by rw [← e8]; exact upd_same
    clear e8
    have c8 := c7.same s8
    have nR8 := nR7.mono s8
    have Rne : R.map V.int ≠ [] := fun z => by rw [z] at lr; simp at lr; omega
    have eTk : (R.map V.int).take ((R.map V.int).length - 1) = (R.take (n - 1)).map V.int := by rw [lr, List.map_take]
    have hr8 : H8 r = some (.tup (R.map V.int)) := (c8.s) _ _ hrr
    refine r_next (r_nseq (r_asg (r_op ⟨_, rfl, ?_⟩)))
    refine ⟨_, rfl, _, rfl, _, rfl, _, rfl, sl_last hr8 Rne fun u9 H9 s9 h9 m9 => ?_⟩
    rw [eTk] at h9
    have k9 : NvD A' none H9 (.ref u9) (.tuple (iD (R.take (n - 1)))) := nv_new c8 m9 h9 (nv_ints _)
    have c9 := c8.same s9
    have nR9 := nR8.mono s9
    refine ⟨(by show 2 ≤ sizeLine; decide), fun t10 m10 => ?_⟩
    generalize e10 : upd H9 t10 _ = H10
    have s10 : Same H9 H10 := by rw [← e10]; exact same_new m10
    have k10 : NvD A' none H10 (.ref t10) (.tuple [.int b, .tuple (iD (R.take (n - 1)))]) := by rw [← e10]; exact nv_tup c9 m10 (nv_cons (nv_int b) (nv_cons k9 nv_nil))
    clear e10
    have c10 := c9.same s10
    have nR10 := nR9.mono s10
    refine ⟨_, rfl, _, rfl, (by show 1 ≤ sizeLine; decide), fun z11 y11 => ?_⟩
    generalize e11 : upd H10 z11 _ = H11
    have s11 : Same H10 H11 := by rw [← e11]; exact same_new y11
    have h11 : H11 z11 = some (.tup [.int 0]) := by rw [← e11]; exact upd_same
    clear e11
    have c11 := c10.same s11
    have nR11 := nR10.mono s11
    refine ct_cat (c11.s _ _ hrr) h11 Rne (fun z => by cases z) (by rw [lr]; show n + 1 ≤ 1000; omega) fun u12 m12 => ?_
    generalize e12 : upd H11 u12 _ = H12
    have s12 : Same H11 H12 := by rw [← e12]; exact same_new m12
    have k12 : NvD A' none H12 (.ref u12) (.tuple (iD (R ++ [0]))) := nv_new c11 m12 (by rw [← e12]; exact upd_same) (by
      have := nv_ints (A := A') (D := none) (H := H12) (R ++ [0])
      rw [List.map_append] at this
      exact this)
    clear e12
    have c12 := c11.same s12
    have nR12 := nR11.mono s12
    refine ⟨(by show 2 ≤ sizeLine; decide), fun t13 m13 => ?_⟩
    generalize e13 : upd H12 t13 _ = H13
    have s13 : Same H12 H13 := by rw [← e13]; exact same_new m13
    have k13 : NvD A' none H13 (.ref t13) (.tuple [.int b, .tuple (iD (R ++ [0]))]) := by rw [← e13]; exact nv_tup c12 m13 (nv_cons (nv_int b) (nv_cons k12 nv_nil))
    clear e13
    have c13 := c12.same s13
    have nR13 := nR12.mono s13
    refine ⟨_, rfl, (by show 2 ≤ sizeLine; decide), fun t14 m14 => ?_⟩
    generalize e14 : upd H13 t14 _ = H14
    have s14 : Same H13 H14 := by rw [← e14]; exact same_new m14
    have k14 : NvD A' none H14 (.ref t14) (.tuple [.int b, .none]) := by rw [← e14]; exact nv_tup c13 m14 (nv_cons (nv_int b) (nv_cons nv_non nv_nil))
    clear e14
    have c14 := c13.same s14
    have nR14 := nR13.mono s14
    refine ⟨_, rfl, _, rfl, _, rfl, _, rfl, sl_last (c14.s _ _ hrr) Rne fun u15 H15 s15 h15 m15 => ?_⟩
    rw [eTk] at h15
    have c15 := c14.same s15
    have nR15 := nR14.mono s15
    refine ⟨_, _, rfl, .inr (.inl (.inl h15)), fun l16 m16 => ?_⟩
    generalize e16 : upd H15 l16 _ = H16
    have s16 : Same H15 H16 := by rw [← e16]; exact same_new m16
    have h16 : H16 l16 = some (.lst ((R.take (n - 1)).map V.int)) := by rw [← e16]; exact upd_same
    clear e16
    refine ⟨(by show 1 ≤ sizeLine; decide), fun l17 m17 => ⟨l16, l17, _, _, rfl, rfl, same_new m17 _ _ h16, upd_same, ?_, fun l18 m18 => ?_⟩⟩
    · refine Nat.le_trans ?_ (by decide : 1000 ≤ sizeLine)
      rw [List.length_map, List.length_take]
      show _ + 1 ≤ 1000
      omega
    generalize e18 : upd (upd H16 l17 _) l18 _ = H18
    have s18 : Same H16 H18 := by rw [← e18]; exact (same_new m17).trans (same_new m18)
    have c16 := c15.same s16
    have k18 : NvD A' none H18 (.ref l18) (.list (iD (R.take (n - 1)) ++ [.none])) := by
      have s17 : Same H16 (upd H16 l17 (.lst [V.non])) := same_new m17
      rw [← e18]
      refine nv_lst (c16.same s17) m18 fun p hp => ?_
      have : ∀ xs : List Int, PyVs (hid p (hid none (upd H16 l17 (.lst [V.non])))) (xs.map V.int ++ [V.non]) (iD xs ++ [PyData.none]) := fun xs => by
        induction xs with
        | nil => exact .cons .non .nil
        | cons x xs ih => exact .cons (.int x) ih
      exact this _
    clear e18
    have c18 := c16.same s18
    have nR18 := (nR15.mono s16).mono s18
    refine ⟨(by show 2 ≤ sizeLine; decide), fun t19 m19 => ?_⟩
    generalize e19 : upd H18 t19 _ = H19
    have s19 : Same H18 H19 := by rw [← e19]; exact same_new m19
    have k19 : NvD A' none H19 (.ref t19) (.tuple [.int b, .list (iD (R.take (n - 1)) ++ [.none])]) := by rw [← e19]; exact nv_tup c18 m19 (nv_cons (nv_int b) (nv_cons k18 nv_nil))
    clear e19
    have c19 := c18.same s19
    have nR19 := nR18.mono s19
    refine ⟨_, rfl, _, rfl, (by show 2 ≤ sizeLine; decide), fun t20 m20 => ?_⟩
    generalize e20 : upd H19 t20 _ = H20
    have s20 : Same H19 H20 := by rw [← e20]; exact same_new m20
    have k20 : NvD A' none H20 (.ref t20) (.tuple [.tuple (iD R), .int b]) := by rw [← e20]; exact nv_tup c19 m20 (nv_cons nR19 (nv_cons (nv_int b) nv_nil))
    clear e20
    have c20 := c19.same s20
    have nR20 := nR19.mono s20
    have z10 : Same H8 H20 := s9.trans (s10.trans (s11.trans (s12.trans (s13.trans (s14.trans (s15.trans (s16.trans (s18.trans (s19.trans s20)))))))))
    refine ⟨(by show 5 ≤ sizeLine; decide), fun P2 nP2 => ⟨P1, P2, _, _, rfl, rfl, same_new nP2 _ _ (z10 _ _ hP1), upd_same, (by show 15 ≤ sizeLine; decide), fun L nL => ?_⟩⟩
    generalize e21 : upd H20 P2 _ = H21 at nL
    have s21 : Same H20 H21 := by rw [← e21]; exact same_new nP2
    clear e21
    have c21 := c20.same s21
    have nR21 := nR20.mono s21
    have w20 : Same H20 H21 := s21
    have w19 := s20.trans w20
    have w18 := s19.trans w19
    have w14 := s15.trans (s16.trans (s18.trans w18))
    have w13 := s14.trans w14
    have w10 := s11.trans (s12.trans (s13.trans w13))
    have w8 := s9.trans (s10.trans w10)
    have w7 := s8.trans w8
    have w6 := s7.trans w7
    have w5 := s6.trans w6
    have w4 := s5.trans w5
    have w3 := s4.trans w4
    have w2 := s3.trans w3
    have w1 := s2.trans w2
    have lTk : (R.take (n - 1)).length = n - 1 := by rw [List.length_take]; omega
    have rTk : Rb 2000 (R.take (n - 1)) := fun x hx => hRb x (List.mem_of_mem_take hx)
    have rAp : Rb 2000 (R ++ [0]) := fun x hx => by
      rcases List.mem_append.mp hx with hx | hx
      · exact hRb x hx
      · rw [List.mem_singleton.mp hx]
        exact Nat.pow_pos (by decide)
    have all1 : ∀ w ∈ ([V.ref t1, .ref t2, .ref t3, .ref t4, .ref t5, .ref t6, .int b, .ref r, .non, .ref t7] ++ [V.ref t10, .ref t13, .ref t14, .ref t19, .ref t20] : List V), EW A' none n k H21 w := fun w hw => by
      simp only [List.cons_append, List.nil_append, List.mem_cons, List.not_mem_nil, or_false] at hw
      rcases hw with h | h | h | h | h | h | h | h | h | h | h | h | h | h | h <;> rw [h]
      · exact ⟨_, bd1 lR h3, k1.mono w1⟩
      · exact ⟨_, bd2 lR h3, k2.mono w2⟩
      · exact ⟨_, bad_head (Nat.pow_pos (by decide)) (by decide) lR h3 hRb, k3.mono w3⟩
      · exact ⟨_, bad_head (b := 0 - b) (by rw [show (0 - b).natAbs = b.natAbs by omega]; exact b2) (by omega) lR h3 hRb, k4.mono w4⟩
      · exact ⟨_, bd5 lR h3, k5.mono w5⟩
      · exact ⟨_, bd6, k6.mono w6⟩
      · exact ⟨_, bd7, nv_int b⟩
      · exact ⟨_, bd8 lR h3 hRb, nR21⟩
      · exact ⟨_, bd9, nv_non⟩
      · exact ⟨_, bd10 lR h3, k7.mono w7⟩
      · exact ⟨_, bdL b2 (by omega) (by omega) rTk, k10.mono w10⟩
      · exact ⟨_, bdL b2 (by rw [List.length_append]; show R.length + 1 ≠ n; omega) (by rw [List.length_append]; show R.length + 1 ≤ 100; omega) rAp, k13.mono w13⟩
      · exact ⟨_, bd13 b2, k14.mono w14⟩
      · refine ⟨_, bdI (e := .none) b2 ?_ (by show PyData.none ∈ iD (R.take (n - 1)) ++ [PyData.none]; simp) rfl, k19.mono w19⟩
        show (iD (R.take (n - 1)) ++ [PyData.none]).length ≤ 100
        rw [List.length_append]
        unfold iD
        rw [List.length_map, lTk]
        show n - 1 + 1 ≤ 100
        omega
      · exact ⟨_, bd15 lR h3, k20.mono w20⟩
    obtain ⟨ws, ews⟩ : ∃ ws : List V, ws = [V.ref t1, .ref t2, .ref t3, .ref t4, .ref t5, .ref t6, .int b, .ref r, .non, .ref t7] ++ [V.ref t10, .ref t13, .ref t14, .ref t19, .ref t20] := ⟨_, rfl⟩
    have lws : ws.length = 15 := by rw [ews]; rfl
    rw [← ews] at all1
    generalize e22 : upd H21 L _ = H22
    have hL22 : H22 L = some (.lst ws) := by rw [← e22, upd_same, ews]
    have all22 : ∀ w ∈ ws, EW A' (some L) n k H22 w := fun w hw => by rw [← e22]; exact (all1 w hw).hide nL
    have nR22 : NvD A' (some L) H22 (.ref r) (.tuple (iD R)) := by rw [← e22]; exact nv_hide nR21 nL
    have S22 : Same H H22 := by rw [← e22]; exact c21.s.trans (same_new nL)
    have nL0 : H L = none := Same.free c21.s nL
    clear e22 ews all1
    have mkC : ∀ {H' : Hp} {vs : List V}, Same H H' → H' L = some (.lst vs) → Cxt A' H H' (some L) := fun s e => ⟨hA, s, fun d z => by cases z; rw [e]; intro z; cases z⟩
    have c22 := mkC S22 hL22
    have fits : ∀ {m : Nat}, m ≤ 100 → m < sizeLine := fun h => Nat.lt_of_lt_of_le (by omega : _ < 1001) (by decide)
    refine r_next (r_nseq (d_bm ⟨_, rfl, .inl ⟨rfl, _, .inl (.inl hL22)⟩, r_cons (r_tif (fun v H' => Same H22 H' ∧ EW A' (some L) n k H' v) (fun v H23 hv => ?_) fun Q' hQ' => ?_)⟩))
    · obtain ⟨s23, ew⟩ := hv
      refine ⟨L, _, _, rfl, rfl, s23 _ _ hL22, fits (by omega), ?_⟩
      have all24 := EW.app (o := .lst (ws ++ [v])) (fun w hw => (all22 w hw).mono s23) ew
      have nR24 : NvD A' (some L) (upd H23 L (.lst (ws ++ [v]))) (.ref r) (.tuple (iD R)) := nv_upd (nR22.mono s23)
      have S24 : Same H (upd H23 L (.lst (ws ++ [v]))) := mut_same (S22.trans s23) nL0
      have hL24 : upd H23 L (.lst (ws ++ [v])) L = some (.lst (ws ++ [v])) := upd_same
      have l24 : (ws ++ [v]).length = 16 := by rw [List.length_append, lws]; rfl
      generalize upd H23 L (.lst (ws ++ [v])) = H24 at all24 nR24 S24 hL24
      generalize ws ++ [v] = ws' at all24 hL24 l24
      have c24 := mkC S24 hL24
      refine r_next (r_nseq (d_bm ⟨_, rfl, .inl ⟨rfl, _, .inl (.inl hL24)⟩, ?_⟩))
      refine ⟨_, rfl, (by show 1 ≤ sizeLine; decide), fun l25 m25 => ⟨_, rfl, l25, (n : Int), [V.int 0], rfl, rfl, upd_same, by omega, by omega, ?_, fun l26 m26 => ?_⟩⟩
      · rw [Int.toNat_natCast]
        exact Nat.le_trans (by simp; omega : _ ≤ 100) (by decide)
      generalize e26 : upd (upd H24 l25 _) l26 _ = H26
      have s26 : Same H24 H26 := by rw [← e26]; exact (same_new m25).trans (same_new m26)
      have k26 : NvD A' (some L) H26 (.ref l26) (.list (iD (List.replicate n 0))) := by
        have s25 : Same H24 (upd H24 l25 (.lst [V.int 0])) := same_new m25
        rw [← e26]
        rw [Int.toNat_natCast, rep_flat]
        refine nv_lst (c24.same s25) m26 ?_
        have := nv_ints (A := A') (D := some L) (H := upd H24 l25 (.lst [V.int 0])) (List.replicate n 0)
        rw [List.map_replicate] at this
        exact this
      clear e26
      have c26 := c24.same s26
      refine ⟨(by show 2 ≤ sizeLine; decide), fun t27 m27 => ?_⟩
      generalize e27 : upd H26 t27 _ = H27
      have s27 : Same H26 H27 := by rw [← e27]; exact same_new m27
      have k27 : NvD A' (some L) H27 (.ref t27) (.tuple [.int b, .list (iD (List.replicate n 0))]) := by rw [← e27]; exact nv_tup c26 m27 (nv_cons (nv_int b) (nv_cons k26 nv_nil))
      clear e27
      have s247 := s26.trans s27
      refine ⟨L, _, _, rfl, rfl, s247 _ _ hL24, fits (by omega), ?_⟩
      have zr : ∀ k, (List.replicate n (0 : Int)).getD k 0 = 0 := fun k => by
        rw [List.getD_eq_getElem?_getD]
        cases e : (List.replicate n (0 : Int))[k]? with
        | none => rfl
        | some x =>
          have := List.eq_of_mem_replicate (List.mem_of_getElem? e)
          rw [this]; rfl
      have ew27 : EW A' (some L) n k H27 (.ref t27) := ⟨_, bdH (Y := List.replicate n 0) b2 rfl (by rw [List.length_replicate]; omega) (fun x hx => by rw [List.eq_of_mem_replicate hx]; exact Nat.pow_pos (by decide)) (by unfold headB; rw [zr k]; rfl), k27⟩
      have all28 := EW.app (o := .lst (ws' ++ [.ref t27])) (fun w hw => (all24 w hw).mono s247) ew27
      have nR28 : NvD A' (some L) (upd H27 L (.lst (ws' ++ [.ref t27]))) (.ref r) (.tuple (iD R)) := nv_upd (nR24.mono s247)
      have S28 : Same H (upd H27 L (.lst (ws' ++ [.ref t27]))) := mut_same (S24.trans s247) nL0
      have hL28 : upd H27 L (.lst (ws' ++ [.ref t27])) L = some (.lst (ws' ++ [.ref t27])) := upd_same
      have l28 : (ws' ++ [V.ref t27]).length = 17 := by rw [List.length_append, l24]; rfl
      generalize upd H27 L (.lst (ws' ++ [.ref t27])) = H28 at all28 nR28 S28 hL28
      generalize ws' ++ [V.ref t27] = ws2 at all28 hL28 l28
      have c28 := mkC S28 hL28
      refine r_next (r_nseq (r_if (r_tt (r_op ⟨_, rfl, _, _, rfl, rfl, _, rfl, ?_⟩))))
      by_cases k0 : 0 < k
      · refine ifT (decide_eq_true (by omega)) (d_bm ⟨_, rfl, .inl ⟨rfl, _, .inl (.inl hL28)⟩, ?_⟩)
        have hne : (R.map V.int).drop 1 ≠ [] := fun z => by
          have := congrArg List.length z
          rw [List.length_drop, lr] at this
          simp at this
          omega
        refine ⟨_, rfl, (by show 1 ≤ sizeLine; decide), fun z29 m29 => ⟨_, rfl, _, rfl, ?_⟩⟩
        have hr29 : upd H28 z29 (.tup [V.int 1]) r = some (.tup (R.map V.int)) := same_new m29 _ _ (S28 _ _ hrr)
        unfold tNoPart
        refine sl_from1 hr29 Rne fun u30 m30 => ?_
        refine ct_cat (same_new m30 _ _ upd_same) upd_same (fun z => by cases z) hne (by rw [List.length_drop, lr]; show 1 + (n - 1) ≤ 1000; omega) fun u31 m31 => ?_
        refine ⟨(by show 2 ≤ sizeLine; decide), fun t32 m32 => ?_⟩
        generalize e30 : upd (upd H28 z29 _) u30 _ = H30 at m31 m32
        have s30 : Same H28 H30 := by rw [← e30]; exact (same_new m29).trans (same_new m30)
        clear e30
        have c30 := c28.same s30
        generalize e31 : upd H30 u31 _ = H31 at m32
        have s31 : Same H30 H31 := by rw [← e31]; exact same_new m31
        have k31 : NvD A' (some L) H31 (.ref u31) (.tuple (iD (1 :: R.drop 1))) := by
          rw [← e31]
          refine nv_tup c30 m31 ?_
          have := nv_ints (A := A') (D := some L) (H := H30) (1 :: R.drop 1)
          rw [List.map_cons, List.map_drop] at this
          exact this
        clear e31
        have c31 := c30.same s31
        generalize e32 : upd H31 t32 _ = H32
        have s32 : Same H31 H32 := by rw [← e32]; exact same_new m32
        have k32 : NvD A' (some L) H32 (.ref t32) (.tuple [.int b, .tuple (iD (1 :: R.drop 1))]) := by rw [← e32]; exact nv_tup c31 m32 (nv_cons (nv_int b) (nv_cons k31 nv_nil))
        clear e32
        have s28z := s30.trans (s31.trans s32)
        refine ⟨L, _, _, rfl, rfl, s28z _ _ hL28, fits (by omega), ?_⟩
        have ew32 : EW A' (some L) n k H32 (.ref t32) := ⟨_, bdH (Y := 1 :: R.drop 1) b2 rfl (by rw [List.length_cons, List.length_drop]; omega) (fun x hx => by
          rcases List.mem_cons.mp hx with rfl | hx
          · exact Nat.one_lt_two_pow (by decide)
          · exact hRb x (List.mem_of_mem_drop hx)) (by
          unfold headB
          obtain ⟨k', rfl⟩ : ∃ k', k = k' + 1 := ⟨k - 1, by omega⟩
          rw [List.take_succ_cons, List.all_cons]
          show (_ && (decide ((1 : Int) = 0) && _)) = false
          rw [show decide ((1 : Int) = 0) = false from rfl, Bool.false_and, Bool.and_false]), k32⟩
        have all33 := EW.app (o := .lst (ws2 ++ [.ref t32])) (fun w hw => (all28 w hw).mono s28z) ew32
        have S33 : Same H (upd H32 L (.lst (ws2 ++ [.ref t32]))) := mut_same (S28.trans s28z) nL0
        refine r_next (r_nret ⟨_, rfl, q L _ _ S33 nL0 upd_same (by rw [List.length_append, l28]; show 17 + 1 ≤ 30; decide) fun w hw => ?_⟩)
        obtain ⟨d, e1, e2⟩ := all33 w hw
        exact ⟨d, e1, nv_un e2⟩
      · refine ifF (decide_eq_false (by omega)) (r_next (r_nret ⟨_, rfl, q L ws2 H28 S28 nL0 hL28 (by omega) fun w hw => ?_⟩))
        obtain ⟨d, e1, e2⟩ := all28 w hw
        exact ⟨d, e1, nv_un e2⟩
    · have hr22 := S22 _ _ hrr
      refine ⟨_, rfl, r, _, rfl, .inr (.inl (.inl hr22)), rfl, flat_ints, _, rfl, ?_⟩
      by_cases hin : inV (.int 0) (R.map V.int) = true
      · refine ifT hin ?_
        have z0 := inV_zero.mp hin
        refine r_tup (r_cons ⟨_, rfl, r_cons (r_cb (r_cons (tlc_call ⟨_, rfl, true, r, _, rfl, .inl (.inl hr22), ?_⟩)))⟩)
        refine lc_el (p := none) n (fun j v => ∃ x, R[j]? = some x ∧ v = fzV x) has_none (by omega) (fun j H4 hj s4 => its_go (t := true) (.inl (.inl (s4.same _ _ hr22))) (List.getElem?_eq_getElem (by omega))) (fun H4 s4 => its_stop (t := true) (.inl (.inl (s4.same _ _ hr22))) (by omega)) (fun j x H4 H5 C' hj s4 _ hy hC => ?_) fun Da H4 rs nDa s4 hDa hrl hrE => ?_
        · obtain ⟨rfl, ex⟩ := its_yld (t := true) hy (.inl (.inl (s4.same _ _ hr22)))
          have ej : R[j]? = some (R[j]'(by omega)) := List.getElem?_eq_getElem _
          rw [List.getElem?_map, ej] at ex
          cases ex
          refine ⟨rfl, _, rfl, rfl, _, rfl, ?_⟩
          by_cases hx : R[j] = 0
          · refine ifT (decide_eq_true (congrArg V.int hx)) (hC _ _ (RX.refl _) ⟨_, ej, ?_⟩)
            unfold fzV
            rw [if_pos hx]
          · refine ifF (decide_eq_false fun e => hx (V.int.inj e)) ⟨_, rfl, hC _ _ (RX.refl _) ⟨_, ej, ?_⟩⟩
            unfold fzV
            rw [if_neg hx]
        · have er : rs = R.map fzV := map_of_get (n := 0) _ (by rw [hrl, lR]) hrE
          subst er
          have c4 := c22.same s4.same
          refine ⟨Da, _, rfl, .inl ⟨.inl (.inl hDa), fun l nl => ⟨(by show 2 ≤ sizeLine; decide), fun t nt => ?_⟩⟩⟩
          have s5 : Same H4 (upd H4 l (.tup (R.map fzV))) := same_new nl
          have k5 := nv_tup c4 nl (nv_fz (A := A') (D := some L) (H := H4) R)
          refine hQ' _ _ ⟨s4.same.trans (s5.trans (same_new nt)), _, ?_, nv_tup (c4.same s5) nt (nv_cons (nv_int b) (nv_cons k5 nv_nil))⟩
          refine bdI (X := .tuple (R.map fzD)) (e := .bool false) b2 ?_ ?_ rfl
          · show (R.map fzD).length ≤ 100
            rw [List.length_map]; omega
          · exact List.mem_map.mpr ⟨0, z0, rfl⟩
      · refine ifF (Bool.eq_false_iff.mpr hin) ?_
        refine ⟨_, rfl, _, rfl, _, (n : Int), rfl, rfl, rfl, by omega, by omega, fun z => ⟨(by show 2 ≤ sizeLine; decide), fun t nt => ?_⟩⟩
        exact hQ' _ _ ⟨same_new nt, _, bdS b2, nv_tup c22 nt (nv_cons (nv_int b) (nv_cons (nv_str z) nv_nil))⟩
end
end T24
set_option Elab.async false
set_option linter.all false
set_option maxRecDepth 100000
set_option maxHeartbeats 4000000
namespace T24
open PySem PySem.Spec PyProof.Rows L2 Gd Zn Rp Dn Tb Gn En Zs Ct Op Oc Rg Rt Ro Oa Ob
structure TP (n : Nat) (M : List (List Int)) (ps : List (Int × List Int)) : Prop where
  h1 : 1 ≤ n
  h3 : n ≤ 3
  len : ps.length = n
  fit : fitsB n M ps = true
  ok : ∀ p ∈ ps, p.2.length = n ∧ p.1.natAbs < 2 ^ 1990 ∧ Rb 1990 p.2
theorem TP.head {n : Nat} {M : List (List Int)} {ps : List (Int × List Int)} (h : TP n M ps) {k : Nat} {p : Int × List Int} (e : ps[k]? = some p) : HeadOk k p := by
  have f := h.fit
  unfold fitsB headsB at f
  rw [Bool.and_eq_true, decide_eq_true_eq] at f
  have hk := (List.getElem?_eq_some_iff.mp e).1
  have := f.1 k hk
  rwa [List.getD_eq_getElem?_getD, e] at this
theorem TP.sums {n : Nat} {M : List (List Int)} {ps : List (Int × List Int)} (h : TP n M ps) : addsB n M ps = true := by
  have f := h.fit
  unfold fitsB at f
  rw [Bool.and_eq_true] at f
  exact f.2
def dat (s : Bool) (p : Int × List Int) : PyData := .tuple [.int p.1, if s = true then .tuple (iD p.2) else .list (iD p.2)]
theorem dat_items (s : Bool) (p : Int × List Int) : isSeq (if s = true then PyData.tuple (iD p.2) else .list (iD p.2)) = true ∧ items (if s = true then PyData.tuple (iD p.2) else .list (iD p.2)) = iD p.2 := by
  cases s <;> exact ⟨rfl, rfl⟩
theorem dat_pair (s : Bool) (p : Int × List Int) : pairOf (dat s p) = p := by
  show ((p.1, intsD (items (if s = true then PyData.tuple (iD p.2) else .list (iD p.2)))) : Int × List Int) = p
  rw [(dat_items s p).2, ints_iD]
theorem dat_at {n k : Nat} {s : Bool} {p : Int × List Int} (h : HeadOk k p) (l : p.2.length = n) (h1 : 1 ≤ n) (h3 : n ≤ 3) : sqAtB n k (dat s p) = true := by
  obtain ⟨i1, i2⟩ := dat_items s p
  unfold dat
  rw [sqAt_pair, i2, ints_iD, row_of i1 i2 l h1 h3, decide_eq_true h.1]
  unfold headB
  rw [decide_eq_true h.2.1]
  have : (p.2.take k).all (fun x => decide (x = 0)) = true := List.all_eq_true.mpr fun x hx => by
    obtain ⟨i, hi, rfl⟩ := List.getElem_of_mem hx
    rw [List.length_take] at hi
    rw [List.getElem_take]
    have := h.2.2 i (by omega)
    rw [List.getD_eq_getElem?_getD, List.getElem?_eq_getElem (by omega : i < p.2.length)] at this
    exact decide_eq_true this
  rw [this]
  rfl
theorem sq_true {n : Nat} {M : List (List Int)} {ps : List (Int × List Int)} {s : Bool} {d : PyData} (h : TP n M ps) (e1 : isSeq d = true) (e2 : items d = ps.map (dat s)) : sqB n M d = true := by
  unfold sqB
  have l : (items d).length = n := by rw [e2, List.length_map, h.len]
  have t : toP (items d) = ps := by
    rw [e2]
    unfold toP
    rw [List.map_map]
    exact (List.map_congr_left fun p _ => dat_pair s p).trans (List.map_id _)
  have a : allAt n (items d) = true := List.all_eq_true.mpr fun k hk => by
    have hk := List.mem_range.mp hk
    rw [l] at hk
    have ep : ps[k]? = some (ps[k]'(by rw [h.len]; exact hk)) := List.getElem?_eq_getElem _
    rw [e2, List.getD_eq_getElem?_getD, List.getElem?_map, ep]
    exact dat_at (h.head ep) (h.ok _ (List.mem_of_getElem? ep)).1 h.h1 h.h3
  rw [e1, decide_eq_true l, t, a, h.sums]
  rfl
theorem sq_len {n : Nat} {M : List (List Int)} {d : PyData} (h : (items d).length ≠ n) : sqB n M d = false := by
  unfold sqB
  rw [decide_eq_false h, Bool.and_false]
  rfl
theorem sq_seq {n : Nat} {M : List (List Int)} {d : PyData} (h : isSeq d = false) : sqB n M d = false := by
  unfold sqB
  rw [h]
  rfl
theorem sqb_at {n k : Nat} {M : List (List Int)} {d e : PyData} (he : (items d)[k]? = some e) (h : sqAtB n k e = false) : sqB n M d = false := by
  have : allAt n (items d) = false := by
    unfold allAt
    rw [List.all_eq_false]
    refine ⟨k, List.mem_range.mpr (List.getElem?_eq_some_iff.mp he).1, ?_⟩
    rw [List.getD_eq_getElem?_getD, he]
    show ¬ sqAtB n k e = true
    rw [h]
    exact Bool.false_ne_true
  unfold sqB
  rw [this, Bool.and_false]
  rfl
structure FineE (e : PyData) : Prop where
  l1 : (items e).length ≤ 200
  l2 : ∀ c ∈ items e, (items c).length ≤ 200
  sm : ∀ p, GoodD e p → p.1.natAbs < 2 ^ 2000 ∧ Rb 2000 p.2
theorem BadP.fine {n k : Nat} {d : PyData} (h : BadP n k d) : FineE d := ⟨h.l1, h.l2, h.sm⟩
theorem fine_of {d : PyData} (l : (items d).length ≤ 200) (h : ∀ e ∈ items d, FineE e) : Fine d := ⟨l, fun e he => (h e he).l1, fun e he => (h e he).l2, fun e he => (h e he).sm⟩
theorem dat_fine {n : Nat} {s : Bool} {p : Int × List Int} (l : p.2.length = n) (h3 : n ≤ 3) (b : p.1.natAbs < 2 ^ 2000) (r : Rb 2000 p.2) : FineE (dat s p) := by
  obtain ⟨i1, i2⟩ := dat_items s p
  refine ⟨by show 2 ≤ 200; decide, fun c hc => ?_, fun q hg => ?_⟩
  · have : c = .int p.1 ∨ c = (if s = true then .tuple (iD p.2) else .list (iD p.2)) := by simpa [dat, items] using hc
    rcases this with rfl | rfl
    · exact Nat.zero_le _
    · rw [i2]; exact l3 l h3
  · obtain ⟨dr, e, _, e3⟩ := hg
    unfold dat at e
    have e1 := PyData.tuple.inj e
    have e4 : PyData.int p.1 = .int q.1 := (List.cons.inj e1).1
    have e5 := (List.cons.inj (List.cons.inj e1).2).1
    rw [← e5, i2] at e3
    have := iD_inj e3
    exact ⟨by rw [← PyData.int.inj e4]; exact b, by rw [← this]; exact r⟩
theorem rb_up {k l : Nat} {xs : List Int} (h : Rb k xs) (e : k ≤ l) : Rb l xs := fun x hx => Wd.abs_mono (h x hx) e
theorem TP.fine {n : Nat} {M : List (List Int)} {ps : List (Int × List Int)} (h : TP n M ps) {s : Bool} {p : Int × List Int} (hp : p ∈ ps) : FineE (dat s p) := by
  obtain ⟨a, b, c⟩ := h.ok p hp
  exact dat_fine a h.h3 (Wd.abs_mono b (by decide)) (rb_up c (by decide))
def sc4 (p : Int × List Int) : Int × List Int := (p.1 * 4, p.2.map fun x => 2 * x)
theorem foldl_mul (ps : List (Int × List Int)) : ∀ w, ps.foldl (fun w p => w * p.1) w = w * prodP ps := by
  induction ps with
  | nil => intro w; show w = w * 1; omega
  | cons p ps ih =>
    intro w
    unfold prodP
    rw [List.foldl_cons, List.foldl_cons, ih, ih (1 * p.1)]
    grind
theorem prod_cons (p : Int × List Int) (ps : List (Int × List Int)) : prodP (p :: ps) = p.1 * prodP ps := by
  show ps.foldl (fun w p => w * p.1) (1 * p.1) = _
  rw [foldl_mul, Int.one_mul]
theorem prod_sc4 (ps : List (Int × List Int)) : prodP (ps.map sc4) = 4 ^ ps.length * prodP ps := by
  induction ps with
  | nil => rfl
  | cons p ps ih =>
    rw [List.map_cons, prod_cons, prod_cons, ih, List.length_cons, Int.pow_succ]
    show p.1 * 4 * _ = _
    grind
theorem prod_dvd : ∀ {ps : List (Int × List Int)} {p : Int × List Int}, p ∈ ps → ∃ q, prodP ps = p.1 * q
  | a :: ps, p, h => by
    rw [prod_cons]
    rcases List.mem_cons.mp h with rfl | h
    · exact ⟨_, rfl⟩
    · obtain ⟨q, e⟩ := prod_dvd h
      exact ⟨a.1 * q, by rw [e]; grind⟩
theorem sum_scale {f g : Int × List Int → Int} {c : Int} : ∀ {ps : List (Int × List Int)}, (∀ p ∈ ps, f p = c * g p) → (ps.map f).sum = c * (ps.map g).sum
  | [], _ => by simp
  | p :: ps, h => by
    rw [List.map_cons, List.map_cons, List.sum_cons, List.sum_cons, h p List.mem_cons_self, sum_scale fun q hq => h q (List.mem_cons_of_mem _ hq)]
    grind
theorem get2 (xs : List Int) (k : Nat) : (xs.map fun x => 2 * x).getD k 0 = 2 * xs.getD k 0 := by
  rw [List.getD_eq_getElem?_getD, List.getElem?_map, List.getD_eq_getElem?_getD]
  cases xs[k]? <;> rfl
theorem tp_sc4 {n : Nat} {M : List (List Int)} {ps : List (Int × List Int)} (h : TP n M ps) (hb : ∀ p ∈ ps, p.1.natAbs < 2 ^ 1900 ∧ Rb 1900 p.2) : TP n M (ps.map sc4) := by
  have hl := h.len
  refine ⟨h.h1, h.h3, by rw [List.length_map, h.len], ?_, fun p hp => ?_⟩
  · unfold fitsB headsB
    rw [Bool.and_eq_true, decide_eq_true_eq]
    refine ⟨fun k hk => ?_, ?_⟩
    · rw [List.length_map] at hk
      have ep : ps[k]? = some ps[k] := List.getElem?_eq_getElem hk
      obtain ⟨a, b, c⟩ := h.head ep
      rw [List.getD_eq_getElem?_getD, List.getElem?_map, ep]
      refine ⟨by show 1 ≤ (ps[k]).1 * 4; omega, ?_, fun j hj => ?_⟩
      · show (List.map (fun x => 2 * x) (ps[k]).2).getD k 0 ≠ 0
        rw [get2]; omega
      · show (List.map (fun x => 2 * x) (ps[k]).2).getD j 0 = 0
        rw [get2, c j hj]; rfl
    · have s := h.sums
      unfold addsB at s ⊢
      rw [decide_eq_true_eq] at s ⊢
      intro a ha b hb
      have e := s a ha b hb
      unfold sumP at e ⊢
      rw [List.map_map, prod_sc4]
      have : ∀ p ∈ ps, (termP (4 ^ ps.length * prodP ps) a b ∘ sc4) p = 4 ^ ps.length * termP (prodP ps) a b p := fun p hp => by
        obtain ⟨q, eq⟩ := prod_dvd hp
        have b0 : 1 ≤ p.1 := by
          obtain ⟨i, hi, rfl⟩ := List.getElem_of_mem hp
          exact (h.head (List.getElem?_eq_getElem hi)).1
        obtain ⟨m, em⟩ : ∃ m, ps.length = m + 1 := ⟨ps.length - 1, by have := h.h1; omega⟩
        show (List.map (fun x => 2 * x) p.2).getD a 0 * (List.map (fun x => 2 * x) p.2).getD b 0 * (4 ^ ps.length * prodP ps / (p.1 * 4)) = 4 ^ ps.length * (p.2.getD a 0 * p.2.getD b 0 * (prodP ps / p.1))
        rw [get2, get2, eq, em, t0 (k := q) (by omega) rfl, t0 (a := p.1 * 4) (k := 4 ^ m * q) (by omega) (by rw [Int.pow_succ]; grind), Int.pow_succ]
        grind
      rw [sum_scale this, e]
      grind
  · obtain ⟨q, hq, rfl⟩ := List.mem_map.mp hp
    obtain ⟨b1, b2⟩ := hb q hq
    refine ⟨by show (q.2.map fun x => 2 * x).length = n; rw [List.length_map]; exact (h.ok q hq).1, ?_, fun x hx => ?_⟩
    · exact Wd.abs_mono (Wd.abs_mul (b := 3) b1 (by decide : (4 : Int).natAbs < 2 ^ 3)) (by decide)
    · obtain ⟨y, hy, rfl⟩ := List.mem_map.mp hx
      exact Wd.abs_mono (Wd.abs_mul (a := 2) (by decide : (2 : Int).natAbs < 2 ^ 2) (b2 y hy)) (by decide)
def unD (n : Nat) : List PyData := (List.range n).map fun k => .tuple [.int 1, .tuple ((List.range n).map fun j => .int (if j = k then 1 else 0))]
def onD (n : Nat) : List PyData := (List.range n).map fun k => .tuple [.int 1, .tuple ((List.range n).map fun j => if j = k then .bool true else .int 0)]
def flD (n : Nat) : List PyData := List.replicate n (.tuple [.int 1, .tuple (iD (List.replicate n 0))])
theorem un_ok {n : Nat} (h1 : 1 ≤ n) (h3 : n ≤ 3) : sqB n (unitM n) (.list (unD n)) = true ∧ sqB n (unitM n) (.list (onD n)) = false ∧ sqB n (unitM n) (.list (.tuple [.bool true, .tuple ((List.range n).map fun j => .int (if j = 0 then 1 else 0))] :: (unD n).drop 1)) = false ∧ sqB n (zeroM n) (.list (flD n)) = false ∧ sqB n (zeroM n) (.list (unD n)) = false := by
  have : n = 1 ∨ n = 2 ∨ n = 3 := by omega
  rcases this with rfl | rfl | rfl <;> decide +kernel
end T24
set_option Elab.async false
set_option linter.all false
set_option maxRecDepth 100000
set_option maxHeartbeats 4000000
namespace T24
open PySem PySem.Spec PyProof.Rows L2 Gd Zn Rp Dn Tb Gn En Zs Ct Op Oc Rg Rt Ro Oa Ob
theorem op_isB {X : Cx} : OpR X (compareOp .Is) (fun x y H Q => ∃ a b, x = .bl a ∧ y = .bl b ∧ Q (.bl (decide (a = b))) H) := by
  intro pins s σ H x y v u Q I rx ry h
  obtain ⟨a, b, rfl, rfl, q⟩ := h
  cases (show v = Value.bool a from rx)
  cases (show u = Value.bool b from ry)
  cases a <;> cases b <;> exact wpAny_of_eq (by kernel_rfl) (fin_bl I q (by rfl))
theorem op_isnB {X : Cx} : OpR X (compareOp .IsNot) (fun x y H Q => ∃ a b, x = .bl a ∧ y = .bl b ∧ Q (.bl (!decide (a = b))) H) := by
  intro pins s σ H x y v u Q I rx ry h
  obtain ⟨a, b, rfl, rfl, q⟩ := h
  cases (show v = Value.bool a from rx)
  cases (show u = Value.bool b from ry)
  cases a <;> cases b <;> exact wpAny_of_eq (by kernel_rfl) (fin_bl I q (by rfl))
theorem hid2_same {p : Option Addr} {D : Addr} {H H' : Hp} (n : H D = none) (s : Same H H') : Same (hid p H) (hid p (hid (some D) H')) := fun b o e => by
  have e0 := hid_le _ _ e
  have np : p ≠ some b := fun z => by unfold hid at e; rw [if_pos z] at e; cases e
  have nD : (some D : Option Addr) ≠ some b := fun z => by cases z; rw [n] at e0; cases e0
  rw [hid_at np, hid_at nD]
  exact s b o e0
theorem hid_upd {D : Addr} {H : Hp} {o : HO} : hid (some D) (upd H D o) = hid (some D) H := by
  funext b
  unfold hid
  by_cases e : (some D : Option Addr) = some b
  · rw [if_pos e, if_pos e]
  · rw [if_neg e, if_neg e, upd_ne (fun z => e (by rw [z]))]
theorem lc_py {J : It} {g : TG} {te : TE} {vs : List Nat} {σ : L2.St} {H1 : Hp} {Q : VK} (n : Nat) (es : Nat → List PyData) (A : Option Addr → Prop) (hA : ∀ a, A (some a) → H1 a ≠ none) (hn : n ≤ 1000)
    (hgo : ∀ i H, i < n → Same H1 H → J.go i H) (hst : ∀ H, Same H1 H → J.stop n H)
    (hs : ∀ D i x H H' (C : VK), H1 D = none → i < n → Same H1 H → J.yld i H x H' → (∀ q H4 us, Same H H4 → H q = none → H4 q = some (.lst us) → (∀ p, A p → PyVs (hid p (hid (some D) H4)) us (es i)) → C (.ref q) H4) → g x (wipe σ vs) H' fun σ2 H2 => wipe σ2 vs = wipe σ vs ∧ te σ2 H2 C)
    (hd : ∀ D H bs, H1 D = none → Same H1 H → H D = some (.lst bs) → bs.length = n → (∀ p, A p → PyVs (hid p H) bs ((List.range n).map fun i => .list (es i))) → Q (.ref D) H) : LcB g tYes te vs σ Q J H1 := by
  intro D nD
  refine ⟨fun i m H => i ≤ n ∧ m = n - i ∧ Same H1 H ∧ ∃ bs : List V, H D = some (.lst bs) ∧ bs.length = i ∧ ∀ p, A p → PyVs (hid p (hid (some D) H)) bs ((List.range i).map fun i => .list (es i)),
    ⟨n, Nat.zero_le _, rfl, same_new nD, [], upd_same, rfl, fun p hp => .nil⟩, ?_⟩
  rintro i m H ⟨hi, rfl, s1, bs, hD, hl, hE⟩
  by_cases hlt : i < n
  · refine .inr ⟨hgo i H hlt s1, fun H' => i + 1 ≤ n ∧ Same H1 H' ∧ ∃ bs : List V, H' D = some (.lst bs) ∧ bs.length = i + 1 ∧ ∀ p, A p → PyVs (hid p (hid (some D) H')) bs ((List.range (i + 1)).map fun i => .list (es i)), fun H' h => ⟨n - (i + 1), by omega, h.1, rfl, h.2⟩, fun x H' hy => ?_⟩
    refine hs D i x H H' _ nD hlt s1 hy fun q H4 us s4 nq e4 hq => ?_
    have hD4 := s4 _ _ hD
    have qD : (some D : Option Addr) ≠ some q := fun z => by cases z; rw [hD] at nq; cases nq
    refine ⟨bs, hD4, Nat.lt_of_lt_of_le (by omega : bs.length < 1001) (by decide), hlt, (RX.mut (p := none) (RX.of (s1.trans s4)) nD has_none).same, bs ++ [V.ref q], upd_same, by rw [List.length_append, hl]; rfl, fun p hp => ?_⟩
    rw [hid_upd, List.range_succ, List.map_append]
    refine pyVs_app (PyVs.mono (hid_same (hid_same s4)) (hE p hp)) (.cons (.lst (xs := us) ?_ (hq p hp)) .nil)
    have np : p ≠ some q := fun z => by subst z; exact hA q hp (Same.free s1 nq)
    rw [hid_at np, hid_at qD]
    exact e4
  · have e : i = n := by omega
    subst e
    exact .inl ⟨hst H s1, hd D H bs nD s1 hD hl fun p hp => PyVs.mono (hid_same hid_le) (hE p hp)⟩
theorem py_bl3 {H : Hp} {a : Addr} {b c d : Bool} (h : H a = some (.lst [.bl b, .bl c, .bl d])) : PyV H (.ref a) (.list [.bool b, .bool c, .bool d]) := .lst h (.cons (.bl b) (.cons (.bl c) (.cons (.bl d) .nil)))
theorem fit_bl3 (b c d : Bool) : Fit (.list [.bool b, .bool c, .bool d]) := by
  have := smN_list (a := 0) (b := 0) (n := 3) (ds := [.bool b, .bool c, .bool d]) (fun x hd => by
    simp only [List.mem_cons, List.not_mem_nil, or_false] at hd
    rcases hd with rfl | rfl | rfl <;> exact smN_bool _) (Nat.le_refl 3)
  exact SmN.fit this (by decide) (by decide)
theorem tff : (PyData.list [.bool true, .bool false, .bool false]).shown = Str.ofString "[True, False, False]" := by decide +kernel
theorem py_bls {H : Hp} {a : Addr} {b c : Bool} (h : H a = some (.lst [.bl b, .bl c])) : PyV H (.ref a) (.list [.bool b, .bool c]) := .lst h (.cons (.bl b) (.cons (.bl c) .nil))
theorem fit_bl2 (b c : Bool) : Fit (.list [.bool b, .bool c]) := by
  have := smN_list (a := 0) (b := 0) (n := 2) (ds := [.bool b, .bool c]) (fun x hd => by
    simp only [List.mem_cons, List.not_mem_nil, or_false] at hd
    rcases hd with rfl | rfl <;> exact smN_bool _) (Nat.le_refl 2)
  exact SmN.fit this (by decide) (by decide)
theorem ttt : (PyData.list [.bool true, .bool true]).shown = Str.ofString "[True, True]" := by decide +kernel
abbrev A0 : Option Addr → Prop := fun p => p = none
theorem a0_cxt {H0 H : Hp} {D : Option Addr} (s : Same H0 H) (hD : ∀ d, D = some d → H d ≠ none) : Cxt A0 H0 H D := ⟨(fun a h => by cases h), s, hD⟩
theorem nv_py {H : Hp} {v : V} {d : PyData} {D : Option Addr} (h : NvD A0 D H v d) : PyV H v d := PyV.mono (fun b o e => hid_le _ _ (hid_le _ _ e)) (h none rfl)
theorem py_nv {H : Hp} {v : V} {d : PyData} (h : PyV H v d) : NvD A0 none H v d := fun p hp => by
  cases hp
  exact PyV.mono (fun b o e => by rw [hid_at (by intro z; cases z), hid_at (by intro z; cases z)]; exact e) h
theorem isq_of {C : Addr} {H : Hp} {n : Nat} {M : List (List Int)} {v : V} {d : PyData} {b : Bool} (h : PyV H v d) (f : Fine d) (e : sqB n M d = b) : IsqV C H n M v b := .inl ⟨d, .inl h, f, e⟩
/-- an odd value -/
def OW (C : Addr) (n : Nat) (M : List (List Int)) (D : Option Addr) (H : Hp) (v : V) : Prop := (∃ d, Fine d ∧ sqB n M d = false ∧ NvD A0 D H v d) ∨ (∃ N, Tab C H v N) ∨ ∃ a, v = .ref a ∧ H a = some (.dK [])
section
variable {C : Addr} {n : Nat} {M : List (List Int)} {H H' : Hp} {v : V}
theorem OW.mono {D : Option Addr} (h : OW C n M D H v) (s : Same H H') : OW C n M D H' v := by
  rcases h with ⟨d, a, b, c⟩ | ⟨N, t⟩ | ⟨a, e, h⟩
  · exact .inl ⟨d, a, b, c.mono s⟩
  · exact .inr (.inl ⟨N, T24.Tab.same s t⟩)
  · exact .inr (.inr ⟨a, e, s _ _ h⟩)
theorem OW.hide {L : Addr} {o : HO} (h : OW C n M none H v) (e : H L = none) : OW C n M (some L) (upd H L o) v := by
  rcases h with ⟨d, a, b, c⟩ | ⟨N, t⟩ | ⟨a, e2, h⟩
  · exact .inl ⟨d, a, b, nv_hide c e⟩
  · exact .inr (.inl ⟨N, T24.Tab.same (same_new e) t⟩)
  · exact .inr (.inr ⟨a, e2, same_new e _ _ h⟩)
theorem OW.chg {L : Addr} {o : HO} {xs : List V} (h : OW C n M (some L) H v) (e : H L = some (.lst xs)) : OW C n M (some L) (upd H L o) v := by
  have ks : KS H (upd H L o) := fun b u nl eu => by
    rw [upd_ne (fun z => by rw [z, e] at eu; cases eu; exact nl _ rfl)]
    exact eu
  rcases h with ⟨d, a, b, c⟩ | ⟨N, t⟩ | ⟨a, e2, h⟩
  · exact .inl ⟨d, a, b, nv_upd c⟩
  · exact .inr (.inl ⟨N, T24.Tab.mono ks t⟩)
  · exact .inr (.inr ⟨a, e2, ks _ _ (fun xs z => by cases z) h⟩)
theorem OW.isq {D : Option Addr} (h : OW C n M D H v) : IsqV C H n M v false := by
  rcases h with ⟨d, a, b, c⟩ | ⟨N, t⟩ | ⟨a, rfl, h⟩
  · exact isq_of (nv_py c) a b
  · exact .inr ⟨⟨N, t⟩, rfl⟩
  · exact .inl ⟨.dict [], .inr ⟨a, [], [], rfl, h, rfl, .nil⟩, fine_of (Nat.zero_le _) (fun e he => by cases he), sq_seq rfl⟩
theorem ow_nv {D : Option Addr} {d : PyData} (h : NvD A0 D H v d) (f : Fine d) (e : sqB n M d = false) : OW C n M D H v := .inl ⟨d, f, e, h⟩
end
theorem fine_sc {d : PyData} (h : items d = []) : Fine d := fine_of (by rw [h]; exact Nat.zero_le _) (fun e he => by rw [h] at he; cases he)
theorem fineE_sc {d : PyData} (h : items d = []) (hg : ∀ p, ¬ GoodD d p) : FineE d := ⟨(by rw [h]; exact Nat.zero_le _), (fun c hc => by rw [h] at hc; cases hc), fun p g => absurd g (hg p)⟩
theorem fineE_list {ds : List PyData} (l : ds.length ≤ 200) (h : ∀ c ∈ ds, (items c).length ≤ 200) : FineE (.list ds) := ⟨l, h, fun p ⟨dr, e, _⟩ => by cases e⟩
/-- told, as values -/
theorem told_nvs {H : Hp} : ∀ {cs : List Addr} {ps : List (Int × List Int)}, cs.length = ps.length → (∀ (k : Nat) (c : Addr) (p : Int × List Int), cs[k]? = some c → ps[k]? = some p → SquA H c p) → PyVs H (cs.map V.ref) (ps.map (dat true))
  | [], [], _, _ => .nil
  | c :: cs, p :: ps, l, h => by
    obtain ⟨r, e1, e2⟩ := h 0 c p rfl rfl
    exact .cons (.tup e1 (.cons (.int _) (.cons (.tup e2 (py_ints _)) .nil))) (told_nvs (Nat.succ.inj l) fun k c p a b => h (k + 1) c p a b)
end T24
set_option Elab.async false
set_option linter.all false
set_option maxRecDepth 100000
set_option maxHeartbeats 8000000
namespace T24
open PySem PySem.Spec PyProof.Rows L2 Gd Zn Rp Dn Tb Gn En Zs Ct Op Oc Rg Rt Ro Oa Ob
theorem nvs_app {A : Option Addr → Prop} {D : Option Addr} {H : Hp} {vs ws : List V} {ds es : List PyData} (a : NvsD A D H vs ds) (b : NvsD A D H ws es) : NvsD A D H (vs ++ ws) (ds ++ es) := fun p hp => pyVs_app (a p hp) (b p hp)
theorem nvs_upd {A : Option Addr → Prop} {L : Addr} {H : Hp} {o : HO} {vs : List V} {ds : List PyData} (h : NvsD A (some L) H vs ds) : NvsD A (some L) (upd H L o) vs ds := fun p hp => by
  have : hid (some L) (upd H L o) = hid (some L) H := by
    funext b
    unfold hid
    by_cases e : (some L : Option Addr) = some b
    · rw [if_pos e, if_pos e]
    · rw [if_neg e, if_neg e, upd_ne (fun z => e (by rw [z]))]
  rw [this]
  exact h p hp
theorem nvs_py {H : Hp} {D : Option Addr} {vs : List V} {ds : List PyData} (h : NvsD A0 D H vs ds) : PyVs H vs ds := PyVs.mono (fun b o e => hid_le _ _ (hid_le _ _ e)) (h none rfl)
theorem nv_newL {A : Option Addr → Prop} {D : Option Addr} {H0 H H' : Hp} {u : Addr} {vs : List V} {ds : List PyData} (c : Cxt A H0 H D) (n : H u = none) (e : H' u = some (.lst vs)) (h : NvsD A D H' vs ds) : NvD A D H' (.ref u) (.list ds) := fun p hp => by
  have e1 : p ≠ some u := fun z => by subst z; exact c.hA u hp (Same.free c.s n)
  have e2 : D ≠ some u := fun z => c.hD u z n
  exact .lst (by rw [hid_at e1, hid_at e2]; exact e) (h p hp)
/-- a comprehension whose elements are data -/
theorem lc_nv {J : It} {g : TG} {te : TE} {vs : List Nat} {σ : L2.St} {H1 : Hp} {Q : VK} (n : Nat) (ds : Nat → PyData) (hn : n ≤ 1000)
    (hgo : ∀ i H, i < n → Same H1 H → J.go i H) (hst : ∀ H, Same H1 H → J.stop n H)
    (hs : ∀ D i x H H' (C : VK), H1 D = none → H D ≠ none → i < n → Same H1 H → J.yld i H x H' → (∀ v H4, Same H H4 → NvD A0 (some D) H4 v (ds i) → C v H4) → g x (wipe σ vs) H' fun σ2 H2 => wipe σ2 vs = wipe σ vs ∧ te σ2 H2 C)
    (hd : ∀ D H bs, H1 D = none → Same H1 H → H D = some (.lst bs) → bs.length = n → PyVs H bs ((List.range n).map ds) → Q (.ref D) H) : LcB g tYes te vs σ Q J H1 := by
  intro D nD
  refine ⟨fun i m H => i ≤ n ∧ m = n - i ∧ Same H1 H ∧ ∃ bs : List V, H D = some (.lst bs) ∧ bs.length = i ∧ NvsD A0 (some D) H bs ((List.range i).map ds),
    ⟨n, Nat.zero_le _, rfl, same_new nD, [], upd_same, rfl, nv_nil⟩, ?_⟩
  rintro i m H ⟨hi, rfl, s1, bs, hD, hl, hE⟩
  by_cases hlt : i < n
  · refine .inr ⟨hgo i H hlt s1, fun H' => i + 1 ≤ n ∧ Same H1 H' ∧ ∃ bs : List V, H' D = some (.lst bs) ∧ bs.length = i + 1 ∧ NvsD A0 (some D) H' bs ((List.range (i + 1)).map ds), fun H' h => ⟨n - (i + 1), by omega, h.1, rfl, h.2⟩, fun x H' hy => ?_⟩
    refine hs D i x H H' _ nD (by rw [hD]; intro z; cases z) hlt s1 hy fun v H4 s4 nv => ?_
    have hD4 := s4 _ _ hD
    refine ⟨bs, hD4, Nat.lt_of_lt_of_le (by omega : bs.length < 1001) (by decide), hlt, mut_same (s1.trans s4) nD, bs ++ [v], upd_same, by rw [List.length_append, hl]; rfl, ?_⟩
    rw [List.range_succ, List.map_append]
    exact nvs_upd (nvs_app (hE.mono s4) (nv_cons nv nv_nil))
  · have e : i = n := by omega
    subst e
    exact .inl ⟨hst H s1, hd D H bs nD s1 hD hl (nvs_py hE)⟩
theorem own_bits {n p : Nat} {M : List (List Int)} (h : SqE n 20 M) (h3 : n ≤ 3) (hp : p < n) : (ownP n M p).1.natAbs < 2 ^ 1100 ∧ Rb 1100 (ownP n M p).2 := by
  have b1 := bel_bits h h3 p (by omega)
  have b2 := left_sqe h h3 (by omega : p ≤ n)
  refine ⟨?_, fun x hx => ?_⟩
  · exact Wd.abs_mono (Wd.abs_mul b1 (ent_bits b2 hp hp)) (by omega)
  · unfold ownP at hx
    rcases List.mem_append.mp hx with hx | hx
    · rw [List.eq_of_mem_replicate hx]
      exact Nat.pow_pos (by decide)
    · have hr := getD_mem (M := leftM n M p) (i := p) (by rw [b2.len]; exact hp)
      exact Wd.abs_mono (b2.bd _ hr x (List.mem_of_mem_drop hx)) (by decide)
theorem own_get {n k : Nat} {M : List (List Int)} (hk : k < n) : (ownL n M)[k]? = some (ownP n M k) := by
  unfold ownL
  rw [List.getElem?_map, List.getElem?_range hk]
  rfl
theorem own_tp {n : Nat} {M : List (List Int)} (h : Rw n 20 M) : TP n M (ownL n M) := by
  refine ⟨h.h1, h.h3, by unfold ownL; rw [List.length_map, List.length_range], own_fits h, fun p hp => ?_⟩
  unfold ownL at hp
  obtain ⟨k, hk, rfl⟩ := List.mem_map.mp hp
  have hk := List.mem_range.mp hk
  obtain ⟨a, b⟩ := own_bits h.bd h.h3 hk
  exact ⟨own_len (left_sqe h.bd h.h3 (by omega : k ≤ n)).sh hk, Wd.abs_mono a (by decide), rb_up b (by decide)⟩
theorem cutV_dropk {xs : List V} {k : Nat} (h : k ≤ xs.length) : cutV xs (some (k : Int)) none = xs.drop k := by
  unfold cutV
  rw [HT.sIx_nat, HT.sIx_none, Nat.min_eq_left h, List.take_of_length_le (by rw [List.length_drop]; exact Nat.le_refl _)]
theorem same_hide {H : Hp} {L : Addr} {o : HO} (n : H L = none) : Same H (hid none (hid (some L) (upd H L o))) := fun b u e => by
  have nb : b ≠ L := fun z => by rw [z, n] at e; cases e
  rw [hid_at (by intro z; cases z), hid_at (fun z => nb (by cases z; rfl)), upd_ne nb]
  exact e
theorem pyVs_take {H : Hp} : ∀ {vs : List V} {ds : List PyData} (k : Nat), PyVs H vs ds → PyVs H (vs.take k) (ds.take k)
  | _, _, 0, _ => .nil
  | _, _, k + 1, .nil => .nil
  | _, _, k + 1, .cons a b => .cons a (pyVs_take k b)
theorem pyVs_drop {H : Hp} : ∀ {vs : List V} {ds : List PyData} (k : Nat), PyVs H vs ds → PyVs H (vs.drop k) (ds.drop k)
  | _, _, 0, h => h
  | _, _, k + 1, .nil => .nil
  | _, _, k + 1, .cons _ b => pyVs_drop k b
theorem choose_list {P : V → PyData → Prop} : ∀ {es : List V}, (∀ w ∈ es, ∃ d, P w d) → ∃ ds : List PyData, ds.length = es.length ∧ ∀ (j : Nat) (w : V) (d : PyData), es[j]? = some w → ds[j]? = some d → P w d
  | [], _ => ⟨[], rfl, fun j w d e => by simp at e⟩
  | x :: es, h => by
    obtain ⟨d, hd⟩ := h x List.mem_cons_self
    obtain ⟨ds, l, hds⟩ := choose_list fun w hw => h w (List.mem_cons_of_mem _ hw)
    refine ⟨d :: ds, by rw [List.length_cons, List.length_cons, l], fun j w d' e1 e2 => ?_⟩
    cases j with
    | zero => cases e1; cases e2; exact hd
    | succ j => exact hds j w d' e1 e2
theorem rows_fine {n : Nat} {G : List (List Int)} (h : Sh n G) (h3 : n ≤ 3) : Fine (lmD G) := by
  refine fine_of ?_ fun e he => ?_
  · show (G.map fun r => PyData.list (iD r)).length ≤ 200
    rw [List.length_map, h.len]; omega
  · obtain ⟨r, hr, rfl⟩ := List.mem_map.mp (show e ∈ G.map (fun r => PyData.list (iD r)) from he)
    exact fineE_list (l3 (h.row r hr) h3) its_int
theorem if_then2 {c : Bool} {t : TS} {D : Ends} {σ : L2.St} {H : Hp} (R : L2.St → Hp → Prop) (hrest : ∀ σ' H', R σ' H' → D.nx σ' H') (ht : c = true → ∀ D' : Ends, (∀ σ' H', R σ' H' → D'.nx σ' H') → t D' σ H) (hf : c = false → R σ H) : if c = true then t D σ H else tNext D σ H := by
  cases c with
  | true => rw [if_pos rfl]; exact ht rfl D hrest
  | false => rw [if_neg (by intro z; cases z)]; exact hrest _ _ (hf rfl)
theorem dat_zero {n : Nat} {s : Bool} {p : Int × List Int} (h : p.2.getD 0 0 = 0) : sqAtB n 0 (dat s p) = false := by
  obtain ⟨_, i2⟩ := dat_items s p
  unfold dat
  rw [sqAt_pair, i2, ints_iD]
  unfold headB
  rw [h]
  simp
theorem fine_no {d : PyData} (h : ∀ b X, d ≠ .tuple [.int b, X]) (l1 : (items d).length ≤ 200) (l2 : ∀ c ∈ items d, (items c).length ≤ 200) : FineE d := ⟨l1, l2, fun p ⟨dr, e, _⟩ => absurd e (h _ _)⟩
theorem un_fine {n : Nat} (h3 : n ≤ 3) : Fine (.list (unD n)) := fine_of (by show (unD n).length ≤ 200; unfold unD; rw [List.length_map, List.length_range]; omega) fun e he => by
  unfold unD at he
  obtain ⟨k, hk, rfl⟩ := List.mem_map.mp (show e ∈ (List.range n).map _ from he)
  have := dat_fine (n := n) (s := true) (p := ((1 : Int), (List.range n).map fun j => if j = k then (1 : Int) else 0)) (by rw [List.length_map, List.length_range]) h3 (Nat.one_lt_two_pow (by decide)) (fun x hx => by
    obtain ⟨j, _, rfl⟩ := List.mem_map.mp hx
    split
    · exact Nat.one_lt_two_pow (by decide)
    · exact Nat.pow_pos (by decide))
  unfold dat iD at this
  rw [List.map_map] at this
  exact this
theorem it_rng {n : Nat} {f : Nat → PyData} (h3 : n ≤ 3) : (items (.tuple ((List.range n).map f))).length ≤ 200 := by
  show ((List.range n).map f).length ≤ 200
  rw [List.length_map, List.length_range]; omega
theorem on_fine {n : Nat} (h3 : n ≤ 3) : Fine (.list (onD n)) := fine_of (by show (onD n).length ≤ 200; unfold onD; rw [List.length_map, List.length_range]; omega) fun e he => by
  unfold onD at he
  obtain ⟨k, hk, rfl⟩ := List.mem_map.mp (show e ∈ (List.range n).map _ from he)
  have hk := List.mem_range.mp hk
  refine ⟨by show 2 ≤ 200; decide, fun c hc => ?_, fun p ⟨dr, e, _, e3⟩ => ?_⟩
  · have : c = .int 1 ∨ c = .tuple ((List.range n).map fun j => if j = k then PyData.bool true else .int 0) := by simpa [items] using hc
    rcases this with rfl | rfl
    · exact Nat.zero_le _
    · exact it_rng h3
  · exfalso
    have e2 := (List.cons.inj (List.cons.inj (PyData.tuple.inj e)).2).1
    rw [← e2] at e3
    have m : PyData.bool true ∈ (List.range n).map fun j => if j = k then PyData.bool true else .int 0 := List.mem_map.mpr ⟨k, List.mem_range.mpr hk, by rw [if_pos rfl]⟩
    rw [show ((List.range n).map fun j => if j = k then PyData.bool true else .int 0) = iD p.2 from e3] at m
    unfold iD at m
    obtain ⟨x, _, z⟩ := List.mem_map.mp m
    cases z
theorem on2_fine {n : Nat} (h3 : n ≤ 3) : Fine (.list (.tuple [.bool true, .tuple ((List.range n).map fun j => .int (if j = 0 then 1 else 0))] :: (unD n).drop 1)) := fine_of (by show ((unD n).drop 1).length + 1 ≤ 200; unfold unD; rw [List.length_drop, List.length_map, List.length_range]; omega) fun e he => by
  rcases List.mem_cons.mp he with rfl | he
  · refine fine_no (fun _ _ z => by cases z) (by show 2 ≤ 200; decide) fun c hc => ?_
    have : c = .bool true ∨ c = .tuple ((List.range n).map fun j => .int (if j = 0 then 1 else 0)) := by simpa [items] using hc
    rcases this with rfl | rfl
    · exact Nat.zero_le _
    · exact it_rng h3
  · have f := un_fine h3
    have m : e ∈ items (.list (unD n)) := List.mem_of_mem_drop he
    exact ⟨f.l1 e m, f.l2 e m, f.sm e m⟩
theorem fl_fine {n : Nat} (h3 : n ≤ 3) : Fine (.list (flD n)) := fine_of (by show (flD n).length ≤ 200; unfold flD; rw [List.length_replicate]; omega) fun e he => by
  unfold flD at he
  rw [List.eq_of_mem_replicate (show e ∈ List.replicate n _ from he)]
  exact dat_fine (n := n) (s := true) (p := ((1 : Int), List.replicate n 0)) List.length_replicate h3 (Nat.one_lt_two_pow (by decide)) (fun x hx => by
    rw [List.eq_of_mem_replicate hx]
    exact Nat.pow_pos (by decide))
theorem nv_map {A : Option Addr → Prop} {D : Option Addr} {H : Hp} {fV : Nat → V} {fD : Nat → PyData} (h : ∀ j, NvD A D H (fV j) (fD j)) : ∀ l : List Nat, NvsD A D H (l.map fV) (l.map fD)
  | [] => nv_nil
  | j :: l => nv_cons (h j) (nv_map h l)
section
variable {P : Program} {w : World} {K : PySem.W.Frag} {mg : Str → Option Value} {base : Heap} {C : Addr}
abbrev st_ri : Stmt := top 33
abbrev N_ri : List Str := ["_law_pot_here", "_law_size", "_law_rows", "_law_form", "_law_told", "_law_fine", "_law_value", "_law_odds", "_law_at", "_law_unit", "_law_units", "_law_ones", "_law_flat", "_law_bottom", "_law_row", "_law_entry", "_law_part", "_law_near", "_law_far", "_law_place", "_law_odd"]
theorem sc_ri : FnScope N_ri ["_law_pot_here"] (defScope st_ri) := ⟨rfl, rfl, rfl, by decide +kernel, rfl, by decide +kernel, by decide +kernel⟩
end
end T24
set_option Elab.async false
set_option linter.all false
set_option maxRecDepth 100000
set_option maxHeartbeats 8000000
namespace T24
open PySem PySem.Spec PyProof.Rows L2 Gd Zn Rp Dn Tb Gn En Zs Ct Op Oc Rg Rt Ro Oa Ob
section
variable {P : Program} {w : World} {K : PySem.W.Frag} {mg : Str → Option Value} {base : Heap} {C : Addr}
theorem ok_ri {f : Addr} {fd : FuncData} (F' : Fun K "_law_right" "_law_right" st_ri f fd) (T : Txt mg) (Fc : Fcl K mg C) (DF : MkrF P w K mg base C) (D1 : Def P w K mg base "_law_draw" 1 ["_law_pot_here", "_law_size"] sp_draw) (D2 : Def P w K mg base "_law_bowl" 2 ["_law_pot_here", "_law_size"] sp_lbw) (D3 : Def P w K mg base "_law_own" 1 ["_law_rows"] sp_own)
    (D4 : Def P w K mg base "_law_fits" 1 ["_law_rows", "_law_value"] sp_fits) (DQ : DefK P w K mg base "is_squares" 5 ["form", "value"] ["value", "form"] (sp_isq C) gU2 gV2) (D5 : Def P w K mg base "_law_spoilt" 1 ["_law_told", "_law_at"] sp_spo) : FnG P w K mg base CX0 10 f fd ["_law_pot_here"] sp_right := by
  refine okG F' sc_ri (fun vs H Q E h => ?_) (fun cdv A outer s H vs Q E hst hr h => ?_)
  · obtain ⟨p, rfl, _⟩ := h
    rfl
  · obtain ⟨p, rfl, hp, q⟩ := h
    refine ⟨_, pss_cons (ps_set (i := 1) sc_ri.nd rfl (Or.inr rfl) (pe_op op_add pe_int (pe_def D1 hr (pa_cons (pv 0) (pa_cons pe_int pa_nil)))))
      (pss_cons (ps_set (i := 2) sc_ri.nd rfl (Or.inl rfl) (pe_def D2 hr (pa_cons (pv 0) (pa_cons (pv 1) pa_nil))))
      (pss_cons (ps_asg (pe_tup (pa_cons (pe_mkrF DF Fc hr (pa_cons (pv 2) pa_nil)) (pa_cons (pe_def D3 hr (pa_cons (pv 2) pa_nil)) pa_nil))) (pg_tup rfl (pgs_cons (pg_name (i := 3) sc_ri.nd rfl (Or.inr rfl)) (pgs_cons (pg_name (i := 4) sc_ri.nd rfl (Or.inr rfl)) pgs_nil))))
      (pss_cons (ps_if (pt_not (pt_val (pe_def D4 hr (pa_cons (pv 2) (pa_cons (pv 4) pa_nil))))) pss_dead pss_nil)
      (pss_cons (ps_set (i := 5) sc_ri.nd rfl (Or.inl rfl) (pe_lst (pa_cons (pv 4) (pa_cons (pe_callTy (r := rTup K) c_tup (by rfl) T.tuple PyProof.Rows.boot_tuple (pa_cons (pv 4) pa_nil)) (pa_cons (pe_lc (own := [("_law_bottom", 13), ("_law_row", 14)]) (g := gTup K 2 (gCons (gName 13) (gCons (gName 14) gNil))) (tt := tYes) rfl sc_ri.nd (pi_seq (pv 4)) (blkOk_by (N := N_ri) (sc := defScope st_ri) (by decide +kernel)) (fun _ _ _ _ _ => pg_tup rfl (pgs_cons (pg_name (i := 13) sc_ri.nd rfl (Or.inl rfl) (Or.inr rfl)) (pgs_cons (pg_name (i := 14) sc_ri.nd rfl (Or.inl rfl) (Or.inr rfl)) pgs_nil))) (fun _ _ _ _ _ => pts_nil) (fun _ _ _ _ _ => pe_tup (pa_cons (pv 13) (pa_cons (pe_callTy (r := T24.rLst K) T24.c_lst (by rfl) T.list PyProof.Rows.boot_list (pa_cons (pv 14) pa_nil)) pa_nil)))) (pa_cons (pe_lc (own := [("_law_bottom", 13), ("_law_row", 14)]) (g := gTup K 2 (gCons (gName 13) (gCons (gName 14) gNil))) (tt := tYes) (te := tTup (tCons (tOp (rI CMulX fun i j => .int (i * j)) (tVar 13) (tC (.int 4))) (tCons (tLc (iSeq K (tVar 14)) (gName 15) tYes (tOp (rI CMulX fun i j => .int (i * j)) (tC (.int 2)) (tVar 15)) [15]) tNil))) rfl sc_ri.nd (pi_seq (pv 4)) (blkOk_by (N := N_ri) (sc := defScope st_ri) (by decide +kernel)) (fun _ _ _ _ _ => pg_tup rfl (pgs_cons (pg_name (i := 13) sc_ri.nd rfl (Or.inl rfl) (Or.inr rfl)) (pgs_cons (pg_name (i := 14) sc_ri.nd rfl (Or.inl rfl) (Or.inr rfl)) pgs_nil))) (fun _ _ _ _ _ => pts_nil) (fun s' H' C' cl' fp' => by
            refine pe_tup (pa_cons (pe_op op_mulX (pv 13) pe_int) (pa_cons ?b pa_nil))
            case b =>
              refine pe_lc (own := [("_law_entry", 15)]) (wi := iSeq K (tVar 14)) (g := gName 15) (tt := tYes) (te := tOp (rI CMulX fun i j => .int (i * j)) (tC (.int 2)) (tVar 15)) rfl sc_ri.nd ?p1 ?p2 ?p3 ?p4 ?p5
              case p1 => exact pi_seq (pv 14)
              case p2 => exact blkOk_by (N := N_ri) (by rfl)
              case p3 => exact (fun _ _ _ _ _ => pg_name (i := 15) sc_ri.nd rfl (Or.inl rfl) (Or.inr rfl))
              case p4 => exact (fun _ _ _ _ _ => pts_nil)
              case p5 => exact (fun _ _ _ _ _ => pe_op op_mulX pe_int (pv 15)))) pa_nil))))))
      (pss_cons (ps_for PassesOwn.never rfl (pi_seq (pv 5)) (pg_name (i := 6) sc_ri.nd rfl (Or.inl rfl)) (pss_one (ps_if (pt_cmpR op_ne (pe_callB (call_repA hst hr) (by rfl) T.repr boot_repr (pa_cons (pe_lst (pa_cons (pe_def DQ.d hr (pa_cons (pv 3) (pa_cons (pv 6) pa_nil))) (pa_cons (pe_defN DQ hr (pk_cons (pv 6) (pk_cons (pv 3) pk_nil))) pa_nil))) pa_nil)) pe_str (nomark _)) pss_dead pss_nil)))
      (pss_cons (ps_set (i := 7) sc_ri.nd rfl (Or.inl rfl) (pe_lst (pa_cons pe_non (pa_cons pe_int (pa_cons pe_bl (pa_cons pe_str (pa_cons pe_str (pa_cons pe_dnewK (pa_cons (pe_lst pa_nil) (pa_cons (pe_tup pa_nil) (pa_cons (pv 3) (pa_cons (pv 2) (pa_cons (pe_op op_rep (pe_lst (pa_cons pe_non pa_nil)) (pv 1)) (pa_cons (pe_op op_cat (pv 4) (pe_lst (pa_cons (pe_ix (r := rIxS2 K) ix_sq (pv 4) pe_int (fun _ _ => rfl)) pa_nil))) (pa_cons (pe_slice (r := rSlL K) sl_list (pv 4) (po_some pe_int) po_none) (pa_cons (pe_lst (pa_cons (pv 4) pa_nil)) (pa_cons (pe_op op_rep (pe_lst (pa_cons (pe_ix (r := rIxS2 K) ix_sq (pv 4) pe_int (fun _ _ => rfl)) pa_nil)) (pe_op op_add (pv 1) pe_int)) pa_nil)))))))))))))))))
      (pss_cons (ps_for PassesOwn.never rfl (pi_range1 (by rfl) T.range (pa_cons (pv 1) pa_nil)) (pg_name (i := 8) sc_ri.nd rfl (Or.inr rfl)) (pss_one (ps_expr (pe_bm PySem.F.plainAttrs_list PySem.F.slot_list_extend PySem.F.type_list_extend mt_extend (pv 7) (pa_cons (pe_lc (own := [("_law_part", 16)]) (g := gName 16) (tt := tYes) rfl sc_ri.nd (pi_seq (pe_def D5 hr (pa_cons (pv 4) (pa_cons (pv 8) pa_nil)))) (blkOk_by (N := N_ri) (sc := defScope st_ri) (by decide +kernel)) (fun _ _ _ _ _ => pg_name (i := 16) sc_ri.nd rfl (Or.inl rfl) (Or.inr rfl)) (fun _ _ _ _ _ => pts_nil) (fun _ _ _ _ _ => (pe_op (r := L2.rCat) op_cat (pe_op (r := L2.rCat) op_cat (pe_slice (r := rSlL K) sl_list (pv 4) po_none (po_some (pv 8))) (pe_lst (pa_cons (pv 16) pa_nil))) (pe_slice (r := rSlL K) sl_list (pv 4) (po_some (pe_op op_add (pv 8) pe_int)) po_none)))) pa_nil)))))
      (pss_cons (ps_if (pt_cmpR op_gt (pv 1) pe_int (nomark _)) (pss_one (ps_set (i := 7) sc_ri.nd rfl (Or.inl rfl) (pe_op op_cat (pv 7) (pe_lst (pa_cons (pe_revL (pv 4)) (pa_cons (pe_op op_cat (pe_lst (pa_cons (pe_ix (r := rIxS2 K) ix_sq (pv 4) pe_int (fun _ _ => rfl)) (pa_cons (pe_ix (r := rIxS2 K) ix_sq (pv 4) pe_int (fun _ _ => rfl)) pa_nil))) (pe_slice (r := rSlL K) sl_list (pv 4) (po_some pe_int) po_none)) pa_nil)))))) pss_nil)
      (pss_cons (ps_set (i := 9) sc_ri.nd rfl (Or.inl rfl) (pe_mkrF DF Fc hr (pa_cons (pe_lc (own := [("_law_near", 17)]) (g := gName 17) (tt := tYes) (te := tLc (iRng1 (tCons (tVar 1) tNil)) (gName 18) tYes (tIf (tTest (tOp rEq (tVar 17) (tVar 18))) (tC (.int 1)) (tC (.int 0))) [18]) rfl sc_ri.nd (pi_range1 (by rfl) T.range (pa_cons (pv 1) pa_nil)) (blkOk_by (N := N_ri) (sc := defScope st_ri) (by decide +kernel)) (fun _ _ _ _ _ => pg_name (i := 17) sc_ri.nd rfl (Or.inr rfl) (Or.inl rfl)) (fun _ _ _ _ _ => pts_nil) (fun s' H' C' cl' fp' => by
              refine pe_lc (own := [("_law_far", 18)]) (wi := iRng1 (tCons (tVar 1) tNil)) (g := gName 18) (tt := tYes) (te := tIf (tTest (tOp rEq (tVar 17) (tVar 18))) (tC (.int 1)) (tC (.int 0))) rfl sc_ri.nd ?p1 ?p2 ?p3 ?p4 ?p5
              case p1 => exact pi_range1 (by rfl) T.range (pa_cons (pv 1) pa_nil)
              case p2 => exact blkOk_by (N := N_ri) (by rfl)
              case p3 => exact (fun _ _ _ _ _ => pg_name (i := 18) sc_ri.nd rfl (Or.inl rfl) (Or.inr rfl))
              case p4 => exact (fun _ _ _ _ _ => pts_nil)
              case p5 => exact (fun _ _ _ _ _ => pe_ifExp (pt_cmpR op_eq (pv 17) (pv 18) (nomark _)) pe_int pe_int))) pa_nil)))
      (pss_cons (ps_setLc (i := 10) (own := [("_law_place", 19)]) (g := gName 19) (tt := tYes) (te := tTup (tCons (tC (.int 1)) (tCons (tCB (rTup K) (tCons (tLc (iRng1 (tCons (tVar 1) tNil)) (gName 8) tYes (tIf (tTest (tOp rEq (tVar 8) (tVar 19))) (tC (.int 1)) (tC (.int 0))) [8]) tNil)) tNil))) rfl sc_ri.nd rfl rfl (sw_true rfl rfl rfl (by decide +kernel)) (pi_range1 (by rfl) T.range (pa_cons (pv 1) pa_nil)) (blkOk_by (N := N_ri) (sc := defScope st_ri) (by decide +kernel)) (fun _ _ _ _ _ => pg_name (i := 19) sc_ri.nd rfl (Or.inr rfl) (Or.inl rfl)) (fun _ _ _ _ _ => pts_nil) (fun s' H' C' cl' fp' => by
            refine pe_tup (pa_cons pe_int (pa_cons (pe_callTy (r := rTup K) c_tup (by rfl) T.tuple PyProof.Rows.boot_tuple (pa_cons ?b pa_nil)) pa_nil))
            case b =>
              refine pe_lc (own := [("_law_at", 8)]) (wi := iRng1 (tCons (tVar 1) tNil)) (g := gName 8) (tt := tYes) (te := tIf (tTest (tOp rEq (tVar 8) (tVar 19))) (tC (.int 1)) (tC (.int 0))) rfl sc_ri.nd ?p1 ?p2 ?p3 ?p4 ?p5
              case p1 => exact pi_range1 (by rfl) T.range (pa_cons (pv 1) pa_nil)
              case p2 => exact blkOk_by (N := N_ri) (by rfl)
              case p3 => exact (fun _ _ _ _ _ => pg_name (i := 8) sc_ri.nd rfl (Or.inl rfl) (Or.inr rfl))
              case p4 => exact (fun _ _ _ _ _ => pts_nil)
              case p5 => exact (fun _ _ _ _ _ => pe_ifExp (pt_cmpR op_eq (pv 8) (pv 19) (nomark _)) pe_int pe_int)))
      (pss_cons (ps_setLc (i := 11) (own := [("_law_place", 19)]) (g := gName 19) (tt := tYes) (te := tTup (tCons (tC (.int 1)) (tCons (tCB (rTup K) (tCons (tLc (iRng1 (tCons (tVar 1) tNil)) (gName 8) tYes (tIf (tTest (tOp rEq (tVar 8) (tVar 19))) (tC (.bl true)) (tC (.int 0))) [8]) tNil)) tNil))) rfl sc_ri.nd rfl rfl (sw_true rfl rfl rfl (by decide +kernel)) (pi_range1 (by rfl) T.range (pa_cons (pv 1) pa_nil)) (blkOk_by (N := N_ri) (sc := defScope st_ri) (by decide +kernel)) (fun _ _ _ _ _ => pg_name (i := 19) sc_ri.nd rfl (Or.inr rfl) (Or.inl rfl)) (fun _ _ _ _ _ => pts_nil) (fun s' H' C' cl' fp' => by
            refine pe_tup (pa_cons pe_int (pa_cons (pe_callTy (r := rTup K) c_tup (by rfl) T.tuple PyProof.Rows.boot_tuple (pa_cons ?b pa_nil)) pa_nil))
            case b =>
              refine pe_lc (own := [("_law_at", 8)]) (wi := iRng1 (tCons (tVar 1) tNil)) (g := gName 8) (tt := tYes) (te := tIf (tTest (tOp rEq (tVar 8) (tVar 19))) (tC (.bl true)) (tC (.int 0))) rfl sc_ri.nd ?p1 ?p2 ?p3 ?p4 ?p5
              case p1 => exact pi_range1 (by rfl) T.range (pa_cons (pv 1) pa_nil)
              case p2 => exact blkOk_by (N := N_ri) (by rfl)
              case p3 => exact (fun _ _ _ _ _ => pg_name (i := 8) sc_ri.nd rfl (Or.inl rfl) (Or.inr rfl))
              case p4 => exact (fun _ _ _ _ _ => pts_nil)
              case p5 => exact (fun _ _ _ _ _ => pe_ifExp (pt_cmpR op_eq (pv 8) (pv 19) (nomark _)) pe_bl pe_int)))
      (pss_cons (ps_if (pt_cmpR op_ne (pe_callB (call_repA hst hr) (by rfl) T.repr boot_repr (pa_cons (pe_lst (pa_cons (pe_def DQ.d hr (pa_cons (pv 9) (pa_cons (pv 10) pa_nil))) (pa_cons (pe_def DQ.d hr (pa_cons (pv 9) (pa_cons (pv 11) pa_nil))) (pa_cons (pe_def DQ.d hr (pa_cons (pv 9) (pa_cons (pe_op op_cat (pe_lst (pa_cons (pe_tup (pa_cons pe_bl (pa_cons (pe_ix (r := rIxS2 K) ix_sq (pe_ix (r := rIxS2 K) ix_sq (pv 10) pe_int (fun _ _ => rfl)) pe_int (fun _ _ => rfl)) pa_nil))) pa_nil)) (pe_slice (r := rSlL K) sl_list (pv 10) (po_some pe_int) po_none)) pa_nil))) pa_nil)))) pa_nil)) pe_str (nomark _)) pss_dead pss_nil)
      (pss_cons (ps_set (i := 12) sc_ri.nd rfl (Or.inl rfl) (pe_mkrF DF Fc hr (pa_cons (pe_lc (own := [("_law_row", 14)]) (g := gName 14) (tt := tYes) rfl sc_ri.nd (pi_range1 (by rfl) T.range (pa_cons (pv 1) pa_nil)) (blkOk_by (N := N_ri) (sc := defScope st_ri) (by decide +kernel)) (fun _ _ _ _ _ => pg_name (i := 14) sc_ri.nd rfl (Or.inl rfl) (Or.inr rfl)) (fun _ _ _ _ _ => pts_nil) (fun _ _ _ _ _ => pe_op op_rep (pe_lst (pa_cons pe_int pa_nil)) (pv 1))) pa_nil)))
      (pss_cons (ps_if (PW.pt (pw_or (pt_cmpR op_isnB (pe_def DQ.d hr (pa_cons (pv 12) (pa_cons (pe_op op_rep (pe_lst (pa_cons (pe_tup (pa_cons pe_int (pa_cons (pe_op op_repN (pe_tup (pa_cons pe_int pa_nil)) (pv 1)) pa_nil))) pa_nil)) (pv 1)) pa_nil))) pe_bl (nomark _)) (pw_or1 (pt_cmpR op_isnB (pe_def DQ.d hr (pa_cons (pv 12) (pa_cons (pv 10) pa_nil))) pe_bl (nomark _))))) pss_dead pss_nil)
      (pss_one (ps_ret (pe_and (pe_callB (cr_all rfl) (by rfl) T.all boot_all (pa_cons (pe_lc (own := [("_law_odd", 20)]) (g := gName 20) (tt := tYes) rfl sc_ri.nd (pi_seq (pv 7)) (blkOk_by (N := N_ri) (sc := defScope st_ri) (by decide +kernel)) (fun _ _ _ _ _ => pg_name (i := 20) sc_ri.nd rfl (Or.inl rfl) (Or.inr rfl)) (fun _ _ _ _ _ => pts_nil) (fun _ _ _ _ _ => pe_cmpR op_isB (pe_def (X := Cx.blk _ _ _ _ _ _) DQ.d hr (pa_cons (pv 3) (pa_cons (pv 20) pa_nil))) pe_bl (nomark _))) pa_nil)) (pe_one (pe_cmpR op_isB (pe_def DQ.d hr (pa_cons (pv 3) (pa_cons (pv 4) pa_nil))) pe_bl (nomark _)))))))))))))))))))), ?_⟩
    have hh : Has (some p) H := fun q e => by cases e; exact hp
    refine r_seq (r_asg (r_op ⟨_, rfl, p, 3, rfl, hp, by decide, by decide, fun r H1 r0 r1 s1 => ⟨_, _, rfl, rfl, ?_⟩⟩))
    obtain ⟨n, en⟩ : ∃ n : Nat, 1 + r = (n : Int) := ⟨(1 + r).toNat, by omega⟩
    have h1 : 1 ≤ n := by omega
    have h3 : n ≤ 3 := by omega
    have ev : (fun i j : Int => V.int (i + j)) 1 r = V.int (n : Int) := congrArg V.int en
    rw [ev]
    have hp1 := s1.pot p rfl hp
    refine r_next (r_nseq (r_asg (a2 ⟨_, rfl, _, rfl, p, n, rfl, hp1, h1, h3, fun Dg H2 G s2 pG rG => ?_⟩)))
    have S2 := s1.trans s2
    have rG20 := rG.up (by decide : 6 ≤ 20)
    have pG2 := py_un pG
    refine r_next (r_nseq (r_asg (r_tup (r_cons (mkF ⟨_, rfl, MkF.of (.inl pG2) (grid_lm _) h1 h3 rG.sy rG.bd (by decide) fun c1 H3 s3 f3 => ?_⟩)))))
    refine r_cons (a1 ⟨_, rfl, .ref Dg, G, n, rfl, pG2.mono s3, rG20.bd, h1, h3, fun D cs H4 s4 hD lcs hcs => ⟨(by show 2 ≤ sizeLine; decide), fun t nt => ⟨t, _, rfl, .inl (.inl upd_same), rfl, _, _, rfl, _, _, rfl, rfl, ?_⟩⟩⟩)
    generalize e5 : upd H4 t _ = H5
    have s5 : Same H4 H5 := by rw [← e5]; exact same_new nt
    clear e5
    have hD5 := s5 _ _ hD
    have f5 := f3.same (s4.trans s5)
    have pG5 := pG2.mono (s3.trans (s4.trans s5))
    have S5 := S2.trans (RX.of (s3.trans (s4.trans s5)))
    have hcs5 : ∀ (k : Nat) (c : Addr), cs[k]? = some c → SquA H5 c (ownP n G k) := fun k c e => (hcs k c e).same s5
    obtain ⟨ps, eps⟩ : ∃ ps, ps = ownL n G := ⟨_, rfl⟩
    have tp : TP n G ps := by rw [eps]; exact own_tp rG20
    have gps : ∀ k, k < n → ps[k]? = some (ownP n G k) := fun k hk => by rw [eps]; exact own_get hk
    have bps : ∀ p ∈ ps, p.1.natAbs < 2 ^ 1900 ∧ Rb 1900 p.2 := fun p hp => by
      obtain ⟨k, hk, rfl⟩ := List.getElem_of_mem hp
      have hk' : k < n := by rw [← tp.len]; exact hk
      have e := gps k hk'
      rw [List.getElem?_eq_getElem hk] at e
      rw [Option.some.inj e]
      obtain ⟨a, b⟩ := own_bits rG20.bd h3 hk'
      exact ⟨Wd.abs_mono a (by decide), rb_up b (by decide)⟩
    have hsq : ∀ (k : Nat) (c : Addr) (p : Int × List Int), cs[k]? = some c → ps[k]? = some p → SquA H5 c p := fun k c p e1 e2 => by
      have hk : k < n := by rw [← tp.len]; exact (List.getElem?_eq_some_iff.mp e2).1
      rw [gps k hk] at e2
      cases e2
      exact hcs5 k c e1
    have lcp : cs.length = ps.length := by rw [lcs, tp.len]
    have tv5 : PyVs H5 (cs.map V.ref) (ps.map (dat true)) := told_nvs lcp hsq
    have tD : ∀ H', Same H5 H' → PyV H' (.ref D) (.list (ps.map (dat true))) := fun H' s => .lst (s _ _ hD5) (PyVs.mono s tv5)
    have tol : Tol H5 (.ref D) ps := ⟨ps.map (dat true), .inl (tD _ (Same.refl _)), by rw [List.length_map], fun i d p e1 e2 => by
      rw [List.getElem?_map, e2] at e1
      cases e1
      exact ⟨_, rfl, rfl, rfl⟩⟩
    have okq : OkQ n ps := fun p hp => by
      obtain ⟨a, b, c⟩ := tp.ok p hp
      exact ⟨a, Wd.abs_mono b (by decide), rb_up c (by decide)⟩
    refine r_next (r_nseq (r_if (r_not (r_b (a2 ⟨_, rfl, _, rfl, .ref Dg, .ref D, G, n, ps, rfl, pG5, rG20.bd.sq (by decide), h3, tol, by rw [tp.len]; exact Nat.le_refl _, okq, fun H6 s6 => ⟨_, rfl, ifF (by rw [tp.fit]; rfl) ?_⟩⟩)))))
    -- the values that are squares
    have lcl : (cs.map V.ref).length = n := by rw [List.length_map, lcs]
    have qD : ∀ H', Same H5 H' → SqV K H' false D (cs.map V.ref) := fun H' s => .inl (.inl (s _ _ hD5))
    refine r_next (r_nseq (r_asg ?_))
    refine ⟨_, rfl, _, rfl, D, _, rfl, .inl ⟨SqL.of (s6 _ _ hD5), fun lt nlt => ?_⟩⟩
    generalize e7 : upd H6 lt _ = H7
    have s7 : Same H6 H7 := by rw [← e7]; exact same_new nlt
    have hlt : H7 lt = some (.tup (cs.map V.ref)) := by rw [← e7]; exact upd_same
    clear e7
    have S57 := s6.trans s7
    refine tlc_call ⟨_, rfl, false, D, _, rfl, qD _ S57, ?_⟩
    have item : ∀ k, k < n → ∃ c p r, (cs.map V.ref)[k]? = some (.ref c) ∧ ps[k]? = some p ∧ (∀ H', Same H5 H' → H' c = some (.tup [.int p.1, .ref r])) ∧ (∀ H', Same H5 H' → H' r = some (.tup (p.2.map V.int))) := fun k hk => by
      have ec : cs[k]? = some (cs[k]'(by omega)) := List.getElem?_eq_getElem _
      obtain ⟨r, a, b⟩ := hcs5 k _ ec
      exact ⟨_, _, r, by rw [List.getElem?_map, ec]; rfl, gps k hk, fun H' s => s _ _ a, fun H' s => s _ _ b⟩
    refine lc_nv n (fun k => dat false (ps.getD k (0, []))) (by omega) (fun i H hi s => its_go (qD _ (S57.trans s)) (List.getElem?_eq_getElem (by omega))) (fun H s => its_stop (qD _ (S57.trans s)) (by omega)) (fun Dc i x H8 H9 C' nDc hDc hi s8 hy hC => ?_) fun La H8 as nLa s8 hLa lal hal => ?_
    · obtain ⟨rfl, ex⟩ := its_yld hy (qD _ (S57.trans s8))
      obtain ⟨c, p, r, e1, e2, e3, e4⟩ := item i hi
      rw [e1] at ex
      cases ex
      have S8 := S57.trans s8
      refine ⟨c, _, rfl, .inl (.inl (e3 _ S8)), rfl, _, _, rfl, _, _, rfl, rfl, rfl, ?_⟩
      refine ⟨_, rfl, _, rfl, _, _, rfl, .inr (.inl (.inl (e4 _ S8))), fun l nl => ⟨(by show 2 ≤ sizeLine; decide), fun tt ntt => ?_⟩⟩
      have cx : Cxt A0 H7 H9 (some Dc) := a0_cxt s8 fun d e => by cases e; exact hDc
      have k1 := nv_lst cx nl (nv_ints (A := A0) (D := some Dc) (H := H9) p.2)
      refine hC _ _ ((same_new nl).trans (same_new ntt)) ?_
      rw [List.getD_eq_getElem?_getD, e2]
      exact nv_tup (cx.same (same_new nl)) ntt (nv_cons (nv_int p.1) (nv_cons k1 nv_nil))
    have S58 := S57.trans s8
    refine tlc_call ⟨_, rfl, false, D, _, rfl, qD _ S58, ?_⟩
    refine lc_nv n (fun k => dat false (sc4 (ps.getD k (0, [])))) (by omega) (fun i H hi s => its_go (qD _ (S58.trans s)) (List.getElem?_eq_getElem (by omega))) (fun H s => its_stop (qD _ (S58.trans s)) (by omega)) (fun Dc i x H9 H10 C' nDc hDc hi s9 hy hC => ?_) fun Lb H9 bs nLb s9 hLb lbl hbl => ?_
    · obtain ⟨rfl, ex⟩ := its_yld hy (qD _ (S58.trans s9))
      obtain ⟨c, p, r, e1, e2, e3, e4⟩ := item i hi
      rw [e1] at ex
      cases ex
      have S9 := S58.trans s9
      have mp := List.mem_of_getElem? e2
      obtain ⟨ok1, _, _⟩ := tp.ok p mp
      obtain ⟨b1, b2⟩ := bps p mp
      refine ⟨c, _, rfl, .inl (.inl (e3 _ S9)), rfl, _, _, rfl, _, _, rfl, rfl, rfl, ?_⟩
      refine ⟨_, rfl, _, _, rfl, rfl, Wd.mulW ⟨1900, by decide, b1⟩ (wid_s ⟨by decide, by decide⟩), ?_⟩
      refine r_cons (tlc_call ⟨_, rfl, true, r, _, rfl, .inl (.inl (e4 _ S9)), ?_⟩)
      have qr : ∀ H', Same H10 H' → SqV K H' true r (p.2.map V.int) := fun H' s => .inl (.inl (e4 _ (S9.trans s)))
      refine lc_el (p := none) n (fun j v => ∃ x, p.2[j]? = some x ∧ v = .int (2 * x)) has_none (by omega) (fun j H11 hj s11 => its_go (qr _ s11.same) (List.getElem?_eq_getElem (by rw [List.length_map]; omega))) (fun H11 s11 => its_stop (qr _ s11.same) (by rw [List.length_map]; omega)) (fun j x H11 H12 C2 hj s11 _ hy2 hC2 => ?_) fun Db H11 ys nDb s11 hDb hyl hyE => ?_
      · obtain ⟨rfl, ex2⟩ := its_yld hy2 (qr _ s11.same)
        have ej : p.2[j]? = some (p.2[j]'(by omega)) := List.getElem?_eq_getElem _
        rw [List.getElem?_map, ej] at ex2
        cases ex2
        exact ⟨rfl, _, rfl, _, _, rfl, rfl, Wd.mulW (wid_s ⟨by decide, by decide⟩) ⟨1900, by decide, b2 _ (List.mem_of_getElem? ej)⟩, hC2 _ _ (RX.refl _) ⟨_, ej, rfl⟩⟩
      · have ey : ys = (p.2.map fun x => 2 * x).map V.int := by
          rw [List.map_map]
          exact map_of_get (n := 0) _ (by rw [hyl, ok1]) hyE
        subst ey
        have cx : Cxt A0 H8 H10 (some Dc) := a0_cxt s9 fun d e => by cases e; exact hDc
        have k1 : NvD A0 (some Dc) H11 (.ref Db) (.list (iD (p.2.map fun x => 2 * x))) := nv_newL cx nDb hDb (nv_ints _)
        refine ⟨(by show 2 ≤ sizeLine; decide), fun tt ntt => ?_⟩
        refine hC _ _ (s11.same.trans (same_new ntt)) ?_
        rw [List.getD_eq_getElem?_getD, e2]
        exact nv_tup (cx.same s11.same) ntt (nv_cons (nv_int (p.1 * 4)) (nv_cons k1 nv_nil))
    refine ⟨(by show 4 ≤ sizeLine; decide), fun Lf nLf => ?_⟩
    generalize e10 : upd H9 Lf _ = H10
    have s10 : Same H9 H10 := by rw [← e10]; exact same_new nLf
    have hLf : H10 Lf = some (.lst [.ref D, .ref lt, .ref La, .ref Lb]) := by rw [← e10]; exact upd_same
    clear e10
    have S10 := S58.trans (s9.trans s10)
    have rng : ∀ f : Int × List Int → PyData, (List.range n).map (fun k => f (ps.getD k (0, []))) = ps.map f := fun f => by
      refine List.ext_getElem (by rw [List.length_map, List.length_map, List.length_range, tp.len]) fun i h1 h2 => ?_
      rw [List.length_map] at h2
      rw [List.getElem_map, List.getElem_map, List.getElem_range, List.getD_eq_getElem?_getD, List.getElem?_eq_getElem h2]
      rfl
    have tp4 := tp_sc4 tp bps
    have lps : ps.length ≤ 200 := by rw [tp.len]; omega
    have finT : ∀ s, Fine (.list (ps.map (dat s))) := fun s => fine_of (by show (ps.map (dat s)).length ≤ 200; rw [List.length_map]; exact lps) fun e he => by
      obtain ⟨p, hp, rfl⟩ := List.mem_map.mp he
      exact tp.fine hp
    have iD1 : ∀ H', Same H5 H' → IsqV C H' n G (.ref D) true := fun H' s => isq_of (tD _ s) (finT true) (sq_true (s := true) tp rfl rfl)
    have iAll : ∀ H', Same H10 H' → ∀ v ∈ ([.ref D, .ref lt, .ref La, .ref Lb] : List V), IsqV C H' n G v true := fun H' s v hv => by
      have sA : Same H8 H' := s9.trans (s10.trans s)
      simp only [List.mem_cons, List.not_mem_nil, or_false] at hv
      rcases hv with h | h | h | h <;> rw [h]
      · exact iD1 _ (S10.trans s)
      · refine isq_of (d := .tuple (ps.map (dat true))) (.tup ((s8.trans sA) _ _ hlt) (PyVs.mono (S10.trans s) tv5)) ?_ (sq_true (s := true) tp rfl rfl)
        exact fine_of (by show (ps.map (dat true)).length ≤ 200; rw [List.length_map]; exact lps) fun e he => by
          obtain ⟨p, hp, rfl⟩ := List.mem_map.mp he
          exact tp.fine hp
      · have := rng (dat false)
        rw [this] at hal
        exact isq_of (.lst (sA _ _ hLa) (PyVs.mono sA hal)) (finT false) (sq_true (s := false) tp rfl rfl)
      · have := rng (fun p => dat false (sc4 p))
        rw [this] at hbl
        have e2 : ps.map (fun p => dat false (sc4 p)) = (ps.map sc4).map (dat false) := by rw [List.map_map]; rfl
        rw [e2] at hbl
        refine isq_of (.lst ((s10.trans s) _ _ hLb) (PyVs.mono (s10.trans s) hbl)) ?_ (sq_true (s := false) tp4 rfl rfl)
        exact fine_of (by show ((ps.map sc4).map (dat false)).length ≤ 200; rw [List.length_map, List.length_map]; exact lps) fun e he => by
          obtain ⟨p, hp, rfl⟩ := List.mem_map.mp he
          exact tp4.fine hp
    clear hlt hal hbl hLa hLb
    have f10 := f5.same S10
    refine r_next (r_nseq ⟨_, rfl, false, Lf, _, rfl, .inl (.inl hLf), ?_⟩)
    refine for_by 4 (fun i σ H' => ∃ (x6 x7 x8 x9 x10 x11 x12 x13 x14 x15 x16 x17 x18 x19 x20 : Option V), σ = [some (.ref p), some (.int (n : Int)), some (.ref Dg), some (.ref c1), some (.ref D), some (.ref Lf), x6, x7, x8, x9, x10, x11, x12, x13, x14, x15, x16, x17, x18, x19, x20] ∧ Same H10 H')
      ⟨_, _, _, _, _, _, _, _, _, _, _, _, _, _, _, rfl, Same.refl _⟩ (fun i σ H' hi hP => ?_) (fun σ H' hP => ?_) (fun i x σ Hb Ha hi hP hy => ?_) (fun σ H' hP => ?_)
    · obtain ⟨_, _, _, _, _, _, _, _, _, _, _, _, _, _, _, _, sf⟩ := hP
      exact its_go (t := false) (.inl (.inl (sf _ _ hLf))) (List.getElem?_eq_getElem hi)
    · obtain ⟨_, _, _, _, _, _, _, _, _, _, _, _, _, _, _, _, sf⟩ := hP
      exact its_stop (t := false) (.inl (.inl (sf _ _ hLf))) (Nat.le_refl 4)
    · obtain ⟨x6, x7, x8, x9, x10, x11, x12, x13, x14, x15, x16, x17, x18, x19, x20, rfl, sf⟩ := hP
      obtain ⟨rfl, ex⟩ := its_yld (t := false) hy (.inl (.inl (sf _ _ hLf)))
      have mx := List.mem_of_getElem? ex
      refine g_nm ?_
      refine r_if ?_
      refine r_tt ?_
      refine r_op ?_
      refine cb1 ?_
      refine ⟨_, rfl, _, rfl, .ref c1, x, G, n, 6, true, rfl, f10.same sf, by decide, iAll _ sf x mx, fun Hc sc => ?_⟩
      refine r_cons (n2 ⟨_, rfl, _, rfl, .ref c1, x, G, n, 6, true, rfl, f10.same (sf.trans sc), by decide, iAll _ (sf.trans sc) x mx, fun Hd sd => ⟨(by show 2 ≤ sizeLine; decide), fun l1 nl1 => ?_⟩⟩)
      refine .inl ⟨_, _, rfl, py_bls upd_same, fit_bl2 _ _, rfl, _, rfl, ifF (by rw [ttt]; simp) ?_⟩
      exact ⟨_, _, _, _, _, _, _, _, _, _, _, _, _, _, _, rfl, sf.trans (sc.trans (sd.trans (same_new nl1)))⟩
    · obtain ⟨x6, x7, x8, x9, x10, x11, x12, x13, x14, x15, x16, x17, x18, x19, x20, rfl, sf⟩ := hP
      have S11 := S10.trans sf
      have f11 := f5.same S11
      clear iAll hLf sf f10
      generalize H' = H11 at S11 f11
      refine r_next (r_nseq (r_asg (r_lst (r_cons (r_k (r_cons (r_k (r_cons (r_k (r_cons (r_k (r_cons (r_k (r_cons (fun dd ndd => ?_)))))))))))))))
      generalize e12 : upd H11 dd _ = H12
      have s12 : Same H11 H12 := by rw [← e12]; exact same_new ndd
      have hdd : H12 dd = some (.dK []) := by rw [← e12]; exact upd_same
      clear e12
      refine ⟨Nat.zero_le _, fun k1 nk1 => ?_⟩
      generalize e13 : upd H12 k1 _ = H13
      have s13 : Same H12 H13 := by rw [← e13]; exact same_new nk1
      have h13 : H13 k1 = some (.lst []) := by rw [← e13]; exact upd_same
      clear e13
      refine ⟨Nat.zero_le _, fun k2 nk2 => ?_⟩
      generalize e14 : upd H13 k2 _ = H14
      have s14 : Same H13 H14 := by rw [← e14]; exact same_new nk2
      have h14 : H14 k2 = some (.tup []) := by rw [← e14]; exact upd_same
      clear e14
      refine ⟨_, rfl, _, rfl, (by show 1 ≤ sizeLine; decide), fun l15 nl15 => ⟨_, rfl, l15, (n : Int), [V.non], rfl, rfl, upd_same, by omega, by omega, ?_, fun l16 nl16 => ?_⟩⟩
      · rw [Int.toNat_natCast]
        exact Nat.le_trans (by simp; omega : _ ≤ 100) (by decide)
      generalize e16 : upd (upd H14 l15 _) l16 _ = H16
      have s16 : Same H14 H16 := by rw [← e16]; exact (same_new nl15).trans (same_new nl16)
      have h16 : H16 l16 = some (.lst (List.replicate n V.non)) := by rw [← e16, upd_same, Int.toNat_natCast, rep_flat]
      clear e16
      obtain ⟨c0, p0, r0, i0, j0, hc0, hr0⟩ := item 0 (by omega)
      have a0 : atI (cs.map V.ref) ((0 : Nat) : Int) = some (.ref c0) := atI_nat i0
      have S16 : Same H5 H16 := S11.trans (s12.trans (s13.trans (s14.trans s16)))
      refine ⟨_, rfl, _, rfl, false, D, _, ((0 : Nat) : Int), _, rfl, rfl, qD _ S16, a0, (by show 1 ≤ sizeLine; decide), fun l17 nl17 => ⟨D, l17, _, _, rfl, rfl, same_new nl17 _ _ (S16 _ _ hD5), upd_same, ?_, fun l18 nl18 => ?_⟩⟩
      · refine Nat.le_trans ?_ (by decide : 1000 ≤ sizeLine)
        rw [lcl]
        show n + 1 ≤ 1000
        omega
      generalize e18 : upd (upd H16 l17 _) l18 _ = H18
      have s18 : Same H16 H18 := by rw [← e18]; exact (same_new nl17).trans (same_new nl18)
      have h18 : H18 l18 = some (.lst (cs.map V.ref ++ [.ref c0])) := by rw [← e18]; exact upd_same
      clear e18
      have S18 := S16.trans s18
      refine ⟨_, rfl, _, rfl, D, _, rfl, SqL.of (S18 _ _ hD5), fun l19 nl19 => ?_⟩
      generalize e19 : upd H18 l19 _ = H19
      have s19 : Same H18 H19 := by rw [← e19]; exact same_new nl19
      have h19 : H19 l19 = some (.lst ((cs.map V.ref).drop 1)) := by rw [← e19, upd_same]; exact congrArg (fun x => some (HO.lst x)) (cutV_dropk (k := 1) (by rw [lcl]; omega))
      clear e19
      refine ⟨_, rfl, (by show 1 ≤ sizeLine; decide), fun l20 nl20 => ?_⟩
      generalize e20 : upd H19 l20 _ = H20
      have s20 : Same H19 H20 := by rw [← e20]; exact same_new nl20
      have h20 : H20 l20 = some (.lst [.ref D]) := by rw [← e20]; exact upd_same
      clear e20
      have S20 := S18.trans (s19.trans s20)
      refine ⟨_, rfl, false, D, _, ((0 : Nat) : Int), _, rfl, rfl, qD _ S20, a0, (by show 1 ≤ sizeLine; decide), fun l21 nl21 => ⟨_, rfl, _, _, rfl, rfl, l21, ((n + 1 : Nat) : Int), [V.ref c0], rfl, rfl, upd_same, by omega, by omega, ?_, fun l22 nl22 => ?_⟩⟩
      · rw [Int.toNat_natCast]
        exact Nat.le_trans (by simp; omega : _ ≤ 100) (by decide)
      generalize e22 : upd (upd H20 l21 _) l22 _ = H22
      have s22 : Same H20 H22 := by rw [← e22]; exact (same_new nl21).trans (same_new nl22)
      have h22 : H22 l22 = some (.lst (List.replicate (n + 1) (V.ref c0))) := by rw [← e22, upd_same, Int.toNat_natCast, rep_flat]
      clear e22
      have S22 := S20.trans s22
      obtain ⟨TD, eTD⟩ : ∃ TD, TD = ps.map (dat true) := ⟨_, rfl⟩
      have iD1' := iD1
      rw [← eTD] at tv5 tD
      have lTD : TD.length = n := by rw [eTD, List.length_map, tp.len]
      have finD : ∀ e ∈ TD, FineE e := fun e he => by
        rw [eTD] at he
        obtain ⟨p, hp, rfl⟩ := List.mem_map.mp he
        exact tp.fine hp
      have TD0 : TD[0]? = some (dat true p0) := by rw [eTD, List.getElem?_map, j0]; rfl
      have all22 : ∀ v ∈ ([V.non, .int 0, .bl true, .str (Str.ofString ""), .str (Str.ofString "squares"), .ref dd, .ref k1, .ref k2, .ref c1, .ref Dg, .ref l16, .ref l18, .ref l19, .ref l20, .ref l22] : List V), OW C n G none H22 v := fun v hv => by
        have tvs : PyVs H22 (cs.map V.ref) TD := PyVs.mono S22 tv5
        have pc0 : PyV H22 (.ref c0) (dat true p0) := pyVs_at tvs i0 TD0
        simp only [List.mem_cons, List.not_mem_nil, or_false] at hv
        rcases hv with h | h | h | h | h | h | h | h | h | h | h | h | h | h | h <;> rw [h]
        · exact ow_nv nv_non (fine_sc rfl) (sq_seq rfl)
        · exact ow_nv (nv_int 0) (fine_sc rfl) (sq_seq rfl)
        · exact ow_nv (nv_bl true) (fine_sc rfl) (sq_seq rfl)
        · exact ow_nv (nv_str _) (fine_sc rfl) (sq_seq rfl)
        · exact ow_nv (nv_str _) (fine_sc rfl) (sq_seq rfl)
        · exact .inr (.inr ⟨dd, rfl, (s13.trans (s14.trans (s16.trans (s18.trans (s19.trans (s20.trans s22)))))) _ _ hdd⟩)
        · exact ow_nv (py_nv (.lst ((s14.trans (s16.trans (s18.trans (s19.trans (s20.trans s22))))) _ _ h13) .nil)) (fine_sc rfl) (sq_len (by show 0 ≠ n; omega))
        · exact ow_nv (py_nv (.tup ((s16.trans (s18.trans (s19.trans (s20.trans s22)))) _ _ h14) .nil)) (fine_sc rfl) (sq_len (by show 0 ≠ n; omega))
        · exact .inr (.inl ⟨G, (f5.same S22).tab⟩)
        · refine ow_nv (py_nv (PyV.mono S22 pG5)) (rows_fine rG.bd.sh h3) (sqb_at (k := 0) (e := .list (iD (G.getD 0 []))) ?_ rfl)
          have : 0 < G.length := by rw [rG.bd.len]; omega
          show (G.map fun r => PyData.list (iD r))[0]? = _
          rw [List.getElem?_map, List.getElem?_eq_getElem this, List.getD_eq_getElem?_getD, List.getElem?_eq_getElem this]
          rfl
        · have hpy : ∀ m, PyVs H22 (List.replicate m V.non) (List.replicate m PyData.none) := fun m => by
            induction m with
            | zero => exact .nil
            | succ m ih => exact .cons .non ih
          refine ow_nv (py_nv (.lst ((s18.trans (s19.trans (s20.trans s22))) _ _ h16) (hpy n))) (fine_of (by show (List.replicate n PyData.none).length ≤ 200; rw [List.length_replicate]; omega) fun e he => ?_) (sqb_at (k := 0) (e := .none) (by show (List.replicate n PyData.none)[0]? = _; rw [List.getElem?_replicate_of_lt (by omega)]) rfl)
          rw [List.eq_of_mem_replicate he]
          exact fineE_sc rfl fun p ⟨dr, e, _⟩ => by cases e
        · refine ow_nv (py_nv (.lst ((s19.trans (s20.trans s22)) _ _ h18) (pyVs_app tvs (.cons pc0 .nil)))) (fine_of (by show (TD ++ [dat true p0]).length ≤ 200; rw [List.length_append, lTD]; show n + 1 ≤ 200; omega) fun e he => ?_) (sq_len (by show (TD ++ [dat true p0]).length ≠ n; rw [List.length_append, lTD]; show n + 1 ≠ n; omega))
          rcases List.mem_append.mp he with he | he
          · exact finD e he
          · rw [List.mem_singleton.mp he]
            exact tp.fine (List.mem_of_getElem? j0)
        · refine ow_nv (py_nv (.lst ((s20.trans s22) _ _ h19) (pyVs_drop 1 tvs))) (fine_of (by show (TD.drop 1).length ≤ 200; rw [List.length_drop, lTD]; omega) fun e he => finD e (List.mem_of_mem_drop he)) (sq_len (by show (TD.drop 1).length ≠ n; rw [List.length_drop, lTD]; omega))
        · refine ow_nv (py_nv (.lst (s22 _ _ h20) (.cons (tD _ S22) .nil))) (fine_of (by show 1 ≤ 200; decide) fun e he => ?_) (sqb_at (k := 0) (e := .list TD) rfl rfl)
          rw [List.mem_singleton.mp he]
          exact fineE_list (by rw [lTD]; omega) fun c hc => (finD c hc).l1
        · have hpy : ∀ m, PyVs H22 (List.replicate m (V.ref c0)) (List.replicate m (dat true p0)) := fun m => by
            induction m with
            | zero => exact .nil
            | succ m ih => exact .cons pc0 ih
          refine ow_nv (py_nv (.lst h22 (hpy (n + 1)))) (fine_of (by show (List.replicate (n + 1) (dat true p0)).length ≤ 200; rw [List.length_replicate]; omega) fun e he => ?_) (sq_len (by show (List.replicate (n + 1) (dat true p0)).length ≠ n; rw [List.length_replicate]; omega))
          rw [List.eq_of_mem_replicate he]
          exact tp.fine (List.mem_of_getElem? j0)
      refine ⟨(by show 15 ≤ sizeLine; decide), fun O nO => ?_⟩
      obtain ⟨ws, ews⟩ : ∃ ws : List V, ws = [V.non, .int 0, .bl true, .str (Str.ofString ""), .str (Str.ofString "squares"), .ref dd, .ref k1, .ref k2, .ref c1, .ref Dg, .ref l16, .ref l18, .ref l19, .ref l20, .ref l22] := ⟨_, rfl⟩
      have lws : ws.length = 15 := by rw [ews]; rfl
      rw [← ews] at all22
      generalize e23 : upd H22 O _ = H23
      have hO : H23 O = some (.lst ws) := by rw [← e23, upd_same, ews]
      have all23 : ∀ w ∈ ws, OW C n G (some O) H23 w := fun w hw => by rw [← e23]; exact (all22 w hw).hide nO
      have tv23 : NvsD A0 (some O) H23 (cs.map V.ref) TD := fun q hq => by
        cases hq
        rw [← e23]
        exact PyVs.mono (S22.trans (same_hide nO)) tv5
      have nO5 : H5 O = none := Same.free S22 nO
      have S23 : Same H5 H23 := by rw [← e23]; exact S22.trans (same_new nO)
      clear e23 ews all22 h13 h14 h16 h18 h19 h20 h22 hdd nO
      clear s12 s13 s14 s16 s18 s19 s20 s22 S16 S18 S20 S22
      refine r_next (r_nseq ⟨_, rfl, (n : Int), rfl, by omega, by omega, ?_⟩)
      rw [Int.toNat_natCast]
      refine for_range (lo := 0) (n := n) (fun i σ H' => ∃ (x6 x8 x9 x10 x11 x12 x13 x14 x15 x16 x17 x18 x19 x20 : Option V) (ws : List V), σ = [some (.ref p), some (.int (n : Int)), some (.ref Dg), some (.ref c1), some (.ref D), some (.ref Lf), x6, some (.ref O), x8, x9, x10, x11, x12, x13, x14, x15, x16, x17, x18, x19, x20] ∧ Same H5 H' ∧ H' O = some (.lst ws) ∧ ws.length ≤ 15 + 30 * i ∧ (∀ w ∈ ws, OW C n G (some O) H' w) ∧ NvsD A0 (some O) H' (cs.map V.ref) TD)
        ⟨_, _, _, _, _, _, _, _, _, _, _, _, _, _, ws, rfl, S23, hO, by omega, all23, tv23⟩ (fun i σ H' hi hP => ?_) (fun σ H' hP => ?_)
      · obtain ⟨x6, x8, x9, x10, x11, x12, x13, x14, x15, x16, x17, x18, x19, x20, ws, rfl, sO, hO, lws, all, tvO⟩ := hP
        rw [show (0 : Int) + (i : Int) = (i : Int) by omega]
        obtain ⟨c, p, r, i1, i2, i3, i4⟩ := item i hi
        have ec : cs[i]? = some c := by
          rw [List.getElem?_map] at i1
          obtain ⟨a, e1, e2⟩ := Option.map_eq_some_iff.mp i1
          rw [e1]; cases e2; rfl
        have mp := List.mem_of_getElem? i2
        obtain ⟨ok1, ok2, ok3⟩ := tp.ok p mp
        have hd := tp.head i2
        have eTi : TD[i]? = some (dat true p) := by rw [eTD, List.getElem?_map, i2]; rfl
        have pr : PyV (hid (some O) H') (.ref r) (.tuple (iD p.2)) := by
          have := pyVs_at (tvO none rfl) i1 eTi
          have := PyV.mono (hid_le (p := none)) this
          cases this with
          | tup e z =>
            have := hid_le _ _ e
            rw [i3 _ sO] at this
            cases this
            cases z with
            | cons a z2 => cases z2 with | cons b _ => exact b
        refine d_bm ⟨_, rfl, .inl ⟨rfl, _, .inl (.inl hO)⟩, r_cons (tlc_call ?_)⟩
        refine ⟨_, rfl, _, rfl, D, cs, n, i, p.1, p.2, c, r, (fun q => q = some O), rfl, sO _ _ hD5, ec, i3 _ sO, i4 _ sO, (fun q hq => by subst hq; exact pr), (fun a ha => by cases ha; rw [hO]; intro z; cases z), Wd.abs_mono ok2 (by decide), hd.1, ok1, h1, h3, rb_up ok3 (by decide), hd.2.2, hi, fun E es H2 s2 nE hE lE hes => ?_⟩
        obtain ⟨ds, lds, hds⟩ := choose_list hes
        have sO2 := sO.trans s2
        have hO2 := s2 _ _ hO
        have qE : ∀ H', Same H2 H' → SqV K H' false E es := fun H' s => .inl (.inl (s _ _ hE))
        refine ⟨false, E, es, rfl, qE _ (Same.refl _), ?_⟩
        have tvO2 := tvO.mono s2
        refine lc_py es.length (fun j => TD.take i ++ [ds.getD j .none] ++ TD.drop (i + 1)) (fun q => q = some O) (fun a ha => by cases ha; rw [hO2]; intro z; cases z) (by omega) (fun j H hj s => its_go (qE _ s) (List.getElem?_eq_getElem hj)) (fun H s => its_stop (qE _ s) (Nat.le_refl _)) (fun Dc j x H3 H4 C' nDc hj s3 hy hC => ?_) fun Dc H3 bs nDc s3 hDc hbl hb => ?_
        · obtain ⟨rfl, ex⟩ := its_yld hy (qE _ s3)
          rw [List.getElem?_eq_getElem hj] at ex
          cases ex
          have s03 := sO2.trans s3
          have edj : ds[j]? = some (ds[j]'(by omega)) := List.getElem?_eq_getElem _
          obtain ⟨_, pw⟩ := hds j _ _ (List.getElem?_eq_getElem hj) edj
          have hD4 := s03 _ _ hD5
          refine ⟨rfl, r_op (r_op ⟨_, rfl, _, rfl, _, rfl, D, _, rfl, SqL.of hD4, fun p1 np1 => ?_⟩)⟩
          rw [cutV_take (by rw [lcl]; omega)] at *
          have u1 : Same H4 (upd H4 p1 (.lst ((cs.map V.ref).take i))) := same_new np1
          have y1 : upd H4 p1 (.lst ((cs.map V.ref).take i)) p1 = some (.lst ((cs.map V.ref).take i)) := upd_same
          generalize upd H4 p1 (.lst ((cs.map V.ref).take i)) = J1 at u1 y1
          refine ⟨_, rfl, (by show 1 ≤ sizeLine; decide), fun p2 np2 => ⟨p1, p2, _, _, rfl, rfl, same_new np2 _ _ y1, upd_same, ?_, fun p3 np3 => ?_⟩⟩
          · refine Nat.le_trans ?_ (by decide : 1000 ≤ sizeLine)
            rw [List.length_take]
            show _ + 1 ≤ 1000
            omega
          generalize e3 : upd (upd J1 p2 _) p3 _ = J3
          have u3 : Same J1 J3 := by rw [← e3]; exact (same_new np2).trans (same_new np3)
          have y3 : J3 p3 = some (.lst ((cs.map V.ref).take i ++ [es[j]])) := by rw [← e3]; exact upd_same
          clear e3
          have v3 := u1.trans u3
          refine ⟨_, rfl, _, rfl, _, _, rfl, rfl, _, rfl, D, _, rfl, SqL.of (v3 _ _ hD4), fun p4 np4 => ⟨p3, p4, _, _, rfl, rfl, same_new np4 _ _ y3, upd_same, ?_, fun p5 np5 => ?_⟩⟩
          · refine Nat.le_trans ?_ (by decide : 1000 ≤ sizeLine)
            rw [show ((i : Int) + 1) = ((i + 1 : Nat) : Int) by omega, cutV_dropk (by rw [lcl]; omega), List.length_append, List.length_take, List.length_drop, lcl]
            show _ + 1 + _ ≤ 1000
            omega
          have ecut : cutV (cs.map V.ref) (some ((i : Int) + 1)) none = (cs.map V.ref).drop (i + 1) := by
            rw [show ((i : Int) + 1) = ((i + 1 : Nat) : Int) by omega, cutV_dropk (by rw [lcl]; omega)]
          have v5 := v3.trans ((same_new (o := .lst (cutV (cs.map V.ref) (some ((i : Int) + 1)) none)) np4).trans (same_new (o := .lst ((cs.map V.ref).take i ++ [es[j]] ++ cutV (cs.map V.ref) (some ((i : Int) + 1)) none)) np5))
          refine hC p5 _ _ v5 (Same.free v3 (Same.free (same_new np4) np5)) upd_same fun q hq => ?_
          subst hq
          have sm : Same (hid none (hid (some O) H2)) (hid (some O) (hid (some Dc) (upd (upd J3 p4 (.lst (cutV (cs.map V.ref) (some ((i : Int) + 1)) none))) p5 (.lst ((cs.map V.ref).take i ++ [es[j]] ++ cutV (cs.map V.ref) (some ((i : Int) + 1)) none))))) := (hid_le (p := none)).trans (hid2_same nDc (s3.trans v5))
          have tt := PyVs.mono sm (tvO2 none rfl)
          rw [ecut] at tt ⊢
          refine pyVs_app (pyVs_app (pyVs_take i tt) (.cons ?_ .nil)) (pyVs_drop (i + 1) tt)
          rw [List.getD_eq_getElem?_getD, edj]
          have sm2 := hid2_same (p := some O) nDc (s3.trans v5)
          rw [ecut] at sm2
          exact PyV.mono sm2 (pw _ rfl)
        · have hO3 := s3 _ _ hO2
          refine ⟨O, Dc, _, _, rfl, rfl, hO3, hDc, Nat.le_trans (by omega : _ ≤ 1000) (by decide), ?_⟩
          refine ⟨_, _, _, _, _, _, _, _, _, _, _, _, _, _, ws ++ bs, rfl, mut_same (sO2.trans s3) nO5, upd_same, by rw [List.length_append, hbl]; omega, fun w hw => ?_, nvs_upd (tvO2.mono s3)⟩
          rcases List.mem_append.mp hw with hw | hw
          · exact ((all w hw).mono (s2.trans s3)).chg hO3
          · obtain ⟨j, hj, ej⟩ := List.getElem_of_mem hw
            have hj' : j < es.length := by rw [← hbl]; exact hj
            have edj : ds[j]? = some (ds[j]'(by omega)) := List.getElem?_eq_getElem _
            obtain ⟨bad, _⟩ := hds j _ _ (List.getElem?_eq_getElem hj') edj
            have pb : PyV (hid (some O) H3) w (.list (TD.take i ++ [ds.getD j .none] ++ TD.drop (i + 1))) := pyVs_at (hb (some O) rfl) (j := j) (by rw [List.getElem?_eq_getElem hj, ej]) (by rw [List.getElem?_map, List.getElem?_range hj']; rfl)
            rw [List.getD_eq_getElem?_getD, edj] at pb
            have nv : NvD A0 (some O) H3 w (.list (TD.take i ++ [ds[j]'(by omega)] ++ TD.drop (i + 1))) := fun q hq => by
              cases hq
              exact PyV.mono (fun b u e => by rw [hid_at (by intro z; cases z)]; exact e) pb
            refine (ow_nv nv (fine_of ?_ fun e he => ?_) (sqb_at (k := i) (e := ds[j]'(by omega)) ?_ bad.no)).chg hO3
            · show (TD.take i ++ [ds[j]'(by omega)] ++ TD.drop (i + 1)).length ≤ 200
              rw [List.length_append, List.length_append, List.length_take, List.length_drop, lTD]
              show _ + 1 + _ ≤ 200
              omega
            · rcases List.mem_append.mp he with he | he
              · rcases List.mem_append.mp he with he | he
                · exact finD e (List.mem_of_mem_take he)
                · rw [List.mem_singleton.mp he]; exact bad.fine
              · exact finD e (List.mem_of_mem_drop he)
            · show (TD.take i ++ [ds[j]'(by omega)] ++ TD.drop (i + 1))[i]? = _
              have lt : (TD.take i).length = i := by rw [List.length_take, lTD]; omega
              rw [List.append_assoc, List.getElem?_append_right (by omega), lt, Nat.sub_self]
              rfl
      · obtain ⟨x6, x8, x9, x10, x11, x12, x13, x14, x15, x16, x17, x18, x19, x20, ws, rfl, sO, hO, lws, all, tvO⟩ := hP
        have fitS : ∀ {m : Nat}, m ≤ 1000 → m ≤ sizeLine := fun h => Nat.le_trans h (by decide)
        have tvs : ∀ H2, Same H5 H2 → PyVs H2 (cs.map V.ref) TD := fun H2 s => PyVs.mono s tv5
        refine r_next (r_nseq (r_if (r_tt (r_op ⟨_, rfl, _, _, rfl, rfl, _, rfl, ?_⟩))))
        refine if_then2 (fun σ' H2 => ∃ (O' : Addr) (ws' : List V), σ' = [some (.ref p), some (.int (n : Int)), some (.ref Dg), some (.ref c1), some (.ref D), some (.ref Lf), x6, some (.ref O'), x8, x9, x10, x11, x12, x13, x14, x15, x16, x17, x18, x19, x20] ∧ Same H5 H2 ∧ H2 O' = some (.lst ws') ∧ ws'.length ≤ 200 ∧ ∀ v ∈ ws', IsqV C H2 n G v false) (fun σ' H2 hR => ?_) (fun hb D' hD' => ?_) (fun hb => ?_)
        rotate_left
        · have n1 : 1 < n := by have := of_decide_eq_true hb; omega
          obtain ⟨cq, pq, rq, i1q, j1q, hc1q, hr1q⟩ := item 1 n1
          obtain ⟨cl, pl, rl, ilq, jlq, hclq, hrlq⟩ := item (n - 1) (by omega)
          have a1' : atI (cs.map V.ref) ((1 : Nat) : Int) = some (.ref cq) := atI_nat i1q
          have TD1 : TD[1]? = some (dat true pq) := by rw [eTD, List.getElem?_map, j1q]; rfl
          have TDl : TD[n - 1]? = some (dat true pl) := by rw [eTD, List.getElem?_map, jlq]; rfl
          refine r_asg (r_op ⟨_, rfl, _, rfl, D, _, rfl, SqL.of (sO _ _ hD5), fun l1 m1 => ?_⟩)
          generalize e1 : upd H' l1 _ = J1
          have u1 : Same H' J1 := by rw [← e1]; exact same_new m1
          have g1 : J1 l1 = some (.lst (cs.map V.ref).reverse) := by rw [← e1]; exact upd_same
          clear e1
          have U1 := sO.trans u1
          refine ⟨_, rfl, false, D, _, ((1 : Nat) : Int), _, rfl, rfl, qD _ U1, a1', _, rfl, false, D, _, ((0 : Nat) : Int), _, rfl, rfl, qD _ U1, a0, (by show 2 ≤ sizeLine; decide), fun l2 m2 => ?_⟩
          generalize e2 : upd J1 l2 _ = J2
          have u2 : Same J1 J2 := by rw [← e2]; exact same_new m2
          have g2 : J2 l2 = some (.lst [.ref cq, .ref c0]) := by rw [← e2]; exact upd_same
          clear e2
          have U2 := U1.trans u2
          refine ⟨_, rfl, _, rfl, D, _, rfl, SqL.of (U2 _ _ hD5), fun l3 m3 => ?_⟩
          have ecut : cutV (cs.map V.ref) (some 2) none = (cs.map V.ref).drop 2 := cutV_dropk (k := 2) (by rw [lcl]; omega)
          rw [ecut]
          generalize e3 : upd J2 l3 _ = J3
          have u3 : Same J2 J3 := by rw [← e3]; exact same_new m3
          have g3 : J3 l3 = some (.lst ((cs.map V.ref).drop 2)) := by rw [← e3]; exact upd_same
          clear e3
          refine ⟨l2, l3, _, _, rfl, rfl, u3 _ _ g2, g3, fitS (by rw [List.length_drop, lcl]; show 2 + _ ≤ 1000; omega), fun l4 m4 => ?_⟩
          generalize e4 : upd J3 l4 _ = J4
          have u4 : Same J3 J4 := by rw [← e4]; exact same_new m4
          have g4 : J4 l4 = some (.lst ([.ref cq, .ref c0] ++ (cs.map V.ref).drop 2)) := by rw [← e4]; exact upd_same
          clear e4
          have U4 := U2.trans (u3.trans u4)
          refine ⟨(by show 2 ≤ sizeLine; decide), fun l5 m5 => ⟨O, l5, _, _, rfl, rfl, same_new m5 _ _ ((u1.trans (u2.trans (u3.trans u4))) _ _ hO), upd_same, fitS (by show ws.length + 2 ≤ 1000; omega), fun l6 m6 => ?_⟩⟩
          generalize e6 : upd (upd J4 l5 _) l6 _ = J6
          have u6 : Same J4 J6 := by rw [← e6]; exact (same_new m5).trans (same_new m6)
          have g6 : J6 l6 = some (.lst (ws ++ [.ref l1, .ref l4])) := by rw [← e6]; exact upd_same
          clear e6
          have U6 := U4.trans u6
          have U16 := u1.trans (u2.trans (u3.trans (u4.trans u6)))
          refine hD' _ _ ⟨l6, _, rfl, U6, g6, by rw [List.length_append]; show _ + 2 ≤ 200; omega, fun v hv => ?_⟩
          rcases List.mem_append.mp hv with hv | hv
          · exact ((all v hv).mono U16).isq
          · simp only [List.mem_cons, List.not_mem_nil, or_false] at hv
            have tv6 := tvs _ U6
            rcases hv with h | h <;> rw [h]
            · have pv : ∀ {vs : List V} {ds : List PyData}, PyVs J6 vs ds → PyVs J6 vs.reverse ds.reverse := fun {vs ds} h => by
                induction vs generalizing ds with
                | nil => cases h; exact .nil
                | cons v vs ih => cases h with | cons a b => rw [List.reverse_cons, List.reverse_cons]; exact pyVs_app (ih b) (.cons a .nil)
              refine isq_of (d := .list TD.reverse) (.lst ((u2.trans (u3.trans (u4.trans u6))) _ _ g1) (pv tv6)) (fine_of (by show TD.reverse.length ≤ 200; rw [List.length_reverse, lTD]; omega) fun e he => finD e (List.mem_reverse.mp he)) (sqb_at (k := 0) (e := dat true pl) ?_ (dat_zero ((tp.head jlq).2.2 0 (by omega))))
              show TD.reverse[0]? = _
              rw [List.getElem?_reverse (by omega), lTD]
              exact TDl
            · refine isq_of (d := .list ([dat true pq, dat true p0] ++ TD.drop 2)) (.lst (u6 _ _ g4) (pyVs_app (.cons (pyVs_at tv6 i1q TD1) (.cons (pyVs_at tv6 i0 TD0) .nil)) (pyVs_drop 2 tv6))) (fine_of (by show ([dat true pq, dat true p0] ++ TD.drop 2).length ≤ 200; rw [List.length_append, List.length_drop, lTD]; show 2 + _ ≤ 200; omega) fun e he => ?_) (sqb_at (k := 0) (e := dat true pq) rfl (dat_zero ((tp.head j1q).2.2 0 (by decide))))
              rcases List.mem_append.mp he with he | he
              · simp only [List.mem_cons, List.not_mem_nil, or_false] at he
                rcases he with rfl | rfl
                · exact finD _ (List.mem_of_getElem? TD1)
                · exact finD _ (List.mem_of_getElem? TD0)
              · exact finD e (List.mem_of_mem_drop he)
        · exact ⟨O, ws, rfl, sO, hO, by omega, fun v hv => (all v hv).isq⟩
        · obtain ⟨O', ws', rfl, sR, hO', lw', allI⟩ := hR
          clear all tvO hO sO lws
          generalize H2 = K1 at sR hO' allI
          -- the unit form
          refine r_next (r_nseq (r_asg (mkF (tlc_call ⟨_, rfl, (n : Int), rfl, by omega, by omega, ?_⟩))))
          rw [Int.toNat_natCast]
          refine lc_fresh2 (p := none) n (fun i => .lst (((unitM n).getD i []).map V.int)) has_none (by omega) (fun i H2 hi s2 => hi) (fun H2 s2 => Nat.le_refl _) (fun i x H3 H4 C' hi s3 _ hy hC => ?_) fun De K2 us nDe k2 hDe hul huE => ?_
          · obtain ⟨rfl, rfl⟩ := hy
            rw [show (0 : Int) + (i : Int) = (i : Int) by omega]
            refine ⟨rfl, tlc_call ⟨_, rfl, (n : Int), rfl, by omega, by omega, ?_⟩⟩
            rw [Int.toNat_natCast]
            refine lc_el (p := none) n (fun j v => v = .int (if j = i then 1 else 0)) has_none (by omega) (fun j H4 hj s4 => hj) (fun H4 s4 => Nat.le_refl _) (fun j x H4 H5 C2 hj s4 _ hy2 hC2 => ?_) fun Dz H4 ys nDz s4 hDz hyl hyE => ?_
            · obtain ⟨rfl, rfl⟩ := hy2
              rw [show (0 : Int) + (j : Int) = (j : Int) by omega]
              refine ⟨rfl, _, rfl, _, rfl, rfl, _, rfl, ?_⟩
              by_cases z : j = i
              · rw [show decide (V.int ((i : Nat) : Int) = V.int (j : Int)) = true by simp [z]]
                exact iteT (hC2 _ _ (RX.refl _) (by rw [if_pos z]))
              · rw [show decide (V.int ((i : Nat) : Int) = V.int (j : Int)) = false by simp; omega]
                exact iteF (hC2 _ _ (RX.refl _) (by rw [if_neg z]))
            · refine hC Dz _ s4 nDz ?_
              have ey : ys = (List.range n).map fun j => V.int (if j = i then 1 else 0) := map_of_get (n := 0) _ (by rw [hyl, List.length_range]) fun j v e => by
                have hj : j < n := by rw [← hyl]; exact (List.getElem?_eq_some_iff.mp e).1
                exact ⟨j, List.getElem?_range hj, hyE j v e⟩
              have eM : (unitM n)[i]? = some ((List.range n).map fun j => if j = i then 1 else 0) := by unfold unitM; rw [List.getElem?_map, List.getElem?_range hi]; rfl
              rw [hDz, ey, getD_of eM, List.map_map]
              rfl
          have pU : PyV K2 (.ref De) (lmD (unitM n)) := py_lm hDe (by rw [hul, (unit_sq n).len]) fun i v e => by
            obtain ⟨q, e1, e2, _⟩ := huE i v e
            exact ⟨q, e1, e2⟩
          refine MkF.of (.inl pU) (grid_lm _) h1 h3 (unit_sy h1 h3) ((unit_sqB n).e (by decide : _ < 2 ^ 1)) (by decide) fun cu K3 k3 fU => ?_
          have U3 := k2.same.trans k3
          refine r_next (r_nseq (r_asg (tlc_call ⟨_, rfl, (n : Int), rfl, by omega, by omega, ?_⟩)))
          rw [Int.toNat_natCast]
          refine lc_nv n (fun k => .tuple [.int 1, .tuple ((List.range n).map fun j => (if j = k then PyData.int 1 else .int 0))]) (by omega) (fun i H2 hi s2 => hi) (fun H2 s2 => Nat.le_refl _) (fun Dc k x Ha Hb C' nDc hDc hk sa hy hC => ?_) fun Du K4 bu nDu k4 hDu lbu hbu => ?_
          · obtain ⟨rfl, rfl⟩ := hy
            rw [show (0 : Int) + (k : Int) = (k : Int) by omega]
            refine ⟨rfl, r_tup (r_cons (r_k (r_cons (r_cb (r_cons (tlc_call ⟨_, rfl, (n : Int), rfl, by omega, by omega, ?_⟩))))))⟩
            rw [Int.toNat_natCast]
            refine lc_el (p := none) n (fun j v => v = if j = k then V.int 1 else .int 0) has_none (by omega) (fun j H4 hj s4 => hj) (fun H4 s4 => Nat.le_refl _) (fun j x H4 H5 C2 hj s4 _ hy2 hC2 => ?_) fun Dz H4 ys nDz s4 hDz hyl hyE => ?_
            · obtain ⟨rfl, rfl⟩ := hy2
              rw [show (0 : Int) + (j : Int) = (j : Int) by omega]
              refine ⟨rfl, _, rfl, _, rfl, rfl, _, rfl, ?_⟩
              by_cases z : j = k
              · rw [show decide (V.int ((j : Nat) : Int) = V.int (k : Int)) = true by simp [z]]
                exact iteT (hC2 _ _ (RX.refl _) (by rw [if_pos z]))
              · rw [show decide (V.int ((j : Nat) : Int) = V.int (k : Int)) = false by simp; omega]
                exact iteF (hC2 _ _ (RX.refl _) (by rw [if_neg z]))
            · have ey : ys = (List.range n).map fun j => if j = k then V.int 1 else V.int 0 := map_of_get (n := 0) _ (by rw [hyl, List.length_range]) fun j v e => by
                have hj : j < n := by rw [← hyl]; exact (List.getElem?_eq_some_iff.mp e).1
                exact ⟨j, List.getElem?_range hj, hyE j v e⟩
              subst ey
              have cx : Cxt A0 K3 Hb (some Dc) := a0_cxt sa fun d e => by cases e; exact hDc
              refine ⟨Dz, _, rfl, .inl ⟨.inl (.inl hDz), fun l nl => ⟨(by show 2 ≤ sizeLine; decide), fun tt ntt => ?_⟩⟩⟩
              have c4 := cx.same s4.same
              have nvs : NvsD A0 (some Dc) H4 ((List.range n).map fun j => if j = k then V.int 1 else V.int 0) ((List.range n).map fun j => (if j = k then PyData.int 1 else .int 0)) := nv_map (fun j => by
                by_cases z : j = k
                · rw [if_pos z, if_pos z]; exact nv_int 1
                · rw [if_neg z, if_neg z]; exact nv_int 0) _
              have k1 := nv_tup c4 nl nvs
              refine hC _ _ (s4.same.trans ((same_new nl).trans (same_new ntt))) ?_
              exact nv_tup (c4.same (same_new nl)) ntt (nv_cons (nv_int 1) (nv_cons k1 nv_nil))
          refine r_next (r_nseq (r_asg (tlc_call ⟨_, rfl, (n : Int), rfl, by omega, by omega, ?_⟩)))
          rw [Int.toNat_natCast]
          refine lc_nv n (fun k => .tuple [.int 1, .tuple ((List.range n).map fun j => (if j = k then PyData.bool true else .int 0))]) (by omega) (fun i H2 hi s2 => hi) (fun H2 s2 => Nat.le_refl _) (fun Dc k x Ha Hb C' nDc hDc hk sa hy hC => ?_) fun Dv K5 bv nDv k5 hDv lbv hbv => ?_
          · obtain ⟨rfl, rfl⟩ := hy
            rw [show (0 : Int) + (k : Int) = (k : Int) by omega]
            refine ⟨rfl, r_tup (r_cons (r_k (r_cons (r_cb (r_cons (tlc_call ⟨_, rfl, (n : Int), rfl, by omega, by omega, ?_⟩))))))⟩
            rw [Int.toNat_natCast]
            refine lc_el (p := none) n (fun j v => v = if j = k then V.bl true else .int 0) has_none (by omega) (fun j H4 hj s4 => hj) (fun H4 s4 => Nat.le_refl _) (fun j x H4 H5 C2 hj s4 _ hy2 hC2 => ?_) fun Dz H4 ys nDz s4 hDz hyl hyE => ?_
            · obtain ⟨rfl, rfl⟩ := hy2
              rw [show (0 : Int) + (j : Int) = (j : Int) by omega]
              refine ⟨rfl, _, rfl, _, rfl, rfl, _, rfl, ?_⟩
              by_cases z : j = k
              · rw [show decide (V.int ((j : Nat) : Int) = V.int (k : Int)) = true by simp [z]]
                exact iteT (hC2 _ _ (RX.refl _) (by rw [if_pos z]))
              · rw [show decide (V.int ((j : Nat) : Int) = V.int (k : Int)) = false by simp; omega]
                exact iteF (hC2 _ _ (RX.refl _) (by rw [if_neg z]))
            · have ey : ys = (List.range n).map fun j => if j = k then V.bl true else V.int 0 := map_of_get (n := 0) _ (by rw [hyl, List.length_range]) fun j v e => by
                have hj : j < n := by rw [← hyl]; exact (List.getElem?_eq_some_iff.mp e).1
                exact ⟨j, List.getElem?_range hj, hyE j v e⟩
              subst ey
              have cx : Cxt A0 K4 Hb (some Dc) := a0_cxt sa fun d e => by cases e; exact hDc
              refine ⟨Dz, _, rfl, .inl ⟨.inl (.inl hDz), fun l nl => ⟨(by show 2 ≤ sizeLine; decide), fun tt ntt => ?_⟩⟩⟩
              have c4 := cx.same s4.same
              have nvs : NvsD A0 (some Dc) H4 ((List.range n).map fun j => if j = k then V.bl true else V.int 0) ((List.range n).map fun j => (if j = k then PyData.bool true else .int 0)) := nv_map (fun j => by
                by_cases z : j = k
                · rw [if_pos z, if_pos z]; exact nv_bl true
                · rw [if_neg z, if_neg z]; exact nv_int 0) _
              have k1 := nv_tup c4 nl nvs
              refine hC _ _ (s4.same.trans ((same_new nl).trans (same_new ntt))) ?_
              exact nv_tup (c4.same (same_new nl)) ntt (nv_cons (nv_int 1) (nv_cons k1 nv_nil))
          have eun : ((List.range n).map fun k => PyData.tuple [.int 1, .tuple ((List.range n).map fun j => (if j = k then PyData.int 1 else .int 0))]) = unD n := by
            unfold unD
            refine List.map_congr_left fun k _ => ?_
            refine congrArg (fun x => PyData.tuple [.int 1, .tuple x]) (List.map_congr_left fun j _ => ?_)
            split <;> rfl
          rw [eun] at hbu
          have hbv' : PyVs K5 bv (onD n) := hbv
          have fU5 := fU.same (k4.trans k5)
          have hDu5 := k5 _ _ hDu
          have hbu5 := PyVs.mono k5 hbu
          have V5 := U3.trans (k4.trans k5)
          clear hbu hDu hbv
          generalize hU : unD n = UD at hbu5
          have b0e : bu[0]? = some (bu[0]'(by omega)) := List.getElem?_eq_getElem _
          obtain ⟨e0D, ee0⟩ : ∃ e0D, UD[0]? = some (.tuple [.int 1, .tuple e0D]) ∧ e0D = (List.range n).map fun j => PyData.int (if j = 0 then 1 else 0) := by
            refine ⟨_, ?_, rfl⟩
            rw [← hU]
            unfold unD
            rw [List.getElem?_map, List.getElem?_range (by omega)]
            rfl
          obtain ⟨u0, r0', eu0, hu0, pr0⟩ : ∃ u0 r0', bu[0]? = some (.ref u0) ∧ K5 u0 = some (.tup [.int 1, .ref r0']) ∧ PyV K5 (.ref r0') (.tuple e0D) := by
            have pb := pyVs_at hbu5 b0e ee0.1
            generalize bu[0]'(by omega) = b0 at b0e pb
            cases pb with
            | @tup a vs _ e z =>
              cases z with
              | cons z1 z2 =>
                cases z1
                cases z2 with
                | cons z3 z4 =>
                  cases z4
                  cases z3 with
                  | @tup a2 vs2 _ e3 z5 => exact ⟨a, a2, b0e, e, .tup e3 z5⟩
          refine r_next (r_nseq (r_if ?_))
          refine r_tt ?_
          refine r_op ?_
          refine cb1 ?_
          refine ⟨_, rfl, _, rfl, .ref cu, .ref Du, unitM n, n, 1, true, rfl, fU5, by decide, isq_of (.lst hDu5 hbu5) (by rw [← hU]; exact un_fine h3) (by rw [← hU]; exact (un_ok h1 h3).1), fun K6 k6 => ?_⟩
          refine ⟨_, rfl, _, rfl, .ref cu, .ref Dv, unitM n, n, 1, false, rfl, fU5.same k6, by decide, isq_of (.lst (k6 _ _ hDv) (PyVs.mono k6 hbv')) (on_fine h3) (un_ok h1 h3).2.1, fun K7 k7 => ?_⟩
          have k57 := k6.trans k7
          refine ⟨_, rfl, _, rfl, false, Du, _, ((0 : Nat) : Int), _, rfl, rfl, .inl (.inl (k57 _ _ hDu5)), atI_nat eu0, true, u0, _, ((1 : Nat) : Int), _, rfl, rfl, .inl (.inl (k57 _ _ hu0)), atI_nat (j := 1) rfl, (by show 2 ≤ sizeLine; decide), fun tq mq => ?_⟩
          generalize e8 : upd K7 tq _ = K8
          have k8 : Same K7 K8 := by rw [← e8]; exact same_new mq
          have g8 : K8 tq = some (.tup [.bl true, .ref r0']) := by rw [← e8]; exact upd_same
          clear e8
          refine ⟨(by show 1 ≤ sizeLine; decide), fun lq nq => ?_⟩
          generalize e9 : upd K8 lq _ = K9
          have k9 : Same K8 K9 := by rw [← e9]; exact same_new nq
          have g9 : K9 lq = some (.lst [.ref tq]) := by rw [← e9]; exact upd_same
          clear e9
          have k59 := k57.trans (k8.trans k9)
          refine ⟨_, rfl, _, rfl, Du, _, rfl, SqL.of (k59 _ _ hDu5), fun lr nr => ?_⟩
          have ecu : cutV bu (some 1) none = bu.drop 1 := cutV_dropk (k := 1) (by omega)
          rw [ecu]
          generalize e10 : upd K9 lr _ = K10
          have k10 : Same K9 K10 := by rw [← e10]; exact same_new nr
          have g10 : K10 lr = some (.lst (bu.drop 1)) := by rw [← e10]; exact upd_same
          clear e10
          refine ⟨lq, lr, _, _, rfl, rfl, k10 _ _ g9, g10, fitS (by rw [List.length_drop, lbu]; show 1 + _ ≤ 1000; omega), fun ls ns => ?_⟩
          generalize e11 : upd K10 ls _ = K11
          have k11 : Same K10 K11 := by rw [← e11]; exact same_new ns
          have g11 : K11 ls = some (.lst ([.ref tq] ++ bu.drop 1)) := by rw [← e11]; exact upd_same
          clear e11
          have k511 := k59.trans (k10.trans k11)
          have p3 : PyV K11 (.ref ls) (.list (.tuple [.bool true, .tuple e0D] :: UD.drop 1)) := .lst g11 (.cons (.tup ((k9.trans (k10.trans k11)) _ _ g8) (.cons (.bl true) (.cons (PyV.mono k511 pr0) .nil))) (pyVs_drop 1 (PyVs.mono k511 hbu5)))
          rw [ee0.2, ← hU] at p3
          refine ⟨.ref cu, .ref ls, unitM n, n, 1, false, rfl, fU5.same k511, by decide, isq_of p3 (on2_fine h3) (un_ok h1 h3).2.2.1, fun K12 k12 => ⟨(by show 3 ≤ sizeLine; decide), fun l1 nl1 => ?_⟩⟩
          refine .inl ⟨_, _, rfl, py_bl3 upd_same, fit_bl3 _ _ _, rfl, _, rfl, ifF (by rw [tff]; simp) ?_⟩
          generalize e13 : upd K12 l1 _ = K13
          have k13 : Same K12 K13 := by rw [← e13]; exact same_new nl1
          clear e13
          have k513 := k511.trans (k12.trans k13)
          have V13 := V5.trans k513
          have hDu13 := k513 _ _ hDu5
          have hbu13 := PyVs.mono k513 hbu5
          rw [← hU] at hbu13
          clear p3 g11 g10 g9 g8 hu0 pr0 hbu5 hbv' hDv hDu5
          -- the flat form
          refine r_next (r_nseq (r_asg (mkF (tlc_call ⟨_, rfl, (n : Int), rfl, by omega, by omega, ?_⟩))))
          rw [Int.toNat_natCast]
          refine lc_fresh2 (p := none) n (fun i => .lst ((List.replicate n (0 : Int)).map V.int)) has_none (by omega) (fun i H2 hi s2 => hi) (fun H2 s2 => Nat.le_refl _) (fun i x H3 H4 C' hi s3 _ hy hC => ?_) fun Df K14 zs nDf k14 hDf hzl hzE => ?_
          · obtain ⟨rfl, rfl⟩ := hy
            refine ⟨rfl, r_op (r_lst ⟨(by show 1 ≤ sizeLine; decide), fun l nl => ?_⟩)⟩
            have s5 : Same H4 (upd H4 l (.lst [V.int 0])) := same_new nl
            refine ⟨_, rfl, l, _, [V.int 0], rfl, rfl, upd_same, by omega, by omega, ?_, fun c nc => ?_⟩
            · rw [Int.toNat_natCast]
              exact Nat.le_trans (by simp; omega : _ ≤ 100) (by decide)
            · refine hC c _ ((RX.of s5).trans (RX.new nc)) (Same.free s5 nc) ?_
              rw [upd_same, Int.toNat_natCast, rep_flat, List.map_replicate]
          have pZ : PyV K14 (.ref Df) (lmD (zeroM n)) := py_lm hDf (by rw [hzl]; exact (zero_sqB n 0 (by decide)).len.symm) fun i v e => by
            obtain ⟨q, e1, e2, _⟩ := hzE i v e
            have hi : i < n := by rw [← hzl]; exact (List.getElem?_eq_some_iff.mp e).1
            exact ⟨q, e1, by rw [e2, zero_getD hi]⟩
          refine MkF.of (.inl pZ) (grid_lm _) h1 h3 ((zero_sym n).tr (zero_sqB n 0 (by decide)).sh h1 h3) ((zero_sqB n 1 (by decide)).e (by decide : _ < 2 ^ 1)) (by decide) fun cz K15 k15 fZ => ?_
          have k1315 := k14.same.trans k15
          refine r_next (r_nseq (r_if ?_))
          refine r_or ?_
          refine r_tt ?_
          refine r_op ?_
          refine ⟨_, rfl, (by show 1 ≤ sizeLine; decide), fun z1 y1 => ⟨_, rfl, z1, (n : Int), [V.int 0], rfl, rfl, upd_same, (by simp), by omega, by omega, (by decide), fun z2 K17 w17 h2 => ?_⟩⟩
          rw [Int.toNat_natCast, rep_flat] at h2
          have k17 : Same K15 K17 := (same_new y1).trans w17
          refine ⟨(by show 2 ≤ sizeLine; decide), fun z3 y3 => ?_⟩
          generalize e18 : upd K17 z3 _ = K18
          have k18 : Same K17 K18 := by rw [← e18]; exact same_new y3
          have g18 : K18 z3 = some (.tup [.int 1, .ref z2]) := by rw [← e18]; exact upd_same
          clear e18
          refine ⟨(by show 1 ≤ sizeLine; decide), fun z4 y4 => ⟨_, rfl, z4, (n : Int), [V.ref z3], rfl, rfl, upd_same, by omega, by omega, ?_, fun z5 y5 => ?_⟩⟩
          · rw [Int.toNat_natCast]
            exact Nat.le_trans (by simp; omega : _ ≤ 100) (by decide)
          generalize e19 : upd (upd K18 z4 _) z5 _ = K19
          have k19 : Same K18 K19 := by rw [← e19]; exact (same_new y4).trans (same_new y5)
          have g19 : K19 z5 = some (.lst (List.replicate n (V.ref z3))) := by rw [← e19, upd_same, Int.toNat_natCast, rep_flat]
          clear e19
          have pz3 : PyV K19 (.ref z3) (.tuple [.int 1, .tuple (iD (List.replicate n 0))]) := by
            have pI := py_ints (H := K19) (List.replicate n 0)
            rw [List.map_replicate] at pI
            exact .tup (k19 _ _ g18) (.cons (.int 1) (.cons (.tup ((k18.trans k19) _ _ h2) pI) .nil))
          have hpy : ∀ m, PyVs K19 (List.replicate m (V.ref z3)) (List.replicate m (PyData.tuple [.int 1, .tuple (iD (List.replicate n 0))])) := fun m => by
            induction m with
            | zero => exact .nil
            | succ m ih => exact .cons pz3 ih
          have k1519 := k17.trans (k18.trans k19)
          refine ⟨.ref cz, .ref z5, zeroM n, n, 1, false, rfl, fZ.same k1519, by decide, isq_of (.lst g19 (hpy n)) (fl_fine h3) (un_ok h1 h3).2.2.2.1, fun K20 k20 => ⟨false, false, rfl, rfl, _, rfl, ifF rfl ?_⟩⟩
          have k1520 := k1519.trans k20
          have k1320 := k1315.trans k1520
          refine r_tt ?_
          refine r_op ?_
          refine ⟨_, rfl, _, rfl, .ref cz, .ref Du, zeroM n, n, 1, false, rfl, fZ.same k1520, by decide, isq_of (.lst (k1320 _ _ hDu13) (PyVs.mono k1320 hbu13)) (un_fine h3) (un_ok h1 h3).2.2.2.2, fun K21 k21 => ⟨false, false, rfl, rfl, _, rfl, ifF rfl ?_⟩⟩
          have V21 := V13.trans (k1320.trans k21)
          clear pz3 g19 g18 h2 hDu13 hbu13 pZ hDf fZ fU5 fU
          have sF := sR.trans V21
          refine r_next (r_nret (r_andV (cb1 (tlc_call ⟨_, rfl, false, O', ws', rfl, .inl (.inl (V21 _ _ hO')), ?_⟩))))
          refine lc_el (p := none) ws'.length (fun j v => v = .bl true) has_none (by omega) (fun j H hj s => its_go (t := false) (.inl (.inl (s.same _ _ (V21 _ _ hO')))) (List.getElem?_eq_getElem hj)) (fun H s => its_stop (t := false) (.inl (.inl (s.same _ _ (V21 _ _ hO')))) (Nat.le_refl _)) (fun j x H3 H4 C' hj s3 _ hy hC => ?_) fun Da K22 rs nDa k22 hDa hrl hrE => ?_
          · obtain ⟨rfl, ex⟩ := its_yld (t := false) hy (.inl (.inl (s3.same _ _ (V21 _ _ hO'))))
            have mx := List.mem_of_getElem? ex
            have s4 := V21.trans s3.same
            exact ⟨rfl, r_op (a2 ⟨_, rfl, _, rfl, .ref c1, x, G, n, 6, false, rfl, f5.same (sR.trans s4), by decide, (allI x mx).mono s4, fun L sl => ⟨false, false, rfl, rfl, hC _ _ (RX.of sl) rfl⟩⟩)⟩
          · have er : rs = (List.replicate ws'.length true).map V.bl := by
              rw [List.map_replicate]
              exact List.eq_replicate_iff.mpr ⟨hrl, fun v hv => by
                obtain ⟨j, hj, ej⟩ := List.getElem_of_mem hv
                exact hrE j v (by rw [List.getElem?_eq_getElem hj, ej])⟩
            subst er
            have sL := sF.trans k22.same
            refine ⟨Da, _, rfl, SqL.of hDa, _, rfl, ifT (by simp) ?_⟩
            refine r_op (a2 ⟨_, rfl, _, rfl, .ref c1, .ref D, G, n, 6, true, rfl, f5.same sL, by decide, iD1' _ sL, fun L sl => ⟨true, true, rfl, rfl, ?_⟩⟩)
            exact q _ (S5.trans (RX.of (sL.trans sl)))
end
end T24
set_option Elab.async false
set_option linter.all false
set_option maxRecDepth 100000
set_option maxHeartbeats 4000000
namespace T24
open PySem PySem.Spec PyProof.Rows L2 Gd Zn Rp Dn Tb Gn En Zs Ct Op Oc Rg Rt Ro Oa Ob
theorem kit_no {K : PySem.W.Frag} {C : Addr} {T : String} (m : PySem.W.kitMeta T = true) (h : PySem.W.mroIn K C (.type T) = some false) : PySem.W.kitOne K (.ref C) (.type T) = some false := by
  unfold PySem.W.kitOne
  rw [if_neg (by intro e; cases beq_iff_eq.mp e)]
  show (if PySem.W.kitMeta T = true then PySem.W.subIn K (.ref C) (.type T) else none) = some false
  rw [if_pos m]
  exact h
theorem kitF_of {K : PySem.W.Frag} {C : Addr} (h2 : PySem.W.mroIn K C (.type "list") = some false) (h3 : PySem.W.mroIn K C (.type "tuple") = some false) : KitF K C :=
  ⟨kit_no (by decide +kernel) h2, kit_no (by decide +kernel) h3⟩
section
variable {P : Program} {w : World} {K : PySem.W.Frag} {mg : Str → Option Value} {base : Heap} {C : Addr}
abbrev st_law : Stmt := top 34
abbrev N_law : List Str := ["_law_script"]
theorem sc_law : FnScope N_law ["_law_script"] (defScope st_law) := ⟨rfl, rfl, rfl, by decide +kernel, rfl, by decide +kernel, by decide +kernel⟩
theorem ok_law {f : Addr} {fd : FuncData} (F' : Fun K "law" "law" st_law f fd) (D1 : Def P w K mg base "_law_pot" 1 ["_law_script", "_law_k"] (sp_pot K)) (D2 : DefG P w K mg base "_law_right" 10 ["_law_pot_here"] sp_right) :
    FnG P w K mg base CX0 11 f fd ["_law_script"] (sp_law K) := by
  refine okG F' sc_law (fun vs H Q E h => ?_) (fun cdv A outer s H vs Q E hst hr h => ?_)
  · obtain ⟨a, ns, rfl, _⟩ := h
    rfl
  · obtain ⟨a, ns, rfl, hS, hl, q⟩ := h
    refine ⟨_, pss_one (ps_ret (pe_defG D2 hst hr (pa_cons (pe_def D1 hr (pa_cons (pv 0) (pa_cons pe_int pa_nil))) pa_nil))), ?_⟩
    exact r_ret (a1 (a2 ⟨_, rfl, a, ns, _, rfl, hS, hl, by decide, by decide, fun p H4 np s4 hp4 => ⟨p, rfl, hp4, fun H5 s5 => q H5⟩⟩))
end
end T24
set_option Elab.async false
set_option linter.all false
set_option maxRecDepth 100000
set_option maxHeartbeats 4000000
namespace T24
open PySem PySem.Spec PyProof.Rows L2 Gd Zn Rp Dn Tb Gn En Zs Ct Op Oc Rg Rt Ro Oa Ob
theorem all_mk {l : PySem.W.OpenLaw} {w : World} {K : PySem.W.Frag} {h : Heap} {mg : Str → Option Value} {fa : Addr} (X : K.In h) (G : h.Ns mainGlobals mg) (hfa : mg "law" = some (.ref fa))
    {f_is_integer f_is_list f_is_row f_is_row_of f_is_grid f_copied f_across f_check_form f_is_squares f_is_square_at f__adds_up f__law_pot f__law_draw f__law_bowl f__law_fits f__law_own f__law_spoilt f__law_right f_law f_Fm___init__ f_Fm_rows f_Fm_size : Addr}
    {od_is_integer an_is_integer od_is_list an_is_list od_is_row an_is_row od_is_row_of an_is_row_of od_is_grid an_is_grid od_copied an_copied od_across an_across od_check_form an_check_form od_is_squares an_is_squares od_is_square_at an_is_square_at od__adds_up an__adds_up od__law_pot an__law_pot od__law_draw an__law_draw od__law_bowl an__law_bowl od__law_fits an__law_fits od__law_own an__law_own od__law_spoilt an__law_spoilt od__law_right an__law_right od_law an_law od_Fm___init__ an_Fm___init__ od_Fm_rows an_Fm_rows od_Fm_size an_Fm_size : Option Addr}
    {sl_is_integer sl_is_list sl_is_row sl_is_row_of sl_is_grid sl_copied sl_across sl_check_form sl_is_squares sl_is_square_at sl__adds_up sl__law_pot sl__law_draw sl__law_bowl sl__law_fits sl__law_own sl__law_spoilt sl__law_right sl_law sl_Fm___init__ sl_Fm_rows sl_Fm_size : Array (Option Value)}
    {oc_is_integer kV_is_integer dc_is_integer pm_is_integer cd_is_integer ct_is_integer oc_is_list kV_is_list dc_is_list pm_is_list cd_is_list ct_is_list oc_is_row kV_is_row dc_is_row pm_is_row cd_is_row ct_is_row oc_is_row_of kV_is_row_of dc_is_row_of pm_is_row_of cd_is_row_of ct_is_row_of oc_is_grid kV_is_grid dc_is_grid pm_is_grid cd_is_grid ct_is_grid oc_copied kV_copied dc_copied pm_copied cd_copied ct_copied oc_across kV_across dc_across pm_across cd_across ct_across oc_check_form kV_check_form dc_check_form pm_check_form cd_check_form ct_check_form oc_is_squares kV_is_squares dc_is_squares pm_is_squares cd_is_squares ct_is_squares oc_is_square_at kV_is_square_at dc_is_square_at pm_is_square_at cd_is_square_at ct_is_square_at oc__adds_up kV__adds_up dc__adds_up pm__adds_up cd__adds_up ct__adds_up oc__law_pot kV__law_pot dc__law_pot pm__law_pot cd__law_pot ct__law_pot oc__law_draw kV__law_draw dc__law_draw pm__law_draw cd__law_draw ct__law_draw oc__law_bowl kV__law_bowl dc__law_bowl pm__law_bowl cd__law_bowl ct__law_bowl oc__law_fits kV__law_fits dc__law_fits pm__law_fits cd__law_fits ct__law_fits oc__law_own kV__law_own dc__law_own pm__law_own cd__law_own ct__law_own oc__law_spoilt kV__law_spoilt dc__law_spoilt pm__law_spoilt cd__law_spoilt ct__law_spoilt oc__law_right kV__law_right dc__law_right pm__law_right cd__law_right ct__law_right oc_law kV_law dc_law pm_law cd_law ct_law oc_Fm___init__ kV_Fm___init__ dc_Fm___init__ pm_Fm___init__ cd_Fm___init__ ct_Fm___init__ oc_Fm_rows kV_Fm_rows dc_Fm_rows pm_Fm_rows cd_Fm_rows ct_Fm_rows oc_Fm_size kV_Fm_size dc_Fm_size pm_Fm_size cd_Fm_size ct_Fm_size : Value}
    {pp_Fm_rows pp_Fm_size : Addr} {rs_Fm_rows rs_Fm_size : List Value}
    {CF : Addr} {cldF : ClassData} {mrestF : List Value}
    (aCF : PySem.W.nsIn K mainGlobals "Form" = some (some (.ref CF)))
    (a_is_integer : PySem.W.nsIn K mainGlobals "is_integer" = some (some (.ref f_is_integer)))
    (l_is_integer : K.lookup f_is_integer = some ⟨oc_is_integer, od_is_integer, .func (PySem.W.fnOf "is_integer" "is_integer" (defArgs st_is_integer) (defBody st_is_integer) (defScope st_is_integer) .none kV_is_integer dc_is_integer pm_is_integer an_is_integer cd_is_integer ct_is_integer), sl_is_integer⟩)
    (c_is_integer : PySem.W.codeIn K cd_is_integer "is_integer" = true)
    (k_is_integer : PySem.W.keepIn K (.ref f_is_integer) = true)
    (a_is_list : PySem.W.nsIn K mainGlobals "is_list" = some (some (.ref f_is_list)))
    (l_is_list : K.lookup f_is_list = some ⟨oc_is_list, od_is_list, .func (PySem.W.fnOf "is_list" "is_list" (defArgs st_is_list) (defBody st_is_list) (defScope st_is_list) .none kV_is_list dc_is_list pm_is_list an_is_list cd_is_list ct_is_list), sl_is_list⟩)
    (c_is_list : PySem.W.codeIn K cd_is_list "is_list" = true)
    (k_is_list : PySem.W.keepIn K (.ref f_is_list) = true)
    (a_is_row : PySem.W.nsIn K mainGlobals "is_row" = some (some (.ref f_is_row)))
    (l_is_row : K.lookup f_is_row = some ⟨oc_is_row, od_is_row, .func (PySem.W.fnOf "is_row" "is_row" (defArgs st_is_row) (defBody st_is_row) (defScope st_is_row) .none kV_is_row dc_is_row pm_is_row an_is_row cd_is_row ct_is_row), sl_is_row⟩)
    (c_is_row : PySem.W.codeIn K cd_is_row "is_row" = true)
    (k_is_row : PySem.W.keepIn K (.ref f_is_row) = true)
    (a_is_row_of : PySem.W.nsIn K mainGlobals "is_row_of" = some (some (.ref f_is_row_of)))
    (l_is_row_of : K.lookup f_is_row_of = some ⟨oc_is_row_of, od_is_row_of, .func (PySem.W.fnOf "is_row_of" "is_row_of" (defArgs st_is_row_of) (defBody st_is_row_of) (defScope st_is_row_of) .none kV_is_row_of dc_is_row_of pm_is_row_of an_is_row_of cd_is_row_of ct_is_row_of), sl_is_row_of⟩)
    (c_is_row_of : PySem.W.codeIn K cd_is_row_of "is_row_of" = true)
    (k_is_row_of : PySem.W.keepIn K (.ref f_is_row_of) = true)
    (a_is_grid : PySem.W.nsIn K mainGlobals "is_grid" = some (some (.ref f_is_grid)))
    (l_is_grid : K.lookup f_is_grid = some ⟨oc_is_grid, od_is_grid, .func (PySem.W.fnOf "is_grid" "is_grid" (defArgs st_is_grid) (defBody st_is_grid) (defScope st_is_grid) .none kV_is_grid dc_is_grid pm_is_grid an_is_grid cd_is_grid ct_is_grid), sl_is_grid⟩)
    (c_is_grid : PySem.W.codeIn K cd_is_grid "is_grid" = true)
    (k_is_grid : PySem.W.keepIn K (.ref f_is_grid) = true)
    (a_copied : PySem.W.nsIn K mainGlobals "copied" = some (some (.ref f_copied)))
    (l_copied : K.lookup f_copied = some ⟨oc_copied, od_copied, .func (PySem.W.fnOf "copied" "copied" (defArgs st_copied) (defBody st_copied) (defScope st_copied) .none kV_copied dc_copied pm_copied an_copied cd_copied ct_copied), sl_copied⟩)
    (c_copied : PySem.W.codeIn K cd_copied "copied" = true)
    (k_copied : PySem.W.keepIn K (.ref f_copied) = true)
    (a_across : PySem.W.nsIn K mainGlobals "across" = some (some (.ref f_across)))
    (l_across : K.lookup f_across = some ⟨oc_across, od_across, .func (PySem.W.fnOf "across" "across" (defArgs st_across) (defBody st_across) (defScope st_across) .none kV_across dc_across pm_across an_across cd_across ct_across), sl_across⟩)
    (c_across : PySem.W.codeIn K cd_across "across" = true)
    (k_across : PySem.W.keepIn K (.ref f_across) = true)
    (a_check_form : PySem.W.nsIn K mainGlobals "check_form" = some (some (.ref f_check_form)))
    (l_check_form : K.lookup f_check_form = some ⟨oc_check_form, od_check_form, .func (PySem.W.fnOf "check_form" "check_form" (defArgs st_check_form) (defBody st_check_form) (defScope st_check_form) .none kV_check_form dc_check_form pm_check_form an_check_form cd_check_form ct_check_form), sl_check_form⟩)
    (c_check_form : PySem.W.codeIn K cd_check_form "check_form" = true)
    (k_check_form : PySem.W.keepIn K (.ref f_check_form) = true)
    (a_is_squares : PySem.W.nsIn K mainGlobals "is_squares" = some (some (.ref f_is_squares)))
    (l_is_squares : K.lookup f_is_squares = some ⟨oc_is_squares, od_is_squares, .func (PySem.W.fnOf "is_squares" "is_squares" (defArgs st_isq) (defBody st_isq) (defScope st_isq) .none kV_is_squares dc_is_squares pm_is_squares an_is_squares cd_is_squares ct_is_squares), sl_is_squares⟩)
    (c_is_squares : PySem.W.codeIn K cd_is_squares "is_squares" = true)
    (k_is_squares : PySem.W.keepIn K (.ref f_is_squares) = true)
    (a_is_square_at : PySem.W.nsIn K mainGlobals "is_square_at" = some (some (.ref f_is_square_at)))
    (l_is_square_at : K.lookup f_is_square_at = some ⟨oc_is_square_at, od_is_square_at, .func (PySem.W.fnOf "is_square_at" "is_square_at" (defArgs st_isat) (defBody st_isat) (defScope st_isat) .none kV_is_square_at dc_is_square_at pm_is_square_at an_is_square_at cd_is_square_at ct_is_square_at), sl_is_square_at⟩)
    (c_is_square_at : PySem.W.codeIn K cd_is_square_at "is_square_at" = true)
    (k_is_square_at : PySem.W.keepIn K (.ref f_is_square_at) = true)
    (a__adds_up : PySem.W.nsIn K mainGlobals "_adds_up" = some (some (.ref f__adds_up)))
    (l__adds_up : K.lookup f__adds_up = some ⟨oc__adds_up, od__adds_up, .func (PySem.W.fnOf "_adds_up" "_adds_up" (defArgs st_adds) (defBody st_adds) (defScope st_adds) .none kV__adds_up dc__adds_up pm__adds_up an__adds_up cd__adds_up ct__adds_up), sl__adds_up⟩)
    (c__adds_up : PySem.W.codeIn K cd__adds_up "_adds_up" = true)
    (k__adds_up : PySem.W.keepIn K (.ref f__adds_up) = true)
    (a__law_pot : PySem.W.nsIn K mainGlobals "_law_pot" = some (some (.ref f__law_pot)))
    (l__law_pot : K.lookup f__law_pot = some ⟨oc__law_pot, od__law_pot, .func (PySem.W.fnOf "_law_pot" "_law_pot" (defArgs st_pot) (defBody st_pot) (defScope st_pot) .none kV__law_pot dc__law_pot pm__law_pot an__law_pot cd__law_pot ct__law_pot), sl__law_pot⟩)
    (c__law_pot : PySem.W.codeIn K cd__law_pot "_law_pot" = true)
    (k__law_pot : PySem.W.keepIn K (.ref f__law_pot) = true)
    (a__law_draw : PySem.W.nsIn K mainGlobals "_law_draw" = some (some (.ref f__law_draw)))
    (l__law_draw : K.lookup f__law_draw = some ⟨oc__law_draw, od__law_draw, .func (PySem.W.fnOf "_law_draw" "_law_draw" (defArgs st_draw) (defBody st_draw) (defScope st_draw) .none kV__law_draw dc__law_draw pm__law_draw an__law_draw cd__law_draw ct__law_draw), sl__law_draw⟩)
    (c__law_draw : PySem.W.codeIn K cd__law_draw "_law_draw" = true)
    (k__law_draw : PySem.W.keepIn K (.ref f__law_draw) = true)
    (a__law_bowl : PySem.W.nsIn K mainGlobals "_law_bowl" = some (some (.ref f__law_bowl)))
    (l__law_bowl : K.lookup f__law_bowl = some ⟨oc__law_bowl, od__law_bowl, .func (PySem.W.fnOf "_law_bowl" "_law_bowl" (defArgs st_lbw) (defBody st_lbw) (defScope st_lbw) .none kV__law_bowl dc__law_bowl pm__law_bowl an__law_bowl cd__law_bowl ct__law_bowl), sl__law_bowl⟩)
    (c__law_bowl : PySem.W.codeIn K cd__law_bowl "_law_bowl" = true)
    (k__law_bowl : PySem.W.keepIn K (.ref f__law_bowl) = true)
    (a__law_fits : PySem.W.nsIn K mainGlobals "_law_fits" = some (some (.ref f__law_fits)))
    (l__law_fits : K.lookup f__law_fits = some ⟨oc__law_fits, od__law_fits, .func (PySem.W.fnOf "_law_fits" "_law_fits" (defArgs st_fits) (defBody st_fits) (defScope st_fits) .none kV__law_fits dc__law_fits pm__law_fits an__law_fits cd__law_fits ct__law_fits), sl__law_fits⟩)
    (c__law_fits : PySem.W.codeIn K cd__law_fits "_law_fits" = true)
    (k__law_fits : PySem.W.keepIn K (.ref f__law_fits) = true)
    (a__law_own : PySem.W.nsIn K mainGlobals "_law_own" = some (some (.ref f__law_own)))
    (l__law_own : K.lookup f__law_own = some ⟨oc__law_own, od__law_own, .func (PySem.W.fnOf "_law_own" "_law_own" (defArgs st_own) (defBody st_own) (defScope st_own) .none kV__law_own dc__law_own pm__law_own an__law_own cd__law_own ct__law_own), sl__law_own⟩)
    (c__law_own : PySem.W.codeIn K cd__law_own "_law_own" = true)
    (k__law_own : PySem.W.keepIn K (.ref f__law_own) = true)
    (a__law_spoilt : PySem.W.nsIn K mainGlobals "_law_spoilt" = some (some (.ref f__law_spoilt)))
    (l__law_spoilt : K.lookup f__law_spoilt = some ⟨oc__law_spoilt, od__law_spoilt, .func (PySem.W.fnOf "_law_spoilt" "_law_spoilt" (defArgs st_spo) (defBody st_spo) (defScope st_spo) .none kV__law_spoilt dc__law_spoilt pm__law_spoilt an__law_spoilt cd__law_spoilt ct__law_spoilt), sl__law_spoilt⟩)
    (c__law_spoilt : PySem.W.codeIn K cd__law_spoilt "_law_spoilt" = true)
    (k__law_spoilt : PySem.W.keepIn K (.ref f__law_spoilt) = true)
    (a__law_right : PySem.W.nsIn K mainGlobals "_law_right" = some (some (.ref f__law_right)))
    (l__law_right : K.lookup f__law_right = some ⟨oc__law_right, od__law_right, .func (PySem.W.fnOf "_law_right" "_law_right" (defArgs st_ri) (defBody st_ri) (defScope st_ri) .none kV__law_right dc__law_right pm__law_right an__law_right cd__law_right ct__law_right), sl__law_right⟩)
    (c__law_right : PySem.W.codeIn K cd__law_right "_law_right" = true)
    (k__law_right : PySem.W.keepIn K (.ref f__law_right) = true)
    (a_law : PySem.W.nsIn K mainGlobals "law" = some (some (.ref f_law)))
    (l_law : K.lookup f_law = some ⟨oc_law, od_law, .func (PySem.W.fnOf "law" "law" (defArgs st_law) (defBody st_law) (defScope st_law) .none kV_law dc_law pm_law an_law cd_law ct_law), sl_law⟩)
    (c_law : PySem.W.codeIn K cd_law "law" = true)
    (k_law : PySem.W.keepIn K (.ref f_law) = true)
    (a_Fm___init__ : PySem.W.findIn K (.ref CF) "__init__" = some (some (.ref f_Fm___init__)))
    (i_Fm___init__ : PySem.W.isFn K (.ref f_Fm___init__) = true)
    (l_Fm___init__ : K.lookup f_Fm___init__ = some ⟨oc_Fm___init__, od_Fm___init__, .func (PySem.W.fnOf "__init__" "Form.__init__" (defArgs (st_F 0)) (defBody (st_F 0)) (defScope (st_F 0)) .none kV_Fm___init__ dc_Fm___init__ pm_Fm___init__ an_Fm___init__ cd_Fm___init__ ct_Fm___init__), sl_Fm___init__⟩)
    (c_Fm___init__ : PySem.W.codeIn K cd_Fm___init__ "Form.__init__" = true)
    (k_Fm___init__ : PySem.W.keepIn K (.ref f_Fm___init__) = true)
    (p_Fm_rows : PySem.W.findIn K (.ref CF) "rows" = some (some (.ref pp_Fm_rows)))
    (g_Fm_rows : PySem.W.specialIn K (.ref pp_Fm_rows) "__get__" = some (some (.builtin "property.__get__")))
    (t_Fm_rows : PySem.W.takesIn K (.ref pp_Fm_rows) = some true)
    (r_Fm_rows : PySem.W.recIn K pp_Fm_rows "property" = some (.ref f_Fm_rows :: rs_Fm_rows))
    (l_Fm_rows : K.lookup f_Fm_rows = some ⟨oc_Fm_rows, od_Fm_rows, .func (PySem.W.fnOf "rows" "Form.rows" (defArgs (st_F 1)) (defBody (st_F 1)) (defScope (st_F 1)) .none kV_Fm_rows dc_Fm_rows pm_Fm_rows an_Fm_rows cd_Fm_rows ct_Fm_rows), sl_Fm_rows⟩)
    (c_Fm_rows : PySem.W.codeIn K cd_Fm_rows "Form.rows" = true)
    (k_Fm_rows : PySem.W.keepIn K (.ref f_Fm_rows) = true)
    (p_Fm_size : PySem.W.findIn K (.ref CF) "size" = some (some (.ref pp_Fm_size)))
    (g_Fm_size : PySem.W.specialIn K (.ref pp_Fm_size) "__get__" = some (some (.builtin "property.__get__")))
    (t_Fm_size : PySem.W.takesIn K (.ref pp_Fm_size) = some true)
    (r_Fm_size : PySem.W.recIn K pp_Fm_size "property" = some (.ref f_Fm_size :: rs_Fm_size))
    (l_Fm_size : K.lookup f_Fm_size = some ⟨oc_Fm_size, od_Fm_size, .func (PySem.W.fnOf "size" "Form.size" (defArgs (st_F 2)) (defBody (st_F 2)) (defScope (st_F 2)) .none kV_Fm_size dc_Fm_size pm_Fm_size an_Fm_size cd_Fm_size ct_Fm_size), sl_Fm_size⟩)
    (c_Fm_size : PySem.W.codeIn K cd_Fm_size "Form.size" = true)
    (k_Fm_size : PySem.W.keepIn K (.ref f_Fm_size) = true)
    (cg : PySem.W.specialIn K (.builtin "object.__class__") "__get__" = some (some (.builtin "getset_descriptor.__get__")))
    (ct : PySem.W.takesIn K (.builtin "object.__class__") = some true)
    (pgF : PySem.W.plainGet K CF Str.empty = true)
    (hdF : PySem.W.hasDictIn K CF = true)
    (poF : PySem.W.plainOver K CF = true)
    (saF : PySem.W.findIn K (.ref CF) "__setattr__" = some (some (.builtin "object.__setattr__")))
    (mkF : PySem.W.makesIn K CF = true)
    (kcF : PySem.W.keepIn K (.ref CF) = true)
    (nRF : PySem.W.findIn K (.ref CF) "_rows" = some none)
    (ccF : PySem.W.findIn K (.ref CF) "__class__" = some (some (.builtin "object.__class__")))
    (cmF : PySem.W.mroIn K CF (.type "object") = some true)
    (hclF : PySem.W.clsIn K CF = some cldF)
    (hmrF : cldF.mro = Value.ref CF :: mrestF)
    (cmlF : PySem.W.mroIn K CF (.type "list") = some false)
    (cmtF : PySem.W.mroIn K CF (.type "tuple") = some false)
    (z0 : PySem.W.nsIn K mainGlobals "isinstance" = some none)
    (z1 : PySem.W.nsIn K mainGlobals "int" = some none)
    (z2 : PySem.W.nsIn K mainGlobals "bool" = some none)
    (z3 : PySem.W.nsIn K mainGlobals "list" = some none)
    (z4 : PySem.W.nsIn K mainGlobals "tuple" = some none)
    (z5 : PySem.W.nsIn K mainGlobals "all" = some none)
    (z6 : PySem.W.nsIn K mainGlobals "sum" = some none)
    (z7 : PySem.W.nsIn K mainGlobals "zip" = some none)
    (z8 : PySem.W.nsIn K mainGlobals "len" = some none)
    (z9 : PySem.W.nsIn K mainGlobals "range" = some none)
    (z10 : PySem.W.nsIn K mainGlobals "repr" = some none)
    (z11 : PySem.W.nsIn K mainGlobals "abs" = some none)
    (z12 : PySem.W.nsIn K mainGlobals "max" = some none)
    (z13 : PySem.W.nsIn K mainGlobals "divmod" = some none)
    (z14 : PySem.W.nsIn K mainGlobals "dict" = some none)
    (z15 : PySem.W.nsIn K mainGlobals "enumerate" = some none)
    (zz_any : PySem.W.nsIn K mainGlobals "any" = some none)
    : ∃ fd : FuncData, (∀ (s : Shared) (v : Value), BindsTo s fd ⟨[v], []⟩ [("_law_script", v)]) ∧ ∀ base : Heap, K.In base → base.Ns mainGlobals mg → FnG l.prog w K mg base CX0 11 fa fd ["_law_script"] (sp_law K) := by
  have e := hfa.symm.trans (PySem.W.mg_of X G a_law)
  cases e
  have T : Txt mg := ⟨PySem.W.mg_none_of X G z0, PySem.W.mg_none_of X G z1, PySem.W.mg_none_of X G z2, PySem.W.mg_none_of X G z3, PySem.W.mg_none_of X G z4, PySem.W.mg_none_of X G z5, PySem.W.mg_none_of X G z6, PySem.W.mg_none_of X G z7, PySem.W.mg_none_of X G z8, PySem.W.mg_none_of X G z9, PySem.W.mg_none_of X G z10, PySem.W.mg_none_of X G z11, PySem.W.mg_none_of X G z12, PySem.W.mg_none_of X G z13, PySem.W.mg_none_of X G z14, PySem.W.mg_none_of X G z15⟩
  have ClF : Cls K CF := ⟨pgF, hdF, poF, saF⟩
  have Fc : Fcl K mg CF := ⟨ClF, nRF, PySem.W.mg_of X G aCF, ccF, cg, ct, cmF⟩
  have F_is_integer := fun_mk (st := st_is_integer) l_is_integer c_is_integer k_is_integer
  have b_is_integer := F_is_integer.binds (ps := ["value"]) fun _ _ _ _ _ _ us hl => match us, hl with | [_], _ => rfl
  have F_is_list := fun_mk (st := st_is_list) l_is_list c_is_list k_is_list
  have b_is_list := F_is_list.binds (ps := ["value"]) fun _ _ _ _ _ _ us hl => match us, hl with | [_], _ => rfl
  have F_is_row := fun_mk (st := st_is_row) l_is_row c_is_row k_is_row
  have b_is_row := F_is_row.binds (ps := ["value"]) fun _ _ _ _ _ _ us hl => match us, hl with | [_], _ => rfl
  have F_is_row_of := fun_mk (st := st_is_row_of) l_is_row_of c_is_row_of k_is_row_of
  have b_is_row_of := F_is_row_of.binds (ps := ["size", "value"]) fun _ _ _ _ _ _ us hl => match us, hl with | [_, _], _ => rfl
  have F_is_grid := fun_mk (st := st_is_grid) l_is_grid c_is_grid k_is_grid
  have b_is_grid := F_is_grid.binds (ps := ["value"]) fun _ _ _ _ _ _ us hl => match us, hl with | [_], _ => rfl
  have F_copied := fun_mk (st := st_copied) l_copied c_copied k_copied
  have b_copied := F_copied.binds (ps := ["rows"]) fun _ _ _ _ _ _ us hl => match us, hl with | [_], _ => rfl
  have F_across := fun_mk (st := st_across) l_across c_across k_across
  have b_across := F_across.binds (ps := ["rows"]) fun _ _ _ _ _ _ us hl => match us, hl with | [_], _ => rfl
  have F_check_form := fun_mk (st := st_check_form) l_check_form c_check_form k_check_form
  have b_check_form := F_check_form.binds (ps := ["form"]) fun _ _ _ _ _ _ us hl => match us, hl with | [_], _ => rfl
  have F_is_squares := fun_mk (st := st_isq) l_is_squares c_is_squares k_is_squares
  have b_is_squares := F_is_squares.binds (ps := ["form", "value"]) fun _ _ _ _ _ _ us hl => match us, hl with | [_, _], _ => rfl
  have F_is_square_at := fun_mk (st := st_isat) l_is_square_at c_is_square_at k_is_square_at
  have b_is_square_at := F_is_square_at.binds (ps := ["size", "place", "pair"]) fun _ _ _ _ _ _ us hl => match us, hl with | [_, _, _], _ => rfl
  have F__adds_up := fun_mk (st := st_adds) l__adds_up c__adds_up k__adds_up
  have b__adds_up := F__adds_up.binds (ps := ["rows", "told"]) fun _ _ _ _ _ _ us hl => match us, hl with | [_, _], _ => rfl
  have F__law_pot := fun_mk (st := st_pot) l__law_pot c__law_pot k__law_pot
  have b__law_pot := F__law_pot.binds (ps := ["_law_script", "_law_k"]) fun _ _ _ _ _ _ us hl => match us, hl with | [_, _], _ => rfl
  have F__law_draw := fun_mk (st := st_draw) l__law_draw c__law_draw k__law_draw
  have b__law_draw := F__law_draw.binds (ps := ["_law_pot_here", "_law_size"]) fun _ _ _ _ _ _ us hl => match us, hl with | [_, _], _ => rfl
  have F__law_bowl := fun_mk (st := st_lbw) l__law_bowl c__law_bowl k__law_bowl
  have b__law_bowl := F__law_bowl.binds (ps := ["_law_pot_here", "_law_size"]) fun _ _ _ _ _ _ us hl => match us, hl with | [_, _], _ => rfl
  have F__law_fits := fun_mk (st := st_fits) l__law_fits c__law_fits k__law_fits
  have b__law_fits := F__law_fits.binds (ps := ["_law_rows", "_law_value"]) fun _ _ _ _ _ _ us hl => match us, hl with | [_, _], _ => rfl
  have F__law_own := fun_mk (st := st_own) l__law_own c__law_own k__law_own
  have b__law_own := F__law_own.binds (ps := ["_law_rows"]) fun _ _ _ _ _ _ us hl => match us, hl with | [_], _ => rfl
  have F__law_spoilt := fun_mk (st := st_spo) l__law_spoilt c__law_spoilt k__law_spoilt
  have b__law_spoilt := F__law_spoilt.binds (ps := ["_law_told", "_law_at"]) fun _ _ _ _ _ _ us hl => match us, hl with | [_, _], _ => rfl
  have F__law_right := fun_mk (st := st_ri) l__law_right c__law_right k__law_right
  have b__law_right := F__law_right.binds (ps := ["_law_pot_here"]) fun _ _ _ _ _ _ us hl => match us, hl with | [_], _ => rfl
  have F_law := fun_mk (st := st_law) l_law c_law k_law
  have b_law := F_law.binds (ps := ["_law_script"]) fun _ _ _ _ _ _ us hl => match us, hl with | [_], _ => rfl
  have F_Fm___init__ := fun_mk (st := (st_F 0)) l_Fm___init__ c_Fm___init__ k_Fm___init__
  have b_Fm___init__ := F_Fm___init__.binds (ps := ["self", "rows"]) fun _ _ _ _ _ _ us hl => match us, hl with | [_, _], _ => rfl
  have F_Fm_rows := fun_mk (st := (st_F 1)) l_Fm_rows c_Fm_rows k_Fm_rows
  have b_Fm_rows := F_Fm_rows.binds (ps := ["self"]) fun _ _ _ _ _ _ us hl => match us, hl with | [_], _ => rfl
  have F_Fm_size := fun_mk (st := (st_F 2)) l_Fm_size c_Fm_size k_Fm_size
  have b_Fm_size := F_Fm_size.binds (ps := ["self"]) fun _ _ _ _ _ _ us hl => match us, hl with | [_], _ => rfl
  refine ⟨PySem.W.fnOf "law" "law" (defArgs st_law) (defBody st_law) (defScope st_law) .none kV_law dc_law pm_law an_law cd_law ct_law, fun s v => .of_eq rfl, fun base _ _ => ?_⟩
  have D_is_integer : Def l.prog w K mg base "is_integer" 1 ["value"] sp_is_integer := ⟨f_is_integer, _, ok_is_integer F_is_integer T, PySem.W.mg_of X G a_is_integer, k_is_integer, b_is_integer⟩
  have D_is_list : Def l.prog w K mg base "is_list" 1 ["value"] sp_is_list := ⟨f_is_list, _, ok_is_list F_is_list T, PySem.W.mg_of X G a_is_list, k_is_list, b_is_list⟩
  have D_is_row : Def l.prog w K mg base "is_row" 2 ["value"] sp_is_row := ⟨f_is_row, _, ok_is_row F_is_row T D_is_list D_is_integer, PySem.W.mg_of X G a_is_row, k_is_row, b_is_row⟩
  have D_is_row_of : Def l.prog w K mg base "is_row_of" 3 ["size", "value"] sp_is_row_of := ⟨f_is_row_of, _, ok_is_row_of F_is_row_of T D_is_row, PySem.W.mg_of X G a_is_row_of, k_is_row_of, b_is_row_of⟩
  have D_is_grid : Def l.prog w K mg base "is_grid" 4 ["value"] sp_is_grid := ⟨f_is_grid, _, ok_is_grid F_is_grid T D_is_list D_is_row_of, PySem.W.mg_of X G a_is_grid, k_is_grid, b_is_grid⟩
  have D_copied : Def l.prog w K mg base "copied" 1 ["rows"] sp_copied := ⟨f_copied, _, ok_copied F_copied T, PySem.W.mg_of X G a_copied, k_copied, b_copied⟩
  have D_across : Def l.prog w K mg base "across" 1 ["rows"] sp_across := ⟨f_across, _, ok_across F_across T, PySem.W.mg_of X G a_across, k_across, b_across⟩
  have D_acrossG : Def l.prog w K mg base "across" 1 ["rows"] sp_acrossG := ⟨f_across, _, ok_acrossG F_across T, PySem.W.mg_of X G a_across, k_across, b_across⟩
  have kitF : KitF K CF := kitF_of cmlF cmtF
  have Fmk : MkrF l.prog w K mg base CF := ⟨f_Fm___init__, _, ⟨mkF, a_Fm___init__, i_Fm___init__, kcF⟩, ok_initF F_Fm___init__ T Fc D_is_grid D_copied D_acrossG, b_Fm___init__⟩
  have FP_rows : Prp l.prog w K mg base CF "rows" 1 (sp_rows CF) := ⟨pp_Fm_rows, f_Fm_rows, _, ⟨p_Fm_rows, g_Fm_rows, t_Fm_rows, ⟨_, r_Fm_rows⟩⟩, ok_rowsF F_Fm_rows Fc, b_Fm_rows⟩
  have FP_size : Prp l.prog w K mg base CF "size" 1 (sp_size CF) := ⟨pp_Fm_size, f_Fm_size, _, ⟨p_Fm_size, g_Fm_size, t_Fm_size, ⟨_, r_Fm_size⟩⟩, ok_sizeF F_Fm_size T Fc, b_Fm_size⟩
  have D_check_form : Def l.prog w K mg base "check_form" 1 ["form"] (sp_check_form CF) := ⟨f_check_form, _, ok_check_form F_check_form T Fc, PySem.W.mg_of X G a_check_form, k_check_form, b_check_form⟩
  have U_is_list : Def l.prog w K mg base "is_list" 1 ["value"] (sp_il CF) := ⟨f_is_list, _, FnOk_or (ok_is_list F_is_list T) (ok_il2 F_is_list T Fc kitF), PySem.W.mg_of X G a_is_list, k_is_list, b_is_list⟩
  have D_is_square_at : Def l.prog w K mg base "is_square_at" 4 ["size", "place", "pair"] sp_isat := ⟨f_is_square_at, _, ok_isat F_is_square_at T D_is_integer D_is_row_of, PySem.W.mg_of X G a_is_square_at, k_is_square_at, b_is_square_at⟩
  have D__adds_up : Def l.prog w K mg base "_adds_up" 1 ["rows", "told"] sp_adds := ⟨f__adds_up, _, ok_adds F__adds_up T, PySem.W.mg_of X G a__adds_up, k__adds_up, b__adds_up⟩
  have kb_is_squares : KBinds K (PySem.W.fnOf "is_squares" "is_squares" (defArgs st_isq) (defBody st_isq) (defScope st_isq) .none kV_is_squares dc_is_squares pm_is_squares an_is_squares cd_is_squares ct_is_squares) ["form", "value"] ["value", "form"] gU2 gV2 := by
    refine KBinds.mk (fun s us ws _ hl => ?_) (fun {vs us zs ws} r1 r2 => ?_)
    · match us, ws, hl with
      | [], [a0, a1], _ => exact .of_eq rfl
    · cases r1 with
      | cons _ _ =>
        cases r2 with
        | nil => exact .nil
        | cons _ _ => exact .nil
      | nil =>
        cases r2 with
        | nil => exact .nil
        | cons x0 u0 =>
          cases u0 with
          | nil => exact .nil
          | cons x1 u1 =>
            cases u1 with
            | cons _ _ => exact .nil
            | nil => exact .cons x1 (.cons x0 .nil)
  have K_is_squares : DefK l.prog w K mg base "is_squares" 5 ["form", "value"] ["value", "form"] (sp_isq CF) gU2 gV2 := ⟨f_is_squares, _, ok_isq F_is_squares T Fc D_check_form U_is_list D_is_square_at D__adds_up FP_rows FP_size, PySem.W.mg_of X G a_is_squares, k_is_squares, b_is_squares, kb_is_squares⟩
  have D_is_squares := K_is_squares.d
  have D__law_pot : Def l.prog w K mg base "_law_pot" 1 ["_law_script", "_law_k"] (sp_pot K) := ⟨f__law_pot, _, ok_pot F__law_pot T, PySem.W.mg_of X G a__law_pot, k__law_pot, b__law_pot⟩
  have D__law_draw : Def l.prog w K mg base "_law_draw" 1 ["_law_pot_here", "_law_size"] sp_draw := ⟨f__law_draw, _, ok_draw F__law_draw T, PySem.W.mg_of X G a__law_draw, k__law_draw, b__law_draw⟩
  have D__law_bowl : Def l.prog w K mg base "_law_bowl" 2 ["_law_pot_here", "_law_size"] sp_lbw := ⟨f__law_bowl, _, ok_lbw F__law_bowl T D__law_draw, PySem.W.mg_of X G a__law_bowl, k__law_bowl, b__law_bowl⟩
  have D__law_fits : Def l.prog w K mg base "_law_fits" 1 ["_law_rows", "_law_value"] sp_fits := ⟨f__law_fits, _, ok_fits F__law_fits T (PySem.W.mg_none_of X G zz_any), PySem.W.mg_of X G a__law_fits, k__law_fits, b__law_fits⟩
  have D__law_own : Def l.prog w K mg base "_law_own" 1 ["_law_rows"] sp_own := ⟨f__law_own, _, ok_own F__law_own T, PySem.W.mg_of X G a__law_own, k__law_own, b__law_own⟩
  have D__law_spoilt : Def l.prog w K mg base "_law_spoilt" 1 ["_law_told", "_law_at"] sp_spo := ⟨f__law_spoilt, _, ok_spo F__law_spoilt T, PySem.W.mg_of X G a__law_spoilt, k__law_spoilt, b__law_spoilt⟩
  have D__law_right : DefG l.prog w K mg base "_law_right" 10 ["_law_pot_here"] sp_right := ⟨f__law_right, _, ok_ri F__law_right T Fc Fmk D__law_draw D__law_bowl D__law_own D__law_fits K_is_squares D__law_spoilt, PySem.W.mg_of X G a__law_right, k__law_right, b__law_right⟩
  exact ok_law F_law D__law_pot D__law_right
theorem walk {l : PySem.W.OpenLaw} {q : Program} {loose : List Str} {XP : (Str → Option Value) → Heap → Prop} {YP : World → Heap → Prop} {d : DefRec} {K : Params → PySem.W.Frag} (hn : l.most = some 63) (hdf : d.params.defaults = [])
    (hY : ∀ (w : World) (h : Heap), YP w h → (K w.params).In h)
    (F : ∀ (w : World) (mg : Str → Option Value) (fa : Addr) (h : Heap), (K w.params).In h → h.Ns mainGlobals mg → mg d.name = some (.ref fa) →
      ∃ fd : FuncData, (∀ (s : Shared) (u : Value), BindsTo s fd ⟨[u], []⟩ [("_law_script", u)]) ∧ ∀ base : Heap, (K w.params).In base → base.Ns mainGlobals mg → FnG l.prog w (K w.params) mg base CX0 11 fa fd ["_law_script"] (sp_law (K w.params))) :
    PySem.W.WalkO q loose XP YP l.row.toRowW d [] (fun f vs => PySem.call f vs) :=
  walkG (n := 63) (k := 11) (x := "_law_script") (sp := fun w => sp_law (K w.params)) hn (by decide) hdf ⟨rfl, by decide, by decide⟩ hY F (fun _ _ a ns hl _ hS => ⟨a, ns, rfl, hS, hl, fun _ => rfl⟩)
end T24
open PySem PySem.W PyProof.Rows
set_option maxRecDepth 100000 in
set_option maxHeartbeats 0 in
theorem PySem.Challenge.cw_keptbowls_k24_any_value_as_squares_holds : PySem.Challenge.rw_keptbowls_k24_any_value_as_squares.Holds := by
  w_on; o_law; k_head; (case hw => w_witness2)
  k_fill
  refine T24.walk (l := PySem.Challenge.rw_keptbowls_k24_any_value_as_squares) rfl rfl (fun w h Y => PySem.W.kIn_of Y) ?F
  case F =>
    intro w mg fa h KX G hmg
    refine' T24.all_mk KX G hmg ?aCF ?a_is_integer ?l_is_integer ?c_is_integer ?k_is_integer ?a_is_list ?l_is_list ?c_is_list ?k_is_list ?a_is_row ?l_is_row ?c_is_row ?k_is_row ?a_is_row_of ?l_is_row_of ?c_is_row_of ?k_is_row_of ?a_is_grid ?l_is_grid ?c_is_grid ?k_is_grid ?a_copied ?l_copied ?c_copied ?k_copied ?a_across ?l_across ?c_across ?k_across ?a_check_form ?l_check_form ?c_check_form ?k_check_form ?a_is_squares ?l_is_squares ?c_is_squares ?k_is_squares ?a_is_square_at ?l_is_square_at ?c_is_square_at ?k_is_square_at ?a__adds_up ?l__adds_up ?c__adds_up ?k__adds_up ?a__law_pot ?l__law_pot ?c__law_pot ?k__law_pot ?a__law_draw ?l__law_draw ?c__law_draw ?k__law_draw ?a__law_bowl ?l__law_bowl ?c__law_bowl ?k__law_bowl ?a__law_fits ?l__law_fits ?c__law_fits ?k__law_fits ?a__law_own ?l__law_own ?c__law_own ?k__law_own ?a__law_spoilt ?l__law_spoilt ?c__law_spoilt ?k__law_spoilt ?a__law_right ?l__law_right ?c__law_right ?k__law_right ?a_law ?l_law ?c_law ?k_law ?a_Fm___init__ ?i_Fm___init__ ?l_Fm___init__ ?c_Fm___init__ ?k_Fm___init__ ?p_Fm_rows ?g_Fm_rows ?t_Fm_rows ?r_Fm_rows ?l_Fm_rows ?c_Fm_rows ?k_Fm_rows ?p_Fm_size ?g_Fm_size ?t_Fm_size ?r_Fm_size ?l_Fm_size ?c_Fm_size ?k_Fm_size ?cg ?ct ?pgF ?hdF ?poF ?saF ?mkF ?kcF ?nRF ?ccF ?cmF ?hclF ?hmrF ?cmlF ?cmtF ?z0 ?z1 ?z2 ?z3 ?z4 ?z5 ?z6 ?z7 ?z8 ?z9 ?z10 ?z11 ?z12 ?z13 ?z14 ?z15 ?zz_any
    (case aCF => k_is)
    (case a_is_integer => k_is)
    (case l_is_integer => k_is)
    (case c_is_integer => k_is)
    (case k_is_integer => k_is)
    (case a_is_list => k_is)
    (case l_is_list => k_is)
    (case c_is_list => k_is)
    (case k_is_list => k_is)
    (case a_is_row => k_is)
    (case l_is_row => k_is)
    (case c_is_row => k_is)
    (case k_is_row => k_is)
    (case a_is_row_of => k_is)
    (case l_is_row_of => k_is)
    (case c_is_row_of => k_is)
    (case k_is_row_of => k_is)
    (case a_is_grid => k_is)
    (case l_is_grid => k_is)
    (case c_is_grid => k_is)
    (case k_is_grid => k_is)
    (case a_copied => k_is)
    (case l_copied => k_is)
    (case c_copied => k_is)
    (case k_copied => k_is)
    (case a_across => k_is)
    (case l_across => k_is)
    (case c_across => k_is)
    (case k_across => k_is)
    (case a_check_form => k_is)
    (case l_check_form => k_is)
    (case c_check_form => k_is)
    (case k_check_form => k_is)
    (case a_is_squares => k_is)
    (case l_is_squares => k_is)
    (case c_is_squares => k_is)
    (case k_is_squares => k_is)
    (case a_is_square_at => k_is)
    (case l_is_square_at => k_is)
    (case c_is_square_at => k_is)
    (case k_is_square_at => k_is)
    (case a__adds_up => k_is)
    (case l__adds_up => k_is)
    (case c__adds_up => k_is)
    (case k__adds_up => k_is)
    (case a__law_pot => k_is)
    (case l__law_pot => k_is)
    (case c__law_pot => k_is)
    (case k__law_pot => k_is)
    (case a__law_draw => k_is)
    (case l__law_draw => k_is)
    (case c__law_draw => k_is)
    (case k__law_draw => k_is)
    (case a__law_bowl => k_is)
    (case l__law_bowl => k_is)
    (case c__law_bowl => k_is)
    (case k__law_bowl => k_is)
    (case a__law_fits => k_is)
    (case l__law_fits => k_is)
    (case c__law_fits => k_is)
    (case k__law_fits => k_is)
    (case a__law_own => k_is)
    (case l__law_own => k_is)
    (case c__law_own => k_is)
    (case k__law_own => k_is)
    (case a__law_spoilt => k_is)
    (case l__law_spoilt => k_is)
    (case c__law_spoilt => k_is)
    (case k__law_spoilt => k_is)
    (case a__law_right => k_is)
    (case l__law_right => k_is)
    (case c__law_right => k_is)
    (case k__law_right => k_is)
    (case a_law => k_is)
    (case l_law => k_is)
    (case c_law => k_is)
    (case k_law => k_is)
    (case a_Fm___init__ => k_is)
    (case i_Fm___init__ => k_is)
    (case l_Fm___init__ => k_is)
    (case c_Fm___init__ => k_is)
    (case k_Fm___init__ => k_is)
    (case p_Fm_rows => k_is)
    (case g_Fm_rows => k_is)
    (case t_Fm_rows => k_is)
    (case r_Fm_rows => k_is)
    (case l_Fm_rows => k_is)
    (case c_Fm_rows => k_is)
    (case k_Fm_rows => k_is)
    (case p_Fm_size => k_is)
    (case g_Fm_size => k_is)
    (case t_Fm_size => k_is)
    (case r_Fm_size => k_is)
    (case l_Fm_size => k_is)
    (case c_Fm_size => k_is)
    (case k_Fm_size => k_is)
    (case cg => k_is)
    (case ct => k_is)
    (case pgF => k_is)
    (case hdF => k_is)
    (case poF => k_is)
    (case saF => k_is)
    (case mkF => k_is)
    (case kcF => k_is)
    (case nRF => k_is)
    (case ccF => k_is)
    (case cmF => k_is)
    (case hclF => k_is)
    (case hmrF => rfl)
    (case cmlF => k_is)
    (case cmtF => k_is)
    (case z0 => k_is)
    (case z1 => k_is)
    (case z2 => k_is)
    (case z3 => k_is)
    (case z4 => k_is)
    (case z5 => k_is)
    (case z6 => k_is)
    (case z7 => k_is)
    (case z8 => k_is)
    (case z9 => k_is)
    (case z10 => k_is)
    (case z11 => k_is)
    (case z12 => k_is)
    (case z13 => k_is)
    (case z14 => k_is)
    (case z15 => k_is)
    (case zz_any => k_is)
#print axioms PySem.Challenge.cw_keptbowls_k24_any_value_as_squares_holds
