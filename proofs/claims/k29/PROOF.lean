import PyProof.Rows.All
import Wide.All
import OpenK.AllK
import Wide.FinOn
import HandS.ForMost
import HandS.IsInst
import HandS.Zip
import HandS.Star
import KE.KStar
import HandS.Wide
import HandS.WideBits
import HandS.Property
import HandS.Style
import HandS.SlotsOwn
import HandS.More
import HandS.Sort
import HandS.TupMul
import HandS.TupAny
import HandS.TryOnly
import HandS.FStr
import HandS.MakeKwOnly
import HandS.Conv
import HandS.SortInts
import Flt.RightSqrt
import KE.KMathG
import PyProof.StrOps2
import HandS.Gcd
import HandS.Call
import HandS.WideMore
import HandS.Dict
import PySem.Challenge.RW_keptbowls_k29_whole_forms_led_about
set_option Elab.async false
set_option linter.all false
set_option maxRecDepth 100000
set_option maxHeartbeats 1000000
namespace Zn
open PySem PySem.Spec PyProof.Rows L2
open PySem.Sem (wp)
/-- a sequence to be walked: a tuple or a list, where, its items -/
abbrev Src := Bool × Addr × Array Value
def ItK (t : Bool) (h : Heap) (i l : Addr) (k : Nat) : Prop := cond t (h.IsTupleIter i l k) (h.IsListIter i l k)
def SqK (t : Bool) (h : Heap) (l : Addr) (xs : Array Value) : Prop := cond t (h.IsTuple l xs) (h.IsList l xs)
abbrev TupAt (h : Heap) (T : Addr) (xs : List Value) : Prop := h.get? T = some { cls := .type "tuple", data := .seq xs.toArray }
theorem ItK.at {t : Bool} {h h' : Heap} {i l : Addr} {k : Nat} (x : ItK t h i l k) (e : ∀ o, h.get? i = some o → h'.get? i = some o) : ItK t h' i l k := by
  cases t with
  | true => exact Heap.IsTupleIter.at x e
  | false => exact Heap.IsListIter.at x e
theorem SqK.at {t : Bool} {h h' : Heap} {l : Addr} {xs : Array Value} (x : SqK t h l xs) (e : ∀ o, h.get? l = some o → h'.get? l = some o) : SqK t h' l xs := by
  cases t with
  | true => obtain ⟨o, ho, r⟩ := x; exact ⟨o, e _ ho, r⟩
  | false => obtain ⟨o, ho, r⟩ := x; exact ⟨o, e _ ho, r⟩
theorem ItK.lt {t : Bool} {h : Heap} {i l : Addr} {k : Nat} (x : ItK t h i l k) : i < h.objs.size := by
  cases t with
  | true => obtain ⟨o, ho, _⟩ := x; exact Heap.lt_size ho
  | false => obtain ⟨o, ho, _⟩ := x; exact Heap.lt_size ho
theorem SqK.lt {t : Bool} {h : Heap} {l : Addr} {xs : Array Value} (x : SqK t h l xs) : l < h.objs.size := by
  cases t with
  | true => obtain ⟨o, ho, _⟩ := x; exact Heap.lt_size ho
  | false => obtain ⟨o, ho, _⟩ := x; exact Heap.lt_size ho
theorem ItK.rec_ {t : Bool} {h : Heap} {i l : Addr} {k : Nat} (x : ItK t h i l k) : ∃ o, h.get? i = some o ∧ (o.cls = .type "tuple_iterator" ∨ o.cls = .type "list_iterator") ∧ o.data = .fields #[.ref l, .int k 0] := by
  cases t with
  | true => obtain ⟨o, ho, hc, hd⟩ := x; exact ⟨o, ho, .inl hc, hd⟩
  | false => obtain ⟨o, ho, hc, hd⟩ := x; exact ⟨o, ho, .inr hc, hd⟩
section
variable {prog : Program} {w : World} {A : Around} {E : Value → Shared → Prop} {s : Shared}
theorem nextOf_item {t : Bool} {i l : Addr} {k : Nat} {xs : Array Value} {x : Value} {Q : Value → Shared → Prop} (hi : ItK t s.heap i l k) (hl : SqK t s.heap l xs) (hx : xs[k]? = some x)
    (hQ : ∀ h', ItK t h' i l (k + 1) → Heap.SameBut i s.heap h' → Q x { s with heap := h' }) : wpAny (model prog w) A (Builtin.SmallTypes.nextOf (.ref i)) Q E s := by
  cases t with
  | true => exact RZ.nextOf_tuple_item hi hl hx hQ
  | false => exact wpAny_nextOf_list_item hi hl hx hQ
theorem nextOf_end {t : Bool} {i l : Addr} {k : Nat} {xs : Array Value} {Q : Value → Shared → Prop} (hh : A.handled = none) (hi : ItK t s.heap i l k) (hl : SqK t s.heap l xs) (hx : xs[k]? = none)
    (hE : ∀ h' e, Heap.ExtBut i s.heap h' → (∃ o, h'.get? e = some o ∧ o.cls = .type "StopIteration") → E (.ref e) { s with heap := h' }) : wpAny (model prog w) A (Builtin.SmallTypes.nextOf (.ref i)) Q E s := by
  cases t with
  | true => exact RZ.nextOf_tuple_end hh hi hl hx hE
  | false => exact wpAny_nextOf_list_end hh hi hl hx hE
theorem pyIter_K {t : Bool} {l : Addr} {xs : Array Value} {Q : Value → Shared → Prop} (hl : SqK t s.heap l xs)
    (hQ : ∀ h', ItK t h' s.heap.objs.size l 0 → h'.objs.size = s.heap.objs.size + 1 → (∀ c o, s.heap.get? c = some o → h'.get? c = some o) → Q (.ref s.heap.objs.size) { s with heap := h' }) :
    wpAny (model prog w) A (pyIter (.ref l)) Q E s := by
  cases t with
  | true => exact wpAny_pyIter_tuple hl (hQ _ ⟨_, Heap.get?_push_size _ rfl, rfl, rfl⟩ (Heap.size_push ..) fun c o e => Heap.get?_push_of_some _ e)
  | false => exact wpAny_pyIter_list hl (hQ _ ⟨_, Heap.get?_push_size _ rfl, rfl, rfl⟩ (Heap.size_push ..) fun c o e => Heap.get?_push_of_some _ e)
/-- the iterators at the k-th turn of their sequences -/
def AllAt (h : Heap) (k : Nat) : List Addr → List Src → Prop
  | [], [] => True
  | i :: is, (t, l, xs) :: r => ItK t h i l k ∧ SqK t h l xs ∧ AllAt h k is r
  | _, _ => False
theorem AllAt.at {h h' : Heap} {k : Nat} : ∀ {is : List Addr} {r : List Src}, AllAt h k is r → (∀ i ∈ is, ∀ o, h.get? i = some o → h'.get? i = some o) → (∀ q ∈ r, ∀ o, h.get? q.2.1 = some o → h'.get? q.2.1 = some o) → AllAt h' k is r
  | [], [], _, _, _ => trivial
  | i :: is, (t, l, xs) :: r, x, e1, e2 => ⟨x.1.at (e1 i List.mem_cons_self), x.2.1.at (e2 _ List.mem_cons_self), AllAt.at x.2.2 (fun j hj => e1 j (List.mem_cons_of_mem _ hj)) fun q hq => e2 q (List.mem_cons_of_mem _ hq)⟩
theorem AllAt.len {h : Heap} {k : Nat} : ∀ {is : List Addr} {r : List Src}, AllAt h k is r → is.length = r.length
  | [], [], _ => rfl
  | _ :: _, _ :: _, x => by rw [List.length_cons, List.length_cons, AllAt.len x.2.2]
theorem AllAt.lt {h : Heap} {k : Nat} : ∀ {is : List Addr} {r : List Src}, AllAt h k is r → ∀ i ∈ is, i < h.objs.size
  | i :: is, (t, l, xs) :: r, x, j, hj => by
    rcases List.mem_cons.mp hj with rfl | hj
    · exact x.1.lt
    · exact AllAt.lt x.2.2 j hj
theorem AllAt.ob {h : Heap} {k : Nat} : ∀ {is : List Addr} {r : List Src}, AllAt h k is r → ∀ i ∈ is, ∃ o l, h.get? i = some o ∧ o.data = .fields #[.ref l, .int k 0]
  | i :: is, (t, l, xs) :: r, x, j, hj => by
    rcases List.mem_cons.mp hj with rfl | hj
    · obtain ⟨o, ho, _, hd⟩ := x.1.rec_
      exact ⟨o, l, ho, hd⟩
    · exact AllAt.ob x.2.2 j hj
/-- the items at the k-th turn -/
def Items (k : Nat) : List Src → List Value → Prop
  | [], [] => True
  | (_, _, xs) :: r, y :: ys => xs[k]? = some y ∧ Items k r ys
  | _, _ => False
theorem Items.len {k : Nat} : ∀ {r : List Src} {ys : List Value}, Items k r ys → r.length = ys.length
  | [], [], _ => rfl
  | _ :: _, _ :: _, x => by rw [List.length_cons, List.length_cons, Items.len x.2]
/-- what a draw asks of the loop's body, and gives -/
def DrawOk (M : Model) (A : Around) {β : Type} (f : Value × Nat → β → Sem (ForInStep β)) (b0 : β) (TO : Addr) : Prop :=
  ∀ (s : Shared) (i l : Addr) (t : Bool) (k : Nat) (xs : Array Value) (x old : Value) (pre post : List Value) (Q : ForInStep β → Shared → Prop) (E : Value → Shared → Prop), ItK t s.heap i l k → SqK t s.heap l xs → xs[k]? = some x → i ≠ TO → l ≠ TO → l ≠ i →
    (pre ++ old :: post).length ≤ 1000 → TupAt s.heap TO (pre ++ old :: post) →
    (∀ h', ItK t h' i l (k + 1) → TupAt h' TO (pre ++ x :: post) → h'.objs.size = s.heap.objs.size → (∀ c o, c ≠ TO → c ≠ i → s.heap.get? c = some o → h'.get? c = some o) → Q (.yield b0) { s with heap := h' }) →
    wpAny M A (f (.ref i, pre.length) b0) Q E s
theorem draw_all {β : Type} {M : Model} {f : Value × Nat → β → Sem (ForInStep β)} {b0 : β} {TO : Addr} {Q : β → Shared → Prop} (hf : DrawOk M A f b0 TO) (k : Nat) (is : List Addr) :
    ∀ (r : List Src) (ys olds pre : List Value) (s : Shared), AllAt s.heap k is r → Items k r ys → ys.length = olds.length → (pre ++ olds).length ≤ 1000 → is.Nodup → TO ∉ is → (∀ q ∈ r, q.2.1 ≠ TO ∧ q.2.1 ∉ is) → TupAt s.heap TO (pre ++ olds) →
      (∀ h', AllAt h' (k + 1) is r → TupAt h' TO (pre ++ ys) → h'.objs.size = s.heap.objs.size → (∀ c o, c ≠ TO → c ∉ is → s.heap.get? c = some o → h'.get? c = some o) → Q b0 { s with heap := h' }) →
      wpAny M A (forIn ((is.map Value.ref).zipIdx pre.length) b0 f) Q E s := by
  induction is with
  | nil =>
    intro r ys olds pre s ha hy hl _ _ _ _ hT hQ
    cases r with
    | cons _ _ => exact ha.elim
    | nil =>
      cases ys with
      | cons _ _ => exact hy.elim
      | nil =>
        have e : olds = [] := List.length_eq_zero_iff.mp hl.symm
        subst e
        rw [List.map_nil, List.zipIdx_nil, List.forIn_nil]
        exact wpAny_pure (hQ s.heap trivial hT rfl fun _ _ _ _ e => e)
  | cons i is ih =>
    intro r ys olds pre s ha hy hl hbd hn hTO hs hT hQ
    cases r with
    | nil => exact ha.elim
    | cons q r =>
      obtain ⟨t, l, xs⟩ := q
      cases ys with
      | nil => exact hy.elim
      | cons y ys =>
        cases olds with
        | nil => cases hl
        | cons o olds =>
          have ha1 : ItK t s.heap i l k := ha.1
          have ha2 : SqK t s.heap l xs := ha.2.1
          have ha3 : AllAt s.heap k is r := ha.2.2
          have hy1 : xs[k]? = some y := hy.1
          have hy2 : Items k r ys := hy.2
          rw [List.map_cons, List.zipIdx_cons, List.forIn_cons]
          have hni : i ∉ is := (List.nodup_cons.mp hn).1
          have hiT : i ≠ TO := fun e => hTO (e ▸ List.mem_cons_self)
          have hq := hs _ List.mem_cons_self
          have hq1 : l ≠ TO := hq.1
          have hq2 : l ∉ i :: is := hq.2
          refine wpAny_bind (hf s i l t k xs y o pre olds _ E ha1 ha2 hy1 hiT hq1 (fun e => hq2 (e ▸ List.mem_cons_self)) hbd hT fun h1 hi1 hT1 hz1 hk1 => ?_)
          have e1 : pre.length + 1 = (pre ++ [y]).length := by simp
          have hT1' : TupAt h1 TO ((pre ++ [y]) ++ olds) := by
            rw [List.append_assoc]
            exact hT1
          have goal := ih r ys olds (pre ++ [y]) { s with heap := h1 } (ha3.at (fun j hj o e => hk1 j o (fun q => hTO (q ▸ List.mem_cons_of_mem _ hj)) (fun q => hni (q ▸ hj)) e)
            fun q hqm o e => hk1 _ o (hs q (List.mem_cons_of_mem _ hqm)).1 (fun z => (hs q (List.mem_cons_of_mem _ hqm)).2 (z ▸ List.mem_cons_self)) e) hy2 (Nat.succ.inj hl) (by simpa using hbd) (List.nodup_cons.mp hn).2 (fun z => hTO (List.mem_cons_of_mem _ z))
            (fun q hqm => ⟨(hs q (List.mem_cons_of_mem _ hqm)).1, fun z => (hs q (List.mem_cons_of_mem _ hqm)).2 (List.mem_cons_of_mem _ z)⟩) hT1' fun h2 ha2' hT2 hz2 hk2 => ?_
          · rw [← e1] at goal
            exact goal
          · refine hQ h2 ⟨hi1.at fun o e => hk2 i o hiT hni e, ha2.at fun o e => hk2 l o hq1 (fun z => hq2 (List.mem_cons_of_mem _ z)) (hk1 l o hq1 (fun z => hq2 (z ▸ List.mem_cons_self)) e), ha2'⟩ ?_ (hz2.trans hz1) fun c o c1 c2 e => ?_
            · rw [List.append_assoc] at hT2
              exact hT2
            · exact hk2 c o c1 (fun z => c2 (List.mem_cons_of_mem _ z)) (hk1 c o c1 (fun z => c2 (z ▸ List.mem_cons_self)) e)
end
end Zn
set_option Elab.async false
set_option linter.all false
set_option maxRecDepth 100000
set_option maxHeartbeats 1000000
namespace Zn
open PySem PySem.Spec PyProof.Rows L2
open PySem.Sem (wp)
section
variable {prog : Program} {w : World} {A : Around} {E : Value → Shared → Prop} {s : Shared}
/-- one turn of the loop within next -/
theorem next_item {z TI TO : Addr} {is : List Addr} {r : List Src} {k : Nat} {ys olds : List Value} {Q : Value → Shared → Prop} (hne : is ≠ [])
    (hz : IsZip s.heap z TI TO .none) (hTI : TupAt s.heap TI (is.map Value.ref)) (hTO : TupAt s.heap TO olds) (ha : AllAt s.heap k is r) (hy : Items k r ys) (hlo : olds.length = is.length) (hsm : is.length ≤ 1000)
    (hnd : is.Nodup) (hzi : z ∉ is) (hTOi : TO ∉ is) (hzT : z ≠ TO) (hs : ∀ q ∈ r, q.2.1 ≠ TO ∧ q.2.1 ≠ z ∧ q.2.1 ∉ is)
    (hQ : ∀ h', IsZip h' z TI TO (rawInt s.heap.objs.size) → TupAt h' TO ys → AllAt h' (k + 1) is r → TupAt h' s.heap.objs.size ys → h'.objs.size = s.heap.objs.size + 1 →
      (∀ c o, c ≠ z → c ≠ TO → c ∉ is → s.heap.get? c = some o → h'.get? c = some o) → Q (.ref s.heap.objs.size) { s with heap := h' }) :
    wpAny (model prog w) A (Builtin.«zip.__next__» ⟨[.ref z], []⟩) (fun fin s' => ∃ v, fin = .done (.ret v) ∧ Q v s') E s := by
  show wpAny _ _ (field (.ref z) 2 >>= _) _ _ _
  refine wpAny_bind (wpAny_field hz rfl (x := .bool false) rfl ?_)
  show wpAny _ _ (field (.ref z) 3 >>= _) _ _ _
  refine wpAny_bind (wpAny_field hz rfl (x := .ref TI) rfl ?_)
  refine wpAny_bind (wpAny_seqItems hTI rfl ?_)
  have hem : (is.map Value.ref).toArray.isEmpty = false := by
    cases is with
    | nil => exact absurd rfl hne
    | cons _ _ => simp
  simp only [hem, Bool.false_eq_true, if_false]
  refine wpAny_bind ?_
  unfold Builtin.SmallTypes.ownedTupleIsFree
  refine wpAny_bind (wpAny_field hz rfl (x := .none) rfl (wpAny_pure ?_))
  simp only [if_true]
  refine wpAny_bind (wpAny_rule ?_)
  refine wpAny_bind (wpAny_field hz rfl (x := .ref TO) rfl ?_)
  refine wpAny_bind (wpAny_setField_rec hz (by simp) fun g1 hz1 hs1 => ?_)
  replace hz1 : IsZip g1 z TI TO .ellipsis := hz1
  have up1 : ∀ c o, c ≠ z → s.heap.get? c = some o → g1.get? c = some o := fun c o c1 e => hs1.extBut _ _ c1 e
  have ha1 : AllAt g1 k is r := ha.at (fun i hi o e => up1 i o (fun q => hzi (q ▸ hi)) e) fun q hq o e => up1 _ o (hs q hq).2.1 e
  have hly : ys.length = olds.length := by rw [hlo, ha.len, ← hy.len]
  refine wpAny_bind ?_
  refine draw_all (M := model prog w) (A := A) (E := E) (b0 := (none, ())) (TO := TO) (Q := _) ?hf k is r ys olds [] { s with heap := g1 } ha1 hy hly (by simpa [hlo] using hsm) hnd hTOi (fun q hq => ⟨(hs q hq).1, (hs q hq).2.2⟩) (up1 TO _ hzT.symm hTO) ?hq
  case hf =>
    intro s2 i l t k2 xs x old pre post Q2 E2 hi hl hx hiT hlT hli hbd hT2 kq
    show wpAny _ _ (((Builtin.SmallTypes.nextOf (.ref i) >>= fun v => pure (some v)).onRaise _) >>= _) _ _ _
    refine wpAny_bind (wpAny_onRaise ?_)
    refine wpAny_bind (nextOf_item hi hl hx fun g2 hi2 hs2 => wpAny_pure ?_)
    have hT3 : TupAt g2 TO (pre ++ old :: post) := hs2.extBut _ _ hiT.symm hT2
    refine wpAny_bind (wpAny_seqItems hT3 rfl ?_)
    have hb2 : (pre ++ old :: post).length ≤ sizeLine := Nat.le_trans hbd (by decide)
    refine wpAny_bind (wpAny_updateSeq hT3 rfl ?_ (by rw [List.size_toArray]; exact hb2) (by rw [Array.size_setIfInBounds, List.size_toArray]; exact Nat.le_succ_of_le hb2))
    refine wpAny_bind (wpAny_letGo (wpAny_pure ?_))
    have hup : Heap.SameBut TO g2 (g2.update TO (Obj.mapSeq fun v => v.setIfInBounds pre.length x)) := Heap.SameBut.update ..
    refine kq _ (hi2.at fun o e => hup.extBut _ _ hiT e) ?_ (hup.1.trans hs2.1) fun c o c1 c2 e => hup.extBut _ _ c1 (hs2.extBut _ _ c2 e)
    show (g2.update TO _).get? TO = _
    rw [Heap.get?_update_self _ hT3 rfl]
    simp [Obj.mapSeq, List.set_append]
  case hq =>
    intro g2 ha2 hT2 hz2 hk2
    refine wpAny_bind (wpAny_seqItems hT2 rfl ?_)
    have hyl : ys.length ≤ sizeLine := Nat.le_trans (by rw [hly, hlo]; exact hsm) (by decide)
    refine wpAny_bind (wpAny_newTuple ?_ (by simpa using hyl))
    have hsz : g2.objs.size = s.heap.objs.size := hz2.trans hs1.1
    have hz3 : IsZip g2 z TI TO .ellipsis := hk2 z _ hzT hzi hz1
    have hzlt : z < g2.objs.size := Heap.lt_size hz3
    have hTlt : TO < g2.objs.size := Heap.lt_size hT2
    show wpAny _ _ (Builtin.SmallTypes.ownedTupleHandOut (.ref z) (.ref g2.objs.size) >>= _) _ _ _
    refine wpAny_bind ?_
    unfold Builtin.SmallTypes.ownedTupleHandOut
    have hz4 : IsZip (g2.push { cls := .type "tuple", data := .seq ([] ++ ys).toArray.toList.toArray }) z TI TO .ellipsis := Heap.get?_push_of_some _ hz3
    refine wpAny_bind (wpAny_setField_rec hz4 (by simp) fun g5 hz5 hs5 => ?_)
    replace hz5 : IsZip g5 z TI TO (rawInt g2.objs.size) := hz5
    refine wpAny_setField_rec hz5 (by simp) fun g6 hz6 hs6 => ?_
    replace hz6 : IsZip g6 z TI TO (rawInt g2.objs.size) := hz6
    have up : ∀ c o, c ≠ z → g2.get? c = some o → g6.get? c = some o := fun c o c1 e => hs6.extBut _ _ c1 (hs5.extBut _ _ c1 (Heap.get?_push_of_some _ e))
    have hnew : TupAt g6 g2.objs.size ys := by
      have e := hs6.extBut _ _ (Nat.ne_of_gt hzlt) (hs5.extBut _ _ (Nat.ne_of_gt hzlt) (Heap.get?_push_size g2 (o := { cls := .type "tuple", data := .seq ([] ++ ys).toArray.toList.toArray }) rfl))
      simpa using e
    have hs8 : g6.objs.size = g2.objs.size + 1 := by rw [hs6.1, hs5.1, Heap.size_push]
    have hT6 : TupAt g6 TO ys := up TO _ hzT.symm hT2
    rw [hsz] at hz6 hnew hs8
    refine wpAny_pure ⟨_, rfl, ?_⟩
    show Q (.ref g2.objs.size) _
    rw [hsz]
    exact hQ g6 hz6 hT6 (ha2.at (fun i hi o e => up i o (fun q => hzi (q ▸ hi)) e) fun q hq o e => up _ o (hs q hq).2.1 e) hnew hs8 fun c o c1 c2 c3 e => up c o c1 (hk2 c o c2 c3 (up1 c o c1 e))
end
end Zn
set_option Elab.async false
set_option linter.all false
set_option maxRecDepth 100000
set_option maxHeartbeats 1000000
namespace Zn
open PySem PySem.Spec PyProof.Rows L2
open PySem.Sem (wp)
def StopAt (h : Heap) (e : Addr) : Prop := ∃ o, h.get? e = some o ∧ o.cls = .type "StopIteration"
/-- an exhausted sequence ends the loop's body -/
def StopOk (M : Model) (A : Around) {β : Type} (f : Value × Nat → β → Sem (ForInStep β)) (b0 : β) (z TI TO : Addr) : Prop :=
  ∀ (s : Shared) (i l : Addr) (t : Bool) (k j : Nat) (xs : Array Value) (Q : ForInStep β → Shared → Prop) (E : Value → Shared → Prop), ItK t s.heap i l k → SqK t s.heap l xs → xs[k]? = none → i ≠ z → IsZip s.heap z TI TO .ellipsis →
    (∀ h' e, (∀ c o, c ≠ z → c ≠ i → s.heap.get? c = some o → h'.get? c = some o) → StopAt h' e → E (.ref e) { s with heap := h' }) → wpAny M A (f (.ref i, j) b0) Q E s
section
variable {prog : Program} {w : World} {A : Around} {E : Value → Shared → Prop} {s : Shared}
theorem stop_all {β : Type} {M : Model} {f : Value × Nat → β → Sem (ForInStep β)} {b0 : β} {z TI TO : Addr} {Q : β → Shared → Prop} (hf : DrawOk M A f b0 TO) (hg : StopOk M A f b0 z TI TO) (k : Nat) (is : List Addr) :
    ∀ (r : List Src) (olds pre : List Value) (s : Shared), AllAt s.heap k is r → (∃ q ∈ r, q.2.2[k]? = none) → r.length = olds.length → (pre ++ olds).length ≤ 1000 → is.Nodup → TO ∉ is → z ∉ is → z ≠ TO → (∀ q ∈ r, q.2.1 ≠ TO ∧ q.2.1 ∉ is) →
      IsZip s.heap z TI TO .ellipsis → TupAt s.heap TO (pre ++ olds) →
      (∀ h' e, (∀ c o, c ≠ z → c ≠ TO → c ∉ is → s.heap.get? c = some o → h'.get? c = some o) → StopAt h' e → E (.ref e) { s with heap := h' }) →
      wpAny M A (forIn ((is.map Value.ref).zipIdx pre.length) b0 f) Q E s := by
  induction is with
  | nil =>
    intro r olds pre s ha hy _ _ _ _ _ _ _ _ _ _
    cases r with
    | cons _ _ => exact ha.elim
    | nil => obtain ⟨q, hq, _⟩ := hy; cases hq
  | cons i is ih =>
    intro r olds pre s ha hy hl hbd hn hTO hzi hzT hs hz hT hE
    cases r with
    | nil => exact ha.elim
    | cons q r =>
      obtain ⟨t, l, xs⟩ := q
      cases olds with
      | nil => cases hl
      | cons o olds =>
        have ha1 : ItK t s.heap i l k := ha.1
        have ha2 : SqK t s.heap l xs := ha.2.1
        have ha3 : AllAt s.heap k is r := ha.2.2
        rw [List.map_cons, List.zipIdx_cons, List.forIn_cons]
        have hni : i ∉ is := (List.nodup_cons.mp hn).1
        have hiT : i ≠ TO := fun e => hTO (e ▸ List.mem_cons_self)
        have hiz : i ≠ z := fun e => hzi (e ▸ List.mem_cons_self)
        have hq := hs _ List.mem_cons_self
        have hq1 : l ≠ TO := hq.1
        have hq2 : l ∉ i :: is := hq.2
        cases hx : xs[k]? with
        | none =>
          exact wpAny_bind (hg s i l t k _ xs _ _ ha1 ha2 hx hiz hz fun h' e hk he => hE h' e (fun c o c1 c2 c3 x => hk c o c1 (fun q => c3 (q ▸ List.mem_cons_self)) x) he)
        | some y =>
          have hy2 : ∃ q ∈ r, q.2.2[k]? = none := by
            obtain ⟨q, hq, e⟩ := hy
            rcases List.mem_cons.mp hq with rfl | hq
            · rw [hx] at e; cases e
            · exact ⟨q, hq, e⟩
          refine wpAny_bind (hf s i l t k xs y o pre olds _ E ha1 ha2 hx hiT hq1 (fun e => hq2 (e ▸ List.mem_cons_self)) hbd hT fun h1 hi1 hT1 hz1 hk1 => ?_)
          have e1 : pre.length + 1 = (pre ++ [y]).length := by simp
          have hT1' : TupAt h1 TO ((pre ++ [y]) ++ olds) := by
            rw [List.append_assoc]
            exact hT1
          have goal := ih r olds (pre ++ [y]) { s with heap := h1 } (ha3.at (fun j hj o e => hk1 j o (fun q => hTO (q ▸ List.mem_cons_of_mem _ hj)) (fun q => hni (q ▸ hj)) e)
            fun q hqm o e => hk1 _ o (hs q (List.mem_cons_of_mem _ hqm)).1 (fun z => (hs q (List.mem_cons_of_mem _ hqm)).2 (z ▸ List.mem_cons_self)) e) hy2 (Nat.succ.inj hl) (by simpa using hbd) (List.nodup_cons.mp hn).2 (fun z => hTO (List.mem_cons_of_mem _ z))
            (fun q => hzi (List.mem_cons_of_mem _ q)) hzT (fun q hqm => ⟨(hs q (List.mem_cons_of_mem _ hqm)).1, fun z => (hs q (List.mem_cons_of_mem _ hqm)).2 (List.mem_cons_of_mem _ z)⟩) (hk1 z _ hzT hiz.symm hz) hT1' fun h2 e hk2 he =>
              hE h2 e (fun c o c1 c2 c3 x => hk2 c o c1 c2 (fun q => c3 (List.mem_cons_of_mem _ q)) (hk1 c o c2 (fun q => c3 (q ▸ List.mem_cons_self)) x)) he
          rw [← e1] at goal
          exact goal
/-- the turn at which some sequence has come to its end -/
theorem next_stop {z TI TO : Addr} {is : List Addr} {r : List Src} {k : Nat} {olds : List Value} {Q : Fin → Shared → Prop} (hh : A.handled = none) (hne : is ≠ [])
    (hz : IsZip s.heap z TI TO .none) (hTI : TupAt s.heap TI (is.map Value.ref)) (hTO : TupAt s.heap TO olds) (ha : AllAt s.heap k is r) (hy : ∃ q ∈ r, q.2.2[k]? = none) (hlo : olds.length = is.length) (hsm : is.length ≤ 1000)
    (hnd : is.Nodup) (hzi : z ∉ is) (hTOi : TO ∉ is) (hzT : z ≠ TO) (hs : ∀ q ∈ r, q.2.1 ≠ TO ∧ q.2.1 ≠ z ∧ q.2.1 ∉ is)
    (hE : ∀ h' e, (∀ c o, c ≠ z → c ≠ TO → c ∉ is → s.heap.get? c = some o → h'.get? c = some o) → StopAt h' e → E (.ref e) { s with heap := h' }) :
    wpAny (model prog w) A (Builtin.«zip.__next__» ⟨[.ref z], []⟩) Q E s := by
  show wpAny _ _ (field (.ref z) 2 >>= _) _ _ _
  refine wpAny_bind (wpAny_field hz rfl (x := .bool false) rfl ?_)
  show wpAny _ _ (field (.ref z) 3 >>= _) _ _ _
  refine wpAny_bind (wpAny_field hz rfl (x := .ref TI) rfl ?_)
  refine wpAny_bind (wpAny_seqItems hTI rfl ?_)
  have hem : (is.map Value.ref).toArray.isEmpty = false := by
    cases is with
    | nil => exact absurd rfl hne
    | cons _ _ => simp
  simp only [hem, Bool.false_eq_true, if_false]
  refine wpAny_bind ?_
  unfold Builtin.SmallTypes.ownedTupleIsFree
  refine wpAny_bind (wpAny_field hz rfl (x := .none) rfl (wpAny_pure ?_))
  simp only [if_true]
  refine wpAny_bind (wpAny_rule ?_)
  refine wpAny_bind (wpAny_field hz rfl (x := .ref TO) rfl ?_)
  refine wpAny_bind (wpAny_setField_rec hz (by simp) fun g1 hz1 hs1 => ?_)
  replace hz1 : IsZip g1 z TI TO .ellipsis := hz1
  have up1 : ∀ c o, c ≠ z → s.heap.get? c = some o → g1.get? c = some o := fun c o c1 e => hs1.extBut _ _ c1 e
  have ha1 : AllAt g1 k is r := ha.at (fun i hi o e => up1 i o (fun q => hzi (q ▸ hi)) e) fun q hq o e => up1 _ o (hs q hq).2.1 e
  refine wpAny_bind ?_
  refine stop_all (M := model prog w) (A := A) (E := E) (b0 := (none, ())) (z := z) (TI := TI) (TO := TO) (Q := _) ?hf ?hg k is r olds [] { s with heap := g1 } ha1 hy (by rw [hlo, ha.len]) (by simpa [hlo] using hsm) hnd hTOi hzi hzT (fun q hq => ⟨(hs q hq).1, (hs q hq).2.2⟩) hz1 (up1 TO _ hzT.symm hTO)
    fun h' e hk he => hE h' e (fun c o c1 c2 c3 x => hk c o c1 c2 c3 (up1 c o c1 x)) he
  case hf =>
    intro s2 i l t k2 xs x old pre post Q2 E2 hi hl hx hiT hlT hli hbd hT2 kq
    show wpAny _ _ (((Builtin.SmallTypes.nextOf (.ref i) >>= fun v => pure (some v)).onRaise _) >>= _) _ _ _
    refine wpAny_bind (wpAny_onRaise ?_)
    refine wpAny_bind (nextOf_item hi hl hx fun g2 hi2 hs2 => wpAny_pure ?_)
    have hT3 : TupAt g2 TO (pre ++ old :: post) := hs2.extBut _ _ hiT.symm hT2
    refine wpAny_bind (wpAny_seqItems hT3 rfl ?_)
    have hb2 : (pre ++ old :: post).length ≤ sizeLine := Nat.le_trans hbd (by decide)
    refine wpAny_bind (wpAny_updateSeq hT3 rfl ?_ (by rw [List.size_toArray]; exact hb2) (by rw [Array.size_setIfInBounds, List.size_toArray]; exact Nat.le_succ_of_le hb2))
    refine wpAny_bind (wpAny_letGo (wpAny_pure ?_))
    have hup : Heap.SameBut TO g2 (g2.update TO (Obj.mapSeq fun v => v.setIfInBounds pre.length x)) := Heap.SameBut.update ..
    refine kq _ (hi2.at fun o e => hup.extBut _ _ hiT e) ?_ (hup.1.trans hs2.1) fun c o c1 c2 e => hup.extBut _ _ c1 (hs2.extBut _ _ c2 e)
    show (g2.update TO _).get? TO = _
    rw [Heap.get?_update_self _ hT3 rfl]
    simp [Obj.mapSeq, List.set_append]
  case hg =>
    intro s2 i l t k2 j xs Q2 E2 hi hl hx hiz hz2 ke
    show wpAny _ _ (((Builtin.SmallTypes.nextOf (.ref i) >>= fun v => pure (some v)).onRaise _) >>= _) _ _ _
    refine wpAny_bind (wpAny_onRaise ?_)
    refine wpAny_bind (nextOf_end hh hi hl hx fun g2 e hs2 he => ?_)
    obtain ⟨oe, hoe, hce⟩ := he
    have hz3 : IsZip g2 z TI TO .ellipsis := hs2 _ _ hiz.symm hz2
    have hez : e ≠ z := fun x => by subst x; rw [hz3] at hoe; cases hoe; simp at hce
    exact wpAny_setField_rec hz3 (by simp) fun g3 _ hs3 => ke g3 e (fun c o c1 c2 x => hs3.extBut _ _ c1 (hs2 _ _ c2 x)) ⟨oe, hs3.extBut _ _ hez hoe, hce⟩
theorem pyNext_item {z TI TO : Addr} {is : List Addr} {r : List Src} {k : Nat} {ys olds : List Value} {Q : Option Value → Shared → Prop} (hne : is ≠ [])
    (hz : IsZip s.heap z TI TO .none) (hTI : TupAt s.heap TI (is.map Value.ref)) (hTO : TupAt s.heap TO olds) (ha : AllAt s.heap k is r) (hy : Items k r ys) (hlo : olds.length = is.length) (hsm : is.length ≤ 1000)
    (hnd : is.Nodup) (hzi : z ∉ is) (hTOi : TO ∉ is) (hzT : z ≠ TO) (hs : ∀ q ∈ r, q.2.1 ≠ TO ∧ q.2.1 ≠ z ∧ q.2.1 ∉ is)
    (hQ : ∀ h', IsZip h' z TI TO (rawInt s.heap.objs.size) → TupAt h' TO ys → AllAt h' (k + 1) is r → TupAt h' s.heap.objs.size ys → h'.objs.size = s.heap.objs.size + 1 →
      (∀ c o, c ≠ z → c ≠ TO → c ∉ is → s.heap.get? c = some o → h'.get? c = some o) → Q (some (.ref s.heap.objs.size)) { s with heap := h' }) : wpAny (model prog w) A (pyNext (.ref z)) Q E s := by
  have ty : s.TypeIs (.ref z) "zip" := ⟨_, hz, rfl⟩
  unfold pyNext
  refine wpAny_bind (wpAny_attempt (wpAny_callSpecial?_slot (name := Str.ofString "__next__") ty F.slot_zip_next ?_))
  exact wpAny_call_entry F.slot_zip_next ty F.entry_zip_next (next_item hne hz hTI hTO ha hy hlo hsm hnd hzi hTOi hzT hs fun h' b1 b2 b3 b4 b5 b6 => wpAny_pure (hQ h' b1 b2 b3 b4 b5 b6)) (F.args_zip_next_1 _)
theorem pyNext_stop {z TI TO : Addr} {is : List Addr} {r : List Src} {k : Nat} {olds : List Value} {Q : Option Value → Shared → Prop} (hh : A.handled = none) (hne : is ≠ [])
    (hz : IsZip s.heap z TI TO .none) (hTI : TupAt s.heap TI (is.map Value.ref)) (hTO : TupAt s.heap TO olds) (ha : AllAt s.heap k is r) (hy : ∃ q ∈ r, q.2.2[k]? = none) (hlo : olds.length = is.length) (hsm : is.length ≤ 1000)
    (hnd : is.Nodup) (hzi : z ∉ is) (hTOi : TO ∉ is) (hzT : z ≠ TO) (hs : ∀ q ∈ r, q.2.1 ≠ TO ∧ q.2.1 ≠ z ∧ q.2.1 ∉ is)
    (hQ : ∀ h', (∀ c o, c ≠ z → c ≠ TO → c ∉ is → s.heap.get? c = some o → h'.get? c = some o) → Q none { s with heap := h' }) : wpAny (model prog w) A (pyNext (.ref z)) Q E s := by
  have ty : s.TypeIs (.ref z) "zip" := ⟨_, hz, rfl⟩
  unfold pyNext
  refine wpAny_bind (wpAny_attempt (wpAny_callSpecial?_slot (name := Str.ofString "__next__") ty F.slot_zip_next ?_))
  refine wpAny_call_entry F.slot_zip_next ty F.entry_zip_next (next_stop hh hne hz hTI hTO ha hy hlo hsm hnd hzi hTOi hzT hs fun h' e hk he => ?_) (F.args_zip_next_1 _)
  obtain ⟨o, ho, hc⟩ := he
  exact wpAny_bind (wpAny_isInstance (T := "StopIteration") (b := true) ⟨o, ho, hc⟩ isSubtype_stop (wpAny_pure (hQ _ hk)))
end
end Zn
set_option Elab.async false
set_option linter.all false
set_option maxRecDepth 100000
set_option maxHeartbeats 1000000
namespace Zn
open PySem PySem.Spec PyProof.Rows L2
open PySem.Sem (wp)
/-- the sequences stand -/
def Srcs (h : Heap) : List Src → Prop
  | [] => True
  | (t, l, xs) :: r => SqK t h l xs ∧ Srcs h r
theorem Srcs.at {h h' : Heap} : ∀ {r : List Src}, Srcs h r → (∀ q ∈ r, ∀ o, h.get? q.2.1 = some o → h'.get? q.2.1 = some o) → Srcs h' r
  | [], _, _ => trivial
  | (t, l, xs) :: r, x, e => ⟨x.1.at (e _ List.mem_cons_self), Srcs.at x.2 fun q hq => e q (List.mem_cons_of_mem _ hq)⟩
/-- the new iterators -/
def news (n : Nat) : List Src → List Addr
  | [] => []
  | _ :: r => n :: news (n + 1) r
theorem news_len (n : Nat) (r : List Src) : (news n r).length = r.length := by
  induction r generalizing n with
  | nil => rfl
  | cons q r ih => show (news (n + 1) r).length + 1 = r.length + 1; rw [ih]
theorem news_mem {r : List Src} {n i : Nat} (h : i ∈ news n r) : n ≤ i ∧ i < n + r.length := by
  induction r generalizing n with
  | nil => cases h
  | cons q r ih =>
    rcases List.mem_cons.mp h with rfl | h
    · exact ⟨Nat.le_refl _, by simp⟩
    · have := ih h
      rw [List.length_cons]
      omega
theorem news_nodup (r : List Src) (n : Nat) : (news n r).Nodup := by
  induction r generalizing n with
  | nil => exact List.nodup_nil
  | cons q r ih => exact List.nodup_cons.mpr ⟨fun h => absurd (news_mem h).1 (by omega), ih _⟩
section
variable {prog : Program} {w : World} {A : Around} {E : Value → Shared → Prop}
theorem iters_all (f : Value → Array Value → Sem (ForInStep (Array Value))) (hf : ∀ v acc, f v acc = (do let i ← holding acc.toList (pyIter v); pure (.yield (acc.push i)))) (r : List Src) :
    ∀ (acc : Array Value) (s : Shared) (Q : Array Value → Shared → Prop), Srcs s.heap r →
      (∀ h', AllAt h' 0 (news s.heap.objs.size r) r → h'.objs.size = s.heap.objs.size + r.length → (∀ c o, s.heap.get? c = some o → h'.get? c = some o) → Q (acc ++ ((news s.heap.objs.size r).map Value.ref).toArray) { s with heap := h' }) →
      wpAny (model prog w) A (forIn (r.map fun q => Value.ref q.2.1) acc f) Q E s := by
  induction r with
  | nil =>
    intro acc s Q _ hQ
    rw [List.map_nil, List.forIn_nil]
    have := hQ s.heap trivial rfl fun _ _ e => e
    exact wpAny_pure (by simpa [news] using this)
  | cons q r ih =>
    intro acc s Q hs hQ
    obtain ⟨t, l, xs⟩ := q
    have h1 : SqK t s.heap l xs := hs.1
    have h2 : Srcs s.heap r := hs.2
    rw [List.map_cons, List.forIn_cons, hf]
    refine wpAny_bind (wpAny_bind (wpAny_holding (pyIter_K h1 fun g hi hz hk => wpAny_pure ?_)))
    refine ih (acc.push (.ref s.heap.objs.size)) { s with heap := g } Q (h2.at fun q _ o e => hk _ o e) fun g2 ha hz2 hk2 => ?_
    have hz2' : g2.objs.size = g.objs.size + r.length := hz2
    have ha' : AllAt g2 0 (news g.objs.size r) r := ha
    have e : g.objs.size = s.heap.objs.size + 1 := hz
    rw [e] at ha' hz2'
    have fin := hQ g2 ⟨hi.at fun o e => hk2 _ o e, (h1.at fun o e => hk _ o e).at fun o e => hk2 _ o e, ha'⟩ (by rw [hz2', List.length_cons]; omega) fun c o x => hk2 c o (hk c o x)
    show Q _ _
    have e3 : (acc.push (Value.ref s.heap.objs.size) ++ ((news g.objs.size r).map Value.ref).toArray) = (acc ++ ((news s.heap.objs.size ((t, l, xs) :: r)).map Value.ref).toArray) := by
      rw [e]
      simp [news, Array.append_assoc]
    rw [show (({ s with heap := g } : Shared).heap) = g from rfl, e3]
    exact fin
/-- what zip(..) leaves -/
structure Made (h h' : Heap) (r : List Src) : Prop where
  zr : IsZip h' (h.objs.size + r.length + 2) (h.objs.size + r.length) (h.objs.size + r.length + 1) .none
  ti : TupAt h' (h.objs.size + r.length) ((news h.objs.size r).map Value.ref)
  to : TupAt h' (h.objs.size + r.length + 1) (r.map fun _ => Value.none)
  all : AllAt h' 0 (news h.objs.size r) r
  sz : h'.objs.size = h.objs.size + r.length + 3
  kp : ∀ c o, h.get? c = some o → h'.get? c = some o
theorem made_of {h g : Heap} {r : List Src} (ha : AllAt g 0 (news h.objs.size r) r) (hz : g.objs.size = h.objs.size + r.length) (hk : ∀ c o, h.get? c = some o → g.get? c = some o) {o1 o2 o3 : Obj}
    (e1 : o1 = { cls := .type "tuple", data := .seq ((news h.objs.size r).map Value.ref).toArray }) (e2 : o2 = { cls := .type "tuple", data := .seq (r.map fun _ => Value.none).toArray })
    (e3 : o3 = { cls := .type "zip", data := .fields #[.none, .bool false, .bool false, .ref g.objs.size, .ref (g.push o1).objs.size] }) : Made h (((g.push o1).push o2).push o3) r := by
  have s1 : (g.push o1).objs.size = g.objs.size + 1 := Heap.size_push ..
  have s2 : ((g.push o1).push o2).objs.size = g.objs.size + 2 := by rw [Heap.size_push, s1]
  have s3 : (((g.push o1).push o2).push o3).objs.size = g.objs.size + 3 := by rw [Heap.size_push, s2]
  have g1 : (((g.push o1).push o2).push o3).get? g.objs.size = some o1 := Heap.get?_push_of_some _ (Heap.get?_push_of_some _ (Heap.get?_push_size _ (by rw [e1]; rfl)))
  have g2 : (((g.push o1).push o2).push o3).get? (g.push o1).objs.size = some o2 := Heap.get?_push_of_some _ (Heap.get?_push_size _ (by rw [e2]; rfl))
  have g3 : (((g.push o1).push o2).push o3).get? ((g.push o1).push o2).objs.size = some o3 := Heap.get?_push_size _ (by rw [e3]; rfl)
  have kp : ∀ c o, g.get? c = some o → (((g.push o1).push o2).push o3).get? c = some o := fun c o e => Heap.get?_push_of_some _ (Heap.get?_push_of_some _ (Heap.get?_push_of_some _ e))
  rw [s1, hz] at g2
  rw [hz] at g1
  have e3' : o3 = { cls := .type "zip", data := .fields #[.none, .bool false, .bool false, .ref (h.objs.size + r.length), .ref (h.objs.size + r.length + 1)] } := by rw [e3, s1, hz]
  rw [s2, hz] at g3
  rw [e3] at e3'
  exact ⟨g3.trans (congrArg some (e3.trans e3')), g1.trans (congrArg some e1), g2.trans (congrArg some e2), ha.at (fun i _ o e => kp i o e) fun q _ o e => kp _ o e, by rw [s3, hz], fun c o e => kp c o (hk c o e)⟩
theorem zip_new (r : List Src) (hsm : r.length ≤ 1000) : Meets (Builtin.«zip.__new__» ⟨.type "zip" :: r.map fun q => Value.ref q.2.1, []⟩) (fun _ R s => Srcs s.heap r ∧ ∀ h', Made s.heap h' r → R (.ok (.ret (.ref (s.heap.objs.size + r.length + 2)))) { s with heap := h' }) :=
  .of_wp fun prog w A R s h => by
    obtain ⟨hs, h⟩ := h
    have hsub := sub_zip
    unfold Builtin.«zip.__new__»
    have hc : Builtin.SmallTypes.newClass "zip" ⟨.type "zip" :: r.map fun q => Value.ref q.2.1, []⟩ = pure (Value.type "zip", r.map fun q => Value.ref q.2.1) := by
      unfold Builtin.SmallTypes.newClass
      simp only [isType, sub_zip]
      rfl
    rw [hc]
    refine wpAny_bind (wpAny_pure ?_)
    dsimp only
    refine wpAny_bind ?_
    unfold Builtin.SmallTypes.iterAll
    refine wpAny_bind (iters_all _ (fun v acc => rfl) r #[] s _ hs fun g ha hz hk => wpAny_pure ?_)
    have e0 : (#[] ++ ((news s.heap.objs.size r).map Value.ref).toArray).toList = (news s.heap.objs.size r).map Value.ref := by simp
    rw [e0]
    have lsz : r.length ≤ sizeLine := Nat.le_trans hsm (by decide)
    refine wpAny_bind (wpAny_newTuple ?_ (by rw [List.length_map, news_len]; exact lsz))
    refine wpAny_bind (wpAny_newTuple ?_ (by rw [List.length_map, List.length_map, news_len]; exact lsz))
    refine wpAny_bind ?_
    show wpAny _ _ (newObj (.type "zip") (.fields #[.none, .bool false, .bool false, _, _])) _ _ _
    refine wpAny_newObj_type ?_
    refine wpAny_pure ⟨_, rfl, ?_⟩
    have nn : ((news s.heap.objs.size r).map Value.ref).map (fun _ => Value.none) = r.map fun _ => Value.none := by
      rw [List.map_map]
      refine List.ext_getElem (by simp [news_len]) fun i _ _ => by simp
    have z1 : g.objs.size = s.heap.objs.size + r.length := hz
    have fin := h _ (made_of ha hz hk rfl rfl rfl)
    have zz : ∀ o1 o2 : Obj, ((g.push o1).push o2).objs.size = s.heap.objs.size + r.length + 2 := fun o1 o2 => by rw [Heap.size_push, Heap.size_push, z1]
    show R (.ok (.ret (.ref ((g.push _).push _).objs.size))) _
    rw [zz, nn]
    exact fin
end
end Zn
set_option Elab.async false
set_option linter.all false
set_option maxRecDepth 100000
set_option maxHeartbeats 1000000
namespace Zn
open PySem PySem.Spec PyProof.Rows L2
open PySem.Sem (wp)
/-- the iterators alone -/
def ItsAt (h : Heap) (k : Nat) : List Addr → List (Bool × Addr) → Prop
  | [], [] => True
  | i :: is, (t, l) :: r => ItK t h i l k ∧ ItsAt h k is r
  | _, _ => False
theorem ItsAt.at {h h' : Heap} {k : Nat} : ∀ {is : List Addr} {r : List (Bool × Addr)}, ItsAt h k is r → (∀ i ∈ is, ∀ o, h.get? i = some o → h'.get? i = some o) → ItsAt h' k is r
  | [], [], _, _ => trivial
  | i :: is, (t, l) :: r, x, e1 => ⟨x.1.at (e1 i List.mem_cons_self), ItsAt.at x.2 (fun j hj => e1 j (List.mem_cons_of_mem _ hj))⟩
theorem ItsAt.ob {h : Heap} {k : Nat} : ∀ {is : List Addr} {r : List (Bool × Addr)}, ItsAt h k is r → ∀ i ∈ is, ∃ o l, h.get? i = some o ∧ o.data = .fields #[.ref l, .int k 0]
  | i :: is, (t, l) :: r, x, j, hj => by
    rcases List.mem_cons.mp hj with rfl | hj
    · obtain ⟨o, ho, _, hd⟩ := x.1.rec_
      exact ⟨o, l, ho, hd⟩
    · exact ItsAt.ob x.2 j hj
theorem ItsAt.len {h : Heap} {k : Nat} : ∀ {is : List Addr} {r : List (Bool × Addr)}, ItsAt h k is r → is.length = r.length
  | [], [], _ => rfl
  | _ :: _, _ :: _, x => by rw [List.length_cons, List.length_cons, ItsAt.len x.2]
def bare (r : List Src) : List (Bool × Addr) := r.map fun q => (q.1, q.2.1)
theorem AllAt.its {h : Heap} {k : Nat} : ∀ {is : List Addr} {r : List Src}, AllAt h k is r → ItsAt h k is (bare r)
  | [], [], _ => trivial
  | _ :: _, (_, _, _) :: _, x => ⟨x.1, AllAt.its x.2.2⟩
theorem allAt_of {h : Heap} {k : Nat} : ∀ {is : List Addr} {r : List Src}, ItsAt h k is (bare r) → Srcs h r → AllAt h k is r
  | [], [], _, _ => trivial
  | _ :: _, (_, _, _) :: _, x, y => ⟨x.1, y.1, allAt_of x.2 y.2⟩
def SqV (K : PySem.W.Frag) (H : Hp) (t : Bool) (a : Addr) (xs : List V) : Prop := cond t (SqT K H a xs) (SqL K H a xs)
/-- what stands at the i-th places -/
def RowAt (K : PySem.W.Frag) (H : Hp) (i : Nat) : List (Bool × Addr) → List V → Prop
  | [], [] => True
  | (t, a) :: r, y :: ys => (∃ xs, SqV K H t a xs ∧ xs[i]? = some y) ∧ RowAt K H i r ys
  | _, _ => False
def AllSq (K : PySem.W.Frag) (H : Hp) (src : List (Bool × Addr)) : Prop := ∀ q ∈ src, ∃ xs, SqV K H q.1 q.2 xs
def Itn (K : PySem.W.Frag) (src : List (Bool × Addr)) : It :=
  ⟨fun i H => ∃ ys, RowAt K H i src ys, fun i H v H' => ∃ T ys, v = .ref T ∧ H T = none ∧ H' = upd H T (.tup ys) ∧ ∀ zs, RowAt K H i src zs → zs = ys,
    fun i H => AllSq K H src ∧ ∃ q ∈ src, ∃ xs, SqV K H q.1 q.2 xs ∧ xs.length ≤ i⟩
section
variable {X : Cx} {pins : List (Addr × Obj)} {σ : L2.St} {H : Hp} {s : Shared}
theorem sqv_ob (I : Inv X pins σ H s) {t : Bool} {a : Addr} {xs : List V} (h : SqV X.K H t a xs) : ∃ its : List Value, Vals xs its ∧ SqK t s.heap a its.toArray ∧ xs.length ≤ sizeLine := by
  cases t with
  | true =>
    obtain ⟨its, r, p, z⟩ := I.tuple h
    exact ⟨its, r, p, z⟩
  | false =>
    obtain ⟨its, r, p, z⟩ := I.list h
    exact ⟨its, r, p.isList, z⟩
theorem sqv_inj (I : Inv X pins σ H s) {t : Bool} {a : Addr} {xs ys : List V} (h : SqV X.K H t a xs) (h' : SqV X.K H t a ys) : xs = ys := by
  cases t with
  | true => exact I.tuple_inj h h'
  | false => exact I.list_inj h h'
theorem row_inj (I : Inv X pins σ H s) {i : Nat} : ∀ {src : List (Bool × Addr)} {ys zs : List V}, RowAt X.K H i src ys → RowAt X.K H i src zs → zs = ys
  | [], [], [], _, _ => rfl
  | (t, a) :: r, y :: ys, z :: zs, h1, h2 => by
    obtain ⟨⟨xs, q1, e1⟩, h1⟩ := h1
    obtain ⟨⟨xs', q2, e2⟩, h2⟩ := h2
    have e := sqv_inj I q1 q2
    subst e
    rw [e1] at e2
    cases e2
    rw [row_inj I h1 h2]
theorem row_ob (I : Inv X pins σ H s) {i : Nat} : ∀ {src : List (Bool × Addr)} {ys : List V}, RowAt X.K H i src ys → ∃ (r : List Src) (us : List Value), bare r = src ∧ Srcs s.heap r ∧ Items i r us ∧ Vals ys us
  | [], [], _ => ⟨[], [], rfl, trivial, trivial, .nil⟩
  | (t, a) :: src, y :: ys, h => by
    obtain ⟨⟨xs, q, e⟩, h⟩ := h
    obtain ⟨its, rv, p, _⟩ := sqv_ob I q
    obtain ⟨u, hu, ru⟩ := rv.get e
    obtain ⟨r, us, e1, e2, e3, e4⟩ := row_ob I h
    exact ⟨(t, a, its.toArray) :: r, u :: us, by unfold bare at e1 ⊢; rw [List.map_cons, e1], ⟨p, e2⟩, ⟨by simpa using hu, e3⟩, .cons ru e4⟩
theorem all_ob (I : Inv X pins σ H s) : ∀ {src : List (Bool × Addr)}, AllSq X.K H src → ∃ r : List Src, bare r = src ∧ Srcs s.heap r ∧ ∀ q ∈ src, ∀ xs, SqV X.K H q.1 q.2 xs → ∃ p ∈ r, p.2.2.size = xs.length
  | [], _ => ⟨[], rfl, trivial, fun q hq => by cases hq⟩
  | (t, a) :: src, h => by
    obtain ⟨xs, q⟩ := h _ List.mem_cons_self
    obtain ⟨its, rv, p, _⟩ := sqv_ob I q
    obtain ⟨r, e1, e2, e3⟩ := all_ob I (src := src) fun q hq => h q (List.mem_cons_of_mem _ hq)
    refine ⟨(t, a, its.toArray) :: r, by unfold bare at e1 ⊢; rw [List.map_cons, e1], ⟨p, e2⟩, fun q' hq' ys hy => ?_⟩
    rcases List.mem_cons.mp hq' with rfl | hq'
    · refine ⟨_, List.mem_cons_self, ?_⟩
      have e := sqv_inj I q hy
      subst e
      have := rv.length
      simp [this]
    · obtain ⟨p', hp', e'⟩ := e3 q' hq' ys hy
      exact ⟨p', List.mem_cons_of_mem _ hp', e'⟩
end
/-- the iterator's own objects are apart -/
structure Apart (z TI TO : Addr) (is : List Addr) (src : List (Bool × Addr)) : Prop where
  nd : is.Nodup
  zi : z ∉ is
  ti : TI ∉ is
  oi : TO ∉ is
  zT : z ≠ TO
  zI : z ≠ TI
  TT : TI ≠ TO
  sr : ∀ q ∈ src, q.2 ≠ TO ∧ q.2 ≠ z ∧ q.2 ≠ TI ∧ q.2 ∉ is
  ne : is ≠ []
  sm : is.length ≤ 1000
def ZTn (z TI TO : Addr) (is : List Addr) (src : List (Bool × Addr)) (i : Nat) (h : Heap) : Prop :=
  IsZip h z TI TO .none ∧ TupAt h TI (is.map Value.ref) ∧ (∃ olds : List Value, olds.length = is.length ∧ TupAt h TO olds) ∧ ItsAt h i is src
theorem bare_mem {r : List Src} {q : Src} (h : q ∈ r) : (q.1, q.2.1) ∈ bare r := List.mem_map.mpr ⟨q, h, rfl⟩
/-- zip over any number of sequences, unpacked at once -/
theorem turn_n {P : Program} {w : World} {K : PySem.W.Frag} {elts : List Expr} {kk : Nat} {tpos : Pos} {z TI TO : Addr} {is : List Addr} {src : List (Bool × Addr)} (D : Apart z TI TO is src) :
    Turn P w K (.Tuple elts kk tpos) (Itn K src) (z :: TI :: TO :: is) z (ZTn z TI TO is src) where
  mem := List.mem_cons_self
  obj := fun i h st c hc => by
    obtain ⟨hz, hTI, ⟨olds, _, hTO⟩, hi⟩ := st
    rcases List.mem_cons.mp hc with rfl | hc
    · exact ⟨_, hz, fun v q => nomatch q⟩
    rcases List.mem_cons.mp hc with rfl | hc
    · exact ⟨_, hTI, fun v q => nomatch q⟩
    rcases List.mem_cons.mp hc with rfl | hc
    · exact ⟨_, hTO, fun v q => nomatch q⟩
    obtain ⟨o, l, e, d⟩ := hi.ob c hc
    exact ⟨o, e, fun v q => by rw [d] at q; cases q⟩
  keep := fun i h h' st k => by
    obtain ⟨hz, hTI, ⟨olds, hl, hTO⟩, hi⟩ := st
    exact ⟨k z List.mem_cons_self _ hz, k TI (by simp) _ hTI, ⟨olds, hl, k TO (by simp) _ hTO⟩, hi.at fun j hj o e => k j (by simp [hj]) o e⟩
  item := by
    intro X hP hw hK hc i pins s σ H E I hf st hg
    subst hP hw hK
    obtain ⟨hz, hTI, ⟨olds, hol, hTO⟩, hi⟩ := st
    obtain ⟨ys, hrow⟩ := hg
    obtain ⟨r, us, e1, e2, e3, e4⟩ := row_ob I hrow
    subst e1
    have hzl : z < s.heap.objs.size := Heap.lt_size hz
    have ha := allAt_of hi e2
    have hys : ys.length ≤ 1000 := by rw [e4.length, ← e3.len, ← ha.len]; exact D.sm
    have hpart : ∀ c ∈ z :: TI :: TO :: is, c < s.heap.objs.size := fun c hcm => by
      rcases List.mem_cons.mp hcm with rfl | hcm
      · exact hzl
      rcases List.mem_cons.mp hcm with rfl | hcm
      · exact Heap.lt_size hTI
      rcases List.mem_cons.mp hcm with rfl | hcm
      · exact Heap.lt_size hTO
      exact ha.lt c hcm
    refine pyNext_item D.ne hz hTI hTO ha e3 hol D.sm D.nd D.zi D.oi D.zT (fun q hq => ⟨(D.sr _ (bare_mem hq)).1, (D.sr _ (bare_mem hq)).2.1, (D.sr _ (bare_mem hq)).2.2.2⟩) fun g z1 TO1 a1 T1 sz1 k1 => ?_
    refine ⟨_, rfl, wpAny_letOwnedTupleGo_zip (s := { s with heap := g }) z1 fun g2 z2 sb => ?_⟩
    have T2 : g2.get? s.heap.objs.size = some { cls := .type "tuple", data := .seq us.toArray } := (sb.2 _ (Nat.ne_of_gt hzl)).trans T1
    have new : ObjOk X.prog X.w (upd H s.heap.objs.size (.tup ys)) g2 s.heap.objs.size (.tup ys) := ⟨Nat.le_trans hys (by decide), us, e4, ⟨_, T2, rfl, _, rfl⟩⟩
    have I1 : Inv X pins σ (upd H s.heap.objs.size (.tup ys)) { s with heap := g2 } :=
      I.turnedNew (t' := s.toks) (ch := z :: TI :: TO :: is) (fun c o hb q => (sb.2 c (fun q' => hb (by simp [q']))).trans (k1 c o (fun q' => hb (by simp [q'])) (fun q' => hb (by simp [q'])) (fun q' => hb (by simp [q'])) q)) hf (Nat.le_refl _) new
    refine ⟨.ref s.heap.objs.size, _, I1, rfl, ⟨_, ys, rfl, I.hok.fresh (Nat.le_refl _), rfl, fun zs hzs => row_inj I hrow hzs⟩, ⟨z2, ?_, ⟨us, ?_, ?_⟩, ?_⟩, fun c hcm => ?_⟩
    · exact (sb.2 _ D.zI.symm).trans (k1 _ _ D.zI.symm D.TT D.ti hTI)
    · rw [ha.len, e3.len]
    · exact (sb.2 _ D.zT.symm).trans TO1
    · exact a1.its.at fun j hj o q => (sb.2 _ (fun e => D.zi (e ▸ hj))).trans q
    · rw [upd_ne (Nat.ne_of_lt (hpart c hcm))]
      exact (hf c hcm).1
  done := by
    intro X hP hw hK hc i pins s σ H E I hf st hg
    subst hP hw hK
    obtain ⟨hz, hTI, ⟨olds, hol, hTO⟩, hi⟩ := st
    obtain ⟨hall, q, hq, xs, hqx, hle⟩ := hg
    obtain ⟨r, e1, e2, e3⟩ := all_ob I hall
    subst e1
    have ha := allAt_of hi e2
    obtain ⟨p, hp, hps⟩ := e3 q hq xs hqx
    exact pyNext_stop (I.ok.hd hc) D.ne hz hTI hTO ha ⟨p, hp, by rw [Array.getElem?_eq_none_iff]; omega⟩ hol D.sm D.nd D.zi D.oi D.zT (fun q hq => ⟨(D.sr _ (bare_mem hq)).1, (D.sr _ (bare_mem hq)).2.1, (D.sr _ (bare_mem hq)).2.2.2⟩)
      fun g hk => ⟨rfl, I.turnedL (t' := s.toks) (ch := z :: TI :: TO :: is) (fun c o hb q => hk c o (fun q' => hb (by simp [q'])) (fun q' => hb (by simp [q'])) (fun q' => hb (by simp [q'])) q) hf⟩
  self := fun A i s Q E st h => wpAny_pyIter_zip st.1 h
end Zn
set_option Elab.async false
set_option linter.all false
set_option maxRecDepth 100000
set_option maxHeartbeats 1000000
namespace Zn
open PySem PySem.Spec PyProof.Rows L2
open PySem.Sem (wp)
theorem tc1 (a : Value) : checkTypeCall "zip" ⟨[a], []⟩ = pure () := by kernel_rfl
theorem tc3 (a b c : Value) : checkTypeCall "zip" ⟨[a, b, c], []⟩ = pure () := by kernel_rfl
theorem nc1 (a : Value) : checkBuiltinCall "zip.__new__" ⟨[.type "zip", a], []⟩ = pure () := by kernel_rfl
theorem nc3 (a b c : Value) : checkBuiltinCall "zip.__new__" ⟨[.type "zip", a, b, c], []⟩ = pure () := by kernel_rfl
theorem tcn : ∀ {l : List Value}, 0 < l.length → l.length ≤ 3 → checkTypeCall "zip" ⟨l, []⟩ = pure ()
  | [a], _, _ => tc1 a
  | [a, b], _, _ => F.typeCall_zip_2 a b
  | [a, b, c], _, _ => tc3 a b c
theorem ncn : ∀ {l : List Value}, 0 < l.length → l.length ≤ 3 → checkBuiltinCall "zip.__new__" ⟨.type "zip" :: l, []⟩ = pure ()
  | [a], _, _ => nc1 a
  | [a, b], _, _ => F.newCall_zip_2 a b
  | [a, b, c], _, _ => nc3 a b c
theorem oi1 (a b : Value) : argsOk "object.__init__" ⟨[a, b], []⟩ := by
  unfold argsOk; rw [signature?_of (id := "object.__init__") (n := ['_', '_', 't', 'i', 'n', 'i', '_', '_']) (o := ['t', 'c', 'e', 'j', 'b', 'o']) (by kernel_rfl) F.owner_object]; kernel_rfl
theorem oi3 (a b c d : Value) : argsOk "object.__init__" ⟨[a, b, c, d], []⟩ := by
  unfold argsOk; rw [signature?_of (id := "object.__init__") (n := ['_', '_', 't', 'i', 'n', 'i', '_', '_']) (o := ['t', 'c', 'e', 'j', 'b', 'o']) (by kernel_rfl) F.owner_object]; kernel_rfl
theorem oin : ∀ {l : List Value}, 0 < l.length → l.length ≤ 3 → ∀ obj, argsOk "object.__init__" ⟨obj :: l, []⟩
  | [a], _, _ => fun o => oi1 o a
  | [a, b], _, _ => fun o => F.args_object_init_3 o a b
  | [a, b, c], _, _ => fun o => oi3 o a b c
section
variable {prog : Program} {w : World} {A : Around} {E : Value → Shared → Prop} {s : Shared}
theorem call_zipN {r : List Src} {Q : Value → Shared → Prop} (h0 : 0 < r.length) (h3 : r.length ≤ 3) (hs : Srcs s.heap r) (h : ∀ h', Made s.heap h' r → Q (.ref (s.heap.objs.size + r.length + 2)) { s with heap := h' }) :
    wpAny (model prog w) A (call (.type "zip") (r.map fun q => Value.ref q.2.1)) Q E s :=
  callType_new F.called_zip (by decide) (tcn (by simpa using h0) (by simpa using h3)) (ncn (by simpa using h0) (by simpa using h3)) (oin (by simpa using h0) (by simpa using h3)) F.entry_zip_new
    (zip_new r (by omega)) ⟨hs, fun h' m => ⟨⟨_, m.zr, rfl⟩, h h' m⟩⟩
end
theorem srcs_lt {h : Heap} : ∀ {r : List Src}, Srcs h r → ∀ q ∈ r, q.2.1 < h.objs.size
  | (t, l, xs) :: r, x, q, hq => by
    rcases List.mem_cons.mp hq with rfl | hq
    · exact x.1.lt
    · exact srcs_lt x.2 q hq
theorem nA (n r : Nat) : n + r + 2 ≠ n + r + 1 := by omega
theorem nB (n r : Nat) : n + r + 2 ≠ n + r := by omega
theorem nC (n r : Nat) : n + r ≠ n + r + 1 := by omega
theorem nD {n r l : Nat} (k : Nat) (h : l < n) : l ≠ n + r + k := by omega
theorem nE {n r l : Nat} (h : l < n) : l ≠ n + r := by omega
theorem nF {n l : Nat} (h : l < n) (h2 : n ≤ l) : False := by omega
theorem nG {n r : Nat} (k : Nat) (h : n + r + k < n + r) : False := by omega
theorem nH {n r : Nat} (h : n + r < n + r) : False := by omega
theorem made_apart {h h' : Heap} {r : List Src} (m : Made h h' r) (hs : Srcs h r) (h0 : 0 < r.length) (h3 : r.length ≤ 1000) :
    Apart (h.objs.size + r.length + 2) (h.objs.size + r.length) (h.objs.size + r.length + 1) (news h.objs.size r) (bare r) where
  nd := news_nodup r _
  zi := fun q => nG 2 (news_mem q).2
  ti := fun q => nH (news_mem q).2
  oi := fun q => nG 1 (news_mem q).2
  zT := nA _ _
  zI := nB _ _
  TT := nC _ _
  sr := fun q hq => by
    obtain ⟨p, hp, rfl⟩ := List.mem_map.mp hq
    have hl := srcs_lt hs p hp
    exact ⟨nD 1 hl, nD 2 hl, nE hl, fun z => nF hl (news_mem z).1⟩
  ne := fun z => by
    have := news_len h.objs.size r
    rw [z] at this
    have : (0 : Nat) = r.length := this
    omega
  sm := by rw [news_len]; exact h3
section
variable {X : Cx}
def kRefs (src : List (Bool × Addr)) : List V := src.map fun q => V.ref q.2
/-- the sequences of the abstract heap, as they stand -/
theorem srcs_of {pins : List (Addr × Obj)} {σ : L2.St} {H : Hp} {s : Shared} (I : Inv X pins σ H s) {src : List (Bool × Addr)} (h : AllSq X.K H src) : ∃ r : List Src, bare r = src ∧ Srcs s.heap r :=
  let ⟨r, e1, e2, _⟩ := all_ob I h; ⟨r, e1, e2⟩
theorem vals_refs : ∀ {src : List (Bool × Addr)} {us : List Value}, Vals (kRefs src) us → us = src.map fun q => Value.ref q.2
  | [], [], .nil => rfl
  | (t, a) :: r, u :: us, .cons ru t' => by
    have e : u = Value.ref a := ru
    rw [e, vals_refs t', List.map_cons]
/-- an iterator over the zip of 1 to 3 sequences has come -/
theorem zip_come {pins : List (Addr × Obj)} {σ : L2.St} {H : Hp} {s : Shared} {us : List Value} {R : It → Hp → Prop} {elts : List Expr} {kk : Nat} {tpos : Pos} {E : Value → Shared → Prop} (I : Inv X pins σ H s) {src : List (Bool × Addr)} (rv : Vals (kRefs src) us)
    (h0 : 0 < src.length) (h3 : src.length ≤ 3) (ha : AllSq X.K H src) (q : R (Itn X.K src) H) :
    wpAny (model X.prog X.w) X.A (call (.type "zip") us) (fun v s1 => wpAny (model X.prog X.w) X.A (pyIter v) (PIE X pins σ (.Tuple elts kk tpos) R) E s1) E s := by
  obtain ⟨r, e1, e2⟩ := srcs_of I ha
  have e3 := vals_refs rv
  subst e1
  have hl : (bare r).length = r.length := List.length_map ..
  rw [hl] at h0 h3
  have e4 : us = r.map fun q => Value.ref q.2.1 := by rw [e3]; unfold bare; rw [List.map_map]; rfl
  rw [e4]
  refine call_zipN h0 h3 e2 fun g m => wpAny_pyIter_zip m.zr ?_
  have I2 : Inv X pins σ H { s with heap := g } := I.kept (t' := s.toks) m.kp
  refine ⟨_, _, _, _, H, rfl, I2, turn_n (made_apart m e2 h0 (by omega)), ⟨m.zr, m.ti, ⟨_, ?_, m.to⟩, m.all.its⟩, fun c hcm => ?_, q⟩
  · rw [List.length_map, news_len]
  · have hle : s.heap.objs.size ≤ c := by
      rcases List.mem_cons.mp hcm with rfl | hcm
      · exact Nat.le_add_right_of_le (Nat.le_add_right ..)
      rcases List.mem_cons.mp hcm with rfl | hcm
      · exact Nat.le_add_right ..
      rcases List.mem_cons.mp hcm with rfl | hcm
      · exact Nat.le_add_right_of_le (Nat.le_add_right ..)
      exact (news_mem hcm).1
    exact I.fpOk hle (I.hok.fresh hle)
def iZn (K : PySem.W.Frag) (ta : TA) : TI := fun σ H R => ta σ H fun vs H1 => ∃ src : List (Bool × Addr), vs = kRefs src ∧ 0 < src.length ∧ src.length ≤ 3 ∧ AllSq K H1 src ∧ R (Itn K src) H1
/-- for a, b in zip(x, y): lists and tuples, mixed -/
theorem pi_zipn {e : Expr} {es : List Expr} {ta : TA} {p pos tpos : Pos} {elts : List Expr} {kk : Nat} (hg : Gl X "zip") (hm : X.mg "zip" = none) (ha : PA X (e :: es) ta)
    (hs : starEach (e :: es) X.env = (false, eval e X.env) :: starEach es X.env := by rfl) (hpl : (backTo pos (starEach es X.env)).any (·.1) = false := by rfl) :
    PI X (.Tuple elts kk tpos) (.Call (.Name "zip" p) (e :: es) [] pos) (iZn X.K ta) := by
  refine ⟨fun pins s σ H R I h => ?_⟩
  refine Call_ (ld_blt I hg hm PyProof.Rows.boot_zip (PyProof.Rows.callWith_type1 (thn (ha.run pos pins s σ H _ I h) fun us s1 ⟨vs, H1, I1, r1, q1⟩ => ?_) hs hpl))
  obtain ⟨src, rfl, h0, h3, hq, q⟩ := q1
  exact zip_come I1 r1 h0 h3 hq q
end
end Zn
set_option Elab.async false
set_option linter.all false
set_option maxRecDepth 100000
set_option maxHeartbeats 1000000
namespace Zs
open PySem PySem.Spec PyProof.Rows L2 Zn
open PySem.Sem (wp)
abbrev ZipB (h : Heap) (z TI TO : Addr) (f0 : Value) (b : Bool) : Prop :=
  h.get? z = some { cls := .type "zip", dict := none, data := .fields #[f0, .bool b, .bool false, .ref TI, .ref TO], slots := #[] }
/-- none was handed out yet, or one was -/
def Own (f0 : Value) : Prop := f0 = .none ∨ ∃ T : Addr, f0 = rawInt T
/-- an exhausted sequence ends the loop's body -/
def StopOkB (M : Model) (A : Around) {β : Type} (f : Value × Nat → β → Sem (ForInStep β)) (b0 : β) (z TI TO : Addr) (b : Bool) : Prop :=
  ∀ (s : Shared) (i l : Addr) (t : Bool) (k j : Nat) (xs : Array Value) (Q : ForInStep β → Shared → Prop) (E : Value → Shared → Prop), ItK t s.heap i l k → SqK t s.heap l xs → xs[k]? = none → i ≠ z → ZipB s.heap z TI TO .ellipsis b →
    (∀ h' e, (∀ c o, c ≠ z → c ≠ i → s.heap.get? c = some o → h'.get? c = some o) → StopAt h' e → E (.ref e) { s with heap := h' }) → wpAny M A (f (.ref i, j) b0) Q E s
section
variable {prog : Program} {w : World} {A : Around} {E : Value → Shared → Prop} {s : Shared}
theorem stop_allB {β : Type} {M : Model} {f : Value × Nat → β → Sem (ForInStep β)} {b0 : β} {z TI TO : Addr} {b : Bool} {Q : β → Shared → Prop} (hf : DrawOk M A f b0 TO) (hg : StopOkB M A f b0 z TI TO b) (k : Nat) (is : List Addr) :
    ∀ (r : List Src) (olds pre : List Value) (s : Shared), AllAt s.heap k is r → (∃ q ∈ r, q.2.2[k]? = none) → r.length = olds.length → (pre ++ olds).length ≤ 1000 → is.Nodup → TO ∉ is → z ∉ is → z ≠ TO → (∀ q ∈ r, q.2.1 ≠ TO ∧ q.2.1 ∉ is) →
      ZipB s.heap z TI TO .ellipsis b → TupAt s.heap TO (pre ++ olds) →
      (∀ h' e, (∀ c o, c ≠ z → c ≠ TO → c ∉ is → s.heap.get? c = some o → h'.get? c = some o) → StopAt h' e → E (.ref e) { s with heap := h' }) →
      wpAny M A (forIn ((is.map Value.ref).zipIdx pre.length) b0 f) Q E s := by
  induction is with
  | nil =>
    intro r olds pre s ha hy _ _ _ _ _ _ _ _ _ _
    cases r with
    | cons _ _ => exact ha.elim
    | nil => obtain ⟨q, hq, _⟩ := hy; cases hq
  | cons i is ih =>
    intro r olds pre s ha hy hl hbd hn hTO hzi hzT hs hz hT hE
    cases r with
    | nil => exact ha.elim
    | cons q r =>
      obtain ⟨t, l, xs⟩ := q
      cases olds with
      | nil => cases hl
      | cons o olds =>
        have ha1 : ItK t s.heap i l k := ha.1
        have ha2 : SqK t s.heap l xs := ha.2.1
        have ha3 : AllAt s.heap k is r := ha.2.2
        rw [List.map_cons, List.zipIdx_cons, List.forIn_cons]
        have hni : i ∉ is := (List.nodup_cons.mp hn).1
        have hiT : i ≠ TO := fun e => hTO (e ▸ List.mem_cons_self)
        have hiz : i ≠ z := fun e => hzi (e ▸ List.mem_cons_self)
        have hq := hs _ List.mem_cons_self
        have hq1 : l ≠ TO := hq.1
        have hq2 : l ∉ i :: is := hq.2
        cases hx : xs[k]? with
        | none =>
          exact wpAny_bind (hg s i l t k _ xs _ _ ha1 ha2 hx hiz hz fun h' e hk he => hE h' e (fun c o c1 c2 c3 x => hk c o c1 (fun q => c3 (q ▸ List.mem_cons_self)) x) he)
        | some y =>
          have hy2 : ∃ q ∈ r, q.2.2[k]? = none := by
            obtain ⟨q, hq, e⟩ := hy
            rcases List.mem_cons.mp hq with rfl | hq
            · rw [hx] at e; cases e
            · exact ⟨q, hq, e⟩
          refine wpAny_bind (hf s i l t k xs y o pre olds _ E ha1 ha2 hx hiT hq1 (fun e => hq2 (e ▸ List.mem_cons_self)) hbd hT fun h1 hi1 hT1 hz1 hk1 => ?_)
          have e1 : pre.length + 1 = (pre ++ [y]).length := by simp
          have hT1' : TupAt h1 TO ((pre ++ [y]) ++ olds) := by
            rw [List.append_assoc]
            exact hT1
          have goal := ih r olds (pre ++ [y]) { s with heap := h1 } (ha3.at (fun j hj o e => hk1 j o (fun q => hTO (q ▸ List.mem_cons_of_mem _ hj)) (fun q => hni (q ▸ hj)) e)
            fun q hqm o e => hk1 _ o (hs q (List.mem_cons_of_mem _ hqm)).1 (fun z => (hs q (List.mem_cons_of_mem _ hqm)).2 (z ▸ List.mem_cons_self)) e) hy2 (Nat.succ.inj hl) (by simpa using hbd) (List.nodup_cons.mp hn).2 (fun z => hTO (List.mem_cons_of_mem _ z))
            (fun q => hzi (List.mem_cons_of_mem _ q)) hzT (fun q hqm => ⟨(hs q (List.mem_cons_of_mem _ hqm)).1, fun z => (hs q (List.mem_cons_of_mem _ hqm)).2 (List.mem_cons_of_mem _ z)⟩) (hk1 z _ hzT hiz.symm hz) hT1' fun h2 e hk2 he =>
              hE h2 e (fun c o c1 c2 c3 x => hk2 c o c1 c2 (fun q => c3 (List.mem_cons_of_mem _ q)) (hk1 c o c2 (fun q => c3 (q ▸ List.mem_cons_self)) x)) he
          rw [← e1] at goal
          exact goal
theorem alive {a : Addr} {Q : Option Obj → Shared → Prop} (h : Q (s.heap.get? a) s) : wpAny (model prog w) A (loadIfAlive a) Q E s := fun Γ p hΓ => by
  unfold loadIfAlive
  rw [Sem.wp_loadIfAlive]
  exact wpAny_pure h Γ p hΓ
/-- is it free: either answer, the record then with that mark -/
theorem is_free {z TI TO : Addr} {f0 : Value} {b : Bool} {Q : Bool → Shared → Prop} (ow : Own f0) (hz : ZipB s.heap z TI TO f0 b)
    (h1 : Q true s) (h2 : ∀ h', ZipB h' z TI TO f0 true → Heap.SameBut z s.heap h' → Q false { s with heap := h' }) :
    wpAny (model prog w) A (Builtin.SmallTypes.ownedTupleIsFree (.ref z)) Q E s := by
  unfold Builtin.SmallTypes.ownedTupleIsFree
  rcases ow with rfl | ⟨T, rfl⟩
  · exact wpAny_bind (wpAny_field hz rfl (x := .none) rfl (wpAny_pure h1))
  · refine wpAny_bind (wpAny_field hz rfl (x := rawInt T) rfl ?_)
    show wpAny _ _ (loadIfAlive _ >>= _) _ _ _
    refine wpAny_bind (alive ?_)
    cases e : s.heap.get? (Int.toNat (T : Int)) with
    | none => exact wpAny_pure h1
    | some o =>
      show wpAny _ _ (field (.ref z) 1 >>= _) _ _ _
      refine wpAny_bind (wpAny_field hz rfl (x := .bool b) rfl ?_)
      cases b with
      | true => exact wpAny_pure (h2 s.heap hz ⟨rfl, fun _ _ => rfl⟩)
      | false =>
        show wpAny _ _ (setField (.ref z) 1 (.bool true) >>= _) _ _ _
        exact wpAny_bind (wpAny_setField_rec hz (by simp) fun g hg hs => wpAny_pure (h2 g hg hs))
/-- drawing one after another into a new array -/
def Draw2 (M : Model) (A : Around) (f : Value → (Option Fin × Array Value) → Sem (ForInStep (Option Fin × Array Value))) : Prop :=
  ∀ (s : Shared) (i l : Addr) (t : Bool) (k : Nat) (xs : Array Value) (x : Value) (acc : Array Value) (Q : ForInStep (Option Fin × Array Value) → Shared → Prop) (E : Value → Shared → Prop), ItK t s.heap i l k → SqK t s.heap l xs → xs[k]? = some x →
    (∀ h', ItK t h' i l (k + 1) → h'.objs.size = s.heap.objs.size → (∀ c o, c ≠ i → s.heap.get? c = some o → h'.get? c = some o) → Q (.yield (none, acc.push x)) { s with heap := h' }) → wpAny M A (f (.ref i) (none, acc)) Q E s
def Stop2 (M : Model) (A : Around) (f : Value → (Option Fin × Array Value) → Sem (ForInStep (Option Fin × Array Value))) : Prop :=
  ∀ (s : Shared) (i l : Addr) (t : Bool) (k : Nat) (xs : Array Value) (acc : Array Value) (Q : ForInStep (Option Fin × Array Value) → Shared → Prop) (E : Value → Shared → Prop), ItK t s.heap i l k → SqK t s.heap l xs → xs[k]? = none →
    (∀ h' e, (∀ c o, c ≠ i → s.heap.get? c = some o → h'.get? c = some o) → StopAt h' e → E (.ref e) { s with heap := h' }) → wpAny M A (f (.ref i) (none, acc)) Q E s
theorem draws2 {M : Model} {f : Value → (Option Fin × Array Value) → Sem (ForInStep (Option Fin × Array Value))} {Q : (Option Fin × Array Value) → Shared → Prop} (hf : Draw2 M A f) (k : Nat) (is : List Addr) :
    ∀ (r : List Src) (ys : List Value) (acc : Array Value) (s : Shared), AllAt s.heap k is r → Items k r ys → is.Nodup → (∀ q ∈ r, q.2.1 ∉ is) →
      (∀ h', AllAt h' (k + 1) is r → h'.objs.size = s.heap.objs.size → (∀ c o, c ∉ is → s.heap.get? c = some o → h'.get? c = some o) → Q (none, acc ++ ys.toArray) { s with heap := h' }) →
      wpAny M A (forIn (is.map Value.ref) (none, acc) f) Q E s := by
  induction is with
  | nil =>
    intro r ys acc s ha hy _ _ hQ
    cases r with
    | cons _ _ => exact ha.elim
    | nil =>
      cases ys with
      | cons _ _ => exact hy.elim
      | nil =>
        rw [List.map_nil, List.forIn_nil]
        have := hQ s.heap trivial rfl fun _ _ _ e => e
        exact wpAny_pure (by simpa using this)
  | cons i is ih =>
    intro r ys acc s ha hy hn hs hQ
    cases r with
    | nil => exact ha.elim
    | cons q r =>
      obtain ⟨t, l, xs⟩ := q
      cases ys with
      | nil => exact hy.elim
      | cons y ys =>
        have ha1 : ItK t s.heap i l k := ha.1
        have ha2 : SqK t s.heap l xs := ha.2.1
        have ha3 : AllAt s.heap k is r := ha.2.2
        have hy1 : xs[k]? = some y := hy.1
        have hy2 : Items k r ys := hy.2
        rw [List.map_cons, List.forIn_cons]
        have hni : i ∉ is := (List.nodup_cons.mp hn).1
        have hq2 : l ∉ i :: is := hs _ List.mem_cons_self
        have hli : l ≠ i := fun e => hq2 (e ▸ List.mem_cons_self)
        refine wpAny_bind (hf s i l t k xs y acc _ E ha1 ha2 hy1 fun h1 hi1 hz1 hk1 => ?_)
        refine ih r ys (acc.push y) { s with heap := h1 } (ha3.at (fun j hj o e => hk1 j o (fun q => hni (q ▸ hj)) e) fun q hqm o e => hk1 _ o (fun z => hs q (List.mem_cons_of_mem _ hqm) (z ▸ List.mem_cons_self)) e) hy2 (List.nodup_cons.mp hn).2
          (fun q hqm z => hs q (List.mem_cons_of_mem _ hqm) (List.mem_cons_of_mem _ z)) fun h2 ha2' hz2 hk2 => ?_
        have e3 : acc.push y ++ ys.toArray = acc ++ (y :: ys).toArray := by simp
        rw [e3]
        exact hQ h2 ⟨hi1.at fun o e => hk2 i o hni e, ha2.at fun o e => hk2 l o (fun z => hq2 (List.mem_cons_of_mem _ z)) (hk1 l o hli e), ha2'⟩ (hz2.trans hz1) fun c o c2 e => hk2 c o (fun z => c2 (List.mem_cons_of_mem _ z)) (hk1 c o (fun z => c2 (z ▸ List.mem_cons_self)) e)
theorem stops2 {M : Model} {f : Value → (Option Fin × Array Value) → Sem (ForInStep (Option Fin × Array Value))} {Q : (Option Fin × Array Value) → Shared → Prop} (hf : Draw2 M A f) (hg : Stop2 M A f) (k : Nat) (is : List Addr) :
    ∀ (r : List Src) (acc : Array Value) (s : Shared), AllAt s.heap k is r → (∃ q ∈ r, q.2.2[k]? = none) → is.Nodup → (∀ q ∈ r, q.2.1 ∉ is) →
      (∀ h' e, (∀ c o, c ∉ is → s.heap.get? c = some o → h'.get? c = some o) → StopAt h' e → E (.ref e) { s with heap := h' }) →
      wpAny M A (forIn (is.map Value.ref) (none, acc) f) Q E s := by
  induction is with
  | nil =>
    intro r acc s ha hy _ _ _
    cases r with
    | cons _ _ => exact ha.elim
    | nil => obtain ⟨q, hq, _⟩ := hy; cases hq
  | cons i is ih =>
    intro r acc s ha hy hn hs hE
    cases r with
    | nil => exact ha.elim
    | cons q r =>
      obtain ⟨t, l, xs⟩ := q
      have ha1 : ItK t s.heap i l k := ha.1
      have ha2 : SqK t s.heap l xs := ha.2.1
      have ha3 : AllAt s.heap k is r := ha.2.2
      rw [List.map_cons, List.forIn_cons]
      have hni : i ∉ is := (List.nodup_cons.mp hn).1
      have hq2 : l ∉ i :: is := hs _ List.mem_cons_self
      cases hx : xs[k]? with
      | none => exact wpAny_bind (hg s i l t k xs acc _ _ ha1 ha2 hx fun h' e hk he => hE h' e (fun c o c3 x => hk c o (fun q => c3 (q ▸ List.mem_cons_self)) x) he)
      | some y =>
        have hy2 : ∃ q ∈ r, q.2.2[k]? = none := by
          obtain ⟨q, hq, e⟩ := hy
          rcases List.mem_cons.mp hq with rfl | hq
          · rw [hx] at e; cases e
          · exact ⟨q, hq, e⟩
        refine wpAny_bind (hf s i l t k xs y acc _ E ha1 ha2 hx fun h1 hi1 hz1 hk1 => ?_)
        exact ih r (acc.push y) { s with heap := h1 } (ha3.at (fun j hj o e => hk1 j o (fun q => hni (q ▸ hj)) e) fun q hqm o e => hk1 _ o (fun z => hs q (List.mem_cons_of_mem _ hqm) (z ▸ List.mem_cons_self)) e) hy2 (List.nodup_cons.mp hn).2
          (fun q hqm z => hs q (List.mem_cons_of_mem _ hqm) (List.mem_cons_of_mem _ z)) fun h2 e hk2 he => hE h2 e (fun c o c3 x => hk2 c o (fun q => c3 (List.mem_cons_of_mem _ q)) (hk1 c o (fun q => c3 (q ▸ List.mem_cons_self)) x)) he
/-- one turn: whichever way the tuple comes -/
theorem turn_item {z TI TO : Addr} {f0 : Value} {b : Bool} {is : List Addr} {r : List Src} {k : Nat} {ys olds : List Value} {Q : Value → Shared → Prop} (ow : Own f0) (hne : is ≠ [])
    (hz : ZipB s.heap z TI TO f0 b) (hTI : TupAt s.heap TI (is.map Value.ref)) (hTO : TupAt s.heap TO olds) (ha : AllAt s.heap k is r) (hy : Items k r ys) (hlo : olds.length = is.length) (hsm : is.length ≤ 1000)
    (hnd : is.Nodup) (hzi : z ∉ is) (hTOi : TO ∉ is) (hTIi : TI ∉ is) (hzT : z ≠ TO) (hzI : z ≠ TI) (hTT : TI ≠ TO) (hs : ∀ q ∈ r, q.2.1 ≠ TO ∧ q.2.1 ≠ z ∧ q.2.1 ∉ is)
    (hQ : ∀ h' f1 b1 olds', Own f1 → ZipB h' z TI TO f1 b1 → olds'.length = is.length → TupAt h' TO olds' → AllAt h' (k + 1) is r → TupAt h' s.heap.objs.size ys →
      (∀ c o, c ≠ z → c ≠ TO → c ∉ is → s.heap.get? c = some o → h'.get? c = some o) → Q (.ref s.heap.objs.size) { s with heap := h' }) :
    wpAny (model prog w) A (Builtin.«zip.__next__» ⟨[.ref z], []⟩) (fun fin s' => ∃ v, fin = .done (.ret v) ∧ Q v s') E s := by
  show wpAny _ _ (field (.ref z) 2 >>= _) _ _ _
  refine wpAny_bind (wpAny_field hz rfl (x := .bool false) rfl ?_)
  show wpAny _ _ (field (.ref z) 3 >>= _) _ _ _
  refine wpAny_bind (wpAny_field hz rfl (x := .ref TI) rfl ?_)
  refine wpAny_bind (wpAny_seqItems hTI rfl ?_)
  have hem : (is.map Value.ref).toArray.isEmpty = false := by
    cases is with
    | nil => exact absurd rfl hne
    | cons _ _ => simp
  simp only [hem, Bool.false_eq_true, if_false]
  have hly : ys.length = olds.length := by rw [hlo, ha.len, ← hy.len]
  have hyl : ys.length ≤ sizeLine := Nat.le_trans (by rw [hly, hlo]; exact hsm) (by decide)
  refine wpAny_bind (is_free ow hz ?one fun g0 hz0 hs0 => ?two)
  case two =>
    -- a new tuple
    simp only [Bool.false_eq_true, if_false]
    have up0 : ∀ c o, c ≠ z → s.heap.get? c = some o → g0.get? c = some o := fun c o c1 e => hs0.extBut _ _ c1 e
    have ha0 : AllAt g0 k is r := ha.at (fun i hi o e => up0 i o (fun q => hzi (q ▸ hi)) e) fun q hq o e => up0 _ o (hs q hq).2.1 e
    rw [List.forIn_toArray]
    refine wpAny_bind (draws2 (M := model prog w) (A := A) (E := E) (Q := _) ?hf k is r ys #[] { s with heap := g0 } ha0 hy hnd (fun q hq => (hs q hq).2.2) fun g2 ha2 hz2 hk2 => ?_)
    case hf =>
      intro s2 i l t k2 xs x acc Q2 E2 hi hl hx kq
      show wpAny _ _ (holding _ (Builtin.SmallTypes.nextOf (.ref i) >>= fun v => pure (some v)) >>= _) _ _ _
      refine wpAny_bind (wpAny_holding ?_)
      refine wpAny_bind (nextOf_item hi hl hx fun g2 hi2 hs2 => wpAny_pure (wpAny_pure ?_))
      exact kq g2 hi2 hs2.1 fun c o c1 e => hs2.extBut _ _ c1 e
    refine wpAny_bind (wpAny_newTuple ?_ (by simpa using hyl))
    have hsz : g2.objs.size = s.heap.objs.size := hz2.trans hs0.1
    refine wpAny_pure ⟨_, rfl, ?_⟩
    show Q (.ref g2.objs.size) _
    rw [hsz]
    have e5 : ((#[] ++ ys.toArray).toList.toArray : Array Value) = ys.toArray := by simp
    have upn : ∀ c o, g2.get? c = some o → (g2.push { cls := .type "tuple", data := .seq (#[] ++ ys.toArray).toList.toArray }).get? c = some o := fun c o e => Heap.get?_push_of_some _ e
    refine hQ _ f0 true olds ow (upn z _ (hk2 z _ hzi hz0)) hlo (upn TO _ (hk2 TO _ hTOi (up0 TO _ hzT.symm hTO))) (ha2.at (fun i _ o e => upn i o e) fun q _ o e => upn _ o e) ?_ fun c o c1 c2 c3 e => upn c o (hk2 c o c3 (up0 c o c1 e))
    have := Heap.get?_push_size g2 (o := { cls := .type "tuple", data := .seq (#[] ++ ys.toArray).toList.toArray }) rfl
    rw [hsz, e5] at this
    rw [e5]
    exact this
  case one =>
    simp only [if_true]
    refine wpAny_bind (wpAny_rule ?_)
    refine wpAny_bind (wpAny_field hz rfl (x := .ref TO) rfl ?_)
    refine wpAny_bind (wpAny_setField_rec hz (by simp) fun g1 hz1 hs1 => ?_)
    replace hz1 : ZipB g1 z TI TO .ellipsis b := hz1
    have up1 : ∀ c o, c ≠ z → s.heap.get? c = some o → g1.get? c = some o := fun c o c1 e => hs1.extBut _ _ c1 e
    have ha1 : AllAt g1 k is r := ha.at (fun i hi o e => up1 i o (fun q => hzi (q ▸ hi)) e) fun q hq o e => up1 _ o (hs q hq).2.1 e
    refine wpAny_bind ?_
    refine draw_all (M := model prog w) (A := A) (E := E) (b0 := (none, ())) (TO := TO) (Q := _) ?hf k is r ys olds [] { s with heap := g1 } ha1 hy hly (by simpa [hlo] using hsm) hnd hTOi (fun q hq => ⟨(hs q hq).1, (hs q hq).2.2⟩) (up1 TO _ hzT.symm hTO) ?hq
    case hf =>
      intro s2 i l t k2 xs x old pre post Q2 E2 hi hl hx hiT hlT hli hbd hT2 kq
      show wpAny _ _ (((Builtin.SmallTypes.nextOf (.ref i) >>= fun v => pure (some v)).onRaise _) >>= _) _ _ _
      refine wpAny_bind (wpAny_onRaise ?_)
      refine wpAny_bind (nextOf_item hi hl hx fun g2 hi2 hs2 => wpAny_pure ?_)
      have hT3 : TupAt g2 TO (pre ++ old :: post) := hs2.extBut _ _ hiT.symm hT2
      refine wpAny_bind (wpAny_seqItems hT3 rfl ?_)
      have hb2 : (pre ++ old :: post).length ≤ sizeLine := Nat.le_trans hbd (by decide)
      refine wpAny_bind (wpAny_updateSeq hT3 rfl ?_ (by rw [List.size_toArray]; exact hb2) (by rw [Array.size_setIfInBounds, List.size_toArray]; exact Nat.le_succ_of_le hb2))
      refine wpAny_bind (wpAny_letGo (wpAny_pure ?_))
      have hup : Heap.SameBut TO g2 (g2.update TO (Obj.mapSeq fun v => v.setIfInBounds pre.length x)) := Heap.SameBut.update ..
      refine kq _ (hi2.at fun o e => hup.extBut _ _ hiT e) ?_ (hup.1.trans hs2.1) fun c o c1 c2 e => hup.extBut _ _ c1 (hs2.extBut _ _ c2 e)
      show (g2.update TO _).get? TO = _
      rw [Heap.get?_update_self _ hT3 rfl]
      simp [Obj.mapSeq, List.set_append]
    case hq =>
      intro g2 ha2 hT2 hz2 hk2
      refine wpAny_bind (wpAny_seqItems hT2 rfl ?_)
      refine wpAny_bind (wpAny_newTuple ?_ (by simpa using hyl))
      have hsz : g2.objs.size = s.heap.objs.size := hz2.trans hs1.1
      have hz3 : ZipB g2 z TI TO .ellipsis b := hk2 z _ hzT hzi hz1
      have hzlt : z < g2.objs.size := Heap.lt_size hz3
      show wpAny _ _ (Builtin.SmallTypes.ownedTupleHandOut (.ref z) (.ref g2.objs.size) >>= _) _ _ _
      refine wpAny_bind ?_
      unfold Builtin.SmallTypes.ownedTupleHandOut
      have hz4 : ZipB (g2.push { cls := .type "tuple", data := .seq ([] ++ ys).toArray.toList.toArray }) z TI TO .ellipsis b := Heap.get?_push_of_some _ hz3
      refine wpAny_bind (wpAny_setField_rec hz4 (by simp) fun g5 hz5 hs5 => ?_)
      replace hz5 : ZipB g5 z TI TO (rawInt g2.objs.size) b := hz5
      refine wpAny_setField_rec hz5 (by simp) fun g6 hz6 hs6 => ?_
      replace hz6 : ZipB g6 z TI TO (rawInt g2.objs.size) false := hz6
      have up : ∀ c o, c ≠ z → g2.get? c = some o → g6.get? c = some o := fun c o c1 e => hs6.extBut _ _ c1 (hs5.extBut _ _ c1 (Heap.get?_push_of_some _ e))
      have hnew : TupAt g6 g2.objs.size ys := by
        have e := hs6.extBut _ _ (Nat.ne_of_gt hzlt) (hs5.extBut _ _ (Nat.ne_of_gt hzlt) (Heap.get?_push_size g2 (o := { cls := .type "tuple", data := .seq ([] ++ ys).toArray.toList.toArray }) rfl))
        simpa using e
      have hT6 : TupAt g6 TO ys := up TO _ hzT.symm hT2
      refine wpAny_pure ⟨_, rfl, ?_⟩
      show Q (.ref g2.objs.size) _
      rw [hsz] at hz6 hnew ⊢
      exact hQ g6 _ false ys (.inr ⟨_, rfl⟩) hz6 (hly.trans hlo) hT6 (ha2.at (fun i hi o e => up i o (fun q => hzi (q ▸ hi)) e) fun q hq o e => up _ o (hs q hq).2.1 e) hnew fun c o c1 c2 c3 e => up c o c1 (hk2 c o c2 c3 (up1 c o c1 e))
/-- .. at which some sequence has come to its end -/
theorem turn_stop {z TI TO : Addr} {f0 : Value} {b : Bool} {is : List Addr} {r : List Src} {k : Nat} {olds : List Value} {Q : Fin → Shared → Prop} (hh : A.handled = none) (ow : Own f0) (hne : is ≠ [])
    (hz : ZipB s.heap z TI TO f0 b) (hTI : TupAt s.heap TI (is.map Value.ref)) (hTO : TupAt s.heap TO olds) (ha : AllAt s.heap k is r) (hy : ∃ q ∈ r, q.2.2[k]? = none) (hlo : olds.length = is.length) (hsm : is.length ≤ 1000)
    (hnd : is.Nodup) (hzi : z ∉ is) (hTOi : TO ∉ is) (hzT : z ≠ TO) (hs : ∀ q ∈ r, q.2.1 ≠ TO ∧ q.2.1 ≠ z ∧ q.2.1 ∉ is)
    (hE : ∀ h' e, (∀ c o, c ≠ z → c ≠ TO → c ∉ is → s.heap.get? c = some o → h'.get? c = some o) → StopAt h' e → E (.ref e) { s with heap := h' }) :
    wpAny (model prog w) A (Builtin.«zip.__next__» ⟨[.ref z], []⟩) Q E s := by
  show wpAny _ _ (field (.ref z) 2 >>= _) _ _ _
  refine wpAny_bind (wpAny_field hz rfl (x := .bool false) rfl ?_)
  show wpAny _ _ (field (.ref z) 3 >>= _) _ _ _
  refine wpAny_bind (wpAny_field hz rfl (x := .ref TI) rfl ?_)
  refine wpAny_bind (wpAny_seqItems hTI rfl ?_)
  have hem : (is.map Value.ref).toArray.isEmpty = false := by
    cases is with
    | nil => exact absurd rfl hne
    | cons _ _ => simp
  simp only [hem, Bool.false_eq_true, if_false]
  refine wpAny_bind (is_free ow hz ?one fun g0 hz0 hs0 => ?two)
  case two =>
    simp only [Bool.false_eq_true, if_false]
    have up0 : ∀ c o, c ≠ z → s.heap.get? c = some o → g0.get? c = some o := fun c o c1 e => hs0.extBut _ _ c1 e
    have ha0 : AllAt g0 k is r := ha.at (fun i hi o e => up0 i o (fun q => hzi (q ▸ hi)) e) fun q hq o e => up0 _ o (hs q hq).2.1 e
    rw [List.forIn_toArray]
    refine wpAny_bind (stops2 (M := model prog w) (A := A) (E := E) (Q := _) ?hf ?hg k is r #[] { s with heap := g0 } ha0 hy hnd (fun q hq => (hs q hq).2.2) fun h' e hk he => hE h' e (fun c o c1 c2 c3 x => hk c o c3 (up0 c o c1 x)) he)
    case hf =>
      intro s2 i l t k2 xs x acc Q2 E2 hi hl hx kq
      show wpAny _ _ (holding _ (Builtin.SmallTypes.nextOf (.ref i) >>= fun v => pure (some v)) >>= _) _ _ _
      refine wpAny_bind (wpAny_holding ?_)
      refine wpAny_bind (nextOf_item hi hl hx fun g2 hi2 hs2 => wpAny_pure (wpAny_pure ?_))
      exact kq g2 hi2 hs2.1 fun c o c1 e => hs2.extBut _ _ c1 e
    case hg =>
      intro s2 i l t k2 xs acc Q2 E2 hi hl hx ke
      show wpAny _ _ (holding _ (Builtin.SmallTypes.nextOf (.ref i) >>= fun v => pure (some v)) >>= _) _ _ _
      refine wpAny_bind (wpAny_holding ?_)
      exact wpAny_bind (nextOf_end hh hi hl hx fun g2 e hs2 he => ke g2 e (fun c o c1 x => hs2 _ _ c1 x) he)
  case one =>
    simp only [if_true]
    refine wpAny_bind (wpAny_rule ?_)
    refine wpAny_bind (wpAny_field hz rfl (x := .ref TO) rfl ?_)
    refine wpAny_bind (wpAny_setField_rec hz (by simp) fun g1 hz1 hs1 => ?_)
    replace hz1 : ZipB g1 z TI TO .ellipsis b := hz1
    have up1 : ∀ c o, c ≠ z → s.heap.get? c = some o → g1.get? c = some o := fun c o c1 e => hs1.extBut _ _ c1 e
    have ha1 : AllAt g1 k is r := ha.at (fun i hi o e => up1 i o (fun q => hzi (q ▸ hi)) e) fun q hq o e => up1 _ o (hs q hq).2.1 e
    refine wpAny_bind ?_
    refine stop_allB (M := model prog w) (A := A) (E := E) (b0 := (none, ())) (z := z) (TI := TI) (TO := TO) (b := b) (Q := _) ?hf1 ?hg1 k is r olds [] { s with heap := g1 } ha1 hy (by rw [hlo, ha.len]) (by simpa [hlo] using hsm) hnd hTOi hzi hzT (fun q hq => ⟨(hs q hq).1, (hs q hq).2.2⟩) hz1 (up1 TO _ hzT.symm hTO)
      fun h' e hk he => hE h' e (fun c o c1 c2 c3 x => hk c o c1 c2 c3 (up1 c o c1 x)) he
    case hf1 =>
      intro s2 i l t k2 xs x old pre post Q2 E2 hi hl hx hiT hlT hli hbd hT2 kq
      show wpAny _ _ (((Builtin.SmallTypes.nextOf (.ref i) >>= fun v => pure (some v)).onRaise _) >>= _) _ _ _
      refine wpAny_bind (wpAny_onRaise ?_)
      refine wpAny_bind (nextOf_item hi hl hx fun g2 hi2 hs2 => wpAny_pure ?_)
      have hT3 : TupAt g2 TO (pre ++ old :: post) := hs2.extBut _ _ hiT.symm hT2
      refine wpAny_bind (wpAny_seqItems hT3 rfl ?_)
      have hb2 : (pre ++ old :: post).length ≤ sizeLine := Nat.le_trans hbd (by decide)
      refine wpAny_bind (wpAny_updateSeq hT3 rfl ?_ (by rw [List.size_toArray]; exact hb2) (by rw [Array.size_setIfInBounds, List.size_toArray]; exact Nat.le_succ_of_le hb2))
      refine wpAny_bind (wpAny_letGo (wpAny_pure ?_))
      have hup : Heap.SameBut TO g2 (g2.update TO (Obj.mapSeq fun v => v.setIfInBounds pre.length x)) := Heap.SameBut.update ..
      refine kq _ (hi2.at fun o e => hup.extBut _ _ hiT e) ?_ (hup.1.trans hs2.1) fun c o c1 c2 e => hup.extBut _ _ c1 (hs2.extBut _ _ c2 e)
      show (g2.update TO _).get? TO = _
      rw [Heap.get?_update_self _ hT3 rfl]
      simp [Obj.mapSeq, List.set_append]
    case hg1 =>
      intro s2 i l t k2 j xs Q2 E2 hi hl hx hiz hz2 ke
      show wpAny _ _ (((Builtin.SmallTypes.nextOf (.ref i) >>= fun v => pure (some v)).onRaise _) >>= _) _ _ _
      refine wpAny_bind (wpAny_onRaise ?_)
      refine wpAny_bind (nextOf_end hh hi hl hx fun g2 e hs2 he => ?_)
      obtain ⟨oe, hoe, hce⟩ := he
      have hz3 : ZipB g2 z TI TO .ellipsis b := hs2 _ _ hiz.symm hz2
      have hez : e ≠ z := fun x => by subst x; rw [hz3] at hoe; cases hoe; simp at hce
      exact wpAny_setField_rec hz3 (by simp) fun g3 _ hs3 => ke g3 e (fun c o c1 c2 x => hs3.extBut _ _ c1 (hs2 _ _ c2 x)) ⟨oe, hs3.extBut _ _ hez hoe, hce⟩
end
end Zs
set_option Elab.async false
set_option linter.all false
set_option maxRecDepth 100000
set_option maxHeartbeats 1000000
namespace Zs
open PySem PySem.Spec PyProof.Rows L2 Zn
open PySem.Sem (wp)
section
variable {prog : Program} {w : World} {A : Around} {E : Value → Shared → Prop} {s : Shared}
theorem call_zipStar {pos p : Pos} {e : Expr} {env : Env} {Q : Value → Shared → Prop}
    (h : wpAny (model prog w) A (eval e env) (fun v s₁ => PySem.W.StarOf (model prog w) A E v (fun vs s₂ => wpAny (model prog w) A (call (.type "zip") vs) Q E s₂) s₁) E s)
    (he : starEach [.Starred e p] env = [(true, eval e env)] := by rfl) :
    wpAny (model prog w) A (callWith pos (.type "zip") [] (backTo pos (starEach [.Starred e p] env)) []) Q E s := by
  rw [he]
  refine PySem.W.ks_call (P := fun _ => True) rfl (fun h _ => ⟨_, .inr (.inl rfl), PySem.W.Looks.of_pure rfl⟩) (PySem.W.ks_lone ?_)
  refine wpAny_mono h (fun v s₁ hv => ?_) fun _ _ x => x
  unfold PySem.W.StarOf at hv ⊢
  exact wpAny_mono hv (fun b s₂ hb => ⟨hb.1, wpAny_mono hb.2 (fun vs s₃ hc => ⟨trivial, hc⟩) fun _ _ x => x⟩) fun _ _ x => x
theorem nextB_item {z TI TO : Addr} {f0 : Value} {b : Bool} {is : List Addr} {r : List Src} {k : Nat} {ys olds : List Value} {Q : Option Value → Shared → Prop} (ow : Own f0) (hne : is ≠ [])
    (hz : ZipB s.heap z TI TO f0 b) (hTI : TupAt s.heap TI (is.map Value.ref)) (hTO : TupAt s.heap TO olds) (ha : AllAt s.heap k is r) (hy : Items k r ys) (hlo : olds.length = is.length) (hsm : is.length ≤ 1000)
    (hnd : is.Nodup) (hzi : z ∉ is) (hTOi : TO ∉ is) (hTIi : TI ∉ is) (hzT : z ≠ TO) (hzI : z ≠ TI) (hTT : TI ≠ TO) (hs : ∀ q ∈ r, q.2.1 ≠ TO ∧ q.2.1 ≠ z ∧ q.2.1 ∉ is)
    (hQ : ∀ h' f1 b1 olds', Own f1 → ZipB h' z TI TO f1 b1 → olds'.length = is.length → TupAt h' TO olds' → AllAt h' (k + 1) is r → TupAt h' s.heap.objs.size ys →
      (∀ c o, c ≠ z → c ≠ TO → c ∉ is → s.heap.get? c = some o → h'.get? c = some o) → Q (some (.ref s.heap.objs.size)) { s with heap := h' }) : wpAny (model prog w) A (pyNext (.ref z)) Q E s := by
  have ty : s.TypeIs (.ref z) "zip" := ⟨_, hz, rfl⟩
  unfold pyNext
  refine wpAny_bind (wpAny_attempt (wpAny_callSpecial?_slot (name := Str.ofString "__next__") ty F.slot_zip_next ?_))
  exact wpAny_call_entry F.slot_zip_next ty F.entry_zip_next (turn_item ow hne hz hTI hTO ha hy hlo hsm hnd hzi hTOi hTIi hzT hzI hTT hs fun h' f1 b1 o1 c1 c2 c3 c4 c5 c6 c7 => wpAny_pure (hQ h' f1 b1 o1 c1 c2 c3 c4 c5 c6 c7)) (F.args_zip_next_1 _)
theorem nextB_stop {z TI TO : Addr} {f0 : Value} {b : Bool} {is : List Addr} {r : List Src} {k : Nat} {olds : List Value} {Q : Option Value → Shared → Prop} (hh : A.handled = none) (ow : Own f0) (hne : is ≠ [])
    (hz : ZipB s.heap z TI TO f0 b) (hTI : TupAt s.heap TI (is.map Value.ref)) (hTO : TupAt s.heap TO olds) (ha : AllAt s.heap k is r) (hy : ∃ q ∈ r, q.2.2[k]? = none) (hlo : olds.length = is.length) (hsm : is.length ≤ 1000)
    (hnd : is.Nodup) (hzi : z ∉ is) (hTOi : TO ∉ is) (hzT : z ≠ TO) (hs : ∀ q ∈ r, q.2.1 ≠ TO ∧ q.2.1 ≠ z ∧ q.2.1 ∉ is)
    (hQ : ∀ h', (∀ c o, c ≠ z → c ≠ TO → c ∉ is → s.heap.get? c = some o → h'.get? c = some o) → Q none { s with heap := h' }) : wpAny (model prog w) A (pyNext (.ref z)) Q E s := by
  have ty : s.TypeIs (.ref z) "zip" := ⟨_, hz, rfl⟩
  unfold pyNext
  refine wpAny_bind (wpAny_attempt (wpAny_callSpecial?_slot (name := Str.ofString "__next__") ty F.slot_zip_next ?_))
  refine wpAny_call_entry F.slot_zip_next ty F.entry_zip_next (turn_stop hh ow hne hz hTI hTO ha hy hlo hsm hnd hzi hTOi hzT hs fun h' e hk he => ?_) (F.args_zip_next_1 _)
  obtain ⟨o, ho, hc⟩ := he
  exact wpAny_bind (wpAny_isInstance (T := "StopIteration") (b := true) ⟨o, ho, hc⟩ isSubtype_stop (wpAny_pure (hQ _ hk)))
theorem iterB {z TI TO : Addr} {f0 : Value} {b : Bool} {Q : Value → Shared → Prop} (hz : ZipB s.heap z TI TO f0 b) (h : Q (.ref z) s) : wpAny (model prog w) A (pyIter (.ref z)) Q E s := by
  have ty : s.TypeIs (.ref z) "zip" := ⟨_, hz, rfl⟩
  refine wpAny_pyIter_slot ty F.slot_zip_iter (wpAny_call_entry F.slot_zip_iter ty F.entry_zip_iter ?_ (F.args_zip_iter_1 _))
  show wpAny _ _ (ret (.ref z)) _ _ s
  exact wpAny_pure ⟨_, rfl, "zip", _, ty, F.slot_zip_next.lookup, h⟩
end
def ZTb (z TI TO : Addr) (is : List Addr) (src : List (Bool × Addr)) (i : Nat) (h : Heap) : Prop :=
  (∃ f0 b, Own f0 ∧ ZipB h z TI TO f0 b) ∧ TupAt h TI (is.map Value.ref) ∧ (∃ olds : List Value, olds.length = is.length ∧ TupAt h TO olds) ∧ ItsAt h i is src
/-- zip over any number of sequences, each tuple kept by a name -/
theorem turn_b {P : Program} {w : World} {K : PySem.W.Frag} {x : Str} {xp : Pos} {z TI TO : Addr} {is : List Addr} {src : List (Bool × Addr)} (D : Apart z TI TO is src) :
    Turn P w K (.Name x xp) (Itn K src) (z :: TI :: TO :: is) z (ZTb z TI TO is src) where
  mem := List.mem_cons_self
  obj := fun i h st c hc => by
    obtain ⟨⟨f0, b, _, hz⟩, hTI, ⟨olds, _, hTO⟩, hi⟩ := st
    rcases List.mem_cons.mp hc with rfl | hc
    · exact ⟨_, hz, fun v q => nomatch q⟩
    rcases List.mem_cons.mp hc with rfl | hc
    · exact ⟨_, hTI, fun v q => nomatch q⟩
    rcases List.mem_cons.mp hc with rfl | hc
    · exact ⟨_, hTO, fun v q => nomatch q⟩
    obtain ⟨o, l, e, d⟩ := hi.ob c hc
    exact ⟨o, e, fun v q => by rw [d] at q; cases q⟩
  keep := fun i h h' st k => by
    obtain ⟨⟨f0, b, ow, hz⟩, hTI, ⟨olds, hl, hTO⟩, hi⟩ := st
    exact ⟨⟨f0, b, ow, k z (by simp) _ hz⟩, k TI (by simp) _ hTI, ⟨olds, hl, k TO (by simp) _ hTO⟩, hi.at fun j hj o e => k j (by simp [hj]) o e⟩
  item := by
    intro X hP hw hK hc i pins s σ H E I hf st hg
    subst hP hw hK
    obtain ⟨⟨f0, b, ow, hz⟩, hTI, ⟨olds, hol, hTO⟩, hi⟩ := st
    obtain ⟨ys, hrow⟩ := hg
    obtain ⟨r, us, e1, e2, e3, e4⟩ := row_ob I hrow
    subst e1
    have hzl : z < s.heap.objs.size := Heap.lt_size hz
    have ha := allAt_of hi e2
    have hys : ys.length ≤ 1000 := by rw [e4.length, ← e3.len, ← ha.len]; exact D.sm
    have hpart : ∀ c ∈ z :: TI :: TO :: is, c < s.heap.objs.size := fun c hcm => by
      rcases List.mem_cons.mp hcm with rfl | hcm
      · exact hzl
      rcases List.mem_cons.mp hcm with rfl | hcm
      · exact Heap.lt_size hTI
      rcases List.mem_cons.mp hcm with rfl | hcm
      · exact Heap.lt_size hTO
      exact ha.lt c hcm
    refine nextB_item ow D.ne hz hTI hTO ha e3 hol D.sm D.nd D.zi D.oi D.ti D.zT D.zI D.TT (fun q hq => ⟨(D.sr _ (bare_mem hq)).1, (D.sr _ (bare_mem hq)).2.1, (D.sr _ (bare_mem hq)).2.2.2⟩) fun g f1 b1 olds' ow1 z1 ol1 TO1 a1 T1 k1 => ?_
    refine ⟨_, rfl, ?_⟩
    unfold letOwnedTupleGo
    refine wpAny_pure ?_
    have new : ObjOk X.prog X.w (upd H s.heap.objs.size (.tup ys)) g s.heap.objs.size (.tup ys) := ⟨Nat.le_trans hys (by decide), us, e4, ⟨_, T1, rfl, _, rfl⟩⟩
    have I1 : Inv X pins σ (upd H s.heap.objs.size (.tup ys)) { s with heap := g } :=
      I.turnedNew (t' := s.toks) (ch := z :: TI :: TO :: is) (fun c o hb q => k1 c o (fun q' => hb (by simp [q'])) (fun q' => hb (by simp [q'])) (fun q' => hb (by simp [q'])) q) hf (Nat.le_refl _) new
    refine ⟨.ref s.heap.objs.size, _, I1, rfl, ⟨_, ys, rfl, I.hok.fresh (Nat.le_refl _), rfl, fun zs hzs => row_inj I hrow hzs⟩, ⟨⟨f1, b1, ow1, z1⟩, ?_, ⟨olds', ol1, TO1⟩, a1.its⟩, fun c hcm => ?_⟩
    · exact k1 _ _ D.zI.symm D.TT D.ti hTI
    · rw [upd_ne (Nat.ne_of_lt (hpart c hcm))]
      exact (hf c hcm).1
  done := by
    intro X hP hw hK hc i pins s σ H E I hf st hg
    subst hP hw hK
    obtain ⟨⟨f0, b, ow, hz⟩, hTI, ⟨olds, hol, hTO⟩, hi⟩ := st
    obtain ⟨hall, q, hq, xs, hqx, hle⟩ := hg
    obtain ⟨r, e1, e2, e3⟩ := all_ob I hall
    subst e1
    have ha := allAt_of hi e2
    obtain ⟨p, hp, hps⟩ := e3 q hq xs hqx
    exact nextB_stop (I.ok.hd hc) ow D.ne hz hTI hTO ha ⟨p, hp, by rw [Array.getElem?_eq_none_iff]; omega⟩ hol D.sm D.nd D.zi D.oi D.zT (fun q hq => ⟨(D.sr _ (bare_mem hq)).1, (D.sr _ (bare_mem hq)).2.1, (D.sr _ (bare_mem hq)).2.2.2⟩)
      fun g hk => ⟨rfl, I.turnedL (t' := s.toks) (ch := z :: TI :: TO :: is) (fun c o hb q => hk c o (fun q' => hb (by simp [q'])) (fun q' => hb (by simp [q'])) (fun q' => hb (by simp [q'])) q) hf⟩
  self := fun A i s Q E st h => let ⟨⟨_, _, _, hz⟩, _⟩ := st; iterB hz h
section
variable {X : Cx}
theorem zip_comeB {pins : List (Addr × Obj)} {σ : L2.St} {H : Hp} {s : Shared} {us : List Value} {R : It → Hp → Prop} {x : Str} {xp : Pos} {E : Value → Shared → Prop} (I : Inv X pins σ H s) {src : List (Bool × Addr)} (rv : Vals (kRefs src) us)
    (h0 : 0 < src.length) (h3 : src.length ≤ 3) (ha : AllSq X.K H src) (q : R (Itn X.K src) H) :
    wpAny (model X.prog X.w) X.A (call (.type "zip") us) (fun v s1 => wpAny (model X.prog X.w) X.A (pyIter v) (PIE X pins σ (.Name x xp) R) E s1) E s := by
  obtain ⟨r, e1, e2⟩ := srcs_of I ha
  have e3 := vals_refs rv
  subst e1
  have hl : (bare r).length = r.length := List.length_map ..
  rw [hl] at h0 h3
  have e4 : us = r.map fun q => Value.ref q.2.1 := by rw [e3]; unfold bare; rw [List.map_map]; rfl
  rw [e4]
  refine call_zipN h0 h3 e2 fun g m => wpAny_pyIter_zip m.zr ?_
  have I2 : Inv X pins σ H { s with heap := g } := I.kept (t' := s.toks) m.kp
  refine ⟨_, _, _, _, H, rfl, I2, turn_b (made_apart m e2 h0 (by omega)), ⟨⟨.none, false, .inl rfl, m.zr⟩, m.ti, ⟨_, ?_, m.to⟩, m.all.its⟩, fun c hcm => ?_, q⟩
  · rw [List.length_map, news_len]
  · have hle : s.heap.objs.size ≤ c := by
      rcases List.mem_cons.mp hcm with rfl | hcm
      · exact Nat.le_add_right_of_le (Nat.le_add_right ..)
      rcases List.mem_cons.mp hcm with rfl | hcm
      · exact Nat.le_add_right ..
      rcases List.mem_cons.mp hcm with rfl | hcm
      · exact Nat.le_add_right_of_le (Nat.le_add_right ..)
      exact (news_mem hcm).1
    exact I.fpOk hle (I.hok.fresh hle)
def iZs (K : PySem.W.Frag) (te : TE) : TI := fun σ H R => te σ H fun y H1 => ∃ (a : Addr) (src : List (Bool × Addr)), y = .ref a ∧ (SqT K H1 a (kRefs src) ∨ SqL K H1 a (kRefs src)) ∧ 0 < src.length ∧ src.length ≤ 3 ∧ AllSq K H1 src ∧ R (Itn K src) H1
/-- for x in zip(*rows) -/
theorem pi_zipStar {e : Expr} {te : TE} {p sp pos : Pos} {x : Str} {xp : Pos} (hg : Gl X "zip") (hm : X.mg "zip" = none) (he : PE X e te) (hst : starEach [.Starred e sp] X.env = [(true, eval e X.env)] := by rfl) :
    PI X (.Name x xp) (.Call (.Name "zip" p) [.Starred e sp] [] pos) (iZs X.K te) := by
  refine ⟨fun pins s σ H R I h => ?_⟩
  refine Call_ (ld_blt I hg hm PyProof.Rows.boot_zip (call_zipStar (thn (he.run pins s σ H _ I h) fun v s1 hv => ?_) hst))
  obtain ⟨y, H1, I1, ry, a, src, rfl, hx, h0, h3, hq, q⟩ := hv
  obtain rfl : v = Value.ref a := ry
  exact StX.star_any I1 hx fun us s2 I2 rv => zip_comeB I2 rv h0 h3 hq q
end
end Zs
set_option Elab.async false
set_option linter.all false
set_option maxRecDepth 100000
set_option maxHeartbeats 1000000
namespace En
open PySem PySem.Spec PyProof.Rows L2 Zn
open PySem.Sem (wp)
section
variable {prog : Program} {w : World} {A : Around} {E : Value → Shared → Prop} {s : Shared}
theorem next_item {e it l : Addr} {t : Bool} {i : Nat} {items : Array Value} {x old : Value} {Q : Value → Shared → Prop}
    (he : IsEnum s.heap e it i old) (hit : ItK t s.heap it l i) (hl : SqK t s.heap l items) (hx : items[i]? = some x) (hne : e ≠ it)
    (hQ : ∀ h', IsEnumOut h' e it ((i : Int) + 1) x s.heap.objs.size → ItK t h' it l (i + 1) → h'.get? s.heap.objs.size = some { cls := .type "tuple", data := .seq #[.int i s.toks, x] } →
      (∀ b o, b ≠ e → b ≠ it → s.heap.get? b = some o → h'.get? b = some o) → Q (.ref s.heap.objs.size) { s with heap := h', toks := s.toks + 1 }) :
    wpAny (model prog w) A (Builtin.«enumerate.__next__» ⟨[.ref e], []⟩) (fun fin s' => ∃ v, fin = .done (.ret v) ∧ Q v s') E s := by
  obtain ⟨hp, g, d, tk, os⟩ := s
  show wpAny _ _ (field (.ref e) 2 >>= _) _ _ _
  refine wpAny_bind (wpAny_field he rfl (x := .ref it) rfl ?_)
  refine wpAny_bind (nextOf_item hit hl hx fun g1 it1 sb1 => ?_)
  replace sb1 : Heap.SameBut it hp g1 := sb1
  have e1 : IsEnum g1 e it i old := (sb1.2 e hne).trans he
  show wpAny _ _ (field (.ref e) 3 >>= _) _ _ ⟨g1, g, d, tk, os⟩
  refine wpAny_bind (wpAny_field e1 rfl (x := rawInt i) rfl ?_)
  show wpAny _ _ (field (.ref e) 4 >>= _) _ _ ⟨g1, g, d, tk, os⟩
  refine wpAny_bind (wpAny_field e1 rfl (x := .none) rfl ?_)
  show wpAny _ _ (mkInt i >>= _) _ _ ⟨g1, g, d, tk, os⟩
  refine wpAny_bind (wpAny_mkInt ?_)
  show wpAny _ _ (setField (.ref e) 3 (rawInt ((i : Int) + 1)) >>= _) _ _ ⟨g1, g, d, tk + 1, os⟩
  refine wpAny_bind (wpAny_setField_rec e1 (by simp) fun g2 e2 sb2 => ?_)
  replace sb2 : Heap.SameBut e g1 g2 := sb2
  replace e2 : IsEnum g2 e it ((i : Int) + 1) old := e2
  show wpAny _ _ (setField (.ref e) 4 .none >>= _) _ _ ⟨g2, g, d, tk + 1, os⟩
  refine wpAny_bind (wpAny_setField_rec e2 (by simp) fun g3 e3 sb3 => ?_)
  replace sb3 : Heap.SameBut e g2 g3 := sb3
  replace e3 : IsEnum g3 e it ((i : Int) + 1) old := e3
  show wpAny _ _ (newTuple [.int i tk, x] >>= _) _ _ ⟨g3, g, d, tk + 1, os⟩
  refine wpAny_bind (wpAny_newTuple ?_)
  have e4 : IsEnum (g3.push { cls := .type "tuple", data := .seq #[.int i tk, x] }) e it ((i : Int) + 1) old := Heap.get?_push_of_some _ e3
  have sz3 : g3.objs.size = hp.objs.size := by rw [sb3.1, sb2.1, sb1.1]
  have hel : e < hp.objs.size := Heap.lt_size he
  have it3 : ItK t g3 it l (i + 1) := it1.at fun o q => sb3.extBut _ _ hne.symm (sb2.extBut _ _ hne.symm q)
  generalize eg4 : g3.push { cls := .type "tuple", data := .seq #[.int i tk, x] } = g4 at e4
  have tup4 : g4.get? hp.objs.size = some { cls := .type "tuple", data := .seq #[.int i tk, x] } := by rw [← eg4, ← sz3]; exact Heap.get?_push_size _ rfl
  have up4 : ∀ b o, b ≠ e → b ≠ it → hp.get? b = some o → g4.get? b = some o := fun b o b1 b2 q => by
    rw [← eg4]
    exact Heap.get?_push_of_some _ (sb3.extBut b o b1 (sb2.extBut b o b1 (sb1.extBut b o b2 q)))
  have it4 : ItK t g4 it l (i + 1) := it3.at fun o q => by rw [← eg4]; exact Heap.get?_push_of_some _ q
  show wpAny _ _ (Builtin.SmallTypes.ownedTupleIsFree (.ref e) >>= _) _ _ ⟨g4, g, d, tk + 1, os⟩
  rw [sz3]
  refine wpAny_bind ?_
  unfold Builtin.SmallTypes.ownedTupleIsFree
  refine wpAny_bind (wpAny_field e4 rfl (x := .none) rfl (wpAny_pure ?_))
  simp only [if_true]
  refine wpAny_bind (wpAny_rule ?_)
  refine wpAny_bind (wpAny_field e4 rfl (x := old) rfl ?_)
  refine wpAny_bind (wpAny_setField_rec e4 (by simp) fun g5 e5 sb5 => ?_)
  replace sb5 : Heap.SameBut e g4 g5 := sb5
  replace e5 : IsEnum g5 e it ((i : Int) + 1) x := e5
  show wpAny _ _ (Builtin.SmallTypes.ownedTupleHandOut (.ref e) (.ref hp.objs.size) >>= _) _ _ ⟨g5, g, d, tk + 1, os⟩
  refine wpAny_bind ?_
  unfold Builtin.SmallTypes.ownedTupleHandOut
  refine wpAny_bind (wpAny_setField_rec e5 (by simp) fun g6 e6 sb6 => ?_)
  replace e6 : IsEnumOut g6 e it ((i : Int) + 1) x hp.objs.size := e6
  refine wpAny_setField_rec e6 (by simp) fun g7 e7 sb7 => ?_
  replace e7 : IsEnumOut g7 e it ((i : Int) + 1) x hp.objs.size := e7
  have up : ∀ b o, b ≠ e → g4.get? b = some o → g7.get? b = some o := fun b o b1 q => sb7.extBut _ _ b1 (sb6.extBut _ _ b1 (sb5.extBut _ _ b1 q))
  refine wpAny_bind (wpAny_letGo (wpAny_pure ⟨_, rfl, ?_⟩))
  exact hQ g7 e7 (it4.at fun o q => up it o hne.symm q) (up _ _ (Nat.ne_of_gt hel) tup4) fun b o b1 b2 q => up b o b1 (up4 b o b1 b2 q)
theorem next_stop {e it l : Addr} {t : Bool} {i : Nat} {items : Array Value} {old : Value} {Q : Fin → Shared → Prop} (hh : A.handled = none)
    (he : IsEnum s.heap e it i old) (hit : ItK t s.heap it l i) (hl : SqK t s.heap l items) (hx : items[i]? = none) (hne : e ≠ it)
    (hE : ∀ h' x, (∀ b o, b ≠ e → b ≠ it → s.heap.get? b = some o → h'.get? b = some o) → StopAt h' x → E (.ref x) { s with heap := h' }) :
    wpAny (model prog w) A (Builtin.«enumerate.__next__» ⟨[.ref e], []⟩) Q E s := by
  show wpAny _ _ (field (.ref e) 2 >>= _) _ _ _
  refine wpAny_bind (wpAny_field he rfl (x := .ref it) rfl ?_)
  exact wpAny_bind (nextOf_end hh hit hl hx fun g1 x sb1 hs => hE g1 x (fun b o b1 b2 q => sb1 _ _ b2 q) hs)
theorem pyNext_item {e it l : Addr} {t : Bool} {i : Nat} {items : Array Value} {x old : Value} {Q : Option Value → Shared → Prop}
    (he : IsEnum s.heap e it i old) (hit : ItK t s.heap it l i) (hl : SqK t s.heap l items) (hx : items[i]? = some x) (hne : e ≠ it)
    (hQ : ∀ h', IsEnumOut h' e it ((i : Int) + 1) x s.heap.objs.size → ItK t h' it l (i + 1) → h'.get? s.heap.objs.size = some { cls := .type "tuple", data := .seq #[.int i s.toks, x] } →
      (∀ b o, b ≠ e → b ≠ it → s.heap.get? b = some o → h'.get? b = some o) → Q (some (.ref s.heap.objs.size)) { s with heap := h', toks := s.toks + 1 }) : wpAny (model prog w) A (pyNext (.ref e)) Q E s := by
  have ty : s.TypeIs (.ref e) "enumerate" := ⟨_, he, rfl⟩
  unfold pyNext
  refine wpAny_bind (wpAny_attempt (wpAny_callSpecial?_slot (name := Str.ofString "__next__") ty F.slot_enumerate_next ?_))
  exact wpAny_call_entry F.slot_enumerate_next ty F.entry_enumerate_next (next_item he hit hl hx hne fun h' b1 b2 b3 b4 => wpAny_pure (hQ h' b1 b2 b3 b4)) (F.args_enumerate_next_1 _)
theorem pyNext_stop {e it l : Addr} {t : Bool} {i : Nat} {items : Array Value} {old : Value} {Q : Option Value → Shared → Prop} (hh : A.handled = none)
    (he : IsEnum s.heap e it i old) (hit : ItK t s.heap it l i) (hl : SqK t s.heap l items) (hx : items[i]? = none) (hne : e ≠ it)
    (hQ : ∀ h', (∀ b o, b ≠ e → b ≠ it → s.heap.get? b = some o → h'.get? b = some o) → Q none { s with heap := h' }) : wpAny (model prog w) A (pyNext (.ref e)) Q E s := by
  have ty : s.TypeIs (.ref e) "enumerate" := ⟨_, he, rfl⟩
  unfold pyNext
  refine wpAny_bind (wpAny_attempt (wpAny_callSpecial?_slot (name := Str.ofString "__next__") ty F.slot_enumerate_next ?_))
  refine wpAny_call_entry F.slot_enumerate_next ty F.entry_enumerate_next (next_stop hh he hit hl hx hne fun h' x hk hs => ?_) (F.args_enumerate_next_1 _)
  obtain ⟨o, ho, hc⟩ := hs
  exact wpAny_bind (wpAny_isInstance (T := "StopIteration") (b := true) ⟨o, ho, hc⟩ isSubtype_stop (wpAny_pure (hQ _ hk)))
end
theorem enum_newT (l : Addr) (items : Array Value) (n : Nat) (dct : Option Addr) (sl : Array (Option Value)) :
    Meets (Builtin.«enumerate.__new__» ⟨[.type "enumerate", .ref l], []⟩) (fun _ R s => s.heap.get? l = some { cls := .type "tuple", dict := dct, data := .seq items n, slots := sl } ∧
      R (.ok (.ret (.ref (s.heap.push { cls := .type "tuple_iterator", data := .fields #[.ref l, .int 0 0] }).objs.size)))
        { s with heap := (s.heap.push { cls := .type "tuple_iterator", data := .fields #[.ref l, .int 0 0] }).push { cls := .type "enumerate", data := .fields #[.none, .bool false, .ref s.heap.objs.size, rawInt 0, .none, .none] } }) :=
  .of_wp fun prog w A R s h => by
    obtain ⟨hp, g, d, tk, os⟩ := s
    obtain ⟨hl, h⟩ := h
    have hsub := sub_enumerate
    have hT : Heap.IsTuple (Shared.heap ⟨hp, g, d, tk, os⟩) l items := ⟨_, hl, rfl, n, rfl⟩
    wp_walk using wpAny_loadPart' hl
    refine wpAny_stack_any fun st => wpAny_pure ?_
    split
    · rename_i c _ _ _ _ _
      cases (c == Value.type "enumerate")
      · wp_walk using wpAny_loadPart' hl, wpAny_pyIter_tuple hT
        exact ⟨_, rfl, h⟩
      · wp_walk using wpAny_loadPart' hl, wpAny_pyIter_tuple hT
        exact ⟨_, rfl, h⟩
    · wp_walk using wpAny_loadPart' hl, wpAny_pyIter_tuple hT
      exact ⟨_, rfl, h⟩
section
variable {prog : Program} {w : World} {A : Around} {E : Value → Shared → Prop} {s : Shared}
theorem call_enum {t : Bool} {l : Addr} {items : Array Value} {Q : Value → Shared → Prop} (hl : SqK t s.heap l items)
    (h : ∀ h', IsEnum h' (s.heap.objs.size + 1) s.heap.objs.size 0 .none → ItK t h' s.heap.objs.size l 0 → (∀ b o, s.heap.get? b = some o → h'.get? b = some o) → Q (.ref (s.heap.objs.size + 1)) { s with heap := h' }) :
    wpAny (model prog w) A (call (.type "enumerate") [.ref l]) Q E s := by
  cases t with
  | false => exact call_enumerate_list hl fun h' b1 b2 _ b4 => h h' b1 b2 b4
  | true =>
    obtain ⟨⟨c, dct, dt, sl⟩, ho, hc, n, hd⟩ := hl
    replace hc : c = .type "tuple" := hc
    replace hd : dt = .seq items n := hd
    subst hc hd
    refine callType_new F.called_enumerate (by decide) (F.typeCall_enumerate_1 _) (F.newCall_enumerate_1 _) (fun obj => F.args_object_init_2 obj _) F.entry_enumerate_new (enum_newT l items n dct sl) ⟨ho, ?_⟩
    have z1 : (s.heap.push { cls := .type "tuple_iterator", data := .fields #[.ref l, .int 0 0] }).objs.size = s.heap.objs.size + 1 := Heap.size_push ..
    show _ ∧ _
    rw [z1]
    have he := Heap.get?_push_size (s.heap.push { cls := .type "tuple_iterator", data := .fields #[.ref l, .int 0 0] }) (o := { cls := .type "enumerate", data := .fields #[.none, .bool false, .ref s.heap.objs.size, rawInt 0, .none, .none] }) rfl
    rw [z1] at he
    exact ⟨⟨_, he, rfl⟩, h _ he ⟨_, Heap.get?_push_of_some _ (Heap.get?_push_size _ rfl), rfl, rfl⟩ fun b o x => Heap.get?_push_of_some _ (Heap.get?_push_of_some _ x)⟩
end
def Ite2 (K : PySem.W.Frag) (t : Bool) (a : Addr) : It :=
  ⟨fun i H => ∃ (xs : List V) (x : V), SqV K H t a xs ∧ xs[i]? = some x, fun i H v H' => ∃ T x, v = .ref T ∧ H T = none ∧ H' = upd H T (.tup [.int (i : Nat), x]) ∧ ∀ xs, SqV K H t a xs → xs[i]? = some x, fun i H => ∃ xs : List V, SqV K H t a xs ∧ xs.length ≤ i⟩
theorem turn_e {P : Program} {w : World} {K : PySem.W.Frag} {elts : List Expr} {kk : Nat} {tpos : Pos} (t : Bool) (a e it : Addr) :
    Turn P w K (.Tuple elts kk tpos) (Ite2 K t a) [e, it] e (fun i h => (∃ old, IsEnum h e it ((i : Nat) : Int) old) ∧ ItK t h it a i ∧ e ≠ it) where
  mem := by simp
  obj := fun i h st b hb => by
    obtain ⟨⟨old, he⟩, hi, _⟩ := st
    obtain ⟨o, ho, _, hd⟩ := hi.rec_
    rcases List.mem_cons.mp hb with rfl | hb
    · exact ⟨_, he, fun v q => nomatch q⟩
    · rw [List.mem_singleton.mp hb]
      exact ⟨o, ho, fun v q => by rw [hd] at q; cases q⟩
  keep := fun i h h' st k => by
    obtain ⟨⟨old, he⟩, hi, hne⟩ := st
    exact ⟨⟨old, k e (by simp) _ he⟩, hi.at fun o q => k it (by simp) o q, hne⟩
  item := by
    intro X hP hw hK hc i pins s σ H E I hf st hg
    subst hP hw hK
    obtain ⟨⟨old, he⟩, hit, hne⟩ := st
    obtain ⟨xs, x, hq, hx⟩ := hg
    obtain ⟨its, rv, p, hz⟩ := sqv_ob I hq
    obtain ⟨u, hu, ru⟩ := rv.get hx
    have hel : e < s.heap.objs.size := Heap.lt_size he
    have hil : it < s.heap.objs.size := hit.lt
    refine pyNext_item he hit p (x := u) (by simpa using hu) hne fun g eo it1 tp k1 => ?_
    refine ⟨_, rfl, wpAny_letOwnedTupleGo_enum (s := { s with heap := g, toks := s.toks + 1 }) eo fun g2 e2 sb => ?_⟩
    have tp2 : g2.get? s.heap.objs.size = some { cls := .type "tuple", data := .seq #[.int i s.toks, u] } := (sb.2 _ (Nat.ne_of_gt hel)).trans tp
    have new : ObjOk X.prog X.w (upd H s.heap.objs.size (.tup [.int (i : Nat), x])) g2 s.heap.objs.size (.tup [.int (i : Nat), x]) :=
      ⟨by show 2 ≤ sizeLine; decide, [.int i s.toks, u], .cons ⟨_, rfl⟩ (.cons ru .nil), ⟨_, tp2, rfl, _, rfl⟩⟩
    have I1 : Inv X pins σ (upd H s.heap.objs.size (.tup [.int (i : Nat), x])) { s with heap := g2, toks := s.toks + 1 } :=
      I.turnedNew (ch := [e, it]) (fun b ob hb q => (sb.2 b (fun z => hb (by simp [z]))).trans (k1 b ob (fun z => hb (by simp [z])) (fun z => hb (by simp [z])) q)) hf (Nat.le_refl _) new
    refine ⟨.ref s.heap.objs.size, _, I1, rfl, ⟨_, x, rfl, I.hok.fresh (Nat.le_refl _), rfl, fun ys hy => by rw [sqv_inj I hy hq]; exact hx⟩, ⟨⟨u, ?_⟩, it1.at fun o q => (sb.2 it (Ne.symm hne)).trans q, hne⟩, fun b hb => ?_⟩
    · rw [show ((i + 1 : Nat) : Int) = (i : Int) + 1 by omega]
      exact e2
    · have hb' : b < s.heap.objs.size := by
        rcases List.mem_cons.mp hb with rfl | hb
        · exact hel
        · rw [List.mem_singleton.mp hb]; exact hil
      rw [upd_ne (Nat.ne_of_lt hb')]
      exact (hf b hb).1
  done := by
    intro X hP hw hK hc i pins s σ H E I hf st hg
    subst hP hw hK
    obtain ⟨⟨old, he⟩, hit, hne⟩ := st
    obtain ⟨xs, hq, hx⟩ := hg
    obtain ⟨its, rv, p, hz⟩ := sqv_ob I hq
    have hl := rv.length
    exact pyNext_stop (I.ok.hd hc) he hit p (by simp; omega) hne fun g hk => ⟨rfl, I.turnedL (t' := s.toks) (ch := [e, it]) (fun b o hb q => hk b o (fun z => hb (by simp [z])) (fun z => hb (by simp [z])) q) hf⟩
  self := fun A i s Q E st h => let ⟨⟨_, he⟩, _⟩ := st; wpAny_pyIter_enum he h
def iEn (K : PySem.W.Frag) (ta : TA) : TI := fun σ H R => ta σ H fun vs H1 => ∃ t a xs, vs = [.ref a] ∧ SqV K H1 t a xs ∧ R (Ite2 K t a) H1
section
variable {X : Cx}
/-- for i, x in enumerate(xs), a list or a tuple -/
theorem pi_enumS {e : Expr} {ta : TA} {p pos tpos : Pos} {elts : List Expr} {kk : Nat} (hg : Gl X "enumerate") (hm : X.mg "enumerate" = none) (ha : PA X [e] ta)
    (hs : starEach [e] X.env = (false, eval e X.env) :: starEach [] X.env := by rfl) (hpl : (backTo pos (starEach [] X.env)).any (·.1) = false := by rfl) :
    PI X (.Tuple elts kk tpos) (.Call (.Name "enumerate" p) [e] [] pos) (iEn X.K ta) := by
  refine ⟨fun pins s σ H R I h => ?_⟩
  refine Call_ (ld_blt I hg hm PyProof.Rows.boot_enumerate (PyProof.Rows.callWith_type1 (thn (ha.run pos pins s σ H _ I h) fun us s1 ⟨vs, H1, I1, r1, q1⟩ => ?_) hs hpl))
  obtain ⟨t, a, xs, rfl, hq, q⟩ := q1
  obtain ⟨u, rfl, ru⟩ := vals1 r1
  cases (show u = Value.ref a from ru)
  obtain ⟨its, rv, p', hz⟩ := sqv_ob I1 hq
  refine call_enum p' fun g he hit hk => wpAny_pyIter_enum he ?_
  refine ⟨s1.heap.objs.size + 1, [s1.heap.objs.size + 1, s1.heap.objs.size], _, _, H1, rfl, I1.kept (t' := s1.toks) hk, turn_e t a (s1.heap.objs.size + 1) s1.heap.objs.size, ⟨⟨.none, he⟩, hit, Nat.succ_ne_self _⟩, fun b hb => ?_, q⟩
  have hle : s1.heap.objs.size ≤ b := by
    rcases List.mem_cons.mp hb with rfl | hb
    · exact Nat.le_succ _
    · rw [List.mem_singleton.mp hb]; exact Nat.le_refl _
  exact I1.fpOk hle (I1.hok.fresh hle)
end
end En
set_option Elab.async false
set_option linter.all false
set_option maxRecDepth 100000
set_option maxHeartbeats 1000000
namespace Gd
open PySem PySem.Spec PyProof.Rows L2
def Still (A : Around) : Prop := A.guards = some []
structure FnG (P : Program) (w : World) (K : PySem.W.Frag) (mg : Str → Option Value) (base : Heap) (CX : CXT) (k : Nat) (f : Addr) (fd : FuncData) (ps : List Str) (sp : Sp) : Prop where
  len : ∀ vs H Q E, sp vs H Q E → vs.length = ps.length
  run : ∀ (A : Around) (outer : List Env) (s : Shared) (H : Hp) (ar : Args) (us : List Value) (vs : List V) (Q : VK) (E : XK), Still A → Room k A → Env0 P w K mg base A outer s H → BindsTo s fd ar (ps.zip us) → Vals vs us → sp vs H Q E →
    codeAny (model P w) A (.call (.ref f) ar) (CR CX outer P w H s Q E) s
section
variable {P : Program} {w : World} {K : PySem.W.Frag} {mg : Str → Option Value} {base : Heap}
theorem fnG_of {CX : CXT} {k : Nat} {f : Addr} {nm qual : Str} {pa : Arguments} {bd : List Stmt} {sc : Scope} {dV kV doc pm cdv ct oc : Value} {an od : Option Addr}
    {osl : Array (Option Value)} {N ps : List Str} {sp : Sp} (hlk : K.lookup f = some ⟨oc, od, .func (PySem.W.fnOf nm qual pa bd sc dV kV doc pm an cdv ct), osl⟩) (hco : PySem.W.codeIn K cdv qual = true) (S : FnScope N ps sc)
    (len : ∀ vs H Q E, sp vs H Q E → vs.length = ps.length)
    (hb : ∀ (A : Around) (outer : List Env) (s : Shared) (H : Hp) (vs : List V) (Q : VK) (E : XK), Still A → Room k (A.deeper (envOfC qual sc s.heap.objs.size f cdv)) → sp vs H Q E →
      ∃ t, PSs (cxOf CX P w K mg base N qual sc f cdv A outer s H E) bd t ∧ t { nx := fun _ H2 => Q .non H2, rt := Q } (start N vs) H) :
    FnG P w K mg base CX (k + 1) f (PySem.W.fnOf nm qual pa bd sc dV kV doc pm an cdv ct) ps sp := by
  refine ⟨len, fun A outer s H ar us vs Q E hst room e0 bind rv hsp => ?_⟩
  have hlen := len vs H Q E hsp
  have inK : K.In s.heap := e0.mod.kin.keeps fun b o e => (e0.bs b o e).1
  have noLim : s.heap.NoLimit := e0.mod.nolimit.keeps fun b o e => (e0.bs b o e).1
  have kinds : ∀ y ∈ ps.zip us, sc.names.lookup y.1 = some .local ∨ (sc.names.lookup y.1 = some .cell ∧ ((cellsFrom (s.heap.objs.size + 1) sc.names []).lookup y.1).isSome = true) := by
    rintro ⟨n, v⟩ hy
    rcases S.par n (List.of_mem_zip hy).1 with q | q
    · exact .inl q
    · exact .inr ⟨q, PySem.W.cellsFrom_some _ _ _ (.inl q)⟩
  refine codeAny_call_function room.depth (inK f _ hlk) rfl S.co S.gen rfl (PySem.W.codeRec_of inK hco) (bind _ _ _ _ ?_)
  refine wpAny_newFunctionEnv_cells S.kind kinds fun env henv s2 inc => ?_
  subst henv
  refine ⟨noLim.keeps inc.toInCall.keep, codeAny_func ?_⟩
  obtain ⟨t, der, rd⟩ := hb A outer s H vs Q E hst (room.deeper _) hsp
  have J0 : Inv (cxOf CX P w K mg base N qual sc f cdv A outer s H E) [] (start N vs) H s2 := inv_start S room.hd e0 hlen rv inc
  refine wpAny_mono (der.run [] s2 (start N vs) H _ J0 rd) (fun fl s3 hfl => ?_) fun e s3 he => he
  have out : ∀ {σ2 : L2.St} {H2 : Hp} {v : V} {u : Value}, Inv (cxOf CX P w K mg base N qual sc f cdv A outer s H E) [] σ2 H2 s3 → RelV v u → Q v H2 → CE outer P w H s Q u s3 := by
    intro σ2 H2 v u J r q
    exact ⟨v, H2, J.os, J.bare, J.base, J.hok, r, q⟩
  cases fl with
  | ret u =>
    obtain ⟨v, σ2, H2, J, r, q⟩ := hfl
    exact out J r q
  | next =>
    obtain ⟨σ2, H2, J, q⟩ := hfl
    exact out (v := V.non) (u := Value.none) J rfl q
  | brk =>
    obtain ⟨_, _, _, no⟩ := hfl
    exact no.elim
  | cont =>
    obtain ⟨_, _, _, no⟩ := hfl
    exact no.elim
theorem okG {x qual : Str} {st : Stmt} {f : Addr} {fd : FuncData} {N ps : List Str} {k : Nat} {sp : Sp} (F : Fun K x qual st f fd) (S : FnScope N ps (defScope st)) (len : ∀ vs H Q E, sp vs H Q E → vs.length = ps.length)
    (hb : ∀ (cdv : Value) (A : Around) (outer : List Env) (s : Shared) (H : Hp) (vs : List V) (Q : VK) (E : XK), Still A → Room k (A.deeper (envOfC qual (defScope st) s.heap.objs.size f cdv)) → sp vs H Q E →
      ∃ t, PSs (cxOf CX0 P w K mg base N qual (defScope st) f cdv A outer s H E).nox (defBody st) t ∧ t { nx := fun _ H2 => Q .non H2, rt := Q } (start N vs) H) : FnG P w K mg base CX0 (k + 1) f fd ps sp := by
  obtain ⟨oc, od, kV, doc, pm, an, cdv, ct, osl, rfl, hlk, hco⟩ := F.ex
  refine fnG_of hlk hco S len fun A outer s H vs Q E hst room hsp => ?_
  obtain ⟨t, der, rd⟩ := hb cdv A outer s H vs Q E hst room hsp
  exact ⟨t, der.nox, rd⟩
end
section
variable {X : Cx} {CX : CXT} {k : Nat} {f : Addr} {fd : FuncData} {ps : List Str} {sp : Sp} {ds : List Value} {dvs : List V} {E : XK} {x : Str} {e : Expr} {es : List Expr} {t : TA} {p pos : Pos}
theorem runG {pins : List (Addr × Obj)} {σ : L2.St} {H : Hp} {s : Shared} {Q : VK} {us : List Value} {vs : List V} (F : FnG X.prog X.w X.K X.mg X.base CX k f fd ps sp) (hst : Still X.A) (room : Room k X.A) (hb : Binds X.K fd ps ds) (hd : Vals dvs ds) (hx : Passes CX X E)
    (I : Inv X pins σ H s) (rv : Vals vs us) (h : sp (vs ++ dvs) H Q E) : wpAny (model X.prog X.w) X.A (call (.ref f) us) (EP X pins σ Q) X.xe s := by
  have both : Vals (vs ++ dvs) (us ++ ds) := rv.append hd
  have hl : (us ++ ds).length = ps.length := by rw [← both.length]; exact F.len _ _ _ _ h
  refine wpAny_call (codeAny_mono (F.run X.A X.stack s H ⟨us, []⟩ (us ++ ds) (vs ++ dvs) Q E hst room I.env0 (hb s us I.kIn hl) both h) fun r s2 hq => ?_)
  cases r with
  | error er => exact hx pins σ H s er s2 I hq
  | ok fl =>
    cases fl with
    | ret u => exact I.after hq
    | next => exact (show False from hq).elim
    | brk => exact (show False from hq).elim
    | cont => exact (show False from hq).elim
theorem pe_callG (F : FnG X.prog X.w X.K X.mg X.base CX k f fd ps sp) (hst : Still X.A) (room : Room k X.A) (hg : Gl X x) (hm : X.mg x = some (.ref f)) (hk : PySem.W.keepIn X.K (.ref f) = true) (hb : Binds X.K fd ps ds) (hd : Vals dvs ds) (hx : Passes CX X E)
    (ha : PA X (e :: es) t) (hdb : (x == ("__debug__" : Str)) = false := by decide) (he : starEach (e :: es) X.env = (false, eval e X.env) :: starEach es X.env := by rfl) (hpl : (backTo pos (starEach es X.env)).any (·.1) = false := by rfl) :
    PE X (.Call (.Name x p) (e :: es) [] pos) (tCall sp dvs E t) := by
  refine ⟨fun pins s σ H Q I h => wpAny_Call_Name_kw (ld_glob I hg hm ?_ hdb)⟩
  refine PySem.W.callWith_K (h₀ := X.base) I.ok.mod.kin hk (thn (ha.run pos pins s σ H _ I h) fun us s1 ⟨vs, H1, I1, rv, q⟩ => ⟨I1.kIn, ?_⟩) he hpl
  exact runG F hst room hb hd hx I1 rv q
end
theorem lawG {P : Program} {w : World} {K : PySem.W.Frag} {mg mb : Str → Option Value} {k : Nat} {fa a : Addr} {fd : FuncData} {x : Str} {sp : Sp} {s₁ : Shared} {vs : List Value} {ns : List Int}
    (inK : K.In s₁.heap) (hns : s₁.heap.Ns mainGlobals mg) (hbn : s₁.heap.Ns builtinsNs mb) (hbb : ∀ x : Str, x ≠ "__name__" → mb x = bootBuiltins x) (hlim : s₁.heap.NoLimit) (hgen : s₁.gens = #[])
    (ha : s₁.heap.get? a = some { cls := .type "list", data := .seq vs.toArray }) (hi : IntsAre vs ns) (hl : ns.length ≤ sizeLine) (room : Room k callerA)
    (F : ∀ base : Heap, K.In base → base.Ns mainGlobals mg → FnG P w K mg base CX0 k fa fd [x] sp) (hbind : ∀ (s : Shared) (u : Value), BindsTo s fd ⟨[u], []⟩ [(x, u)])
    (hsp : ∀ H : Hp, Only H → SqL K H a (ns.map V.int) → sp [.ref a] H (fun v _ => v = .bl true) fun _ _ _ => False) :
    codeAny (model P w) callerA (.call (.ref fa) ⟨[.ref a], []⟩) (fun r s2 => r = .ok (.ret (.bool true)) ∧ OldK s₁.heap s2.heap ∧ s2.os = s₁.os ∧ AllBare s2.gens) s₁ := by
  have rv := vals_ints hi
  have lV := hi.length
  have main : ∀ H : Hp, Only H → SqL K H a (ns.map V.int) → HOk P w H s₁.heap → (∀ b, H b ≠ none → b = a) → (H a ≠ none → K.lookup a = none) →
      codeAny (model P w) callerA (.call (.ref fa) ⟨[.ref a], []⟩) (fun r s2 => r = .ok (.ret (.bool true)) ∧ OldK s₁.heap s2.heap ∧ s2.os = s₁.os ∧ AllBare s2.gens) s₁ := by
    intro H only sq hok justA notK
    have isA : ∀ {b : Addr} {u : HO}, H b = some u → b = a := fun {b u} q => justA b (by rw [q]; simp)
    have dictFree : ∀ {b : Addr} {o : Obj} {es : Array DictEntry} {ep : Nat}, s₁.heap.get? b = some o → o.data = .dict es ep → H b = none := by
      intro b o es ep e d
      cases q : H b with
      | none => rfl
      | some u =>
        have eb := isA q
        subst eb
        rw [ha] at e; cases e
        have bad : Data.seq vs.toArray _ = Data.dict es ep := d
        cases bad
    have under : ∀ {b : Addr} {m : Str → Option Value}, s₁.heap.Ns b m → (hidT s₁.heap H).Ns b m := by
      rintro b m ⟨o, es, ep, e, d, more⟩
      exact ⟨o, es, ep, hidT_get e (dictFree e d), d, more⟩
    have inB : K.In (hidT s₁.heap H) := by
      intro b o e
      refine hidT_get (inK b o e) ?_
      cases q : H b with
      | none => rfl
      | some u =>
        have eb := isA q
        subst eb
        rw [notK (by rw [q]; simp)] at e; cases e
    have modB : Mod K mg (hidT s₁.heap H) := by
      obtain ⟨mc, c1, c2⟩ := hlim
      exact ⟨inB, under hns, ⟨mb, under hbn, hbb⟩, mc, under c1, c2⟩
    have env0 : Env0 P w K mg (hidT s₁.heap H) callerA [] s₁ H := by
      refine ⟨rfl, modB, fun b o e => of_hidT e, Nat.le_of_eq (hidT_size _ _), trivial, fun b hb => ?_, hok, .of_eq hgen⟩
      cases (show b ∈ ([] : List Addr) from hb)
    refine codeAny_mono ((F _ inB (under hns)).run callerA [] s₁ H ⟨[.ref a], []⟩ [.ref a] [.ref a] _ _ rfl room env0 (hbind s₁ (.ref a)) (.cons rfl .nil) (hsp H only sq)) fun r s2 h => ?_
    cases r with
    | error e => exact (show False from h).elim
    | ok fl =>
      cases fl with
      | next => exact (show False from h).elim
      | brk => exact (show False from h).elim
      | cont => exact (show False from h).elim
      | ret u =>
        obtain ⟨v, H2, sameOs, bareG, un, hok2, ru, qv⟩ := h
        have ev : v = .bl true := qv
        subst ev
        have eu : u = Value.bool true := ru
        subst eu
        refine ⟨rfl, OldK.of_keep ?_, sameOs, bareG⟩
        intro b o e
        cases q : H b with
        | none =>
          refine un.keep b o e q (fun z => ?_) (by simp)
          cases (show b ∈ ([] : List Addr) from z)
        | some u2 =>
          rcases only b with z | ⟨ob, xs, z⟩
          · rw [q] at z; cases z
          · have z2 := un.frzs b ob _ z
            have f1 := (hok b _ z).1
            have f2 := (hok2 b _ z2).1
            rw [e] at f1; cases f1
            exact f2
  cases hk : K.lookup a with
  | some o =>
    have e := inK a o hk
    rw [ha] at e
    cases e
    refine main (fun _ => none) (fun _ => .inl rfl) (.inr ⟨_, vs.toArray, _, hk, rfl, rfl, rfl, ?_, by simpa using rv⟩) (fun b u z => by cases (show (none : Option HO) = some u from z)) (fun b z => (z rfl).elim) fun z => (z rfl).elim
    rw [List.size_toArray, lV]
    exact hl
  | none =>
    have at_ : ∀ b, b = a → (if b = a then some (HO.frz { cls := .type "list", data := .seq vs.toArray } (.lst (ns.map V.int))) else none) = some (HO.frz { cls := .type "list", data := .seq vs.toArray } (.lst (ns.map V.int))) := fun b e => if_pos e
    have off : ∀ b, ¬ b = a → (if b = a then some (HO.frz { cls := .type "list", data := .seq vs.toArray } (.lst (ns.map V.int))) else none) = none := fun b e => if_neg e
    refine main (fun b => if b = a then some (.frz { cls := .type "list", data := .seq vs.toArray } (.lst (ns.map V.int))) else none) (fun b => ?_) (.inl (.inr ⟨_, at_ a rfl⟩)) (fun b u z => ?_) (fun b z => ?_) fun _ => hk
    · by_cases hb : b = a
      · exact .inr ⟨_, _, at_ b hb⟩
      · exact .inl (off b hb)
    · by_cases hb : b = a
      · have z2 := (at_ b hb).symm.trans z
        cases z2
        subst hb
        exact ⟨ha, by rw [List.length_map]; exact hl, vs, _, rv, ha⟩
      · have z2 := (off b hb).symm.trans z
        cases z2
    · by_cases hb : b = a
      · exact hb
      · exact (z (off b hb)).elim
theorem walkG {l : PySem.W.OpenLaw} {n k : Nat} {q : Program} {loose : List Str} {XP : (Str → Option Value) → Heap → Prop} {YP : World → Heap → Prop} {d : DefRec} {K : Params → PySem.W.Frag} {sp : World → Sp} {x : Str}
    (hn : l.most = some n) (hn2 : n ≤ sizeLine) (hdf : d.params.defaults = []) (room : Room k callerA) (hY : ∀ (w : World) (h : Heap), YP w h → (K w.params).In h)
    (F : ∀ (w : World) (mg : Str → Option Value) (fa : Addr) (h : Heap), (K w.params).In h → h.Ns mainGlobals mg → mg d.name = some (.ref fa) →
      ∃ fd : FuncData, (∀ (s : Shared) (u : Value), BindsTo s fd ⟨[u], []⟩ [(x, u)]) ∧
        ∀ base : Heap, (K w.params).In base → base.Ns mainGlobals mg → FnG l.prog w (K w.params) mg base CX0 k fa fd [x] (sp w))
    (hsp : ∀ (w : World) (H : Hp) (a : Addr) (ns : List Int), ns.length ≤ n → Only H → SqL (K w.params) H a (ns.map V.int) → sp w [.ref a] H (fun v _ => v = .bl true) fun _ _ _ => False) :
    PySem.W.WalkO q loose XP YP l.row.toRowW d [] (fun f vs => PySem.call f vs) := by
  refine Att.attach_call hn hdf fun w s₀ s₁ mg mb fa o pm cd doc a vs ns G Y ho hd hcd hmg hobj hints hlen hgen => ?_
  have inK := hY w s₁.heap Y
  obtain ⟨fd, hb, hF⟩ := F w mg fa s₁.heap inK G.T.g hmg
  exact lawG inK G.T.g G.T.b G.T.builtins G.T.nolimit hgen hobj hints (Nat.le_trans hlen hn2) room hF hb fun H hO hS => hsp w H a ns hlen hO hS
end Gd
set_option Elab.async false
set_option linter.all false
set_option maxRecDepth 100000
set_option maxHeartbeats 1000000
namespace Rp
open PySem PySem.Spec PyProof.Rows L2 Gd
mutual
inductive PyV (H : Hp) : V → PyData → Prop
  | non : PyV H .non .none
  | bl (b : Bool) : PyV H (.bl b) (.bool b)
  | int (i : Int) : PyV H (.int i) (.int i)
  | str (x : Str) : PyV H (.str x) (.str x)
  | lst {a : Addr} {xs : List V} {ds : List PyData} : H a = some (.lst xs) → PyVs H xs ds → PyV H (.ref a) (.list ds)
  | tup {a : Addr} {xs : List V} {ds : List PyData} : H a = some (.tup xs) → PyVs H xs ds → PyV H (.ref a) (.tuple ds)
inductive PyVs (H : Hp) : List V → List PyData → Prop
  | nil : PyVs H [] []
  | cons {x : V} {xs : List V} {d : PyData} {ds : List PyData} : PyV H x d → PyVs H xs ds → PyVs H (x :: xs) (d :: ds)
end
mutual
theorem PyV.mono {H H' : Hp} (s : Same H H') : ∀ {v : V} {d : PyData}, PyV H v d → PyV H' v d
  | _, _, .non => .non
  | _, _, .bl b => .bl b
  | _, _, .int i => .int i
  | _, _, .str x => .str x
  | _, _, .lst e q => .lst (s _ _ e) (PyVs.mono s q)
  | _, _, .tup e q => .tup (s _ _ e) (PyVs.mono s q)
theorem PyVs.mono {H H' : Hp} (s : Same H H') : ∀ {vs : List V} {ds : List PyData}, PyVs H vs ds → PyVs H' vs ds
  | _, _, .nil => .nil
  | _, _, .cons q qs => .cons (PyV.mono s q) (PyVs.mono s qs)
end
/-- a dict of ints and texts to scalars -/
def scalD : V → Option PyData
  | .non => some .none
  | .bl b => some (.bool b)
  | .int i => some (.int i)
  | .str x => some (.str x)
  | _ => none
def keyD : Key → PyData
  | .inl i => .int i
  | .inr x => .str x
/-- a dict with scalars alone -/
inductive Flat : List (Key × V) → List (PyData × PyData) → Prop
  | nil : Flat [] []
  | cons {k : Key} {v : V} {d : PyData} {kvs : List (Key × V)} {r : List (PyData × PyData)} : scalD v = some d → Flat kvs r → Flat ((k, v) :: kvs) ((keyD k, d) :: r)
end Rp
set_option Elab.async false
set_option linter.all false
set_option maxRecDepth 100000
set_option maxHeartbeats 1000000
namespace Dn
open PySem PySem.Spec PyProof.Rows L2 Gd Zn Rp
/-- the pot: two counts -/
def PotOk (H : Hp) (p : Addr) : Prop := ∃ a b : Int, H p = some (.lst [.int a, .int b]) ∧ 0 ≤ a ∧ 0 ≤ b ∧ b < 2 ^ 32
/-- all but the pot stays; the pot stays a pot -/
structure RX (p : Option Addr) (H H' : Hp) : Prop where
  keep : ∀ c o, p ≠ some c → H c = some o → H' c = some o
  pot : ∀ a, p = some a → PotOk H a → PotOk H' a
theorem RX.refl {p : Option Addr} (H : Hp) : RX p H H := ⟨fun _ _ _ e => e, fun _ _ e => e⟩
theorem RX.trans {p : Option Addr} {H H1 H2 : Hp} (a : RX p H H1) (b : RX p H1 H2) : RX p H H2 := ⟨fun c o n e => b.keep c o n (a.keep c o n e), fun q e k => b.pot q e (a.pot q e k)⟩
theorem RX.of {p : Option Addr} {H H' : Hp} (s : Same H H') : RX p H H' := ⟨fun c o _ e => s c o e, fun a _ ⟨x, y, e, r⟩ => ⟨x, y, s a _ e, r⟩⟩
theorem RX.same {H H' : Hp} (s : RX none H H') : Same H H' := fun c o e => s.keep c o (by simp) e
theorem same_new {H : Hp} {p : Addr} {o : HO} (h : H p = none) : Same H (upd H p o) := fun b x e => by rw [upd_ne (ne_of_none e h)]; exact e
theorem RX.new {p : Option Addr} {H : Hp} {a : Addr} {o : HO} (h : H a = none) : RX p H (upd H a o) := .of (same_new h)
theorem PotOk.some_ {H : Hp} {p : Addr} (h : PotOk H p) : H p ≠ none := by
  obtain ⟨a, b, e, _⟩ := h
  rw [e]
  simp
/-- what H did not know may change -/
theorem RX.mut {p : Option Addr} {H H' : Hp} {a : Addr} {o : HO} (s : RX p H H') (h : H a = none) (hp : ∀ q, p = some q → PotOk H q) : RX p H (upd H' a o) := by
  refine ⟨fun c u n e => ?_, fun q e k => ?_⟩
  · rw [upd_ne (ne_of_none e h)]
    exact s.keep c u n e
  · have nq : q ≠ a := fun z => by subst z; exact (hp q e).some_ h
    obtain ⟨x, y, e1, r⟩ := s.pot q e k
    exact ⟨x, y, by rw [upd_ne nq]; exact e1, r⟩
/-- the pot is there, where there is one -/
def Has (p : Option Addr) (H : Hp) : Prop := ∀ q, p = some q → PotOk H q
theorem Has.to {p : Option Addr} {H H' : Hp} (h : Has p H) (s : RX p H H') : Has p H' := fun q e => s.pot q e (h q e)
theorem has_none {H : Hp} : Has none H := fun q e => by cases e
theorem Has.ne {p : Option Addr} {H : Hp} (h : Has p H) {a : Addr} (n : H a = none) : p ≠ some a := fun e => (h a e).some_ n
/-- the heap without the pot -/
def hid (p : Option Addr) (H : Hp) : Hp := fun b => if p = some b then none else H b
theorem hid_at {p : Option Addr} {H : Hp} {a : Addr} (n : p ≠ some a) : hid p H a = H a := if_neg n
theorem hid_le {p : Option Addr} {H : Hp} : Same (hid p H) H := fun b o e => by
  unfold hid at e
  split at e
  · cases e
  · exact e
theorem RX.hid {p : Option Addr} {H H' : Hp} (s : RX p H H') : Same (hid p H) (hid p H') := fun b o e => by
  unfold Dn.hid at e ⊢
  split
  · rename_i q; rw [if_pos q] at e; cases e
  · rename_i q; rw [if_neg q] at e; exact s.keep b o q e
/-- what a comprehension asks of its iterator -/
def LcB (g : TG) (tt : TT) (te : TE) (vs : List Nat) (σ : L2.St) (Q : VK) (J : It) (H1 : Hp) : Prop := ∀ D, H1 D = none → ∃ W : Nat → Nat → Hp → Prop, (∃ m, W 0 m (upd H1 D (.lst []))) ∧ ∀ i m H, W i m H →
  (J.stop i H ∧ Q (.ref D) H) ∨ (J.go i H ∧ ∃ Nx : Hp → Prop, (∀ H', Nx H' → ∃ m', m' < m ∧ W (i + 1) m' H') ∧ ∀ x H', J.yld i H x H' → g x (wipe σ vs) H' fun σ2 H2 => wipe σ2 vs = wipe σ vs ∧ tt σ2 H2 fun b H3 =>
    if b = true then te σ2 H3 fun y H4 => ∃ acc, H4 D = some (.lst acc) ∧ acc.length < sizeLine ∧ Nx (upd H4 D (.lst (acc ++ [y]))) else Nx H3)
/-- [e for .. in J] where the elements are scalars that El tells -/
theorem lc_el {p : Option Addr} {J : It} {g : TG} {te : TE} {vs : List Nat} {σ : L2.St} {H1 : Hp} {Q : VK} (n : Nat) (El : Nat → V → Prop) (hp : Has p H1) (hn : n ≤ 1000)
    (hgo : ∀ i H, i < n → RX p H1 H → J.go i H) (hst : ∀ H, RX p H1 H → J.stop n H)
    (hs : ∀ i x H H' (C : VK), i < n → RX p H1 H → Has p H → J.yld i H x H' → (∀ y H4, RX p H H4 → El i y → C y H4) → g x (wipe σ vs) H' fun σ2 H2 => wipe σ2 vs = wipe σ vs ∧ te σ2 H2 C)
    (hd : ∀ D H xs, H1 D = none → RX p H1 H → H D = some (.lst xs) → xs.length = n → (∀ i v, xs[i]? = some v → El i v) → Q (.ref D) H) :
    LcB g tYes te vs σ Q J H1 := by
  intro D nD
  have nP : p ≠ some D := hp.ne nD
  refine ⟨fun i m H => i ≤ n ∧ m = n - i ∧ RX p H1 H ∧ ∃ xs, H D = some (.lst xs) ∧ xs.length = i ∧ ∀ j v, xs[j]? = some v → El j v, ⟨n, Nat.zero_le _, rfl, RX.new nD, [], upd_same, rfl, fun j v e => by simp at e⟩, ?_⟩
  rintro i m H ⟨hi, rfl, s1, xs, hD, hl, hE⟩
  by_cases hlt : i < n
  · refine .inr ⟨hgo i H hlt s1, fun H' => i + 1 ≤ n ∧ RX p H1 H' ∧ ∃ xs, H' D = some (.lst xs) ∧ xs.length = i + 1 ∧ ∀ j v, xs[j]? = some v → El j v, fun H' h => ⟨n - (i + 1), by omega, h.1, rfl, h.2⟩, fun x H' hy => ?_⟩
    refine hs i x H H' _ hlt s1 (hp.to s1) hy fun y H4 s4 e4 => ?_
    have hD4 := s4.keep D _ nP hD
    have s5 : RX p H1 (upd H4 D (.lst (xs ++ [y]))) := (s1.trans s4).mut nD hp
    refine ⟨xs, hD4, Nat.lt_of_lt_of_le (by omega : xs.length < 1001) (by decide), hlt, s5, xs ++ [y], upd_same, by simp [hl], fun j v e => ?_⟩
    by_cases hj : j < xs.length
    · rw [List.getElem?_append_left hj] at e
      exact hE j v e
    · rw [List.getElem?_append_right (by omega)] at e
      have z : j - xs.length = 0 := by
        by_cases q : j - xs.length = 0
        · exact q
        · rw [List.getElem?_eq_none (by simp; omega)] at e; cases e
      rw [z] at e
      cases e
      have : j = i := by omega
      subst this
      exact e4
  · have e : i = n := by omega
    subst e
    exact .inl ⟨hst H s1, hd D H xs nD s1 hD hl hE⟩
/-- .. with a test -/
theorem lc_if {p : Option Addr} {J : It} {g : TG} {tt : TT} {te : TE} {vs : List Nat} {σ : L2.St} {H1 : Hp} {Q : VK} (n : Nat) (T : Nat → Bool) (f : Nat → V) (hp : Has p H1) (hn : n ≤ 1000)
    (hgo : ∀ i H, i < n → RX p H1 H → J.go i H) (hst : ∀ H, RX p H1 H → J.stop n H)
    (hs : ∀ i x H H' (C : V → Hp → Prop) (C0 : Hp → Prop), i < n → RX p H1 H → Has p H → J.yld i H x H' → (∀ H4, RX p H H4 → T i = true → C (f i) H4) → (∀ H4, RX p H H4 → T i = false → C0 H4) →
      g x (wipe σ vs) H' fun σ2 H2 => wipe σ2 vs = wipe σ vs ∧ tt σ2 H2 fun b H3 => if b = true then te σ2 H3 C else C0 H3)
    (hd : ∀ D H, H1 D = none → RX p H1 H → H D = some (.lst (((List.range n).filter T).map f)) → Q (.ref D) H) :
    LcB g tt te vs σ Q J H1 := by
  intro D nD
  have nP : p ≠ some D := hp.ne nD
  refine ⟨fun i m H => i ≤ n ∧ m = n - i ∧ RX p H1 H ∧ H D = some (.lst (((List.range i).filter T).map f)), ⟨n, Nat.zero_le _, rfl, RX.new nD, upd_same⟩, ?_⟩
  rintro i m H ⟨hi, rfl, s1, hD⟩
  by_cases hlt : i < n
  · refine .inr ⟨hgo i H hlt s1, fun H' => i + 1 ≤ n ∧ RX p H1 H' ∧ H' D = some (.lst (((List.range (i + 1)).filter T).map f)), fun H' h => ⟨n - (i + 1), by omega, h.1, rfl, h.2⟩, fun x H' hy => ?_⟩
    refine hs i x H H' _ _ hlt s1 (hp.to s1) hy (fun H4 s4 e4 => ?_) fun H4 s4 e4 => ?_
    · have hD4 := s4.keep D _ nP hD
      refine ⟨_, hD4, ?_, hlt, (s1.trans s4).mut nD hp, ?_⟩
      · rw [List.length_map]
        have := List.length_filter_le T (List.range i)
        rw [List.length_range] at this
        exact Nat.lt_of_lt_of_le (by omega : _ < 1001) (by decide)
      · rw [upd_same, List.range_succ, List.filter_append, List.map_append]
        simp [e4]
    · refine ⟨hlt, s1.trans s4, ?_⟩
      rw [s4.keep D _ nP hD, List.range_succ, List.filter_append, List.map_append]
      simp [e4]
  · have e : i = n := by omega
    subst e
    exact .inl ⟨hst H s1, hd D H nD s1 hD⟩
/-- the whole comprehension, from what its iterator gives -/
theorem tlc_of {wi : TI} {g : TG} {tt : TT} {te : TE} {vs : List Nat} {σ : L2.St} {H H1 : Hp} {Q : VK} (J : It) (hw : ∀ R : It → Hp → Prop, R J H1 → wi σ H R) (h : LcB g tt te vs σ Q J H1) : tLc wi g tt te vs σ H Q := hw _ h
section
variable {σ : L2.St} {H : Hp} {Q : VK} {te ta : TE} {t : TA} {D : Ends}
theorem r_next (h : D.nx σ H) : tNext D σ H := h
theorem r_nif {c : TT} {t u : TS} {rt : VK} {bk ct : L2.St → Hp → Prop} (h : c σ H fun b H1 => if b = true then t D σ H1 else u D σ H1) : tNext ⟨tIfS c t u D, rt, bk, ct⟩ σ H := h
theorem r_nret {rt : VK} {bk ct : L2.St → Hp → Prop} (h : te σ H D.rt) : tNext ⟨tRet te D, rt, bk, ct⟩ σ H := h
theorem r_nseq {t u : TS} {rt : VK} {bk ct : L2.St → Hp → Prop} (h : t { D with nx := u D } σ H) : tNext ⟨tSeq t u D, rt, bk, ct⟩ σ H := h
theorem r_if {c : TT} {t u : TS} (h : c σ H fun b H1 => if b = true then t D σ H1 else u D σ H1) : tIfS c t u D σ H := h
theorem r_not {c : TT} {Q : Bool → Hp → Prop} (h : c σ H fun b H1 => Q (!b) H1) : tNot c σ H Q := h
theorem r_b {Q : Bool → Hp → Prop} (h : te σ H fun x H1 => ∃ c, x = .bl c ∧ Q c H1) : tB te σ H Q := h
theorem r_seq {t u : TS} (h : t { D with nx := u D } σ H) : tSeq t u D σ H := h
theorem r_asg {g : TG} (h : te σ H fun x H1 => g x σ H1 D.nx) : tAsg te g D σ H := h
theorem r_op {r : R2} {ta tb : TE} (h : ta σ H fun x H1 => tb σ H1 fun y H2 => r x y H2 Q) : tOp r ta tb σ H Q := h
theorem r_ret (h : te σ H D.rt) : tRet te D σ H := h
theorem r_cb {r : List V → Hp → VK → Prop} (h : t σ H fun vs H1 => r vs H1 Q) : tCB r t σ H Q := h
theorem r_cons {Q : List V → Hp → Prop} (h : ta σ H fun x H1 => t σ H1 fun xs H2 => Q (x :: xs) H2) : tCons ta t σ H Q := h
end
theorem row2 {K : PySem.W.Frag} {H : Hp} {i : Nat} {t1 t2 : Bool} {a b : Addr} {xs ys : List V} {x y : V} (h1 : SqV K H t1 a xs) (e1 : xs[i]? = some x) (h2 : SqV K H t2 b ys) (e2 : ys[i]? = some y) : RowAt K H i [(t1, a), (t2, b)] [x, y] := ⟨⟨_, h1, e1⟩, ⟨_, h2, e2⟩, trivial⟩
def Its (t : Bool) (K : PySem.W.Frag) (a : Addr) : It := cond t (Itt K a) (Itl K a)
theorem its_go {t : Bool} {K : PySem.W.Frag} {a : Addr} {H : Hp} {xs : List V} {x : V} {i : Nat} (q : SqV K H t a xs) (e : xs[i]? = some x) : (Its t K a).go i H := by
  cases t with
  | true => exact ⟨xs, x, q, e⟩
  | false => exact ⟨xs, x, q, e⟩
theorem its_stop {t : Bool} {K : PySem.W.Frag} {a : Addr} {H : Hp} {xs : List V} {i : Nat} (q : SqV K H t a xs) (e : xs.length ≤ i) : (Its t K a).stop i H := by
  cases t with
  | true => exact ⟨xs, q, e⟩
  | false => exact ⟨xs, q, e⟩
theorem its_yld {t : Bool} {K : PySem.W.Frag} {a : Addr} {H H' : Hp} {xs : List V} {x : V} {i : Nat} (y : (Its t K a).yld i H x H') (q : SqV K H t a xs) : H' = H ∧ xs[i]? = some x := by
  cases t with
  | true => exact ⟨y.1, y.2 xs q⟩
  | false => exact ⟨y.1, y.2 xs q⟩
def iSeq (K : PySem.W.Frag) (tl : TE) : TI := fun σ H R => tl σ H fun x H1 => ∃ t a xs, x = .ref a ∧ SqV K H1 t a xs ∧ R (Its t K a) H1
section
variable {X : Cx}
theorem pi_seq {tg l : Expr} {tl : TE} (hl : PE X l tl) : PI X tg l (iSeq X.K tl) := by
  refine ⟨fun pins s σ H R I h => thn (hl.run pins s σ H _ I h) fun v s1 hv => ?_⟩
  obtain ⟨x, H1, I1, rx, t, a, xs, rfl, hq, hR⟩ := hv
  cases (show v = Value.ref a from rx)
  have fr : ∀ b ∈ [s1.heap.objs.size], FpOk X pins H1 b := fun b hb => by
    obtain rfl : b = s1.heap.objs.size := by simpa using hb
    exact I1.fpOk (Nat.le_refl _) (I1.hok.fresh (Nat.le_refl _))
  cases t with
  | true =>
    obtain ⟨its, rv, p, _⟩ := I1.tuple hq
    exact wpAny_pyIter_tuple p ⟨s1.heap.objs.size, [s1.heap.objs.size], _, _, H1, rfl, I1.kept (t' := s1.toks) fun b o e => Heap.get?_push_of_some _ e, turn_tuple a _, ⟨_, Heap.get?_push_size _ rfl, rfl, rfl⟩, fr, hR⟩
  | false =>
    obtain ⟨its, rv, p, _⟩ := I1.list hq
    exact wpAny_pyIter_list p.isList ⟨s1.heap.objs.size, [s1.heap.objs.size], _, _, H1, rfl, I1.kept (t' := s1.toks) fun b o e => Heap.get?_push_of_some _ e, turn_list a _, ⟨_, Heap.get?_push_size _ rfl, rfl, rfl⟩, fr, hR⟩
end
theorem sq_or {t : Bool} {K : PySem.W.Frag} {a : Addr} {H : Hp} {xs : List V} (q : SqV K H t a xs) : SqL K H a xs ∨ SqT K H a xs := by
  cases t with
  | true => exact .inr q
  | false => exact .inl q
def rIxS2 (K : PySem.W.Frag) : R2 := fun x y H Q => ∃ t p xs i v, x = .ref p ∧ y = .int i ∧ SqV K H t p xs ∧ atI xs i = some v ∧ Q v H
theorem ix_sq {X : Cx} : IxR X (rIxS2 X.K) := by
  intro value slice pins s σ H x y v u Q I rx ry h hs
  obtain ⟨t, p, xs, i, z, e1, e2, hq, he, q⟩ := h
  cases t with
  | true => exact ix_tup value slice pins s σ H x y v u Q I rx ry ⟨p, xs, i, z, e1, e2, hq, he, q⟩ hs
  | false => exact ix_list value slice pins s σ H x y v u Q I rx ry ⟨p, xs, i, z, e1, e2, hq, he, q⟩ hs
def rLen (K : PySem.W.Frag) : List V → Hp → VK → Prop := fun xs H Q => ∃ p ys, xs = [.ref p] ∧ (SqL K H p ys ∨ SqT K H p ys) ∧ Q (.int ys.length) H
theorem c_len {X : Cx} : CallR X (.builtin "len") (rLen X.K) := call_len_seq
section
variable {X : Cx}
theorem pss_dead {st : List Stmt} : PSs X st (fun _ _ _ => False) := ⟨fun _ _ _ _ _ _ h => h.elim⟩
end
end Dn
set_option Elab.async false
set_option linter.all false
set_option maxRecDepth 100000
set_option maxHeartbeats 1000000
namespace Tb
open PySem PySem.Spec PyProof.Rows L2 Gd Zn Rp Dn
def KS (H H' : Hp) : Prop := ∀ c o, (∀ xs, o ≠ .lst xs) → H c = some o → H' c = some o
theorem KS.refl (H : Hp) : KS H H := fun _ _ _ e => e
theorem KS.trans {H H1 H2 : Hp} (a : KS H H1) (b : KS H1 H2) : KS H H2 := fun c o n e => b c o n (a c o n e)
theorem KS.of {H H' : Hp} (s : Same H H') : KS H H' := fun c o _ e => s c o e
theorem KS.rx {p : Option Addr} {H H' : Hp} (s : RX p H H') (hp : Has p H) : KS H H' := fun c o n e => by
  refine s.keep c o (fun z => ?_) e
  obtain ⟨a, b, e2, _⟩ := hp c z
  rw [e] at e2
  cases e2
  exact n _ rfl
theorem KS.lst {H : Hp} {a : Addr} {xs : List V} {o' : HO} (e : H a = some (.lst xs)) : KS H (upd H a o') := fun c o n q => by
  have nc : c ≠ a := fun z => by
    subst z
    rw [q] at e
    cases e
    exact n _ rfl
  rw [upd_ne nc]
  exact q
/-- a row, a table of rows: tuples -/
def RowV (H : Hp) (v : V) (r : List Int) : Prop := ∃ b, v = .ref b ∧ H b = some (.tup (r.map V.int))
inductive RowsV (H : Hp) : List V → List (List Int) → Prop
  | nil : RowsV H [] []
  | cons {v : V} {vs : List V} {r : List Int} {M : List (List Int)} : RowV H v r → RowsV H vs M → RowsV H (v :: vs) (r :: M)
def Mx (H : Hp) (v : V) (M : List (List Int)) : Prop := ∃ a vs, v = .ref a ∧ H a = some (.tup vs) ∧ RowsV H vs M
theorem RowV.mono {H H' : Hp} {v : V} {r : List Int} (s : KS H H') (h : RowV H v r) : RowV H' v r := by
  obtain ⟨b, e, h⟩ := h
  exact ⟨b, e, s b _ (fun _ z => by cases z) h⟩
theorem RowsV.mono {H H' : Hp} {vs : List V} {M : List (List Int)} (s : KS H H') (h : RowsV H vs M) : RowsV H' vs M := by
  induction h with
  | nil => exact .nil
  | cons p _ ih => exact .cons (p.mono s) ih
theorem Mx.mono {H H' : Hp} {v : V} {M : List (List Int)} (s : KS H H') (h : Mx H v M) : Mx H' v M := by
  obtain ⟨a, vs, e, h, r⟩ := h
  exact ⟨a, vs, e, s a _ (fun _ z => by cases z) h, r.mono s⟩
theorem RowsV.len {H : Hp} {vs : List V} {M : List (List Int)} (h : RowsV H vs M) : vs.length = M.length := by
  induction h with
  | nil => rfl
  | cons _ _ ih => rw [List.length_cons, List.length_cons, ih]
theorem RowsV.get {H : Hp} {vs : List V} {M : List (List Int)} (h : RowsV H vs M) {i : Nat} {v : V} (e : vs[i]? = some v) : ∃ r, M[i]? = some r ∧ RowV H v r := by
  induction h generalizing i with
  | nil => simp at e
  | cons p _ ih =>
    cases i with
    | zero =>
      cases e
      exact ⟨_, rfl, p⟩
    | succ i =>
      obtain ⟨r, h1, h2⟩ := ih (i := i) (by simpa using e)
      exact ⟨r, by simpa using h1, h2⟩
theorem rows_of {H : Hp} : ∀ {vs : List V} {M : List (List Int)}, vs.length = M.length → (∀ (i : Nat) (v : V), vs[i]? = some v → ∃ r, M[i]? = some r ∧ RowV H v r) → RowsV H vs M
  | [], [], _, _ => .nil
  | v :: vs, r :: M, hl, h => by
    obtain ⟨r', e, p⟩ := h 0 v rfl
    cases e
    exact .cons p (rows_of (Nat.succ.inj hl) fun i w e => h (i + 1) w e)
theorem RowV.py {H : Hp} {v : V} {r : List Int} (h : RowV H v r) : PyV H v (.tuple (r.map PyData.int)) := by
  obtain ⟨b, rfl, h⟩ := h
  refine .tup h ?_
  clear h
  induction r with
  | nil => exact .nil
  | cons x r ih => exact .cons (.int x) ih
theorem RowsV.py {H : Hp} {vs : List V} {M : List (List Int)} (h : RowsV H vs M) : PyVs H vs (M.map fun r => .tuple (r.map PyData.int)) := by
  induction h with
  | nil => exact .nil
  | cons p _ ih => exact .cons p.py ih
def mxD (M : List (List Int)) : PyData := .tuple (M.map fun r => .tuple (r.map PyData.int))
theorem Mx.py {H : Hp} {v : V} {M : List (List Int)} (h : Mx H v M) : PyV H v (mxD M) := by
  obtain ⟨a, vs, rfl, h, r⟩ := h
  exact .tup h r.py
/-- a comprehension whose elements hang on what is no list -/
theorem lc_ks {p : Option Addr} {J : It} {g : TG} {te : TE} {vs : List Nat} {σ : L2.St} {H1 : Hp} {Q : VK} (n : Nat) (El : Nat → V → Hp → Prop) (mono : ∀ i v H H', KS H H' → El i v H → El i v H') (hp : Has p H1) (hn : n ≤ 1000)
    (hgo : ∀ i H, i < n → RX p H1 H → J.go i H) (hst : ∀ H, RX p H1 H → J.stop n H)
    (hs : ∀ i x H H' (C : VK), i < n → RX p H1 H → Has p H → J.yld i H x H' → (∀ y H4, RX p H H4 → El i y H4 → C y H4) → g x (wipe σ vs) H' fun σ2 H2 => wipe σ2 vs = wipe σ vs ∧ te σ2 H2 C)
    (hd : ∀ D H xs, H1 D = none → RX p H1 H → H D = some (.lst xs) → xs.length = n → (∀ i v, xs[i]? = some v → El i v H) → Q (.ref D) H) : LcB g tYes te vs σ Q J H1 := by
  intro D nD
  have nP : p ≠ some D := hp.ne nD
  refine ⟨fun i m H => i ≤ n ∧ m = n - i ∧ RX p H1 H ∧ ∃ xs, H D = some (.lst xs) ∧ xs.length = i ∧ ∀ j v, xs[j]? = some v → El j v H, ⟨n, Nat.zero_le _, rfl, RX.new nD, [], upd_same, rfl, fun j v e => by simp at e⟩, ?_⟩
  rintro i m H ⟨hi, rfl, s1, xs, hD, hl, hE⟩
  by_cases hlt : i < n
  · refine .inr ⟨hgo i H hlt s1, fun H' => i + 1 ≤ n ∧ RX p H1 H' ∧ ∃ xs, H' D = some (.lst xs) ∧ xs.length = i + 1 ∧ ∀ j v, xs[j]? = some v → El j v H', fun H' h => ⟨n - (i + 1), by omega, h.1, rfl, h.2⟩, fun x H' hy => ?_⟩
    have hpH := hp.to s1
    refine hs i x H H' _ hlt s1 hpH hy fun y H4 s4 e4 => ?_
    have hD4 := s4.keep D _ nP hD
    have s5 : RX p H1 (upd H4 D (.lst (xs ++ [y]))) := (s1.trans s4).mut nD hp
    have k5 : KS H4 (upd H4 D (.lst (xs ++ [y]))) := KS.lst hD4
    refine ⟨xs, hD4, Nat.lt_of_lt_of_le (by omega : xs.length < 1001) (by decide), hlt, s5, xs ++ [y], upd_same, by simp [hl], fun j v e => ?_⟩
    by_cases hj : j < xs.length
    · rw [List.getElem?_append_left hj] at e
      exact mono _ _ _ _ ((KS.rx s4 hpH).trans k5) (hE j v e)
    · rw [List.getElem?_append_right (by omega)] at e
      have z : j - xs.length = 0 := by
        by_cases w : j - xs.length = 0
        · exact w
        · rw [List.getElem?_eq_none (by simp; omega)] at e; cases e
      rw [z] at e
      cases e
      have : j = i := by omega
      subst this
      exact mono _ _ _ _ k5 e4
  · have e : i = n := by omega
    subst e
    exact .inl ⟨hst H s1, hd D H xs nD s1 hD hl hE⟩
/-- tuple(a list that was just made) -/
def rTup (K : PySem.W.Frag) : List V → Hp → VK → Prop := fun xs H Q => ∃ p ys, xs = [.ref p] ∧ ((SqL K H p ys ∧ ∀ l, H l = none → Q (.ref l) (upd H l (.tup ys))) ∨ (SqT K H p ys ∧ Q (.ref p) H))
theorem c_tup {X : Cx} : CallR X (.type "tuple") (rTup X.K) := call_tuple_of
def transp (m : Nat) (M : List (List Int)) : List (List Int) := (List.range m).map fun j => M.map fun r => r.getD j 0
end Tb
set_option Elab.async false
set_option linter.all false
set_option maxRecDepth 100000
set_option maxHeartbeats 1000000
namespace Gn
open PySem PySem.Spec PyProof.Rows L2 Gd Zn Rp Dn
structure Def (P : Program) (w : World) (K : PySem.W.Frag) (mg : Str → Option Value) (base : Heap) (nm : Str) (k : Nat) (ps : List Str) (sp : Sp) : Prop where
  ex : ∃ (f : Addr) (fd : FuncData), FnOk P w K mg base CX0 k f fd ps sp ∧ mg nm = some (.ref f) ∧ PySem.W.keepIn K (.ref f) = true ∧ Binds K fd ps []
section
variable {X : Cx}
theorem pe_def {nm : Str} {k j : Nat} {ps : List Str} {sp : Sp} {e : Expr} {es : List Expr} {t : TA} {p pos : Pos} (D : Def X.prog X.w X.K X.mg X.base nm k ps sp) (room : Room j X.A) (ha : PA X (e :: es) t) (hkj : k ≤ j := by decide) (hg : Gl X nm := by rfl)
    (hdb : (nm == ("__debug__" : Str)) = false := by decide) (he : starEach (e :: es) X.env = (false, eval e X.env) :: starEach es X.env := by rfl) (hpl : (backTo pos (starEach es X.env)).any (·.1) = false := by rfl) :
    PE X (.Call (.Name nm p) (e :: es) [] pos) (tCall sp [] E0 t) := by
  obtain ⟨f, fd, G, m, kp, b⟩ := D.ex
  exact pe_call G (room.mono hkj) hg m kp b .nil pass0 ha hdb he hpl
end
def AnyV (H : Hp) (v : V) (d : PyData) : Prop := PyV H v d ∨ ∃ a kvs r, v = .ref a ∧ H a = some (.dK kvs) ∧ d = .dict r ∧ Flat kvs r
theorem AnyV.mono {H H' : Hp} {v : V} {d : PyData} (s : Same H H') (h : AnyV H v d) : AnyV H' v d := by
  rcases h with h | ⟨a, kvs, r, e, h, e2, f⟩
  · exact .inl (h.mono s)
  · exact .inr ⟨a, kvs, r, e, s _ _ h, e2, f⟩
def tyD : PyData → String
  | .none => "NoneType" | .bool _ => "bool" | .int _ => "int" | .str _ => "str" | .list _ => "list" | .tuple _ => "tuple" | .dict _ => "dict"
theorem AnyV.ty {K : PySem.W.Frag} {H : Hp} {v : V} {d : PyData} (h : AnyV H v d) : TyX K H v (.type (tyD d)) := by
  rcases h with h | ⟨a, kvs, r, rfl, e, rfl, f⟩
  · cases h with
    | non => exact .base .non
    | bl b => exact .base (.bl b)
    | int i => exact .base (.int i)
    | str x => exact .base (.str x)
    | lst e _ => exact .base (.lst e)
    | tup e _ => exact .base (.tup e)
  · exact .base (.dK e)
def isIntD : PyData → Bool
  | .int _ => true
  | _ => false
def isBool : PyData → Bool
  | .bool _ => true
  | _ => false
def isSeq : PyData → Bool
  | .list _ => true
  | .tuple _ => true
  | _ => false
def items : PyData → List PyData
  | .list xs => xs
  | .tuple xs => xs
  | _ => []
theorem kit_int (K : PySem.W.Frag) (d : PyData) : PySem.W.kitOne K (.type (tyD d)) (.type "int") = some (isIntD d || isBool d) := by
  cases d <;> dsimp only [tyD, isIntD, isBool] <;> exact kit_ty (by decide +kernel)
theorem kit_bool (K : PySem.W.Frag) (d : PyData) : PySem.W.kitOne K (.type (tyD d)) (.type "bool") = some (isBool d) := by
  cases d <;> dsimp only [tyD, isBool] <;> exact kit_ty (by decide +kernel)
theorem kit_seq (K : PySem.W.Frag) (d : PyData) : PySem.W.kitAny K (.type (tyD d)) [.type "list", .type "tuple"] = some (isSeq d) := by
  cases d <;> dsimp only [tyD, isSeq] <;>
  first
  | exact kitAny_cons (kit_ty (b := "list") (r := true) (by decide +kernel)) (fun h => by cases h) (fun _ => rfl)
  | exact kitAny_cons (kit_ty (b := "list") (r := false) (by decide +kernel)) (fun _ => kitAny_cons (kit_ty (b := "tuple") (r := true) (by decide +kernel)) (fun h => by cases h) (fun _ => rfl)) (fun h => by cases h)
  | exact kitAny_cons (kit_ty (b := "list") (r := false) (by decide +kernel)) (fun _ => kitAny_cons (kit_ty (b := "tuple") (r := false) (by decide +kernel)) (fun _ => kitAny_nil) (fun h => by cases h)) (fun h => by cases h)
def iD (xs : List Int) : List PyData := xs.map PyData.int
theorem pyVs_ints {H : Hp} : ∀ {vs : List V} {xs : List Int}, PyVs H vs (iD xs) → vs = xs.map V.int
  | _, [], .nil => rfl
  | _, x :: xs, .cons (.int _) q => by rw [pyVs_ints q]; rfl
/-- a list or a tuple, its items -/
def SeqV (H : Hp) (v : V) (ds : List PyData) : Prop := PyV H v (.list ds) ∨ PyV H v (.tuple ds)
theorem SeqV.mono {H H' : Hp} {v : V} {ds : List PyData} (s : Same H H') (h : SeqV H v ds) : SeqV H' v ds := h.imp (PyV.mono s) (PyV.mono s)
theorem SeqV.at {H : Hp} {v : V} {ds : List PyData} (K : PySem.W.Frag) (h : SeqV H v ds) : ∃ (t : Bool) (a : Addr) (vs : List V), v = .ref a ∧ (∀ H', Same H H' → SqV K H' t a vs) ∧ PyVs H vs ds := by
  rcases h with h | h
  · cases h with
    | lst e q => exact ⟨false, _, _, rfl, fun H' s => .inl (.inl (s _ _ e)), q⟩
  · cases h with
    | tup e q => exact ⟨true, _, _, rfl, fun H' s => .inl (.inl (s _ _ e)), q⟩
theorem seq_of {H : Hp} {v : V} {d : PyData} (h : AnyV H v d) (e : isSeq d = true) : SeqV H v (items d) := by
  rcases h with h | ⟨_, _, _, _, _, rfl, _⟩
  · cases h with
    | lst x q => exact .inl (.lst x q)
    | tup x q => exact .inr (.tup x q)
    | non => cases e
    | bl _ => cases e
    | int _ => cases e
    | str _ => cases e
  · cases e
def dot (xs ys : List Int) : Int := ((xs.zip ys).map fun p => p.1 * p.2).sum
def Small (x : Int) : Prop := -(2 ^ 64) < x ∧ x < 2 ^ 64
theorem map_of_get {α : Type} {n : Nat} (f : α → V) : ∀ {vs : List V} {l : List α}, vs.length = l.length → (∀ (i : Nat) (v : V), vs[i]? = some v → ∃ x : α, l[i]? = some x ∧ v = f x) → vs = l.map f
  | [], [], _, _ => rfl
  | v :: vs, x :: l, hl, h => by
    obtain ⟨y, e1, e2⟩ := h 0 v rfl
    cases e1
    rw [e2, map_of_get (n := n) f (Nat.succ.inj hl) (fun i w e => h (i + 1) w e)]
    rfl
theorem pyVs_len {H : Hp} : ∀ {vs : List V} {ds : List PyData}, PyVs H vs ds → vs.length = ds.length
  | _, _, .nil => rfl
  | _, _, .cons _ q => by rw [List.length_cons, List.length_cons, pyVs_len q]
theorem pyVs_get {H : Hp} : ∀ {vs : List V} {ds : List PyData} {i : Nat} {v : V}, PyVs H vs ds → vs[i]? = some v → ∃ d, ds[i]? = some d ∧ PyV H v d
  | _, _, _, _, .nil, e => by simp at e
  | _, _, 0, _, .cons (d := d) p _, e => by
    cases e
    exact ⟨d, rfl, p⟩
  | _, _, i + 1, _, .cons _ q, e => by
    obtain ⟨d', h1, h2⟩ := pyVs_get (i := i) q (by simpa using e)
    exact ⟨d', by simpa using h1, h2⟩
end Gn
set_option Elab.async false
set_option linter.all false
set_option maxRecDepth 100000
set_option maxHeartbeats 1000000
namespace Wd
open PySem PySem.Spec PyProof.Rows L2
def Big (x : Int) : Prop := ∃ k : Nat, k ≤ 20000 ∧ x.natAbs < 2 ^ k
def Wid (x : Int) : Prop := ∃ k : Nat, k ≤ 1000000 ∧ x.natAbs < 2 ^ k
theorem lit {x : Int} (h : -(2 ^ 64) < x ∧ x < 2 ^ 64) : Big x := ⟨64, by decide, by omega⟩
theorem Big.neg {x : Int} (h : Big x) : Big (-x) := by
  obtain ⟨k, a, b⟩ := h
  exact ⟨k, a, by omega⟩
theorem Big.w {x : Int} (h : Big x) : Wid x := by
  obtain ⟨k, a, b⟩ := h
  exact ⟨k, Nat.le_trans a (by decide), b⟩
theorem mulW {i j : Int} (hi : Wid i) (hj : Wid j) : CMulX i j := by
  obtain ⟨a, h1, h2⟩ := hi
  obtain ⟨b, h3, h4⟩ := hj
  exact mulx_ok h2 h4 (by omega)
theorem mul {i j : Int} (hi : Big i) (hj : Big j) : CMulX i j := mulW hi.w hj.w
theorem pow_le {a b : Nat} (h : a ≤ b) : 2 ^ a ≤ 2 ^ b := Nat.pow_le_pow_right (by decide) h
theorem abs_mul {x y : Int} {a b : Nat} (hx : x.natAbs < 2 ^ a) (hy : y.natAbs < 2 ^ b) : (x * y).natAbs < 2 ^ (a + b) := by
  rw [Int.natAbs_mul, Nat.pow_add]
  exact Nat.mul_lt_mul'' hx hy
theorem abs_mono {x : Int} {a b : Nat} (hx : x.natAbs < 2 ^ a) (h : a ≤ b) : x.natAbs < 2 ^ b := Nat.lt_of_lt_of_le hx (pow_le h)
theorem abs_add {x y : Int} {a : Nat} (hx : x.natAbs < 2 ^ a) (hy : y.natAbs < 2 ^ a) : (x + y).natAbs < 2 ^ (a + 1) := by
  rw [Nat.pow_succ]
  omega
theorem abs_sum : ∀ {l : List Int} {B : Nat}, (∀ x ∈ l, x.natAbs ≤ B) → l.sum.natAbs ≤ l.length * B
  | [], B, _ => by simp
  | x :: l, B, h => by
    have h1 := h x List.mem_cons_self
    have h2 := abs_sum (l := l) (B := B) fun y hy => h y (List.mem_cons_of_mem _ hy)
    rw [List.sum_cons, List.length_cons, Nat.add_mul, Nat.one_mul]
    omega
end Wd
set_option Elab.async false
set_option linter.all false
set_option maxRecDepth 100000
set_option maxHeartbeats 1000000
namespace T29
open PySem PySem.Spec PyProof.Rows L2 Gd Zn Rp Dn Tb Gn En Zs
def top (i : Nat) : Stmt := PySem.Challenge.pw_keptbowls_k29_whole_forms_led_about.main.body.getD i (.Pass ⟨0, 0, 0, 0⟩)
abbrev Small (x : Int) : Prop := Wd.Big x
structure Txt (mg : Str → Option Value) : Prop where
  isi : mg "isinstance" = none
  int : mg "int" = none
  bool : mg "bool" = none
  list : mg "list" = none
  tuple : mg "tuple" = none
  all : mg "all" = none
  sum : mg "sum" = none
  zip : mg "zip" = none
  len : mg "len" = none
  range : mg "range" = none
  repr : mg "repr" = none
  abs : mg "abs" = none
  max : mg "max" = none
  divmod : mg "divmod" = none
  dict : mg "dict" = none
  enum : mg "enumerate" = none
section
variable {P : Program} {w : World} {K : PySem.W.Frag} {mg : Str → Option Value} {base : Heap}
abbrev st_is_integer : Stmt := top 14
def sp_is_integer : Sp := fun vs H Q _ => ∃ v d, vs = [v] ∧ AnyV H v d ∧ ∀ H', Same H H' → Q (.bl (isIntD d)) H'
theorem sc_is_integer : FnScope ["value"] ["value"] (defScope st_is_integer) := ⟨rfl, rfl, rfl, by decide +kernel, rfl, by decide +kernel, by decide +kernel⟩
theorem ok_is_integer {f : Addr} {fd : FuncData} (F : Fun K "is_integer" "is_integer" st_is_integer f fd) (T : Txt mg) : FnOk P w K mg base CX0 1 f fd ["value"] sp_is_integer := by
  refine F.ok sc_is_integer (fun vs H Q E h => ?_) (fun cdv A outer s H vs Q E hr h => ?_)
  · obtain ⟨v, d, rfl, _⟩ := h
    rfl
  · obtain ⟨v, d, rfl, av, q⟩ := h
    refine ⟨_, pss_one (ps_ret (pe_and (pe_callB call_isi (by rfl) T.isi boot_isinstance (pa_cons (pv 0) (pa_cons (pe_bltn (v := .ty "int") (by rfl) T.int PyProof.Rows.boot_int rfl) pa_nil)))
      (pe_one (pe_not (pe_callB call_isi (by rfl) T.isi boot_isinstance (pa_cons (pv 0) (pa_cons (pe_bltn (v := .ty "bool") (by rfl) T.bool PyProof.Rows.boot_bool rfl) pa_nil))))))), ?_⟩
    refine ⟨_, rfl, v, .ty "int", _, _, _, rfl, .ty _, av.ty, kit_int K d, _, rfl, ?_⟩
    cases e : isIntD d || isBool d with
    | false =>
      refine iteF ?_
      have : isIntD d = false := by revert e; cases isIntD d <;> simp
      rw [← this]
      exact q H (Same.refl H)
    | true =>
      refine iteT ?_
      refine ⟨_, rfl, v, .ty "bool", _, _, _, rfl, .ty _, av.ty, kit_bool K d, _, rfl, ?_⟩
      have : (!isBool d) = isIntD d := by
        revert e
        cases d <;> simp [isIntD, isBool]
      rw [this]
      exact q H (Same.refl H)
abbrev st_is_list : Stmt := top 15
def sp_is_list : Sp := fun vs H Q _ => ∃ v d, vs = [v] ∧ AnyV H v d ∧ ∀ H', Same H H' → Q (.bl (isSeq d)) H'
theorem sc_is_list : FnScope ["value"] ["value"] (defScope st_is_list) := ⟨rfl, rfl, rfl, by decide +kernel, rfl, by decide +kernel, by decide +kernel⟩
theorem ok_is_list {f : Addr} {fd : FuncData} (F : Fun K "is_list" "is_list" st_is_list f fd) (T : Txt mg) : FnOk P w K mg base CX0 1 f fd ["value"] sp_is_list := by
  refine F.ok sc_is_list (fun vs H Q E h => ?_) (fun cdv A outer s H vs Q E hr h => ?_)
  · obtain ⟨v, d, rfl, _⟩ := h
    rfl
  · obtain ⟨v, d, rfl, av, q⟩ := h
    refine ⟨_, pss_one (ps_ret (pe_callB call_isiT (by rfl) T.isi boot_isinstance (pa_cons (pv 0) (pa_cons (pe_tup (pa_cons (pe_bltn (v := .ty "list") (by rfl) T.list PyProof.Rows.boot_list rfl) (pa_cons (pe_bltn (v := .ty "tuple") (by rfl) T.tuple PyProof.Rows.boot_tuple rfl) pa_nil))) pa_nil)))), ?_⟩
    refine ⟨_, rfl, (by show 2 ≤ sizeLine; decide), fun t ht => ?_⟩
    exact ⟨v, t, _, _, _, _, rfl, upd_same, .cons (.ty _) (.cons (.ty _) .nil), (av.mono (same_new ht)).ty, kit_seq K d, q _ (same_new ht)⟩
abbrev st_scalar : Stmt := top 26
def sp_scalar : Sp := fun vs H Q _ => ∃ (v o : V) (xs ys : List Int), vs = [v, o] ∧ SeqV H v (iD xs) ∧ SeqV H o (iD ys) ∧ xs.length = ys.length ∧ xs.length ≤ 100 ∧ (∀ x ∈ xs, Small x) ∧ (∀ y ∈ ys, Small y) ∧ ∀ H', Same H H' → Q (.int (dot xs ys)) H'
theorem sc_scalar : FnScope ["row", "other", "number", "factor"] ["row", "other"] (defScope st_scalar) := ⟨rfl, rfl, rfl, by decide +kernel, rfl, by decide +kernel, by decide +kernel⟩
theorem ok_scalar {f : Addr} {fd : FuncData} (F : Fun K "scalar" "scalar" st_scalar f fd) (T : Txt mg) : FnOk P w K mg base CX0 1 f fd ["row", "other"] sp_scalar := by
  refine F.ok sc_scalar (fun vs H Q E h => ?_) (fun cdv A outer s H vs Q E hr h => ?_)
  · obtain ⟨v, o, xs, ys, rfl, _⟩ := h
    rfl
  · obtain ⟨v, o, xs, ys, rfl, sx, sy, hl, hb, hsm, hsy, q⟩ := h
    refine ⟨_, pss_one (ps_ret (pe_callB (cr_sum rfl) (by rfl) T.sum boot_sum (pa_cons (pe_lc (own := [("number", 2), ("factor", 3)]) (g := gTup K 2 (gCons (gName 2) (gCons (gName 3) gNil))) (tt := tYes) rfl sc_scalar.nd (pi_zipn (by rfl) T.zip (pa_cons (pv 0) (pa_cons (pv 1) pa_nil)))
      (blkOk_by (N := ["row", "other", "number", "factor"]) (sc := defScope st_scalar) (by decide +kernel))
      (fun _ _ _ _ _ => pg_tup rfl (pgs_cons (pg_name (i := 2) sc_scalar.nd rfl (Or.inl rfl) (Or.inr rfl)) (pgs_cons (pg_name (i := 3) sc_scalar.nd rfl (Or.inl rfl) (Or.inr rfl)) pgs_nil)))
      (fun _ _ _ _ _ => pts_nil) (fun _ _ _ _ _ => pe_op op_mulX (pv 2) (pv 3))) pa_nil))), ?_⟩
    obtain ⟨t1, a, vx, rfl, qx, px⟩ := sx.at K
    obtain ⟨t2, b, vy, rfl, qy, py⟩ := sy.at K
    have ex := pyVs_ints px
    have ey := pyVs_ints py
    subst ex ey
    refine r_ret (r_cb (r_cons ?_))
    have sq : ∀ H2, Same H H2 → AllSq K H2 [(t1, a), (t2, b)] := fun H2 s2 z hz => by
      rcases List.mem_cons.mp hz with rfl | hz
      · exact ⟨_, qx H2 s2⟩
      · rcases List.mem_cons.mp hz with rfl | hz
        · exact ⟨_, qy H2 s2⟩
        · cases hz
    refine tlc_of (Itn K [(t1, a), (t2, b)]) (H1 := H) (fun R hR => ⟨_, rfl, _, rfl, [(t1, a), (t2, b)], rfl, Nat.zero_lt_succ _, (by show 2 ≤ 3; decide), sq H (Same.refl H), hR⟩) ?_
    refine lc_el (p := none) xs.length (fun i v => ∃ x y, xs[i]? = some x ∧ ys[i]? = some y ∧ v = .int (x * y)) has_none (by omega) (fun i H2 hi s2 => ?_) (fun H2 s2 => ?_) (fun i x H2 H3 C hi s2 _ hy hC => ?_) fun D H2 rs nD s2 hD hrl hE => ?_
    · exact ⟨[.int xs[i], .int (ys[i]'(by omega))], row2 (qx H2 s2.same) (by simp [hi]) (qy H2 s2.same) (by simp [(by omega : i < ys.length)])⟩
    · exact ⟨sq H2 s2.same, (t1, a), List.mem_cons_self, _, qx H2 s2.same, by simp⟩
    · have hi2 : i < ys.length := by omega
      obtain ⟨T2, zs, rfl, nT, rfl, hu⟩ := hy
      have ez : zs = [.int xs[i], .int ys[i]] := (hu _ (row2 (qx H2 s2.same) (by simp [hi]) (qy H2 s2.same) (by simp [hi2]))).symm
      subst ez
      refine ⟨T2, _, rfl, .inl (.inl upd_same), rfl, _, _, rfl, _, _, rfl, rfl, rfl, ?_⟩
      exact ⟨_, rfl, _, rfl, _, _, rfl, rfl, Wd.mul (hsm _ (List.getElem_mem hi)) (hsy _ (List.getElem_mem hi2)), hC _ _ (RX.new nT) ⟨_, _, List.getElem?_eq_getElem hi, List.getElem?_eq_getElem hi2, rfl⟩⟩
    · have er : rs = (xs.zip ys).map fun (p : Int × Int) => V.int (p.1 * p.2) := map_of_get (n := 0) _ (by simp [hrl, hl]) fun i v e => by
        obtain ⟨x, y, e1, e2, e3⟩ := hE i v e
        exact ⟨(x, y), by rw [List.getElem?_zip_eq_some]; exact ⟨e1, e2⟩, e3⟩
      refine ⟨D, (xs.zip ys).map (fun (p : Int × Int) => p.1 * p.2), rfl, .inl (.inl ?_), q H2 s2.same⟩
      rw [hD, er, List.map_map]
      rfl
end
end T29
set_option Elab.async false
set_option linter.all false
set_option maxRecDepth 100000
set_option maxHeartbeats 1000000
namespace T29
open PySem PySem.Spec PyProof.Rows L2 Gd Zn Rp Dn Tb Gn En Zs
section
variable {P : Program} {w : World} {K : PySem.W.Frag} {mg : Str → Option Value} {base : Heap}
abbrev st_is_row : Stmt := top 17
def rowB (d : PyData) : Bool := isSeq d && (decide (1 ≤ (items d).length) && decide ((items d).length ≤ 3)) && (items d).all isIntD
def sp_is_row : Sp := fun vs H Q _ => ∃ v d, vs = [v] ∧ AnyV H v d ∧ (items d).length ≤ 200 ∧ ∀ H', Same H H' → Q (.bl (rowB d)) H'
theorem sc_is_row : FnScope ["value", "number"] ["value"] (defScope st_is_row) := ⟨rfl, rfl, rfl, by decide +kernel, rfl, by decide +kernel, by decide +kernel⟩
theorem ok_is_row {f : Addr} {fd : FuncData} (F : Fun K "is_row" "is_row" st_is_row f fd) (T : Txt mg) (D1 : Def P w K mg base "is_list" 1 ["value"] sp_is_list) (D2 : Def P w K mg base "is_integer" 1 ["value"] sp_is_integer) :
    FnOk P w K mg base CX0 2 f fd ["value"] sp_is_row := by
  refine F.ok sc_is_row (fun vs H Q E h => ?_) (fun cdv A outer s H vs Q E hr h => ?_)
  · obtain ⟨v, d, rfl, _⟩ := h
    rfl
  · obtain ⟨v, d, rfl, av, hb, q⟩ := h
    refine ⟨_, pss_one (ps_ret (pe_and (pe_def D1 hr (pa_cons (pv 0) pa_nil))
      (pe_and (pe_chain op_le op_le pe_int (pe_callB (r := Dn.rLen K) c_len (by rfl) T.len PySem.boot_len (pa_cons (pv 0) pa_nil)) pe_int)
      (pe_one (pe_callB (cr_all rfl) (by rfl) T.all boot_all (pa_cons (pe_lc (own := [("number", 1)]) (g := gName 1) (tt := tYes) rfl sc_is_row.nd (pi_seq (pv 0))
        (blkOk_by (N := ["value", "number"]) (sc := defScope st_is_row) (by decide +kernel))
        (fun _ _ _ _ _ => pg_name (i := 1) sc_is_row.nd rfl (Or.inl rfl) (Or.inr rfl)) (fun _ _ _ _ _ => pts_nil) (fun _ _ _ _ _ => pe_def (X := Cx.blk _ _ _ _ _ _) D2 hr (pa_cons (pv 1) pa_nil))) pa_nil)))))), ?_⟩
    refine ⟨_, rfl, v, d, rfl, av, fun H1 s1 => ⟨_, rfl, ?_⟩⟩
    cases e1 : isSeq d with
    | false =>
      refine iteF ?_
      have : rowB d = false := by unfold rowB; rw [e1]; rfl
      rw [← this]
      exact q H1 s1
    | true =>
      refine iteT ?_
      obtain ⟨t, a, vx, rfl, qx, px⟩ := (seq_of av e1).at K
      have hvl : vx.length = (items d).length := pyVs_len px
      have bad : (decide (1 ≤ (items d).length) && decide ((items d).length ≤ 3)) = false → Q (.bl false) H1 := fun z => by
        have : rowB d = false := by unfold rowB; rw [z, Bool.and_false]; rfl
        rw [← this]
        exact q H1 s1
      refine ⟨_, rfl, a, vx, rfl, sq_or (qx H1 s1), _, _, rfl, rfl, _, rfl, ?_⟩
      cases e2 : decide ((1 : Int) ≤ (vx.length : Int)) with
      | false =>
        refine iteF ⟨_, rfl, iteF ?_⟩
        refine bad ?_
        rw [decide_eq_false_iff_not] at e2
        rw [decide_eq_false (by omega)]
        rfl
      | true =>
        rw [decide_eq_true_eq] at e2
        refine iteT ⟨_, _, rfl, rfl, _, rfl, ?_⟩
        cases e3 : decide ((vx.length : Int) ≤ 3) with
        | false =>
          refine iteF ?_
          refine bad ?_
          rw [decide_eq_false_iff_not] at e3
          rw [decide_eq_false (show ¬ (items d).length ≤ 3 by omega), Bool.and_false]
        | true =>
          rw [decide_eq_true_eq] at e3
          refine iteT ?_
          refine r_cb (r_cons ?_)
          refine tlc_of (Its t K a) (H1 := H1) (fun R hR => ⟨_, rfl, t, a, vx, rfl, qx H1 s1, hR⟩) ?_
          refine lc_el (p := none) vx.length (fun i v => ∃ d', (items d)[i]? = some d' ∧ v = .bl (isIntD d')) has_none (by omega) (fun i H2 hi s2 => ?_) (fun H2 s2 => ?_) (fun i x H2 H3 C hi s2 _ hy hC => ?_) fun Da H2 rs nD s2 hD hrl hE => ?_
          · exact its_go (qx H2 (s1.trans s2.same)) (List.getElem?_eq_getElem hi)
          · exact its_stop (qx H2 (s1.trans s2.same)) (Nat.le_refl _)
          · obtain ⟨rfl, ex⟩ := its_yld hy (qx H2 (s1.trans s2.same))
            obtain ⟨d', ed, pd⟩ := pyVs_get px ex
            refine ⟨rfl, ?_⟩
            exact ⟨_, rfl, x, d', rfl, .inl (PyV.mono (s1.trans s2.same) pd), fun H4 s4 => hC _ _ (RX.of s4) ⟨d', ed, rfl⟩⟩
          · have er : rs = (items d).map fun d' => V.bl (isIntD d') := map_of_get (n := 0) _ (by rw [hrl, hvl]) hE
            refine ⟨Da, (items d).map isIntD, rfl, .inl (.inl ?_), ?_⟩
            · rw [hD, er, List.map_map]
              rfl
            · have : rowB d = ((items d).map isIntD).all id := by
                unfold rowB
                rw [e1, decide_eq_true (show 1 ≤ (items d).length by omega), decide_eq_true (show (items d).length ≤ 3 by omega), List.all_map]
                rfl
              rw [← this]
              exact q H2 (s1.trans s2.same)
end
end T29
set_option Elab.async false
set_option linter.all false
set_option maxRecDepth 100000
set_option maxHeartbeats 1000000
namespace T29
open PySem PySem.Spec PyProof.Rows L2 Gd Zn Rp Dn Tb Gn En Zs
section
variable {P : Program} {w : World} {K : PySem.W.Frag} {mg : Str → Option Value} {base : Heap}
abbrev st_is_row_of : Stmt := top 18
def rowOfB (n : Nat) (d : PyData) : Bool := rowB d && decide ((items d).length = n)
def sp_is_row_of : Sp := fun vs H Q _ => ∃ v d, ∃ n : Nat, vs = [.int n, v] ∧ AnyV H v d ∧ (items d).length ≤ 200 ∧ ∀ H', Same H H' → Q (.bl (rowOfB n d)) H'
theorem sc_is_row_of : FnScope ["size", "value"] ["size", "value"] (defScope st_is_row_of) := ⟨rfl, rfl, rfl, by decide +kernel, rfl, by decide +kernel, by decide +kernel⟩
theorem ok_is_row_of {f : Addr} {fd : FuncData} (F : Fun K "is_row_of" "is_row_of" st_is_row_of f fd) (T : Txt mg) (D1 : Def P w K mg base "is_row" 2 ["value"] sp_is_row) :
    FnOk P w K mg base CX0 3 f fd ["size", "value"] sp_is_row_of := by
  refine F.ok sc_is_row_of (fun vs H Q E h => ?_) (fun cdv A outer s H vs Q E hr h => ?_)
  · obtain ⟨v, d, n, rfl, _⟩ := h
    rfl
  · obtain ⟨v, d, n, rfl, av, hb, q⟩ := h
    refine ⟨_, pss_one (ps_ret (pe_and (pe_def D1 hr (pa_cons (pv 1) pa_nil))
      (pe_one (pe_cmpR op_eq (pe_callB (r := Dn.rLen K) c_len (by rfl) T.len PySem.boot_len (pa_cons (pv 1) pa_nil)) (pv 0) (nomark _))))), ?_⟩
    refine ⟨_, rfl, v, d, rfl, av, hb, fun H1 s1 => ⟨_, rfl, ?_⟩⟩
    cases e1 : rowB d with
    | false =>
      refine iteF ?_
      have : rowOfB n d = false := by unfold rowOfB; rw [e1]; rfl
      rw [← this]
      exact q H1 s1
    | true =>
      refine iteT ?_
      have e2 : isSeq d = true := by
        unfold rowB at e1
        rw [Bool.and_eq_true, Bool.and_eq_true] at e1
        exact e1.1.1
      obtain ⟨t, a, vx, rfl, qx, px⟩ := (seq_of av e2).at K
      have hvl : vx.length = (items d).length := pyVs_len px
      refine ⟨_, rfl, a, vx, rfl, sq_or (qx H1 s1), _, rfl, rfl, ?_⟩
      have : decide (V.int (vx.length : Int) = V.int (n : Int)) = rowOfB n d := by
        unfold rowOfB
        rw [e1, Bool.true_and, ← hvl]
        by_cases z : vx.length = n
        · rw [z, decide_eq_true rfl, decide_eq_true rfl]
        · rw [decide_eq_false z, decide_eq_false (fun q => z (by have := V.int.inj q; omega))]
      show Q _ _
      rw [this]
      exact q H1 s1
abbrev st_is_grid : Stmt := top 21
def gridB (d : PyData) : Bool := isSeq d && (items d).all (rowOfB (items d).length) && decide (0 < (items d).length)
def sp_is_grid : Sp := fun vs H Q _ => ∃ v d, vs = [v] ∧ AnyV H v d ∧ (items d).length ≤ 200 ∧ (∀ r ∈ items d, (items r).length ≤ 200) ∧ ∀ H', Same H H' → Q (.bl (gridB d)) H'
theorem sc_is_grid : FnScope ["value", "row"] ["value"] (defScope st_is_grid) := ⟨rfl, rfl, rfl, by decide +kernel, rfl, by decide +kernel, by decide +kernel⟩
theorem ok_is_grid {f : Addr} {fd : FuncData} (F : Fun K "is_grid" "is_grid" st_is_grid f fd) (T : Txt mg) (D1 : Def P w K mg base "is_list" 1 ["value"] sp_is_list) (D2 : Def P w K mg base "is_row_of" 3 ["size", "value"] sp_is_row_of) :
    FnOk P w K mg base CX0 4 f fd ["value"] sp_is_grid := by
  refine F.ok sc_is_grid (fun vs H Q E h => ?_) (fun cdv A outer s H vs Q E hr h => ?_)
  · obtain ⟨v, d, rfl, _⟩ := h
    rfl
  · obtain ⟨v, d, rfl, av, hb, hbs, q⟩ := h
    refine ⟨_, pss_one (ps_ret (pe_and (pe_def D1 hr (pa_cons (pv 0) pa_nil))
      (pe_and (pe_callB (cr_all rfl) (by rfl) T.all boot_all (pa_cons (pe_lc (own := [("row", 1)]) (g := gName 1) (tt := tYes) rfl sc_is_grid.nd (pi_seq (pv 0))
        (blkOk_by (N := ["value", "row"]) (sc := defScope st_is_grid) (by decide +kernel))
        (fun _ _ _ _ _ => pg_name (i := 1) sc_is_grid.nd rfl (Or.inl rfl) (Or.inr rfl)) (fun _ _ _ _ _ => pts_nil)
        (fun _ _ _ _ _ => pe_def (X := Cx.blk _ _ _ _ _ _) D2 hr (pa_cons (pe_callB (r := Dn.rLen K) c_len (by rfl) T.len PySem.boot_len (pa_cons (pv 0) pa_nil)) (pa_cons (pv 1) pa_nil)))) pa_nil))
      (pe_one (pe_cmpR op_gt (pe_callB (r := Dn.rLen K) c_len (by rfl) T.len PySem.boot_len (pa_cons (pv 0) pa_nil)) pe_int (nomark _)))))), ?_⟩
    refine ⟨_, rfl, v, d, rfl, av, fun H1 s1 => ⟨_, rfl, ?_⟩⟩
    cases e1 : isSeq d with
    | false =>
      refine iteF ?_
      have : gridB d = false := by unfold gridB; rw [e1]; rfl
      rw [← this]
      exact q H1 s1
    | true =>
      refine iteT ?_
      obtain ⟨t, a, vx, rfl, qx, px⟩ := (seq_of av e1).at K
      have hvl : vx.length = (items d).length := pyVs_len px
      refine r_cb (r_cons ?_)
      refine tlc_of (Its t K a) (H1 := H1) (fun R hR => ⟨_, rfl, t, a, vx, rfl, qx H1 s1, hR⟩) ?_
      refine lc_el (p := none) vx.length (fun i v => ∃ d', (items d)[i]? = some d' ∧ v = .bl (rowOfB (items d).length d')) has_none (by omega) (fun i H2 hi s2 => ?_) (fun H2 s2 => ?_) (fun i x H2 H3 C hi s2 _ hy hC => ?_) fun Da H2 rs nD s2 hD hrl hE => ?_
      · exact its_go (qx H2 (s1.trans s2.same)) (List.getElem?_eq_getElem hi)
      · exact its_stop (qx H2 (s1.trans s2.same)) (Nat.le_refl _)
      · obtain ⟨rfl, ex⟩ := its_yld hy (qx H2 (s1.trans s2.same))
        obtain ⟨d', ed, pd⟩ := pyVs_get px ex
        refine ⟨rfl, ?_⟩
        refine ⟨_, rfl, a, vx, rfl, sq_or (qx _ (s1.trans s2.same)), _, rfl, x, d', (items d).length, by rw [hvl]; rfl, .inl (PyV.mono (s1.trans s2.same) pd), hbs d' (List.mem_of_getElem? ed), fun H4 s4 => hC _ _ (RX.of s4) ⟨d', ed, rfl⟩⟩
      · have er : rs = (items d).map fun d' => V.bl (rowOfB (items d).length d') := map_of_get (n := 0) _ (by rw [hrl, hvl]) hE
        refine ⟨Da, (items d).map (rowOfB (items d).length), rfl, .inl (.inl (by rw [hD, er, List.map_map]; rfl)), _, rfl, ?_⟩
        have ea : ((items d).map (rowOfB (items d).length)).all id = (items d).all (rowOfB (items d).length) := by rw [List.all_map]; rfl
        rw [ea]
        cases e2 : (items d).all (rowOfB (items d).length) with
        | false =>
          refine iteF ?_
          have : gridB d = false := by unfold gridB; rw [e2, Bool.and_false]; rfl
          rw [← this]
          exact q H2 (s1.trans s2.same)
        | true =>
          refine iteT ?_
          refine ⟨_, rfl, a, vx, rfl, sq_or (qx H2 (s1.trans s2.same)), _, _, rfl, rfl, ?_⟩
          have : decide ((vx.length : Int) > 0) = gridB d := by
            unfold gridB
            rw [e1, e2, ← hvl]
            by_cases z : 0 < vx.length
            · rw [decide_eq_true (show (vx.length : Int) > 0 by omega), decide_eq_true z]; rfl
            · rw [decide_eq_false (show ¬ (vx.length : Int) > 0 by omega), decide_eq_false z]; rfl
          show Q (.bl (decide ((vx.length : Int) > 0))) _
          rw [this]
          exact q H2 (s1.trans s2.same)
end
end T29
set_option Elab.async false
set_option linter.all false
set_option maxRecDepth 100000
set_option maxHeartbeats 1000000
namespace T29
open PySem PySem.Spec PyProof.Rows L2 Gd Zn Rp Dn Tb Gn En Zs
def GridD (d : PyData) (M : List (List Int)) : Prop := isSeq d = true ∧ (items d).length = M.length ∧ ∀ (i : Nat) (d' : PyData), (items d)[i]? = some d' → ∃ r, M[i]? = some r ∧ (d' = .list (iD r) ∨ d' = .tuple (iD r))
theorem grid_mx (M : List (List Int)) : GridD (mxD M) M := by
  refine ⟨rfl, ?_, fun i d' e => ?_⟩
  · show (M.map _).length = _
    rw [List.length_map]
  · have e : (M.map fun r => PyData.tuple (r.map PyData.int))[i]? = some d' := e
    rw [List.getElem?_map] at e
    cases h : M[i]? with
    | none => rw [h] at e; cases e
    | some r =>
      rw [h] at e
      cases e
      exact ⟨r, rfl, .inr rfl⟩
theorem RowV.sq {K : PySem.W.Frag} {H : Hp} {v : V} {r : List Int} (h : RowV H v r) : ∃ b, v = .ref b ∧ SqV K H true b (r.map V.int) := by
  obtain ⟨b, e, h⟩ := h
  exact ⟨b, e, .inl (.inl h)⟩
theorem RowV.seq {H : Hp} {v : V} {r : List Int} (h : RowV H v r) : SeqV H v (iD r) := .inr h.py
/-- the columns -/
theorem row_all {K : PySem.W.Frag} {H : Hp} {j m : Nat} (hj : j < m) : ∀ {src : List (Bool × Addr)} {M : List (List Int)}, RowsV H (kRefs src) M → (∀ q ∈ src, q.1 = true) → (∀ r ∈ M, r.length = m) → RowAt K H j src (M.map fun r => .int (r.getD j 0))
  | [], _, .nil, _, _ => trivial
  | (t, a) :: src, r :: M, .cons p q, ht, hm => by
    have e : t = true := ht _ List.mem_cons_self
    subst e
    obtain ⟨b, eb, hb⟩ := p
    cases eb
    have hr : j < r.length := by rw [hm r List.mem_cons_self]; exact hj
    refine ⟨⟨r.map V.int, .inl (.inl hb), ?_⟩, row_all hj q (fun q hq => ht q (List.mem_cons_of_mem _ hq)) fun r hr => hm r (List.mem_cons_of_mem _ hr)⟩
    show _ = some (V.int (r.getD j 0))
    rw [List.getElem?_map, List.getElem?_eq_getElem hr, List.getD_eq_getElem?_getD, List.getElem?_eq_getElem hr]
    rfl
theorem all_sq {K : PySem.W.Frag} {H : Hp} : ∀ {src : List (Bool × Addr)} {M : List (List Int)}, RowsV H (kRefs src) M → (∀ q ∈ src, q.1 = true) → AllSq K H src
  | [], _, _, _ => fun q hq => by cases hq
  | (t, a) :: src, r :: M, .cons p q, ht => fun z hz => by
    have e : t = true := ht _ List.mem_cons_self
    subst e
    obtain ⟨b, eb, hb⟩ := p
    cases eb
    rcases List.mem_cons.mp hz with rfl | hz
    · exact ⟨_, .inl (.inl hb)⟩
    · exact all_sq q (fun q hq => ht q (List.mem_cons_of_mem _ hq)) z hz
theorem rows_src {H : Hp} {vs : List V} {M : List (List Int)} (h : RowsV H vs M) : ∃ src : List (Bool × Addr), vs = kRefs src ∧ ∀ q ∈ src, q.1 = true := by
  induction h with
  | nil => exact ⟨[], rfl, fun q hq => by cases hq⟩
  | cons p _ ih =>
    obtain ⟨src, e, h⟩ := ih
    obtain ⟨b, rfl, _⟩ := p
    refine ⟨(true, b) :: src, by rw [e]; rfl, fun q hq => ?_⟩
    rcases List.mem_cons.mp hq with rfl | hq
    · rfl
    · exact h q hq
section
variable {P : Program} {w : World} {K : PySem.W.Frag} {mg : Str → Option Value} {base : Heap}
abbrev st_copied : Stmt := top 23
def sp_copied : Sp := fun vs H Q _ => ∃ v d M, vs = [v] ∧ AnyV H v d ∧ GridD d M ∧ M.length ≤ 100 ∧ ∀ v' H', Same H H' → Mx H' v' M → Q v' H'
theorem sc_copied : FnScope ["rows", "row"] ["rows"] (defScope st_copied) := ⟨rfl, rfl, rfl, by decide +kernel, rfl, by decide +kernel, by decide +kernel⟩
theorem ok_copied {f : Addr} {fd : FuncData} (F : Fun K "copied" "copied" st_copied f fd) (T : Txt mg) : FnOk P w K mg base CX0 1 f fd ["rows"] sp_copied := by
  refine F.ok sc_copied (fun vs H Q E h => ?_) (fun cdv A outer s H vs Q E hr h => ?_)
  · obtain ⟨v, d, M, rfl, _⟩ := h
    rfl
  · obtain ⟨v, d, M, rfl, av, ⟨g1, g2, g3⟩, hb, q⟩ := h
    refine ⟨_, pss_one (ps_ret (pe_callTy (r := rTup K) c_tup (by rfl) T.tuple PyProof.Rows.boot_tuple (pa_cons (pe_lc (own := [("row", 1)]) (g := gName 1) (tt := tYes) rfl sc_copied.nd (pi_seq (pv 0))
        (blkOk_by (N := ["rows", "row"]) (sc := defScope st_copied) (by decide +kernel))
        (fun _ _ _ _ _ => pg_name (i := 1) sc_copied.nd rfl (Or.inl rfl) (Or.inr rfl)) (fun _ _ _ _ _ => pts_nil)
        (fun _ _ _ _ _ => pe_callTy (r := rTup K) c_tup (by rfl) T.tuple PyProof.Rows.boot_tuple (pa_cons (pv 1) pa_nil))) pa_nil))), ?_⟩
    obtain ⟨t, a, vx, rfl, qx, px⟩ := (seq_of av g1).at K
    have hvl : vx.length = M.length := by rw [pyVs_len px]; exact g2
    refine r_ret (r_cb (r_cons ?_))
    refine tlc_of (Its t K a) (H1 := H) (fun R hR => ⟨_, rfl, t, a, vx, rfl, qx H (Same.refl H), hR⟩) ?_
    refine lc_ks (p := none) M.length (fun i v H => ∃ r, M[i]? = some r ∧ RowV H v r) (fun i v H H' k h => ?_) has_none (by omega) (fun i H2 hi s2 => ?_) (fun H2 s2 => ?_) (fun i x H2 H3 C hi s2 _ hy hC => ?_) fun Da H2 rs nD s2 hD hrl hE => ?_
    · obtain ⟨r, e, h⟩ := h
      exact ⟨r, e, h.mono k⟩
    · exact its_go (qx H2 s2.same) (List.getElem?_eq_getElem (by rw [hvl]; exact hi))
    · exact its_stop (qx H2 s2.same) (by rw [hvl]; exact Nat.le_refl _)
    · obtain ⟨rfl, ex⟩ := its_yld hy (qx H2 s2.same)
      obtain ⟨d', ed, pd⟩ := pyVs_get px ex
      obtain ⟨r, er, hd⟩ := g3 i d' ed
      refine ⟨rfl, ?_⟩
      refine r_cb (r_cons ?_)
      refine ⟨_, rfl, ?_⟩
      rcases hd with rfl | rfl
      · cases pd with
        | lst e p =>
          have ez := pyVs_ints p
          subst ez
          exact ⟨_, _, rfl, .inl ⟨.inl (.inl (s2.same _ _ e)), fun l nl => hC _ _ (RX.new nl) ⟨r, er, l, rfl, upd_same⟩⟩⟩
      · cases pd with
        | tup e p =>
          have ez := pyVs_ints p
          subst ez
          exact ⟨_, _, rfl, .inr ⟨.inl (.inl (s2.same _ _ e)), hC _ _ (RX.refl _) ⟨r, er, _, rfl, s2.same _ _ e⟩⟩⟩
    · refine ⟨Da, rs, rfl, .inl ⟨.inl (.inl hD), fun l nl => ?_⟩⟩
      have k : Same H2 (upd H2 l (.tup rs)) := same_new nl
      refine q _ _ (s2.same.trans k) ⟨l, rs, rfl, upd_same, ?_⟩
      exact (rows_of hrl hE).mono (KS.of k)
abbrev st_across : Stmt := top 25
def sp_across : Sp := fun vs H Q _ => ∃ v M m, vs = [v] ∧ Mx H v M ∧ 0 < M.length ∧ M.length ≤ 3 ∧ m ≤ 100 ∧ (∀ r ∈ M, r.length = m) ∧ ∀ v' H', Same H H' → Mx H' v' (transp m M) → Q v' H'
theorem sc_across : FnScope ["rows", "column"] ["rows"] (defScope st_across) := ⟨rfl, rfl, rfl, by decide +kernel, rfl, by decide +kernel, by decide +kernel⟩
theorem transp_get {m j : Nat} {M : List (List Int)} (h : j < m) : (transp m M)[j]? = some (M.map fun r => r.getD j 0) := by
  unfold transp
  rw [List.getElem?_map, List.getElem?_range h]
  rfl
theorem transp_len {m : Nat} {M : List (List Int)} : (transp m M).length = m := by
  unfold transp
  rw [List.length_map, List.length_range]
theorem ok_across {f : Addr} {fd : FuncData} (F : Fun K "across" "across" st_across f fd) (T : Txt mg) : FnOk P w K mg base CX0 1 f fd ["rows"] sp_across := by
  refine F.ok sc_across (fun vs H Q E h => ?_) (fun cdv A outer s H vs Q E hr h => ?_)
  · obtain ⟨v, M, m, rfl, _⟩ := h
    rfl
  · obtain ⟨v, M, m, rfl, ⟨a, vx, rfl, ha, hR⟩, h0, h3, hm, hM, q⟩ := h
    refine ⟨_, pss_one (ps_ret (pe_callTy (r := rTup K) c_tup (by rfl) T.tuple PyProof.Rows.boot_tuple (pa_cons (pe_lc (own := [("column", 1)]) (g := gName 1) (tt := tYes) rfl sc_across.nd (pi_zipStar (by rfl) T.zip (pv 0))
        (blkOk_by (N := ["rows", "column"]) (sc := defScope st_across) (by decide +kernel))
        (fun _ _ _ _ _ => pg_name (i := 1) sc_across.nd rfl (Or.inl rfl) (Or.inr rfl)) (fun _ _ _ _ _ => pts_nil)
        (fun _ _ _ _ _ => pe_callTy (r := rTup K) c_tup (by rfl) T.tuple PyProof.Rows.boot_tuple (pa_cons (pv 1) pa_nil))) pa_nil))), ?_⟩
    obtain ⟨src, rfl, hs⟩ := rows_src hR
    have hsl : src.length = M.length := by
      have := hR.len
      unfold kRefs at this
      rw [List.length_map] at this
      exact this
    refine r_ret (r_cb (r_cons ?_))
    refine tlc_of (Itn K src) (H1 := H) (fun R hR' => ⟨_, rfl, a, src, rfl, .inl (.inl (.inl ha)), by omega, by omega, all_sq hR hs, hR'⟩) ?_
    refine lc_ks (p := none) m (fun i v H => ∃ r, (transp m M)[i]? = some r ∧ RowV H v r) (fun i v H H' k h => ?_) has_none (by omega) (fun i H2 hi s2 => ?_) (fun H2 s2 => ?_) (fun i x H2 H3 C hi s2 _ hy hC => ?_) fun Da H2 rs nD s2 hD hrl hE => ?_
    · obtain ⟨r, e, h⟩ := h
      exact ⟨r, e, h.mono k⟩
    · exact ⟨_, row_all hi (hR.mono (KS.of s2.same)) hs hM⟩
    · refine ⟨all_sq (hR.mono (KS.of s2.same)) hs, ?_⟩
      cases src with
      | nil => rw [List.length_nil] at hsl; omega
      | cons q src =>
        obtain ⟨t, b⟩ := q
        cases M with
        | nil => rw [List.length_nil] at h0; omega
        | cons r M =>
          cases hR with
          | cons p _ =>
            obtain ⟨b', eb, hb⟩ := p
            cases eb
            have e : t = true := hs _ List.mem_cons_self
            subst e
            exact ⟨_, List.mem_cons_self, _, .inl (.inl (s2.same _ _ hb)), by rw [List.length_map, hM r List.mem_cons_self]; exact Nat.le_refl _⟩
    · obtain ⟨T2, ys, rfl, nT, rfl, hu⟩ := hy
      have ey := (hu _ (row_all hi (hR.mono (KS.of s2.same)) hs hM)).symm
      subst ey
      refine ⟨rfl, ?_⟩
      refine r_cb (r_cons ?_)
      refine ⟨_, rfl, ?_⟩
      refine ⟨T2, _, rfl, .inr ⟨.inl (.inl upd_same), hC _ _ (RX.new nT) ⟨_, transp_get hi, T2, rfl, ?_⟩⟩⟩
      rw [upd_same, List.map_map]
      rfl
    · refine ⟨Da, rs, rfl, .inl ⟨.inl (.inl hD), fun l nl => ?_⟩⟩
      have k : Same H2 (upd H2 l (.tup rs)) := same_new nl
      refine q _ _ (s2.same.trans k) ⟨l, rs, rfl, upd_same, ?_⟩
      exact (rows_of (by rw [hrl, transp_len]) hE).mono (KS.of k)
end
end T29
set_option Elab.async false
set_option linter.all false
set_option maxRecDepth 100000
set_option maxHeartbeats 1000000
namespace Ct
open PySem PySem.Spec PyProof.Rows L2 Gd Zn Rp Dn Tb
section
variable {X : Cx}
theorem op_catT0 : OpR X (binaryOp .Add) (fun x y H Q => ∃ a b ys, x = .ref a ∧ y = .ref b ∧ SqT X.K H a [] ∧ SqT X.K H b ys ∧ Q (.ref b) H) := by
  intro pins s σ H x y v u Q I rx ry h
  obtain ⟨a, b, ys, rfl, rfl, ha, hb, q⟩ := h
  cases (show v = Value.ref a from rx)
  cases (show u = Value.ref b from ry)
  obtain ⟨i1, r1, ⟨o1, g1, c1, n1, d1⟩, _⟩ := I.tuple ha
  obtain ⟨i2, r2, ⟨o2, g2, c2, n2, d2⟩, _⟩ := I.tuple hb
  obtain ⟨oc1, od1, odt1, os1⟩ := o1
  obtain ⟨oc2, od2, odt2, os2⟩ := o2
  subst c1 c2
  have e1 : odt1 = .seq i1.toArray n1 := d1
  have e2 : odt2 = .seq i2.toArray n2 := d2
  subst e1 e2
  have z : i1 = [] := by cases r1; rfl
  subst z
  refine concat_meets (T := "tuple") ⟨_, g1, rfl⟩ ⟨_, g2, rfl⟩ noFill_tuple_add seq_tuple_add F.slot_tuple_add F.entry_tuple_add (F.args_tuple_add_2 _ _) (tuple_addW0 a b _ _ n1 n2 _ _ _ _ rfl) ⟨g1, g2, ?_⟩
  exact ⟨.ref b, H, I, rfl, q⟩
def rCat (x y : V) (H : Hp) (Q : VK) : Prop := ∃ a b xs ys, x = .ref a ∧ y = .ref b ∧ H a = some (.tup xs) ∧ H b = some (.tup ys) ∧ xs.length + ys.length ≤ 1000 ∧ ∀ c H', Same H H' → H' c = some (.tup (xs ++ ys)) → Q (.ref c) H'
theorem op_cat3 : OpR X (binaryOp .Add) rCat := by
  intro pins s σ H x y v u Q I rx ry h
  obtain ⟨a, b, xs, ys, rfl, rfl, ha, hb, hl, q⟩ := h
  cases xs with
  | nil => exact op_catT0 pins s σ H _ _ v u Q I rx ry ⟨a, b, ys, rfl, rfl, .inl (.inl ha), .inl (.inl hb), q b H (Same.refl H) hb⟩
  | cons x0 xs =>
    refine op_catT pins s σ H _ _ v u Q I rx ry ⟨a, b, x0 :: xs, ys, rfl, rfl, .inl (.inl ha), .inl (.inl hb), List.cons_ne_nil _ _, Nat.le_trans hl (by decide), fun e => ?_, fun e p hp => ?_⟩
    · subst e
      exact q a H (Same.refl H) (by rw [List.append_nil]; exact ha)
    · exact q p _ (same_new hp) upd_same
end
end Ct
set_option Elab.async false
set_option linter.all false
set_option maxRecDepth 100000
set_option maxHeartbeats 1000000
namespace T29
open PySem PySem.Spec PyProof.Rows L2 Gd Zn Rp Dn Tb Gn En Zs Ct
def ledM (M : List (List Int)) (xs : List Int) : List Int := M.map fun r => dot r xs
def mulM (n : Nat) (M N : List (List Int)) : List (List Int) := M.map fun r => ledM (transp n N) r
section
variable {P : Program} {w : World} {K : PySem.W.Frag} {mg : Str → Option Value} {base : Heap}
abbrev st_led_row : Stmt := top 27
def sp_led_row : Sp := fun vs H Q _ => ∃ v o M xs, vs = [v, o] ∧ Mx H v M ∧ SeqV H o (iD xs) ∧ M.length ≤ 100 ∧ xs.length ≤ 100 ∧ (∀ x ∈ xs, Small x) ∧ (∀ r ∈ M, r.length = xs.length ∧ ∀ x ∈ r, Small x) ∧ ∀ v' H', Same H H' → RowV H' v' (ledM M xs) → Q v' H'
theorem sc_led_row : FnScope ["rows", "row", "line"] ["rows", "row"] (defScope st_led_row) := ⟨rfl, rfl, rfl, by decide +kernel, rfl, by decide +kernel, by decide +kernel⟩
theorem ok_led_row {f : Addr} {fd : FuncData} (F : Fun K "led_row" "led_row" st_led_row f fd) (T : Txt mg) (D1 : Def P w K mg base "scalar" 1 ["row", "other"] sp_scalar) : FnOk P w K mg base CX0 2 f fd ["rows", "row"] sp_led_row := by
  refine F.ok sc_led_row (fun vs H Q E h => ?_) (fun cdv A outer s H vs Q E hr h => ?_)
  · obtain ⟨v, o, M, xs, rfl, _⟩ := h
    rfl
  · obtain ⟨v, o, M, xs, rfl, ⟨a, vx, rfl, ha, hR⟩, hx, hM, hxl, hsx, hsm, q⟩ := h
    refine ⟨_, pss_one (ps_ret (pe_callTy (r := rTup K) c_tup (by rfl) T.tuple PyProof.Rows.boot_tuple (pa_cons (pe_lc (own := [("line", 2)]) (g := gName 2) (tt := tYes) rfl sc_led_row.nd (pi_seq (pv 0))
        (blkOk_by (N := ["rows", "row", "line"]) (sc := defScope st_led_row) (by decide +kernel))
        (fun _ _ _ _ _ => pg_name (i := 2) sc_led_row.nd rfl (Or.inl rfl) (Or.inr rfl)) (fun _ _ _ _ _ => pts_nil)
        (fun _ _ _ _ _ => pe_def (X := Cx.blk _ _ _ _ _ _) D1 hr (pa_cons (pv 2) (pa_cons (pv 1) pa_nil)))) pa_nil))), ?_⟩
    have hvl : vx.length = M.length := hR.len
    have qx : ∀ H', Same H H' → SqV K H' true a vx := fun H' s => .inl (.inl (s _ _ ha))
    refine r_ret (r_cb (r_cons ?_))
    refine tlc_of (Its true K a) (H1 := H) (fun R hR => ⟨_, rfl, true, a, vx, rfl, qx H (Same.refl H), hR⟩) ?_
    refine lc_el (p := none) M.length (fun i v => ∃ r, M[i]? = some r ∧ v = .int (dot r xs)) has_none (by omega) (fun i H2 hi s2 => ?_) (fun H2 s2 => ?_) (fun i x H2 H3 C hi s2 _ hy hC => ?_) fun Da H2 rs nD s2 hD hrl hE => ?_
    · exact its_go (qx H2 s2.same) (List.getElem?_eq_getElem (by rw [hvl]; exact hi))
    · exact its_stop (qx H2 s2.same) (by rw [hvl]; exact Nat.le_refl _)
    · obtain ⟨rfl, ex⟩ := its_yld hy (qx H2 s2.same)
      obtain ⟨r, er, hr'⟩ := hR.get ex
      obtain ⟨l1, l2⟩ := hsm r (List.mem_of_getElem? er)
      refine ⟨rfl, ?_⟩
      refine ⟨_, rfl, _, rfl, x, o, r, xs, rfl, T29.RowV.seq (hr'.mono (KS.of s2.same)), SeqV.mono s2.same hx, l1, by omega, l2, hsx, fun H4 s4 => hC _ _ (RX.of s4) ⟨r, er, rfl⟩⟩
    · have er : rs = M.map fun r => V.int (dot r xs) := map_of_get (n := 0) _ hrl hE
      refine ⟨Da, rs, rfl, .inl ⟨.inl (.inl hD), fun l nl => ?_⟩⟩
      refine q _ _ (s2.same.trans (same_new nl)) ⟨l, rfl, ?_⟩
      rw [upd_same, er]
      unfold ledM
      rw [List.map_map]
      rfl
abbrev st_multiplied : Stmt := top 28
def sp_multiplied : Sp := fun vs H Q _ => ∃ v o M N, ∃ n : Nat, vs = [v, o] ∧ Mx H v M ∧ Mx H o N ∧ M.length ≤ 100 ∧ 0 < N.length ∧ N.length ≤ 3 ∧ n ≤ 100 ∧ (∀ r ∈ M, r.length = N.length ∧ ∀ x ∈ r, Small x) ∧ (∀ r ∈ N, r.length = n ∧ ∀ x ∈ r, Small x) ∧ ∀ v' H', Same H H' → Mx H' v' (mulM n M N) → Q v' H'
theorem sc_multiplied : FnScope ["rows", "others", "columns", "row"] ["rows", "others"] (defScope st_multiplied) := ⟨rfl, rfl, rfl, by decide +kernel, rfl, by decide +kernel, by decide +kernel⟩
theorem transp_mem {n : Nat} {N : List (List Int)} {c : List Int} (h : c ∈ transp n N) : ∃ j, j < n ∧ c = N.map fun r => r.getD j 0 := by
  unfold transp at h
  rw [List.mem_map] at h
  obtain ⟨j, hj, e⟩ := h
  exact ⟨j, List.mem_range.mp hj, e.symm⟩
theorem small_transp {n : Nat} {N : List (List Int)} (hN : ∀ r ∈ N, r.length = n ∧ ∀ x ∈ r, Small x) : ∀ c ∈ transp n N, c.length = N.length ∧ ∀ x ∈ c, Small x := fun c hc => by
  obtain ⟨j, hj, rfl⟩ := transp_mem hc
  refine ⟨List.length_map .., fun x hx => ?_⟩
  rw [List.mem_map] at hx
  obtain ⟨r, hr, rfl⟩ := hx
  obtain ⟨l1, l2⟩ := hN r hr
  have : j < r.length := by omega
  rw [List.getD_eq_getElem?_getD, List.getElem?_eq_getElem this]
  exact l2 _ (List.getElem_mem this)
theorem ok_multiplied {f : Addr} {fd : FuncData} (F : Fun K "multiplied" "multiplied" st_multiplied f fd) (T : Txt mg) (D1 : Def P w K mg base "across" 1 ["rows"] sp_across) (D2 : Def P w K mg base "led_row" 2 ["rows", "row"] sp_led_row) :
    FnOk P w K mg base CX0 3 f fd ["rows", "others"] sp_multiplied := by
  refine F.ok sc_multiplied (fun vs H Q E h => ?_) (fun cdv A outer s H vs Q E hr h => ?_)
  · obtain ⟨v, o, M, N, n, rfl, _⟩ := h
    rfl
  · obtain ⟨v, o, M, N, n, rfl, hMx, hN, hM, h0, h3, hn, hMr, hNr, q⟩ := h
    refine ⟨_, pss_cons (ps_set (i := 2) sc_multiplied.nd rfl (Or.inr rfl) (pe_def D1 hr (pa_cons (pv 1) pa_nil)))
      (pss_one (ps_ret (pe_callTy (r := rTup K) c_tup (by rfl) T.tuple PyProof.Rows.boot_tuple (pa_cons (pe_lc (own := [("row", 3)]) (g := gName 3) (tt := tYes) rfl sc_multiplied.nd (pi_seq (pv 0))
        (blkOk_by (N := ["rows", "others", "columns", "row"]) (sc := defScope st_multiplied) (by decide +kernel))
        (fun _ _ _ _ _ => pg_name (i := 3) sc_multiplied.nd rfl (Or.inl rfl) (Or.inr rfl)) (fun _ _ _ _ _ => pts_nil)
        (fun _ _ _ _ _ => pe_def (X := Cx.blk _ _ _ _ _ _) D2 hr (pa_cons (pv 2) (pa_cons (pv 3) pa_nil)))) pa_nil)))), ?_⟩
    refine ⟨_, rfl, o, N, n, rfl, hN, h0, h3, hn, fun r hr => (hNr r hr).1, fun cv H1 s1 hC => ?_⟩
    obtain ⟨a, vx, rfl, ha, hR⟩ := hMx.mono (KS.of s1)
    have hvl : vx.length = M.length := hR.len
    have qx : ∀ H', Same H1 H' → SqV K H' true a vx := fun H' s => .inl (.inl (s _ _ ha))
    refine r_nret (r_cb (r_cons ?_))
    refine tlc_of (Its true K a) (H1 := H1) (fun R hR => ⟨_, rfl, true, a, vx, rfl, qx H1 (Same.refl H1), hR⟩) ?_
    refine lc_ks (p := none) M.length (fun i v H => ∃ r, (mulM n M N)[i]? = some r ∧ RowV H v r) (fun i v H H' k h => ?_) has_none (by omega) (fun i H2 hi s2 => ?_) (fun H2 s2 => ?_) (fun i x H2 H3 C hi s2 _ hy hC' => ?_) fun Da H2 rs nD s2 hD hrl hE => ?_
    · obtain ⟨r, e, h⟩ := h
      exact ⟨r, e, h.mono k⟩
    · exact its_go (qx H2 s2.same) (List.getElem?_eq_getElem (by rw [hvl]; exact hi))
    · exact its_stop (qx H2 s2.same) (by rw [hvl]; exact Nat.le_refl _)
    · obtain ⟨rfl, ex⟩ := its_yld hy (qx H2 s2.same)
      obtain ⟨r, er, hr'⟩ := hR.get ex
      obtain ⟨lr, lsm⟩ := hMr r (List.mem_of_getElem? er)
      refine ⟨rfl, ?_⟩
      refine ⟨_, rfl, _, rfl, cv, x, transp n N, r, rfl, hC.mono (KS.of s2.same), T29.RowV.seq (hr'.mono (KS.of s2.same)), by rw [transp_len]; exact hn, by omega, lsm, fun c hc => ?_, fun v' H4 s4 hv => hC' _ _ (RX.of s4) ⟨_, ?_, hv⟩⟩
      · obtain ⟨l1, l2⟩ := small_transp hNr c hc
        exact ⟨by omega, l2⟩
      · unfold mulM
        rw [List.getElem?_map, er]
        rfl
    · refine ⟨Da, rs, rfl, .inl ⟨.inl (.inl hD), fun l nl => ?_⟩⟩
      have k : Same H2 (upd H2 l (.tup rs)) := same_new nl
      refine q _ _ (s1.trans (s2.same.trans k)) ⟨l, rs, rfl, upd_same, ?_⟩
      exact (rows_of (by rw [hrl]; unfold mulM; rw [List.length_map]) hE).mono (KS.of k)
end
end T29
set_option Elab.async false
set_option linter.all false
set_option maxRecDepth 100000
set_option maxHeartbeats 1000000
namespace Tb
open PySem PySem.Spec PyProof.Rows L2 Gd Zn Rp Dn
theorem RowsV.snoc {H : Hp} {vs : List V} {M : List (List Int)} {v : V} {r : List Int} (h : RowsV H vs M) (p : RowV H v r) : RowsV H (vs ++ [v]) (M ++ [r]) := by
  induction h with
  | nil => exact .cons p .nil
  | cons q _ ih => exact .cons q ih
/-- a comprehension with a test whose elements are rows; W: what stands after so many steps -/
theorem lc_rows {p : Option Addr} {J : It} {g : TG} {tt : TT} {te : TE} {vs : List Nat} {σ : L2.St} {H1 : Hp} {Q : VK} (n : Nat) (W : Nat → List (List Int)) (hp : Has p H1) (hn : n ≤ 1000) (w0 : W 0 = []) (wl : ∀ i, i ≤ n → (W i).length ≤ i)
    (hgo : ∀ i H, i < n → RX p H1 H → J.go i H) (hst : ∀ H, RX p H1 H → J.stop n H)
    (hs : ∀ i x H H' (C : V → Hp → Prop) (C0 : Hp → Prop), i < n → RX p H1 H → Has p H → J.yld i H x H' → (∀ y r H4, RX p H H4 → W (i + 1) = W i ++ [r] → RowV H4 y r → C y H4) → (∀ H4, RX p H H4 → W (i + 1) = W i → C0 H4) →
      g x (wipe σ vs) H' fun σ2 H2 => wipe σ2 vs = wipe σ vs ∧ tt σ2 H2 fun b H3 => if b = true then te σ2 H3 C else C0 H3)
    (hd : ∀ D H xs, H1 D = none → RX p H1 H → H D = some (.lst xs) → RowsV H xs (W n) → Q (.ref D) H) :
    LcB g tt te vs σ Q J H1 := by
  intro D nD
  have nP : p ≠ some D := hp.ne nD
  refine ⟨fun i m H => i ≤ n ∧ m = n - i ∧ RX p H1 H ∧ ∃ xs, H D = some (.lst xs) ∧ RowsV H xs (W i), ⟨n, Nat.zero_le _, rfl, RX.new nD, [], upd_same, by rw [w0]; exact .nil⟩, ?_⟩
  rintro i m H ⟨hi, rfl, s1, xs, hD, hR⟩
  by_cases hlt : i < n
  · refine .inr ⟨hgo i H hlt s1, fun H' => i + 1 ≤ n ∧ RX p H1 H' ∧ ∃ xs, H' D = some (.lst xs) ∧ RowsV H' xs (W (i + 1)), fun H' h => ⟨n - (i + 1), by omega, h.1, rfl, h.2⟩, fun x H' hy => ?_⟩
    have hpH := hp.to s1
    refine hs i x H H' _ _ hlt s1 hpH hy (fun y r H4 s4 e4 r4 => ?_) fun H4 s4 e4 => ?_
    · have hD4 := s4.keep D _ nP hD
      have k5 : KS H4 (upd H4 D (.lst (xs ++ [y]))) := KS.lst hD4
      refine ⟨xs, hD4, ?_, hlt, (s1.trans s4).mut nD hp, _, upd_same, ?_⟩
      · have h1 := hR.len
        have h2 := wl i hi
        exact Nat.lt_of_lt_of_le (by omega : xs.length < 1001) (by decide)
      · rw [e4]
        exact ((hR.mono (KS.rx s4 hpH)).snoc r4).mono k5
    · refine ⟨hlt, s1.trans s4, xs, s4.keep D _ nP hD, ?_⟩
      rw [e4]
      exact hR.mono (KS.rx s4 hpH)
  · have e : i = n := by omega
    subst e
    exact .inl ⟨hst H s1, hd D H xs nD s1 hD hR⟩
end Tb
set_option Elab.async false
set_option linter.all false
set_option maxRecDepth 100000
set_option maxHeartbeats 1000000
namespace T29
open PySem PySem.Spec PyProof.Rows L2 Gd Zn Rp Dn Tb Gn En Zs Ct
def cutAt (k : Nat) (r : List Int) : List Int := r.take k ++ r.drop (k + 1)
def outW (M : List (List Int)) (at_ k : Nat) (i : Nat) : List (List Int) := ((List.range i).filter fun j => !decide (j = at_)).map fun j => cutAt k (M.getD j [])
def outM (M : List (List Int)) (at_ k : Nat) : List (List Int) := outW M at_ k M.length
theorem outW_succ (M : List (List Int)) (at_ k i : Nat) : outW M at_ k (i + 1) = outW M at_ k i ++ if i = at_ then [] else [cutAt k (M.getD i [])] := by
  unfold outW
  rw [List.range_succ, List.filter_append, List.map_append]
  by_cases h : i = at_ <;> simp [h]
theorem outW_len (M : List (List Int)) (at_ k i : Nat) : (outW M at_ k i).length ≤ i := by
  unfold outW
  rw [List.length_map]
  have := List.length_filter_le (fun j => !decide (j = at_)) (List.range i)
  rw [List.length_range] at this
  exact this
theorem cutV_to (r : List Int) (k : Nat) (h : k ≤ r.length) : cutV (r.map V.int) none (some (k : Int)) = (r.take k).map V.int := by
  unfold cutV
  rw [HT.sIx_nat, HT.sIx_none, List.length_map, List.drop_zero, Nat.min_eq_left h, Nat.sub_zero, List.map_take]
theorem cutV_from (r : List Int) (k : Nat) (h : k ≤ r.length) : cutV (r.map V.int) (some (k : Int)) none = (r.drop k).map V.int := by
  unfold cutV
  rw [HT.sIx_nat, HT.sIx_none, List.length_map, Nat.min_eq_left h, List.map_drop]
  exact List.take_of_length_le (by rw [List.length_drop, List.length_map]; exact Nat.le_refl _)
section
variable {P : Program} {w : World} {K : PySem.W.Frag} {mg : Str → Option Value} {base : Heap}
abbrev st_without : Stmt := top 29
def sp_without : Sp := fun vs H Q _ => ∃ v M, ∃ a k n : Nat, vs = [v, .int a, .int k] ∧ Mx H v M ∧ M.length ≤ 100 ∧ n ≤ 100 ∧ k < n ∧ (∀ r ∈ M, r.length = n) ∧ ∀ v' H', Same H H' → Mx H' v' (outM M a k) → Q v' H'
abbrev N_without : List Str := ["rows", "at", "place", "index", "row"]
theorem sc_without : FnScope N_without ["rows", "at", "place"] (defScope st_without) := ⟨rfl, rfl, rfl, by decide +kernel, rfl, by decide +kernel, by decide +kernel⟩
theorem ok_without {f : Addr} {fd : FuncData} (F : Fun K "without" "without" st_without f fd) (T : Txt mg) : FnOk P w K mg base CX0 1 f fd ["rows", "at", "place"] sp_without := by
  refine F.ok sc_without (fun vs H Q E h => ?_) (fun cdv A outer s H vs Q E hr h => ?_)
  · obtain ⟨v, M, a, k, n, rfl, _⟩ := h
    rfl
  · obtain ⟨v, M, at_, k, n, rfl, ⟨a, vx, rfl, ha, hR⟩, hM, hn, hk, hMr, q⟩ := h
    refine ⟨_, pss_one (ps_ret (pe_callTy (r := rTup K) c_tup (by rfl) T.tuple PyProof.Rows.boot_tuple (pa_cons (pe_lc (own := [("index", 3), ("row", 4)]) (g := gTup K 2 (gCons (gName 3) (gCons (gName 4) gNil))) rfl sc_without.nd (pi_enumS (by rfl) T.enum (pa_cons (pv 0) pa_nil))
        (blkOk_by (N := N_without) (sc := defScope st_without) (by decide +kernel))
        (fun _ _ _ _ _ => pg_tup rfl (pgs_cons (pg_name (i := 3) sc_without.nd rfl (Or.inl rfl) (Or.inr rfl)) (pgs_cons (pg_name (i := 4) sc_without.nd rfl (Or.inl rfl) (Or.inr rfl)) pgs_nil)))
        (fun _ _ _ _ _ => pts_one (pt_cmpR op_ne (pv 3) (pv 1) (nomark _)))
        (fun _ _ _ _ _ => pe_op (r := Ct.rCat) op_cat3 (pe_slice (r := rSlT K) sl_tup (pv 4) po_none (po_some (pv 2))) (pe_slice (r := rSlT K) sl_tup (pv 4) (po_some (pe_op op_add (pv 2) pe_int)) po_none))) pa_nil))), ?_⟩
    have hvl : vx.length = M.length := hR.len
    have qx : ∀ H', Same H H' → SqV K H' true a vx := fun H' s => .inl (.inl (s _ _ ha))
    refine r_ret (r_cb (r_cons ?_))
    refine tlc_of (Ite2 K true a) (H1 := H) (fun R hR => ⟨_, rfl, true, a, vx, rfl, qx H (Same.refl H), hR⟩) ?_
    refine lc_rows (p := none) M.length (outW M at_ k) has_none (by omega) rfl (fun i _ => outW_len M at_ k i) (fun i H2 hi s2 => ?_) (fun H2 s2 => ?_) (fun i x H2 H3 C C0 hi s2 _ hy hC hC0 => ?_) fun Da H2 rs nD s2 hD hE => ?_
    · exact ⟨vx, vx[i]'(by omega), qx H2 s2.same, List.getElem?_eq_getElem (by omega)⟩
    · exact ⟨vx, qx H2 s2.same, by omega⟩
    · obtain ⟨T2, y, rfl, nT, rfl, hu⟩ := hy
      have ey := hu vx (qx H2 s2.same)
      obtain ⟨r, er, b, eb, hb⟩ := hR.get ey
      subst eb
      have lr := hMr r (List.mem_of_getElem? er)
      have hb2 := s2.same _ _ hb
      have eo : M.getD i [] = r := by rw [List.getD_eq_getElem?_getD, er]; rfl
      refine ⟨T2, _, rfl, .inl (.inl upd_same), rfl, _, _, rfl, _, _, rfl, rfl, rfl, ?_⟩
      have sTT : Same H2 (upd H2 T2 (.tup [V.int (i : Nat), .ref b])) := same_new nT
      refine ⟨_, rfl, _, rfl, rfl, _, rfl, ?_⟩
      by_cases hia : i = at_
      · rw [show (!decide (V.int ((i : Nat) : Int) = V.int (at_ : Int))) = false by simp [hia]]
        refine iteF ?_
        exact hC0 _ (RX.new nT) (by rw [outW_succ, if_pos hia, List.append_nil])
      · rw [show (!decide (V.int ((i : Nat) : Int) = V.int (at_ : Int))) = true by simp; omega]
        refine iteT ?_
        have hw : outW M at_ k (i + 1) = outW M at_ k i ++ [cutAt k r] := by rw [outW_succ, if_neg hia, eo]
        have kr : k < r.length := by omega
        have hb3 := sTT _ _ hb2
        refine r_op ?_
        refine ⟨_, rfl, _, rfl, _, rfl, b, _, rfl, .inl (.inl hb3), ?_, fun p1 np1 => ?_⟩
        · rintro ⟨_, z⟩
          rw [HT.sIx_nat, List.length_map] at z
          omega
        · rw [cutV_to r k (by omega)]
          have s1 := same_new (o := .tup ((r.take k).map V.int)) np1
          refine ⟨_, rfl, _, rfl, _, _, rfl, rfl, _, rfl, b, _, rfl, .inl (.inl (s1 _ _ hb3)), ?_, fun p2 np2 => ?_⟩
          · rintro ⟨z, _⟩
            have e : ((k : Int) + 1) = ((k + 1 : Nat) : Int) := by omega
            rw [e, HT.sIx_nat, List.length_map] at z
            omega
          · have e : ((k : Int) + 1) = ((k + 1 : Nat) : Int) := by omega
            rw [e, cutV_from r (k + 1) (by omega)]
            have s2' := same_new (o := .tup ((r.drop (k + 1)).map V.int)) np2
            refine ⟨p1, p2, _, _, rfl, rfl, s2' _ _ upd_same, upd_same, ?_, fun c H5 s5 hc => ?_⟩
            · rw [List.length_map, List.length_map, List.length_take, List.length_drop]
              omega
            · refine hC _ (cutAt k r) _ (RX.of (sTT.trans (s1.trans (s2'.trans s5)))) hw ⟨c, rfl, ?_⟩
              rw [hc]
              unfold cutAt
              rw [List.map_append]
    · refine ⟨Da, rs, rfl, .inl ⟨.inl (.inl hD), fun l nl => ?_⟩⟩
      have k : Same H2 (upd H2 l (.tup rs)) := same_new nl
      refine q _ _ (s2.same.trans k) ⟨l, rs, rfl, upd_same, ?_⟩
      exact hE.mono (KS.of k)
end
end T29
set_option Elab.async false
set_option linter.all false
set_option maxRecDepth 100000
set_option maxHeartbeats 1000000
namespace T29
open PySem PySem.Spec PyProof.Rows L2 Gd Zn Rp Dn Tb Gn En Zs Ct
mutual
def detM : Nat → List (List Int) → Int
  | 0, _ => 1
  | n + 1, M => ((List.range (n + 1)).map fun k => (M.getD 0 []).getD k 0 * cofM n M 0 k).sum
def cofM : Nat → List (List Int) → Nat → Nat → Int
  | n, M, a, k => if (a + k) % 2 = 0 then detM n (outM M a k) else -detM n (outM M a k)
end
structure Sq (n : Nat) (M : List (List Int)) : Prop where
  len : M.length = n
  row : ∀ r ∈ M, r.length = n
  small : ∀ r ∈ M, ∀ x ∈ r, Small x
theorem cutAt_len {r : List Int} {n k : Nat} (h : r.length = n + 1) (hk : k ≤ n) : (cutAt k r).length = n := by
  unfold cutAt
  rw [List.length_append, List.length_take, List.length_drop]
  omega
theorem cutAt_mem {r : List Int} {k : Nat} {x : Int} (h : x ∈ cutAt k r) : x ∈ r := by
  unfold cutAt at h
  rcases List.mem_append.mp h with h | h
  · exact List.mem_of_mem_take h
  · exact List.mem_of_mem_drop h
theorem out_count (n a : Nat) (h : a < n) : ((List.range n).filter fun j => !decide (j = a)).length = n - 1 := by
  have h1 : ((List.range n).filter fun j => !decide (j = a)).length + ((List.range n).filter fun j => decide (j = a)).length = n := by
    have := List.length_eq_countP_add_countP (p := fun j => decide (j = a)) (l := List.range n)
    rw [List.length_range, List.countP_eq_length_filter, List.countP_eq_length_filter] at this
    have e : (fun j => !decide (j = a)) = fun j => decide ¬ decide (j = a) = true := by
      funext j
      by_cases h : j = a <;> simp [h]
    rw [e]
    omega
  have h2 : ((List.range n).filter fun j => decide (j = a)).length = 1 := by
    have : ((List.range n).filter fun j => decide (j = a)) = [a] := by
      clear h1
      induction n with
      | zero => omega
      | succ n ih =>
        rw [List.range_succ, List.filter_append]
        by_cases z : n = a
        · subst z
          have : (List.range n).filter (fun j => decide (j = n)) = [] := by
            rw [List.filter_eq_nil_iff]
            intro x hx
            have := List.mem_range.mp hx
            simp
            omega
          rw [this]
          simp
        · rw [ih (by omega)]
          simp [z]
    rw [this]
    rfl
  omega
theorem Sq.out {n a k : Nat} {M : List (List Int)} (h : Sq (n + 1) M) (ha : a ≤ n) (hk : k ≤ n) : Sq n (outM M a k) := by
  have g : ∀ c ∈ outM M a k, ∃ r ∈ M, c = cutAt k r := fun c hc => by
    unfold outM outW at hc
    rw [List.mem_map] at hc
    obtain ⟨j, hj, e⟩ := hc
    rw [List.mem_filter] at hj
    have hj := List.mem_range.mp hj.1
    refine ⟨M[j], List.getElem_mem hj, ?_⟩
    rw [← e, List.getD_eq_getElem?_getD, List.getElem?_eq_getElem hj]
    rfl
  refine ⟨?_, fun c hc => ?_, fun c hc x hx => ?_⟩
  · unfold outM outW
    rw [List.length_map, h.len, out_count (n + 1) a (by omega)]
    rfl
  · obtain ⟨r, hr, rfl⟩ := g c hc
    exact cutAt_len (h.row r hr) hk
  · obtain ⟨r, hr, rfl⟩ := g c hc
    exact h.small r hr x (cutAt_mem hx)
theorem det_bd : ∀ (n : Nat) {M : List (List Int)}, Sq n M → n ≤ 4 → (detM n M).natAbs < 2 ^ (n * 20010 + 1)
  | 0, M, _, _ => by unfold detM; decide
  | n + 1, M, hS, hn => by
    unfold detM
    have h : ∀ x ∈ (List.range (n + 1)).map (fun k => (M.getD 0 []).getD k 0 * cofM n M 0 k), x.natAbs ≤ 2 ^ (20000 + (n * 20010 + 1)) := fun x hx => by
      obtain ⟨k, hk, rfl⟩ := List.mem_map.mp hx
      have hk := List.mem_range.mp hk
      have ih := det_bd n (hS.out (Nat.zero_le n) (show k ≤ n by omega)) (by omega)
      have c : (cofM n M 0 k).natAbs < 2 ^ (n * 20010 + 1) := by
        unfold cofM
        split
        · exact ih
        · rw [Int.natAbs_neg]; exact ih
      have l0 : 0 < M.length := by rw [hS.len]; omega
      have m0 : M.getD 0 [] ∈ M := by rw [List.getD_eq_getElem?_getD, List.getElem?_eq_getElem l0]; exact List.getElem_mem l0
      have lr := hS.row _ m0
      have m1 : (M.getD 0 []).getD k 0 ∈ M.getD 0 [] := by
        generalize M.getD 0 [] = r at lr
        rw [List.getD_eq_getElem?_getD, List.getElem?_eq_getElem (by omega)]
        exact List.getElem_mem _
      obtain ⟨e, e1, e2⟩ := hS.small _ m0 _ m1
      exact Nat.le_of_lt (Wd.abs_mul (Wd.abs_mono e2 e1) c)
    have s := Wd.abs_sum h
    rw [List.length_map, List.length_range] at s
    have g : (n + 1) * 2 ^ (20000 + (n * 20010 + 1)) < 2 ^ ((n + 1) * 20010 + 1) := by
      have e : (n + 1) * 20010 + 1 = 10 + (20000 + (n * 20010 + 1)) := by omega
      rw [e, Nat.pow_add 2 10]
      exact Nat.mul_lt_mul_of_pos_right (by omega) (Nat.pow_pos (by decide))
    exact Nat.lt_of_le_of_lt s g
theorem det_wid {n : Nat} {M : List (List Int)} (hn : n ≤ 4) (hS : Sq n M) : Wd.Wid (detM n M) := ⟨_, by omega, det_bd n hS hn⟩
theorem cof_wid {n a k : Nat} {M : List (List Int)} (hn : n ≤ 3) (hS : Sq (n + 1) M) (ha : a ≤ n) (hk : k ≤ n) : Wd.Wid (cofM n M a k) := by
  have ih := det_bd n (hS.out ha hk) (by omega)
  refine ⟨n * 20010 + 1, by omega, ?_⟩
  unfold cofM
  split
  · exact ih
  · rw [Int.natAbs_neg]; exact ih
section
variable {P : Program} {w : World} {K : PySem.W.Frag} {mg : Str → Option Value} {base : Heap}
abbrev st_cofactor : Stmt := top 32
def sp_cof (n : Nat) : Sp := fun vs H Q _ => ∃ v M, ∃ a k : Nat, vs = [v, .int a, .int k] ∧ Mx H v M ∧ n ≤ 3 ∧ Sq (n + 1) M ∧ a ≤ n ∧ k ≤ n ∧ ∀ H', Same H H' → Q (.int (cofM n M a k)) H'
def sp_det (n : Nat) : Sp := fun vs H Q _ => ∃ v M, vs = [v] ∧ Mx H v M ∧ n ≤ 4 ∧ Sq n M ∧ ∀ H', Same H H' → Q (.int (detM n M)) H'
abbrev N_cof : List Str := ["rows", "at", "place", "left"]
theorem sc_cofactor : FnScope N_cof ["rows", "at", "place"] (defScope st_cofactor) := ⟨rfl, rfl, rfl, by decide +kernel, rfl, by decide +kernel, by decide +kernel⟩
theorem ok_cofactor {f : Addr} {fd : FuncData} (n : Nat) (F : Fun K "cofactor" "cofactor" st_cofactor f fd) (T : Txt mg) (D1 : Def P w K mg base "without" 1 ["rows", "at", "place"] sp_without) (D2 : Def P w K mg base "determinant_of" (2 * n + 1) ["rows"] (sp_det n)) :
    FnOk P w K mg base CX0 (2 * n + 2) f fd ["rows", "at", "place"] (sp_cof n) := by
  refine F.ok sc_cofactor (fun vs H Q E h => ?_) (fun cdv A outer s H vs Q E hr h => ?_)
  · obtain ⟨v, M, a, k, rfl, _⟩ := h
    rfl
  · obtain ⟨v, M, a, k, rfl, hM, hn, hS, ha, hk, q⟩ := h
    refine ⟨_, pss_cons (ps_set (i := 3) sc_cofactor.nd rfl (Or.inl rfl) (pe_def D2 hr (pa_cons (pe_def D1 hr (pa_cons (pv 0) (pa_cons (pv 1) (pa_cons (pv 2) pa_nil))) (by omega)) pa_nil) (by omega)))
      (pss_one (ps_ret (pe_ifExp (pt_cmpR op_eq (pe_op op_mod (pe_op op_add (pv 1) (pv 2)) pe_int) pe_int (nomark _)) (pv 3) (pe_un un_neg (pv 3))))), ?_⟩
    refine ⟨_, rfl, _, rfl, _, rfl, v, M, a, k, n + 1, rfl, hM, by rw [hS.len]; omega, by omega, by omega, hS.row, fun v1 H1 s1 h1 => ?_⟩
    refine ⟨v1, outM M a k, rfl, h1, by omega, hS.out ha hk, fun H2 s2 => ?_⟩
    have ec : ((a : Int) + (k : Int)) % 2 = 0 ↔ (a + k) % 2 = 0 := by omega
    have q2 := q H2 (s1.trans s2)
    refine ⟨_, rfl, _, rfl, _, _, rfl, rfl, _, _, rfl, rfl, (show (0 : Int) < 2 by decide), rfl, _, rfl, ?_⟩
    by_cases z : (a + k) % 2 = 0
    · rw [decide_eq_true (congrArg V.int (ec.mpr z))]
      refine iteT ⟨_, rfl, ?_⟩
      have : cofM n M a k = detM n (outM M a k) := by unfold cofM; rw [if_pos z]
      rw [this] at q2
      exact q2
    · rw [decide_eq_false (fun e => z (ec.mp (V.int.inj e)))]
      refine iteF ⟨_, rfl, _, rfl, ?_⟩
      have : cofM n M a k = -detM n (outM M a k) := by unfold cofM; rw [if_neg z]
      rw [this] at q2
      exact q2
abbrev st_det : Stmt := top 31
abbrev N_det : List Str := ["rows", "place", "number"]
theorem sc_det : FnScope N_det ["rows"] (defScope st_det) := ⟨rfl, rfl, rfl, by decide +kernel, rfl, by decide +kernel, by decide +kernel⟩
theorem ok_det0 {f : Addr} {fd : FuncData} (F : Fun K "determinant_of" "determinant_of" st_det f fd) (T : Txt mg) : FnOk P w K mg base CX0 1 f fd ["rows"] (sp_det 0) := by
  refine F.ok sc_det (fun vs H Q E h => ?_) (fun cdv A outer s H vs Q E hr h => ?_)
  · obtain ⟨v, M, rfl, _⟩ := h
    rfl
  · obtain ⟨v, M, rfl, ⟨a, vx, rfl, ha, hR⟩, hn, hS, q⟩ := h
    refine ⟨_, pss_cons (ps_if (pt_cmpR op_eq (pe_callB (r := Dn.rLen K) c_len (by rfl) T.len PySem.boot_len (pa_cons (pv 0) pa_nil)) pe_int (nomark _)) (pss_one (ps_ret pe_int)) pss_nil)
      pss_dead, ?_⟩
    have hvl : vx.length = 0 := by rw [hR.len]; exact hS.len
    refine ⟨_, rfl, a, vx, rfl, .inr (.inl (.inl ha)), rfl, _, rfl, ?_⟩
    rw [decide_eq_true (show V.int (vx.length : Int) = V.int 0 by rw [hvl]; rfl)]
    refine iteT ?_
    have := q H (Same.refl H)
    unfold detM at this
    exact this
theorem len2 {α : Type} {l : List α} (h : l.length = 2) : ∃ a b, l = [a, b] := by
  match l, h with
  | [a, b], _ => exact ⟨a, b, rfl⟩
theorem det2 (a b c d : Int) : detM 2 [[a, b], [c, d]] = a * d - b * c := by
  simp [detM, cofM, outM, outW, cutAt, List.range_succ, List.getD]
  grind
theorem ok_det2 {f : Addr} {fd : FuncData} (F : Fun K "determinant_of" "determinant_of" st_det f fd) (T : Txt mg) : FnOk P w K mg base CX0 5 f fd ["rows"] (sp_det 2) := by
  refine F.ok sc_det (fun vs H Q E h => ?_) (fun cdv A outer s H vs Q E hr h => ?_)
  · obtain ⟨v, M, rfl, _⟩ := h
    rfl
  · obtain ⟨v, M, rfl, ⟨a, vx, rfl, ha, hR⟩, hn, hS, q⟩ := h
    refine ⟨_, pss_cons (ps_if (pt_cmpR op_eq (pe_callB (r := Dn.rLen K) c_len (by rfl) T.len PySem.boot_len (pa_cons (pv 0) pa_nil)) pe_int (nomark _)) pss_dead pss_nil)
      (pss_cons (ps_if (pt_cmpR op_eq (pe_callB (r := Dn.rLen K) c_len (by rfl) T.len PySem.boot_len (pa_cons (pv 0) pa_nil)) pe_int (nomark _)) (pss_one (ps_ret (pe_op op_sub (pe_op op_mulX (pe_ix ix_sq (pe_ix ix_sq (pv 0) pe_int (fun _ _ => rfl)) pe_int (fun _ _ => rfl)) (pe_ix ix_sq (pe_ix ix_sq (pv 0) pe_int (fun _ _ => rfl)) pe_int (fun _ _ => rfl))) (pe_op op_mulX (pe_ix ix_sq (pe_ix ix_sq (pv 0) pe_int (fun _ _ => rfl)) pe_int (fun _ _ => rfl)) (pe_ix ix_sq (pe_ix ix_sq (pv 0) pe_int (fun _ _ => rfl)) pe_int (fun _ _ => rfl)))))) pss_nil) pss_dead), ?_⟩
    obtain ⟨r1, r2, rfl⟩ := len2 hS.len
    obtain ⟨a1, b1, rfl⟩ := len2 (hS.row r1 (by simp))
    obtain ⟨c1, d1, rfl⟩ := len2 (hS.row r2 (by simp))
    have sa : Small a1 := hS.small [a1, b1] (by simp) a1 (by simp)
    have sb : Small b1 := hS.small [a1, b1] (by simp) b1 (by simp)
    have sc : Small c1 := hS.small [c1, d1] (by simp) c1 (by simp)
    have sd : Small d1 := hS.small [c1, d1] (by simp) d1 (by simp)
    have hvl : vx.length = 2 := by rw [hR.len]; rfl
    obtain ⟨x1, x2, rfl⟩ := len2 hvl
    obtain ⟨_, e1, p1, rfl, h1⟩ := hR.get (i := 0) rfl
    obtain ⟨_, e2, p2, rfl, h2⟩ := hR.get (i := 1) rfl
    cases e1
    cases e2
    have hA : SqV K H true a [V.ref p1, V.ref p2] := .inl (.inl ha)
    have hP : SqV K H true p1 [V.int a1, V.int b1] := .inl (.inl h1)
    have hQ : SqV K H true p2 [V.int c1, V.int d1] := .inl (.inl h2)
    refine ⟨_, rfl, a, _, rfl, .inr (.inl (.inl ha)), rfl, _, rfl, ?_⟩
    refine iteF ?_
    refine ⟨_, rfl, a, _, rfl, .inr (.inl (.inl ha)), rfl, _, rfl, ?_⟩
    refine iteT ?_
    have q2 := q H (Same.refl H)
    rw [det2] at q2
    refine ⟨_, rfl, true, a, _, (0 : Int), _, rfl, rfl, hA, atI_nat (j := 0) rfl, true, p1, _, (0 : Int), _, rfl, rfl, hP, atI_nat (j := 0) rfl, _, rfl, true, a, _, (1 : Int), _, rfl, rfl, hA, atI_nat (j := 1) rfl, true, p2, _, (1 : Int), _, rfl, rfl, hQ, atI_nat (j := 1) rfl, _, _, rfl, rfl, Wd.mul sa sd, _, rfl, true, a, _, (0 : Int), _, rfl, rfl, hA, atI_nat (j := 0) rfl, true, p1, _, (1 : Int), _, rfl, rfl, hP, atI_nat (j := 1) rfl, _, rfl, true, a, _, (1 : Int), _, rfl, rfl, hA, atI_nat (j := 1) rfl, true, p2, _, (0 : Int), _, rfl, rfl, hQ, atI_nat (j := 0) rfl, _, _, rfl, rfl, Wd.mul sb sc, _, _, rfl, rfl, q2⟩
theorem ok_detS {f : Addr} {fd : FuncData} (n : Nat) (n1 : n ≠ 1) (F : Fun K "determinant_of" "determinant_of" st_det f fd) (T : Txt mg) (D1 : Def P w K mg base "cofactor" (2 * n + 2) ["rows", "at", "place"] (sp_cof n)) :
    FnOk P w K mg base CX0 (2 * n + 3) f fd ["rows"] (sp_det (n + 1)) := by
  refine F.ok sc_det (fun vs H Q E h => ?_) (fun cdv A outer s H vs Q E hr h => ?_)
  · obtain ⟨v, M, rfl, _⟩ := h
    rfl
  · obtain ⟨v, M, rfl, ⟨a, vx, rfl, ha, hR⟩, hn, hS, q⟩ := h
    refine ⟨_, pss_cons (ps_if (pt_cmpR op_eq (pe_callB (r := Dn.rLen K) c_len (by rfl) T.len PySem.boot_len (pa_cons (pv 0) pa_nil)) pe_int (nomark _)) pss_dead pss_nil)
      (pss_cons (ps_if (pt_cmpR op_eq (pe_callB (r := Dn.rLen K) c_len (by rfl) T.len PySem.boot_len (pa_cons (pv 0) pa_nil)) pe_int (nomark _)) pss_dead pss_nil)
      (pss_one (ps_ret (pe_callB (cr_sum rfl) (by rfl) T.sum boot_sum (pa_cons (pe_lc (own := [("place", 1), ("number", 2)]) (g := gTup K 2 (gCons (gName 1) (gCons (gName 2) gNil))) (tt := tYes) rfl sc_det.nd (pi_enumS (by rfl) T.enum (pa_cons (pe_ix ix_sq (pv 0) pe_int (fun _ _ => rfl)) pa_nil))
        (blkOk_by (N := N_det) (sc := defScope st_det) (by decide +kernel))
        (fun _ _ _ _ _ => pg_tup rfl (pgs_cons (pg_name (i := 1) sc_det.nd rfl (Or.inl rfl) (Or.inr rfl)) (pgs_cons (pg_name (i := 2) sc_det.nd rfl (Or.inl rfl) (Or.inr rfl)) pgs_nil)))
        (fun _ _ _ _ _ => pts_nil)
        (fun _ _ _ _ _ => pe_op op_mulX (pv 2) (pe_def (X := Cx.blk _ _ _ _ _ _) D1 hr (pa_cons (pv 0) (pa_cons pe_int (pa_cons (pv 1) pa_nil))) (by omega)))) pa_nil))))), ?_⟩
    have hvl : vx.length = n + 1 := by rw [hR.len]; exact hS.len
    refine ⟨_, rfl, a, vx, rfl, .inr (.inl (.inl ha)), rfl, _, rfl, ?_⟩
    rw [decide_eq_false (show ¬ V.int (vx.length : Int) = V.int 0 from fun e => by have := V.int.inj e; omega)]
    refine iteF ?_
    refine ⟨_, rfl, a, vx, rfl, .inr (.inl (.inl ha)), rfl, _, rfl, ?_⟩
    rw [decide_eq_false (show ¬ V.int (vx.length : Int) = V.int 2 from fun e => by have := V.int.inj e; omega)]
    refine iteF ?_
    have e0 : vx[0]? = some vx[0] := List.getElem?_eq_getElem (by omega)
    obtain ⟨r, er, b, eb, hb⟩ := hR.get e0
    have lr := hS.row r (List.mem_of_getElem? er)
    have sr := hS.small r (List.mem_of_getElem? er)
    have e1 : M.getD 0 [] = r := by rw [List.getD_eq_getElem?_getD, er]; rfl
    rw [eb] at e0
    have qb : ∀ H', Same H H' → SqV K H' true b (r.map V.int) := fun H' s => .inl (.inl (s _ _ hb))
    refine r_nret (r_cb (r_cons ?_))
    refine tlc_of (Ite2 K true b) (H1 := H) (fun R hR' => ⟨_, rfl, true, a, vx, (0 : Int), _, rfl, rfl, .inl (.inl ha), atI_nat e0, true, b, r.map V.int, rfl, qb H (Same.refl H), hR'⟩) ?_
    refine lc_el (p := none) (n + 1) (fun i v => v = .int (r.getD i 0 * cofM n M 0 i)) has_none (by omega) (fun i H2 hi s2 => ?_) (fun H2 s2 => ?_) (fun i x H2 H3 C hi s2 _ hy hC => ?_) fun Da H2 rs nD s2 hD hrl hE => ?_
    · exact ⟨_, _, qb H2 s2.same, List.getElem?_eq_getElem (by rw [List.length_map]; omega)⟩
    · exact ⟨_, qb H2 s2.same, by rw [List.length_map]; omega⟩
    · obtain ⟨T2, y, rfl, nT, rfl, hu⟩ := hy
      have ey := hu _ (qb H2 s2.same)
      have hi' : i < r.length := by omega
      rw [List.getElem?_map, List.getElem?_eq_getElem hi'] at ey
      cases ey
      have eg : r.getD i 0 = r[i] := by rw [List.getD_eq_getElem?_getD, List.getElem?_eq_getElem hi']; rfl
      have sT : Same H2 (upd H2 T2 (.tup [V.int (i : Nat), V.int r[i]])) := same_new nT
      refine ⟨T2, _, rfl, .inl (.inl upd_same), rfl, _, _, rfl, _, _, rfl, rfl, rfl, ?_⟩
      refine ⟨_, rfl, _, rfl, _, rfl, _, M, 0, i, rfl, ?_, by omega, hS, Nat.zero_le _, by omega, fun H4 s4 => ?_⟩
      · exact Mx.mono (KS.of (s2.same.trans sT)) ⟨a, vx, rfl, ha, hR⟩
      · refine ⟨_, _, rfl, rfl, Wd.mulW (sr _ (List.getElem_mem hi')).w (cof_wid (by omega) hS (Nat.zero_le _) (by omega)), hC _ _ (RX.of (sT.trans s4)) ?_⟩
        rw [eg]
    · have er' : rs = (List.range (n + 1)).map fun k => V.int (r.getD k 0 * cofM n M 0 k) := map_of_get (n := 0) _ (by rw [hrl, List.length_range]) fun i v e => by
        have hi : i < n + 1 := by rw [← hrl]; exact (List.getElem?_eq_some_iff.mp e).1
        exact ⟨i, List.getElem?_range hi, hE i v e⟩
      refine ⟨Da, (List.range (n + 1)).map fun k => r.getD k 0 * cofM n M 0 k, rfl, .inl (.inl ?_), ?_⟩
      · rw [hD, er', List.map_map]
        rfl
      · have := q H2 s2.same
        unfold detM at this
        rw [e1] at this
        exact this
/-- both, by the size -/
theorem ok_dets {f g : Addr} {fd gd : FuncData} (F : Fun K "determinant_of" "determinant_of" st_det f fd) (G : Fun K "cofactor" "cofactor" st_cofactor g gd) (T : Txt mg) (D1 : Def P w K mg base "without" 1 ["rows", "at", "place"] sp_without)
    (mf : mg "determinant_of" = some (.ref f)) (kf : PySem.W.keepIn K (.ref f) = true) (bf : Binds K fd ["rows"] []) (mg' : mg "cofactor" = some (.ref g)) (kg : PySem.W.keepIn K (.ref g) = true) (bg : Binds K gd ["rows", "at", "place"] []) :
    ∀ n, Def P w K mg base "determinant_of" (2 * n + 1) ["rows"] (sp_det n) ∧ Def P w K mg base "cofactor" (2 * n + 2) ["rows", "at", "place"] (sp_cof n)
  | 0 => ⟨⟨f, fd, ok_det0 F T, mf, kf, bf⟩, ⟨g, gd, ok_cofactor 0 G T D1 ⟨f, fd, ok_det0 F T, mf, kf, bf⟩, mg', kg, bg⟩⟩
  | n + 1 => by
    have d : Def P w K mg base "determinant_of" (2 * (n + 1) + 1) ["rows"] (sp_det (n + 1)) := by
      by_cases z : n = 1
      · subst z
        exact ⟨f, fd, ok_det2 F T, mf, kf, bf⟩
      · exact ⟨f, fd, ok_detS n z F T (ok_dets F G T D1 mf kf bf mg' kg bg n).2, mf, kf, bf⟩
    exact ⟨d, ⟨g, gd, ok_cofactor (n + 1) G T D1 d, mg', kg, bg⟩⟩
end
end T29
set_option Elab.async false
set_option linter.all false
set_option maxRecDepth 100000
set_option maxHeartbeats 1000000
namespace Op
open PySem PySem.Spec PyProof.Rows L2
def rOwnB (C : Addr) (sp : Sp) (E : XK) (x y : V) (H : Hp) (Q : VK) : Prop :=
  ∃ a dx fs b dy gs, x = .ref a ∧ y = .ref b ∧ H a = some (.ins C dx fs) ∧ H b = some (.ins C dy gs) ∧ sp [x, y] H (fun v H' => (∃ c, v = .ref c) ∧ Q v H') E
theorem op_mulOwn {X : Cx} {CX : CXT} {C g : Addr} {n : Nat} {sp : Sp} {E : XK} {cd : ClassData} {rest : List Value} (hc : W.clsIn X.K C = some cd) (hm : cd.mro = Value.ref C :: rest)
    (hf : W.findIn X.K (.ref C) (dunder "mul") = some (some (.ref g))) (hfn : W.isFn X.K (.ref g) = true) (G : FnR X.prog X.w X.K X.mg X.base CX n g sp) (room : Room n X.A) (ps : Passes CX X E) : OpR X (binaryOp .Mult) (rOwnB C sp E) := by
  intro pins s σ H x y v u Q I rx ry h
  obtain ⟨a, dx, fs, b, dy, gs, rfl, rfl, ha, hb, q⟩ := h
  cases (show v = Value.ref a from rx)
  cases (show u = Value.ref b from ry)
  have oa : s.heap.get? a = some (W.instObj C dx) := by have := I.hok a _ ha; unfold ObjOk at this; exact this.2.2.2.1
  have ob : s.heap.get? b = some (W.instObj C dy) := by have := I.hok b _ hb; unfold ObjOk at this; exact this.2.2.2.1
  have kin := I.kIn
  unfold binaryOp
  refine wpAny_holding ?_
  show wpAny _ _ (binaryOp1 "mul" (.ref a) (.ref b) >>= _) _ _ _
  refine wpAny_bind ?_
  unfold binaryOp1
  refine wpAny_bind (wpAny_typeOf_ref oa ?_)
  refine wpAny_bind (wpAny_typeOf_ref ob ?_)
  refine wpAny_bind (W.fills_K (M := model X.prog X.w) kin hc hm hf X.A _ _ s (fun _ _ e => e) ?_)
  have e1 : ((W.instObj C dx).cls == (W.instObj C dy).cls) = true := by
    show (Value.ref C == Value.ref C) = true
    simp
  dsimp only
  rw [if_pos e1]
  refine wpAny_bind (wpAny_pure ?_)
  simp only [Bool.and_false, Bool.false_and, Bool.false_eq_true, if_false, if_true]
  refine wpAny_bind (wpAny_pure ?_)
  simp only [Bool.false_eq_true, if_false]
  refine wpAny_bind ?_
  unfold tryMethod
  refine wpAny_bind ?_
  unfold callSpecial?
  refine wpAny_bind ?_
  unfold specialOf
  refine wpAny_bind (wpAny_typeOf_ref oa ?_)
  refine W.looks_findIn (M := model X.prog X.w) kin hf X.A _ _ s (fun _ _ e => e) ?_
  dsimp only
  refine wpAny_holding ?_
  refine wpAny_bind ?_
  unfold bindSpecial
  have hfn' : W.typeIn X.K (.ref g) = some (.type "function") := by
    unfold W.isFn at hfn
    simpa using hfn
  refine wpAny_bind (W.looks_typeIn (M := model X.prog X.w) kin hfn' X.A _ _ s (fun _ _ e => e) ?_)
  rw [if_pos (by decide)]
  refine wpAny_pure ?_
  dsimp only
  refine wpAny_bind (wpAny_call ?_)
  refine codeAny_mono (run_fnR G room ps I (.cons rx (.cons ry .nil)) q) fun r s2 hq => ?_
  cases r with
  | error er => exact hq
  | ok fl =>
    cases fl with
    | ret u =>
      obtain ⟨v, H', I', rv, ⟨c, rfl⟩, hQ⟩ := hq
      have eu : u = Value.ref c := rv
      subst eu
      exact wpAny_pure (wpAny_pure (wpAny_pure (wpAny_pure ⟨_, H', I', rv, hQ⟩)))
    | next => exact (show False from hq).elim
    | brk => exact (show False from hq).elim
    | cont => exact (show False from hq).elim
end Op
set_option Elab.async false
set_option linter.all false
set_option maxRecDepth 100000
set_option maxHeartbeats 1000000
namespace T29
open PySem PySem.Spec PyProof.Rows L2 Gd Zn Rp Dn Tb Gn En Zs Ct Op
abbrev st_T (i : Nat) : Stmt := inClass (top 36) i
def fldsT (r : V) : List (Str × V) := putF "_rows" r []
theorem fldsT_rows (r : V) : (fldsT r).lookup ("_rows" : Str) = some r := by
  unfold fldsT
  rw [lookup_putF, if_pos rfl]
def Tab (C : Addr) (H : Hp) (v : V) (M : List (List Int)) : Prop := ∃ p dx r, v = .ref p ∧ H p = some (.ins C dx (fldsT r)) ∧ Mx H r M
theorem Tab.mono {C : Addr} {H H' : Hp} {v : V} {M : List (List Int)} (s : KS H H') (h : Tab C H v M) : Tab C H' v M := by
  obtain ⟨p, dx, r, e, h, m⟩ := h
  exact ⟨p, dx, r, e, s p _ (fun _ z => by cases z) h, m.mono s⟩
theorem RowsV.tup_mono {H H' : Hp} {vs : List V} {M : List (List Int)} (s : ∀ c xs, H c = some (.tup xs) → H' c = some (.tup xs)) (h : RowsV H vs M) : RowsV H' vs M := by
  induction h with
  | nil => exact .nil
  | cons p _ ih =>
    obtain ⟨b, e, h⟩ := p
    exact .cons ⟨b, e, s _ _ h⟩ ih
theorem Mx.tup_mono {H H' : Hp} {v : V} {M : List (List Int)} (s : ∀ c xs, H c = some (.tup xs) → H' c = some (.tup xs)) (h : Mx H v M) : Mx H' v M := by
  obtain ⟨a, vs, e, h, r⟩ := h
  exact ⟨a, vs, e, s _ _ h, T29.RowsV.tup_mono s r⟩
structure Tcl (K : PySem.W.Frag) (mg : Str → Option Value) (C : Addr) : Prop where
  cl : Cls K C
  nR : NoAttr K C "_rows"
  mgC : mg "Table" = some (.ref C)
  cc : PySem.W.findIn K (.ref C) "__class__" = some (some (.builtin "object.__class__"))
  cg : PySem.W.specialIn K (.builtin "object.__class__") "__get__" = some (some (.builtin "getset_descriptor.__get__"))
  ct : PySem.W.takesIn K (.builtin "object.__class__") = some true
  cm : PySem.W.mroIn K C (.type "object") = some true
theorem Tcl.ty {K : PySem.W.Frag} {mg : Str → Option Value} {C : Addr} (T : Tcl K mg C) {H : Hp} {p dx : Addr} {fs : List (Str × V)} (h : H p = some (.ins C dx fs)) : TyX K H (.ref p) (.ref C) := .base (.ins h T.cl T.cc T.cg T.ct T.cm)
theorem kit_own (K : PySem.W.Frag) (C : Addr) : PySem.W.kitOne K (.ref C) (.ref C) = some true := by
  unfold PySem.W.kitOne
  rw [if_pos (by simp)]
theorem row_true {n : Nat} {r : List Int} {d : PyData} (hd : d = .list (iD r) ∨ d = .tuple (iD r)) (h1 : 1 ≤ n) (h3 : n ≤ 3) (hl : r.length = n) : rowOfB n d = true := by
  have e1 : isSeq d = true := by rcases hd with rfl | rfl <;> rfl
  have e2 : items d = iD r := by rcases hd with rfl | rfl <;> rfl
  have e3 : (iD r).length = n := by unfold iD; rw [List.length_map]; exact hl
  have e4 : (iD r).all isIntD = true := by
    unfold iD
    rw [List.all_map]
    simp [isIntD, Function.comp_def]
  unfold rowOfB rowB
  rw [e1, e2, e3, e4, decide_eq_true h1, decide_eq_true h3, decide_eq_true rfl]
  rfl
theorem grid_true {n : Nat} {d : PyData} {M : List (List Int)} (g : GridD d M) (h1 : 1 ≤ n) (h3 : n ≤ 3) (hS : Sq n M) : gridB d = true ∧ ∀ r ∈ items d, (items r).length = n := by
  obtain ⟨g1, g2, g3⟩ := g
  have hl : (items d).length = n := by rw [g2]; exact hS.len
  have hr : ∀ d' ∈ items d, ∃ r, r.length = n ∧ (d' = .list (iD r) ∨ d' = .tuple (iD r)) := fun d' hd => by
    obtain ⟨i, hi, e⟩ := List.getElem_of_mem hd
    obtain ⟨r, er, h⟩ := g3 i d' (by rw [List.getElem?_eq_getElem hi, e])
    exact ⟨r, hS.row r (List.mem_of_getElem? er), h⟩
  refine ⟨?_, fun d' hd => ?_⟩
  · unfold gridB
    rw [g1, hl, decide_eq_true (show 0 < n by omega), Bool.and_true, Bool.true_and, List.all_eq_true]
    intro d' hd
    obtain ⟨r, l, h⟩ := hr d' hd
    exact row_true h h1 h3 l
  · obtain ⟨r, l, h⟩ := hr d' hd
    rcases h with rfl | rfl
    · show (iD r).length = n
      unfold iD
      rw [List.length_map]; exact l
    · show (iD r).length = n
      unfold iD
      rw [List.length_map]; exact l
section
variable {P : Program} {w : World} {K : PySem.W.Frag} {mg : Str → Option Value} {base : Heap} {C : Addr}
def sp_init (C : Addr) : Sp := fun vs H Q _ => ∃ p dx v d M n, vs = [.ref p, v] ∧ H p = some (.ins C dx []) ∧ AnyV H v d ∧ GridD d M ∧ Sq n M ∧ 1 ≤ n ∧ n ≤ 3 ∧ (detM n M = 1 ∨ detM n M = -1) ∧
  ∀ H', (∀ c o, c ≠ p → H c = some o → H' c = some o) → Tab C H' (.ref p) M → Q .non H'
theorem sc_init : FnScope ["self", "rows", "kept"] ["self", "rows"] (defScope (st_T 0)) := ⟨rfl, rfl, rfl, by decide +kernel, rfl, by decide +kernel, by decide +kernel⟩
theorem ok_init {f : Addr} {fd : FuncData} (F : Fun K "__init__" "Table.__init__" (st_T 0) f fd) (T : Txt mg) (Tc : Tcl K mg C) (D1 : Def P w K mg base "is_grid" 4 ["value"] sp_is_grid) (D2 : Def P w K mg base "copied" 1 ["rows"] sp_copied)
    (D3 : ∀ n, Def P w K mg base "determinant_of" (2 * n + 1) ["rows"] (sp_det n)) : FnOk P w K mg base CX0 8 f fd ["self", "rows"] (sp_init C) := by
  refine F.ok sc_init (fun vs H Q E h => ?_) (fun cdv A outer s H vs Q E hr h => ?_)
  · obtain ⟨p, dx, v, d, M, n, rfl, _⟩ := h
    rfl
  · obtain ⟨p, dx, v, d, M, n, rfl, hp, av, g, hS, h1, h3, hdet, q⟩ := h
    obtain ⟨gt, gl⟩ := grid_true g h1 h3 hS
    refine ⟨_, pss_cons (ps_if (pt_not (pt_val (pe_def D1 hr (pa_cons (pv 1) pa_nil)))) pss_dead pss_nil)
      (pss_cons (ps_set (i := 2) sc_init.nd rfl (Or.inl rfl) (pe_def D2 hr (pa_cons (pv 1) pa_nil)))
      (pss_cons (ps_if (pt_cmpR op_notIn_seq (pe_def (D3 n) hr (pa_cons (pv 2) pa_nil) (by omega)) (pe_tup (pa_cons pe_int (pa_cons (pe_un un_neg pe_int) pa_nil))) (by rfl)) pss_dead pss_nil)
      (pss_one (ps_fld (pv 0) (pv 2) rfl)))), ?_⟩
    have hl : (items d).length = n := by rw [g.2.1]; exact hS.len
    refine ⟨_, rfl, v, d, rfl, av, by omega, fun r hr => by rw [gl r hr]; omega, fun H1 s1 => ⟨_, rfl, ?_⟩⟩
    rw [gt]
    refine iteF ?_
    refine ⟨_, rfl, v, d, M, rfl, av.mono s1, g, by rw [hS.len]; omega, fun v' H2 s2 hM => ?_⟩
    refine ⟨_, rfl, v', M, rfl, hM, by omega, hS, fun H3 s3 => ?_⟩
    refine ⟨_, rfl, (by show 2 ≤ sizeLine; decide), fun t nt => ?_⟩
    refine ⟨t, _, rfl, .inr (.inl (.inl upd_same)), rfl, rfl, _, rfl, ?_⟩
    have hin : (if true = true then !inV (V.int (detM n M)) [V.int 1, V.int (-1)] else inV (V.int (detM n M)) [V.int 1, V.int (-1)]) = false := by
      rcases hdet with e | e <;> rw [e] <;> decide +kernel
    rw [hin]
    refine iteF ?_
    have sT : Same H3 (upd H3 t (.tup [V.int 1, V.int (-1)])) := same_new nt
    have sA : Same H (upd H3 t (.tup [V.int 1, V.int (-1)])) := s1.trans (s2.trans (s3.trans sT))
    refine ⟨_, rfl, _, rfl, p, C, dx, [], rfl, sA _ _ hp, Tc.cl, Tc.nR, (by show 0 < 1000; decide), ?_⟩
    refine q _ (fun c o hc e => ?_) ?_
    · rw [upd_ne hc]
      exact sA _ _ e
    · refine ⟨p, dx, v', rfl, upd_same, T29.Mx.tup_mono (fun c xs e => ?_) hM⟩
      have e2 := (s3.trans sT) _ _ e
      have nc : c ≠ p := fun z => by
        subst z
        have := sA _ _ hp
        rw [e2] at this
        cases this
      rw [upd_ne nc]
      exact e2
end
end T29
set_option Elab.async false
set_option linter.all false
set_option maxRecDepth 100000
set_option maxHeartbeats 1000000
namespace T29
open PySem PySem.Spec PyProof.Rows L2 Gd Zn Rp Dn Tb Gn En Zs Ct Op
structure Prp (P : Program) (w : World) (K : PySem.W.Frag) (mg : Str → Option Value) (base : Heap) (C : Addr) (nm : Str) (k : Nat) (sp : Sp) : Prop where
  ex : ∃ (p g : Addr) (fd : FuncData), PropOf K C nm p g ∧ FnOk P w K mg base CX0 k g fd ["self"] sp ∧ Binds K fd ["self"] []
theorem pe_prp {X : Cx} {C : Addr} {nm : Str} {k j : Nat} {sp : Sp} {e : Expr} {ta : TE} {pos : Pos} (D : Prp X.prog X.w X.K X.mg X.base C nm k sp) (cl : Cls X.K C) (room : Room j X.A) (he : PE X e ta) (hkj : k + 1 ≤ j := by decide)
    (ha : PySem.attributeBase e nm X.env (PySem.eval e X.env) = PySem.eval e X.env := by rfl) : PE X (.Attribute e nm pos) (tProp C sp [] E0 ta) := by
  obtain ⟨p, g, fd, pr, G, b⟩ := D.ex
  exact pe_prop he cl pr G (room.mono hkj) b .nil pass0 ha
section
variable {P : Program} {w : World} {K : PySem.W.Frag} {mg : Str → Option Value} {base : Heap} {C : Addr}
def sp_rows (C : Addr) : Sp := fun vs H Q _ => ∃ v M, vs = [v] ∧ Tab C H v M ∧ ∀ r, Mx H r M → Q r H
theorem sc_rows : FnScope ["self"] ["self"] (defScope (st_T 1)) := ⟨rfl, rfl, rfl, by decide +kernel, rfl, by decide +kernel, by decide +kernel⟩
theorem ok_rows {f : Addr} {fd : FuncData} (F : Fun K "rows" "Table.rows" (st_T 1) f fd) (Tc : Tcl K mg C) : FnOk P w K mg base CX0 1 f fd ["self"] (sp_rows C) := by
  refine F.ok sc_rows (fun vs H Q E h => ?_) (fun cdv A outer s H vs Q E hr h => ?_)
  · obtain ⟨v, M, rfl, _⟩ := h
    rfl
  · obtain ⟨v, M, rfl, ⟨p, dx, r, rfl, hp, hM⟩, q⟩ := h
    refine ⟨_, pss_one (ps_ret (pe_fld (pv 0) rfl)), ?_⟩
    exact ⟨_, rfl, p, C, dx, _, _, rfl, hp, Tc.cl, Tc.nR, fldsT_rows _, q r hM⟩
def sp_size (C : Addr) : Sp := fun vs H Q _ => ∃ v M, vs = [v] ∧ Tab C H v M ∧ Q (.int M.length) H
theorem sc_size : FnScope ["self"] ["self"] (defScope (st_T 2)) := ⟨rfl, rfl, rfl, by decide +kernel, rfl, by decide +kernel, by decide +kernel⟩
theorem ok_size {f : Addr} {fd : FuncData} (F : Fun K "size" "Table.size" (st_T 2) f fd) (T : Txt mg) (Tc : Tcl K mg C) : FnOk P w K mg base CX0 1 f fd ["self"] (sp_size C) := by
  refine F.ok sc_size (fun vs H Q E h => ?_) (fun cdv A outer s H vs Q E hr h => ?_)
  · obtain ⟨v, M, rfl, _⟩ := h
    rfl
  · obtain ⟨v, M, rfl, ⟨p, dx, r, rfl, hp, a, vx, rfl, ha, hR⟩, q⟩ := h
    refine ⟨_, pss_one (ps_ret (pe_callB (r := Dn.rLen K) c_len (by rfl) T.len PySem.boot_len (pa_cons (pe_fld (pv 0) rfl) pa_nil))), ?_⟩
    refine ⟨_, rfl, p, C, dx, _, _, rfl, hp, Tc.cl, Tc.nR, fldsT_rows _, a, vx, rfl, .inr (.inl (.inl ha)), ?_⟩
    rw [hR.len]
    exact q
abbrev st_check_table : Stmt := top 37
def sp_check_table (C : Addr) : Sp := fun vs H Q _ => ∃ v M, vs = [v] ∧ Tab C H v M ∧ Q .non H
theorem sc_check_table : FnScope ["table"] ["table"] (defScope st_check_table) := ⟨rfl, rfl, rfl, by decide +kernel, rfl, by decide +kernel, by decide +kernel⟩
theorem ok_check_table {f : Addr} {fd : FuncData} (F : Fun K "check_table" "check_table" st_check_table f fd) (T : Txt mg) (Tc : Tcl K mg C) :
    FnOk P w K mg base CX0 1 f fd ["table"] (sp_check_table C) := by
  refine F.ok sc_check_table (fun vs H Q E h => ?_) (fun cdv A outer s H vs Q E hr h => ?_)
  · obtain ⟨v, M, rfl, _⟩ := h
    rfl
  · obtain ⟨v, M, rfl, ⟨p, dx, r, rfl, hp, hM⟩, q⟩ := h
    refine ⟨_, pss_one (ps_if (pt_not (pt_val (pe_callB (r := rIsi K) call_isi (by rfl) T.isi boot_isinstance (pa_cons (pv 0) (pa_cons (pe_glob (v := .ref C) (by rfl) Tc.mgC rfl) pa_nil))))) pss_dead pss_nil), ?_⟩
    refine ⟨_, rfl, .ref p, .ref C, _, _, _, rfl, .own C, Tc.ty hp, kit_own K C, _, rfl, ?_⟩
    exact iteF q
abbrev st_check_alike : Stmt := top 38
def sp_check_alike (C : Addr) : Sp := fun vs H Q _ => ∃ v o M N, vs = [v, o] ∧ Tab C H v M ∧ Tab C H o N ∧ M.length = N.length ∧ Q .non H
theorem sc_check_alike : FnScope ["one", "other"] ["one", "other"] (defScope st_check_alike) := ⟨rfl, rfl, rfl, by decide +kernel, rfl, by decide +kernel, by decide +kernel⟩
theorem ok_check_alike {f : Addr} {fd : FuncData} (F : Fun K "check_alike" "check_alike" st_check_alike f fd) (Tc : Tcl K mg C) (D1 : Prp P w K mg base C "size" 1 (sp_size C)) : FnOk P w K mg base CX0 3 f fd ["one", "other"] (sp_check_alike C) := by
  refine F.ok sc_check_alike (fun vs H Q E h => ?_) (fun cdv A outer s H vs Q E hr h => ?_)
  · obtain ⟨v, o, M, N, rfl, _⟩ := h
    rfl
  · obtain ⟨v, o, M, N, rfl, hv, ho, e, q⟩ := h
    refine ⟨_, pss_one (ps_if (pt_cmpR op_ne (pe_prp D1 Tc.cl hr (pv 0)) (pe_prp D1 Tc.cl hr (pv 1)) (nomark _)) pss_dead pss_nil), ?_⟩
    obtain ⟨p, dx, r, rfl, hp, hM⟩ := id hv
    obtain ⟨p2, dx2, r2, rfl, hp2, hM2⟩ := id ho
    refine ⟨_, rfl, p, dx, _, rfl, hp, _, M, rfl, hv, ?_⟩
    refine ⟨_, rfl, p2, dx2, _, rfl, hp2, _, N, rfl, ho, ?_⟩
    refine ⟨rfl, _, rfl, ?_⟩
    rw [show (!decide (V.int (M.length : Int) = V.int (N.length : Int))) = false by rw [e]; simp]
    exact iteF q
end
end T29
set_option Elab.async false
set_option linter.all false
set_option maxRecDepth 100000
set_option maxHeartbeats 1000000
namespace T29
open PySem PySem.Spec PyProof.Rows L2 Gd Zn Rp Dn Tb Gn En Zs Ct Op
structure Mkr (P : Program) (w : World) (K : PySem.W.Frag) (mg : Str → Option Value) (base : Heap) (C : Addr) : Prop where
  ex : ∃ (f : Addr) (fd : FuncData), Mk K C f ∧ FnOk P w K mg base CX0 8 f fd ["self", "rows"] (sp_init C) ∧ Binds K fd ["self", "rows"] []
theorem pe_mkr {X : Cx} {C : Addr} {j : Nat} {e : Expr} {t : TA} {p pos : Pos} (D : Mkr X.prog X.w X.K X.mg X.base C) (Tc : Tcl X.K X.mg C) (room : Room j X.A) (ha : PA X [e] t) (hkj : 9 ≤ j := by decide) (hg : Gl X "Table" := by rfl)
    (he : starEach [e] X.env = (false, eval e X.env) :: starEach [] X.env := by rfl) (hpl : (backTo pos (starEach [] X.env)).any (·.1) = false := by rfl) :
    PE X (.Call (.Name "Table" p) [e] [] pos) (tMake C (sp_init C) [] E0 t) := by
  obtain ⟨f, fd, m, G, b⟩ := D.ex
  exact pe_make m G (room.mono hkj) hg Tc.mgC b .nil pass0 ha (by decide +kernel) he hpl
theorem make_tab {C : Addr} {H : Hp} {v : V} {M : List (List Int)} {n : Nat} {Q : VK} {E : XK} (hM : Mx H v M) (hS : Sq n M) (h1 : 1 ≤ n) (h3 : n ≤ 3) (hd : detM n M = 1 ∨ detM n M = -1)
    (k : ∀ c H', Same H H' → Tab C H' (.ref c) M → Q (.ref c) H') : ∀ x dx : Addr, H x = none → H dx = none → dx ≠ x → sp_init C (V.ref x :: ([v] ++ [])) (upd (upd H dx (.own x)) x (.ins C dx [])) (fun u H2 => u = V.non ∧ Q (.ref x) H2) E := by
  intro x dx nx nd ne
  have s : Same H (upd (upd H dx (.own x)) x (.ins C dx [])) := fun c o e => by
    rw [upd_ne (ne_of_none e nx), upd_ne (ne_of_none e nd)]
    exact e
  refine ⟨x, dx, v, mxD M, M, n, rfl, upd_same, .inl (hM.mono (KS.of s)).py, grid_mx M, hS, h1, h3, hd, fun H' kp ht => ⟨rfl, k x H' (fun c o e => ?_) ht⟩⟩
  exact kp c o (ne_of_none e nx) (s c o e)
section
variable {P : Program} {w : World} {K : PySem.W.Frag} {mg : Str → Option Value} {base : Heap} {C : Addr}
def sp_mul (C : Addr) : Sp := fun vs H Q _ => ∃ v o M N, ∃ n : Nat, vs = [v, o] ∧ Tab C H v M ∧ Tab C H o N ∧ 1 ≤ n ∧ n ≤ 3 ∧ Sq n M ∧ Sq n N ∧ Sq n (mulM n M N) ∧ (detM n (mulM n M N) = 1 ∨ detM n (mulM n M N) = -1) ∧
  ∀ c H', Same H H' → Tab C H' (.ref c) (mulM n M N) → Q (.ref c) H'
theorem sc_mul : FnScope ["self", "other"] ["self", "other"] (defScope (st_T 7)) := ⟨rfl, rfl, rfl, by decide +kernel, rfl, by decide +kernel, by decide +kernel⟩
theorem ok_mul {f : Addr} {fd : FuncData} (F : Fun K "__mul__" "Table.__mul__" (st_T 7) f fd) (Tc : Tcl K mg C) (D1 : Def P w K mg base "check_table" 1 ["table"] (sp_check_table C)) (D2 : Def P w K mg base "check_alike" 3 ["one", "other"] (sp_check_alike C))
    (D3 : Def P w K mg base "multiplied" 3 ["rows", "others"] sp_multiplied) (D4 : Mkr P w K mg base C) (D5 : Prp P w K mg base C "rows" 1 (sp_rows C)) : FnOk P w K mg base CX0 10 f fd ["self", "other"] (sp_mul C) := by
  refine F.ok sc_mul (fun vs H Q E h => ?_) (fun cdv A outer s H vs Q E hr h => ?_)
  · obtain ⟨v, o, M, N, n, rfl, _⟩ := h
    rfl
  · obtain ⟨v, o, M, N, n, rfl, hv, ho, h1, h3, sM, sN, sMN, hd, q⟩ := h
    refine ⟨_, pss_cons (ps_expr (pe_def D1 hr (pa_cons (pv 1) pa_nil)))
      (pss_cons (ps_expr (pe_def D2 hr (pa_cons (pv 0) (pa_cons (pv 1) pa_nil))))
      (pss_one (ps_ret (pe_mkr D4 Tc hr (pa_cons (pe_def D3 hr (pa_cons (pe_fld (pv 0) rfl) (pa_cons (pe_prp D5 Tc.cl hr (pv 1)) pa_nil))) pa_nil))))), ?_⟩
    refine ⟨_, rfl, o, N, rfl, ho, ?_⟩
    refine ⟨_, rfl, _, rfl, v, o, M, N, rfl, hv, ho, by rw [sM.len, sN.len], ?_⟩
    obtain ⟨p, dx, r, rfl, hp, hM⟩ := id hv
    obtain ⟨p2, dx2, r2, rfl, hp2, hN⟩ := id ho
    refine ⟨_, rfl, p, C, dx, _, _, rfl, hp, Tc.cl, Tc.nR, fldsT_rows _, ?_⟩
    refine ⟨_, rfl, p2, dx2, _, rfl, hp2, _, N, rfl, ho, fun r3 hN3 => ?_⟩
    refine ⟨r, r3, M, N, n, rfl, hM, hN3, by rw [sM.len]; omega, by rw [sN.len]; omega, by rw [sN.len]; omega, by omega, fun c hc => ⟨by rw [sM.row c hc, sN.len], sM.small c hc⟩, fun c hc => ⟨sN.row c hc, sN.small c hc⟩, fun v' H' s' hMN => ?_⟩
    exact make_tab hMN sMN h1 h3 hd fun c H2 s2 ht => q c H2 (s'.trans s2) ht
end
end T29
set_option Elab.async false
set_option linter.all false
set_option maxRecDepth 100000
set_option maxHeartbeats 1000000
set_option Elab.async false
set_option linter.all false
set_option maxRecDepth 100000
set_option maxHeartbeats 1000000
namespace T29
open PySem PySem.Spec PyProof.Rows L2 Gd Zn Rp Dn Tb Gn En Zs Ct Op
def unitM (n : Nat) : List (List Int) := (List.range n).map fun i => (List.range n).map fun j => if j = i then 1 else 0
theorem unit_sq (n : Nat) : Sq n (unitM n) := by
  refine ⟨by unfold unitM; simp, fun r hr => ?_, fun r hr x hx => ?_⟩
  · unfold unitM at hr
    rw [List.mem_map] at hr
    obtain ⟨i, _, rfl⟩ := hr
    simp
  · unfold unitM at hr
    rw [List.mem_map] at hr
    obtain ⟨i, _, rfl⟩ := hr
    rw [List.mem_map] at hx
    obtain ⟨j, _, rfl⟩ := hx
    show Small (if j = i then 1 else 0)
    by_cases h : j = i
    · rw [if_pos h]; exact Wd.lit ⟨by decide, by decide⟩
    · rw [if_neg h]; exact Wd.lit ⟨by decide, by decide⟩
section
variable {P : Program} {w : World} {K : PySem.W.Frag} {mg : Str → Option Value} {base : Heap} {C : Addr}
def sp_unit_rows : Sp := fun vs H Q _ => ∃ n : Nat, vs = [.int n] ∧ n ≤ 3 ∧ ∀ v' H', Same H H' → Mx H' v' (unitM n) → Q v' H'
def sp_check_size : Sp := fun vs H Q _ => ∃ n : Nat, vs = [.int n] ∧ 1 ≤ n ∧ n ≤ 3 ∧ ∀ H', Same H H' → Q .non H'
def sp_idle (C : Addr) : Sp := fun vs H Q _ => ∃ n : Nat, vs = [.int n] ∧ 1 ≤ n ∧ n ≤ 3 ∧ ∀ c H', Same H H' → Tab C H' (.ref c) (unitM n) → Q (.ref c) H'
theorem det_unit (n : Nat) (h : n ≤ 3) : detM n (unitM n) = 1 := by
  have : n = 0 ∨ n = 1 ∨ n = 2 ∨ n = 3 := by omega
  rcases this with rfl | rfl | rfl | rfl <;> simp [detM, cofM, unitM, outM, outW, cutAt, List.range_succ, List.getD]
abbrev st_check_size : Stmt := top 22
theorem sc_check_size : FnScope ["size"] ["size"] (defScope st_check_size) := ⟨rfl, rfl, rfl, by decide +kernel, rfl, by decide +kernel, by decide +kernel⟩
theorem ok_check_size {f : Addr} {fd : FuncData} (F : Fun K "check_size" "check_size" st_check_size f fd) (D1 : Def P w K mg base "is_integer" 1 ["value"] sp_is_integer) : FnOk P w K mg base CX0 2 f fd ["size"] sp_check_size := by
  refine F.ok sc_check_size (fun vs H Q E h => ?_) (fun cdv A outer s H vs Q E hr h => ?_)
  · obtain ⟨n, rfl, _⟩ := h
    rfl
  · obtain ⟨n, rfl, h1, h3, q⟩ := h
    refine ⟨_, pss_one (ps_if (PW.pt (pw_or (pt_not (pt_val (pe_def D1 hr (pa_cons (pv 0) pa_nil)))) (pw_or1 (pt_not (pt_chain op_le op_le pe_int (pv 0) pe_int))))) pss_dead pss_nil), ?_⟩
    refine ⟨_, rfl, _, .int n, rfl, .inl (.int n), fun H1 s1 => ⟨_, rfl, ?_⟩⟩
    refine iteF ?_
    refine ⟨_, rfl, _, _, rfl, rfl, _, rfl, ?_⟩
    rw [decide_eq_true (show (1 : Int) ≤ n by omega)]
    refine iteT ⟨_, _, rfl, rfl, _, rfl, ?_⟩
    rw [decide_eq_true (show (n : Int) ≤ 3 by omega)]
    exact iteF (q H1 s1)
abbrev st_unit_rows : Stmt := top 24
abbrev N_unit : List Str := ["many", "at", "place"]
theorem sc_unit : FnScope N_unit ["many"] (defScope st_unit_rows) := ⟨rfl, rfl, rfl, by decide +kernel, rfl, by decide +kernel, by decide +kernel⟩
theorem ok_unit_rows {f : Addr} {fd : FuncData} (F : Fun K "unit_rows" "unit_rows" st_unit_rows f fd) (T : Txt mg) : FnOk P w K mg base CX0 1 f fd ["many"] sp_unit_rows := by
  refine F.ok sc_unit (fun vs H Q E h => ?_) (fun cdv A outer s H vs Q E hr h => ?_)
  · obtain ⟨n, rfl, _⟩ := h
    rfl
  · obtain ⟨n, rfl, h3, q⟩ := h
    refine ⟨_, pss_one (ps_ret (pe_callTy (r := rTup K) c_tup (by rfl) T.tuple PyProof.Rows.boot_tuple (pa_cons (pe_lc (own := [("at", 1)]) (g := gName 1) (tt := tYes) rfl sc_unit.nd (pi_range1 (by rfl) T.range (pa_cons (pv 0) pa_nil))
        (blkOk_by (N := N_unit) (sc := defScope st_unit_rows) (by decide +kernel))
        (fun _ _ _ _ _ => pg_name (i := 1) sc_unit.nd rfl (Or.inr rfl) (Or.inl rfl)) (fun _ _ _ _ _ => pts_nil)
        (fun s' H' C' cl' fp' => by
          refine pe_callTy (r := rTup K) c_tup (by rfl) T.tuple PyProof.Rows.boot_tuple (pa_cons (pe_lc (own := [("place", 2)]) (wi := iRng1 (tCons (tVar 0) tNil)) (g := gName 2) (tt := tYes) (te := tIf (tTest (tOp rEq (tVar 2) (tVar 1))) (tC (.int 1)) (tC (.int 0))) rfl sc_unit.nd ?p1 ?p2 ?p3 ?p4 ?p5) pa_nil)
          case p1 => exact pi_range1 (by rfl) T.range (pa_cons (pv 0) pa_nil)
          case p2 => exact blkOk_by (N := N_unit) (by rfl)
          case p3 => exact (fun _ _ _ _ _ => pg_name (i := 2) sc_unit.nd rfl (Or.inl rfl) (Or.inr rfl))
          case p4 => exact (fun _ _ _ _ _ => pts_nil)
          case p5 => exact (fun _ _ _ _ _ => pe_ifExp (pt_cmpR op_eq (pv 2) (pv 1) (nomark _)) pe_int pe_int))) pa_nil))), ?_⟩
    refine r_ret (r_cb (r_cons ?_))
    refine tlc_of (Itr 0 n) (H1 := H) (fun R hR => ⟨_, rfl, (n : Int), rfl, by omega, by omega, hR⟩) ?_
    refine lc_ks (p := none) n (fun i v H => ∃ r, (unitM n)[i]? = some r ∧ RowV H v r) (fun i v H H' k h => ?_) has_none (by omega) (fun i H2 hi s2 => hi) (fun H2 s2 => Nat.le_refl _) (fun i x H2 H3 C' hi s2 _ hy hC => ?_) fun Da H2 rs nD s2 hD hrl hE => ?_
    · obtain ⟨r, e, h⟩ := h
      exact ⟨r, e, h.mono k⟩
    · obtain ⟨rfl, rfl⟩ := hy
      have eM : (unitM n)[i]? = some ((List.range n).map fun j => if j = i then 1 else 0) := by unfold unitM; rw [List.getElem?_map, List.getElem?_range hi]; rfl
      refine ⟨rfl, ?_⟩
      refine r_cb (r_cons ?_)
      refine tlc_of (Itr 0 n) (H1 := H3) (fun R hR => ⟨_, rfl, (n : Int), rfl, by omega, by omega, hR⟩) ?_
      refine lc_el (p := none) n (fun j v => v = .int (if j = i then 1 else 0)) has_none (by omega) (fun j H4 hj s4 => hj) (fun H4 s4 => Nat.le_refl _) (fun j x H4 H5 C2 hj s4 _ hy2 hC2 => ?_) fun Db H4 ys nDb s4 hDb hyl hyE => ?_
      · obtain ⟨rfl, rfl⟩ := hy2
        refine ⟨rfl, ?_⟩
        refine ⟨_, rfl, _, rfl, rfl, _, rfl, ?_⟩
        by_cases z : j = i
        · rw [decide_eq_true (show V.int (0 + (j : Int)) = V.int (0 + (i : Int)) by rw [z])]
          refine iteT ?_
          exact hC2 _ _ (RX.refl _) (by rw [if_pos z])
        · rw [decide_eq_false (show ¬ V.int (0 + (j : Int)) = V.int (0 + (i : Int)) from fun e => z (by have := V.int.inj e; omega))]
          refine iteF ?_
          exact hC2 _ _ (RX.refl _) (by rw [if_neg z])
      · have ey : ys = (List.range n).map fun j => V.int (if j = i then 1 else 0) := map_of_get (n := 0) _ (by rw [hyl, List.length_range]) fun j v e => by
          have hj : j < n := by rw [← hyl]; exact (List.getElem?_eq_some_iff.mp e).1
          exact ⟨j, List.getElem?_range hj, hyE j v e⟩
        refine ⟨Db, ys, rfl, .inl ⟨.inl (.inl hDb), fun l nl => ?_⟩⟩
        refine hC _ _ (RX.of (s4.same.trans (same_new nl))) ⟨_, eM, l, rfl, ?_⟩
        rw [upd_same, ey, List.map_map]
        rfl
    · refine ⟨Da, rs, rfl, .inl ⟨.inl (.inl hD), fun l nl => ?_⟩⟩
      have k : Same H2 (upd H2 l (.tup rs)) := same_new nl
      refine q _ _ (s2.same.trans k) ⟨l, rs, rfl, upd_same, ?_⟩
      exact (rows_of (by rw [hrl, (unit_sq n).len]) hE).mono (KS.of k)
end
end T29
set_option Elab.async false
set_option linter.all false
set_option maxRecDepth 100000
set_option maxHeartbeats 1000000
namespace T29
open PySem PySem.Spec PyProof.Rows L2 Gd Zn Rp Dn Tb Gn En Zs Ct Op
theorem eqv_row : ∀ (r t : List Int), PyData.eqvAll (r.map PyData.int) (t.map PyData.int) = decide (r = t)
  | [], [] => by simp [PyData.eqvAll]
  | [], _ :: _ => by simp [PyData.eqvAll]
  | _ :: _, [] => by simp [PyData.eqvAll]
  | x :: r, y :: t => by
    rw [List.map_cons, List.map_cons, PyData.eqvAll, eqv_row r t, PyData.eqv]
    by_cases h : x = y <;> by_cases h2 : r = t <;> simp [h, h2]
theorem eqv_rows : ∀ (M N : List (List Int)), PyData.eqvAll (M.map fun r => .tuple (r.map PyData.int)) (N.map fun r => .tuple (r.map PyData.int)) = decide (M = N)
  | [], [] => by simp [PyData.eqvAll]
  | [], _ :: _ => by simp [PyData.eqvAll]
  | _ :: _, [] => by simp [PyData.eqvAll]
  | x :: r, y :: t => by
    rw [List.map_cons, List.map_cons, PyData.eqvAll, eqv_rows r t, PyData.eqv, eqv_row]
    by_cases h : x = y <;> by_cases h2 : r = t <;> simp [h, h2]
theorem eqv_mx (M N : List (List Int)) : (mxD M).eqv (mxD N) = decide (M = N) := by
  unfold mxD
  rw [PyData.eqv, eqv_rows]
theorem dp_ints {K : PySem.W.Frag} {H : Hp} : ∀ r : List Int, DpAll K H (r.map V.int) (r.map PyData.int)
  | [] => .nil
  | x :: r => .cons (.int x) (dp_ints r)
theorem dp_rows {K : PySem.W.Frag} {H : Hp} {vs : List V} {M : List (List Int)} (h : RowsV H vs M) : DpAll K H vs (M.map fun r => .tuple (r.map PyData.int)) := by
  induction h with
  | nil => exact .nil
  | cons p _ ih =>
    obtain ⟨b, rfl, hb⟩ := p
    exact .cons (.tup (.inl (.inl hb)) (dp_ints _)) ih
theorem dp_mx {K : PySem.W.Frag} {H : Hp} {v : V} {M : List (List Int)} (h : Mx H v M) : Dp K H v (mxD M) := by
  obtain ⟨a, vs, rfl, ha, hR⟩ := h
  exact .tup (.inl (.inl ha)) (dp_rows hR)
theorem depth_row (r : List Int) : PyData.depthAll (r.map PyData.int) = 0 := by
  induction r with
  | nil => simp [PyData.depthAll]
  | cons x r ih => rw [List.map_cons, PyData.depthAll, ih, PyData.depth]; rfl
theorem depth_rows (M : List (List Int)) : PyData.depthAll (M.map fun r => .tuple (r.map PyData.int)) ≤ 1 := by
  induction M with
  | nil => simp [PyData.depthAll]
  | cons x r ih =>
    rw [List.map_cons, PyData.depthAll, PyData.depth, depth_row]
    omega
theorem lay_row (r : List Int) : PyData.canLayAll0 (r.map PyData.int) = true := by
  induction r with
  | nil => simp [PyData.canLayAll0]
  | cons x r ih => rw [List.map_cons, PyData.canLayAll0, ih, PyData.canLay0]; rfl
theorem lay_rows (M : List (List Int)) : PyData.canLayAll0 (M.map fun r => .tuple (r.map PyData.int)) = true := by
  induction M with
  | nil => simp [PyData.canLayAll0]
  | cons x r ih => rw [List.map_cons, PyData.canLayAll0, ih, PyData.canLay0, lay_row]; rfl
theorem shaped_mx (M : List (List Int)) : SeqAt.shaped (mxD M) = true := by
  unfold SeqAt.shaped mxD
  rw [PyData.canLay0, lay_rows, PyData.depth]
  have := depth_rows M
  simp
  omega
/-- two tables of tuples are compared -/
theorem r_eqMx {K : PySem.W.Frag} {H : Hp} {x y : V} {M N : List (List Int)} {Q : VK} (hx : Mx H x M) (hy : Mx H y N) (q : Q (.bl (decide (M = N))) H) : rEqD K x y H Q := by
  refine ⟨mxD M, mxD N, dp_mx hx, dp_mx hy, shaped_mx M, shaped_mx N, ?_⟩
  rw [eqv_mx]
  exact q
structure Mtd (P : Program) (w : World) (K : PySem.W.Frag) (mg : Str → Option Value) (base : Heap) (C : Addr) (nm : Str) (k : Nat) (ps : List Str) (sp : Sp) : Prop where
  ex : ∃ (f : Addr) (fd : FuncData), Meth K C nm f ∧ FnOk P w K mg base CX0 k f fd ps sp ∧ Binds K fd ps []
section
variable {P : Program} {w : World} {K : PySem.W.Frag} {mg : Str → Option Value} {base : Heap} {C : Addr}
theorem Tab.same {H H' : Hp} {v : V} {M : List (List Int)} (s : Same H H') (h : Tab C H v M) : Tab C H' v M := T29.Tab.mono (KS.of s) h
end
end T29
set_option Elab.async false
set_option linter.all false
set_option maxRecDepth 100000
set_option maxHeartbeats 1000000
namespace T29
open PySem PySem.Spec PyProof.Rows L2 Gd Zn Rp Dn Tb Gn En Zs Ct Op
theorem atI_of {α : Type} {xs : List α} {r : Int} {x : α} (h : 0 ≤ r) (e : xs[r.toNat]? = some x) : atI xs r = some x := by
  have := atI_nat e
  rw [show ((r.toNat : Nat) : Int) = r by omega] at this
  exact this
theorem set_pot {p : Addr} {H H1 : Hp} {a b : Int} (s : Same H H1) (ha : 0 ≤ a) (hb : 0 ≤ b) (hb2 : b < 2 ^ 32) : RX (some p) H (upd H1 p (.lst [.int a, .int b])) := by
  refine ⟨fun c o n e => ?_, fun q e _ => ?_⟩
  · have nc : c ≠ p := fun z => n (by rw [z])
    rw [upd_ne nc]
    exact s _ _ e
  · cases e
    exact ⟨a, b, upd_same, ha, hb, hb2⟩
section
variable {P : Program} {w : World} {K : PySem.W.Frag} {mg : Str → Option Value} {base : Heap} {C : Addr}
abbrev st_draw : Stmt := top 57
def sp_draw : Sp := fun vs H Q _ => ∃ (p : Addr) (m : Int), vs = [.ref p, .int m] ∧ PotOk H p ∧ 0 < m ∧ m < 1000 ∧ ∀ (r : Int) H', 0 ≤ r → r < m → RX (some p) H H' → Q (.int r) H'
theorem sc_draw : FnScope ["_law_pot_here", "_law_size", "_law_digit"] ["_law_pot_here", "_law_size"] (defScope st_draw) := ⟨rfl, rfl, rfl, by decide +kernel, rfl, by decide +kernel, by decide +kernel⟩
theorem ok_draw {f : Addr} {fd : FuncData} (F : Fun K "_law_draw" "_law_draw" st_draw f fd) (T : Txt mg) : FnOk P w K mg base CX0 1 f fd ["_law_pot_here", "_law_size"] sp_draw := by
  refine F.ok sc_draw (fun vs H Q E h => ?_) (fun cdv A outer s H vs Q E hr h => ?_)
  · obtain ⟨p, m, rfl, _⟩ := h
    rfl
  · obtain ⟨p, m, rfl, ⟨a, b, hp, ha, hb, hb2⟩, m0, m1, q⟩ := h
    refine ⟨_, pss_cons (ps_if (pt_cmpR op_gt (pe_ix ix_list (pv 0) pe_int (fun _ _ => rfl)) pe_int (nomark _))
        (pss_cons (ps_asg (pe_callB call_divmod (by rfl) T.divmod boot_divmod (pa_cons (pe_ix ix_list (pv 0) pe_int (fun _ _ => rfl)) (pa_cons (pv 1) pa_nil)))
          (pg_tup rfl (pgs_cons (pg_sub (pv 0) pe_int set_list) (pgs_cons (pg_name (i := 2) sc_draw.nd rfl (Or.inl rfl)) pgs_nil)))) (pss_one (ps_ret (pv 2)))) pss_nil)
      (pss_cons (ps_asg (pe_op op_mod (pe_callTy call_int1 (by rfl) T.int PyProof.Rows.boot_int (pa_cons (pe_op op_add (pe_op op_mul (pe_ix ix_list (pv 0) pe_int (fun _ _ => rfl)) pe_int) pe_int) pa_nil)) pe_int) (pg_sub (pv 0) pe_int set_list))
      (pss_one (ps_ret (pe_op op_mod (pe_callTy call_int1 (by rfl) T.int PyProof.Rows.boot_int (pa_cons (pe_op op_fdiv (pe_op op_mod (pe_callTy call_int1 (by rfl) T.int PyProof.Rows.boot_int (pa_cons (pe_op op_mul (pe_ix ix_list (pv 0) pe_int (fun _ _ => rfl)) (pe_ix ix_list (pv 0) pe_int (fun _ _ => rfl))) pa_nil)) pe_int) pe_int) pa_nil)) (pv 1))))), ?_⟩
    have i0 : ∀ x y : V, atI [x, y] 0 = some x := fun x y => atI_nat (j := 0) rfl
    have i1 : ∀ x y : V, atI [x, y] 1 = some y := fun x y => atI_nat (j := 1) rfl
    refine ⟨_, rfl, p, _, (0 : Int), _, rfl, rfl, .inl (.inl hp), i0 _ _, _, _, rfl, rfl, _, rfl, ?_⟩
    by_cases c : 0 < a
    · rw [decide_eq_true c]
      refine iteT ?_
      refine ⟨_, rfl, p, _, (0 : Int), _, rfl, rfl, .inl (.inl hp), i0 _ _, _, rfl, _, _, rfl, ⟨m0, by omega⟩, fun t nt => ?_⟩
      have ne : p ≠ t := ne_of_none hp nt
      refine ⟨t, _, rfl, .inl (.inl upd_same), rfl, _, _, rfl, _, rfl, p, _, 0, 0, rfl, rfl, (by rw [upd_ne ne]; exact hp), rfl, _, _, rfl, rfl, ?_⟩
      refine ⟨_, rfl, ?_⟩
      refine q _ _ (Int.emod_nonneg _ (by omega)) (Int.emod_lt_of_pos _ m0) ?_
      exact set_pot (same_new nt) (Int.ediv_nonneg ha (by omega)) hb hb2
    · rw [decide_eq_false c]
      refine iteF ?_
      have hb' : (b * 39373 + 149) % 2147483587 < 2147483587 := Int.emod_lt_of_pos _ (by decide)
      have hb0 : 0 ≤ (b * 39373 + 149) % 2147483587 := Int.emod_nonneg _ (by decide)
      refine ⟨_, rfl, p, _, (1 : Int), _, rfl, rfl, .inl (.inl hp), i1 _ _, _, _, rfl, rfl, .inr ⟨by decide, by decide⟩, _, _, rfl, rfl, .inl ⟨_, rfl, _, _, rfl, rfl, (show (0 : Int) < 2147483587 by decide), _, rfl, p, _, 1, 1, rfl, rfl, hp, rfl, ?_⟩⟩
      have h2 : upd H p (.lst [V.int a, V.int ((b * 39373 + 149) % 2147483587)]) p = some (.lst [V.int a, V.int ((b * 39373 + 149) % 2147483587)]) := upd_same
      refine ⟨_, rfl, p, _, (1 : Int), _, rfl, rfl, .inl (.inl h2), i1 _ _, _, rfl, p, _, (1 : Int), _, rfl, rfl, .inl (.inl h2), i1 _ _, _, _, rfl, rfl, .inl ⟨by omega, by omega⟩, .inl ⟨_, rfl, _, _, rfl, rfl, (show (0 : Int) < 2147483563 by decide), _, _, rfl, rfl, ⟨by decide, by decide⟩, .inl ⟨_, rfl, _, rfl, _, _, rfl, rfl, m0, ?_⟩⟩⟩
      exact q _ _ (Int.emod_nonneg _ (by omega)) (Int.emod_lt_of_pos _ m0) (set_pot (Same.refl H) ha hb0 (by omega))
abbrev st_pick : Stmt := top 58
def sp_pick : Sp := fun vs H Q _ => ∃ (p a : Addr) (xs : List V), vs = [.ref p, .ref a] ∧ PotOk H p ∧ H a = some (.lst xs) ∧ a ≠ p ∧ 0 < xs.length ∧ xs.length < 1000 ∧ ∀ (i : Nat) (x : V) H', xs[i]? = some x → RX (some p) H H' → Q x H'
theorem sc_pick : FnScope ["_law_pot_here", "_law_some"] ["_law_pot_here", "_law_some"] (defScope st_pick) := ⟨rfl, rfl, rfl, by decide +kernel, rfl, by decide +kernel, by decide +kernel⟩
theorem ok_pick {f : Addr} {fd : FuncData} (F : Fun K "_law_pick" "_law_pick" st_pick f fd) (T : Txt mg) (D1 : Def P w K mg base "_law_draw" 1 ["_law_pot_here", "_law_size"] sp_draw) : FnOk P w K mg base CX0 2 f fd ["_law_pot_here", "_law_some"] sp_pick := by
  refine F.ok sc_pick (fun vs H Q E h => ?_) (fun cdv A outer s H vs Q E hr h => ?_)
  · obtain ⟨p, a, xs, rfl, _⟩ := h
    rfl
  · obtain ⟨p, a, xs, rfl, hp, ha, nap, l0, l1, q⟩ := h
    refine ⟨_, pss_one (ps_ret (pe_ix ix_list (pv 1) (pe_def D1 hr (pa_cons (pv 0) (pa_cons (pe_callB (r := Dn.rLen K) c_len (by rfl) T.len PySem.boot_len (pa_cons (pv 1) pa_nil)) pa_nil))) (fun _ _ => rfl))), ?_⟩
    refine ⟨_, rfl, _, rfl, _, rfl, a, xs, rfl, .inl (.inl (.inl ha)), p, _, rfl, hp, by omega, by omega, fun r H' r0 r1 s => ?_⟩
    have hk : H' a = some (.lst xs) := s.keep a _ (by intro z; cases z; exact nap rfl) ha
    have hr' : r.toNat < xs.length := by omega
    have er : r = (r.toNat : Int) := by omega
    have e1 : xs[r.toNat]? = some xs[r.toNat] := List.getElem?_eq_getElem hr'
    refine ⟨a, xs, r, _, rfl, rfl, .inl (.inl hk), atI_of r0 e1, q _ _ _ e1 s⟩
end
end T29
set_option Elab.async false
set_option linter.all false
set_option maxRecDepth 100000
set_option maxHeartbeats 1000000
namespace T29
open PySem PySem.Spec PyProof.Rows L2 Gd Zn Rp Dn Tb Gn En Zs Ct Op
section
variable {P : Program} {w : World} {K : PySem.W.Frag} {mg : Str → Option Value} {base : Heap} {C : Addr}
abbrev st_pot : Stmt := top 56
def sp_pot (K : PySem.W.Frag) : Sp := fun vs H Q _ => ∃ (a : Addr) (ns : List Int) (k : Int), vs = [.ref a, .int k] ∧ SqL K H a (ns.map V.int) ∧ ns.length ≤ 63 ∧ 0 ≤ k ∧ k ≤ 2 ∧ ∀ p H', H p = none → Same H H' → PotOk H' p → Q (.ref p) H'
theorem sc_pot : FnScope ["_law_script", "_law_k", "_law_cell"] ["_law_script", "_law_k"] (defScope st_pot) := ⟨rfl, rfl, rfl, by decide +kernel, rfl, by decide +kernel, by decide +kernel⟩
theorem ok_pot {f : Addr} {fd : FuncData} (F : Fun K "_law_pot" "_law_pot" st_pot f fd) (T : Txt mg) : FnOk P w K mg base CX0 1 f fd ["_law_script", "_law_k"] (sp_pot K) := by
  refine F.ok sc_pot (fun vs H Q E h => ?_) (fun cdv A outer s H vs Q E hr h => ?_)
  · obtain ⟨a, ns, k, rfl, _⟩ := h
    rfl
  · obtain ⟨a, ns, k, rfl, hS, hl, k0, k1, q⟩ := h
    refine ⟨_, pss_cons (ps_set (i := 2) sc_pot.nd rfl (Or.inl rfl) (pe_ifExp (pt_cmpR op_lt (pv 1) (pe_callB (r := Dn.rLen K) c_len (by rfl) T.len PySem.boot_len (pa_cons (pv 0) pa_nil)) (nomark _))
        (pe_callB call_abs (by rfl) T.abs boot_abs (pa_cons (pe_ix ix_list (pv 0) (pv 1) (fun _ _ => rfl)) pa_nil)) (pe_op op_add (pe_op op_mul pe_int (pv 1)) pe_int)))
      (pss_one (ps_ret (pe_lst (pa_cons (pe_callB (call_max2 rfl) (by rfl) T.max boot_max (pa_cons pe_int (pa_cons (pe_op op_sub (pv 2) (pe_op op_pow pe_int pe_int)) pa_nil)))
        (pa_cons (pe_op op_add (pe_op op_mod (pe_callTy call_int1 (by rfl) T.int PyProof.Rows.boot_int (pa_cons (pe_op op_add (pe_op op_add (pe_op op_mul (pe_op op_mod (pe_callTy call_int1 (by rfl) T.int PyProof.Rows.boot_int (pa_cons (pv 2) pa_nil)) pe_int) pe_int) (pe_op op_mul pe_int (pv 1))) pe_int) pa_nil)) pe_int) pe_int) pa_nil))))), ?_⟩
    have fin : ∀ (c : Int) (H1 : Hp), Same H H1 → ∀ p, H1 p = none → Q (.ref p) (upd H1 p (.lst [.int (if c - 10 ^ 18 > 0 then c - 10 ^ 18 else 0), .int ((c % 2147483549 * 40507 + 1009 * k + 71) % 2147483563 + 1)])) := fun c H1 s1 p np => by
      refine q p _ (Same.free s1 np) (s1.trans (same_new np)) ⟨_, _, upd_same, ?_, ?_, ?_⟩
      · split <;> omega
      · have := Int.emod_nonneg (c % 2147483549 * 40507 + 1009 * k + 71) (show (2147483563 : Int) ≠ 0 by decide)
        omega
      · have := Int.emod_lt_of_pos (c % 2147483549 * 40507 + 1009 * k + 71) (show (0 : Int) < 2147483563 by decide)
        omega
    have m1 : ∀ c : Int, 0 ≤ c % 2147483549 := fun c => Int.emod_nonneg c (show (2147483549 : Int) ≠ 0 by decide)
    have m2 : ∀ c : Int, c % 2147483549 < 2147483549 := fun c => Int.emod_lt_of_pos c (show (0 : Int) < 2147483549 by decide)
    refine ⟨_, rfl, _, rfl, a, _, rfl, .inl hS, _, _, rfl, rfl, _, rfl, ?_⟩
    rw [List.length_map]
    by_cases c : k < (ns.length : Int)
    · rw [decide_eq_true c]
      refine iteT ?_
      have hk : k.toNat < ns.length := by omega
      have e1 : (ns.map V.int)[k.toNat]? = some (.int ns[k.toNat]) := by simp [hk]
      refine ⟨_, rfl, _, rfl, a, _, _, _, rfl, rfl, hS, atI_of k0 e1, _, rfl, ?_⟩
      refine ⟨_, rfl, _, _, rfl, rfl, ⟨by decide, by decide, by decide⟩, _, _, rfl, rfl, _, _, rfl, ?_⟩
      refine ⟨_, rfl, .inl ⟨_, rfl, _, _, rfl, rfl, (show (0 : Int) < 2147483549 by decide), _, _, rfl, rfl, .inr ⟨by decide, by decide⟩, _, rfl, _, _, rfl, rfl, .inl ⟨by decide, by decide⟩, _, _, rfl, rfl, _, _, rfl, rfl, .inl ⟨_, rfl, _, _, rfl, rfl, (show (0 : Int) < 2147483563 by decide), _, _, rfl, rfl, ?_⟩⟩⟩
      exact ⟨(by show 2 ≤ sizeLine; decide), fun p np => fin _ H (Same.refl H) p np⟩
    · rw [decide_eq_false c]
      refine iteF ?_
      refine ⟨_, rfl, _, _, rfl, rfl, .inl ⟨by decide, by decide⟩, _, _, rfl, rfl, ?_⟩
      refine ⟨_, rfl, _, _, rfl, rfl, ⟨by decide, by decide, by decide⟩, _, _, rfl, rfl, _, _, rfl, ?_⟩
      refine ⟨_, rfl, .inl ⟨_, rfl, _, _, rfl, rfl, (show (0 : Int) < 2147483549 by decide), _, _, rfl, rfl, .inr ⟨by decide, by decide⟩, _, rfl, _, _, rfl, rfl, .inl ⟨by decide, by decide⟩, _, _, rfl, rfl, _, _, rfl, rfl, .inl ⟨_, rfl, _, _, rfl, rfl, (show (0 : Int) < 2147483563 by decide), _, _, rfl, rfl, ?_⟩⟩⟩
      exact ⟨(by show 2 ≤ sizeLine; decide), fun p np => fin _ H (Same.refl H) p np⟩
end
end T29
set_option Elab.async false
set_option linter.all false
set_option maxRecDepth 100000
set_option maxHeartbeats 1000000
set_option Elab.async false
set_option linter.all false
set_option maxRecDepth 100000
set_option maxHeartbeats 1000000
namespace Tb
open PySem PySem.Spec PyProof.Rows L2 Gd Zn Rp Dn
/-- a comprehension whose elements are new objects -/
theorem lc_fresh {p : Option Addr} {J : It} {g : TG} {te : TE} {vs : List Nat} {σ : L2.St} {H1 : Hp} {Q : VK} (n : Nat) (O : Nat → HO) (hp : Has p H1) (hn : n ≤ 1000)
    (hgo : ∀ i H, i < n → RX p H1 H → J.go i H) (hst : ∀ H, RX p H1 H → J.stop n H)
    (hs : ∀ i x H H' (C : VK), i < n → RX p H1 H → Has p H → J.yld i H x H' → (∀ q H4, RX p H H4 → H q = none → H4 q = some (O i) → C (.ref q) H4) → g x (wipe σ vs) H' fun σ2 H2 => wipe σ2 vs = wipe σ vs ∧ te σ2 H2 C)
    (hd : ∀ D H xs, H1 D = none → RX p H1 H → H D = some (.lst xs) → xs.length = n → (∀ i v, xs[i]? = some v → ∃ q, v = .ref q ∧ H q = some (O i)) → Q (.ref D) H) : LcB g tYes te vs σ Q J H1 := by
  intro D nD
  have nP : p ≠ some D := hp.ne nD
  refine ⟨fun i m H => i ≤ n ∧ m = n - i ∧ RX p H1 H ∧ ∃ xs, H D = some (.lst xs) ∧ xs.length = i ∧ ∀ j v, xs[j]? = some v → ∃ q, v = .ref q ∧ H q = some (O j) ∧ q ≠ D ∧ p ≠ some q, ⟨n, Nat.zero_le _, rfl, RX.new nD, [], upd_same, rfl, fun j v e => by simp at e⟩, ?_⟩
  rintro i m H ⟨hi, rfl, s1, xs, hD, hl, hE⟩
  by_cases hlt : i < n
  · refine .inr ⟨hgo i H hlt s1, fun H' => i + 1 ≤ n ∧ RX p H1 H' ∧ ∃ xs, H' D = some (.lst xs) ∧ xs.length = i + 1 ∧ ∀ j v, xs[j]? = some v → ∃ q, v = .ref q ∧ H' q = some (O j) ∧ q ≠ D ∧ p ≠ some q, fun H' h => ⟨n - (i + 1), by omega, h.1, rfl, h.2⟩, fun x H' hy => ?_⟩
    have hpH := hp.to s1
    refine hs i x H H' _ hlt s1 hpH hy fun q H4 s4 nq e4 => ?_
    have hD4 := s4.keep D _ nP hD
    have s5 : RX p H1 (upd H4 D (.lst (xs ++ [.ref q]))) := (s1.trans s4).mut nD hp
    refine ⟨xs, hD4, Nat.lt_of_lt_of_le (by omega : xs.length < 1001) (by decide), hlt, s5, xs ++ [.ref q], upd_same, by simp [hl], fun j v e => ?_⟩
    by_cases hj : j < xs.length
    · rw [List.getElem?_append_left hj] at e
      obtain ⟨q', e1, e2, e3, e5⟩ := hE j v e
      exact ⟨q', e1, by rw [upd_ne e3]; exact s4.keep q' _ e5 e2, e3, e5⟩
    · rw [List.getElem?_append_right (by omega)] at e
      have z : j - xs.length = 0 := by
        by_cases w : j - xs.length = 0
        · exact w
        · rw [List.getElem?_eq_none (by simp; omega)] at e; cases e
      rw [z] at e
      cases e
      have : j = i := by omega
      subst this
      have qD : q ≠ D := (ne_of_none hD nq).symm
      exact ⟨q, rfl, by rw [upd_ne qD]; exact e4, qD, hpH.ne nq⟩
  · have e : i = n := by omega
    subst e
    exact .inl ⟨hst H s1, hd D H xs nD s1 hD hl fun j v e => let ⟨q, e1, e2, _⟩ := hE j v e; ⟨q, e1, e2⟩⟩
end Tb
set_option Elab.async false
set_option linter.all false
set_option maxRecDepth 100000
set_option maxHeartbeats 1000000
namespace T29
open PySem PySem.Spec PyProof.Rows L2 Gd Zn Rp Dn Tb Gn En Zs Ct Op
def colsM (n : Nat) (N : List (List Int)) (j : Nat) : List Int := N.map fun r => r.getD j 0
end T29
set_option Elab.async false
set_option linter.all false
set_option maxRecDepth 100000
set_option maxHeartbeats 1000000
namespace T29
open PySem PySem.Spec PyProof.Rows L2 Gd Zn Rp Dn Tb Gn En Zs Ct Op
theorem len3 {α : Type} {l : List α} (h : l.length = 3) : ∃ a b c, l = [a, b, c] := by
  match l, h with
  | [a, b, c], _ => exact ⟨a, b, c, rfl⟩
theorem len1 {α : Type} {l : List α} (h : l.length = 1) : ∃ a, l = [a] := by
  match l, h with
  | [a], _ => exact ⟨a, rfl⟩
theorem det1 (a : Int) : detM 1 [[a]] = a := by
  simp [detM, cofM, outM, outW, cutAt, List.range_succ, List.getD]
theorem det3 (a b c d e f g h i : Int) : detM 3 [[a, b, c], [d, e, f], [g, h, i]] = a * (e * i - f * h) - b * (d * i - f * g) + c * (d * h - e * g) := by
  simp [detM, cofM, outM, outW, cutAt, List.range_succ, List.getD]
  grind
end T29
set_option Elab.async false
set_option linter.all false
set_option maxRecDepth 100000
set_option maxHeartbeats 2000000
namespace T29
open PySem PySem.Spec PyProof.Rows L2 Gd Zn Rp Dn Tb Gn En Zs Ct Op
structure SqB (n : Nat) (B : Int) (M : List (List Int)) : Prop where
  len : M.length = n
  row : ∀ r ∈ M, r.length = n
  bd : ∀ r ∈ M, ∀ x ∈ r, -B ≤ x ∧ x ≤ B
theorem SqB.mono {n : Nat} {B B' : Int} {M : List (List Int)} (h : SqB n B M) (k : B ≤ B') : SqB n B' M := ⟨h.len, h.row, fun r hr x hx => by have := h.bd r hr x hx; omega⟩
theorem SqB.sq {n : Nat} {B : Int} {M : List (List Int)} (h : SqB n B M) (k : B < 2 ^ 64) : Sq n M := ⟨h.len, h.row, fun r hr x hx => by
  have := h.bd r hr x hx
  exact Wd.lit ⟨by omega, by omega⟩⟩
def negR (r : List Int) : List Int := r.map fun x => 0 - x
def addR (c : Int) (r s : List Int) : List Int := (List.zip r s).map fun q => q.1 + c * q.2
def stepN (M : List (List Int)) (i : Nat) : List (List Int) := M.set i (negR (M.getD i []))
def stepX (M : List (List Int)) (i j : Nat) : List (List Int) := (M.set i (M.getD j [])).set j (M.getD i [])
def stepA (M : List (List Int)) (i j : Nat) (c : Int) : List (List Int) := M.set i (addR c (M.getD i []) (M.getD j []))
theorem getD_mem {M : List (List Int)} {i : Nat} (h : i < M.length) : M.getD i [] ∈ M := by
  rw [List.getD_eq_getElem?_getD, List.getElem?_eq_getElem h]
  exact List.getElem_mem h
theorem SqB.set {n : Nat} {B : Int} {M : List (List Int)} (h : SqB n B M) (i : Nat) {r : List Int} (hl : r.length = n) (hb : ∀ x ∈ r, -B ≤ x ∧ x ≤ B) : SqB n B (M.set i r) := by
  refine ⟨by rw [List.length_set]; exact h.len, fun s hs => ?_, fun s hs => ?_⟩
  · rcases List.mem_or_eq_of_mem_set hs with hs | rfl
    · exact h.row s hs
    · exact hl
  · rcases List.mem_or_eq_of_mem_set hs with hs | rfl
    · exact h.bd s hs
    · exact hb
theorem SqB.neg {n : Nat} {B : Int} {M : List (List Int)} (h : SqB n B M) {i : Nat} (hi : i < n) : SqB n B (stepN M i) := by
  have m := getD_mem (M := M) (i := i) (by rw [h.len]; exact hi)
  refine h.set i (by unfold negR; rw [List.length_map]; exact h.row _ m) fun x hx => ?_
  unfold negR at hx
  obtain ⟨y, hy, rfl⟩ := List.mem_map.mp hx
  have := h.bd _ m y hy
  omega
theorem SqB.exch {n : Nat} {B : Int} {M : List (List Int)} (h : SqB n B M) {i j : Nat} (hi : i < n) (hj : j < n) : SqB n B (stepX M i j) := by
  have mi := getD_mem (M := M) (i := i) (by rw [h.len]; exact hi)
  have mj := getD_mem (M := M) (i := j) (by rw [h.len]; exact hj)
  exact (h.set i (h.row _ mj) (h.bd _ mj)).set j (h.row _ mi) (h.bd _ mi)
theorem SqB.add {n : Nat} {B : Int} {M : List (List Int)} (h : SqB n B M) {i j : Nat} {c : Int} (hi : i < n) (hj : j < n) (hB : 0 ≤ B) (hc : c = 1 ∨ c = -1 ∨ c = 2) : SqB n (3 * B) (stepA M i j c) := by
  have mi := getD_mem (M := M) (i := i) (by rw [h.len]; exact hi)
  have mj := getD_mem (M := M) (i := j) (by rw [h.len]; exact hj)
  refine (h.mono (by omega : B ≤ 3 * B)).set i ?_ fun x hx => ?_
  · unfold addR
    rw [List.length_map, List.length_zip, h.row _ mi, h.row _ mj]
    omega
  · unfold addR at hx
    obtain ⟨⟨y, z⟩, hq, rfl⟩ := List.mem_map.mp hx
    have h1 := h.bd _ mi y (List.of_mem_zip hq).1
    have h2 := h.bd _ mj z (List.of_mem_zip hq).2
    rcases hc with rfl | rfl | rfl <;> constructor <;> show _ ≤ _ <;> simp only [] <;> omega
theorem ent1 {n : Nat} {B : Int} {M : List (List Int)} (h : SqB n B M) (e : n = 1) : ∃ a, M = [[a]] := by
  subst e
  obtain ⟨r, rfl⟩ := len1 h.len
  obtain ⟨a, rfl⟩ := len1 (h.row r (by simp))
  exact ⟨a, rfl⟩
theorem ent2 {n : Nat} {B : Int} {M : List (List Int)} (h : SqB n B M) (e : n = 2) : ∃ a b c d, M = [[a, b], [c, d]] := by
  subst e
  obtain ⟨r1, r2, rfl⟩ := len2 h.len
  obtain ⟨a, b, rfl⟩ := len2 (h.row r1 (by simp))
  obtain ⟨c, d, rfl⟩ := len2 (h.row r2 (by simp))
  exact ⟨a, b, c, d, rfl⟩
theorem ent3 {n : Nat} {B : Int} {M : List (List Int)} (h : SqB n B M) (e : n = 3) : ∃ a b c d e f g h i, M = [[a, b, c], [d, e, f], [g, h, i]] := by
  subst e
  obtain ⟨r1, r2, r3, rfl⟩ := len3 h.len
  obtain ⟨a, b, c, rfl⟩ := len3 (h.row r1 (by simp))
  obtain ⟨d, e, f, rfl⟩ := len3 (h.row r2 (by simp))
  obtain ⟨g, i, j, rfl⟩ := len3 (h.row r3 (by simp))
  exact ⟨a, b, c, d, e, f, g, i, j, rfl⟩
theorem det_neg {n : Nat} {B : Int} {M : List (List Int)} (h : SqB n B M) (h1 : 1 ≤ n) (h3 : n ≤ 3) {i : Nat} (hi : i < n) : detM n (stepN M i) = -detM n M := by
  have : n = 1 ∨ n = 2 ∨ n = 3 := by omega
  rcases this with e | e | e
  · obtain ⟨a, rfl⟩ := ent1 h e
    subst e
    have : i = 0 := by omega
    subst this
    show detM 1 [[0 - a]] = _
    rw [det1, det1]
    omega
  · obtain ⟨a, b, c, d, rfl⟩ := ent2 h e
    subst e
    have : i = 0 ∨ i = 1 := by omega
    rcases this with rfl | rfl
    · show detM 2 [[0 - a, 0 - b], [c, d]] = _
      rw [det2, det2]; grind
    · show detM 2 [[a, b], [0 - c, 0 - d]] = _
      rw [det2, det2]; grind
  · obtain ⟨a, b, c, d, e1, f, g, k, l, rfl⟩ := ent3 h e
    subst e
    have : i = 0 ∨ i = 1 ∨ i = 2 := by omega
    rcases this with rfl | rfl | rfl
    · show detM 3 [[0 - a, 0 - b, 0 - c], [d, e1, f], [g, k, l]] = _
      rw [det3, det3]; grind
    · show detM 3 [[a, b, c], [0 - d, 0 - e1, 0 - f], [g, k, l]] = _
      rw [det3, det3]; grind
    · show detM 3 [[a, b, c], [d, e1, f], [0 - g, 0 - k, 0 - l]] = _
      rw [det3, det3]; grind
theorem det_exch {n : Nat} {B : Int} {M : List (List Int)} (h : SqB n B M) (h3 : n ≤ 3) {i j : Nat} (hi : i < n) (hj : j < n) (hij : i ≠ j) : detM n (stepX M i j) = -detM n M := by
  have : n = 2 ∨ n = 3 := by omega
  rcases this with e | e
  · obtain ⟨a, b, c, d, rfl⟩ := ent2 h e
    subst e
    have : stepX [[a, b], [c, d]] i j = [[c, d], [a, b]] := by
      have : (i = 0 ∧ j = 1) ∨ (i = 1 ∧ j = 0) := by omega
      rcases this with ⟨rfl, rfl⟩ | ⟨rfl, rfl⟩ <;> rfl
    rw [this, det2, det2]; grind
  · obtain ⟨a, b, c, d, e1, f, g, k, l, rfl⟩ := ent3 h e
    subst e
    have : (i = 0 ∧ j = 1) ∨ (i = 1 ∧ j = 0) ∨ (i = 0 ∧ j = 2) ∨ (i = 2 ∧ j = 0) ∨ (i = 1 ∧ j = 2) ∨ (i = 2 ∧ j = 1) := by omega
    rcases this with ⟨rfl, rfl⟩ | ⟨rfl, rfl⟩ | ⟨rfl, rfl⟩ | ⟨rfl, rfl⟩ | ⟨rfl, rfl⟩ | ⟨rfl, rfl⟩
    · show detM 3 [[d, e1, f], [a, b, c], [g, k, l]] = _
      rw [det3, det3]; grind
    · show detM 3 [[d, e1, f], [a, b, c], [g, k, l]] = _
      rw [det3, det3]; grind
    · show detM 3 [[g, k, l], [d, e1, f], [a, b, c]] = _
      rw [det3, det3]; grind
    · show detM 3 [[g, k, l], [d, e1, f], [a, b, c]] = _
      rw [det3, det3]; grind
    · show detM 3 [[a, b, c], [g, k, l], [d, e1, f]] = _
      rw [det3, det3]; grind
    · show detM 3 [[a, b, c], [g, k, l], [d, e1, f]] = _
      rw [det3, det3]; grind
theorem det_add {n : Nat} {B : Int} {M : List (List Int)} (h : SqB n B M) (h3 : n ≤ 3) {i j : Nat} (c : Int) (hi : i < n) (hj : j < n) (hij : i ≠ j) : detM n (stepA M i j c) = detM n M := by
  have : n = 2 ∨ n = 3 := by omega
  rcases this with e | e
  · obtain ⟨a, b, x, d, rfl⟩ := ent2 h e
    subst e
    have : (i = 0 ∧ j = 1) ∨ (i = 1 ∧ j = 0) := by omega
    rcases this with ⟨rfl, rfl⟩ | ⟨rfl, rfl⟩
    · show detM 2 [[a + c * x, b + c * d], [x, d]] = _
      rw [det2, det2]; grind
    · show detM 2 [[a, b], [x + c * a, d + c * b]] = _
      rw [det2, det2]; grind
  · obtain ⟨a, b, x, d, e1, f, g, k, l, rfl⟩ := ent3 h e
    subst e
    have : (i = 0 ∧ j = 1) ∨ (i = 1 ∧ j = 0) ∨ (i = 0 ∧ j = 2) ∨ (i = 2 ∧ j = 0) ∨ (i = 1 ∧ j = 2) ∨ (i = 2 ∧ j = 1) := by omega
    rcases this with ⟨rfl, rfl⟩ | ⟨rfl, rfl⟩ | ⟨rfl, rfl⟩ | ⟨rfl, rfl⟩ | ⟨rfl, rfl⟩ | ⟨rfl, rfl⟩
    · show detM 3 [[a + c * d, b + c * e1, x + c * f], [d, e1, f], [g, k, l]] = _
      rw [det3, det3]; grind
    · show detM 3 [[a, b, x], [d + c * a, e1 + c * b, f + c * x], [g, k, l]] = _
      rw [det3, det3]; grind
    · show detM 3 [[a + c * g, b + c * k, x + c * l], [d, e1, f], [g, k, l]] = _
      rw [det3, det3]; grind
    · show detM 3 [[a, b, x], [d, e1, f], [g + c * a, k + c * b, l + c * x]] = _
      rw [det3, det3]; grind
    · show detM 3 [[a, b, x], [d + c * g, e1 + c * k, f + c * l], [g, k, l]] = _
      rw [det3, det3]; grind
    · show detM 3 [[a, b, x], [d, e1, f], [g + c * d, k + c * e1, l + c * f]] = _
      rw [det3, det3]; grind
theorem unit_sqB (n : Nat) : SqB n 1 (unitM n) := ⟨(unit_sq n).len, (unit_sq n).row, fun r hr x hx => by
  unfold unitM at hr
  rw [List.mem_map] at hr
  obtain ⟨i, _, rfl⟩ := hr
  rw [List.mem_map] at hx
  obtain ⟨j, _, rfl⟩ := hx
  by_cases h : j = i
  · rw [if_pos h]; exact ⟨by decide, by decide⟩
  · rw [if_neg h]; exact ⟨by decide, by decide⟩⟩
theorem tlc_call {wi : TI} {g : TG} {tt : TT} {te : TE} {vs : List Nat} {σ : L2.St} {H : Hp} {Q : VK} (h : wi σ H fun J H1 => LcB g tt te vs σ Q J H1) : tLc wi g tt te vs σ H Q := h
theorem lc_fresh2 {p : Option Addr} {J : It} {g : TG} {te : TE} {vs : List Nat} {σ : L2.St} {H1 : Hp} {Q : VK} (n : Nat) (O : Nat → HO) (hp : Has p H1) (hn : n ≤ 1000)
    (hgo : ∀ i H, i < n → RX p H1 H → J.go i H) (hst : ∀ H, RX p H1 H → J.stop n H)
    (hs : ∀ i x H H' (C : VK), i < n → RX p H1 H → Has p H → J.yld i H x H' → (∀ q H4, RX p H H4 → H q = none → H4 q = some (O i) → C (.ref q) H4) → g x (wipe σ vs) H' fun σ2 H2 => wipe σ2 vs = wipe σ vs ∧ te σ2 H2 C)
    (hd : ∀ D H xs, H1 D = none → RX p H1 H → H D = some (.lst xs) → xs.length = n → (∀ i v, xs[i]? = some v → ∃ q, v = .ref q ∧ H q = some (O i) ∧ q ≠ D ∧ p ≠ some q ∧ H1 q = none) → Q (.ref D) H) : LcB g tYes te vs σ Q J H1 := by
  intro D nD
  have nP : p ≠ some D := hp.ne nD
  refine ⟨fun i m H => i ≤ n ∧ m = n - i ∧ RX p H1 H ∧ ∃ xs, H D = some (.lst xs) ∧ xs.length = i ∧ ∀ j v, xs[j]? = some v → ∃ q, v = .ref q ∧ H q = some (O j) ∧ q ≠ D ∧ p ≠ some q ∧ H1 q = none, ⟨n, Nat.zero_le _, rfl, RX.new nD, [], upd_same, rfl, fun j v e => by simp at e⟩, ?_⟩
  rintro i m H ⟨hi, rfl, s1, xs, hD, hl, hE⟩
  by_cases hlt : i < n
  · refine .inr ⟨hgo i H hlt s1, fun H' => i + 1 ≤ n ∧ RX p H1 H' ∧ ∃ xs, H' D = some (.lst xs) ∧ xs.length = i + 1 ∧ ∀ j v, xs[j]? = some v → ∃ q, v = .ref q ∧ H' q = some (O j) ∧ q ≠ D ∧ p ≠ some q ∧ H1 q = none, fun H' h => ⟨n - (i + 1), by omega, h.1, rfl, h.2⟩, fun x H' hy => ?_⟩
    have hpH := hp.to s1
    refine hs i x H H' _ hlt s1 hpH hy fun q H4 s4 nq e4 => ?_
    have hD4 := s4.keep D _ nP hD
    have s5 : RX p H1 (upd H4 D (.lst (xs ++ [.ref q]))) := (s1.trans s4).mut nD hp
    refine ⟨xs, hD4, Nat.lt_of_lt_of_le (by omega : xs.length < 1001) (by decide), hlt, s5, xs ++ [.ref q], upd_same, by simp [hl], fun j v e => ?_⟩
    by_cases hj : j < xs.length
    · rw [List.getElem?_append_left hj] at e
      obtain ⟨q', e1, e2, e3, e5, e6⟩ := hE j v e
      exact ⟨q', e1, by rw [upd_ne e3]; exact s4.keep q' _ e5 e2, e3, e5, e6⟩
    · rw [List.getElem?_append_right (by omega)] at e
      have z : j - xs.length = 0 := by
        by_cases w : j - xs.length = 0
        · exact w
        · rw [List.getElem?_eq_none (by simp; omega)] at e; cases e
      rw [z] at e
      cases e
      have : j = i := by omega
      subst this
      have qD : q ≠ D := (ne_of_none hD nq).symm
      exact ⟨q, rfl, by rw [upd_ne qD]; exact e4, qD, hpH.ne nq, by
        cases e9 : H1 q with
        | none => rfl
        | some o =>
          have := s1.keep q o (hpH.ne nq) e9
          rw [nq] at this
          cases this⟩
  · have e : i = n := by omega
    subst e
    exact .inl ⟨hst H s1, hd D H xs nD s1 hD hl hE⟩
/-- a list of lists of ints at a, apart from the pot p -/
structure LM (H : Hp) (p a : Addr) (M : List (List Int)) (vs : List V) : Prop where
  at_ : H a = some (.lst vs)
  len : vs.length = M.length
  get : ∀ (i : Nat) (v : V), vs[i]? = some v → ∃ b, v = .ref b ∧ H b = some (.lst ((M.getD i []).map V.int)) ∧ b ≠ a ∧ b ≠ p
theorem LM.mono {H H' : Hp} {p a : Addr} {M : List (List Int)} {vs : List V} (h : LM H p a M vs) (s : RX (some p) H H') (hap : a ≠ p) : LM H' p a M vs := by
  refine ⟨s.keep a _ (fun z => hap (by cases z; rfl)) h.at_, h.len, fun i v e => ?_⟩
  obtain ⟨b, e1, e2, e3, e4⟩ := h.get i v e
  exact ⟨b, e1, s.keep b _ (fun z => e4 (by cases z; rfl)) e2, e3, e4⟩
/-- a row is put there -/
theorem LM.put {H : Hp} {p a : Addr} {M : List (List Int)} {vs : List V} (h : LM H p a M vs) {i : Nat} {b : Addr} {r : List Int} (hb : H b = some (.lst (r.map V.int))) (ba : b ≠ a) (bp : b ≠ p) :
    LM (upd H a (.lst (vs.set i (.ref b)))) p a (M.set i r) (vs.set i (.ref b)) := by
  refine ⟨upd_same, by rw [List.length_set, List.length_set]; exact h.len, fun j v e => ?_⟩
  by_cases hj : i = j
  · subst hj
    have hi : i < vs.length := by
      have := (List.getElem?_eq_some_iff.mp e).1
      rw [List.length_set] at this
      exact this
    rw [List.getElem?_set_self hi] at e
    cases e
    refine ⟨b, rfl, ?_, ba, bp⟩
    rw [upd_ne ba, List.getD_eq_getElem?_getD, List.getElem?_set_self (by rw [← h.len]; exact hi)]
    exact hb
  · rw [List.getElem?_set_ne hj] at e
    obtain ⟨c, e1, e2, e3, e4⟩ := h.get j v e
    refine ⟨c, e1, ?_, e3, e4⟩
    rw [upd_ne e3, List.getD_eq_getElem?_getD, List.getElem?_set_ne hj, ← List.getD_eq_getElem?_getD]
    exact e2
theorem LM.row {H : Hp} {p a : Addr} {M : List (List Int)} {vs : List V} (h : LM H p a M vs) {i : Nat} (hi : i < M.length) : ∃ b, vs[i]? = some (.ref b) ∧ H b = some (.lst ((M.getD i []).map V.int)) ∧ b ≠ a ∧ b ≠ p := by
  have hi' : i < vs.length := by rw [h.len]; exact hi
  obtain ⟨b, e1, e2⟩ := h.get i vs[i] (List.getElem?_eq_getElem hi')
  exact ⟨b, by rw [List.getElem?_eq_getElem hi', e1], e2⟩
end T29
set_option Elab.async false
set_option linter.all false
set_option maxRecDepth 100000
set_option maxHeartbeats 2000000
namespace T29
open PySem PySem.Spec PyProof.Rows L2 Gd Zn Rp Dn Tb Gn En Zs Ct Op
theorem ixN_at {n j : Nat} (hj : j < n) : ixN n (j : Int) = some j := by
  unfold ixN
  rw [if_pos (by omega), if_pos (by omega)]
  rfl
theorem pow3_mono {k : Nat} : ∀ {m : Nat}, k ≤ m → (3 : Int) ^ k ≤ 3 ^ m
  | 0, h => by rw [Nat.le_zero.mp h]; exact Int.le_refl _
  | m + 1, h => by
    by_cases e : k = m + 1
    · rw [e]; exact Int.le_refl _
    · have := pow3_mono (k := k) (m := m) (by omega)
      have p3 : (0 : Int) < 3 ^ m := Int.pow_pos (by decide)
      rw [Int.pow_succ]
      omega
end T29
set_option Elab.async false
set_option linter.all false
set_option maxRecDepth 100000
set_option maxHeartbeats 2000000
set_option Elab.async false
set_option linter.all false
set_option maxRecDepth 100000
set_option maxHeartbeats 2000000
namespace T29
open PySem PySem.Spec PyProof.Rows L2 Gd Zn Rp Dn Tb Gn En Zs Ct Op
theorem mul_bd {x y B B' : Int} (hx : -B ≤ x ∧ x ≤ B) (hy : -B' ≤ y ∧ y ≤ B') : -(B * B') ≤ x * y ∧ x * y ≤ B * B' := by
  have h1 : x.natAbs ≤ B.natAbs := by omega
  have h2 : y.natAbs ≤ B'.natAbs := by omega
  have h := Nat.mul_le_mul h1 h2
  have e1 := Int.natAbs_mul x y
  have e2 := Int.natAbs_mul B B'
  have hp : 0 ≤ B * B' := Int.mul_nonneg (by omega) (by omega)
  omega
theorem dot_bd {B B' : Int} (hB : 0 ≤ B) (hB' : 0 ≤ B') : ∀ (k : Nat) (xs ys : List Int), xs.length ≤ k → (∀ x ∈ xs, -B ≤ x ∧ x ≤ B) → (∀ y ∈ ys, -B' ≤ y ∧ y ≤ B') → -(k * (B * B')) ≤ dot xs ys ∧ dot xs ys ≤ k * (B * B')
  | k, [], ys, _, _, _ => by
    have : 0 ≤ (k : Int) * (B * B') := Int.mul_nonneg (by omega) (Int.mul_nonneg hB hB')
    simp only [dot, List.zip_nil_left, List.map_nil, List.sum_nil]
    omega
  | k, x :: xs, [], _, _, _ => by
    have : 0 ≤ (k : Int) * (B * B') := Int.mul_nonneg (by omega) (Int.mul_nonneg hB hB')
    simp only [dot, List.zip_nil_right, List.map_nil, List.sum_nil]
    omega
  | 0, x :: xs, y :: ys, h, _, _ => by simp at h
  | k + 1, x :: xs, y :: ys, h, hx, hy => by
    have ih := dot_bd hB hB' k xs ys (by simpa using h) (fun z hz => hx z (List.mem_cons_of_mem _ hz)) (fun z hz => hy z (List.mem_cons_of_mem _ hz))
    have h1 := mul_bd (hx x List.mem_cons_self) (hy y List.mem_cons_self)
    have e : ((k + 1 : Nat) : Int) * (B * B') = (k : Int) * (B * B') + B * B' := by
      rw [show ((k + 1 : Nat) : Int) = (k : Int) + 1 by omega, Int.add_mul, Int.one_mul]
    rw [e]
    unfold dot at ih ⊢
    simp only [List.zip_cons_cons, List.map_cons, List.sum_cons]
    omega
theorem mulM_len (n : Nat) (M N : List (List Int)) : (mulM n M N).length = M.length := by
  unfold mulM
  rw [List.length_map]
theorem mulM_row {n : Nat} {M N : List (List Int)} : ∀ r ∈ mulM n M N, r.length = n := fun r hr => by
  unfold mulM ledM transp at hr
  obtain ⟨s, _, rfl⟩ := List.mem_map.mp hr
  simp
theorem SqB.mul {n : Nat} {B B' : Int} {M N : List (List Int)} (hM : SqB n B M) (hN : SqB n B' N) (h3 : n ≤ 3) (hB : 0 ≤ B) (hB' : 0 ≤ B') : SqB n (3 * (B' * B)) (mulM n M N) := by
  refine ⟨by rw [mulM_len]; exact hM.len, mulM_row, fun r hr x hx => ?_⟩
  unfold mulM ledM transp at hr
  obtain ⟨s, hs, rfl⟩ := List.mem_map.mp hr
  rw [List.map_map] at hx
  obtain ⟨j, hj, rfl⟩ := List.mem_map.mp hx
  have := dot_bd hB' hB 3 (N.map fun r => r.getD j 0) s (by rw [List.length_map, hN.len]; exact h3) (fun y hy => ?_) (hM.bd s hs)
  · simpa using this
  · obtain ⟨t, ht, rfl⟩ := List.mem_map.mp hy
    rw [List.getD_eq_getElem?_getD]
    cases e : t[j]? with
    | none => simp only [Option.getD_none]; omega
    | some z => exact hN.bd t ht z (List.mem_of_getElem? e)
end T29
set_option Elab.async false
set_option linter.all false
set_option maxRecDepth 100000
set_option maxHeartbeats 2000000
set_option Elab.async false
set_option linter.all false
set_option maxRecDepth 100000
set_option maxHeartbeats 2000000
namespace T29
open PySem PySem.Spec PyProof.Rows L2 Gd Zn Rp Dn Tb Gn En Zs Ct Op
section
variable {X : Cx} {CX : CXT} {k : Nat} {f : Addr} {fd : FuncData} {ps ks : List Str} {sp : Sp} {E : XK} {x m : Str} {p pos apos : Pos} {kws : List Keyword} {tk : TA} {g : List Value → List Value → List Value} {gV : List V → List V → List V} {C : Addr} {o : Expr} {ta : TE}
def tMethN (C : Addr) (m : Str) (sp : Sp) (gV : List V → List V → List V) (E : XK) (ta : TE) (tk : TA) : TE := fun σ H Q => ta σ H fun x H1 => ∃ a dx fs, x = .ref a ∧ H1 a = some (.ins C dx fs) ∧ fs.lookup m = none ∧ tk σ H1 fun zs H2 => sp (gV [x] zs) H2 Q E
theorem pe_methNames {pl : Sem Bool} (he : PE X o ta) (c : Cls X.K C) (hm : Meth X.K C m f) (F : FnOk X.prog X.w X.K X.mg X.base CX k f fd ps sp) (hr : Room k X.A) (hb : KBinds X.K fd ps ks g gV) (hx : Passes CX X E) (hkw : PK X kws tk)
    (hall : (backToKw pos (keywordEach kws X.env)).all (·.1.isSome) = true := by rfl) (hks : (backToKw pos (keywordEach kws X.env)).filterMap (·.1) = ks := by rfl)
    (hpl : ((backTo pos (starEach [] X.env)).any (·.1) || (backToKw pos (keywordEach kws X.env)).any (·.1.isNone)) = false := by rfl)
    (ht : eval (.Call (.Attribute o m apos) [] kws pos) X.env = (do
      let ov ← eval o X.env
      standAt apos.atName
      let (f, first) ← holding [ov] (getMethod ov m pl)
      callWith pos f first (backTo pos (starEach [] X.env)) (backToKw pos (keywordEach kws X.env))) := by rfl) :
    PE X (.Call (.Attribute o m apos) [] kws pos) (tMethN C m sp gV E ta tk) := by
  refine ⟨fun pins s σ H Q I h => ?_⟩
  refine PySem.W.methodCall_KW (pl := pl) (thn (he.run pins s σ H _ I h) fun u s1 ⟨x, H1, I1, rx, a, dx, fs, ex, ea, l, q⟩ => ?_) ht
  subst ex
  obtain rfl : u = Value.ref a := rx
  refine getmeth_ok I1 ea c hm l ?_
  refine PySem.W.callWith_KW0 (first := [.ref a]) (h₀ := X.base) I.ok.mod.kin hm.kp hall ?_ hpl
  refine thn (hkw.run pos pins s1 σ H1 _ I1 q) fun ws s2 ⟨zs, H2, I2, rz, q2⟩ => ⟨I2.kIn, ?_⟩
  rw [hks]
  exact run_fnk F hr hb hx I2 (.cons (show RelV (V.ref a) (Value.ref a) from rfl) .nil) rz q2
end
structure MulP (P : Program) (w : World) (K : PySem.W.Frag) (mg : Str → Option Value) (base : Heap) (C : Addr) : Prop where
  ex : ∃ (g : Addr) (gd : FuncData) (cd : ClassData) (rest : List Value), W.clsIn K C = some cd ∧ cd.mro = Value.ref C :: rest ∧ W.findIn K (.ref C) (dunder "mul") = some (some (.ref g)) ∧ W.isFn K (.ref g) = true ∧
    FnOk P w K mg base CX0 10 g gd ["self", "other"] (sp_mul C) ∧ Binds K gd ["self", "other"] []
theorem pe_mulT {X : Cx} {C : Addr} {j : Nat} {a b : Expr} {ta tb : TE} {pos : Pos} (D : MulP X.prog X.w X.K X.mg X.base C) (room : Room j X.A) (ha : PE X a ta) (hb : PE X b tb) (hkj : 10 ≤ j := by decide) :
    PE X (.BinOp a .Mult b pos) (tOp (rOwnB C (fun vs H Q E => sp_mul C (vs ++ []) H Q E) E0) ta tb) := by
  obtain ⟨g, gd, cd, rest, h1, h2, h3, h4, G, bi⟩ := D.ex
  exact pe_op (op_mulOwn h1 h2 h3 h4 (G.raw bi .nil) (room.mono hkj) pass0) ha hb
structure SmN (a b : Nat) (d : PyData) : Prop where
  sh : d.showable = true
  dp : d.depth ≤ a
  ls : d.leavesShort 40 = true
  bk : d.bulk ≤ b
end T29
set_option Elab.async false
set_option linter.all false
set_option maxRecDepth 100000
set_option maxHeartbeats 4000000
namespace T29
open PySem PySem.Spec PyProof.Rows L2 Gd Zn Rp Dn Tb Gn En Zs Ct Op
structure Sh (n : Nat) (M : List (List Int)) : Prop where
  len : M.length = n
  row : ∀ r ∈ M, r.length = n
theorem Sq.sh {n : Nat} {M : List (List Int)} (h : Sq n M) : Sh n M := ⟨h.len, h.row⟩
theorem SqB.sh {n : Nat} {B : Int} {M : List (List Int)} (h : SqB n B M) : Sh n M := ⟨h.len, h.row⟩
theorem sh1 {n : Nat} {M : List (List Int)} (h : Sh n M) (e : n = 1) : ∃ a, M = [[a]] := by
  subst e
  obtain ⟨r, rfl⟩ := len1 h.len
  obtain ⟨a, rfl⟩ := len1 (h.row r (by simp))
  exact ⟨a, rfl⟩
theorem sh2 {n : Nat} {M : List (List Int)} (h : Sh n M) (e : n = 2) : ∃ a b c d, M = [[a, b], [c, d]] := by
  subst e
  obtain ⟨r1, r2, rfl⟩ := len2 h.len
  obtain ⟨a, b, rfl⟩ := len2 (h.row r1 (by simp))
  obtain ⟨c, d, rfl⟩ := len2 (h.row r2 (by simp))
  exact ⟨a, b, c, d, rfl⟩
theorem sh3 {n : Nat} {M : List (List Int)} (h : Sh n M) (e : n = 3) : ∃ a b c d e f g h i, M = [[a, b, c], [d, e, f], [g, h, i]] := by
  subst e
  obtain ⟨r1, r2, r3, rfl⟩ := len3 h.len
  obtain ⟨a, b, c, rfl⟩ := len3 (h.row r1 (by simp))
  obtain ⟨d, e, f, rfl⟩ := len3 (h.row r2 (by simp))
  obtain ⟨g, i, j, rfl⟩ := len3 (h.row r3 (by simp))
  exact ⟨a, b, c, d, e, f, g, i, j, rfl⟩
theorem mulE1 (a b : Int) : mulM 1 [[a]] [[b]] = [[a * b]] := by simp [mulM, ledM, transp, dot, List.range_succ, List.getD, Int.mul_comm]
theorem mulE2 (a b c d e f g h : Int) : mulM 2 [[a, b], [c, d]] [[e, f], [g, h]] = [[a * e + b * g, a * f + b * h], [c * e + d * g, c * f + d * h]] := by simp [mulM, ledM, transp, dot, List.range_succ, List.getD, Int.mul_comm]
theorem mulE3 (a b c d e f g h i j k l m n o p q r : Int) : mulM 3 [[a, b, c], [d, e, f], [g, h, i]] [[j, k, l], [m, n, o], [p, q, r]] =
    [[a * j + (b * m + c * p), a * k + (b * n + c * q), a * l + (b * o + c * r)], [d * j + (e * m + f * p), d * k + (e * n + f * q), d * l + (e * o + f * r)], [g * j + (h * m + i * p), g * k + (h * n + i * q), g * l + (h * o + i * r)]] := by
  simp [mulM, ledM, transp, dot, List.range_succ, List.getD, Int.mul_comm]
def undM (n : Nat) (M : List (List Int)) : List (List Int) := (List.range n).map fun p => (List.range n).map fun a => detM n M * cofM (n - 1) M a p
theorem undE1 (a : Int) : undM 1 [[a]] = [[a]] := by simp [undM, detM, cofM, outM, outW, cutAt, List.range_succ, List.getD]
theorem undE2 (a b c d : Int) : undM 2 [[a, b], [c, d]] = [[(a * d - b * c) * d, -((a * d - b * c) * b)], [-((a * d - b * c) * c), (a * d - b * c) * a]] := by
  unfold undM
  rw [det2]
  simp [cofM, detM, outM, outW, cutAt, List.range_succ, List.getD, Int.mul_neg]
theorem undE3 (a b c d e f g h i : Int) : undM 3 [[a, b, c], [d, e, f], [g, h, i]] =
    let w := a * (e * i - f * h) - b * (d * i - f * g) + c * (d * h - e * g)
    [[w * (e * i - f * h), -(w * (b * i - c * h)), w * (b * f - c * e)], [-(w * (d * i - f * g)), w * (a * i - c * g), -(w * (a * f - c * d))], [w * (d * h - e * g), -(w * (a * h - b * g)), w * (a * e - b * d)]] := by
  unfold undM
  rw [det3]
  have c2 : ∀ M : List (List Int), cofM 2 M = fun a k => if (a + k) % 2 = 0 then detM 2 (outM M a k) else -detM 2 (outM M a k) := fun M => by
    funext a k
    rw [cofM]
  simp only [c2]
  simp [outM, outW, cutAt, List.range_succ, List.getD, det2, Int.mul_neg]
theorem unitE1 : unitM 1 = [[1]] := rfl
theorem unitE2 : unitM 2 = [[1, 0], [0, 1]] := rfl
theorem unitE3 : unitM 3 = [[1, 0, 0], [0, 1, 0], [0, 0, 1]] := rfl
structure Gr (n : Nat) (M : List (List Int)) : Prop where
  h1 : 1 ≤ n
  h3 : n ≤ 3
  sh : Sh n M
  d : detM n M = 1 ∨ detM n M = -1
theorem Gr.cases {n : Nat} {M : List (List Int)} (h : Gr n M) : n = 1 ∨ n = 2 ∨ n = 3 := by have := h.h1; have := h.h3; omega
theorem sh_mk1 (a : Int) : Sh 1 [[a]] := ⟨rfl, by simp⟩
theorem sh_mk2 (a b c d : Int) : Sh 2 [[a, b], [c, d]] := ⟨rfl, by simp⟩
theorem sh_mk3 (a b c d e f g h i : Int) : Sh 3 [[a, b, c], [d, e, f], [g, h, i]] := ⟨rfl, by simp⟩
theorem mul_sh {n : Nat} {M N : List (List Int)} (h1 : 1 ≤ n) (h3 : n ≤ 3) (hM : Sh n M) (hN : Sh n N) : Sh n (mulM n M N) := by
  have : n = 1 ∨ n = 2 ∨ n = 3 := by omega
  rcases this with rfl | rfl | rfl
  · obtain ⟨a, rfl⟩ := sh1 hM rfl
    obtain ⟨b, rfl⟩ := sh1 hN rfl
    rw [mulE1]; exact sh_mk1 _
  · obtain ⟨a, b, c, d, rfl⟩ := sh2 hM rfl
    obtain ⟨e, f, g, h, rfl⟩ := sh2 hN rfl
    rw [mulE2]; exact sh_mk2 _ _ _ _
  · obtain ⟨a, b, c, d, e, f, g, h, i, rfl⟩ := sh3 hM rfl
    obtain ⟨j, k, l, m, n, o, p, q, r, rfl⟩ := sh3 hN rfl
    rw [mulE3]; exact sh_mk3 _ _ _ _ _ _ _ _ _
theorem mul_detS {n : Nat} {M N : List (List Int)} (h1 : 1 ≤ n) (h3 : n ≤ 3) (hM : Sh n M) (hN : Sh n N) : detM n (mulM n M N) = detM n M * detM n N := by
  have : n = 1 ∨ n = 2 ∨ n = 3 := by omega
  rcases this with rfl | rfl | rfl
  · obtain ⟨a, rfl⟩ := sh1 hM rfl
    obtain ⟨b, rfl⟩ := sh1 hN rfl
    rw [mulE1, det1, det1, det1]
  · obtain ⟨a, b, c, d, rfl⟩ := sh2 hM rfl
    obtain ⟨e, f, g, h, rfl⟩ := sh2 hN rfl
    rw [mulE2, det2, det2, det2]; grind
  · obtain ⟨a, b, c, d, e, f, g, h, i, rfl⟩ := sh3 hM rfl
    obtain ⟨j, k, l, m, n, o, p, q, r, rfl⟩ := sh3 hN rfl
    rw [mulE3, det3, det3, det3]; grind
theorem mul_assocS {n : Nat} {M N L : List (List Int)} (h1 : 1 ≤ n) (h3 : n ≤ 3) (hM : Sh n M) (hN : Sh n N) (hL : Sh n L) : mulM n (mulM n M N) L = mulM n M (mulM n N L) := by
  have : n = 1 ∨ n = 2 ∨ n = 3 := by omega
  rcases this with rfl | rfl | rfl
  · obtain ⟨a, rfl⟩ := sh1 hM rfl
    obtain ⟨b, rfl⟩ := sh1 hN rfl
    obtain ⟨c, rfl⟩ := sh1 hL rfl
    rw [mulE1, mulE1, mulE1, mulE1, Int.mul_assoc]
  · obtain ⟨a, b, c, d, rfl⟩ := sh2 hM rfl
    obtain ⟨e, f, g, h, rfl⟩ := sh2 hN rfl
    obtain ⟨i, j, k, l, rfl⟩ := sh2 hL rfl
    rw [mulE2, mulE2, mulE2, mulE2]
    congr 2 <;> grind
  · obtain ⟨a, b, c, d, e, f, g, h, i, rfl⟩ := sh3 hM rfl
    obtain ⟨j, k, l, m, n, o, p, q, r, rfl⟩ := sh3 hN rfl
    obtain ⟨a', b', c', d', e', f', g', h', i', rfl⟩ := sh3 hL rfl
    rw [mulE3, mulE3, mulE3, mulE3]
    congr 2 <;> grind
theorem unit_sh {n : Nat} : Sh n (unitM n) := (unit_sq n).sh
theorem und_sh {n : Nat} {M : List (List Int)} : Sh n (undM n M) := ⟨by simp [undM], fun r hr => by
  unfold undM at hr
  obtain ⟨i, _, rfl⟩ := List.mem_map.mp hr
  simp⟩
theorem mul_und {n : Nat} {M : List (List Int)} (G : Gr n M) : mulM n M (undM n M) = unitM n := by
  have hd := G.d
  rcases G.cases with rfl | rfl | rfl
  · obtain ⟨a, rfl⟩ := sh1 G.sh rfl
    rw [undE1, mulE1, unitE1]
    rw [det1] at hd
    rcases hd with rfl | rfl <;> rfl
  · obtain ⟨a, b, c, d, rfl⟩ := sh2 G.sh rfl
    rw [det2] at hd
    rw [undE2, mulE2, unitE2]
    generalize hw : a * d - b * c = w at hd
    have e1 : w * w = 1 := by rcases hd with rfl | rfl <;> rfl
    congr 2
    · grind
    · congr 1; grind
    · congr 1
      · grind
      · congr 1; grind
  · obtain ⟨a, b, c, d, e, f, g, h, i, rfl⟩ := sh3 G.sh rfl
    rw [det3] at hd
    rw [undE3, mulE3, unitE3]
    generalize hw : a * (e * i - f * h) - b * (d * i - f * g) + c * (d * h - e * g) = w at hd
    have e1 : w * w = 1 := by rcases hd with rfl | rfl <;> rfl
    have k1 : ∀ x y z : Int, x = 1 → y = 0 → z = 0 → [x, y, z] = [1, 0, 0] := by rintro _ _ _ rfl rfl rfl; rfl
    have k2 : ∀ x y z : Int, x = 0 → y = 1 → z = 0 → [x, y, z] = [0, 1, 0] := by rintro _ _ _ rfl rfl rfl; rfl
    have k3 : ∀ x y z : Int, x = 0 → y = 0 → z = 1 → [x, y, z] = [0, 0, 1] := by rintro _ _ _ rfl rfl rfl; rfl
    have k4 : ∀ x y z : List Int, x = [1, 0, 0] → y = [0, 1, 0] → z = [0, 0, 1] → [x, y, z] = [[1, 0, 0], [0, 1, 0], [0, 0, 1]] := by rintro _ _ _ rfl rfl rfl; rfl
    refine k4 _ _ _ (k1 _ _ _ ?_ ?_ ?_) (k2 _ _ _ ?_ ?_ ?_) (k3 _ _ _ ?_ ?_ ?_) <;> grind
theorem und_mul {n : Nat} {M : List (List Int)} (G : Gr n M) : mulM n (undM n M) M = unitM n := by
  have hd := G.d
  rcases G.cases with rfl | rfl | rfl
  · obtain ⟨a, rfl⟩ := sh1 G.sh rfl
    rw [undE1, mulE1, unitE1]
    rw [det1] at hd
    rcases hd with rfl | rfl <;> rfl
  · obtain ⟨a, b, c, d, rfl⟩ := sh2 G.sh rfl
    rw [det2] at hd
    rw [undE2, mulE2, unitE2]
    generalize hw : a * d - b * c = w at hd
    have e1 : w * w = 1 := by rcases hd with rfl | rfl <;> rfl
    congr 2
    · grind
    · congr 1; grind
    · congr 1
      · grind
      · congr 1; grind
  · obtain ⟨a, b, c, d, e, f, g, h, i, rfl⟩ := sh3 G.sh rfl
    rw [det3] at hd
    rw [undE3, mulE3, unitE3]
    generalize hw : a * (e * i - f * h) - b * (d * i - f * g) + c * (d * h - e * g) = w at hd
    have e1 : w * w = 1 := by rcases hd with rfl | rfl <;> rfl
    have k1 : ∀ x y z : Int, x = 1 → y = 0 → z = 0 → [x, y, z] = [1, 0, 0] := by rintro _ _ _ rfl rfl rfl; rfl
    have k2 : ∀ x y z : Int, x = 0 → y = 1 → z = 0 → [x, y, z] = [0, 1, 0] := by rintro _ _ _ rfl rfl rfl; rfl
    have k3 : ∀ x y z : Int, x = 0 → y = 0 → z = 1 → [x, y, z] = [0, 0, 1] := by rintro _ _ _ rfl rfl rfl; rfl
    have k4 : ∀ x y z : List Int, x = [1, 0, 0] → y = [0, 1, 0] → z = [0, 0, 1] → [x, y, z] = [[1, 0, 0], [0, 1, 0], [0, 0, 1]] := by rintro _ _ _ rfl rfl rfl; rfl
    refine k4 _ _ _ (k1 _ _ _ ?_ ?_ ?_) (k2 _ _ _ ?_ ?_ ?_) (k3 _ _ _ ?_ ?_ ?_) <;> grind
theorem mul_unitS {n : Nat} {M : List (List Int)} (h1 : 1 ≤ n) (h3 : n ≤ 3) (h : Sh n M) : mulM n M (unitM n) = M := by
  have : n = 1 ∨ n = 2 ∨ n = 3 := by omega
  rcases this with rfl | rfl | rfl
  · obtain ⟨a, rfl⟩ := sh1 h rfl
    rw [unitE1, mulE1]; simp
  · obtain ⟨a, b, c, d, rfl⟩ := sh2 h rfl
    rw [unitE2, mulE2]; simp
  · obtain ⟨a, b, c, d, e, f, g, h, i, rfl⟩ := sh3 h rfl
    rw [unitE3, mulE3]; simp
theorem unit_mulS {n : Nat} {M : List (List Int)} (h1 : 1 ≤ n) (h3 : n ≤ 3) (h : Sh n M) : mulM n (unitM n) M = M := by
  have : n = 1 ∨ n = 2 ∨ n = 3 := by omega
  rcases this with rfl | rfl | rfl
  · obtain ⟨a, rfl⟩ := sh1 h rfl
    rw [unitE1, mulE1]; simp
  · obtain ⟨a, b, c, d, rfl⟩ := sh2 h rfl
    rw [unitE2, mulE2]; simp
  · obtain ⟨a, b, c, d, e, f, g, h, i, rfl⟩ := sh3 h rfl
    rw [unitE3, mulE3]; simp
theorem pm_mul {a b : Int} (ha : a = 1 ∨ a = -1) (hb : b = 1 ∨ b = -1) : a * b = 1 ∨ a * b = -1 := by
  rcases ha with rfl | rfl <;> rcases hb with rfl | rfl <;> decide
theorem Gr.mul {n : Nat} {M N : List (List Int)} (hM : Gr n M) (hN : Gr n N) : Gr n (mulM n M N) := ⟨hM.h1, hM.h3, mul_sh hM.h1 hM.h3 hM.sh hN.sh, by rw [mul_detS hM.h1 hM.h3 hM.sh hN.sh]; exact pm_mul hM.d hN.d⟩
theorem gr_unit {n : Nat} (h1 : 1 ≤ n) (h3 : n ≤ 3) : Gr n (unitM n) := ⟨h1, h3, unit_sh, .inl (det_unit n h3)⟩
theorem und_det {n : Nat} {M : List (List Int)} (h : Gr n M) : detM n (undM n M) = detM n M := by
  have := mul_detS h.h1 h.h3 h.sh (und_sh (n := n) (M := M))
  rw [mul_und h, det_unit n h.h3] at this
  rcases h.d with e | e <;> rw [e] at this ⊢ <;> omega
theorem Gr.und {n : Nat} {M : List (List Int)} (h : Gr n M) : Gr n (undM n M) := ⟨h.h1, h.h3, und_sh, by rw [und_det h]; exact h.d⟩
/-- the group of the tables of one size -/
def GL (n : Nat) : Type := { M : List (List Int) // Gr n M }
namespace GL
variable {n : Nat}
def mk (M : List (List Int)) (h : Gr n M) : GL n := ⟨M, h⟩
instance : Mul (GL n) := ⟨fun a b => ⟨mulM n a.val b.val, a.property.mul b.property⟩⟩
def one (h1 : 1 ≤ n) (h3 : n ≤ 3) : GL n := ⟨unitM n, gr_unit h1 h3⟩
theorem mul_assoc (a b c : GL n) : a * b * c = a * (b * c) := Subtype.ext (mul_assocS a.property.h1 a.property.h3 a.property.sh b.property.sh c.property.sh)
theorem one_mul {h1 : 1 ≤ n} {h3 : n ≤ 3} (a : GL n) : one h1 h3 * a = a := Subtype.ext (unit_mulS h1 h3 a.property.sh)
end GL
end T29
set_option Elab.async false
set_option linter.all false
set_option maxRecDepth 100000
set_option maxHeartbeats 1000000
namespace Oc
open PySem PySem.Spec PyProof.Rows L2
section
variable {M : Model} {prog : Program} {w : World} {A : Around} {E : Value → Shared → Prop} {s : Shared} {K : PySem.W.Frag} {x C f : Addr} {b : Value} {ox : Obj} {od : Option Obj}
theorem ifBound_objNe {args : List Value} {Q : Option Value → Shared → Prop} (X : K.In s.heap) (I : PySem.W.InstAt s.heap x ox C od) (hs : PySem.W.findIn K (.ref C) "__ne__" = some (some (.builtin "object.__ne__")))
    (h : wpAny M A (call (.builtin "object.__ne__") (.ref x :: args)) (fun v => Q (some v)) E s) : wpAny M A (callSpecialIfBound? (.ref x) "__ne__" args) Q E s := by
  simp only [callSpecialIfBound?, bindSpecialIfBound?]
  refine wpAny_holding (wpAny_bind (wpAny_bind (wpAny_bind (I.type.here ((PySem.W.looks_findIn X hs).here ?_)))))
  refine wpAny_bind (wpAny_askSetting (wpAny_ite ?_))
  have fin : wpAny M A (call (.builtin "object.__ne__") ([.ref x] ++ args) >>= fun v => pure (some v)) Q E s := wpAny_bind (wpAny_mono h (fun v s' h' => wpAny_pure h') fun _ _ h' => h')
  split
  · exact wpAny_bind (wpAny_of_eq (F.cmp_object.ne.bind _) (wpAny_pure (by exact fin)))
  · exact wpAny_tryCatch (wpAny_bind (wpAny_of_eq (F.cmp_object.ne.bind _) (wpAny_pure (by exact fin))))
theorem entry_ne (X : K.In s.heap) (I : PySem.W.InstAt s.heap x ox C od) (he : PySem.W.findIn K (.ref C) "__eq__" = some (some (.ref f))) (hf : PySem.W.isFn K (.ref f) = true) (hu : A.units < cLine) {Q : Fin → Shared → Prop}
    (hcall : wpAny M A (call (.ref f) [.ref x, b]) (fun v s' => ∃ c, v = .bool c ∧ Q (.done (.ret (.bool (!c)))) s') E s) :
    wpAny M A (Builtin.«object.__ne__» ⟨[.ref x, b], []⟩) Q E s := by
  unfold Builtin.«object.__ne__»
  repeat (first
    | with_reducible refine wpAny_cRoomFor hu ?_
    | (refine wpAny_bind (m := callSpecialIfBound? (.ref x) (Str.ofString "__eq__") [b])
        (PySem.W.ifBound_K X I he hf (wpAny_mono hcall (fun r s' hr => by
          obtain ⟨c, rfl, hq⟩ := hr
          repeat (first | exact hq | exact wpAny_pure hq | exact wpAny_truthy_bool hq | (refine wpAny_bind (m := truthy (.bool _)) (wpAny_truthy_bool ?_)) | wp_step)) fun _ _ e => e)))
    | wp_step)
theorem ne_K {L : Addr} {h₀ : Heap} {m : Str → Option Value} {tb : Value} {Q : Value → Shared → Prop} (hu : A.units + 1 < cLine) (Fr0 : Fr h₀ L s.heap m) (X₀ : K.In h₀) (I : PySem.W.InstAt s.heap x ox C od) (hb : PySem.W.Looks (model prog w) s.heap (typeOf b) tb) (hn : PySem.W.notFirst K C tb = true)
    (hm : PySem.W.mroIn K C (.type "object") = some true) (hs : PySem.W.findIn K (.ref C) "__ne__" = some (some (.builtin "object.__ne__"))) (he : PySem.W.findIn K (.ref C) "__eq__" = some (some (.ref f))) (hf : PySem.W.isFn K (.ref f) = true)
    (h : wpAny (model prog w) A.in1 (call (.ref f) [.ref x, b]) (fun v s' => ∃ c, v = .bool c ∧ Q (.bool (!c)) s') E s) : wpAny (model prog w) A (richCompare .NotEq (.ref x) b) Q E s := by
  have X := X₀.keeps Fr0.keep
  have one : wpAny (model prog w) A (tryCompare (.ref x) "__ne__" b) (fun r s' => ∃ v, r = some v ∧ Q v s') E s := by
    unfold tryCompare
    refine wpAny_bind (ifBound_objNe X I hs (wpAny_call (codeAny_call_builtin F.cmp_object.ne.plain F.cmpEntry_ne (PySem.W.check_slot F.cmpKind_ne F.cmpSplit_ne (I.type.andThen (PySem.W.looks_mroIn X hm)) (F.cmpArgs_ne _ _)
      (entry_ne (A := A.in1) X I he hf hu (wpAny_mono h (fun v s' hv => ?_) fun _ _ e => e))))))
    obtain ⟨c, rfl, hq⟩ := hv
    first | exact ⟨c, rfl, wpAny_pure ⟨_, rfl, hq⟩⟩ | exact ⟨c, rfl, wpAny_pure (wpAny_pure ⟨_, rfl, hq⟩)⟩
  unfold richCompare
  simp only [oneThing_ref]
  refine wpAny_holding (wpAny_bind (wpAny_cRoomFor (by omega) ?_))
  refine wpAny_bind (I.type.here (wpAny_bind (hb.here ?_)))
  split
  · rename_i q
    have e : PySem.W.subIn K tb (.ref C) = some false := by
      rcases Bool.or_eq_true_iff.mp hn with e | e
      · rw [beq_iff_eq.mp e] at q; simp at q
      · exact beq_iff_eq.mp e
    refine wpAny_bind ((PySem.W.looks_subIn X e).here ?_)
    simp only [Bool.false_eq_true, if_false]
    refine wpAny_bind (wpAny_mono one (fun r s' z => ?_) fun _ _ e => e)
    obtain ⟨v, rfl, hq⟩ := z
    exact wpAny_pure hq
  · refine wpAny_bind (wpAny_pure ?_)
    simp only [Bool.false_eq_true, if_false]
    refine wpAny_bind (wpAny_mono one (fun r s' z => ?_) fun _ _ e => e)
    obtain ⟨v, rfl, hq⟩ := z
    exact wpAny_pure hq
end
end Oc
set_option Elab.async false
set_option linter.all false
set_option maxRecDepth 100000
set_option maxHeartbeats 1000000
namespace Oc
open PySem PySem.Spec PyProof.Rows L2
def rEqO (C : Addr) (sp : Sp) (E : XK) : R2 := fun x y H Q => ∃ a dx fs b dy gs, x = .ref a ∧ y = .ref b ∧ H a = some (.ins C dx fs) ∧ H b = some (.ins C dy gs) ∧ sp [x, y] H Q E
def rNeO (C : Addr) (sp : Sp) (E : XK) : R2 := fun x y H Q => ∃ a dx fs b dy gs, x = .ref a ∧ y = .ref b ∧ H a = some (.ins C dx fs) ∧ H b = some (.ins C dy gs) ∧ sp [x, y] H (fun v H' => ∃ c, v = .bl c ∧ Q (.bl (!c)) H') E
theorem notFirst_self (K : PySem.W.Frag) (C : Addr) : PySem.W.notFirst K C (.ref C) = true := by
  unfold PySem.W.notFirst
  simp
section
variable {X : Cx} {CX : CXT} {C g : Addr} {n : Nat} {sp : Sp} {E : XK}
theorem op_eqO (hs : PySem.W.findIn X.K (.ref C) "__eq__" = some (some (.ref g))) (hf : PySem.W.isFn X.K (.ref g) = true) (G : FnR X.prog X.w X.K X.mg X.base CX n g sp) (hr : Room n X.A) (hx : Passes CX X E) : OpR X (compareOp .Eq) (rEqO C sp E) := by
  intro pins s σ H x y v u Q I rx ry h
  obtain ⟨a, dx, fs, b, dy, gs, rfl, rfl, ha, hb, q⟩ := h
  cases (show v = Value.ref a from rx)
  cases (show u = Value.ref b from ry)
  obtain ⟨mA, O, _⟩ := ins_get I.hok ha
  obtain ⟨od, J, _⟩ := O.look
  obtain ⟨mB, O', _⟩ := ins_get I.hok hb
  obtain ⟨od', J', _⟩ := O'.look
  obtain ⟨m, hF⟩ := I.fr
  show wpAny _ _ (richCompare .Eq _ _) _ _ _
  refine PySem.W.cmp_K (op := .Eq) (tb := .ref C) hr.units0 hF I.ok.mod.kin J J'.type (notFirst_self _ _) hs hf ?_
  refine wpAny_mono (wpAny_call (run_fnR (us := [.ref a, .ref b]) (vs := [.ref a, .ref b]) G hr hx I (.cons rfl (.cons rfl .nil)) q)) (fun w s' z => ?_) fun _ _ x => x
  obtain ⟨z', H', I', rz, qz⟩ := z
  exact SlX.cmpback rz ⟨z', H', I', rz, qz⟩
theorem op_neO (hm : PySem.W.mroIn X.K C (.type "object") = some true) (hn : PySem.W.findIn X.K (.ref C) "__ne__" = some (some (.builtin "object.__ne__"))) (hs : PySem.W.findIn X.K (.ref C) "__eq__" = some (some (.ref g))) (hf : PySem.W.isFn X.K (.ref g) = true)
    (G : FnR X.prog X.w X.K X.mg X.base CX n g sp) (hr : Room (n + 1) X.A) (hx : Passes CX X E) : OpR X (compareOp .NotEq) (rNeO C sp E) := by
  intro pins s σ H x y v u Q I rx ry h
  obtain ⟨a, dx, fs, b, dy, gs, rfl, rfl, ha, hb, q⟩ := h
  cases (show v = Value.ref a from rx)
  cases (show u = Value.ref b from ry)
  obtain ⟨mA, O, _⟩ := ins_get I.hok ha
  obtain ⟨od, J, _⟩ := O.look
  obtain ⟨mB, O', _⟩ := ins_get I.hok hb
  obtain ⟨od', J', _⟩ := O'.look
  obtain ⟨m, hF⟩ := I.fr
  have hu : X.A.units + 1 < cLine := hr.in1.units0
  show wpAny _ _ (richCompare .NotEq _ _) _ _ _
  refine ne_K (tb := .ref C) hu hF I.ok.mod.kin J J'.type (notFirst_self _ _) hm hn hs hf ?_
  refine wpAny_mono (wpAny_call (SlX.run_at (us := [.ref a, .ref b]) (ws := [.ref a, .ref b]) G hr.in1 I.env0.in1 hx I (.cons rfl (.cons rfl .nil)) q)) (fun w s' z => ?_) fun _ _ x => x
  obtain ⟨z', H', I', rz, c, ec, qz⟩ := z
  subst ec
  obtain rfl : w = Value.bool c := rz
  exact ⟨c, rfl, .bl (!c), H', I', rfl, qz⟩
end
end Oc
set_option Elab.async false
set_option linter.all false
set_option maxRecDepth 100000
set_option maxHeartbeats 1000000
namespace Rg
open PySem PySem.Spec PyProof.Rows L2
section
variable {X : Cx}
def rRng1 : List V → Hp → VK → Prop := fun vs H Q => ∃ j, vs = [V.int j] ∧ ∀ p, H p = none → Q (.ref p) (upd H p (.rng 0 j))
theorem cr_range1 : CallR X (.type "range") rRng1 := by
  intro pins s σ H vs us Q I r h
  obtain ⟨j, rfl, q⟩ := h
  obtain ⟨u1, rfl, rj⟩ := r.one
  obtain ⟨u, rfl⟩ := rj
  refine call_range_1 ⟨.ref s.heap.objs.size, upd H s.heap.objs.size (.rng 0 j), I.laid (t' := s.toks + 1 + 1) (fun b o e => Heap.get?_push_of_some _ e) (Nat.le_refl _) ?_, rfl, q _ (I.hok.fresh (Nat.le_refl _))⟩
  exact ⟨s.toks, u, s.toks + 1, Heap.get?_push_size _ rfl⟩
def iRngV (tl : TE) : TI := fun σ H R => tl σ H fun x H1 => ∃ (p : Addr) (lo hi : Int), x = .ref p ∧ H1 p = some (.rng lo hi) ∧ (-(2 ^ 62) ≤ lo ∧ lo < 2 ^ 62 ∧ -(2 ^ 62) ≤ hi ∧ hi < 2 ^ 62) ∧ R (Itr lo (hi - lo).toNat) H1
theorem pi_rng {tg e : Expr} {tl : TE} (he : PE X e tl) : PI X tg e (iRngV tl) := by
  refine ⟨fun pins s σ H R I h => ?_⟩
  refine thn (he.run pins s σ H _ I h) fun v s1 ⟨x, H1, I1, rx, p, lo, hi, ex, hp, ⟨h1, h2, h3, h4⟩, q⟩ => ?_
  subst ex
  obtain rfl : v = Value.ref p := rx
  obtain ⟨t, u, w, ho⟩ := I1.hok p _ hp
  refine wpAny_pyIter_range ho (small_one h1 h2 h3 h4) ?_
  refine ⟨s1.heap.objs.size, [s1.heap.objs.size], _, _, H1, rfl, I1.kept (t' := s1.toks) fun b o e => Heap.get?_push_of_some _ e, turn_range _ lo (hi - lo).toNat, ?_, fun b hb => ?_, q⟩
  · have e1 : lo + ((0 : Nat) : Int) * 1 = lo := by simp
    have e2 : (((hi - lo).toNat : Nat) : Int) - ((0 : Nat) : Int) = Builtin.Range.rangeSize lo hi 1 := by rw [rangeSize_one]; split <;> omega
    show IsRangeIter _ _ (lo + ((0 : Nat) : Int) * 1) ((((hi - lo).toNat : Nat) : Int) - ((0 : Nat) : Int)) 1
    rw [e1, e2]
    exact Heap.get?_push_size _ rfl
  · have e : b = s1.heap.objs.size := by simpa using hb
    subst e
    exact I1.fpOk (Nat.le_refl _) (I1.hok.fresh (Nat.le_refl _))
end
end Rg
set_option Elab.async false
set_option linter.all false
set_option maxRecDepth 100000
set_option maxHeartbeats 2000000
namespace T29
open PySem PySem.Spec PyProof.Rows L2 Gd Zn Rp Dn Tb Gn En Zs Ct Op Oc Rg
section
variable {P : Program} {w : World} {K : PySem.W.Frag} {mg : Str → Option Value} {base : Heap} {C : Addr}
def sp_detP (C : Addr) : Sp := fun vs H Q _ => ∃ v M n, vs = [v] ∧ Tab C H v M ∧ Sq n M ∧ n ≤ 3 ∧ ∀ H', Same H H' → Q (.int (detM n M)) H'
def trM (n : Nat) (M : List (List Int)) : Int := ((List.range n).map fun i => (M.getD i []).getD i 0).sum
def sp_trace_of : Sp := fun vs H Q _ => ∃ v M n, vs = [v] ∧ Mx H v M ∧ Sh n M ∧ n ≤ 3 ∧ ∀ H', Same H H' → Q (.int (trM n M)) H'
def sp_eqT (C : Addr) : Sp := fun vs H Q _ => ∃ v o M N, vs = [v, o] ∧ Tab C H v M ∧ Tab C H o N ∧ Q (.bl (decide (M = N))) H
def sp_lead (C : Addr) : Sp := fun vs H Q _ => ∃ v o M xs n, vs = [v, o] ∧ Tab C H v M ∧ SeqV H o (iD xs) ∧ Sq n M ∧ 1 ≤ n ∧ n ≤ 3 ∧ xs.length = n ∧ (∀ x ∈ xs, Small x) ∧ ∀ v' H', Same H H' → RowV H' v' (ledM M xs) → Q v' H'
theorem SeqV.any {H : Hp} {v : V} {xs : List Int} (h : SeqV H v (iD xs)) : ∃ d, AnyV H v d ∧ items d = iD xs ∧ (d = .list (iD xs) ∨ d = .tuple (iD xs)) := by
  rcases h with h | h
  · exact ⟨_, .inl h, rfl, .inl rfl⟩
  · exact ⟨_, .inl h, rfl, .inr rfl⟩
def sp_check_row : Sp := fun vs H Q _ => ∃ v d, ∃ n : Nat, vs = [.int n, v] ∧ AnyV H v d ∧ (items d).length ≤ 200 ∧ rowOfB n d = true ∧ ∀ H', Same H H' → Q .non H'
abbrev st_check_row : Stmt := top 19
theorem sc_check_row : FnScope ["size", "row"] ["size", "row"] (defScope st_check_row) := ⟨rfl, rfl, rfl, by decide +kernel, rfl, by decide +kernel, by decide +kernel⟩
theorem ok_check_row {f : Addr} {fd : FuncData} (F : Fun K "check_row" "check_row" st_check_row f fd) (D1 : Def P w K mg base "is_row_of" 3 ["size", "value"] sp_is_row_of) : FnOk P w K mg base CX0 4 f fd ["size", "row"] sp_check_row := by
  refine F.ok sc_check_row (fun vs H Q E h => ?_) (fun cdv A outer s H vs Q E hr h => ?_)
  · obtain ⟨v, d, n, rfl, _⟩ := h
    rfl
  · obtain ⟨v, d, n, rfl, av, hb, e, q⟩ := h
    refine ⟨_, pss_one (ps_if (pt_not (pt_val (pe_def D1 hr (pa_cons (pv 0) (pa_cons (pv 1) pa_nil))))) pss_dead pss_nil), ?_⟩
    refine ⟨_, rfl, _, rfl, v, d, n, rfl, av, hb, fun H1 s1 => ⟨_, rfl, ?_⟩⟩
    rw [e]
    exact iteF (q H1 s1)
theorem sc_detP : FnScope ["self"] ["self"] (defScope (st_T 3)) := ⟨rfl, rfl, rfl, by decide +kernel, rfl, by decide +kernel, by decide +kernel⟩
theorem ok_detP {f : Addr} {fd : FuncData} (F : Fun K "determinant" "Table.determinant" (st_T 3) f fd) (Tc : Tcl K mg C) (D1 : ∀ n, Def P w K mg base "determinant_of" (2 * n + 1) ["rows"] (sp_det n)) : FnOk P w K mg base CX0 8 f fd ["self"] (sp_detP C) := by
  refine F.ok sc_detP (fun vs H Q E h => ?_) (fun cdv A outer s H vs Q E hr h => ?_)
  · obtain ⟨v, M, n, rfl, _⟩ := h
    rfl
  · obtain ⟨v, M, n, rfl, ⟨p, dx, r, rfl, hp, hM⟩, hS, h3, q⟩ := h
    refine ⟨_, pss_one (ps_ret (pe_def (D1 n) hr (pa_cons (pe_fld (pv 0) rfl) pa_nil) (by omega))), ?_⟩
    exact ⟨_, rfl, p, C, dx, _, _, rfl, hp, Tc.cl, Tc.nR, fldsT_rows _, r, M, rfl, hM, by omega, hS, q⟩
theorem sc_lead : FnScope ["self", "row"] ["self", "row"] (defScope (st_T 8)) := ⟨rfl, rfl, rfl, by decide +kernel, rfl, by decide +kernel, by decide +kernel⟩
theorem ok_lead {f : Addr} {fd : FuncData} (F : Fun K "lead" "Table.lead" (st_T 8) f fd) (Tc : Tcl K mg C) (D1 : Def P w K mg base "check_row" 4 ["size", "row"] sp_check_row) (D2 : Prp P w K mg base C "size" 1 (sp_size C)) (D3 : Def P w K mg base "led_row" 2 ["rows", "row"] sp_led_row) :
    FnOk P w K mg base CX0 5 f fd ["self", "row"] (sp_lead C) := by
  refine F.ok sc_lead (fun vs H Q E h => ?_) (fun cdv A outer s H vs Q E hr h => ?_)
  · obtain ⟨v, o, M, xs, n, rfl, _⟩ := h
    rfl
  · obtain ⟨v, o, M, xs, n, rfl, hv, ho, hS, h1, h3, hx, hsx, q⟩ := h
    refine ⟨_, pss_cons (ps_expr (pe_def D1 hr (pa_cons (pe_prp D2 Tc.cl hr (pv 0)) (pa_cons (pv 1) pa_nil))))
      (pss_one (ps_ret (pe_def D3 hr (pa_cons (pe_fld (pv 0) rfl) (pa_cons (pv 1) pa_nil))))), ?_⟩
    obtain ⟨p, dx, r, rfl, hp, hM⟩ := id hv
    obtain ⟨d, av, ei, hd⟩ := T29.SeqV.any ho
    refine ⟨_, rfl, p, dx, _, rfl, hp, .ref p, M, rfl, hv, ?_⟩
    refine ⟨_, rfl, o, d, M.length, rfl, av, by rw [ei]; unfold iD; rw [List.length_map]; omega, ?_, fun H1 s1 => ?_⟩
    · rw [hS.len]
      exact row_true hd h1 h3 hx
    · refine ⟨_, rfl, p, C, dx, _, _, rfl, s1 _ _ hp, Tc.cl, Tc.nR, fldsT_rows _, ?_⟩
      refine ⟨_, rfl, r, o, M, xs, rfl, hM.mono (KS.of s1), ho.mono s1, by rw [hS.len]; omega, by omega, hsx, fun c hc => ⟨by rw [hS.row c hc, hx], hS.small c hc⟩, fun v' H' s' hv' => q v' H' (s1.trans s') hv'⟩
end
end T29
set_option Elab.async false
set_option linter.all false
set_option maxRecDepth 100000
set_option maxHeartbeats 2000000
namespace T29
open PySem PySem.Spec PyProof.Rows L2 Gd Zn Rp Dn Tb Gn En Zs Ct Op Oc Rg
/-- Table(..) of anything that tells the rows -/
theorem make_any {C : Addr} {H : Hp} {v : V} {d : PyData} {M : List (List Int)} {n : Nat} {Q : VK} {E : XK} (av : AnyV H v d) (g : GridD d M) (hS : Sq n M) (h1 : 1 ≤ n) (h3 : n ≤ 3) (hd : detM n M = 1 ∨ detM n M = -1)
    (k : ∀ c H', Same H H' → Tab C H' (.ref c) M → Q (.ref c) H') : ∀ x dx : Addr, H x = none → H dx = none → dx ≠ x → sp_init C (V.ref x :: ([v] ++ [])) (upd (upd H dx (.own x)) x (.ins C dx [])) (fun u H2 => u = V.non ∧ Q (.ref x) H2) E := by
  intro x dx nx nd ne
  have s : Same H (upd (upd H dx (.own x)) x (.ins C dx [])) := fun c o e => by
    rw [upd_ne (ne_of_none e nx), upd_ne (ne_of_none e nd)]
    exact e
  refine ⟨x, dx, v, d, M, n, rfl, upd_same, av.mono s, g, hS, h1, h3, hd, fun H' kp ht => ⟨rfl, k x H' (fun c o e => ?_) ht⟩⟩
  exact kp c o (ne_of_none e nx) (s c o e)
def lmD (M : List (List Int)) : PyData := .list (M.map fun r => .list (r.map PyData.int))
theorem grid_lm (M : List (List Int)) : GridD (lmD M) M := by
  refine ⟨rfl, ?_, fun i d' e => ?_⟩
  · show (M.map _).length = _
    rw [List.length_map]
  · have e : (M.map fun r => PyData.list (r.map PyData.int))[i]? = some d' := e
    rw [List.getElem?_map] at e
    cases h : M[i]? with
    | none => rw [h] at e; cases e
    | some r =>
      rw [h] at e
      cases e
      exact ⟨r, rfl, .inl rfl⟩
theorem py_ints {H : Hp} : ∀ xs : List Int, PyVs H (xs.map V.int) (xs.map PyData.int)
  | [] => .nil
  | x :: xs => .cons (.int x) (py_ints xs)
theorem pys_lm {H : Hp} : ∀ {vs : List V} {M : List (List Int)}, vs.length = M.length → (∀ (i : Nat) (v : V), vs[i]? = some v → ∃ q, v = .ref q ∧ H q = some (.lst ((M.getD i []).map V.int))) → PyVs H vs (M.map fun r => .list (r.map PyData.int))
  | [], [], _, _ => .nil
  | v :: vs, r :: M, hl, h => by
    obtain ⟨q, rfl, hq⟩ := h 0 v rfl
    exact .cons (.lst hq (py_ints _)) (pys_lm (Nat.succ.inj hl) fun i w e => h (i + 1) w e)
theorem py_lm {H : Hp} {D : Addr} {vs : List V} {M : List (List Int)} (hD : H D = some (.lst vs)) (hl : vs.length = M.length) (h : ∀ (i : Nat) (v : V), vs[i]? = some v → ∃ q, v = .ref q ∧ H q = some (.lst ((M.getD i []).map V.int))) : PyV H (.ref D) (lmD M) := .lst hD (pys_lm hl h)
theorem und_get {n p : Nat} {M : List (List Int)} (h : p < n) : (undM n M).getD p [] = (List.range n).map fun a => detM n M * cofM (n - 1) M a p := by
  unfold undM
  rw [List.getD_eq_getElem?_getD, List.getElem?_map, List.getElem?_range h]
  rfl
section
variable {P : Program} {w : World} {K : PySem.W.Frag} {mg : Str → Option Value} {base : Heap} {C : Addr}
def sp_undone (C : Addr) : Sp := fun vs H Q _ => ∃ v M n, vs = [v] ∧ Tab C H v M ∧ Gr n M ∧ Sq n M ∧ Sq n (undM n M) ∧ ∀ c H', Same H H' → Tab C H' (.ref c) (undM n M) → Q (.ref c) H'
abbrev N_undone : List Str := ["self", "whole", "places", "place", "at"]
theorem sc_undone : FnScope N_undone ["self"] (defScope (st_T 9)) := ⟨rfl, rfl, rfl, by decide +kernel, rfl, by decide +kernel, by decide +kernel⟩
theorem ok_undone {f : Addr} {fd : FuncData} (F : Fun K "undone" "Table.undone" (st_T 9) f fd) (T : Txt mg) (Tc : Tcl K mg C) (D1 : Prp P w K mg base C "determinant" 8 (sp_detP C)) (D2 : Prp P w K mg base C "size" 1 (sp_size C))
    (D3 : ∀ n, Def P w K mg base "cofactor" (2 * n + 2) ["rows", "at", "place"] (sp_cof n)) (D4 : Mkr P w K mg base C) : FnOk P w K mg base CX0 10 f fd ["self"] (sp_undone C) := by
  refine F.ok sc_undone (fun vs H Q E h => ?_) (fun cdv A outer s H vs Q E hr h => ?_)
  · obtain ⟨v, M, n, rfl, _⟩ := h
    rfl
  · obtain ⟨v, M, n, rfl, hv, G, hS, hU, q⟩ := h
    obtain ⟨m, rfl⟩ : ∃ m, n = m + 1 := ⟨n - 1, by have := G.h1; omega⟩
    have h3 := G.h3
    refine ⟨_, pss_cons (ps_set (i := 1) sc_undone.nd rfl (Or.inr rfl) (pe_prp D1 Tc.cl hr (pv 0)))
      (pss_cons (ps_set (i := 2) sc_undone.nd rfl (Or.inr rfl) (pe_callTy (r := rRng1) cr_range1 (by rfl) T.range PyProof.Rows.boot_range (pa_cons (pe_prp D2 Tc.cl hr (pv 0)) pa_nil)))
      (pss_one (ps_ret (pe_mkr D4 Tc hr (pa_cons (pe_lc (own := [("place", 3)]) (g := gName 3) (tt := tYes) rfl sc_undone.nd (pi_rng (pv 2))
        (blkOk_by (N := N_undone) (sc := defScope (st_T 9)) (by decide +kernel))
        (fun _ _ _ _ _ => pg_name (i := 3) sc_undone.nd rfl (Or.inr rfl) (Or.inl rfl)) (fun _ _ _ _ _ => pts_nil)
        (fun s' H' C' cl' fp' => by
          refine pe_lc (own := [("at", 4)]) (wi := iRngV (tVar 2)) (g := gName 4) (tt := tYes) (te := tOp (rI CMul fun i j => .int (i * j)) (tVar 1) (tCall (sp_cof m) [] E0 (tCons (tFld K (tVar 0) "_rows") (tCons (tVar 4) (tCons (tVar 3) tNil))))) rfl sc_undone.nd ?p1 ?p2 ?p3 ?p4 ?p5
          case p1 => exact pi_rng (pv 2)
          case p2 => exact blkOk_by (N := N_undone) (by rfl)
          case p3 => exact (fun _ _ _ _ _ => pg_name (i := 4) sc_undone.nd rfl (Or.inl rfl) (Or.inr rfl))
          case p4 => exact (fun _ _ _ _ _ => pts_nil)
          case p5 => exact (fun _ _ _ _ _ => pe_op op_mul (pv 1) (pe_def (X := Cx.blk _ _ _ _ _ _) (D3 m) hr (pa_cons (pe_fld (pv 0) rfl) (pa_cons (pv 4) (pa_cons (pv 3) pa_nil))) (by omega))))) pa_nil))))), ?_⟩
    obtain ⟨p, dx, r, rfl, hp, hM⟩ := id hv
    refine ⟨_, rfl, p, dx, _, rfl, hp, .ref p, M, m + 1, rfl, hv, hS, h3, fun H1 s1 => ?_⟩
    refine ⟨_, rfl, p, dx, _, rfl, s1 _ _ hp, .ref p, M, rfl, T29.Tab.same s1 hv, _, rfl, fun pl np => ?_⟩
    have s2 : Same H (upd H1 pl (.rng 0 (M.length : Int))) := s1.trans (same_new np)
    have hpl : upd H1 pl (.rng 0 (M.length : Int)) pl = some (.rng 0 (M.length : Int)) := upd_same
    have hlen : (M.length : Int) = ((m + 1 : Nat) : Int) := by rw [hS.len]
    rw [hlen] at hpl s2 ⊢
    generalize upd H1 pl (.rng 0 ((m + 1 : Nat) : Int)) = H2 at hpl s2
    have hb : -(2 ^ 62) ≤ (0 : Int) ∧ (0 : Int) < 2 ^ 62 ∧ -(2 ^ 62) ≤ ((m + 1 : Nat) : Int) ∧ ((m + 1 : Nat) : Int) < 2 ^ 62 := ⟨by decide, by decide, by omega, by omega⟩
    have hn : (((m + 1 : Nat) : Int) - 0).toNat = m + 1 := by omega
    have hw : -(2 ^ 64) < detM (m + 1) M ∧ detM (m + 1) M < 2 ^ 64 := by rcases G.d with e | e <;> rw [e] <;> exact ⟨by decide, by decide⟩
    refine r_nret (r_cons (tlc_call ?_))
    refine ⟨_, rfl, pl, 0, ((m + 1 : Nat) : Int), rfl, hpl, hb, ?_⟩
    rw [hn]
    refine lc_fresh (p := none) (m + 1) (fun i => .lst (((undM (m + 1) M).getD i []).map V.int)) has_none (by omega) (fun i H3 hi s3 => hi) (fun H3 s3 => Nat.le_refl _) (fun i x H3 H4 C' hi s3 _ hy hC => ?_) fun Da H3 rs nD s3 hD hrl hE => ?_
    · obtain ⟨rfl, rfl⟩ := hy
      refine ⟨rfl, ?_⟩
      refine tlc_call ?_
      refine ⟨_, rfl, pl, 0, ((m + 1 : Nat) : Int), rfl, s3.same _ _ hpl, hb, ?_⟩
      rw [hn]
      refine lc_el (p := none) (m + 1) (fun j v => v = .int (detM (m + 1) M * cofM m M j i)) has_none (by omega) (fun j H5 hj s5 => hj) (fun H5 s5 => Nat.le_refl _) (fun j x H5 H6 C2 hj s5 _ hy2 hC2 => ?_) fun Db H5 ys nDb s5 hDb hyl hyE => ?_
      · obtain ⟨rfl, rfl⟩ := hy2
        refine ⟨rfl, ?_⟩
        have sz := s2.trans (s3.same.trans s5.same)
        refine ⟨_, rfl, _, rfl, p, C, dx, _, _, rfl, sz _ _ hp, Tc.cl, Tc.nR, fldsT_rows _, _, rfl, _, rfl, ?_⟩
        refine ⟨r, M, j, i, by simp, hM.mono (KS.of sz), by omega, hS, by omega, by omega, fun H7 s7 => ?_⟩
        exact ⟨_, _, rfl, rfl, .inl hw, hC2 _ _ (RX.of s7) rfl⟩
      · refine hC Db H5 s5 nDb ?_
        have ey : ys = (List.range (m + 1)).map fun j => V.int (detM (m + 1) M * cofM m M j i) := map_of_get (n := 0) _ (by rw [hyl, List.length_range]) fun j v e => by
          have hj : j < m + 1 := by rw [← hyl]; exact (List.getElem?_eq_some_iff.mp e).1
          exact ⟨j, List.getElem?_range hj, hyE j v e⟩
        rw [hDb, ey, und_get hi, List.map_map]
        rfl
    · have S := s2.trans s3.same
      have hpy : PyV H3 (.ref Da) (lmD (undM (m + 1) M)) := py_lm hD (by rw [hrl, (und_sh (n := m + 1) (M := M)).len]) hE
      exact make_any (.inl hpy) (grid_lm _) hU G.h1 h3 G.und.d fun c H4 s4 ht => q c H4 (S.trans s4) ht
end
end T29
set_option Elab.async false
set_option linter.all false
set_option maxRecDepth 100000
set_option maxHeartbeats 4000000
namespace Rt
open PySem PySem.Spec PyProof.Rows L2 Dn
end Rt
set_option Elab.async false
set_option linter.all false
set_option maxRecDepth 100000
set_option maxHeartbeats 2000000
namespace T29
open PySem PySem.Spec PyProof.Rows L2 Gd Zn Rp Dn Tb Gn En Zs Ct Op Oc Rg Rt
structure EqP (P : Program) (w : World) (K : PySem.W.Frag) (mg : Str → Option Value) (base : Heap) (C : Addr) : Prop where
  ex : ∃ (g : Addr) (gd : FuncData), PySem.W.findIn K (.ref C) "__eq__" = some (some (.ref g)) ∧ PySem.W.isFn K (.ref g) = true ∧ FnOk P w K mg base CX0 1 g gd ["self", "other"] (sp_eqT C) ∧ Binds K gd ["self", "other"] [] ∧
    PySem.W.findIn K (.ref C) "__ne__" = some (some (.builtin "object.__ne__")) ∧ PySem.W.mroIn K C (.type "object") = some true
abbrev eqSp (C : Addr) : Sp := fun vs H Q E => sp_eqT C (vs ++ []) H Q E
theorem opEq {X : Cx} {C : Addr} {j : Nat} (D : EqP X.prog X.w X.K X.mg X.base C) (room : Room j X.A) (hkj : 2 ≤ j := by decide) : OpR X (compareOp .Eq) (rEqO C (eqSp C) E0) := by
  obtain ⟨g, gd, h1, h2, G, b, _, _⟩ := D.ex
  exact op_eqO h1 h2 (G.raw b .nil) (room.mono (by omega)) pass0
theorem opNe {X : Cx} {C : Addr} {j : Nat} (D : EqP X.prog X.w X.K X.mg X.base C) (room : Room j X.A) (hkj : 2 ≤ j := by decide) : OpR X (compareOp .NotEq) (rNeO C (eqSp C) E0) := by
  obtain ⟨g, gd, h1, h2, G, b, h3, h4⟩ := D.ex
  exact op_neO h4 h3 h1 h2 (G.raw b .nil) (room.mono hkj) pass0
theorem rd_eq {C : Addr} {H : Hp} {x y : V} {M N : List (List Int)} {Q : VK} (hx : Tab C H x M) (hy : Tab C H y N) (q : Q (.bl (decide (M = N))) H) : rEqO C (eqSp C) E0 x y H Q := by
  obtain ⟨a, dx, r, rfl, ha, hm⟩ := id hx
  obtain ⟨b, dy, s, rfl, hb, hn⟩ := id hy
  exact ⟨a, dx, _, b, dy, _, rfl, rfl, ha, hb, .ref a, .ref b, M, N, rfl, hx, hy, q⟩
theorem rd_ne {C : Addr} {H : Hp} {x y : V} {M N : List (List Int)} {Q : VK} (hx : Tab C H x M) (hy : Tab C H y N) (q : Q (.bl (!decide (M = N))) H) : rNeO C (eqSp C) E0 x y H Q := by
  obtain ⟨a, dx, r, rfl, ha, hm⟩ := id hx
  obtain ⟨b, dy, s, rfl, hb, hn⟩ := id hy
  exact ⟨a, dx, _, b, dy, _, rfl, rfl, ha, hb, .ref a, .ref b, M, N, rfl, hx, hy, _, rfl, q⟩
abbrev mulR (C : Addr) : R2 := rOwnB C (fun vs H Q E => sp_mul C (vs ++ []) H Q E) E0
theorem rd_mul {C : Addr} {H : Hp} {Q : VK} {n : Nat} {M N : List (List Int)} {x y : V} (hx : Tab C H x M) (hy : Tab C H y N) (gM : Gr n M) (gN : Gr n N) (sM : Sq n M) (sN : Sq n N) (sP : Sq n (mulM n M N)) (q : ∀ c H', Same H H' → Tab C H' (.ref c) (mulM n M N) → Q (.ref c) H') : mulR C x y H Q := by
  obtain ⟨a, dx, r, rfl, ha, hm⟩ := id hx
  obtain ⟨b, dy, s, rfl, hb, hn⟩ := id hy
  exact ⟨a, dx, _, b, dy, _, rfl, rfl, ha, hb, .ref a, .ref b, M, N, n, rfl, hx, hy, gM.h1, gM.h3, sM, sN, sP, (gM.mul gN).d, fun c H' s ht => ⟨⟨c, rfl⟩, q c H' s ht⟩⟩
theorem noU {r : V} {m : Str} (e : ¬ m = ("_rows" : Str) := by decide +kernel) : (fldsT r).lookup m = none := by
  unfold fldsT; rw [lookup_putF, if_neg e]; rfl
def besM (n m : Nat) (M N : List (List Int)) : List (List Int) := (M.map fun r => r ++ List.replicate m 0) ++ (N.map fun r => List.replicate n 0 ++ r)
theorem bes_sh {n m : Nat} {M N : List (List Int)} (hM : Sh n M) (hN : Sh m N) : Sh (n + m) (besM n m M N) := by
  refine ⟨?_, fun r hr => ?_⟩
  · unfold besM
    rw [List.length_append, List.length_map, List.length_map, hM.len, hN.len]
  · unfold besM at hr
    rcases List.mem_append.mp hr with h | h
    · obtain ⟨s, hs, rfl⟩ := List.mem_map.mp h
      rw [List.length_append, List.length_replicate, hM.row s hs]
    · obtain ⟨s, hs, rfl⟩ := List.mem_map.mp h
      rw [List.length_append, List.length_replicate, hN.row s hs]
section
variable {P : Program} {w : World} {K : PySem.W.Frag} {mg : Str → Option Value} {base : Heap} {C : Addr}
structure OkB (n m : Nat) (M N : List (List Int)) : Prop where
  gM : Gr n M
  gN : Gr m N
  sM : Sq n M
  sN : Sq m N
  h3 : n + m ≤ 3
theorem OkB.sq {n m : Nat} {M N : List (List Int)} (h : OkB n m M N) : Sq (n + m) (besM n m M N) := by
  refine ⟨(bes_sh h.gM.sh h.gN.sh).len, (bes_sh h.gM.sh h.gN.sh).row, fun r hr x hx => ?_⟩
  unfold besM at hr
  have z : Small 0 := Wd.lit ⟨by decide, by decide⟩
  rcases List.mem_append.mp hr with h' | h'
  · obtain ⟨s, hs, rfl⟩ := List.mem_map.mp h'
    rcases List.mem_append.mp hx with h' | h'
    · exact h.sM.small s hs x h'
    · rw [(List.mem_replicate.mp h').2]; exact z
  · obtain ⟨s, hs, rfl⟩ := List.mem_map.mp h'
    rcases List.mem_append.mp hx with h' | h'
    · rw [(List.mem_replicate.mp h').2]; exact z
    · exact h.sN.small s hs x h'
theorem _root_.Tb.RowsV.append {H : Hp} {vs ws : List V} {M N : List (List Int)} (h : RowsV H vs M) (k : RowsV H ws N) : RowsV H (vs ++ ws) (M ++ N) := by
  induction h with
  | nil => exact k
  | cons p _ ih => exact .cons p ih
end
end T29
set_option Elab.async false
set_option linter.all false
set_option maxRecDepth 100000
set_option maxHeartbeats 2000000
namespace T29
open PySem PySem.Spec PyProof.Rows L2 Gd Zn Rp Dn Tb Gn En Zs Ct Op Oc Rg Rt
/-- any iterator, walked by an invariant -/
theorem for_by {J : It} {g : TG} {tb : TS} {D : Ends} {σ : L2.St} {H : Hp} (n : Nat) (Pv : Nat → L2.St → Hp → Prop) (h0 : Pv 0 σ H) (hgo : ∀ i σ H, i < n → Pv i σ H → J.go i H) (hst : ∀ σ H, Pv n σ H → J.stop n H)
    (hs : ∀ i x σ H H', i < n → Pv i σ H → J.yld i H x H' → g x σ H' fun σ2 H2 => tb { D with nx := Pv (i + 1), ct := Pv (i + 1), bk := D.nx } σ2 H2) (hd : ∀ σ H, Pv n σ H → D.nx σ H) :
    ∃ W : Nat → Nat → L2.St → Hp → Prop, (∃ m, W 0 m σ H) ∧ ∀ i m σ H, W i m σ H →
      (J.stop i H ∧ D.nx σ H) ∨ (J.go i H ∧ ∃ N : L2.St → Hp → Prop, (∀ σ' H', N σ' H' → ∃ m', m' < m ∧ W (i + 1) m' σ' H') ∧ ∀ x H', J.yld i H x H' → g x σ H' fun σ2 H2 => tb { D with nx := N, ct := N, bk := D.nx } σ2 H2) := by
  refine ⟨fun i m σ H => m = n - i ∧ i ≤ n ∧ Pv i σ H, ⟨n, by simp, Nat.zero_le _, h0⟩, ?_⟩
  rintro i m σ H ⟨rfl, hi, p⟩
  by_cases hlt : i < n
  · exact .inr ⟨hgo i σ H hlt p, Pv (i + 1), fun σ' H' p' => ⟨n - (i + 1), by omega, rfl, hlt, p'⟩, fun x H' y => hs i x σ H H' hlt p y⟩
  · have e : i = n := by omega
    subst e
    exact .inl ⟨hst σ H p, hd σ H p⟩
/-- rows as tuples, in a tuple or a list -/
def MxS (H : Hp) (v : V) (M : List (List Int)) : Prop := ∃ (t : Bool) (a : Addr) (vs : List V), v = .ref a ∧ H a = some (if t = true then .tup vs else .lst vs) ∧ RowsV H vs M
theorem Mx.s {H : Hp} {v : V} {M : List (List Int)} (h : Mx H v M) : MxS H v M := by
  obtain ⟨a, vs, rfl, h, r⟩ := h
  exact ⟨true, a, vs, rfl, h, r⟩
theorem MxS.same {H H' : Hp} {v : V} {M : List (List Int)} (s : Same H H') (h : MxS H v M) : MxS H' v M := by
  obtain ⟨t, a, vs, rfl, h, r⟩ := h
  exact ⟨t, a, vs, rfl, s _ _ h, r.mono (KS.of s)⟩
end T29
set_option Elab.async false
set_option linter.all false
set_option maxRecDepth 100000
set_option maxHeartbeats 2000000
set_option Elab.async false
set_option linter.all false
set_option maxRecDepth 100000
set_option maxHeartbeats 2000000
set_option Elab.async false
set_option linter.all false
set_option maxRecDepth 100000
set_option maxHeartbeats 2000000
namespace T29
open PySem PySem.Spec PyProof.Rows L2 Gd Zn Rp Dn Tb Gn En Zs Ct Op Oc Rg Rt
/-- bounds by bits -/
structure SqE (n k : Nat) (M : List (List Int)) : Prop where
  len : M.length = n
  row : ∀ r ∈ M, r.length = n
  bd : ∀ r ∈ M, ∀ x ∈ r, x.natAbs < 2 ^ k
theorem SqE.sh {n k : Nat} {M : List (List Int)} (h : SqE n k M) : Sh n M := ⟨h.len, h.row⟩
theorem SqE.mono {n k l : Nat} {M : List (List Int)} (h : SqE n k M) (e : k ≤ l) : SqE n l M := ⟨h.len, h.row, fun r hr x hx => Wd.abs_mono (h.bd r hr x hx) e⟩
theorem SqE.sq {n k : Nat} {M : List (List Int)} (h : SqE n k M) (e : k ≤ 20000) : Sq n M := ⟨h.len, h.row, fun r hr x hx => ⟨k, e, h.bd r hr x hx⟩⟩
theorem SqB.e {n k : Nat} {B : Int} {M : List (List Int)} (h : SqB n B M) (e : B.toNat < 2 ^ k) : SqE n k M := ⟨h.len, h.row, fun r hr x hx => by
  have := h.bd r hr x hx
  omega⟩
theorem ae1 {a b : Int} {k l : Nat} (ha : a.natAbs < 2 ^ k) (hb : b.natAbs < 2 ^ l) : (a * b).natAbs < 2 ^ (k + l + 2) := Wd.abs_mono (Wd.abs_mul ha hb) (by omega)
theorem ae2 {a b c d : Int} {k l : Nat} (ha : a.natAbs < 2 ^ k) (hb : b.natAbs < 2 ^ l) (hc : c.natAbs < 2 ^ k) (hd : d.natAbs < 2 ^ l) : (a * b + c * d).natAbs < 2 ^ (k + l + 2) :=
  Wd.abs_mono (Wd.abs_add (Wd.abs_mul ha hb) (Wd.abs_mul hc hd)) (by omega)
theorem ae3 {a b c d e f : Int} {k l : Nat} (ha : a.natAbs < 2 ^ k) (hb : b.natAbs < 2 ^ l) (hc : c.natAbs < 2 ^ k) (hd : d.natAbs < 2 ^ l) (he : e.natAbs < 2 ^ k) (hf : f.natAbs < 2 ^ l) : (a * b + (c * d + e * f)).natAbs < 2 ^ (k + l + 2) :=
  Wd.abs_add (Wd.abs_mono (Wd.abs_mul ha hb) (by omega)) (Wd.abs_add (Wd.abs_mul hc hd) (Wd.abs_mul he hf))
theorem SqE.mul {n k l : Nat} {M N : List (List Int)} (hM : SqE n k M) (hN : SqE n l N) (h1 : 1 ≤ n) (h3 : n ≤ 3) : SqE n (k + l + 2) (mulM n M N) := by
  refine ⟨(mul_sh h1 h3 hM.sh hN.sh).len, (mul_sh h1 h3 hM.sh hN.sh).row, ?_⟩
  have : n = 1 ∨ n = 2 ∨ n = 3 := by omega
  rcases this with rfl | rfl | rfl
  · obtain ⟨a, rfl⟩ := sh1 hM.sh rfl
    obtain ⟨b, rfl⟩ := sh1 hN.sh rfl
    have x := hM.bd
    have y := hN.bd
    rw [mulE1]
    simp only [List.mem_cons, List.not_mem_nil, or_false, forall_eq] at x y ⊢
    exact ae1 x y
  · obtain ⟨a, b, c, d, rfl⟩ := sh2 hM.sh rfl
    obtain ⟨e, f, g, h, rfl⟩ := sh2 hN.sh rfl
    have x := hM.bd
    have y := hN.bd
    rw [mulE2]
    simp only [List.mem_cons, List.not_mem_nil, or_false, forall_eq_or_imp, forall_eq] at x y ⊢
    obtain ⟨⟨x1, x2⟩, x3, x4⟩ := x
    obtain ⟨⟨y1, y2⟩, y3, y4⟩ := y
    exact ⟨⟨ae2 x1 y1 x2 y3, ae2 x1 y2 x2 y4⟩, ae2 x3 y1 x4 y3, ae2 x3 y2 x4 y4⟩
  · obtain ⟨a, b, c, d, e, f, g, h, i, rfl⟩ := sh3 hM.sh rfl
    obtain ⟨j, k', l', m, n, o, p, q, r, rfl⟩ := sh3 hN.sh rfl
    have x := hM.bd
    have y := hN.bd
    rw [mulE3]
    simp only [List.mem_cons, List.not_mem_nil, or_false, forall_eq_or_imp, forall_eq] at x y ⊢
    obtain ⟨⟨x1, x2, x3⟩, ⟨x4, x5, x6⟩, x7, x8, x9⟩ := x
    obtain ⟨⟨y1, y2, y3⟩, ⟨y4, y5, y6⟩, y7, y8, y9⟩ := y
    exact ⟨⟨ae3 x1 y1 x2 y4 x3 y7, ae3 x1 y2 x2 y5 x3 y8, ae3 x1 y3 x2 y6 x3 y9⟩, ⟨ae3 x4 y1 x5 y4 x6 y7, ae3 x4 y2 x5 y5 x6 y8, ae3 x4 y3 x5 y6 x6 y9⟩, ae3 x7 y1 x8 y4 x9 y7, ae3 x7 y2 x8 y5 x9 y8, ae3 x7 y3 x8 y6 x9 y9⟩
theorem pmE {d x : Int} {k : Nat} (hd : d = 1 ∨ d = -1) (hx : x.natAbs < 2 ^ k) : (d * x).natAbs < 2 ^ k ∧ (-(d * x)).natAbs < 2 ^ k := by
  rcases hd with rfl | rfl <;> omega
theorem dfE {a b c d : Int} {k : Nat} (ha : a.natAbs < 2 ^ k) (hb : b.natAbs < 2 ^ k) (hc : c.natAbs < 2 ^ k) (hd : d.natAbs < 2 ^ k) : (a * b - c * d).natAbs < 2 ^ (2 * k + 1) := by
  have h1 := Wd.abs_mul ha hb
  have h2 := Wd.abs_mul hc hd
  have e : 2 * k + 1 = (k + k) + 1 := by omega
  rw [e, Nat.pow_succ]
  omega
theorem SqE.und {n k : Nat} {M : List (List Int)} (h : SqE n k M) (g : Gr n M) : SqE n (2 * k + 1) (undM n M) := by
  refine ⟨und_sh.len, und_sh.row, ?_⟩
  have hd := g.d
  have kk : k ≤ 2 * k + 1 := by omega
  rcases g.cases with rfl | rfl | rfl
  · obtain ⟨x, rfl⟩ := sh1 h.sh rfl
    have b := h.bd
    rw [undE1]
    simp only [List.mem_cons, List.not_mem_nil, or_false, forall_eq] at b ⊢
    exact Wd.abs_mono b kk
  · obtain ⟨x, y, z, w, rfl⟩ := sh2 h.sh rfl
    have b := h.bd
    rw [undE2]
    rw [det2] at hd
    generalize x * w - y * z = d at hd
    simp only [List.mem_cons, List.not_mem_nil, or_false, forall_eq_or_imp, forall_eq] at b ⊢
    obtain ⟨⟨b1, b2⟩, b3, b4⟩ := b
    exact ⟨⟨(pmE hd (Wd.abs_mono b4 kk)).1, (pmE hd (Wd.abs_mono b2 kk)).2⟩, (pmE hd (Wd.abs_mono b3 kk)).2, (pmE hd (Wd.abs_mono b1 kk)).1⟩
  · obtain ⟨x, y, z, u, v, w, r, s, t, rfl⟩ := sh3 h.sh rfl
    have b := h.bd
    rw [undE3]
    rw [det3] at hd
    dsimp only
    generalize x * (v * t - w * s) - y * (u * t - w * r) + z * (u * s - v * r) = d at hd
    simp only [List.mem_cons, List.not_mem_nil, or_false, forall_eq_or_imp, forall_eq] at b ⊢
    obtain ⟨⟨b1, b2, b3⟩, ⟨b4, b5, b6⟩, b7, b8, b9⟩ := b
    exact ⟨⟨(pmE hd (dfE b5 b9 b6 b8)).1, (pmE hd (dfE b2 b9 b3 b8)).2, (pmE hd (dfE b2 b6 b3 b5)).1⟩, ⟨(pmE hd (dfE b4 b9 b6 b7)).2, (pmE hd (dfE b1 b9 b3 b7)).1, (pmE hd (dfE b1 b6 b3 b4)).2⟩, (pmE hd (dfE b4 b8 b5 b7)).1, (pmE hd (dfE b1 b8 b2 b7)).2, (pmE hd (dfE b1 b5 b2 b4)).1⟩
/-- a Table in the heap, with the bits of its numbers -/
structure Tv (C : Addr) (H : Hp) (x : V) (n : Nat) (b : Nat) (M : List (List Int)) : Prop where
  tab : Tab C H x M
  gr : Gr n M
  bd : SqE n b M
theorem Tv.same {C : Addr} {H H' : Hp} {x : V} {n : Nat} {b : Nat} {M : List (List Int)} (h : Tv C H x n b M) (s : Same H H') : Tv C H' x n b M := ⟨T29.Tab.same s h.tab, h.gr, h.bd⟩
theorem Tv.ks {C : Addr} {H H' : Hp} {x : V} {n : Nat} {b : Nat} {M : List (List Int)} (h : Tv C H x n b M) (s : KS H H') : Tv C H' x n b M := ⟨T29.Tab.mono s h.tab, h.gr, h.bd⟩
section
variable {C : Addr} {H : Hp} {Q : VK} {E : XK} {n m : Nat} {b c : Nat} {M N : List (List Int)} {x y : V}
theorem p_rows (hx : Tab C H x M) (q : ∀ r, Mx H r M → Q r H) : ∃ a dx fs, x = .ref a ∧ H a = some (.ins C dx fs) ∧ sp_rows C (.ref a :: []) H Q E := by
  obtain ⟨a, dx, r, rfl, ha, hm⟩ := id hx
  exact ⟨a, dx, _, rfl, ha, _, M, rfl, hx, q⟩
theorem p_size (hx : Tab C H x M) (q : Q (.int M.length) H) : ∃ a dx fs, x = .ref a ∧ H a = some (.ins C dx fs) ∧ sp_size C (.ref a :: []) H Q E := by
  obtain ⟨a, dx, r, rfl, ha, hm⟩ := id hx
  exact ⟨a, dx, _, rfl, ha, _, M, rfl, hx, q⟩
theorem p_det (hx : Tab C H x M) (hS : Sq n M) (h3 : n ≤ 3) (q : ∀ H', Same H H' → Q (.int (detM n M)) H') : ∃ a dx fs, x = .ref a ∧ H a = some (.ins C dx fs) ∧ sp_detP C (.ref a :: []) H Q E := by
  obtain ⟨a, dx, r, rfl, ha, hm⟩ := id hx
  exact ⟨a, dx, _, rfl, ha, _, M, n, rfl, hx, hS, h3, q⟩
theorem m_und (hx : Tv C H x n b M) (q : ∀ d H', Same H H' → Tv C H' (.ref d) n (2 * b + 1) (undM n M) → Q (.ref d) H') (h : b ≤ 9000 := by decide) :
    ∃ a dx fs, x = .ref a ∧ H a = some (.ins C dx fs) ∧ fs.lookup ("undone" : Str) = none ∧ sp_undone C (x :: ([] ++ [])) H Q E := by
  obtain ⟨a, dx, r, rfl, ha, hm⟩ := id hx.tab
  exact ⟨a, dx, _, rfl, ha, noU, _, M, n, rfl, hx.tab, hx.gr, hx.bd.sq (by omega), (hx.bd.und hx.gr).sq (by omega), fun d H' s t => q d H' s ⟨t, hx.gr.und, hx.bd.und hx.gr⟩⟩
theorem o_mul (hx : Tv C H x n b M) (hy : Tv C H y n c N) (q : ∀ d H', Same H H' → Tv C H' (.ref d) n (b + c + 2) (mulM n M N) → Q (.ref d) H') (h : b + c ≤ 19000 := by decide) : mulR C x y H Q := by
  have p := hx.bd.mul hy.bd hx.gr.h1 hx.gr.h3
  exact rd_mul hx.tab hy.tab hx.gr hy.gr (hx.bd.sq (by omega)) (hy.bd.sq (by omega)) (p.sq (by omega)) fun d H' s t => q d H' s ⟨t, hx.gr.mul hy.gr, p⟩
theorem c_idle (h1 : 1 ≤ n) (h3 : n ≤ 3) (q : ∀ d H', Same H H' → Tv C H' (.ref d) n 1 (unitM n) → Q (.ref d) H') : sp_idle C [.int n] H Q E :=
  ⟨n, rfl, h1, h3, fun d H' s t => q d H' s ⟨t, gr_unit h1 h3, (unit_sqB n).e (by decide)⟩⟩
theorem Tv.up (h : Tv C H x n b M) (k : b ≤ c) : Tv C H x n c M := ⟨h.tab, h.gr, h.bd.mono k⟩
end
structure DefK (P : Program) (w : World) (K : PySem.W.Frag) (mg : Str → Option Value) (base : Heap) (nm : Str) (k : Nat) (ps ks : List Str) (sp : Sp) (g : List Value → List Value → List Value) (gV : List V → List V → List V) : Prop where
  ex : ∃ (f : Addr) (fd : FuncData), FnOk P w K mg base CX0 k f fd ps sp ∧ mg nm = some (.ref f) ∧ PySem.W.keepIn K (.ref f) = true ∧ Binds K fd ps [] ∧ KBinds K fd ps ks g gV
theorem DefK.d {P : Program} {w : World} {K : PySem.W.Frag} {mg : Str → Option Value} {base : Heap} {nm : Str} {k : Nat} {ps ks : List Str} {sp : Sp} {g gV} (D : DefK P w K mg base nm k ps ks sp g gV) : Def P w K mg base nm k ps sp :=
  let ⟨f, fd, G, m, kp, b, _⟩ := D.ex
  ⟨f, fd, G, m, kp, b⟩
abbrev gV2 : List V → List V → List V := fun us ws => match us, ws with | [], [a, b] => [b, a] | _, _ => []
abbrev gV1 : List V → List V → List V := fun us ws => match us, ws with | [], [a] => [a] | _, _ => []
end T29
set_option Elab.async false
set_option linter.all false
set_option maxRecDepth 100000
set_option maxHeartbeats 4000000
namespace T29
open PySem PySem.Spec PyProof.Rows L2 Gd Zn Rp Dn Tb Gn En Zs Ct Op Oc Rg Rt
theorem r_neMx {K : PySem.W.Frag} {H : Hp} {x y : V} {M N : List (List Int)} {Q : VK} (hx : Mx H x M) (hy : Mx H y N) (q : Q (.bl (!decide (M = N))) H) : rNeD K x y H Q := by
  refine ⟨mxD M, mxD N, dp_mx hx, dp_mx hy, shaped_mx M, shaped_mx N, ?_⟩
  rw [eqv_mx]
  exact q
theorem ne_no {M N : List (List Int)} (e : M = N) : (!decide (M = N)) = false := by rw [decide_eq_true e]; rfl
theorem r_or {t u : TT} {σ : L2.St} {H : Hp} {Q : Bool → Hp → Prop} (h : t σ H fun c H1 => if c = true then Q true H1 else u σ H1 Q) : tOr t u σ H Q := h
theorem r_tt {te : TE} {σ : L2.St} {H : Hp} {Q : Bool → Hp → Prop} (h : te σ H fun x H1 => ∃ k, x = .bl k ∧ Q k H1) : tTest te σ H Q := h
theorem r_andV {ta tb : TE} {σ : L2.St} {H : Hp} {Q : VK} (h : ta σ H fun x H1 => ∃ c, x = .bl c ∧ if c = true then tb σ H1 Q else Q (.bl false) H1) : tAndV ta tb σ H Q := h
theorem a1 {sp : Sp} {E : XK} {ta : TE} {σ : L2.St} {H : Hp} {Q : VK} (h : ta σ H fun x H1 => sp [x] H1 Q E) : tCall sp [] E (tCons ta tNil) σ H Q := h
theorem a2 {sp : Sp} {E : XK} {ta tb : TE} {σ : L2.St} {H : Hp} {Q : VK} (h : ta σ H fun x H1 => tb σ H1 fun y H2 => sp [x, y] H2 Q E) : tCall sp [] E (tCons ta (tCons tb tNil)) σ H Q := h
theorem r_meth0 {C : Addr} {m : Str} {sp : Sp} {E : XK} {ta : TE} {σ : L2.St} {H : Hp} {Q : VK} (h : ta σ H fun x H1 => ∃ a dx fs, x = .ref a ∧ H1 a = some (.ins C dx fs) ∧ fs.lookup m = none ∧ sp (x :: ([] ++ [])) H1 Q E) : tMeth C m sp [] E ta tNil σ H Q := h
def sp_right : Sp := fun vs H Q _ => ∃ p, vs = [.ref p] ∧ PotOk H p ∧ ∀ H', RX (some p) H H' → Q (.bl true) H'
theorem r_tup {t : TA} {σ : L2.St} {H : Hp} {Q : VK} (h : t σ H fun xs H1 => xs.length ≤ sizeLine ∧ ∀ p, H1 p = none → Q (.ref p) (upd H1 p (.tup xs))) : tTup t σ H Q := h
theorem n2 {sp : Sp} {ta tb : TE} {σ : L2.St} {H : Hp} {Q : VK} (h : ta σ H fun x H1 => tb σ H1 fun y H2 => sp [y, x] H2 Q E0) : tCons ta (tCons tb tNil) σ H (fun zs H2 => sp (gV2 [] zs) H2 Q E0) := h
theorem r_prop {C : Addr} {sp : Sp} {E : XK} {ta : TE} {σ : L2.St} {H : Hp} {Q : VK} (h : ta σ H fun x H1 => ∃ a dx fs, x = .ref a ∧ H1 a = some (.ins C dx fs) ∧ sp (.ref a :: []) H1 Q E) : tProp C sp [] E ta σ H Q := h
theorem r_par2 {i j : Nat} {ta : TA} {D : Ends} {σ : L2.St} {H : Hp} (h : ta σ H fun vs H1 => ∃ v w, vs = [v, w] ∧ D.nx ((σ.set i (some v)).set j (some w)) H1) : tPar i j ta D σ H := h
theorem seq_ints {H : Hp} {a : Addr} {xs : List Int} (h : H a = some (.lst (xs.map V.int))) : SeqV H (.ref a) (iD xs) := .inl (.lst h (py_ints xs))
theorem r_meth1 {C : Addr} {m : Str} {sp : Sp} {E : XK} {ta tb : TE} {σ : L2.St} {H : Hp} {Q : VK} (h : ta σ H fun x H1 => ∃ a dx fs, x = .ref a ∧ H1 a = some (.ins C dx fs) ∧ fs.lookup m = none ∧ tb σ H1 fun y H2 => sp [x, y] H2 Q E) : tMeth C m sp [] E ta (tCons tb tNil) σ H Q := h
theorem m_lead {C : Addr} {E : XK} {H : Hp} {n : Nat} {b : Nat} {M : List (List Int)} {x : V} {tb : TE} {σ : L2.St} {Q : VK} (hx : Tv C H x n b M) (k : tb σ H fun y H2 => sp_lead C [x, y] H2 Q E) : ∃ a dx fs, x = .ref a ∧ H a = some (.ins C dx fs) ∧ fs.lookup ("lead" : Str) = none ∧ tb σ H fun y H2 => sp_lead C [x, y] H2 Q E := by
  obtain ⟨a, dx, r, rfl, ha, hm⟩ := id hx.tab
  exact ⟨a, dx, _, rfl, ha, noU, k⟩
theorem c_lead {C : Addr} {E : XK} {H : Hp} {n : Nat} {b : Nat} {M : List (List Int)} {x y : V} {xs : List Int} {Q : VK} (hx : Tv C H x n b M) (hy : SeqV H y (iD xs)) (l : xs.length = n) (hsx : ∀ x ∈ xs, Small x) (lb : b ≤ 20000) (q : ∀ v' H', Same H H' → RowV H' v' (ledM M xs) → Q v' H') : sp_lead C [x, y] H Q E :=
  ⟨x, y, M, xs, n, rfl, hx.tab, hy, hx.bd.sq lb, hx.gr.h1, hx.gr.h3, l, hsx, q⟩
theorem a3 {sp : Sp} {E : XK} {ta tb tc : TE} {σ : L2.St} {H : Hp} {Q : VK} (h : ta σ H fun x H1 => tb σ H1 fun y H2 => tc σ H2 fun z H3 => sp [x, y, z] H3 Q E) : tCall sp [] E (tCons ta (tCons tb (tCons tc tNil))) σ H Q := h
def sp_law (K : PySem.W.Frag) : Sp := fun vs H Q _ => ∃ (a : Addr) (ns : List Int), vs = [.ref a] ∧ SqL K H a (ns.map V.int) ∧ ns.length ≤ 63 ∧ ∀ H', Q (.bl true) H'
structure DefG (P : Program) (w : World) (K : PySem.W.Frag) (mg : Str → Option Value) (base : Heap) (nm : Str) (k : Nat) (ps : List Str) (sp : Sp) : Prop where
  ex : ∃ (f : Addr) (fd : FuncData), FnG P w K mg base CX0 k f fd ps sp ∧ mg nm = some (.ref f) ∧ PySem.W.keepIn K (.ref f) = true ∧ Binds K fd ps []
theorem pe_defG {X : Cx} {nm : Str} {k j : Nat} {ps : List Str} {sp : Sp} {e : Expr} {es : List Expr} {t : TA} {p pos : Pos} (D : DefG X.prog X.w X.K X.mg X.base nm k ps sp) (hst : Still X.A) (room : Room j X.A) (ha : PA X (e :: es) t) (hkj : k ≤ j := by decide) (hg : Gl X nm := by rfl)
    (hdb : (nm == ("__debug__" : Str)) = false := by decide) (he : starEach (e :: es) X.env = (false, eval e X.env) :: starEach es X.env := by rfl) (hpl : (backTo pos (starEach es X.env)).any (·.1) = false := by rfl) :
    PE X (.Call (.Name nm p) (e :: es) [] pos) (tCall sp [] E0 t) := by
  obtain ⟨f, fd, G, m, kp, b⟩ := D.ex
  exact pe_callG G hst (room.mono hkj) hg m kp b .nil pass0 ha hdb he hpl
theorem cb1 {r : List V → Hp → VK → Prop} {ta : TE} {σ : L2.St} {H : Hp} {Q : VK} (h : ta σ H fun x H1 => r [x] H1 Q) : tCB r (tCons ta tNil) σ H Q := h
theorem r_lst {t : TA} {σ : L2.St} {H : Hp} {Q : VK} (h : t σ H fun xs H1 => xs.length ≤ sizeLine ∧ ∀ p, H1 p = none → Q (.ref p) (upd H1 p (.lst xs))) : tLst t σ H Q := h
def MkA (C : Addr) (H : Hp) (x : V) (Q : VK) : Prop := ∀ z dx : Addr, H z = none → H dx = none → dx ≠ z → sp_init C (V.ref z :: ([x] ++ [])) (upd (upd H dx (.own z)) z (.ins C dx [])) (fun u H2 => u = V.non ∧ Q (.ref z) H2) E0
theorem mkA {C : Addr} {ta : TE} {σ : L2.St} {H : Hp} {Q : VK} (h : ta σ H fun x H1 => MkA C H1 x Q) : tMake C (sp_init C) [] E0 (tCons ta tNil) σ H Q := h
theorem MkA.of {C : Addr} {H : Hp} {v : V} {d : PyData} {M : List (List Int)} {n : Nat} {b : Nat} {Q : VK} (av : AnyV H v d) (g : GridD d M) (gr : Gr n M) (bd : SqE n b M) (lb : b ≤ 20000) (k : ∀ c H', Same H H' → Tv C H' (.ref c) n b M → Q (.ref c) H') : MkA C H v Q :=
  fun z dx nz nd ne => make_any (Q := Q) av g (bd.sq lb) gr.h1 gr.h3 gr.d (fun c H' s t => k c H' s ⟨t, gr, bd⟩) z dx nz nd ne
theorem r_par3 {i j l : Nat} {ta : TA} {D : Ends} {σ : L2.St} {H : Hp} (h : ta σ H fun vs H1 => ∃ u v w, vs = [u, v, w] ∧ D.nx (((σ.set i (some u)).set j (some v)).set l (some w)) H1) : tPar3 i j l ta D σ H := h
theorem led_mul {n : Nat} {M N : List (List Int)} {xs : List Int} (h1 : 1 ≤ n) (h3 : n ≤ 3) (hM : Sh n M) (hN : Sh n N) (hx : xs.length = n) : ledM (mulM n M N) xs = ledM M (ledM N xs) := by
  have : n = 1 ∨ n = 2 ∨ n = 3 := by omega
  rcases this with rfl | rfl | rfl
  · obtain ⟨a, rfl⟩ := sh1 hM rfl
    obtain ⟨b, rfl⟩ := sh1 hN rfl
    obtain ⟨x, rfl⟩ := len1 hx
    rw [mulE1]
    simp [ledM, dot]
    grind
  · obtain ⟨a, b, c, d, rfl⟩ := sh2 hM rfl
    obtain ⟨e, f, g, h, rfl⟩ := sh2 hN rfl
    obtain ⟨x, y, rfl⟩ := len2 hx
    rw [mulE2]
    simp [ledM, dot]
    constructor <;> grind
  · obtain ⟨a, b, c, d, e, f, g, h, i, rfl⟩ := sh3 hM rfl
    obtain ⟨j, k, l, m, n, o, p, q, r, rfl⟩ := sh3 hN rfl
    obtain ⟨x, y, z, rfl⟩ := len3 hx
    rw [mulE3]
    simp [ledM, dot]
    refine ⟨?_, ?_, ?_⟩ <;> grind
theorem led_unit {n : Nat} {xs : List Int} (h1 : 1 ≤ n) (h3 : n ≤ 3) (hx : xs.length = n) : ledM (unitM n) xs = xs := by
  have : n = 1 ∨ n = 2 ∨ n = 3 := by omega
  rcases this with rfl | rfl | rfl
  · obtain ⟨x, rfl⟩ := len1 hx
    simp [unitE1, ledM, dot]
  · obtain ⟨x, y, rfl⟩ := len2 hx
    simp [unitE2, ledM, dot]
  · obtain ⟨x, y, z, rfl⟩ := len3 hx
    simp [unitE3, ledM, dot]
theorem SmN.up {a b a' b' : Nat} {d : PyData} (h : SmN a b d) (ha : a ≤ a') (hb : b ≤ b') : SmN a' b' d := ⟨h.sh, Nat.le_trans h.dp ha, h.ls, Nat.le_trans h.bk hb⟩
structure MtdN (P : Program) (w : World) (K : PySem.W.Frag) (mg : Str → Option Value) (base : Heap) (C : Addr) (nm : Str) (k : Nat) (ps ks : List Str) (sp : Sp) (g : List Value → List Value → List Value) (gV : List V → List V → List V) : Prop where
  ex : ∃ (f : Addr) (fd : FuncData), Meth K C nm f ∧ FnOk P w K mg base CX0 k f fd ps sp ∧ Binds K fd ps [] ∧ KBinds K fd ps ks g gV
theorem MtdN.m {P : Program} {w : World} {K : PySem.W.Frag} {mg : Str → Option Value} {base : Heap} {C : Addr} {nm : Str} {k : Nat} {ps ks : List Str} {sp : Sp} {g gV} (D : MtdN P w K mg base C nm k ps ks sp g gV) : Mtd P w K mg base C nm k ps sp :=
  let ⟨f, fd, m, G, b, _⟩ := D.ex
  ⟨f, fd, m, G, b⟩
abbrev gV11 : List V → List V → List V := fun us ws => match us, ws with | [a], [b] => [a, b] | _, _ => []
abbrev gU11 : List Value → List Value → List Value := fun us ws => match us, ws with | [a], [b] => [a, b] | _, _ => []
theorem n1 {sp : Sp} {ta : TE} {σ : L2.St} {H : Hp} {Q : VK} (h : ta σ H fun x H1 => sp [x] H1 Q E0) : tCons ta tNil σ H (fun zs H2 => sp (gV1 [] zs) H2 Q E0) := h
theorem r_methN {C : Addr} {m : Str} {sp : Sp} {E : XK} {ta tb : TE} {σ : L2.St} {H : Hp} {Q : VK} (h : ta σ H fun x H1 => ∃ a dx fs, x = .ref a ∧ H1 a = some (.ins C dx fs) ∧ fs.lookup m = none ∧ tb σ H1 fun y H2 => sp [x, y] H2 Q E) : tMethN C m sp gV11 E ta (tCons tb tNil) σ H Q := h
end T29
set_option Elab.async false
set_option linter.all false
set_option maxRecDepth 100000
set_option maxHeartbeats 1000000
namespace Ro
open PySem PySem.Spec PyProof.Rows L2 Gd Rp
end Ro
set_option Elab.async false
set_option linter.all false
set_option maxRecDepth 100000
set_option maxHeartbeats 4000000
set_option Elab.async false
set_option linter.all false
set_option maxRecDepth 100000
set_option maxHeartbeats 2000000
namespace T29
open PySem PySem.Spec PyProof.Rows L2 Gd Zn Rp Dn Tb Gn En Zs Ct Op Oc Rg Rt Ro
inductive GRows (H : Hp) : List (Bool × Addr) → List (List Int) → Prop
  | nil : GRows H [] []
  | lst {a : Addr} {r : List Int} {src : List (Bool × Addr)} {M : List (List Int)} : H a = some (.lst (r.map V.int)) → GRows H src M → GRows H ((false, a) :: src) (r :: M)
  | tup {a : Addr} {r : List Int} {src : List (Bool × Addr)} {M : List (List Int)} : H a = some (.tup (r.map V.int)) → GRows H src M → GRows H ((true, a) :: src) (r :: M)
theorem GRows.mono {H H' : Hp} {src : List (Bool × Addr)} {M : List (List Int)} (s : Same H H') (h : GRows H src M) : GRows H' src M := by
  induction h with
  | nil => exact .nil
  | lst e _ ih => exact .lst (s _ _ e) ih
  | tup e _ ih => exact .tup (s _ _ e) ih
theorem GRows.len {H : Hp} {src : List (Bool × Addr)} {M : List (List Int)} (h : GRows H src M) : src.length = M.length := by
  induction h with
  | nil => rfl
  | lst _ _ ih => rw [List.length_cons, List.length_cons, ih]
  | tup _ _ ih => rw [List.length_cons, List.length_cons, ih]
theorem grid_src {H : Hp} : ∀ {vx : List V} {ds : List PyData} {M : List (List Int)}, PyVs H vx ds → ds.length = M.length → (∀ (i : Nat) (d' : PyData), ds[i]? = some d' → ∃ r, M[i]? = some r ∧ (d' = .list (iD r) ∨ d' = .tuple (iD r))) → ∃ src, vx = kRefs src ∧ GRows H src M
  | _, _, [], .nil, _, _ => ⟨[], rfl, .nil⟩
  | _, _, _ :: _, .nil, l, _ => by simp at l
  | _, _, [], .cons _ _, l, _ => by simp at l
  | v :: vx, d :: ds, r :: M, .cons p q, l, h => by
    obtain ⟨src, e, g⟩ := grid_src q (Nat.succ.inj l) fun i d' e => h (i + 1) d' e
    obtain ⟨r', er, hd⟩ := h 0 d rfl
    cases er
    subst e
    rcases hd with rfl | rfl
    · cases p with
      | lst e z =>
        have ez := pyVs_ints z
        subst ez
        exact ⟨(false, _) :: src, rfl, .lst e g⟩
    · cases p with
      | tup e z =>
        have ez := pyVs_ints z
        subst ez
        exact ⟨(true, _) :: src, rfl, .tup e g⟩
theorem grow_all {K : PySem.W.Frag} {H : Hp} {j m : Nat} (hj : j < m) {src : List (Bool × Addr)} {M : List (List Int)} (h : GRows H src M) (hm : ∀ r ∈ M, r.length = m) : RowAt K H j src (M.map fun r => .int (r.getD j 0)) := by
  induction h with
  | nil => trivial
  | @lst a r src M e _ ih =>
    have hr : j < r.length := by rw [hm r List.mem_cons_self]; exact hj
    refine ⟨⟨r.map V.int, .inl (.inl e), ?_⟩, ih fun r hr => hm r (List.mem_cons_of_mem _ hr)⟩
    show _ = some (V.int (r.getD j 0))
    rw [List.getElem?_map, List.getElem?_eq_getElem hr, List.getD_eq_getElem?_getD, List.getElem?_eq_getElem hr]
    rfl
  | @tup a r src M e _ ih =>
    have hr : j < r.length := by rw [hm r List.mem_cons_self]; exact hj
    refine ⟨⟨r.map V.int, .inl (.inl e), ?_⟩, ih fun r hr => hm r (List.mem_cons_of_mem _ hr)⟩
    show _ = some (V.int (r.getD j 0))
    rw [List.getElem?_map, List.getElem?_eq_getElem hr, List.getD_eq_getElem?_getD, List.getElem?_eq_getElem hr]
    rfl
theorem gall_sq {K : PySem.W.Frag} {H : Hp} {src : List (Bool × Addr)} {M : List (List Int)} (h : GRows H src M) : AllSq K H src := by
  induction h with
  | nil => exact fun q hq => by cases hq
  | lst e _ ih =>
    intro z hz
    rcases List.mem_cons.mp hz with rfl | hz
    · exact ⟨_, .inl (.inl e)⟩
    · exact ih z hz
  | tup e _ ih =>
    intro z hz
    rcases List.mem_cons.mp hz with rfl | hz
    · exact ⟨_, .inl (.inl e)⟩
    · exact ih z hz
section
variable {P : Program} {w : World} {K : PySem.W.Frag} {mg : Str → Option Value} {base : Heap}
def sp_acrossG : Sp := fun vs H Q _ => ∃ v d M m, vs = [v] ∧ AnyV H v d ∧ GridD d M ∧ 0 < M.length ∧ M.length ≤ 3 ∧ m ≤ 100 ∧ (∀ r ∈ M, r.length = m) ∧ ∀ v' H', Same H H' → Mx H' v' (transp m M) → Q v' H'
theorem sc_acrossG : FnScope ["rows", "column"] ["rows"] (defScope st_across) := ⟨rfl, rfl, rfl, by decide +kernel, rfl, by decide +kernel, by decide +kernel⟩
theorem ok_acrossG {f : Addr} {fd : FuncData} (F : Fun K "across" "across" st_across f fd) (T : Txt mg) : FnOk P w K mg base CX0 1 f fd ["rows"] sp_acrossG := by
  refine F.ok sc_acrossG (fun vs H Q E h => ?_) (fun cdv A outer s H vs Q E hr h => ?_)
  · obtain ⟨v, d, M, m, rfl, _⟩ := h
    rfl
  · obtain ⟨v, d, M, m, rfl, av, ⟨g1, g2, g3⟩, h0, h3, hm, hM, q⟩ := h
    refine ⟨_, pss_one (ps_ret (pe_callTy (r := rTup K) c_tup (by rfl) T.tuple PyProof.Rows.boot_tuple (pa_cons (pe_lc (own := [("column", 1)]) (g := gName 1) (tt := tYes) rfl sc_acrossG.nd (pi_zipStar (by rfl) T.zip (pv 0))
        (blkOk_by (N := ["rows", "column"]) (sc := defScope st_across) (by decide +kernel))
        (fun _ _ _ _ _ => pg_name (i := 1) sc_acrossG.nd rfl (Or.inl rfl) (Or.inr rfl)) (fun _ _ _ _ _ => pts_nil)
        (fun _ _ _ _ _ => pe_callTy (r := rTup K) c_tup (by rfl) T.tuple PyProof.Rows.boot_tuple (pa_cons (pv 1) pa_nil))) pa_nil))), ?_⟩
    obtain ⟨t, a, vx, rfl, qx, px⟩ := (seq_of av g1).at K
    obtain ⟨src, rfl, hR⟩ := grid_src px g2 g3
    have hsl := hR.len
    refine r_ret (r_cb (r_cons ?_))
    refine tlc_of (Itn K src) (H1 := H) (fun R hR' => ⟨_, rfl, a, src, rfl, (sq_or (qx H (Same.refl H))).symm, by omega, by omega, gall_sq hR, hR'⟩) ?_
    refine lc_ks (p := none) m (fun i v H => ∃ r, (transp m M)[i]? = some r ∧ RowV H v r) (fun i v H H' k h => ?_) has_none (by omega) (fun i H2 hi s2 => ?_) (fun H2 s2 => ?_) (fun i x H2 H3 C hi s2 _ hy hC => ?_) fun Da H2 rs nD s2 hD hrl hE => ?_
    · obtain ⟨r, e, h⟩ := h
      exact ⟨r, e, h.mono k⟩
    · exact ⟨_, grow_all hi (hR.mono s2.same) hM⟩
    · refine ⟨gall_sq (hR.mono s2.same), ?_⟩
      cases hR with
      | nil => simp at h0
      | @lst b r src M e _ => exact ⟨_, List.mem_cons_self, _, .inl (.inl (s2.same _ _ e)), by rw [List.length_map, hM r List.mem_cons_self]; exact Nat.le_refl _⟩
      | @tup b r src M e _ => exact ⟨_, List.mem_cons_self, _, .inl (.inl (s2.same _ _ e)), by rw [List.length_map, hM r List.mem_cons_self]; exact Nat.le_refl _⟩
    · obtain ⟨T2, ys, rfl, nT, rfl, hu⟩ := hy
      have ey := (hu _ (grow_all hi (hR.mono s2.same) hM)).symm
      subst ey
      refine ⟨rfl, ?_⟩
      refine r_cb (r_cons ?_)
      refine ⟨_, rfl, ?_⟩
      refine ⟨T2, _, rfl, .inr ⟨.inl (.inl upd_same), hC _ _ (RX.new nT) ⟨_, transp_get hi, T2, rfl, ?_⟩⟩⟩
      rw [upd_same, List.map_map]
      rfl
    · refine ⟨Da, rs, rfl, .inl ⟨.inl (.inl hD), fun l nl => ?_⟩⟩
      have k : Same H2 (upd H2 l (.tup rs)) := same_new nl
      refine q _ _ (s2.same.trans k) ⟨l, rs, rfl, upd_same, ?_⟩
      exact (rows_of (by rw [hrl, transp_len]) hE).mono (KS.of k)
end
abbrev st_F (i : Nat) : Stmt := inClass (top 41) i
structure Fcl (K : PySem.W.Frag) (mg : Str → Option Value) (C : Addr) : Prop where
  cl : Cls K C
  nR : NoAttr K C "_rows"
  mgC : mg "Form" = some (.ref C)
  cc : PySem.W.findIn K (.ref C) "__class__" = some (some (.builtin "object.__class__"))
  cg : PySem.W.specialIn K (.builtin "object.__class__") "__get__" = some (some (.builtin "getset_descriptor.__get__"))
  ct : PySem.W.takesIn K (.builtin "object.__class__") = some true
  cm : PySem.W.mroIn K C (.type "object") = some true
theorem Fcl.ty {K : PySem.W.Frag} {mg : Str → Option Value} {C : Addr} (T : Fcl K mg C) {H : Hp} {p dx : Addr} {fs : List (Str × V)} (h : H p = some (.ins C dx fs)) : TyX K H (.ref p) (.ref C) := .base (.ins h T.cl T.cc T.cg T.ct T.cm)
/-- rows that are the same across -/
structure Sy (n : Nat) (M : List (List Int)) : Prop where
  sq : Sq n M
  h1 : 1 ≤ n
  h3 : n ≤ 3
  eq : transp n M = M
section
variable {P : Program} {w : World} {K : PySem.W.Frag} {mg : Str → Option Value} {base : Heap} {C D : Addr}
def sp_initF (C : Addr) : Sp := fun vs H Q _ => ∃ p dx v d M n, vs = [.ref p, v] ∧ H p = some (.ins C dx []) ∧ AnyV H v d ∧ GridD d M ∧ Sy n M ∧
  ∀ H', (∀ c o, c ≠ p → H c = some o → H' c = some o) → Tab C H' (.ref p) M → Q .non H'
theorem sc_initF : FnScope ["self", "rows"] ["self", "rows"] (defScope (st_F 0)) := ⟨rfl, rfl, rfl, by decide +kernel, rfl, by decide +kernel, by decide +kernel⟩
theorem ok_initF {f : Addr} {fd : FuncData} (F : Fun K "__init__" "Form.__init__" (st_F 0) f fd) (T : Txt mg) (Fc : Fcl K mg C) (D1 : Def P w K mg base "is_grid" 4 ["value"] sp_is_grid) (D2 : Def P w K mg base "copied" 1 ["rows"] sp_copied)
    (D3 : Def P w K mg base "across" 1 ["rows"] sp_acrossG) : FnOk P w K mg base CX0 8 f fd ["self", "rows"] (sp_initF C) := by
  refine F.ok sc_initF (fun vs H Q E h => ?_) (fun cdv A outer s H vs Q E hr h => ?_)
  · obtain ⟨p, dx, v, d, M, n, rfl, _⟩ := h
    rfl
  · obtain ⟨p, dx, v, d, M, n, rfl, hp, av, g, ⟨hS, h1, h3, he⟩, q⟩ := h
    obtain ⟨gt, gl⟩ := grid_true g h1 h3 hS
    refine ⟨_, pss_cons (ps_if (PW.pt (pw_or (pt_not (pt_val (pe_def D1 hr (pa_cons (pv 1) pa_nil)))) (pw_or1 (pt_cmpR (op_neD hr.units) (pe_def D2 hr (pa_cons (pv 1) pa_nil)) (pe_def D3 hr (pa_cons (pv 1) pa_nil)) (nomark _))))) pss_dead pss_nil)
      (pss_one (ps_fld (pv 0) (pe_def D2 hr (pa_cons (pv 1) pa_nil)) rfl)), ?_⟩
    have hl : (items d).length = n := by rw [g.2.1]; exact hS.len
    refine r_seq (r_if (r_or (r_not (r_tt (a1 ⟨_, rfl, v, d, rfl, av, by omega, fun r hr => by rw [gl r hr]; omega, fun H1 s1 => ⟨_, rfl, ?_⟩⟩)))))
    rw [gt]
    refine iteF ?_
    refine r_tt (r_op (a1 ⟨_, rfl, v, d, M, rfl, av.mono s1, g, by rw [hS.len]; omega, fun v2 H2 s2 hM => ?_⟩))
    refine a1 ⟨_, rfl, v, d, M, n, rfl, (av.mono s1).mono s2, g, by rw [hS.len]; omega, by rw [hS.len]; omega, by omega, hS.row, fun v3 H3 s3 hM3 => ?_⟩
    rw [he] at hM3
    refine r_neMx (hM.mono (KS.of s3)) hM3 ⟨_, rfl, ?_⟩
    rw [ne_no rfl]
    refine iteF ?_
    have S3 := s1.trans (s2.trans s3)
    refine ⟨_, rfl, v, d, M, rfl, av.mono S3, g, by rw [hS.len]; omega, fun v4 H4 s4 hM4 => ?_⟩
    have S4 := S3.trans s4
    refine ⟨_, rfl, p, C, dx, [], rfl, S4 _ _ hp, Fc.cl, Fc.nR, (by show 0 < 1000; decide), ?_⟩
    refine q _ (fun c o hc e => ?_) ?_
    · rw [upd_ne hc]
      exact S4 _ _ e
    · refine ⟨p, dx, v4, rfl, upd_same, T29.Mx.tup_mono (fun c xs e => ?_) hM4⟩
      have nc : c ≠ p := fun z => by
        subst z
        have := S4 _ _ hp
        rw [e] at this
        cases this
      rw [upd_ne nc]
      exact e
end
end T29
set_option Elab.async false
set_option linter.all false
set_option maxRecDepth 100000
set_option maxHeartbeats 4000000
namespace T29
open PySem PySem.Spec PyProof.Rows L2 Gd Zn Rp Dn Tb Gn En Zs Ct Op Oc Rg Rt Ro
def btwM (M : List (List Int)) (x y : List Int) : Int := dot x (ledM M y)
def addM (M N : List (List Int)) : List (List Int) := (M.zip N).map fun q => (q.1.zip q.2).map fun p => p.1 + p.2
def ldM (n : Nat) (G P : List (List Int)) : List (List Int) := mulM n (mulM n (transp n P) G) P
theorem trE1 (a : Int) : transp 1 [[a]] = [[a]] := rfl
theorem trE2 (a b c d : Int) : transp 2 [[a, b], [c, d]] = [[a, c], [b, d]] := rfl
theorem trE3 (a b c d e f g h i : Int) : transp 3 [[a, b, c], [d, e, f], [g, h, i]] = [[a, d, g], [b, e, h], [c, f, i]] := rfl
theorem tr_sh {n : Nat} {M : List (List Int)} (h : Sh n M) (h1 : 1 ≤ n) (h3 : n ≤ 3) : Sh n (transp n M) := by
  have : n = 1 ∨ n = 2 ∨ n = 3 := by omega
  rcases this with rfl | rfl | rfl
  · obtain ⟨a, rfl⟩ := sh1 h rfl
    exact sh_mk1 _
  · obtain ⟨a, b, c, d, rfl⟩ := sh2 h rfl
    exact sh_mk2 _ _ _ _
  · obtain ⟨a, b, c, d, e, f, g, h', i, rfl⟩ := sh3 h rfl
    exact sh_mk3 _ _ _ _ _ _ _ _ _
theorem sy2 {M : List (List Int)} (h : Sh 2 M) (e : transp 2 M = M) : ∃ a b c, M = [[a, b], [b, c]] := by
  obtain ⟨a, b, c, d, rfl⟩ := sh2 h rfl
  rw [trE2] at e
  simp only [List.cons.injEq, and_true, true_and] at e
  obtain ⟨e, _⟩ := e
  subst e
  exact ⟨a, c, d, rfl⟩
theorem sy3 {M : List (List Int)} (h : Sh 3 M) (e : transp 3 M = M) : ∃ a b c d e f, M = [[a, b, c], [b, d, e], [c, e, f]] := by
  obtain ⟨a, b, c, d, e', f, g, h', i, rfl⟩ := sh3 h rfl
  rw [trE3] at e
  simp only [List.cons.injEq, and_true, true_and] at e
  obtain ⟨⟨e1, e2⟩, ⟨_, e3⟩, _⟩ := e
  subst e1 e2 e3
  exact ⟨a, d, g, e', h', i, rfl⟩
theorem ld_sh {n : Nat} {G P : List (List Int)} (h1 : 1 ≤ n) (h3 : n ≤ 3) (hG : Sh n G) (hP : Sh n P) : Sh n (ldM n G P) := mul_sh h1 h3 (mul_sh h1 h3 (tr_sh hP h1 h3) hG) hP
theorem ld_sy {n : Nat} {G P : List (List Int)} (h1 : 1 ≤ n) (h3 : n ≤ 3) (hG : Sh n G) (hP : Sh n P) (e : transp n G = G) : transp n (ldM n G P) = ldM n G P := by
  have : n = 1 ∨ n = 2 ∨ n = 3 := by omega
  unfold ldM
  rcases this with rfl | rfl | rfl
  · obtain ⟨a, rfl⟩ := sh1 hG rfl
    obtain ⟨b, rfl⟩ := sh1 hP rfl
    rfl
  · obtain ⟨a, b, c, rfl⟩ := sy2 hG e
    obtain ⟨p, q, r, s, rfl⟩ := sh2 hP rfl
    rw [trE2, mulE2, mulE2, trE2]
    simp only [List.cons.injEq, and_true, true_and]
    constructor <;> grind
  · obtain ⟨a, b, c, d, e, f, rfl⟩ := sy3 hG e
    obtain ⟨p, q, r, s, t, u, v, w, x, rfl⟩ := sh3 hP rfl
    rw [trE3, mulE3, mulE3, trE3]
    simp only [List.cons.injEq, and_true, true_and]
    refine ⟨⟨?_, ?_⟩, ⟨?_, ?_⟩, ?_, ?_⟩ <;> grind
theorem SqE.tr {n k : Nat} {M : List (List Int)} (h : SqE n k M) (h1 : 1 ≤ n) (h3 : n ≤ 3) : SqE n k (transp n M) := by
  have s := tr_sh h.sh h1 h3
  refine ⟨s.len, s.row, fun r hr x hx => ?_⟩
  unfold transp at hr
  obtain ⟨j, hj, rfl⟩ := List.mem_map.mp hr
  have hj : j < n := by simpa using hj
  obtain ⟨r', hr', rfl⟩ := List.mem_map.mp hx
  have l := h.row r' hr'
  refine h.bd r' hr' _ ?_
  rw [List.getD_eq_getElem?_getD, List.getElem?_eq_getElem (by omega : j < r'.length)]
  exact List.getElem_mem _
theorem SqE.ld {n k l : Nat} {G P : List (List Int)} (hG : SqE n k G) (hP : SqE n l P) (h1 : 1 ≤ n) (h3 : n ≤ 3) : SqE n ((l + k + 2) + l + 2) (ldM n G P) := ((hP.tr h1 h3).mul hG h1 h3).mul hP h1 h3
/-- rows with bits -/
def Rb (k : Nat) (xs : List Int) : Prop := ∀ x ∈ xs, x.natAbs < 2 ^ k
theorem Rb.mono {k l : Nat} {xs : List Int} (h : Rb k xs) (e : k ≤ l) : Rb l xs := fun x hx => Wd.abs_mono (h x hx) e
theorem Rb.small {k : Nat} {xs : List Int} (h : Rb k xs) (e : k ≤ 20000) : ∀ x ∈ xs, Small x := fun x hx => ⟨k, e, h x hx⟩
theorem dot_rb {k l : Nat} {xs ys : List Int} (hx : Rb k xs) (hy : Rb l ys) (lx : xs.length ≤ 3) (e : xs.length = ys.length) : (dot xs ys).natAbs < 2 ^ (k + l + 2) := by
  have p : ∀ a ∈ xs, ∀ b ∈ ys, (a * b).natAbs < 2 ^ (k + l) := fun a ha b hb => Wd.abs_mul (hx a ha) (hy b hb)
  have z : 2 ^ (k + l + 2) = 4 * 2 ^ (k + l) := by rw [Nat.pow_add]; omega
  have z0 : 0 < 2 ^ (k + l) := Nat.pow_pos (by decide)
  rw [z]
  rcases xs with _ | ⟨a, _ | ⟨b, _ | ⟨c, _ | ⟨d, t⟩⟩⟩⟩
  · simp [dot]; omega
  · obtain ⟨x, rfl⟩ := len1 e.symm
    have := p a (by simp) x (by simp)
    simp [dot]; omega
  · obtain ⟨x, y, rfl⟩ := len2 e.symm
    have k1 := p a (by simp) x (by simp)
    have k2 := p b (by simp) y (by simp)
    simp [dot]; omega
  · obtain ⟨x, y, w, rfl⟩ := len3 e.symm
    have k1 := p a (by simp) x (by simp)
    have k2 := p b (by simp) y (by simp)
    have k3 := p c (by simp) w (by simp)
    simp [dot]; omega
  · simp at lx
theorem led_rb {n k l : Nat} {M : List (List Int)} {xs : List Int} (h : SqE n k M) (hx : Rb l xs) (e : xs.length = n) (h3 : n ≤ 3) : Rb (k + l + 2) (ledM M xs) := fun y hy => by
  unfold ledM at hy
  obtain ⟨r, hr, rfl⟩ := List.mem_map.mp hy
  exact dot_rb (fun x hx => h.bd r hr x hx) hx (by rw [h.row r hr]; exact h3) (by rw [h.row r hr, e])
theorem led_len {M : List (List Int)} {xs : List Int} : (ledM M xs).length = M.length := by unfold ledM; rw [List.length_map]
/-- a Form in the heap, with the bits of its numbers -/
structure Fv (C : Addr) (H : Hp) (x : V) (n : Nat) (b : Nat) (M : List (List Int)) : Prop where
  tab : Tab C H x M
  h1 : 1 ≤ n
  h3 : n ≤ 3
  eq : transp n M = M
  bd : SqE n b M
theorem Fv.same {C : Addr} {H H' : Hp} {x : V} {n : Nat} {b : Nat} {M : List (List Int)} (h : Fv C H x n b M) (s : Same H H') : Fv C H' x n b M := ⟨T29.Tab.same s h.tab, h.h1, h.h3, h.eq, h.bd⟩
theorem Fv.ks {C : Addr} {H H' : Hp} {x : V} {n : Nat} {b : Nat} {M : List (List Int)} (h : Fv C H x n b M) (s : KS H H') : Fv C H' x n b M := ⟨T29.Tab.mono s h.tab, h.h1, h.h3, h.eq, h.bd⟩
theorem Fv.up {C : Addr} {H : Hp} {x : V} {n b c : Nat} {M : List (List Int)} (h : Fv C H x n b M) (k : b ≤ c) : Fv C H x n c M := ⟨h.tab, h.h1, h.h3, h.eq, h.bd.mono k⟩
theorem Fv.len {C : Addr} {H : Hp} {x : V} {n b : Nat} {M : List (List Int)} (h : Fv C H x n b M) : M.length = n := h.bd.len
theorem make_frm {C : Addr} {H : Hp} {v : V} {d : PyData} {M : List (List Int)} {n : Nat} {Q : VK} {E : XK} (av : AnyV H v d) (g : GridD d M) (hS : Sy n M)
    (k : ∀ c H', Same H H' → Tab C H' (.ref c) M → Q (.ref c) H') : ∀ x dx : Addr, H x = none → H dx = none → dx ≠ x → sp_initF C (V.ref x :: ([v] ++ [])) (upd (upd H dx (.own x)) x (.ins C dx [])) (fun u H2 => u = V.non ∧ Q (.ref x) H2) E := by
  intro x dx nx nd ne
  have s : Same H (upd (upd H dx (.own x)) x (.ins C dx [])) := fun c o e => by
    rw [upd_ne (ne_of_none e nx), upd_ne (ne_of_none e nd)]
    exact e
  refine ⟨x, dx, v, d, M, n, rfl, upd_same, av.mono s, g, hS, fun H' kp ht => ⟨rfl, k x H' (fun c o e => ?_) ht⟩⟩
  exact kp c o (ne_of_none e nx) (s c o e)
structure MkrF (P : Program) (w : World) (K : PySem.W.Frag) (mg : Str → Option Value) (base : Heap) (C : Addr) : Prop where
  ex : ∃ (f : Addr) (fd : FuncData), Mk K C f ∧ FnOk P w K mg base CX0 8 f fd ["self", "rows"] (sp_initF C) ∧ Binds K fd ["self", "rows"] []
theorem pe_mkrF {X : Cx} {C : Addr} {j : Nat} {e : Expr} {t : TA} {p pos : Pos} (D : MkrF X.prog X.w X.K X.mg X.base C) (Fc : Fcl X.K X.mg C) (room : Room j X.A) (ha : PA X [e] t) (hkj : 9 ≤ j := by decide) (hg : Gl X "Form" := by rfl)
    (he : starEach [e] X.env = (false, eval e X.env) :: starEach [] X.env := by rfl) (hpl : (backTo pos (starEach [] X.env)).any (·.1) = false := by rfl) :
    PE X (.Call (.Name "Form" p) [e] [] pos) (tMake C (sp_initF C) [] E0 t) := by
  obtain ⟨f, fd, m, G, b⟩ := D.ex
  exact pe_make m G (room.mono hkj) hg Fc.mgC b .nil pass0 ha (by decide +kernel) he hpl
def MkF (C : Addr) (H : Hp) (x : V) (Q : VK) : Prop := ∀ z dx : Addr, H z = none → H dx = none → dx ≠ z → sp_initF C (V.ref z :: ([x] ++ [])) (upd (upd H dx (.own z)) z (.ins C dx [])) (fun u H2 => u = V.non ∧ Q (.ref z) H2) E0
theorem mkF {C : Addr} {ta : TE} {σ : L2.St} {H : Hp} {Q : VK} (h : ta σ H fun x H1 => MkF C H1 x Q) : tMake C (sp_initF C) [] E0 (tCons ta tNil) σ H Q := h
theorem MkF.of {C : Addr} {H : Hp} {v : V} {d : PyData} {M : List (List Int)} {n : Nat} {b : Nat} {Q : VK} (av : AnyV H v d) (g : GridD d M) (h1 : 1 ≤ n) (h3 : n ≤ 3) (e : transp n M = M) (bd : SqE n b M) (lb : b ≤ 20000) (k : ∀ c H', Same H H' → Fv C H' (.ref c) n b M → Q (.ref c) H') : MkF C H v Q :=
  fun z dx nz nd ne => make_frm (Q := Q) av g ⟨bd.sq lb, h1, h3, e⟩ (fun c H' s t => k c H' s ⟨t, h1, h3, e, bd⟩) z dx nz nd ne
section
variable {P : Program} {w : World} {K : PySem.W.Frag} {mg : Str → Option Value} {base : Heap} {C D : Addr}
theorem sc_rowsF : FnScope ["self"] ["self"] (defScope (st_F 1)) := ⟨rfl, rfl, rfl, by decide +kernel, rfl, by decide +kernel, by decide +kernel⟩
theorem ok_rowsF {f : Addr} {fd : FuncData} (F : Fun K "rows" "Form.rows" (st_F 1) f fd) (Fc : Fcl K mg C) : FnOk P w K mg base CX0 1 f fd ["self"] (sp_rows C) := by
  refine F.ok sc_rowsF (fun vs H Q E h => ?_) (fun cdv A outer s H vs Q E hr h => ?_)
  · obtain ⟨v, M, rfl, _⟩ := h
    rfl
  · obtain ⟨v, M, rfl, ⟨p, dx, r, rfl, hp, hM⟩, q⟩ := h
    refine ⟨_, pss_one (ps_ret (pe_fld (pv 0) rfl)), ?_⟩
    exact ⟨_, rfl, p, C, dx, _, _, rfl, hp, Fc.cl, Fc.nR, fldsT_rows _, q r hM⟩
theorem sc_sizeF : FnScope ["self"] ["self"] (defScope (st_F 2)) := ⟨rfl, rfl, rfl, by decide +kernel, rfl, by decide +kernel, by decide +kernel⟩
theorem ok_sizeF {f : Addr} {fd : FuncData} (F : Fun K "size" "Form.size" (st_F 2) f fd) (T : Txt mg) (Fc : Fcl K mg C) : FnOk P w K mg base CX0 1 f fd ["self"] (sp_size C) := by
  refine F.ok sc_sizeF (fun vs H Q E h => ?_) (fun cdv A outer s H vs Q E hr h => ?_)
  · obtain ⟨v, M, rfl, _⟩ := h
    rfl
  · obtain ⟨v, M, rfl, ⟨p, dx, r, rfl, hp, a, vx, rfl, ha, hR⟩, q⟩ := h
    refine ⟨_, pss_one (ps_ret (pe_callB (r := Dn.rLen K) c_len (by rfl) T.len PySem.boot_len (pa_cons (pe_fld (pv 0) rfl) pa_nil))), ?_⟩
    refine ⟨_, rfl, p, C, dx, _, _, rfl, hp, Fc.cl, Fc.nR, fldsT_rows _, a, vx, rfl, .inr (.inl (.inl ha)), ?_⟩
    rw [hR.len]
    exact q
theorem sc_detF : FnScope ["self"] ["self"] (defScope (st_F 3)) := ⟨rfl, rfl, rfl, by decide +kernel, rfl, by decide +kernel, by decide +kernel⟩
theorem ok_detF {f : Addr} {fd : FuncData} (F : Fun K "determinant" "Form.determinant" (st_F 3) f fd) (Fc : Fcl K mg C) (D1 : ∀ n, Def P w K mg base "determinant_of" (2 * n + 1) ["rows"] (sp_det n)) : FnOk P w K mg base CX0 8 f fd ["self"] (sp_detP C) := by
  refine F.ok sc_detF (fun vs H Q E h => ?_) (fun cdv A outer s H vs Q E hr h => ?_)
  · obtain ⟨v, M, n, rfl, _⟩ := h
    rfl
  · obtain ⟨v, M, n, rfl, ⟨p, dx, r, rfl, hp, hM⟩, hS, h3, q⟩ := h
    refine ⟨_, pss_one (ps_ret (pe_def (D1 n) hr (pa_cons (pe_fld (pv 0) rfl) pa_nil) (by omega))), ?_⟩
    exact ⟨_, rfl, p, C, dx, _, _, rfl, hp, Fc.cl, Fc.nR, fldsT_rows _, r, M, rfl, hM, by omega, hS, q⟩
theorem sc_eqF : FnScope ["self", "other"] ["self", "other"] (defScope (st_F 4)) := ⟨rfl, rfl, rfl, by decide +kernel, rfl, by decide +kernel, by decide +kernel⟩
theorem ok_eqF {f : Addr} {fd : FuncData} (F : Fun K "__eq__" "Form.__eq__" (st_F 4) f fd) (T : Txt mg) (Fc : Fcl K mg C) : FnOk P w K mg base CX0 1 f fd ["self", "other"] (sp_eqT C) := by
  refine F.ok sc_eqF (fun vs H Q E h => ?_) (fun cdv A outer s H vs Q E hr h => ?_)
  · obtain ⟨v, o, M, N, rfl, _⟩ := h
    rfl
  · obtain ⟨v, o, M, N, rfl, hv, ho, q⟩ := h
    refine ⟨_, pss_one (ps_ret (pe_and (pe_callB (r := rIsi K) call_isi (by rfl) T.isi boot_isinstance (pa_cons (pv 1) (pa_cons (pe_glob (v := .ref C) (by rfl) Fc.mgC rfl) pa_nil)))
      (pe_one (pe_cmpR (op_eqD hr.units) (pe_fld (pv 0) rfl) (pe_fld (pv 1) rfl) (nomark _))))), ?_⟩
    obtain ⟨p, dx, r, rfl, hp, hM⟩ := id hv
    obtain ⟨p2, dx2, r2, rfl, hp2, hN⟩ := id ho
    refine ⟨_, rfl, .ref p2, .ref C, _, _, _, rfl, .own C, Fc.ty hp2, kit_own K C, _, rfl, ?_⟩
    refine iteT ?_
    refine ⟨_, rfl, p, C, dx, _, _, rfl, hp, Fc.cl, Fc.nR, fldsT_rows _, ?_⟩
    refine ⟨_, rfl, p2, C, dx2, _, _, rfl, hp2, Fc.cl, Fc.nR, fldsT_rows _, ?_⟩
    exact r_eqMx hM hN q
abbrev st_check_form : Stmt := top 42
def sp_check_form (C : Addr) : Sp := fun vs H Q _ => ∃ v M, vs = [v] ∧ Tab C H v M ∧ Q .non H
theorem sc_check_form : FnScope ["form"] ["form"] (defScope st_check_form) := ⟨rfl, rfl, rfl, by decide +kernel, rfl, by decide +kernel, by decide +kernel⟩
theorem ok_check_form {f : Addr} {fd : FuncData} (F : Fun K "check_form" "check_form" st_check_form f fd) (T : Txt mg) (Fc : Fcl K mg C) :
    FnOk P w K mg base CX0 1 f fd ["form"] (sp_check_form C) := by
  refine F.ok sc_check_form (fun vs H Q E h => ?_) (fun cdv A outer s H vs Q E hr h => ?_)
  · obtain ⟨v, M, rfl, _⟩ := h
    rfl
  · obtain ⟨v, M, rfl, ⟨p, dx, r, rfl, hp, hM⟩, q⟩ := h
    refine ⟨_, pss_one (ps_if (pt_not (pt_val (pe_callB (r := rIsi K) call_isi (by rfl) T.isi boot_isinstance (pa_cons (pv 0) (pa_cons (pe_glob (v := .ref C) (by rfl) Fc.mgC rfl) pa_nil))))) pss_dead pss_nil), ?_⟩
    refine ⟨_, rfl, .ref p, .ref C, _, _, _, rfl, .own C, Fc.ty hp, kit_own K C, _, rfl, ?_⟩
    exact iteF q
def sp_check_alike2 (C D : Addr) : Sp := fun vs H Q _ => ∃ v o M N, vs = [v, o] ∧ Tab C H v M ∧ Tab D H o N ∧ M.length = N.length ∧ Q .non H
theorem ok_check_alike2 {f : Addr} {fd : FuncData} (F : Fun K "check_alike" "check_alike" st_check_alike f fd) (cC : Cls K C) (cD : Cls K D) (D1 : Prp P w K mg base C "size" 1 (sp_size C)) (D2 : Prp P w K mg base D "size" 1 (sp_size D)) : FnOk P w K mg base CX0 3 f fd ["one", "other"] (sp_check_alike2 C D) := by
  refine F.ok sc_check_alike (fun vs H Q E h => ?_) (fun cdv A outer s H vs Q E hr h => ?_)
  · obtain ⟨v, o, M, N, rfl, _⟩ := h
    rfl
  · obtain ⟨v, o, M, N, rfl, hv, ho, e, q⟩ := h
    refine ⟨_, pss_one (ps_if (pt_cmpR op_ne (pe_prp D1 cC hr (pv 0)) (pe_prp D2 cD hr (pv 1)) (nomark _)) pss_dead pss_nil), ?_⟩
    obtain ⟨p, dx, r, rfl, hp, hM⟩ := id hv
    obtain ⟨p2, dx2, r2, rfl, hp2, hM2⟩ := id ho
    refine ⟨_, rfl, p, dx, _, rfl, hp, _, M, rfl, hv, ?_⟩
    refine ⟨_, rfl, p2, dx2, _, rfl, hp2, _, N, rfl, ho, ?_⟩
    refine ⟨rfl, _, rfl, ?_⟩
    rw [show (!decide (V.int (M.length : Int) = V.int (N.length : Int))) = false by rw [e]; simp]
    exact iteF q
def sp_btw (C : Addr) : Sp := fun vs H Q _ => ∃ v o p M xs ys n, vs = [v, o, p] ∧ Tab C H v M ∧ SeqV H o (iD xs) ∧ SeqV H p (iD ys) ∧ Sq n M ∧ 1 ≤ n ∧ n ≤ 3 ∧ xs.length = n ∧ ys.length = n ∧ (∀ x ∈ xs, Small x) ∧ (∀ y ∈ ys, Small y) ∧ (∀ y ∈ ledM M ys, Small y) ∧ ∀ H', Same H H' → Q (.int (btwM M xs ys)) H'
theorem sc_btw : FnScope ["self", "row", "other"] ["self", "row", "other"] (defScope (st_F 8)) := ⟨rfl, rfl, rfl, by decide +kernel, rfl, by decide +kernel, by decide +kernel⟩
theorem ok_btw {f : Addr} {fd : FuncData} (F : Fun K "between" "Form.between" (st_F 8) f fd) (Fc : Fcl K mg C) (D1 : Def P w K mg base "check_row" 4 ["size", "row"] sp_check_row) (D2 : Prp P w K mg base C "size" 1 (sp_size C)) (D3 : Def P w K mg base "led_row" 2 ["rows", "row"] sp_led_row)
    (D4 : Def P w K mg base "scalar" 1 ["row", "other"] sp_scalar) : FnOk P w K mg base CX0 5 f fd ["self", "row", "other"] (sp_btw C) := by
  refine F.ok sc_btw (fun vs H Q E h => ?_) (fun cdv A outer s H vs Q E hr h => ?_)
  · obtain ⟨v, o, p, M, xs, ys, n, rfl, _⟩ := h
    rfl
  · obtain ⟨v, o, p', M, xs, ys, n, rfl, hv, ho, hp', hS, h1, h3, hx, hy, hsx, hsy, hsl, q⟩ := h
    refine ⟨_, pss_cons (ps_expr (pe_def D1 hr (pa_cons (pe_prp D2 Fc.cl hr (pv 0)) (pa_cons (pv 1) pa_nil))))
      (pss_cons (ps_expr (pe_def D1 hr (pa_cons (pe_prp D2 Fc.cl hr (pv 0)) (pa_cons (pv 2) pa_nil))))
      (pss_one (ps_ret (pe_def D4 hr (pa_cons (pv 1) (pa_cons (pe_def D3 hr (pa_cons (pe_fld (pv 0) rfl) (pa_cons (pv 2) pa_nil))) pa_nil)))))), ?_⟩
    obtain ⟨p, dx, r, rfl, hp, hM⟩ := id hv
    obtain ⟨d, av, ei, hd⟩ := T29.SeqV.any ho
    obtain ⟨d', av', ei', hd'⟩ := T29.SeqV.any hp'
    refine ⟨_, rfl, p, dx, _, rfl, hp, .ref p, M, rfl, hv, ?_⟩
    refine ⟨_, rfl, o, d, M.length, rfl, av, by rw [ei]; unfold iD; rw [List.length_map]; omega, ?_, fun H1 s1 => ?_⟩
    · rw [hS.len]
      exact row_true hd h1 h3 hx
    refine ⟨_, rfl, p, dx, _, rfl, s1 _ _ hp, .ref p, M, rfl, T29.Tab.same s1 hv, ?_⟩
    refine ⟨_, rfl, p', d', M.length, rfl, av'.mono s1, by rw [ei']; unfold iD; rw [List.length_map]; omega, ?_, fun H2 s2 => ?_⟩
    · rw [hS.len]
      exact row_true hd' h1 h3 hy
    have S2 := s1.trans s2
    refine ⟨_, rfl, _, rfl, p, C, dx, _, _, rfl, S2 _ _ hp, Fc.cl, Fc.nR, fldsT_rows _, ?_⟩
    refine ⟨_, rfl, r, p', M, ys, rfl, hM.mono (KS.of S2), hp'.mono S2, by rw [hS.len]; omega, by omega, hsy, fun c hc => ⟨by rw [hS.row c hc, hy], hS.small c hc⟩, fun v' H3 s3 hv' => ?_⟩
    have S3 := S2.trans s3
    exact ⟨o, v', xs, ledM M ys, rfl, ho.mono S3, T29.RowV.seq hv', by rw [led_len, hS.len, hx], by omega, hsx, hsl, fun H4 s4 => q H4 (S3.trans s4)⟩
def sp_worth (C : Addr) : Sp := fun vs H Q _ => ∃ v o M xs n, vs = [v, o] ∧ Tab C H v M ∧ SeqV H o (iD xs) ∧ Sq n M ∧ 1 ≤ n ∧ n ≤ 3 ∧ xs.length = n ∧ (∀ x ∈ xs, Small x) ∧ (∀ y ∈ ledM M xs, Small y) ∧ ∀ H', Same H H' → Q (.int (btwM M xs xs)) H'
theorem sc_worth : FnScope ["self", "row"] ["self", "row"] (defScope (st_F 7)) := ⟨rfl, rfl, rfl, by decide +kernel, rfl, by decide +kernel, by decide +kernel⟩
theorem ok_worth {f : Addr} {fd : FuncData} (F : Fun K "worth" "Form.worth" (st_F 7) f fd) (Fc : Fcl K mg C) (D1 : Mtd P w K mg base C "between" 5 ["self", "row", "other"] (sp_btw C)) : FnOk P w K mg base CX0 6 f fd ["self", "row"] (sp_worth C) := by
  refine F.ok sc_worth (fun vs H Q E h => ?_) (fun cdv A outer s H vs Q E hr h => ?_)
  · obtain ⟨v, o, M, xs, n, rfl, _⟩ := h
    rfl
  · obtain ⟨v, o, M, xs, n, rfl, hv, ho, hS, h1, h3, hx, hsx, hsl, q⟩ := h
    obtain ⟨g, gd, mt, G, b⟩ := D1.ex
    have hr5 : Room 5 _ := hr
    refine ⟨_, pss_one (ps_ret (pe_meth (pv 0) Fc.cl mt G hr5 b .nil pass0 (pa_cons (pv 1) (pa_cons (pv 1) pa_nil)))), ?_⟩
    obtain ⟨p, dx, r, rfl, hp, hM⟩ := id hv
    exact ⟨_, rfl, p, dx, _, rfl, hp, rfl, _, rfl, _, rfl, .ref p, o, o, M, xs, xs, n, rfl, hv, ho, ho, hS, h1, h3, hx, hx, hsx, hsx, hsl, q⟩
def sp_led (C D : Addr) : Sp := fun vs H Q _ => ∃ v o G M, ∃ n b c : Nat, vs = [v, o] ∧ Fv C H v n b G ∧ Tv D H o n c M ∧ b ≤ 2000 ∧ c ≤ 2000 ∧ ∀ d H', Same H H' → Fv C H' (.ref d) n ((c + b + 2) + c + 2) (ldM n G M) → Q (.ref d) H'
theorem sc_led : FnScope ["self", "table"] ["self", "table"] (defScope (st_F 10)) := ⟨rfl, rfl, rfl, by decide +kernel, rfl, by decide +kernel, by decide +kernel⟩
theorem ok_led {f : Addr} {fd : FuncData} (F : Fun K "led" "Form.led" (st_F 10) f fd) (Fc : Fcl K mg C) (Tc : Tcl K mg D) (D1 : Def P w K mg base "check_table" 1 ["table"] (sp_check_table D)) (D2 : Def P w K mg base "check_alike" 3 ["one", "other"] (sp_check_alike2 C D))
    (D3 : Def P w K mg base "multiplied" 3 ["rows", "others"] sp_multiplied) (D4 : Def P w K mg base "across" 1 ["rows"] sp_across) (D5 : MkrF P w K mg base C) (D6 : Prp P w K mg base D "rows" 1 (sp_rows D)) : FnOk P w K mg base CX0 10 f fd ["self", "table"] (sp_led C D) := by
  refine F.ok sc_led (fun vs H Q E h => ?_) (fun cdv A outer s H vs Q E hr h => ?_)
  · obtain ⟨v, o, G, M, n, b, c, rfl, _⟩ := h
    rfl
  · obtain ⟨v, o, G, M, n, b, c, rfl, hv, ho, lb, lc, q⟩ := h
    refine ⟨_, pss_cons (ps_expr (pe_def D1 hr (pa_cons (pv 1) pa_nil)))
      (pss_cons (ps_expr (pe_def D2 hr (pa_cons (pv 0) (pa_cons (pv 1) pa_nil))))
      (pss_one (ps_ret (pe_mkrF D5 Fc hr (pa_cons (pe_def D3 hr (pa_cons (pe_def D3 hr (pa_cons (pe_def D4 hr (pa_cons (pe_prp D6 Tc.cl hr (pv 1)) pa_nil)) (pa_cons (pe_fld (pv 0) rfl) pa_nil))) (pa_cons (pe_prp D6 Tc.cl hr (pv 1)) pa_nil))) pa_nil))))), ?_⟩
    have h1 := hv.h1
    have h3 := hv.h3
    have sG := hv.bd
    have sM := ho.bd
    have sT := sM.tr h1 h3
    have sTG := sT.mul sG h1 h3
    refine ⟨_, rfl, o, M, rfl, ho.tab, ?_⟩
    refine ⟨_, rfl, _, rfl, v, o, G, M, rfl, hv.tab, ho.tab, by rw [sG.len, sM.len], ?_⟩
    obtain ⟨p, dx, r, rfl, hp, hG⟩ := id hv.tab
    obtain ⟨p2, dx2, r2, rfl, hp2, hM⟩ := id ho.tab
    have q1 := sM.sq (by omega)
    have q2 := sG.sq (by omega)
    have q3 := sT.sq (by omega)
    have q4 := sTG.sq (by omega)
    refine r_nret (mkF (a2 (a2 (a1 ?_))))
    refine ⟨_, rfl, p2, dx2, _, rfl, hp2, _, M, rfl, ho.tab, fun r3 m3 => ?_⟩
    refine ⟨r3, M, n, rfl, m3, by rw [sM.len]; omega, by rw [sM.len]; omega, by omega, sM.row, fun v4 H4 s4 m4 => ?_⟩
    refine ⟨_, rfl, p, C, dx, _, _, rfl, s4 _ _ hp, Fc.cl, Fc.nR, fldsT_rows _, ?_⟩
    refine ⟨v4, r, transp n M, G, n, rfl, m4, hG.mono (KS.of s4), by rw [sT.len]; omega, by rw [sG.len]; omega, by rw [sG.len]; omega, by omega, fun c hc => ⟨by rw [q3.row c hc, sG.len], q3.small c hc⟩, fun c hc => ⟨q2.row c hc, q2.small c hc⟩, fun v5 H5 s5 m5 => ?_⟩
    have S5 := s4.trans s5
    refine ⟨_, rfl, p2, dx2, _, rfl, S5 _ _ hp2, _, M, rfl, T29.Tab.same S5 ho.tab, fun r6 m6 => ?_⟩
    refine ⟨v5, r6, mulM n (transp n M) G, M, n, rfl, m5, m6, by rw [sTG.len]; omega, by rw [sM.len]; omega, by rw [sM.len]; omega, by omega, fun c hc => ⟨by rw [q4.row c hc, sM.len], q4.small c hc⟩, fun c hc => ⟨q1.row c hc, q1.small c hc⟩, fun v7 H7 s7 m7 => ?_⟩
    exact MkF.of (.inl m7.py) (grid_mx _) h1 h3 (ld_sy h1 h3 sG.sh sM.sh hv.eq) (sG.ld sM h1 h3) (by omega) fun d H8 s8 f8 => q d H8 (S5.trans (s7.trans s8)) f8
end
end T29
set_option Elab.async false
set_option linter.all false
set_option maxRecDepth 100000
set_option maxHeartbeats 1000000
namespace Oa
open PySem PySem.Spec PyProof.Rows L2 Op
theorem op_addOwn {X : Cx} {CX : CXT} {C g : Addr} {n : Nat} {sp : Sp} {E : XK} {cd : ClassData} {rest : List Value} (hc : W.clsIn X.K C = some cd) (hm : cd.mro = Value.ref C :: rest)
    (hf : W.findIn X.K (.ref C) (dunder "add") = some (some (.ref g))) (hfn : W.isFn X.K (.ref g) = true) (G : FnR X.prog X.w X.K X.mg X.base CX n g sp) (room : Room n X.A) (ps : Passes CX X E) : OpR X (binaryOp .Add) (rOwnB C sp E) := by
  intro pins s σ H x y v u Q I rx ry h
  obtain ⟨a, dx, fs, b, dy, gs, rfl, rfl, ha, hb, q⟩ := h
  cases (show v = Value.ref a from rx)
  cases (show u = Value.ref b from ry)
  have oa : s.heap.get? a = some (W.instObj C dx) := by have := I.hok a _ ha; unfold ObjOk at this; exact this.2.2.2.1
  have ob : s.heap.get? b = some (W.instObj C dy) := by have := I.hok b _ hb; unfold ObjOk at this; exact this.2.2.2.1
  have kin := I.kIn
  unfold binaryOp
  refine wpAny_holding ?_
  show wpAny _ _ (binaryOp1 "add" (.ref a) (.ref b) >>= _) _ _ _
  refine wpAny_bind ?_
  unfold binaryOp1
  refine wpAny_bind (wpAny_typeOf_ref oa ?_)
  refine wpAny_bind (wpAny_typeOf_ref ob ?_)
  refine wpAny_bind (W.fills_K (M := model X.prog X.w) kin hc hm hf X.A _ _ s (fun _ _ e => e) ?_)
  have e1 : ((W.instObj C dx).cls == (W.instObj C dy).cls) = true := by
    show (Value.ref C == Value.ref C) = true
    simp
  dsimp only
  rw [if_pos e1]
  refine wpAny_bind (wpAny_pure ?_)
  simp only [Bool.and_false, Bool.false_and, Bool.false_eq_true, if_false, if_true]
  refine wpAny_bind (wpAny_pure ?_)
  simp only [Bool.false_eq_true, if_false]
  refine wpAny_bind ?_
  unfold tryMethod
  refine wpAny_bind ?_
  unfold callSpecial?
  refine wpAny_bind ?_
  unfold specialOf
  refine wpAny_bind (wpAny_typeOf_ref oa ?_)
  refine W.looks_findIn (M := model X.prog X.w) kin hf X.A _ _ s (fun _ _ e => e) ?_
  dsimp only
  refine wpAny_holding ?_
  refine wpAny_bind ?_
  unfold bindSpecial
  have hfn' : W.typeIn X.K (.ref g) = some (.type "function") := by
    unfold W.isFn at hfn
    simpa using hfn
  refine wpAny_bind (W.looks_typeIn (M := model X.prog X.w) kin hfn' X.A _ _ s (fun _ _ e => e) ?_)
  rw [if_pos (by decide)]
  refine wpAny_pure ?_
  dsimp only
  refine wpAny_bind (wpAny_call ?_)
  refine codeAny_mono (run_fnR G room ps I (.cons rx (.cons ry .nil)) q) fun r s2 hq => ?_
  cases r with
  | error er => exact hq
  | ok fl =>
    cases fl with
    | ret u =>
      obtain ⟨v, H', I', rv, ⟨c, rfl⟩, hQ⟩ := hq
      have eu : u = Value.ref c := rv
      subst eu
      exact wpAny_pure (wpAny_pure (wpAny_pure (wpAny_pure ⟨_, H', I', rv, hQ⟩)))
    | next => exact (show False from hq).elim
    | brk => exact (show False from hq).elim
    | cont => exact (show False from hq).elim
end Oa
set_option Elab.async false
set_option linter.all false
set_option maxRecDepth 100000
set_option maxHeartbeats 4000000
namespace T29
open PySem PySem.Spec PyProof.Rows L2 Gd Zn Rp Dn Tb Gn En Zs Ct Op Oc Rg Rt Ro Oa
theorem add_get {M N : List (List Int)} {i : Nat} {r s : List Int} (h1 : M[i]? = some r) (h2 : N[i]? = some s) : (addM M N)[i]? = some ((r.zip s).map fun p => p.1 + p.2) := by
  unfold addM
  rw [List.getElem?_map]
  have : (M.zip N)[i]? = some (r, s) := by rw [List.getElem?_zip_eq_some]; exact ⟨h1, h2⟩
  rw [this]
  rfl
theorem add_sh {n : Nat} {M N : List (List Int)} (hM : Sh n M) (hN : Sh n N) : Sh n (addM M N) := by
  refine ⟨?_, fun r hr => ?_⟩
  · unfold addM
    rw [List.length_map, List.length_zip, hM.len, hN.len]
    omega
  · unfold addM at hr
    obtain ⟨⟨a, b⟩, h, rfl⟩ := List.mem_map.mp hr
    have k := List.of_mem_zip h
    rw [List.length_map, List.length_zip, hM.row a k.1, hN.row b k.2]
    omega
theorem SqE.add {n k : Nat} {M N : List (List Int)} (hM : SqE n k M) (hN : SqE n k N) : SqE n (k + 1) (addM M N) := by
  have s := add_sh hM.sh hN.sh
  refine ⟨s.len, s.row, fun r hr x hx => ?_⟩
  unfold addM at hr
  obtain ⟨⟨a, b⟩, h, rfl⟩ := List.mem_map.mp hr
  have q := List.of_mem_zip h
  obtain ⟨⟨c, d⟩, h2, rfl⟩ := List.mem_map.mp hx
  have q2 := List.of_mem_zip h2
  exact Wd.abs_add (hM.bd a q.1 c q2.1) (hN.bd b q.2 d q2.2)
theorem add_sy {n : Nat} {M N : List (List Int)} (h1 : 1 ≤ n) (h3 : n ≤ 3) (hM : Sh n M) (hN : Sh n N) (e : transp n M = M) (e' : transp n N = N) : transp n (addM M N) = addM M N := by
  have : n = 1 ∨ n = 2 ∨ n = 3 := by omega
  rcases this with rfl | rfl | rfl
  · obtain ⟨a, rfl⟩ := sh1 hM rfl
    obtain ⟨b, rfl⟩ := sh1 hN rfl
    rfl
  · obtain ⟨a, b, c, rfl⟩ := sy2 hM e
    obtain ⟨p, q, r, rfl⟩ := sy2 hN e'
    rfl
  · obtain ⟨a, b, c, d, e, f, rfl⟩ := sy3 hM e
    obtain ⟨p, q, r, s, t, u, rfl⟩ := sy3 hN e'
    rfl
theorem unit_sy {n : Nat} (h1 : 1 ≤ n) (h3 : n ≤ 3) : transp n (unitM n) = unitM n := by
  have : n = 1 ∨ n = 2 ∨ n = 3 := by omega
  rcases this with rfl | rfl | rfl <;> rfl
theorem getD_of {M : List (List Int)} {i : Nat} {r : List Int} (h : M[i]? = some r) : M.getD i [] = r := by
  rw [List.getD_eq_getElem?_getD, h]
  rfl
section
variable {P : Program} {w : World} {K : PySem.W.Frag} {mg : Str → Option Value} {base : Heap} {C : Addr}
def sp_addF (C : Addr) : Sp := fun vs H Q _ => ∃ v o M N, ∃ n b : Nat, vs = [v, o] ∧ Fv C H v n b M ∧ Fv C H o n b N ∧ b ≤ 2000 ∧ ∀ d H', Same H H' → Fv C H' (.ref d) n (b + 1) (addM M N) → Q (.ref d) H'
abbrev N_add : List Str := ["self", "other", "row", "line", "one", "more"]
theorem sc_add : FnScope N_add ["self", "other"] (defScope (st_F 6)) := ⟨rfl, rfl, rfl, by decide +kernel, rfl, by decide +kernel, by decide +kernel⟩
theorem ok_addF {f : Addr} {fd : FuncData} (F : Fun K "__add__" "Form.__add__" (st_F 6) f fd) (T : Txt mg) (Fc : Fcl K mg C) (D1 : Def P w K mg base "check_form" 1 ["form"] (sp_check_form C)) (D2 : Def P w K mg base "check_alike" 3 ["one", "other"] (sp_check_alike2 C C))
    (D3 : MkrF P w K mg base C) (D4 : Prp P w K mg base C "rows" 1 (sp_rows C)) : FnOk P w K mg base CX0 10 f fd ["self", "other"] (sp_addF C) := by
  refine F.ok sc_add (fun vs H Q E h => ?_) (fun cdv A outer s H vs Q E hr h => ?_)
  · obtain ⟨v, o, M, N, n, b, rfl, _⟩ := h
    rfl
  · obtain ⟨v, o, M, N, n, b, rfl, hv, ho, lb, q⟩ := h
    refine ⟨_, pss_cons (ps_expr (pe_def D1 hr (pa_cons (pv 1) pa_nil)))
      (pss_cons (ps_expr (pe_def D2 hr (pa_cons (pv 0) (pa_cons (pv 1) pa_nil))))
      (pss_one (ps_ret (pe_mkrF D3 Fc hr (pa_cons (pe_lc (own := [("row", 2), ("line", 3)]) (g := gTup K 2 (gCons (gName 2) (gCons (gName 3) gNil))) (tt := tYes) rfl sc_add.nd (pi_zipn (by rfl) T.zip (pa_cons (pe_fld (pv 0) rfl) (pa_cons (pe_prp D4 Fc.cl hr (pv 1)) pa_nil)))
        (blkOk_by (N := N_add) (sc := defScope (st_F 6)) (by decide +kernel))
        (fun _ _ _ _ _ => pg_tup rfl (pgs_cons (pg_name (i := 2) sc_add.nd rfl (Or.inl rfl) (Or.inr rfl)) (pgs_cons (pg_name (i := 3) sc_add.nd rfl (Or.inl rfl) (Or.inr rfl)) pgs_nil))) (fun _ _ _ _ _ => pts_nil)
        (fun s' H' C' cl' fp' => by
          refine pe_lc (own := [("one", 4), ("more", 5)]) (wi := iZn K (tCons (tVar 2) (tCons (tVar 3) tNil))) (g := gTup K 2 (gCons (gName 4) (gCons (gName 5) gNil))) (tt := tYes) (te := tOp (rI0 fun i j => .int (i + j)) (tVar 4) (tVar 5)) rfl sc_add.nd ?p1 ?p2 ?p3 ?p4 ?p5
          case p1 => exact pi_zipn (by rfl) T.zip (pa_cons (pv 2) (pa_cons (pv 3) pa_nil))
          case p2 => exact blkOk_by (N := N_add) (by rfl)
          case p3 => exact (fun _ _ _ _ _ => pg_tup rfl (pgs_cons (pg_name (i := 4) sc_add.nd rfl (Or.inl rfl) (Or.inr rfl)) (pgs_cons (pg_name (i := 5) sc_add.nd rfl (Or.inl rfl) (Or.inr rfl)) pgs_nil)))
          case p4 => exact (fun _ _ _ _ _ => pts_nil)
          case p5 => exact (fun _ _ _ _ _ => pe_op op_add (pv 4) (pv 5)))) pa_nil))))), ?_⟩
    have h1 := hv.h1
    have h3 := hv.h3
    have sM := hv.bd
    have sN := ho.bd
    refine ⟨_, rfl, o, N, rfl, ho.tab, ?_⟩
    refine ⟨_, rfl, _, rfl, v, o, M, N, rfl, hv.tab, ho.tab, by rw [sM.len, sN.len], ?_⟩
    obtain ⟨p, dx, r, rfl, hp, hM⟩ := id hv.tab
    obtain ⟨p2, dx2, r2, rfl, hp2, hN⟩ := id ho.tab
    refine r_nret (mkF (tlc_call ?_))
    refine ⟨_, rfl, p, C, dx, _, _, rfl, hp, Fc.cl, Fc.nR, fldsT_rows _, _, rfl, p2, dx2, _, rfl, hp2, _, N, rfl, ho.tab, fun r3 m3 => ?_⟩
    obtain ⟨a, vx, rfl, ha, hR⟩ := id hM
    obtain ⟨a2, vy, rfl, ha2, hS⟩ := id m3
    have lx : vx.length = n := by rw [hR.len]; exact sM.len
    have ly : vy.length = n := by rw [hS.len]; exact sN.len
    have qx : ∀ H', Same H H' → SqV K H' true a vx := fun H' s => .inl (.inl (s _ _ ha))
    have qy : ∀ H', Same H H' → SqV K H' true a2 vy := fun H' s => .inl (.inl (s _ _ ha2))
    have sq : ∀ H', Same H H' → AllSq K H' [(true, a), (true, a2)] := fun H' s z hz => by
      rcases List.mem_cons.mp hz with rfl | hz
      · exact ⟨_, qx H' s⟩
      · rcases List.mem_cons.mp hz with rfl | hz
        · exact ⟨_, qy H' s⟩
        · cases hz
    refine ⟨[(true, a), (true, a2)], rfl, Nat.zero_lt_succ _, (by show 2 ≤ 3; decide), sq H (Same.refl H), ?_⟩
    refine lc_fresh (p := none) n (fun i => .lst (((addM M N).getD i []).map V.int)) has_none (by omega) (fun i H2 hi s2 => ?_) (fun H2 s2 => ?_) (fun i x H2 H3 C' hi s2 _ hy hC => ?_) fun Da H2 rs nD s2 hD hrl hE => ?_
    · exact ⟨[vx[i]'(by omega), vy[i]'(by omega)], row2 (qx H2 s2.same) (List.getElem?_eq_getElem _) (qy H2 s2.same) (List.getElem?_eq_getElem _)⟩
    · exact ⟨sq H2 s2.same, (true, a), List.mem_cons_self, _, qx H2 s2.same, by omega⟩
    · have i1 : i < vx.length := by omega
      have i2 : i < vy.length := by omega
      obtain ⟨T2, zs, rfl, nT, rfl, hu⟩ := hy
      have ez : zs = [vx[i], vy[i]] := (hu _ (row2 (qx H2 s2.same) (List.getElem?_eq_getElem i1) (qy H2 s2.same) (List.getElem?_eq_getElem i2))).symm
      subst ez
      obtain ⟨rm, em, c, ec, hc⟩ := hR.get (List.getElem?_eq_getElem i1)
      obtain ⟨rn, en, c2, ec2, hc2⟩ := hS.get (List.getElem?_eq_getElem i2)
      have lm := sM.row rm (List.mem_of_getElem? em)
      have ln := sN.row rn (List.mem_of_getElem? en)
      have sT : Same H2 (upd H2 T2 (.tup [vx[i], vy[i]])) := same_new nT
      refine ⟨T2, _, rfl, .inl (.inl upd_same), rfl, _, _, rfl, _, _, rfl, rfl, rfl, ?_⟩
      rw [ec, ec2] at sT ⊢
      generalize upd H2 T2 (.tup [V.ref c, V.ref c2]) = H4 at sT
      have S4 := s2.same.trans sT
      have q1 : ∀ H', Same H4 H' → SqV K H' true c (rm.map V.int) := fun H' s => .inl (.inl (s _ _ (S4 _ _ hc)))
      have q2 : ∀ H', Same H4 H' → SqV K H' true c2 (rn.map V.int) := fun H' s => .inl (.inl (s _ _ (S4 _ _ hc2)))
      have sq2 : ∀ H', Same H4 H' → AllSq K H' [(true, c), (true, c2)] := fun H' s z hz => by
        rcases List.mem_cons.mp hz with rfl | hz
        · exact ⟨_, q1 H' s⟩
        · rcases List.mem_cons.mp hz with rfl | hz
          · exact ⟨_, q2 H' s⟩
          · cases hz
      refine tlc_of (Itn K [(true, c), (true, c2)]) (H1 := H4) (fun R hR' => ⟨_, rfl, _, rfl, [(true, c), (true, c2)], rfl, Nat.zero_lt_succ _, (by show 2 ≤ 3; decide), sq2 H4 (Same.refl H4), hR'⟩) ?_
      refine lc_el (p := none) n (fun l v => ∃ x y, rm[l]? = some x ∧ rn[l]? = some y ∧ v = .int (x + y)) has_none (by omega) (fun l H7 hl s7 => ?_) (fun H7 s7 => ?_) (fun l x H7 H8 C3 hl s7 _ hy3 hC3 => ?_) fun Dd H7 ys nDd s7 hDd hzl hzE => ?_
      · exact ⟨[.int (rm[l]'(by omega)), .int (rn[l]'(by omega))], row2 (q1 H7 s7.same) (by simp [(by omega : l < rm.length)]) (q2 H7 s7.same) (by simp [(by omega : l < rn.length)])⟩
      · exact ⟨sq2 H7 s7.same, (true, c), List.mem_cons_self, _, q1 H7 s7.same, by simp; omega⟩
      · have l1 : l < rm.length := by omega
        have l2 : l < rn.length := by omega
        obtain ⟨T3, ws, rfl, nT3, rfl, hu3⟩ := hy3
        have ez3 : ws = [.int rm[l], .int rn[l]] := (hu3 _ (row2 (q1 H7 s7.same) (by simp [l1]) (q2 H7 s7.same) (by simp [l2]))).symm
        subst ez3
        refine ⟨T3, _, rfl, .inl (.inl upd_same), rfl, _, _, rfl, _, _, rfl, rfl, rfl, ?_⟩
        exact ⟨_, rfl, _, rfl, _, _, rfl, rfl, hC3 _ _ (RX.new nT3) ⟨_, _, List.getElem?_eq_getElem l1, List.getElem?_eq_getElem l2, rfl⟩⟩
      · refine hC Dd _ ((RX.of sT).trans s7) (Same.free sT nDd) ?_
        have ey : ys = (rm.zip rn).map fun (p : Int × Int) => V.int (p.1 + p.2) := map_of_get (n := 0) _ (by simp [hzl, lm, ln]) fun i v e => by
          obtain ⟨x, y, e1, e2, e3⟩ := hzE i v e
          exact ⟨(x, y), by rw [List.getElem?_zip_eq_some]; exact ⟨e1, e2⟩, e3⟩
        rw [hDd, ey, getD_of (add_get em en), List.map_map]
        rfl
    · have bA := sM.add sN
      have hpy : PyV H2 (.ref Da) (lmD (addM M N)) := py_lm hD (by rw [hrl, bA.len]) hE
      exact MkF.of (.inl hpy) (grid_lm _) h1 h3 (add_sy h1 h3 sM.sh sN.sh hv.eq ho.eq) bA (by omega) fun c H4 s4 ht => q c H4 (s2.same.trans s4) ht
end
structure AddP (P : Program) (w : World) (K : PySem.W.Frag) (mg : Str → Option Value) (base : Heap) (C : Addr) : Prop where
  ex : ∃ (g : Addr) (gd : FuncData) (cd : ClassData) (rest : List Value), W.clsIn K C = some cd ∧ cd.mro = Value.ref C :: rest ∧ W.findIn K (.ref C) (dunder "add") = some (some (.ref g)) ∧ W.isFn K (.ref g) = true ∧
    FnOk P w K mg base CX0 10 g gd ["self", "other"] (sp_addF C) ∧ Binds K gd ["self", "other"] []
abbrev rAddF (C : Addr) : R2 := rOwnB C (fun vs H Q E => sp_addF C (vs ++ []) H Q E) E0
theorem pe_addF {X : Cx} {C : Addr} {j : Nat} {a b : Expr} {ta tb : TE} {pos : Pos} (D : AddP X.prog X.w X.K X.mg X.base C) (room : Room j X.A) (ha : PE X a ta) (hb : PE X b tb) (hkj : 10 ≤ j := by decide) :
    PE X (.BinOp a .Add b pos) (tOp (rAddF C) ta tb) := by
  obtain ⟨g, gd, cd, rest, h1, h2, h3, h4, G, bi⟩ := D.ex
  exact pe_op (op_addOwn h1 h2 h3 h4 (G.raw bi .nil) (room.mono hkj) pass0) ha hb
theorem o_addF {C : Addr} {H : Hp} {Q : VK} {n b : Nat} {M N : List (List Int)} {x y : V} (hx : Fv C H x n b M) (hy : Fv C H y n b N) (q : ∀ d H', Same H H' → Fv C H' (.ref d) n (b + 1) (addM M N) → Q (.ref d) H') (h : b ≤ 2000 := by decide) : rAddF C x y H Q := by
  obtain ⟨a, dx, r, rfl, ha, hm⟩ := id hx.tab
  obtain ⟨a2, dx2, r2, rfl, ha2, hm2⟩ := id hy.tab
  exact ⟨a, dx, _, a2, dx2, _, rfl, rfl, ha, ha2, .ref a, .ref a2, M, N, n, b, rfl, hx, hy, h, fun d H' s f => ⟨⟨d, rfl⟩, q d H' s f⟩⟩
end T29
set_option Elab.async false
set_option linter.all false
set_option maxRecDepth 100000
set_option maxHeartbeats 4000000
namespace T29
open PySem PySem.Spec PyProof.Rows L2 Gd Zn Rp Dn Tb Gn En Zs Ct Op Oc Rg Rt Ro Oa
theorem lm_of {H : Hp} {a : Addr} {bs : List Addr} {M : List (List Int)} (e : H a = some (.lst (bs.map V.ref))) (l : bs.length = M.length) (h : ∀ (i : Nat) (b : Addr), bs[i]? = some b → H b = some (.lst ((M.getD i []).map V.int))) : PyV H (.ref a) (lmD M) :=
  py_lm e (by rw [List.length_map, l]) fun i v ev => by
    rw [List.getElem?_map] at ev
    cases hb : bs[i]? with
    | none => rw [hb] at ev; cases ev
    | some b => rw [hb] at ev; cases ev; exact ⟨b, rfl, h i b hb⟩
theorem getD_row {n : Nat} {M : List (List Int)} (h : Sh n M) {i : Nat} (hi : i < n) : (M.getD i []).length = n := h.row _ (getD_mem (by rw [h.len]; exact hi))
theorem ixL {xs : List Int} {j : Nat} (h : j < xs.length) : atI (xs.map V.int) (j : Int) = some (.int (xs.getD j 0)) := atI_nat (by
  rw [List.getElem?_map, List.getElem?_eq_getElem h, List.getD_eq_getElem?_getD, List.getElem?_eq_getElem h]
  rfl)
theorem ixR {bs : List Addr} {j : Nat} {b : Addr} (h : bs[j]? = some b) : atI (bs.map V.ref) (j : Int) = some (.ref b) := atI_nat (by rw [List.getElem?_map, h]; rfl)
theorem rb_get {k : Nat} {xs : List Int} (h : Rb k xs) {j : Nat} (hj : j < xs.length) : (xs.getD j 0).natAbs < 2 ^ k := by
  rw [List.getD_eq_getElem?_getD, List.getElem?_eq_getElem hj]
  exact h _ (List.getElem_mem hj)
end T29
set_option Elab.async false
set_option linter.all false
set_option maxRecDepth 100000
set_option maxHeartbeats 4000000
namespace T29
open PySem PySem.Spec PyProof.Rows L2 Gd Zn Rp Dn Tb Gn En Zs Ct Op Oc Rg Rt Ro Oa
theorem rx_none {p : Option Addr} {H H' : Hp} {q : Addr} (s : RX p H H') (hp : Has p H) (n : H' q = none) : H q = none := by
  cases e : H q with
  | none => rfl
  | some o =>
    by_cases z : p = some q
    · obtain ⟨x, y, e1, _⟩ := s.pot q z (hp q z)
      rw [n] at e1
      cases e1
    · have := s.keep q o z e
      rw [n] at this
      cases this
/-- new objects, one for each turn -/
theorem lc_new {p : Option Addr} {J : It} {g : TG} {te : TE} {vs : List Nat} {σ : L2.St} {H1 : Hp} {Q : VK} (n : Nat) (Ok : Nat → HO → Prop) (hp : Has p H1) (hn : n ≤ 1000)
    (hgo : ∀ i H, i < n → RX p H1 H → J.go i H) (hst : ∀ H, RX p H1 H → J.stop n H)
    (hs : ∀ i x H H' (C : VK), i < n → RX p H1 H → Has p H → J.yld i H x H' → (∀ q H4 o, RX p H H4 → H q = none → H4 q = some o → Ok i o → C (.ref q) H4) → g x (wipe σ vs) H' fun σ2 H2 => wipe σ2 vs = wipe σ vs ∧ te σ2 H2 C)
    (hd : ∀ D H (bs : List Addr), H1 D = none → RX p H1 H → H D = some (.lst (bs.map V.ref)) → bs.length = n → bs.Nodup → D ∉ bs → (∀ b ∈ bs, H1 b = none) → (∀ i b, bs[i]? = some b → ∃ o, H b = some o ∧ Ok i o) → Q (.ref D) H) : LcB g tYes te vs σ Q J H1 := by
  intro D nD
  have nP : p ≠ some D := hp.ne nD
  refine ⟨fun i m H => i ≤ n ∧ m = n - i ∧ RX p H1 H ∧ ∃ bs : List Addr, H D = some (.lst (bs.map V.ref)) ∧ bs.length = i ∧ bs.Nodup ∧ D ∉ bs ∧ (∀ b ∈ bs, H1 b = none) ∧ (∀ j b, bs[j]? = some b → ∃ o, H b = some o ∧ Ok j o),
    ⟨n, Nat.zero_le _, rfl, RX.new nD, [], upd_same, rfl, .nil, by simp, by simp, fun j v e => by simp at e⟩, ?_⟩
  rintro i m H ⟨hi, rfl, s1, bs, hD, hl, nd, nDb, fr, hE⟩
  by_cases hlt : i < n
  · refine .inr ⟨hgo i H hlt s1, fun H' => i + 1 ≤ n ∧ RX p H1 H' ∧ ∃ bs : List Addr, H' D = some (.lst (bs.map V.ref)) ∧ bs.length = i + 1 ∧ bs.Nodup ∧ D ∉ bs ∧ (∀ b ∈ bs, H1 b = none) ∧ (∀ j b, bs[j]? = some b → ∃ o, H' b = some o ∧ Ok j o), fun H' h => ⟨n - (i + 1), by omega, h.1, rfl, h.2⟩, fun x H' hy => ?_⟩
    have hpH := hp.to s1
    refine hs i x H H' _ hlt s1 hpH hy fun q H4 o s4 nq e4 ok => ?_
    have hD4 := s4.keep D _ nP hD
    have qD : q ≠ D := (ne_of_none hD nq).symm
    have nq1 : H1 q = none := rx_none s1 hp nq
    have qb : q ∉ bs := fun z => by
      obtain ⟨j, hj, ej⟩ := List.getElem_of_mem z
      obtain ⟨o', e', _⟩ := hE j q (by rw [List.getElem?_eq_getElem hj, ej])
      rw [nq] at e'
      cases e'
    refine ⟨bs.map V.ref, hD4, by rw [List.length_map]; exact Nat.lt_of_lt_of_le (by omega : bs.length < 1001) (by decide), hlt, (s1.trans s4).mut nD hp, bs ++ [q], by rw [upd_same, List.map_append]; rfl, by simp [hl], ?_, ?_, ?_, fun j b e => ?_⟩
    · rw [List.nodup_append]
      exact ⟨nd, by simp, fun a ha b hb => by rw [List.mem_singleton.mp hb]; exact fun z => qb (z ▸ ha)⟩
    · rw [List.mem_append, List.mem_singleton]
      rintro (z | z)
      · exact nDb z
      · exact qD z.symm
    · intro b hb
      rcases List.mem_append.mp hb with hb | hb
      · exact fr b hb
      · rw [List.mem_singleton.mp hb]; exact nq1
    · by_cases hj : j < bs.length
      · rw [List.getElem?_append_left hj] at e
        obtain ⟨o', e1, e2⟩ := hE j b e
        have hb : b ∈ bs := List.mem_of_getElem? e
        have bD : b ≠ D := fun z => nDb (z ▸ hb)
        have bp : p ≠ some b := fun z => by
          have := fr b hb
          obtain ⟨x, y, e9, _⟩ := hp b z
          rw [this] at e9
          cases e9
        exact ⟨o', by rw [upd_ne bD]; exact s4.keep b _ bp e1, e2⟩
      · rw [List.getElem?_append_right (by omega)] at e
        have z : j - bs.length = 0 := by
          by_cases w : j - bs.length = 0
          · exact w
          · rw [List.getElem?_eq_none (by simp; omega)] at e; cases e
        rw [z] at e
        cases e
        have : j = i := by omega
        subst this
        exact ⟨o, by rw [upd_ne qD]; exact e4, ok⟩
  · have e : i = n := by omega
    subst e
    exact .inl ⟨hst H s1, hd D H bs nD s1 hD hl nd nDb fr hE⟩
def ent (M : List (List Int)) (i j : Nat) : Int := (M.getD i []).getD j 0
def setIJ (M : List (List Int)) (i j : Nat) (x : Int) : List (List Int) := M.set i ((M.getD i []).set j x)
theorem ent_set {n : Nat} {M : List (List Int)} (h : Sh n M) {i j : Nat} (hi : i < n) (hj : j < n) (x : Int) (k l : Nat) : ent (setIJ M i j x) k l = if k = i ∧ l = j then x else ent M k l := by
  have hi' : i < M.length := by rw [h.len]; exact hi
  have hr : (M.getD i []).length = n := getD_row h hi
  unfold ent setIJ
  by_cases e : k = i
  · subst e
    have z : (M.set k ((M.getD k []).set j x)).getD k [] = (M.getD k []).set j x := by
      rw [List.getD_eq_getElem?_getD, List.getElem?_set_self hi']
      rfl
    rw [z]
    by_cases e2 : l = j
    · subst e2
      rw [if_pos ⟨rfl, rfl⟩, List.getD_eq_getElem?_getD, List.getElem?_set_self (by rw [hr]; exact hj)]
      rfl
    · rw [if_neg (fun q => e2 q.2), List.getD_eq_getElem?_getD, List.getElem?_set_ne (fun q => e2 q.symm), ← List.getD_eq_getElem?_getD]
  · rw [if_neg (fun q => e q.1)]
    have z : (M.set i ((M.getD i []).set j x)).getD k [] = M.getD k [] := by
      rw [List.getD_eq_getElem?_getD, List.getElem?_set_ne (fun q => e q.symm), ← List.getD_eq_getElem?_getD]
    rw [z]
theorem SqB.setIJ {n : Nat} {B : Int} {M : List (List Int)} (h : SqB n B M) {i j : Nat} (hi : i < n) {x : Int} (hx : -B ≤ x ∧ x ≤ B) : SqB n B (setIJ M i j x) := by
  have hm := getD_mem (M := M) (i := i) (by rw [h.len]; exact hi)
  refine h.set i (by rw [List.length_set]; exact h.row _ hm) fun y hy => ?_
  rcases List.mem_or_eq_of_mem_set hy with hy | rfl
  · exact h.bd _ hm y hy
  · exact hx
def Sym (n : Nat) (M : List (List Int)) : Prop := ∀ i j, i < n → j < n → ent M i j = ent M j i
theorem Sym.tr {n : Nat} {M : List (List Int)} (h : Sym n M) (s : Sh n M) (h1 : 1 ≤ n) (h3 : n ≤ 3) : transp n M = M := by
  have : n = 1 ∨ n = 2 ∨ n = 3 := by omega
  rcases this with rfl | rfl | rfl
  · obtain ⟨a, rfl⟩ := sh1 s rfl
    rfl
  · obtain ⟨a, b, c, d, rfl⟩ := sh2 s rfl
    have e : b = c := h 0 1 (by decide) (by decide)
    subst e
    rfl
  · obtain ⟨a, b, c, d, e, f, g, h', i, rfl⟩ := sh3 s rfl
    have e1 : b = d := h 0 1 (by decide) (by decide)
    have e2 : c = g := h 0 2 (by decide) (by decide)
    have e3 : f = h' := h 1 2 (by decide) (by decide)
    subst e1 e2 e3
    rfl
theorem nodup_inj {α : Type} : ∀ {bs : List α} {i j : Nat} {c : α}, bs.Nodup → bs[i]? = some c → bs[j]? = some c → i = j
  | [], i, _, _, _, e, _ => by simp at e
  | b :: bs, 0, 0, _, _, _, _ => rfl
  | b :: bs, 0, j + 1, c, nd, e, e' => by
    cases e
    exact absurd (List.mem_of_getElem? (show bs[j]? = some b from e')) (List.nodup_cons.mp nd).1
  | b :: bs, i + 1, 0, c, nd, e, e' => by
    cases e'
    exact absurd (List.mem_of_getElem? (show bs[i]? = some b from e)) (List.nodup_cons.mp nd).1
  | b :: bs, i + 1, j + 1, c, nd, e, e' => congrArg (· + 1) (nodup_inj (List.nodup_cons.mp nd).2 (show bs[i]? = some c from e) (show bs[j]? = some c from e'))
structure LL (H : Hp) (a : Addr) (bs : List Addr) (M : List (List Int)) : Prop where
  top : H a = some (.lst (bs.map V.ref))
  len : bs.length = M.length
  row : ∀ (i : Nat) (b : Addr), bs[i]? = some b → H b = some (.lst ((M.getD i []).map V.int))
  nd : bs.Nodup
  ne : a ∉ bs
theorem LL.rx {p : Addr} {H H' : Hp} {a : Addr} {bs : List Addr} {M : List (List Int)} (h : LL H a bs M) (s : RX (some p) H H') (hp : p ∉ a :: bs) : LL H' a bs M := by
  rw [List.mem_cons, not_or] at hp
  refine ⟨s.keep a _ (fun z => hp.1 (by cases z; rfl)) h.top, h.len, fun i b e => s.keep b _ (fun z => hp.2 (by cases z; exact List.mem_of_getElem? e)) (h.row i b e), h.nd, h.ne⟩
theorem LL.put {H : Hp} {a : Addr} {bs : List Addr} {M : List (List Int)} (h : LL H a bs M) {i j : Nat} {b : Addr} (eb : bs[i]? = some b) (x : Int) :
    LL (upd H b (.lst (((M.getD i []).map V.int).set j (.int x)))) a bs (setIJ M i j x) := by
  have hb := List.mem_of_getElem? eb
  have hi : i < bs.length := (List.getElem?_eq_some_iff.mp eb).1
  have nab : a ≠ b := fun z => h.ne (by rw [z]; exact hb)
  refine ⟨by rw [upd_ne nab]; exact h.top, by unfold setIJ; rw [List.length_set]; exact h.len, fun k c ec => ?_, h.nd, h.ne⟩
  by_cases e : k = i
  · subst e
    rw [eb] at ec
    cases ec
    rw [upd_same]
    unfold setIJ
    rw [List.getD_eq_getElem?_getD (l := M.set _ _), List.getElem?_set_self (by rw [← h.len]; exact hi)]
    show some (HO.lst _) = some (HO.lst (List.map V.int ((M.getD k []).set j x)))
    rw [List.map_set]
  · have nc : c ≠ b := fun z => by
      subst z
      exact e (nodup_inj h.nd ec eb)
    rw [upd_ne nc, h.row k c ec]
    unfold setIJ
    rw [List.getD_eq_getElem?_getD (l := M.set _ _), List.getElem?_set_ne (fun z => e z.symm), ← List.getD_eq_getElem?_getD]
theorem LL.py {p : Addr} {H : Hp} {a : Addr} {bs : List Addr} {M : List (List Int)} (h : LL H a bs M) (hp : p ∉ a :: bs) : PyV (hid (some p) H) (.ref a) (lmD M) := by
  rw [List.mem_cons, not_or] at hp
  refine lm_of (by rw [hid_at (fun z => hp.1 (by cases z; rfl))]; exact h.top) h.len fun i b e => ?_
  rw [hid_at (fun z => hp.2 (by cases z; exact List.mem_of_getElem? e))]
  exact h.row i b e
theorem py_rx {p : Option Addr} {H H' : Hp} {v : V} {d : PyData} (h : PyV (hid p H) v d) (s : RX p H H') : PyV (hid p H') v d := PyV.mono s.hid h
theorem py_un {p : Option Addr} {H : Hp} {v : V} {d : PyData} (h : PyV (hid p H) v d) : PyV H v d := PyV.mono hid_le h
def zeroM (n : Nat) : List (List Int) := List.replicate n (List.replicate n 0)
theorem zero_sqB (n : Nat) (B : Int) (h : 0 ≤ B) : SqB n B (zeroM n) := ⟨by simp [zeroM], fun r hr => by
  unfold zeroM at hr
  rw [(List.mem_replicate.mp hr).2]
  simp, fun r hr x hx => by
  unfold zeroM at hr
  rw [(List.mem_replicate.mp hr).2] at hx
  rw [(List.mem_replicate.mp hx).2]
  omega⟩
theorem zero_getD {n i : Nat} (h : i < n) : (zeroM n).getD i [] = List.replicate n 0 := by
  unfold zeroM
  rw [List.getD_eq_getElem?_getD, List.getElem?_replicate, if_pos h]
  rfl
theorem zero_sym (n : Nat) : Sym n (zeroM n) := fun i j hi hj => by
  unfold ent
  rw [zero_getD hi, zero_getD hj, List.getD_eq_getElem?_getD, List.getD_eq_getElem?_getD, List.getElem?_replicate, List.getElem?_replicate, if_pos hj, if_pos hi]
theorem Sym.put {n : Nat} {M : List (List Int)} (h : Sym n M) (s : Sh n M) {i j : Nat} (hi : i < n) (hj : j < n) (x : Int) : Sym n (setIJ (setIJ M i j x) j i x) := fun k l hk hl => by
  have s2 : Sh n (setIJ M i j x) := by
    refine ⟨by unfold setIJ; rw [List.length_set, s.len], fun r hr => ?_⟩
    unfold setIJ at hr
    rcases List.mem_or_eq_of_mem_set hr with hr | rfl
    · exact s.row r hr
    · rw [List.length_set]; exact getD_row s hi
  rw [ent_set s2 hj hi, ent_set s2 hj hi, ent_set s hi hj, ent_set s hi hj]
  have := h k l hk hl
  by_cases a : k = j <;> by_cases b : l = i <;> by_cases c : k = i <;> by_cases d : l = j <;> simp [a, b, c, d] <;> grind
theorem n_asg {te : TE} {g : TG} {D : Ends} {rt : VK} {bk ct : L2.St → Hp → Prop} {σ : L2.St} {H : Hp} (h : te σ H fun x H1 => g x σ H1 D.nx) : Ends.nx ⟨tAsg te g D, rt, bk, ct⟩ σ H := h
theorem rep_flat (m : Nat) (x : V) : (List.replicate m [x]).flatten = List.replicate m x := by
  induction m with
  | zero => rfl
  | succ m ih => rw [List.replicate_succ, List.replicate_succ, List.flatten_cons, ih]; rfl
section
variable {P : Program} {w : World} {K : PySem.W.Frag} {mg : Str → Option Value} {base : Heap} {C : Addr}
def sp_lrow : Sp := fun vs H Q _ => ∃ (p : Addr) (n m : Nat), vs = [.ref p, .int n, .int m] ∧ PotOk H p ∧ n ≤ 3 ∧ m ≤ 400 ∧ ∀ D H' (xs : List Int), RX (some p) H H' → H D = none → H' D = some (.lst (xs.map V.int)) → xs.length = n → (∀ x ∈ xs, -(m : Int) ≤ x ∧ x ≤ m) → Q (.ref D) H'
abbrev N_lrow : List Str := ["_law_pot_here", "_law_size", "_law_most", "_law_place"]
def sp_lrows : Sp := fun vs H Q _ => ∃ (p : Addr) (n m : Nat), vs = [.ref p, .int n, .int m] ∧ PotOk H p ∧ 1 ≤ n ∧ n ≤ 3 ∧ m ≤ 400 ∧ ∀ D H' M, RX (some p) H H' → PyV (hid (some p) H') (.ref D) (lmD M) → SqB n m M → transp n M = M → Q (.ref D) H'
end
end T29
set_option Elab.async false
set_option linter.all false
set_option maxRecDepth 100000
set_option maxHeartbeats 4000000
namespace T29
open PySem PySem.Spec PyProof.Rows L2 Gd Zn Rp Dn Tb Gn En Zs Ct Op Oc Rg Rt Ro Oa
theorem lt_cases {n i : Nat} (h3 : n ≤ 3) (hi : i < n) : (n = 1 ∧ i = 0) ∨ (n = 2 ∧ (i = 0 ∨ i = 1)) ∨ (n = 3 ∧ (i = 0 ∨ i = 1 ∨ i = 2)) := by omega
theorem ld_row {n i : Nat} {G P : List (List Int)} (h3 : n ≤ 3) (hG : Sh n G) (hP : Sh n P) (hi : i < n) : (ldM n G P).getD i [] = (List.range n).map fun j => btwM G (colsM n P i) (colsM n P j) := by
  unfold ldM
  rcases lt_cases h3 hi with ⟨rfl, rfl⟩ | ⟨rfl, h⟩ | ⟨rfl, h⟩
  · obtain ⟨a, rfl⟩ := sh1 hG rfl
    obtain ⟨b, rfl⟩ := sh1 hP rfl
    rw [trE1, mulE1, mulE1]
    simp [btwM, colsM, ledM, dot, List.range_succ]
    grind
  · obtain ⟨a, b, c, d, rfl⟩ := sh2 hG rfl
    obtain ⟨p, q, r, s, rfl⟩ := sh2 hP rfl
    rw [trE2, mulE2, mulE2]
    rcases h with rfl | rfl
    · simp [btwM, colsM, ledM, dot, List.range_succ]
      constructor <;> grind
    · simp [btwM, colsM, ledM, dot, List.range_succ]
      constructor <;> grind
  · obtain ⟨a, b, c, d, e, f, g, h', i, rfl⟩ := sh3 hG rfl
    obtain ⟨p, q, r, s, t, u, v, w, x, rfl⟩ := sh3 hP rfl
    rw [trE3, mulE3, mulE3]
    rcases h with rfl | rfl | rfl
    · simp [btwM, colsM, ledM, dot, List.range_succ]
      refine ⟨?_, ?_, ?_⟩ <;> grind
    · simp [btwM, colsM, ledM, dot, List.range_succ]
      refine ⟨?_, ?_, ?_⟩ <;> grind
    · simp [btwM, colsM, ledM, dot, List.range_succ]
      refine ⟨?_, ?_, ?_⟩ <;> grind
end T29
set_option Elab.async false
set_option linter.all false
set_option maxRecDepth 100000
set_option maxHeartbeats 4000000
namespace T29
open PySem PySem.Spec PyProof.Rows L2 Gd Zn Rp Dn Tb Gn En Zs Ct Op Oc Rg Rt Ro Oa
theorem n_if {c : TT} {t u : TS} {D : Ends} {rt : VK} {bk ct : L2.St → Hp → Prop} {σ : L2.St} {H : Hp} (h : c σ H fun b H1 => if b = true then t D σ H1 else u D σ H1) : Ends.nx ⟨tIfS c t u D, rt, bk, ct⟩ σ H := h
theorem SqB.add2 {n : Nat} {B : Int} {M : List (List Int)} (h : SqB n B M) {i j : Nat} {c : Int} (hi : i < n) (hj : j < n) (hB : 0 ≤ B) (hc : -2 ≤ c ∧ c ≤ 2) : SqB n (3 * B) (stepA M i j c) := by
  have hri := getD_mem (M := M) (i := i) (by rw [h.len]; exact hi)
  have hrj := getD_mem (M := M) (i := j) (by rw [h.len]; exact hj)
  unfold stepA
  refine (h.mono (by omega)).set i ?_ fun x hx => ?_
  · unfold addR
    rw [List.length_map, List.length_zip, h.row _ hri, h.row _ hrj]
    omega
  · unfold addR at hx
    obtain ⟨⟨a, b⟩, hab, rfl⟩ := List.mem_map.mp hx
    have k := List.of_mem_zip hab
    have ba := h.bd _ hri a k.1
    have bb := h.bd _ hrj b k.2
    have cb : -(2 * B) ≤ c * b ∧ c * b ≤ 2 * B := by
      have : c = -2 ∨ c = -1 ∨ c = 0 ∨ c = 1 ∨ c = 2 := by omega
      rcases this with rfl | rfl | rfl | rfl | rfl <;> omega
    show -(3 * B) ≤ a + c * b ∧ a + c * b ≤ 3 * B
    omega
section
variable {P : Program} {w : World} {K : PySem.W.Frag} {mg : Str → Option Value} {base : Heap} {C : Addr}
def sp_ltab : Sp := fun vs H Q _ => ∃ (p : Addr) (n : Nat), vs = [.ref p, .int n] ∧ PotOk H p ∧ 1 ≤ n ∧ n ≤ 3 ∧ ∀ D H' M, RX (some p) H H' → PyV (hid (some p) H') (.ref D) (lmD M) → SqB n 27 M → (detM n M = 1 ∨ detM n M = -1) → Q (.ref D) H'
end
end T29
set_option Elab.async false
set_option linter.all false
set_option maxRecDepth 100000
set_option maxHeartbeats 4000000
namespace T29
open PySem PySem.Spec PyProof.Rows L2 Gd Zn Rp Dn Tb Gn En Zs Ct Op Oc Rg Rt Ro Oa
theorem r_meth2 {C : Addr} {m : Str} {sp : Sp} {E : XK} {ta tb tc : TE} {σ : L2.St} {H : Hp} {Q : VK} (h : ta σ H fun x H1 => ∃ a dx fs, x = .ref a ∧ H1 a = some (.ins C dx fs) ∧ fs.lookup m = none ∧ tb σ H1 fun y H2 => tc σ H2 fun z H3 => sp [x, y, z] H3 Q E) : tMeth C m sp [] E ta (tCons tb (tCons tc tNil)) σ H Q := h
theorem mth {C : Addr} {H : Hp} {M : List (List Int)} {x : V} {m : Str} {R : Prop} (hx : Tab C H x M) (k : R) (e : ¬ m = ("_rows" : Str) := by decide +kernel) : ∃ a dx fs, x = .ref a ∧ H a = some (.ins C dx fs) ∧ fs.lookup m = none ∧ R := by
  obtain ⟨a, dx, r, rfl, ha, hm⟩ := id hx
  exact ⟨a, dx, _, rfl, ha, noU e, k⟩
theorem c_btw {F : Addr} {E : XK} {H : Hp} {n b k : Nat} {M : List (List Int)} {x y z : V} {xs ys : List Int} {Q : VK} (hx : Fv F H x n b M) (hy : SeqV H y (iD xs)) (hz : SeqV H z (iD ys)) (l : xs.length = n) (l' : ys.length = n) (hb : Rb k xs) (hb' : Rb k ys)
    (q : ∀ H', Same H H' → Q (.int (btwM M xs ys)) H') (lb : b ≤ 5000 ∧ k ≤ 5000 := by decide) : sp_btw F [x, y, z] H Q E := by
  have h3 := hx.h3
  exact ⟨x, y, z, M, xs, ys, n, rfl, hx.tab, hy, hz, hx.bd.sq (by omega), hx.h1, h3, l, l', hb.small (by omega), hb'.small (by omega), (led_rb hx.bd hb' l' h3).small (by omega), q⟩
theorem c_worth {F : Addr} {E : XK} {H : Hp} {n b k : Nat} {M : List (List Int)} {x y : V} {xs : List Int} {Q : VK} (hx : Fv F H x n b M) (hy : SeqV H y (iD xs)) (l : xs.length = n) (hb : Rb k xs)
    (q : ∀ H', Same H H' → Q (.int (btwM M xs xs)) H') (lb : b ≤ 5000 ∧ k ≤ 5000 := by decide) : sp_worth F [x, y] H Q E := by
  have h3 := hx.h3
  exact ⟨x, y, M, xs, n, rfl, hx.tab, hy, hx.bd.sq (by omega), hx.h1, h3, l, hb.small (by omega), (led_rb hx.bd hb l h3).small (by omega), q⟩
theorem shaped_intsL (r : List Int) : SeqAt.shaped (.list (r.map PyData.int)) = true := by
  unfold SeqAt.shaped
  rw [PyData.canLay0, lay_row, PyData.depth, depth_row]
  rfl
theorem dp_listL {K : PySem.W.Frag} {H : Hp} {a : Addr} {xs : List Int} (h : H a = some (.lst (xs.map V.int))) : Dp K H (.ref a) (.list (xs.map PyData.int)) := .lst (.inl (.inl h)) (dp_ints xs)
theorem r_neLi {K : PySem.W.Frag} {H : Hp} {a b : Addr} {xs ys : List Int} {Q : VK} (ha : H a = some (.lst (xs.map V.int))) (hb : H b = some (.lst (ys.map V.int))) (q : Q (.bl (!decide (xs = ys))) H) : rNeD K (.ref a) (.ref b) H Q := by
  refine ⟨.list (xs.map PyData.int), .list (ys.map PyData.int), dp_listL ha, dp_listL hb, shaped_intsL xs, shaped_intsL ys, ?_⟩
  rw [PyData.eqv, eqv_row]
  exact q
theorem ne_noL {xs ys : List Int} (e : xs = ys) : (!decide (xs = ys)) = false := by rw [decide_eq_true e]; rfl
theorem SeqV.rx {p : Option Addr} {H H' : Hp} {v : V} {ds : List PyData} (h : SeqV (hid p H) v ds) (s : RX p H H') : SeqV (hid p H') v ds := h.mono s.hid
theorem rb_of {B : Int} {k : Nat} {xs : List Int} (h : ∀ x ∈ xs, -B ≤ x ∧ x ≤ B) (e : B.toNat < 2 ^ k) : Rb k xs := fun x hx => by
  have := h x hx
  omega
end T29
set_option Elab.async false
set_option linter.all false
set_option maxRecDepth 100000
set_option maxHeartbeats 4000000
namespace T29
open PySem PySem.Spec PyProof.Rows L2 Gd Zn Rp Dn Tb Gn En Zs Ct Op Oc Rg Rt Ro Oa
theorem r_k {v : V} {σ : L2.St} {H : Hp} {Q : VK} (h : Q v H) : tC v σ H Q := h
def leadM (m : Nat) (M : List (List Int)) : List (List Int) := (M.take m).map fun r => r.take m
theorem lead_sh {n m : Nat} {M : List (List Int)} (h : Sh n M) (hm : m ≤ n) : Sh m (leadM m M) := by
  refine ⟨?_, fun r hr => ?_⟩
  · unfold leadM
    rw [List.length_map, List.length_take, h.len]
    omega
  · unfold leadM at hr
    obtain ⟨r', hr', rfl⟩ := List.mem_map.mp hr
    rw [List.length_take, h.row r' (List.mem_of_mem_take hr')]
    omega
theorem lead_sq {n m : Nat} {M : List (List Int)} (h : Sq n M) (hm : m ≤ n) : Sq m (leadM m M) := by
  have s := lead_sh h.sh hm
  refine ⟨s.len, s.row, fun r hr x hx => ?_⟩
  unfold leadM at hr
  obtain ⟨r', hr', rfl⟩ := List.mem_map.mp hr
  exact h.small r' (List.mem_of_mem_take hr') x (List.mem_of_mem_take hx)
def crn (n : Nat) (M : List (List Int)) : List Int := (List.range n).map fun i => detM (i + 1) (leadM (i + 1) M)
def pitM (n a : Nat) (M : List (List Int)) : List Int := ((List.range (a + 1)).map fun k => cofM a (leadM (a + 1) M) a k) ++ List.replicate (n - a - 1) 0
theorem cutV_take {xs : List V} {m : Nat} (h : m ≤ xs.length) : cutV xs none (some (m : Int)) = xs.take m := by
  unfold cutV
  rw [HT.sIx_nat, HT.sIx_none, List.drop_zero, Nat.min_eq_left h, Nat.sub_zero]
section
variable {P : Program} {w : World} {K : PySem.W.Frag} {mg : Str → Option Value} {base : Heap} {C : Addr}
theorem FnOk_any {CX : CXT} {k : Nat} {f : Addr} {fd : FuncData} {ps : List Str} {sp : Nat → Sp} (F : ∀ n, n ≤ 3 → FnOk P w K mg base CX k f fd ps (sp n)) :
    FnOk P w K mg base CX k f fd ps (fun vs H Q E => ∃ n, n ≤ 3 ∧ sp n vs H Q E) :=
  ⟨fun vs H Q E ⟨n, h3, q⟩ => (F n h3).len vs H Q E q, fun A outer s H args us vs Q E hr he hb hv ⟨n, h3, q⟩ => (F n h3).run A outer s H args us vs Q E hr he hb hv q⟩
def sp_detA : Sp := fun vs H Q E => ∃ n, n ≤ 3 ∧ sp_det n vs H Q E
def sp_cofA : Sp := fun vs H Q E => ∃ n, n ≤ 3 ∧ sp_cof (n - 1) vs H Q E
theorem ok_detA {f g : Addr} {fd gd : FuncData} (F : Fun K "determinant_of" "determinant_of" st_det f fd) (G : Fun K "cofactor" "cofactor" st_cofactor g gd) (T : Txt mg) (D1 : Def P w K mg base "without" 1 ["rows", "at", "place"] sp_without)
    (D : ∀ n, Def P w K mg base "determinant_of" (2 * n + 1) ["rows"] (sp_det n) ∧ Def P w K mg base "cofactor" (2 * n + 2) ["rows", "at", "place"] (sp_cof n)) : FnOk P w K mg base CX0 7 f fd ["rows"] sp_detA := FnOk_any fun n h3 => by
  match n, h3 with
  | 0, _ => exact (ok_det0 F T).mono (by decide)
  | 1, _ => exact (ok_detS 0 (by decide) F T (D 0).2).mono (by decide)
  | 2, _ => exact (ok_det2 F T).mono (by decide)
  | 3, _ => exact (ok_detS 2 (by decide) F T (D 2).2).mono (by decide)
  | n + 4, h => exact absurd h (by omega)
theorem ok_cofA {g : Addr} {gd : FuncData} (G : Fun K "cofactor" "cofactor" st_cofactor g gd) (T : Txt mg) (D1 : Def P w K mg base "without" 1 ["rows", "at", "place"] sp_without)
    (D : ∀ n, Def P w K mg base "determinant_of" (2 * n + 1) ["rows"] (sp_det n)) : FnOk P w K mg base CX0 6 g gd ["rows", "at", "place"] sp_cofA := FnOk_any fun n h3 => by
  match n, h3 with
  | 0, _ => exact (ok_cofactor 0 G T D1 (D 0)).mono (by decide)
  | 1, _ => exact (ok_cofactor 0 G T D1 (D 0)).mono (by decide)
  | 2, _ => exact (ok_cofactor 1 G T D1 (D 1)).mono (by decide)
  | 3, _ => exact (ok_cofactor 2 G T D1 (D 2)).mono (by decide)
  | n + 4, h => exact absurd h (by omega)
abbrev st_leading : Stmt := top 30
def sp_leading : Sp := fun vs H Q _ => ∃ v M, ∃ n m : Nat, vs = [v, .int m] ∧ Mx H v M ∧ Sh n M ∧ n ≤ 3 ∧ m ≤ n ∧ ∀ v' H', Same H H' → Mx H' v' (leadM m M) → Q v' H'
abbrev N_leading : List Str := ["rows", "many", "row"]
theorem sc_leading : FnScope N_leading ["rows", "many"] (defScope st_leading) := ⟨rfl, rfl, rfl, by decide +kernel, rfl, by decide +kernel, by decide +kernel⟩
theorem sl_all {Q : VK} {H : Hp} {a : Addr} {xs : List V} {m : Nat} (h : H a = some (.tup xs)) (hm : m ≤ xs.length) (q : ∀ b H', Same H H' → H' b = some (.tup (xs.take m)) → Q (.ref b) H') : rSlA K (.ref a) none (some (m : Int)) H Q := by
  refine ⟨a, xs, rfl, .inl (.inl h), fun z => ?_, fun z p np => ?_⟩
  · have e : m = xs.length := by
      have := z.2
      rw [HT.sIx_nat] at this
      omega
    refine q a H (Same.refl H) ?_
    rw [e, List.take_length]
    exact h
  · rw [cutV_take hm]
    exact q p _ (same_new np) upd_same
theorem ok_leading {f : Addr} {fd : FuncData} (F : Fun K "leading" "leading" st_leading f fd) (T : Txt mg) : FnOk P w K mg base CX0 1 f fd ["rows", "many"] sp_leading := by
  refine F.ok sc_leading (fun vs H Q E h => ?_) (fun cdv A outer s H vs Q E hr h => ?_)
  · obtain ⟨v, M, n, m, rfl, _⟩ := h
    rfl
  · obtain ⟨v, M, n, m, rfl, ⟨a, vx, rfl, ha, hR⟩, hM, h3, hm, q⟩ := h
    refine ⟨_, pss_one (ps_ret (pe_callTy (r := rTup K) c_tup (by rfl) T.tuple PyProof.Rows.boot_tuple (pa_cons (pe_lc (own := [("row", 2)]) (g := gName 2) (tt := tYes) rfl sc_leading.nd (pi_seq (pe_slice (r := rSlA K) sl_tupA (pv 0) po_none (po_some (pv 1))))
        (blkOk_by (N := N_leading) (sc := defScope st_leading) (by decide +kernel)) (fun _ _ _ _ _ => pg_name (i := 2) sc_leading.nd rfl (Or.inl rfl) (Or.inr rfl)) (fun _ _ _ _ _ => pts_nil)
        (fun _ _ _ _ _ => pe_slice (r := rSlA K) sl_tupA (pv 2) po_none (po_some (pv 1)))) pa_nil))), ?_⟩
    have hvl : vx.length = n := by rw [hR.len, hM.len]
    refine r_ret (r_cb (r_cons (tlc_call ⟨_, rfl, _, rfl, _, rfl, sl_all ha (by omega) fun b H1 s1 hb => ⟨true, b, _, rfl, .inl (.inl hb), ?_⟩⟩)))
    have hRt : ∀ (i : Nat) (v : V), (vx.take m)[i]? = some v → ∃ r, M[i]? = some r ∧ RowV H v r ∧ i < m := fun i v e => by
      rw [List.getElem?_take] at e
      split at e
      · obtain ⟨r, er, hr⟩ := hR.get e
        exact ⟨r, er, hr, by assumption⟩
      · cases e
    have qb : ∀ H', Same H1 H' → SqV K H' true b (vx.take m) := fun H' s => .inl (.inl (s _ _ hb))
    have lt : (vx.take m).length = m := by rw [List.length_take]; omega
    refine lc_ks (p := none) m (fun i v H => ∃ r, (leadM m M)[i]? = some r ∧ RowV H v r) (fun i v H H' k h => ?_) has_none (by omega) (fun i H2 hi s2 => its_go (qb H2 s2.same) (List.getElem?_eq_getElem (by omega))) (fun H2 s2 => its_stop (qb H2 s2.same) (by omega)) (fun i x H2 H3 C' hi s2 _ hy hC => ?_) fun Da H2 rs nD s2 hD hrl hE => ?_
    · obtain ⟨r, e, h⟩ := h
      exact ⟨r, e, h.mono k⟩
    · obtain ⟨rfl, ex⟩ := its_yld hy (qb H2 s2.same)
      obtain ⟨r, er, ⟨c, rfl, hc⟩, hi'⟩ := hRt i x ex
      have lr := hM.row r (List.mem_of_getElem? er)
      refine ⟨rfl, ?_⟩
      refine ⟨_, rfl, _, rfl, _, rfl, sl_all ((s1.trans s2.same) _ _ hc) (by rw [List.length_map]; omega) fun d H4 s4 hd => hC _ _ (RX.of s4) ⟨r.take m, ?_, d, rfl, ?_⟩⟩
      · unfold leadM
        rw [List.getElem?_map, List.getElem?_take, if_pos hi', er]
        rfl
      · rw [hd, List.map_take]
    · refine ⟨Da, rs, rfl, .inl ⟨.inl (.inl hD), fun l nl => ?_⟩⟩
      have k : Same H2 (upd H2 l (.tup rs)) := same_new nl
      refine q _ _ (s1.trans (s2.same.trans k)) ⟨l, rs, rfl, upd_same, ?_⟩
      exact (rows_of (by rw [hrl, (lead_sh hM hm).len]) hE).mono (KS.of k)
abbrev st_corners : Stmt := top 43
def sp_corners (C : Addr) : Sp := fun vs H Q _ => ∃ v M, ∃ n b : Nat, vs = [v] ∧ Fv C H v n b M ∧ b ≤ 5000 ∧ ∀ D H', Same H H' → H' D = some (.lst ((crn n M).map V.int)) → Q (.ref D) H'
abbrev N_corners : List Str := ["form", "many"]
theorem sc_corners : FnScope N_corners ["form"] (defScope st_corners) := ⟨rfl, rfl, rfl, by decide +kernel, rfl, by decide +kernel, by decide +kernel⟩
theorem ok_corners {f : Addr} {fd : FuncData} (F : Fun K "corners" "corners" st_corners f fd) (T : Txt mg) (Fc : Fcl K mg C) (D1 : Def P w K mg base "check_form" 1 ["form"] (sp_check_form C)) (D2 : Def P w K mg base "determinant_of" 7 ["rows"] sp_detA) (D3 : Def P w K mg base "leading" 1 ["rows", "many"] sp_leading)
    (D4 : Prp P w K mg base C "rows" 1 (sp_rows C)) (D5 : Prp P w K mg base C "size" 1 (sp_size C)) : FnOk P w K mg base CX0 8 f fd ["form"] (sp_corners C) := by
  refine F.ok sc_corners (fun vs H Q E h => ?_) (fun cdv A outer s H vs Q E hr h => ?_)
  · obtain ⟨v, M, n, b, rfl, _⟩ := h
    rfl
  · obtain ⟨v, M, n, b, rfl, hv, lb, q⟩ := h
    refine ⟨_, pss_cons (ps_expr (pe_def D1 hr (pa_cons (pv 0) pa_nil)))
      (pss_one (ps_ret (pe_lc (own := [("many", 1)]) (g := gName 1) (tt := tYes) rfl sc_corners.nd (pi_range2 (by rfl) T.range (pa_cons pe_int (pa_cons (pe_op op_add (pe_prp D5 Fc.cl hr (pv 0)) pe_int) pa_nil)))
        (blkOk_by (N := N_corners) (sc := defScope st_corners) (by decide +kernel)) (fun _ _ _ _ _ => pg_name (i := 1) sc_corners.nd rfl (Or.inl rfl) (Or.inr rfl)) (fun _ _ _ _ _ => pts_nil)
        (fun _ _ _ _ _ => pe_def (X := Cx.blk _ _ _ _ _ _) D2 hr (pa_cons (pe_def (X := Cx.blk _ _ _ _ _ _) D3 hr (pa_cons (pe_prp (X := Cx.blk _ _ _ _ _ _) D4 Fc.cl hr (pv 0)) (pa_cons (pv 1) pa_nil))) pa_nil))))), ?_⟩
    have h1 := hv.h1
    have h3 := hv.h3
    have hM := hv.bd
    refine r_seq (a1 ⟨_, rfl, v, M, rfl, hv.tab, ?_⟩)
    refine r_next (r_nret (tlc_call (r_cons (r_k (r_cons (r_op (r_prop ⟨_, rfl, p_size hv.tab ⟨_, _, rfl, rfl, _, _, rfl, ⟨by decide, by decide, by omega, ?_⟩, ?_⟩⟩)))))))
    · rw [hM.len]; omega
    rw [show ((M.length : Int) + 1 - 1).toNat = n by rw [hM.len]; omega]
    refine lc_el (p := none) n (fun i v => v = .int (detM (i + 1) (leadM (i + 1) M))) has_none (by omega) (fun i H2 hi s2 => hi) (fun H2 s2 => Nat.le_refl _) (fun i x H2 H3 C' hi s2 _ hy hC => ?_) fun Da H2 rs nD s2 hD hrl hE => ?_
    · obtain ⟨rfl, rfl⟩ := hy
      refine ⟨rfl, a1 (a2 (r_prop ⟨_, rfl, p_rows (hv.same s2.same).tab fun r mr => ⟨_, rfl, r, M, n, i + 1, ?_, mr, hM.sh, h3, by omega, fun v4 H4 s4 m4 => ?_⟩⟩))⟩
      · rw [show (1 : Int) + (i : Int) = ((i + 1 : Nat) : Int) by omega]
      · exact ⟨i + 1, by omega, v4, _, rfl, m4, by omega, lead_sq (hM.sq (by omega)) (by omega), fun H5 s5 => hC _ _ (RX.of (s4.trans s5)) rfl⟩
    · refine q Da H2 s2.same ?_
      have e : rs = (List.range n).map fun i => V.int (detM (i + 1) (leadM (i + 1) M)) := map_of_get (n := 0) _ (by rw [hrl, List.length_range]) fun i v e => by
        have hi : i < n := by rw [← hrl]; exact (List.getElem?_eq_some_iff.mp e).1
        exact ⟨i, List.getElem?_range hi, hE i v e⟩
      rw [hD, e]
      unfold crn
      rw [List.map_map]
      rfl
end
end T29
set_option Elab.async false
set_option linter.all false
set_option maxRecDepth 100000
set_option maxHeartbeats 4000000
namespace T29
open PySem PySem.Spec PyProof.Rows L2 Gd Zn Rp Dn Tb Gn En Zs Ct Op Oc Rg Rt Ro Oa
theorem pitE10 (m : Int) : pitM 1 0 [[m]] = [1] := by simp [pitM, leadM, cofM, detM, outM, outW, cutAt, List.range_succ, List.getD]
theorem pitE20 (a b c d : Int) : pitM 2 0 [[a, b], [c, d]] = [1, 0] := by simp [pitM, leadM, cofM, detM, outM, outW, cutAt, List.range_succ, List.getD, List.replicate]
theorem pitE21 (a b c d : Int) : pitM 2 1 [[a, b], [c, d]] = [-b, a] := by simp [pitM, leadM, cofM, detM, outM, outW, cutAt, List.range_succ, List.getD, List.replicate]
theorem pitE30 (a b c d e f g h i : Int) : pitM 3 0 [[a, b, c], [d, e, f], [g, h, i]] = [1, 0, 0] := by simp [pitM, leadM, cofM, detM, outM, outW, cutAt, List.range_succ, List.getD, List.replicate]
theorem pitE31 (a b c d e f g h i : Int) : pitM 3 1 [[a, b, c], [d, e, f], [g, h, i]] = [-b, a, 0] := by simp [pitM, leadM, cofM, detM, outM, outW, cutAt, List.range_succ, List.getD, List.replicate]
theorem cof2 (M : List (List Int)) (a k : Nat) : cofM 2 M a k = if (a + k) % 2 = 0 then detM 2 (outM M a k) else -detM 2 (outM M a k) := by rw [cofM]
theorem pitE32 (a b c d e f g h i : Int) : pitM 3 2 [[a, b, c], [d, e, f], [g, h, i]] = [b * f - c * e, -(a * f - c * d), a * e - b * d] := by
  simp [pitM, leadM, cof2, outM, outW, cutAt, List.range_succ, List.getD, det2]
theorem d1E1 (a : Int) : detM 1 (leadM 1 [[a]]) = a := det1 a
theorem d1E2 (a b c d : Int) : detM 1 (leadM 1 [[a, b], [c, d]]) = a := det1 a
theorem d1E3 (a b c d e f g h i : Int) : detM 1 (leadM 1 [[a, b, c], [d, e, f], [g, h, i]]) = a := det1 a
theorem d2E2 (a b c d : Int) : detM 2 (leadM 2 [[a, b], [c, d]]) = a * d - b * c := det2 a b c d
theorem d2E3 (a b c d e f g h i : Int) : detM 2 (leadM 2 [[a, b, c], [d, e, f], [g, h, i]]) = a * e - b * d := det2 a b d e
theorem d3E3 (a b c d e f g h i : Int) : detM 3 (leadM 3 [[a, b, c], [d, e, f], [g, h, i]]) = a * (e * i - f * h) - b * (d * i - f * g) + c * (d * h - e * g) := det3 a b c d e f g h i
theorem prod_np {p q w : Int} (e : w = p * q) (hp : 0 < p) (hq : q ≤ 0) : w ≤ 0 := by
  have := Int.mul_le_mul_of_nonneg_left hq (Int.le_of_lt hp)
  rw [e]
  omega
theorem pit_ok {n a : Nat} {M : List (List Int)} (h3 : n ≤ 3) (hM : Sh n M) (e : transp n M = M) (ha : a < n) (hb : ∀ i, i < a → 0 < detM (i + 1) (leadM (i + 1) M)) (hc : detM (a + 1) (leadM (a + 1) M) ≤ 0) :
    (pitM n a M).length = n ∧ (∃ x ∈ pitM n a M, x ≠ 0) ∧ btwM M (pitM n a M) (pitM n a M) ≤ 0 := by
  rcases lt_cases h3 ha with ⟨rfl, rfl⟩ | ⟨rfl, h⟩ | ⟨rfl, h⟩
  · obtain ⟨m, rfl⟩ := sh1 hM rfl
    rw [d1E1] at hc
    rw [pitE10]
    refine ⟨rfl, ⟨1, by simp, by decide⟩, ?_⟩
    simp [btwM, ledM, dot]
    omega
  · obtain ⟨p, q, r, rfl⟩ := sy2 hM e
    rcases h with rfl | rfl
    · rw [d1E2] at hc
      rw [pitE20]
      refine ⟨rfl, ⟨1, by simp, by decide⟩, ?_⟩
      simp [btwM, ledM, dot]
      omega
    · have h0 := hb 0 (by decide)
      rw [d1E2] at h0
      rw [d2E2] at hc
      rw [pitE21]
      refine ⟨rfl, ⟨p, by simp, by omega⟩, prod_np (p := p) (q := p * r - q * q) ?_ h0 hc⟩
      simp [btwM, ledM, dot]
      grind
  · obtain ⟨p, q, r, s, t, u, rfl⟩ := sy3 hM e
    rcases h with rfl | rfl | rfl
    · rw [d1E3] at hc
      rw [pitE30]
      refine ⟨rfl, ⟨1, by simp, by decide⟩, ?_⟩
      simp [btwM, ledM, dot]
      omega
    · have h0 := hb 0 (by decide)
      rw [d1E3] at h0
      rw [d2E3] at hc
      rw [pitE31]
      refine ⟨rfl, ⟨p, by simp, by omega⟩, prod_np (p := p) (q := p * s - q * q) ?_ h0 hc⟩
      simp [btwM, ledM, dot]
      grind
    · have h1 := hb 1 (by decide)
      rw [d2E3] at h1
      rw [d3E3] at hc
      rw [pitE32]
      refine ⟨rfl, ⟨p * s - q * q, by simp, by omega⟩, prod_np ?_ h1 hc⟩
      simp [btwM, ledM, dot]
      grind
theorem pit_rb {n a b : Nat} {M : List (List Int)} (h3 : n ≤ 3) (hM : SqE n b M) (ha : a < n) : Rb (b + b + 1) (pitM n a M) := by
  have one : (1 : Int).natAbs < 2 ^ (b + b + 1) := by
    have : 1 < 2 ^ (b + b + 1) := Nat.one_lt_two_pow (by omega)
    exact this
  have zero : (0 : Int).natAbs < 2 ^ (b + b + 1) := Nat.pow_pos (by decide)
  have up : ∀ x : Int, x.natAbs < 2 ^ b → x.natAbs < 2 ^ (b + b + 1) := fun x h => Wd.abs_mono h (by omega)
  have ng : ∀ x : Int, x.natAbs < 2 ^ (b + b + 1) → (-x).natAbs < 2 ^ (b + b + 1) := fun x h => by rw [Int.natAbs_neg]; exact h
  have df : ∀ x y z w : Int, x.natAbs < 2 ^ b → y.natAbs < 2 ^ b → z.natAbs < 2 ^ b → w.natAbs < 2 ^ b → (x * y - z * w).natAbs < 2 ^ (b + b + 1) := fun x y z w h1 h2 h3 h4 => by
    have a1 := Wd.abs_mul h1 h2
    have a2 := Wd.abs_mul h3 h4
    have := Wd.abs_add a1 (y := -(z * w)) (by rw [Int.natAbs_neg]; exact a2)
    rw [Int.sub_eq_add_neg]
    exact this
  have bd := hM.bd
  intro x hx
  rcases lt_cases h3 ha with ⟨rfl, rfl⟩ | ⟨rfl, h⟩ | ⟨rfl, h⟩
  · obtain ⟨m, rfl⟩ := sh1 hM.sh rfl
    rw [pitE10] at hx
    rw [List.mem_singleton.mp hx]
    exact one
  · obtain ⟨p, q, r, s, rfl⟩ := sh2 hM.sh rfl
    have b1 := bd [p, q] (by simp) p (by simp)
    have b2 := bd [p, q] (by simp) q (by simp)
    rcases h with rfl | rfl
    · rw [pitE20] at hx
      simp only [List.mem_cons, List.not_mem_nil, or_false] at hx
      rcases hx with rfl | rfl
      · exact one
      · exact zero
    · rw [pitE21] at hx
      simp only [List.mem_cons, List.not_mem_nil, or_false] at hx
      rcases hx with rfl | rfl
      · exact ng _ (up _ b2)
      · exact up _ b1
  · obtain ⟨p, q, r, s, t, u, v, w, z, rfl⟩ := sh3 hM.sh rfl
    have b1 := bd [p, q, r] (by simp) p (by simp)
    have b2 := bd [p, q, r] (by simp) q (by simp)
    have b3 := bd [p, q, r] (by simp) r (by simp)
    have b4 := bd [s, t, u] (by simp) s (by simp)
    have b5 := bd [s, t, u] (by simp) t (by simp)
    have b6 := bd [s, t, u] (by simp) u (by simp)
    rcases h with rfl | rfl | rfl
    · rw [pitE30] at hx
      simp only [List.mem_cons, List.not_mem_nil, or_false] at hx
      rcases hx with rfl | rfl | rfl
      · exact one
      · exact zero
      · exact zero
    · rw [pitE31] at hx
      simp only [List.mem_cons, List.not_mem_nil, or_false] at hx
      rcases hx with rfl | rfl | rfl
      · exact ng _ (up _ b2)
      · exact up _ b1
      · exact zero
    · rw [pitE32] at hx
      simp only [List.mem_cons, List.not_mem_nil, or_false] at hx
      rcases hx with rfl | rfl | rfl
      · exact df _ _ _ _ b2 b6 b3 b5
      · exact ng _ (df _ _ _ _ b1 b6 b3 b4)
      · exact df _ _ _ _ b1 b5 b2 b4
theorem first_of {n a : Nat} {T : Nat → Bool} {l : List Nat} (h : (List.range n).filter T = a :: l) : a < n ∧ T a = true ∧ ∀ i, i < a → T i = false := by
  obtain ⟨l1, l2, e, n1, ta, _⟩ := List.filter_eq_cons_iff.mp h
  have lt : l1.length < n := by
    have := congrArg List.length e
    rw [List.length_range, List.length_append, List.length_cons] at this
    omega
  have ea : l1.length = a := by
    have h1 : (List.range n)[l1.length]? = some a := by rw [e, List.getElem?_append_right (Nat.le_refl _), Nat.sub_self]; rfl
    rw [List.getElem?_range lt] at h1
    exact Option.some.inj h1
  refine ⟨by omega, ta, fun i hi => ?_⟩
  have h2 : (List.range n)[i]? = l1[i]? := by rw [e, List.getElem?_append_left (by omega)]
  rw [List.getElem?_range (by omega)] at h2
  have := n1 i (List.mem_of_getElem? h2.symm)
  simpa using this
theorem none_of {n : Nat} {T : Nat → Bool} (h : (List.range n).filter T = []) : ∀ i, i < n → T i = false := fun i hi => by
  have := List.filter_eq_nil_iff.mp h i (List.mem_range.mpr hi)
  simpa using this
section
variable {P : Program} {w : World} {K : PySem.W.Frag} {mg : Str → Option Value} {base : Heap} {C : Addr}
def dC (M : List (List Int)) (i : Nat) : Int := detM (i + 1) (leadM (i + 1) M)
abbrev st_pit : Stmt := top 47
def sp_pit (C : Addr) : Sp := fun vs H Q _ => ∃ v M, ∃ n b : Nat, vs = [v] ∧ Fv C H v n b M ∧ b ≤ 2000 ∧ (∀ H', Same H H' → (∀ i, i < n → 0 < dC M i) → Q .non H') ∧ ∀ a v' H', Same H H' → a < n → (∀ i, i < a → 0 < dC M i) → dC M a ≤ 0 → RowV H' v' (pitM n a M) → Q v' H'
abbrev N_pit : List Str := ["form", "low", "at", "upper", "corner", "place"]
theorem sc_pit : FnScope N_pit ["form"] (defScope st_pit) := ⟨rfl, rfl, rfl, by decide +kernel, rfl, by decide +kernel, by decide +kernel⟩
theorem ok_pit {f : Addr} {fd : FuncData} (F : Fun K "pit" "pit" st_pit f fd) (T : Txt mg) (Fc : Fcl K mg C) (D1 : Def P w K mg base "corners" 8 ["form"] (sp_corners C)) (D2 : Def P w K mg base "leading" 1 ["rows", "many"] sp_leading) (D3 : Def P w K mg base "cofactor" 6 ["rows", "at", "place"] sp_cofA)
    (D4 : Prp P w K mg base C "rows" 1 (sp_rows C)) (D5 : Prp P w K mg base C "size" 1 (sp_size C)) : FnOk P w K mg base CX0 9 f fd ["form"] (sp_pit C) := by
  refine F.ok sc_pit (fun vs H Q E h => ?_) (fun cdv A outer s H vs Q E hr h => ?_)
  · obtain ⟨v, M, n, b, rfl, _⟩ := h
    rfl
  · obtain ⟨v, M, n, b, rfl, hv, lb, q0, q1⟩ := h
    refine ⟨_, pss_cons (ps_setLc (i := 1) (own := [("at", 2), ("corner", 4)]) (g := gTup K 2 (gCons (gName 2) (gCons (gName 4) gNil))) rfl sc_pit.nd rfl rfl (sw_true rfl rfl rfl (by decide +kernel)) (pi_enumS (by rfl) T.enum (pa_cons (pe_def D1 hr (pa_cons (pv 0) pa_nil)) pa_nil))
        (blkOk_by (N := N_pit) (sc := defScope st_pit) (by decide +kernel))
        (fun _ _ _ _ _ => pg_tup rfl (pgs_cons (pg_name (i := 2) sc_pit.nd rfl (Or.inl rfl) (Or.inr rfl)) (pgs_cons (pg_name (i := 4) sc_pit.nd rfl (Or.inl rfl) (Or.inr rfl)) pgs_nil)))
        (fun _ _ _ _ _ => pts_one (pt_cmpR op_le (pv 4) pe_int (nomark _))) (fun _ _ _ _ _ => pv 2))
      (pss_cons (ps_if (pt_cmpR op_eq (pe_callB (r := Dn.rLen K) c_len (by rfl) T.len PySem.boot_len (pa_cons (pv 1) pa_nil)) pe_int (nomark _)) (pss_one (ps_ret pe_non)) pss_nil)
      (pss_cons (ps_set (i := 2) sc_pit.nd rfl (Or.inr rfl) (pe_ix ix_sq (pv 1) pe_int (fun _ _ => rfl)))
      (pss_cons (ps_set (i := 3) sc_pit.nd rfl (Or.inr rfl) (pe_def D2 hr (pa_cons (pe_prp D4 Fc.cl hr (pv 0)) (pa_cons (pe_op op_add (pv 2) pe_int) pa_nil))))
      (pss_one (ps_ret (pe_callTy (r := rTup K) c_tup (by rfl) T.tuple PyProof.Rows.boot_tuple (pa_cons (pe_op op_cat (pe_lc (own := [("place", 5)]) (g := gName 5) (tt := tYes) rfl sc_pit.nd (pi_range1 (by rfl) T.range (pa_cons (pe_op op_add (pv 2) pe_int) pa_nil))
          (blkOk_by (N := N_pit) (sc := defScope st_pit) (by decide +kernel)) (fun _ _ _ _ _ => pg_name (i := 5) sc_pit.nd rfl (Or.inl rfl) (Or.inr rfl)) (fun _ _ _ _ _ => pts_nil)
          (fun _ _ _ _ _ => pe_def (X := Cx.blk _ _ _ _ _ _) D3 hr (pa_cons (pv 3) (pa_cons (pv 2) (pa_cons (pv 5) pa_nil)))))
        (pe_op op_rep (pe_lst (pa_cons pe_int pa_nil)) (pe_op op_sub (pe_op op_sub (pe_prp D5 Fc.cl hr (pv 0)) (pv 2)) pe_int))) pa_nil))))))), ?_⟩
    have h1 := hv.h1
    have h3 := hv.h3
    have hM := hv.bd
    refine r_seq (r_asg (tlc_call (r_cons (a1 ⟨_, rfl, v, M, n, b, rfl, hv, by omega, fun Dc H1 s1 hDc => ⟨false, Dc, _, rfl, .inl (.inl hDc), ?_⟩⟩))))
    have lc : (crn n M).length = n := by unfold crn; rw [List.length_map, List.length_range]
    have qc : ∀ H', Same H1 H' → SqV K H' false Dc ((crn n M).map V.int) := fun H' s => .inl (.inl (s _ _ hDc))
    have gc : ∀ i, i < n → ((crn n M).map V.int)[i]? = some (V.int (dC M i)) := fun i hi => by
      unfold crn
      rw [List.getElem?_map, List.getElem?_map, List.getElem?_range hi]
      rfl
    refine lc_if (p := none) n (fun i => decide (dC M i ≤ 0)) (fun i => V.int (i : Nat)) has_none (by omega) (fun i H2 hi s2 => ⟨_, _, qc H2 s2.same, gc i hi⟩) (fun H2 s2 => ⟨_, qc H2 s2.same, by rw [List.length_map, lc]; exact Nat.le_refl _⟩) (fun i x H2 H3 C' C0 hi s2 _ hy hC hC0 => ?_) fun Dl H2 nDl s2 hDl => ?_
    · obtain ⟨T2, y, rfl, nT, rfl, hu⟩ := hy
      have ey := hu _ (qc H2 s2.same)
      rw [gc i hi] at ey
      cases ey
      refine ⟨T2, _, rfl, .inl (.inl upd_same), rfl, _, _, rfl, _, _, rfl, rfl, rfl, ?_⟩
      refine ⟨_, rfl, _, _, rfl, rfl, _, rfl, ?_⟩
      by_cases z : dC M i ≤ 0
      · rw [decide_eq_true z]
        exact iteT ⟨_, rfl, hC _ (RX.new nT) (decide_eq_true z)⟩
      · rw [decide_eq_false z]
        exact iteF (hC0 _ (RX.new nT) (decide_eq_false z))
    have S2 := s1.trans s2.same
    refine r_next (r_nseq (r_if (r_tt (r_op (cb1 ⟨_, rfl, Dl, _, rfl, .inl (.inl (.inl hDl)), rfl, _, rfl, ?_⟩)))))
    cases hf : (List.range n).filter (fun i => decide (dC M i ≤ 0)) with
    | nil =>
      refine iteT (r_ret ?_)
      refine q0 H2 S2 fun i hi => ?_
      have := none_of hf i hi
      simp at this
      exact this
    | cons a l =>
      rw [hf] at hDl
      obtain ⟨ha, ta, fa⟩ := first_of hf
      have ta' : dC M a ≤ 0 := by simpa using ta
      have fa' : ∀ i, i < a → 0 < dC M i := fun i hi => by
        have := fa i hi
        simp at this
        exact this
      rw [show decide (V.int (((a :: l).map fun i => V.int (i : Nat)).length : Int) = V.int 0) = false by rw [decide_eq_false]; intro z; have := V.int.inj z; simp at this; omega]
      refine iteF ?_
      have al : atI ((a :: l).map fun i => V.int (i : Nat)) 0 = some (V.int (a : Nat)) := atI_nat (j := 0) rfl
      refine r_nseq (r_asg ⟨_, rfl, false, Dl, _, _, _, rfl, rfl, .inl (.inl hDl), al, ?_⟩)
      have hv2 := hv.same S2
      refine r_next (r_nseq (r_asg (a2 (r_prop ⟨_, rfl, p_rows hv2.tab fun r mr => ⟨_, rfl, _, _, rfl, rfl, r, M, n, a + 1, rfl, mr, hM.sh, h3, by omega, fun v3 H3 s3 m3 => ?_⟩⟩))))
      have sL : Sq (a + 1) (leadM (a + 1) M) := lead_sq (hM.sq (by omega)) (by omega)
      have S3 := S2.trans s3
      have hv3 := hv.same S3
      refine r_next (r_nret (r_cb (r_cons (r_op (tlc_call ⟨_, rfl, _, _, rfl, rfl, ((a : Int) + 1), rfl, by omega, by omega, ?_⟩)))))
      rw [show ((a : Int) + 1).toNat = a + 1 by omega]
      refine lc_el (p := none) (a + 1) (fun i v => v = .int (cofM a (leadM (a + 1) M) a i)) has_none (by omega) (fun i H4 hi s4 => hi) (fun H4 s4 => Nat.le_refl _) (fun i x H4 H5 C' hi s4 _ hy hC => ?_) fun Da H4 rs nDa s4 hDa hrl hE => ?_
      · obtain ⟨rfl, rfl⟩ := hy
        refine ⟨rfl, a3 ⟨_, rfl, _, rfl, _, rfl, a + 1, by omega, v3, leadM (a + 1) M, a, i, by simp, m3.mono (KS.of s4.same), by omega, sL, Nat.le_refl _, by omega, fun H6 s6 => hC _ _ (RX.of s6) rfl⟩⟩
      have er : rs = ((List.range (a + 1)).map fun k => cofM a (leadM (a + 1) M) a k).map V.int := by
        rw [List.map_map]
        exact map_of_get (n := 0) _ (by rw [hrl, List.length_range]) fun i v e => by
          have hi : i < a + 1 := by rw [← hrl]; exact (List.getElem?_eq_some_iff.mp e).1
          exact ⟨i, List.getElem?_range hi, hE i v e⟩
      have hv4 := hv3.same s4.same
      refine r_op (r_lst ⟨(by show 1 ≤ sizeLine; decide), fun l1 nl1 => ?_⟩)
      have t1 : Same H4 (upd H4 l1 (.lst [V.int 0])) := same_new nl1
      have e1 : upd H4 l1 (.lst [V.int 0]) l1 = some (.lst [V.int 0]) := upd_same
      generalize upd H4 l1 (.lst [V.int 0]) = H5 at t1 e1
      refine r_op (r_op (r_prop ⟨_, rfl, p_size (hv4.same t1).tab ⟨_, rfl, _, _, rfl, rfl, _, _, rfl, rfl, ?_⟩⟩))
      have ek : ((M.length : Int) - (a : Int) - 1) = ((n - a - 1 : Nat) : Int) := by rw [hM.len]; omega
      have ek' : (fun i j : Int => V.int (i - j)) ((M.length : Int) - (a : Int)) 1 = V.int ((n - a - 1 : Nat) : Int) := congrArg V.int ek
      rw [ek']
      refine ⟨l1, _, [V.int 0], rfl, rfl, e1, by omega, by omega, ?_, fun c nc => ?_⟩
      · rw [Int.toNat_natCast]
        exact Nat.le_trans (by simp; omega : _ ≤ 100) (by decide)
      have ez : (List.replicate (((n - a - 1 : Nat) : Int)).toNat [V.int 0]).flatten = (List.replicate (n - a - 1) (0 : Int)).map V.int := by
        rw [Int.toNat_natCast, rep_flat, List.map_replicate]
      rw [ez]
      have t2 : Same H5 (upd H5 c (.lst ((List.replicate (n - a - 1) (0 : Int)).map V.int))) := same_new nc
      have e2 : upd H5 c (.lst ((List.replicate (n - a - 1) (0 : Int)).map V.int)) c = some (.lst ((List.replicate (n - a - 1) (0 : Int)).map V.int)) := upd_same
      generalize upd H5 c (.lst ((List.replicate (n - a - 1) (0 : Int)).map V.int)) = H6 at t2 e2
      rw [er] at hDa
      have lp : (pitM n a M).length = n := (pit_ok h3 hM.sh hv.eq ha fa' ta').1
      refine ⟨Da, c, _, _, rfl, rfl, (t1.trans t2) _ _ hDa, e2, ?_, fun fo nfo => ?_⟩
      · rw [List.length_map, List.length_map, List.length_map, List.length_range, List.length_replicate]
        exact Nat.le_trans (by omega : _ ≤ 100) (by decide)
      rw [← List.map_append]
      have t3 : Same H6 (upd H6 fo (.lst ((pitM n a M).map V.int))) := same_new nfo
      refine ⟨fo, _, rfl, .inl ⟨.inl (.inl upd_same), fun l9 nl9 => ?_⟩⟩
      exact q1 a _ _ (S3.trans (s4.same.trans (t1.trans (t2.trans (t3.trans (same_new nl9)))))) ha fa' ta' ⟨l9, rfl, upd_same⟩
end
end T29
set_option Elab.async false
set_option linter.all false
set_option maxRecDepth 100000
set_option maxHeartbeats 4000000
namespace T29
open PySem PySem.Spec PyProof.Rows L2 Gd Zn Rp Dn Tb Gn En Zs Ct Op Oc Rg Rt Ro Oa
structure KitF (K : PySem.W.Frag) (C : Addr) : Prop where
  list : PySem.W.kitOne K (.ref C) (.type "list") = some false
  tuple : PySem.W.kitOne K (.ref C) (.type "tuple") = some false
theorem kitF_seq {K : PySem.W.Frag} {C : Addr} (kc : KitF K C) : PySem.W.kitAny K (.ref C) [.type "list", .type "tuple"] = some false := by
  unfold PySem.W.kitAny
  rw [kc.list]
  unfold PySem.W.kitAny
  simp only [kc.tuple]
  rfl
theorem FnOk_or {P : Program} {w : World} {K : PySem.W.Frag} {mg : Str → Option Value} {base : Heap} {CX : CXT} {k : Nat} {f : Addr} {fd : FuncData} {ps : List Str} {sp1 sp2 : Sp} (F : FnOk P w K mg base CX k f fd ps sp1) (G : FnOk P w K mg base CX k f fd ps sp2) :
    FnOk P w K mg base CX k f fd ps (fun vs H Q E => sp1 vs H Q E ∨ sp2 vs H Q E) :=
  ⟨fun vs H Q E h => h.elim (F.len vs H Q E) (G.len vs H Q E), fun A outer s H args us vs Q E hr he hb hv h => h.elim (F.run A outer s H args us vs Q E hr he hb hv) (G.run A outer s H args us vs Q E hr he hb hv)⟩
def pitB (M : List (List Int)) (xs : List Int) : Bool := xs.any (fun x => decide (x ≠ 0)) && decide (btwM M xs xs ≤ 0)
def OddV (n : Nat) (C : Addr) (H : Hp) (v : V) : Prop := (∃ d, AnyV H v d ∧ rowOfB n d = false ∧ (items d).length ≤ 200) ∨ ∃ M, Tab C H v M
theorem OddV.mono {n : Nat} {C : Addr} {H H' : Hp} {v : V} (s : Same H H') (h : OddV n C H v) : OddV n C H' v := by
  rcases h with ⟨d, a, b, c⟩ | ⟨M, t⟩
  · exact .inl ⟨d, a.mono s, b, c⟩
  · exact .inr ⟨M, T29.Tab.same s t⟩
section
variable {P : Program} {w : World} {K : PySem.W.Frag} {mg : Str → Option Value} {base : Heap} {C : Addr}
def sp_no1 (C : Addr) : Sp := fun vs H Q _ => ∃ v M, vs = [v] ∧ Tab C H v M ∧ ∀ H', Same H H' → Q (.bl false) H'
def sp_no2 (C : Addr) : Sp := fun vs H Q _ => ∃ v M, ∃ n : Nat, vs = [.int n, v] ∧ Tab C H v M ∧ ∀ H', Same H H' → Q (.bl false) H'
theorem ok_il2 {f : Addr} {fd : FuncData} (F : Fun K "is_list" "is_list" st_is_list f fd) (T : Txt mg) (Fc : Fcl K mg C) (kc : KitF K C) : FnOk P w K mg base CX0 1 f fd ["value"] (sp_no1 C) := by
  refine F.ok sc_is_list (fun vs H Q E h => ?_) (fun cdv A outer s H vs Q E hr h => ?_)
  · obtain ⟨v, M, rfl, _⟩ := h
    rfl
  · obtain ⟨v, M, rfl, hv, q⟩ := h
    refine ⟨_, pss_one (ps_ret (pe_callB call_isiT (by rfl) T.isi boot_isinstance (pa_cons (pv 0) (pa_cons (pe_tup (pa_cons (pe_bltn (v := .ty "list") (by rfl) T.list PyProof.Rows.boot_list rfl) (pa_cons (pe_bltn (v := .ty "tuple") (by rfl) T.tuple PyProof.Rows.boot_tuple rfl) pa_nil))) pa_nil)))), ?_⟩
    obtain ⟨p, dx, r, rfl, hp, _⟩ := id hv
    refine ⟨_, rfl, (by show 2 ≤ sizeLine; decide), fun t ht => ?_⟩
    exact ⟨_, t, _, _, _, _, rfl, upd_same, .cons (.ty _) (.cons (.ty _) .nil), Fc.ty (same_new ht _ _ hp), kitF_seq kc, q _ (same_new ht)⟩
theorem ok_ir2 {f : Addr} {fd : FuncData} (F : Fun K "is_row" "is_row" st_is_row f fd) (T : Txt mg) (D1 : Def P w K mg base "is_list" 1 ["value"] (sp_no1 C)) (D2 : Def P w K mg base "is_integer" 1 ["value"] sp_is_integer) : FnOk P w K mg base CX0 2 f fd ["value"] (sp_no1 C) := by
  refine F.ok sc_is_row (fun vs H Q E h => ?_) (fun cdv A outer s H vs Q E hr h => ?_)
  · obtain ⟨v, M, rfl, _⟩ := h
    rfl
  · obtain ⟨v, M, rfl, hv, q⟩ := h
    refine ⟨_, pss_one (ps_ret (pe_and (pe_def D1 hr (pa_cons (pv 0) pa_nil))
      (pe_and (pe_chain op_le op_le pe_int (pe_callB (r := Dn.rLen K) c_len (by rfl) T.len PySem.boot_len (pa_cons (pv 0) pa_nil)) pe_int)
      (pe_one (pe_callB (cr_all rfl) (by rfl) T.all boot_all (pa_cons (pe_lc (own := [("number", 1)]) (g := gName 1) (tt := tYes) rfl sc_is_row.nd (pi_seq (pv 0))
        (blkOk_by (N := ["value", "number"]) (sc := defScope st_is_row) (by decide +kernel))
        (fun _ _ _ _ _ => pg_name (i := 1) sc_is_row.nd rfl (Or.inl rfl) (Or.inr rfl)) (fun _ _ _ _ _ => pts_nil) (fun _ _ _ _ _ => pe_def (X := Cx.blk _ _ _ _ _ _) D2 hr (pa_cons (pv 1) pa_nil))) pa_nil)))))), ?_⟩
    exact ⟨_, rfl, v, M, rfl, hv, fun H1 s1 => ⟨_, rfl, iteF (q H1 s1)⟩⟩
theorem ok_iro2 {f : Addr} {fd : FuncData} (F : Fun K "is_row_of" "is_row_of" st_is_row_of f fd) (T : Txt mg) (D1 : Def P w K mg base "is_row" 2 ["value"] (sp_no1 C)) : FnOk P w K mg base CX0 3 f fd ["size", "value"] (sp_no2 C) := by
  refine F.ok sc_is_row_of (fun vs H Q E h => ?_) (fun cdv A outer s H vs Q E hr h => ?_)
  · obtain ⟨v, M, n, rfl, _⟩ := h
    rfl
  · obtain ⟨v, M, n, rfl, hv, q⟩ := h
    refine ⟨_, pss_one (ps_ret (pe_and (pe_def D1 hr (pa_cons (pv 1) pa_nil)) (pe_one (pe_cmpR op_eq (pe_callB (r := Dn.rLen K) c_len (by rfl) T.len PySem.boot_len (pa_cons (pv 1) pa_nil)) (pv 0) (nomark _))))), ?_⟩
    exact ⟨_, rfl, v, M, rfl, hv, fun H1 s1 => ⟨_, rfl, iteF (q H1 s1)⟩⟩
def sp_iroU (C : Addr) : Sp := fun vs H Q E => sp_is_row_of vs H Q E ∨ sp_no2 C vs H Q E
abbrev st_is_pit : Stmt := top 48
def sp_isp (C : Addr) : Sp := fun vs H Q _ => ∃ f v M, ∃ n b : Nat, vs = [f, v] ∧ Fv C H f n b M ∧ b ≤ 2000 ∧ ((∃ xs, SeqV H v (iD xs) ∧ xs.length = n ∧ Rb 2000 xs ∧ ∀ H', Same H H' → Q (.bl (pitB M xs)) H') ∨ (OddV n C H v ∧ ∀ H', Same H H' → Q (.bl false) H'))
abbrev N_isp : List Str := ["form", "value", "number"]
theorem sc_isp : FnScope N_isp ["form", "value"] (defScope st_is_pit) := ⟨rfl, rfl, rfl, by decide +kernel, rfl, by decide +kernel, by decide +kernel⟩
theorem ok_isp {f : Addr} {fd : FuncData} (F : Fun K "is_pit" "is_pit" st_is_pit f fd) (T : Txt mg) (hany : mg "any" = none) (Fc : Fcl K mg C) (D1 : Def P w K mg base "check_form" 1 ["form"] (sp_check_form C)) (D2 : Def P w K mg base "is_row_of" 3 ["size", "value"] (sp_iroU C)) (D5 : Prp P w K mg base C "size" 1 (sp_size C))
    (D6 : Mtd P w K mg base C "worth" 6 ["self", "row"] (sp_worth C)) : FnOk P w K mg base CX0 7 f fd ["form", "value"] (sp_isp C) := by
  refine F.ok sc_isp (fun vs H Q E h => ?_) (fun cdv A outer s H vs Q E hr h => ?_)
  · obtain ⟨f, v, M, n, b, rfl, _⟩ := h
    rfl
  · obtain ⟨f, v, M, n, b, rfl, hf, lb, hc⟩ := h
    obtain ⟨g, gd, mt, G, bd⟩ := D6.ex
    have hr6 : Room 6 _ := hr
    refine ⟨_, pss_cons (ps_expr (pe_def D1 hr (pa_cons (pv 0) pa_nil)))
      (pss_cons (ps_if (pt_not (pt_val (pe_def D2 hr (pa_cons (pe_prp D5 Fc.cl hr (pv 0)) (pa_cons (pv 1) pa_nil))))) (pss_one (ps_ret pe_bl)) pss_nil)
      (pss_one (ps_ret (pe_and (pe_callB (cr_any rfl) (by rfl) hany boot_any (pa_cons (pe_lc (own := [("number", 2)]) (g := gName 2) (tt := tYes) rfl sc_isp.nd (pi_seq (pv 1))
          (blkOk_by (N := N_isp) (sc := defScope st_is_pit) (by decide +kernel)) (fun _ _ _ _ _ => pg_name (i := 2) sc_isp.nd rfl (Or.inl rfl) (Or.inr rfl)) (fun _ _ _ _ _ => pts_nil)
          (fun _ _ _ _ _ => pe_cmpR op_ne (pv 2) pe_int (nomark _))) pa_nil))
        (pe_one (pe_cmpR op_le (pe_meth (pv 0) Fc.cl mt G hr6 bd .nil pass0 (pa_cons (pv 1) pa_nil)) pe_int (nomark _))))))), ?_⟩
    have h1 := hf.h1
    have h3 := hf.h3
    refine r_seq (a1 ⟨_, rfl, f, M, rfl, hf.tab, ?_⟩)
    refine r_next (r_nseq (r_if (r_not (r_tt (a2 (r_prop ⟨_, rfl, p_size hf.tab ⟨_, rfl, ?_⟩⟩))))))
    rw [hf.bd.len]
    rcases hc with ⟨xs, hx, lx, bx, q⟩ | ⟨ho, q⟩
    · obtain ⟨d, av, ei, hd⟩ := T29.SeqV.any hx
      refine .inl ⟨v, d, n, rfl, av, by rw [ei]; unfold iD; rw [List.length_map]; omega, fun H1 s1 => ⟨_, rfl, ?_⟩⟩
      rw [row_true hd h1 h3 lx]
      refine iteF ?_
      obtain ⟨t, a, vx, rfl, qx, px⟩ := hx.at K
      have ex := pyVs_ints px
      subst ex
      have qx1 : ∀ H', Same H1 H' → SqV K H' t a (xs.map V.int) := fun H' s => qx H' (s1.trans s)
      refine r_nret (r_andV (r_cb (r_cons (tlc_call ⟨_, rfl, t, a, _, rfl, qx1 H1 (Same.refl _), ?_⟩))))
      refine lc_el (p := none) n (fun i v => ∃ x, xs[i]? = some x ∧ v = .bl (decide (x ≠ 0))) has_none (by omega) (fun i H2 hi s2 => its_go (qx1 H2 s2.same) (List.getElem?_eq_getElem (by rw [List.length_map]; omega))) (fun H2 s2 => its_stop (qx1 H2 s2.same) (by rw [List.length_map]; omega)) (fun i x H2 H3 C' hi s2 _ hy hC => ?_) fun Da H2 rs nD s2 hD hrl hE => ?_
      · obtain ⟨rfl, ex⟩ := its_yld hy (qx1 H2 s2.same)
        have l1 : i < xs.length := by omega
        rw [List.getElem?_map, List.getElem?_eq_getElem l1] at ex
        cases ex
        refine ⟨rfl, ⟨_, rfl, rfl, hC _ _ (RX.refl _) ⟨_, List.getElem?_eq_getElem l1, ?_⟩⟩⟩
        congr 1
        by_cases z : xs[i] = 0
        · rw [z]; simp
        · rw [decide_eq_true z, decide_eq_false (fun e => z (V.int.inj e))]; rfl
      have er : rs = (xs.map fun x => decide (x ≠ 0)).map V.bl := by
        rw [List.map_map]
        exact map_of_get (n := 0) _ (by rw [hrl, lx]) hE
      refine ⟨Da, xs.map (fun x => decide (x ≠ 0)), rfl, .inl (.inl (by rw [hD, er])), _, rfl, ?_⟩
      have S2 := s1.trans s2.same
      have eP : pitB M xs = ((xs.map fun x => decide (x ≠ 0)).any id && decide (btwM M xs xs ≤ 0)) := by
        unfold pitB
        rw [List.any_map]
        rfl
      rw [eP] at q
      cases han : (xs.map fun x => decide (x ≠ 0)).any id with
      | false =>
        rw [han] at q
        exact iteF (q H2 S2)
      | true =>
        rw [han, Bool.true_and] at q
        exact iteT (r_op (r_meth1 ⟨_, rfl, mth (hf.same S2).tab ⟨_, rfl, c_worth (hf.same S2) (hx.mono S2) lx bx (fun H5 s5 => ⟨_, _, rfl, rfl, q H5 (S2.trans s5)⟩) ⟨by omega, by decide⟩⟩⟩))
    · rcases ho with ⟨d, av, hn, hl⟩ | ⟨N, ht⟩
      · refine .inl ⟨v, d, n, rfl, av, hl, fun H1 s1 => ⟨_, rfl, ?_⟩⟩
        rw [hn]
        exact iteT (r_ret (q H1 s1))
      · exact .inr ⟨v, N, n, rfl, ht, fun H1 s1 => ⟨_, rfl, iteT (r_ret (q H1 s1))⟩⟩
end
end T29
set_option Elab.async false
set_option linter.all false
set_option maxRecDepth 100000
set_option maxHeartbeats 4000000
namespace T29
open PySem PySem.Spec PyProof.Rows L2 Gd Zn Rp Dn Tb Gn En Zs Ct Op Oc Rg Rt Ro Oa
def midM (M : List (List Int)) : Int := cofM 2 M 0 0 + cofM 2 M 1 1 + cofM 2 M 2 2
def polyM (n : Nat) (M : List (List Int)) : List Int :=
  if n = 1 then [-detM 1 M, 1] else if n = 2 then [detM 2 M, -trM 2 M, 1] else [-detM 3 M, midM M, -trM 3 M, 1]
theorem trmE2 (a b c d : Int) : trM 2 [[a, b], [c, d]] = a + d := by simp [trM, List.range_succ]
theorem trmE3 (a b c d e f g h i : Int) : trM 3 [[a, b, c], [d, e, f], [g, h, i]] = a + e + i := by
  simp [trM, List.range_succ]
  omega
theorem midE (a b c d e f g h i : Int) : midM [[a, b, c], [d, e, f], [g, h, i]] = (e * i - f * h) + (a * i - c * g) + (a * e - b * d) := by
  have h0 : cofM 2 [[a, b, c], [d, e, f], [g, h, i]] 0 0 = e * i - f * h := by
    unfold cofM
    rw [if_pos rfl, show outM [[a, b, c], [d, e, f], [g, h, i]] 0 0 = [[e, f], [h, i]] from rfl, det2]
  have h1 : cofM 2 [[a, b, c], [d, e, f], [g, h, i]] 1 1 = a * i - c * g := by
    unfold cofM
    rw [if_pos rfl, show outM [[a, b, c], [d, e, f], [g, h, i]] 1 1 = [[a, c], [g, i]] from rfl, det2]
  have h2 : cofM 2 [[a, b, c], [d, e, f], [g, h, i]] 2 2 = a * e - b * d := by
    unfold cofM
    rw [if_pos rfl, show outM [[a, b, c], [d, e, f], [g, h, i]] 2 2 = [[a, b], [d, e]] from rfl, det2]
  unfold midM
  rw [h0, h1, h2]
theorem polyE1 (a : Int) : polyM 1 [[a]] = [-a, 1] := by unfold polyM; rw [if_pos rfl, det1]
theorem polyE2 (a b c d : Int) : polyM 2 [[a, b], [c, d]] = [a * d - b * c, -(a + d), 1] := by unfold polyM; rw [if_neg (by decide), if_pos rfl, det2, trmE2]
section
variable {P : Program} {w : World} {K : PySem.W.Frag} {mg : Str → Option Value} {base : Heap} {C : Addr}
abbrev st_trace_of : Stmt := top 33
theorem sc_trace_of : FnScope ["rows", "at", "row"] ["rows"] (defScope st_trace_of) := ⟨rfl, rfl, rfl, by decide +kernel, rfl, by decide +kernel, by decide +kernel⟩
theorem ok_trace_of {f : Addr} {fd : FuncData} (F : Fun K "trace_of" "trace_of" st_trace_of f fd) (T : Txt mg) : FnOk P w K mg base CX0 1 f fd ["rows"] sp_trace_of := by
  refine F.ok sc_trace_of (fun vs H Q E h => ?_) (fun cdv A outer s H vs Q E hr h => ?_)
  · obtain ⟨v, M, n, rfl, _⟩ := h
    rfl
  · obtain ⟨v, M, n, rfl, ⟨a, vx, rfl, ha, hR⟩, hS, h3, q⟩ := h
    refine ⟨_, pss_one (ps_ret (pe_callB (cr_sum rfl) (by rfl) T.sum boot_sum (pa_cons (pe_lc (own := [("at", 1), ("row", 2)]) (g := gTup K 2 (gCons (gName 1) (gCons (gName 2) gNil))) (tt := tYes) rfl sc_trace_of.nd (pi_enumS (by rfl) T.enum (pa_cons (pv 0) pa_nil))
        (blkOk_by (N := ["rows", "at", "row"]) (sc := defScope st_trace_of) (by decide +kernel))
        (fun _ _ _ _ _ => pg_tup rfl (pgs_cons (pg_name (i := 1) sc_trace_of.nd rfl (Or.inl rfl) (Or.inr rfl)) (pgs_cons (pg_name (i := 2) sc_trace_of.nd rfl (Or.inl rfl) (Or.inr rfl)) pgs_nil)))
        (fun _ _ _ _ _ => pts_nil)
        (fun _ _ _ _ _ => pe_ix (r := rIxS2 K) ix_sq (pv 2) (pv 1) (fun _ _ => rfl))) pa_nil))), ?_⟩
    have hvl : vx.length = n := by rw [hR.len]; exact hS.len
    have qb : ∀ H', Same H H' → SqV K H' true a vx := fun H' s => .inl (.inl (s _ _ ha))
    refine r_ret (r_cb (r_cons ?_))
    refine tlc_of (Ite2 K true a) (H1 := H) (fun R hR' => ⟨_, rfl, true, a, vx, rfl, qb H (Same.refl H), hR'⟩) ?_
    refine lc_el (p := none) n (fun i v => v = .int ((M.getD i []).getD i 0)) has_none (by omega) (fun i H2 hi s2 => ?_) (fun H2 s2 => ?_) (fun i x H2 H3 C' hi s2 _ hy hC => ?_) fun Da H2 rs nD s2 hD hrl hE => ?_
    · exact ⟨_, _, qb H2 s2.same, List.getElem?_eq_getElem (by omega)⟩
    · exact ⟨_, qb H2 s2.same, by omega⟩
    · obtain ⟨T2, y, rfl, nT, rfl, hu⟩ := hy
      have ey := hu _ (qb H2 s2.same)
      obtain ⟨r, er, b, rfl, hb⟩ := hR.get ey
      have eg : M.getD i [] = r := by rw [List.getD_eq_getElem?_getD, er]; rfl
      have lr := hS.row r (List.mem_of_getElem? er)
      have hi' : i < r.length := by omega
      have sT : Same H2 (upd H2 T2 (.tup [V.int (i : Nat), .ref b])) := same_new nT
      refine ⟨T2, _, rfl, .inl (.inl upd_same), rfl, _, _, rfl, _, _, rfl, rfl, rfl, ?_⟩
      refine ⟨_, rfl, _, rfl, true, b, _, _, .int (r[i]), rfl, rfl, .inl (.inl (sT _ _ (s2.same _ _ hb))), atI_nat (by simp [hi']), hC _ _ (RX.of sT) ?_⟩
      rw [eg, List.getD_eq_getElem?_getD, List.getElem?_eq_getElem hi']
      rfl
    · have er' : rs = (List.range n).map fun k => V.int ((M.getD k []).getD k 0) := map_of_get (n := 0) _ (by rw [hrl, List.length_range]) fun i v e => by
        have hi : i < n := by rw [← hrl]; exact (List.getElem?_eq_some_iff.mp e).1
        exact ⟨i, List.getElem?_range hi, hE i v e⟩
      refine ⟨Da, (List.range n).map fun k => (M.getD k []).getD k 0, rfl, .inl (.inl ?_), q H2 s2.same⟩
      rw [hD, er', List.map_map]
      rfl
def sp_pol_of : Sp := fun vs H Q _ => ∃ v M n, vs = [v] ∧ Mx H v M ∧ 1 ≤ n ∧ n ≤ 3 ∧ Sq n M ∧ ∀ v' H', Same H H' → RowV H' v' (polyM n M) → Q v' H'
abbrev st_pol_of : Stmt := top 34
abbrev N_pol : List Str := ["rows", "whole", "trace", "middle", "at"]
theorem sc_pol_of : FnScope N_pol ["rows"] (defScope st_pol_of) := ⟨rfl, rfl, rfl, by decide +kernel, rfl, by decide +kernel, by decide +kernel⟩
theorem ok_pol_of {f : Addr} {fd : FuncData} (F : Fun K "polynomial_of" "polynomial_of" st_pol_of f fd) (T : Txt mg) (D1 : ∀ n, Def P w K mg base "determinant_of" (2 * n + 1) ["rows"] (sp_det n)) (D2 : Def P w K mg base "trace_of" 1 ["rows"] sp_trace_of)
    (D3 : ∀ n, Def P w K mg base "cofactor" (2 * n + 2) ["rows", "at", "place"] (sp_cof n)) : FnOk P w K mg base CX0 8 f fd ["rows"] sp_pol_of := by
  refine F.ok sc_pol_of (fun vs H Q E h => ?_) (fun cdv A outer s H vs Q E hr h => ?_)
  · obtain ⟨v, M, n, rfl, _⟩ := h
    rfl
  · obtain ⟨v, M, n, rfl, hv, h1, h3, hS, q⟩ := h
    refine ⟨_, pss_cons (ps_par (i := 1) (j := 2) rfl sc_pol_of.nd rfl rfl (by decide) rfl rfl (pa_cons (pe_def (D1 n) hr (pa_cons (pv 0) pa_nil) (by omega)) (pa_cons (pe_def D2 hr (pa_cons (pv 0) pa_nil)) pa_nil)) (by rfl))
      (pss_cons (ps_if (pt_cmpR op_eq (pe_callB (r := Dn.rLen K) c_len (by rfl) T.len PySem.boot_len (pa_cons (pv 0) pa_nil)) pe_int (nomark _)) (pss_one (ps_ret (pe_tup (pa_cons (pe_un un_neg (pv 1)) (pa_cons pe_int pa_nil))))) pss_nil)
      (pss_cons (ps_if (pt_cmpR op_eq (pe_callB (r := Dn.rLen K) c_len (by rfl) T.len PySem.boot_len (pa_cons (pv 0) pa_nil)) pe_int (nomark _)) (pss_one (ps_ret (pe_tup (pa_cons (pv 1) (pa_cons (pe_un un_neg (pv 2)) (pa_cons pe_int pa_nil)))))) pss_nil)
      (pss_cons (ps_set (i := 3) sc_pol_of.nd rfl (Or.inl rfl) (pe_callB (cr_sum rfl) (by rfl) T.sum boot_sum (pa_cons (pe_lc (own := [("at", 4)]) (g := gName 4) (tt := tYes) rfl sc_pol_of.nd (pi_range1 (by rfl) T.range (pa_cons pe_int pa_nil))
          (blkOk_by (N := N_pol) (sc := defScope st_pol_of) (by decide +kernel))
          (fun _ _ _ _ _ => pg_name (i := 4) sc_pol_of.nd rfl (Or.inl rfl) (Or.inr rfl)) (fun _ _ _ _ _ => pts_nil)
          (fun _ _ _ _ _ => pe_def (X := Cx.blk _ _ _ _ _ _) (D3 2) hr (pa_cons (pv 0) (pa_cons (pv 4) (pa_cons (pv 4) pa_nil))) (by omega))) pa_nil)))
      (pss_one (ps_ret (pe_tup (pa_cons (pe_un un_neg (pv 1)) (pa_cons (pv 3) (pa_cons (pe_un un_neg (pv 2)) (pa_cons pe_int pa_nil)))))))))), ?_⟩
    have hl := hS.len
    refine r_seq (r_par2 (r_cons (a1 ?_)))
    refine ⟨_, rfl, v, M, rfl, hv, by omega, hS, fun H1 s1 => ?_⟩
    have hv1 := hv.mono (KS.of s1)
    refine r_cons (a1 ?_)
    refine ⟨_, rfl, v, M, n, rfl, hv1, ⟨hS.len, hS.row⟩, h3, fun H3 s2 => ?_⟩
    have hv3 := hv1.mono (KS.of s2)
    refine ⟨_, _, rfl, ?_⟩
    have S := s1.trans s2
    obtain ⟨a, vx, rfl, ha, hR⟩ := id hv3
    have hvl : vx.length = n := by rw [hR.len]; exact hl
    refine r_next (r_nif ?_)
    refine ⟨_, rfl, a, vx, rfl, .inr (.inl (.inl ha)), rfl, _, rfl, ?_⟩
    by_cases e1 : n = 1
    · rw [decide_eq_true (show V.int (vx.length : Int) = V.int 1 by rw [hvl, e1]; rfl)]
      refine iteT ?_
      refine r_ret (r_tup ?_)
      refine ⟨_, rfl, _, rfl, (by show 2 ≤ sizeLine; decide), fun p np => ?_⟩
      refine q _ _ (S.trans (same_new np)) ⟨p, rfl, ?_⟩
      rw [upd_same]
      unfold polyM
      rw [if_pos e1, e1]
      rfl
    rw [decide_eq_false (show ¬ V.int (vx.length : Int) = V.int 1 from fun e => e1 (by have := V.int.inj e; omega))]
    refine iteF (r_next (r_nif ?_))
    refine ⟨_, rfl, a, vx, rfl, .inr (.inl (.inl ha)), rfl, _, rfl, ?_⟩
    by_cases e2 : n = 2
    · rw [decide_eq_true (show V.int (vx.length : Int) = V.int 2 by rw [hvl, e2]; rfl)]
      refine iteT ?_
      refine r_ret (r_tup ?_)
      refine ⟨_, rfl, _, rfl, _, rfl, (by show 3 ≤ sizeLine; decide), fun p np => ?_⟩
      refine q _ _ (S.trans (same_new np)) ⟨p, rfl, ?_⟩
      rw [upd_same]
      unfold polyM
      rw [if_neg e1, if_pos e2, e2]
      rfl
    rw [decide_eq_false (show ¬ V.int (vx.length : Int) = V.int 2 from fun e => e2 (by have := V.int.inj e; omega))]
    obtain rfl : n = 3 := by omega
    refine iteF (r_next (r_nseq (r_asg ?_)))
    refine r_cb (r_cons ?_)
    refine tlc_of (Itr 0 3) (H1 := H3) (fun R hR => ⟨_, rfl, by decide, by decide, hR⟩) ?_
    refine lc_el (p := none) 3 (fun i v => v = .int (cofM 2 M i i)) has_none (by omega) (fun i H4 hi s4 => hi) (fun H4 s4 => Nat.le_refl _) (fun i x H4 H5 C' hi s4 _ hy hC => ?_) fun Da H4 rs nD s4 hD hrl hE => ?_
    · obtain ⟨rfl, rfl⟩ := hy
      have ei : (0 : Int) + (i : Int) = (i : Int) := by omega
      rw [ei]
      refine ⟨rfl, ?_⟩
      refine a3 ?_
      refine ⟨_, rfl, _, rfl, _, rfl, _, M, i, i, rfl, hv3.mono (KS.of s4.same), by omega, hS, by omega, by omega, fun H6 s6 => ?_⟩
      exact hC _ _ (RX.of s6) rfl
    · have er' : rs = (List.range 3).map fun k => V.int (cofM 2 M k k) := map_of_get (n := 0) _ (by rw [hrl, List.length_range]) fun i v e => by
        have hi : i < 3 := by rw [← hrl]; exact (List.getElem?_eq_some_iff.mp e).1
        exact ⟨i, List.getElem?_range hi, hE i v e⟩
      refine ⟨Da, (List.range 3).map fun k => cofM 2 M k k, rfl, .inl (.inl ?_), ?_⟩
      · rw [hD, er', List.map_map]
        rfl
      · refine r_nret (r_tup ?_)
        refine ⟨_, rfl, _, rfl, _, rfl, _, rfl, _, rfl, (by show 4 ≤ sizeLine; decide), fun p np => ?_⟩
        refine q _ _ (S.trans (s4.same.trans (same_new np))) ⟨p, rfl, ?_⟩
        rw [upd_same]
        unfold polyM midM
        rw [if_neg (by decide), if_neg (by decide)]
        simp [List.range_succ]
        omega
end
end T29
set_option Elab.async false
set_option linter.all false
set_option maxRecDepth 100000
set_option maxHeartbeats 4000000
namespace T29
open PySem PySem.Spec PyProof.Rows L2 Gd Zn Rp Dn Tb Gn En Zs Ct Op Oc Rg Rt Ro Oa
def Bowl (n : Nat) (M : List (List Int)) : Prop := ∀ i, i < n → 0 < dC M i
instance (n : Nat) (M : List (List Int)) : Decidable (Bowl n M) := inferInstanceAs (Decidable (∀ i, i < n → 0 < dC M i))
theorem crn_mem {n : Nat} {M : List (List Int)} {x : Int} : x ∈ crn n M ↔ ∃ i, i < n ∧ dC M i = x := by
  unfold crn dC
  rw [List.mem_map]
  constructor
  · rintro ⟨i, hi, e⟩; exact ⟨i, List.mem_range.mp hi, e⟩
  · rintro ⟨i, hi, e⟩; exact ⟨i, List.mem_range.mpr hi, e⟩
theorem crn_len {n : Nat} {M : List (List Int)} : (crn n M).length = n := by unfold crn; rw [List.length_map, List.length_range]
theorem bowl_min {n : Nat} {M : List (List Int)} {m : Int} (hm : m ∈ crn n M) (hl : ∀ y, y ∈ crn n M → m ≤ y) : decide (m > 0) = decide (Bowl n M) := by
  refine decide_eq_decide.mpr ⟨fun h i hi => ?_, fun h => ?_⟩
  · have := hl _ (crn_mem.mpr ⟨i, hi, rfl⟩)
    omega
  · obtain ⟨i, hi, rfl⟩ := crn_mem.mp hm
    exact h i hi
def kpt (l : List Int) : List Int := l.filter fun x => decide (x ≠ 0)
def chgT (k : List Int) (i : Nat) : Bool := decide (k.getD i 0 > 0) != decide (k.getD (i + 1) 0 > 0)
def sgA (l : List Int) : Nat := ((List.range ((kpt l).length - 1)).filter (chgT (kpt l))).length
def IsZ (l : List Int) (z : Nat) : Prop := z < l.length ∧ l.getD z 0 ≠ 0 ∧ ∀ i, i < z → l.getD i 0 = 0
theorem filter_ints (l : List Int) (m : Nat) (hm : m ≤ l.length) : ((List.range m).filter fun i => decide (l.getD i 0 ≠ 0)).map (fun i => V.int (l.getD i 0)) = (kpt (l.take m)).map V.int := by
  induction m with
  | zero => simp [kpt]
  | succ m ih =>
    have hm' : m < l.length := hm
    rw [List.range_succ, List.filter_append, List.map_append, ih (by omega), List.take_add_one, List.getElem?_eq_getElem hm']
    unfold kpt
    rw [List.filter_append, List.map_append]
    have e : l.getD m 0 = l[m] := by rw [List.getD_eq_getElem?_getD, List.getElem?_eq_getElem hm']; rfl
    congr 1
    by_cases z : l[m] = 0
    · have : l.getD m 0 = 0 := by rw [e, z]
      rw [List.filter_cons_of_neg (by simp only [this]; decide), Option.toList_some, List.filter_cons_of_neg (by simp only [z]; decide)]
      rfl
    · have : l.getD m 0 ≠ 0 := by rw [e]; exact z
      rw [List.filter_cons_of_pos (by simp only [decide_eq_true_eq]; exact this), Option.toList_some, List.filter_cons_of_pos (by simp only [decide_eq_true_eq]; exact z)]
      show [V.int (l.getD m 0)] = [V.int l[m]]
      rw [e]
section
variable {P : Program} {w : World} {K : PySem.W.Frag} {mg : Str → Option Value} {base : Heap} {C : Addr}
abbrev st_bowl : Stmt := top 46
theorem sc_bowl : FnScope ["form"] ["form"] (defScope st_bowl) := ⟨rfl, rfl, rfl, by decide +kernel, rfl, by decide +kernel, by decide +kernel⟩
def sp_bowl (C : Addr) : Sp := fun vs H Q _ => ∃ v M, ∃ n b : Nat, vs = [v] ∧ Fv C H v n b M ∧ b ≤ 5000 ∧ ∀ H', Same H H' → Q (.bl (decide (Bowl n M))) H'
theorem ok_bowl {f : Addr} {fd : FuncData} (F : Fun K "is_bowl" "is_bowl" st_bowl f fd) (hmin : mg "min" = none) (D1 : Def P w K mg base "corners" 8 ["form"] (sp_corners C)) : FnOk P w K mg base CX0 9 f fd ["form"] (sp_bowl C) := by
  refine F.ok sc_bowl (fun vs H Q E h => ?_) (fun cdv A outer s H vs Q E hr h => ?_)
  · obtain ⟨v, M, n, b, rfl, _⟩ := h
    rfl
  · obtain ⟨v, M, n, b, rfl, hv, lb, q⟩ := h
    refine ⟨_, pss_one (ps_ret (pe_cmpR op_gt (pe_callB (cr_min rfl) (by rfl) hmin boot_min (pa_cons (pe_def D1 hr (pa_cons (pv 0) pa_nil)) pa_nil)) pe_int (nomark _))), ?_⟩
    have h1 := hv.h1
    refine r_ret (r_op (cb1 (a1 ⟨_, rfl, v, M, n, b, rfl, hv, lb, fun Dc H1 s1 hDc => ?_⟩)))
    refine ⟨Dc, crn n M, rfl, .inl (.inl hDc), by rw [crn_len]; omega, fun m hm hl => ⟨_, _, rfl, rfl, ?_⟩⟩
    have e := bowl_min hm hl
    show Q (.bl (decide (m > 0))) H1
    rw [e]
    exact q _ s1
abbrev st_sg : Stmt := top 44
abbrev N_sg : List Str := ["form", "numbers", "kept", "above", "nought", "number", "at"]
theorem sc_sg : FnScope N_sg ["form"] (defScope st_sg) := ⟨rfl, rfl, rfl, by decide +kernel, rfl, by decide +kernel, by decide +kernel⟩
def sp_sg (C : Addr) : Sp := fun vs H Q _ => ∃ v M, ∃ n b : Nat, vs = [v] ∧ Fv C H v n b M ∧ b ≤ 5000 ∧ ∀ p H' z, Same H H' → IsZ (polyM n M) z → H' p = some (.tup [.int (sgA (polyM n M)), .int ((n : Int) - sgA (polyM n M) - z), .int z]) → Q (.ref p) H'
theorem poly_len {n : Nat} {M : List (List Int)} (h1 : 1 ≤ n) (h3 : n ≤ 3) : (polyM n M).length = n + 1 := by
  have : n = 1 ∨ n = 2 ∨ n = 3 := by omega
  rcases this with rfl | rfl | rfl <;> rfl
theorem poly_last {n : Nat} {M : List (List Int)} (h1 : 1 ≤ n) (h3 : n ≤ 3) : (polyM n M).getD n 0 = 1 := by
  have : n = 1 ∨ n = 2 ∨ n = 3 := by omega
  rcases this with rfl | rfl | rfl <;> rfl
theorem ok_sg {f : Addr} {fd : FuncData} (F : Fun K "signs" "signs" st_sg f fd) (T : Txt mg) (hmin : mg "min" = none) (Fc : Fcl K mg C) (D1 : Def P w K mg base "check_form" 1 ["form"] (sp_check_form C)) (D2 : Def P w K mg base "polynomial_of" 8 ["rows"] sp_pol_of) (D3 : Prp P w K mg base C "rows" 1 (sp_rows C)) (D4 : Prp P w K mg base C "size" 1 (sp_size C)) :
    FnOk P w K mg base CX0 9 f fd ["form"] (sp_sg C) := by
  refine F.ok sc_sg (fun vs H Q E h => ?_) (fun cdv A outer s H vs Q E hr h => ?_)
  · obtain ⟨v, M, n, b, rfl, _⟩ := h
    rfl
  · obtain ⟨v, M, n, b, rfl, hv, lb, q⟩ := h
    refine ⟨_, pss_cons (ps_expr (pe_def D1 hr (pa_cons (pv 0) pa_nil)))
      (pss_cons (ps_set (i := 1) sc_sg.nd rfl (Or.inl rfl) (pe_def D2 hr (pa_cons (pe_prp D3 Fc.cl hr (pv 0)) pa_nil)))
      (pss_cons (ps_set (i := 2) sc_sg.nd rfl (Or.inr rfl) (pe_lc (own := [("number", 5)]) (g := gName 5) rfl sc_sg.nd (pi_seq (pv 1))
        (blkOk_by (N := N_sg) (sc := defScope st_sg) (by decide +kernel)) (fun _ _ _ _ _ => pg_name (i := 5) sc_sg.nd rfl (Or.inl rfl) (Or.inr rfl)) (fun _ _ _ _ _ => pts_one (pt_cmpR op_ne (pv 5) pe_int (nomark _))) (fun _ _ _ _ _ => pv 5)))
      (pss_cons (ps_set (i := 3) sc_sg.nd rfl (Or.inl rfl) (pe_callB (r := Dn.rLen K) c_len (by rfl) T.len PySem.boot_len (pa_cons (pe_lc (own := [("at", 6)]) (g := gName 6) rfl sc_sg.nd (pi_range2 (by rfl) T.range (pa_cons pe_int (pa_cons (pe_callB (r := Dn.rLen K) c_len (by rfl) T.len PySem.boot_len (pa_cons (pv 2) pa_nil)) pa_nil)))
        (blkOk_by (N := N_sg) (sc := defScope st_sg) (by decide +kernel)) (fun _ _ _ _ _ => pg_name (i := 6) sc_sg.nd rfl (Or.inl rfl) (Or.inr rfl))
        (fun _ _ _ _ _ => pts_one (pt_cmpR op_ne (pe_cmpR op_gt (pe_ix (r := rIxS2 K) ix_sq (pv 2) (pe_op op_sub (pv 6) pe_int) (fun _ _ => rfl)) pe_int (nomark _)) (pe_cmpR op_gt (pe_ix (r := rIxS2 K) ix_sq (pv 2) (pv 6) (fun _ _ => rfl)) pe_int (nomark _)) (nomark _))) (fun _ _ _ _ _ => pv 6)) pa_nil)))
      (pss_cons (ps_set (i := 4) sc_sg.nd rfl (Or.inl rfl) (pe_callB (cr_min rfl) (by rfl) hmin boot_min (pa_cons (pe_lc (own := [("at", 6), ("number", 5)]) (g := gTup K 2 (gCons (gName 6) (gCons (gName 5) gNil))) rfl sc_sg.nd (pi_enumS (by rfl) T.enum (pa_cons (pv 1) pa_nil))
        (blkOk_by (N := N_sg) (sc := defScope st_sg) (by decide +kernel)) (fun _ _ _ _ _ => pg_tup rfl (pgs_cons (pg_name (i := 6) sc_sg.nd rfl (Or.inl rfl) (Or.inr rfl)) (pgs_cons (pg_name (i := 5) sc_sg.nd rfl (Or.inl rfl) (Or.inr rfl)) pgs_nil)))
        (fun _ _ _ _ _ => pts_one (pt_cmpR op_ne (pv 5) pe_int (nomark _))) (fun _ _ _ _ _ => pv 6)) pa_nil)))
      (pss_one (ps_ret (pe_tup (pa_cons (pv 3) (pa_cons (pe_op op_sub (pe_op op_sub (pe_prp D4 Fc.cl hr (pv 0)) (pv 3)) (pv 4)) (pa_cons (pv 4) pa_nil))))))))))
      , ?_⟩
    have h1 := hv.h1
    have h3 := hv.h3
    refine ⟨_, rfl, v, M, rfl, hv.tab, ?_⟩
    obtain ⟨p0, dx0, r0, rfl, hp0, hM0⟩ := id hv.tab
    refine r_next (r_nseq (r_asg (a1 ⟨_, rfl, p0, dx0, _, rfl, hp0, .ref p0, M, rfl, hv.tab, fun r hr' => ?_⟩)))
    refine ⟨r, M, n, rfl, hr', h1, h3, hv.bd.sq (by omega), fun v1 H1 s1 m1 => ?_⟩
    obtain ⟨pa, rfl, hpa⟩ := m1
    have lp := poly_len (M := M) h1 h3
    have ll := poly_last (M := M) h1 h3
    generalize polyM n M = l at hpa lp ll q
    have qa : ∀ H', Same H1 H' → SqV K H' true pa (l.map V.int) := fun H' u => .inl (.inl (u _ _ hpa))
    have ga : ∀ i, i < n + 1 → (l.map V.int)[i]? = some (V.int (l.getD i 0)) := fun i hi => by
      rw [List.getElem?_map, List.getElem?_eq_getElem (by omega : i < l.length), List.getD_eq_getElem?_getD, List.getElem?_eq_getElem (by omega : i < l.length)]
      rfl
    refine r_next (r_nseq (r_asg (tlc_call ⟨_, rfl, true, pa, _, rfl, qa _ (Same.refl _), ?_⟩)))
    refine lc_if (p := none) (n + 1) (fun i => decide (l.getD i 0 ≠ 0)) (fun i => V.int (l.getD i 0)) has_none (by omega) (fun i H2 hi s2 => its_go (t := true) (qa _ s2.same) (ga i hi)) (fun H2 s2 => its_stop (t := true) (qa _ s2.same) (by rw [List.length_map, lp]; exact Nat.le_refl _)) (fun i x H2 H3 C1 C0 hi s2 _ hy hC hC0 => ?_) fun Dk H2 nDk s2 hDk => ?_
    · obtain ⟨e2, ex⟩ := its_yld (t := true) hy (qa _ s2.same)
      subst e2
      rw [ga i hi] at ex
      cases ex
      refine ⟨rfl, _, rfl, rfl, _, rfl, ?_⟩
      by_cases z : l.getD i 0 = 0
      · rw [show (!decide (V.int (l.getD i 0) = V.int 0)) = false by rw [z]; rfl]
        exact iteF (hC0 _ (RX.refl _) (by simp only [z]; decide))
      · rw [show (!decide (V.int (l.getD i 0) = V.int 0)) = true by rw [decide_eq_false (fun e => z (V.int.inj e))]; rfl]
        exact iteT ⟨_, rfl, hC _ (RX.refl _) (by simp only [decide_eq_true_eq]; exact z)⟩
    · rw [filter_ints l (n + 1) (by omega), List.take_of_length_le (by omega)] at hDk
      have hk : sgA l = ((List.range ((kpt l).length - 1)).filter (chgT (kpt l))).length := rfl
      have lk : (kpt l).length ≤ n + 1 := by rw [← lp]; exact List.length_filter_le _ _
      generalize kpt l = k at hDk hk lk
      have qk : ∀ H', Same H2 H' → SqV K H' false Dk (k.map V.int) := fun H' u => .inl (.inl (u _ _ hDk))
      have S2 := s1.trans s2.same
      refine r_next (r_nseq (r_asg (cb1 (tlc_call ⟨_, rfl, Dk, _, rfl, .inl (.inl (.inl hDk)), 1, _, rfl, ⟨by omega, by omega, by omega, by rw [List.length_map]; omega⟩, ?_⟩))))
      rw [show ((((k.map V.int).length : Nat) : Int) - 1).toNat = k.length - 1 by rw [List.length_map]; omega]
      refine lc_if (p := none) (k.length - 1) (chgT k) (fun i => V.int (1 + (i : Int))) has_none (by omega) (fun i H3 hi s3 => hi) (fun H3 s3 => Nat.le_refl _) (fun i x H3 H4 C1 C0 hi s3 _ hy hC hC0 => ?_) fun Da H3 nDa s3 hDa => ?_
      · obtain ⟨rfl, rfl⟩ := hy
        refine ⟨rfl, r_tt (r_op (r_op (r_op ⟨_, rfl, r_op ⟨_, rfl, _, _, rfl, rfl, ?_⟩⟩)))⟩
        refine ⟨false, Dk, k.map V.int, (i : Int), V.int (k.getD i 0), rfl, congrArg V.int (by omega), qk _ s3.same, ixL (by omega), _, _, rfl, rfl, r_op (r_op ⟨_, rfl, _, rfl, ?_⟩)⟩
        refine ⟨false, Dk, k.map V.int, ((i + 1 : Nat) : Int), V.int (k.getD (i + 1) 0), rfl, congrArg V.int (by omega), qk _ s3.same, ixL (by omega), _, _, rfl, rfl, rfl, _, rfl, ?_⟩
        have ec : chgT k i = (!decide (V.bl (decide (k.getD i 0 > 0)) = V.bl (decide (k.getD (i + 1) 0 > 0)))) := by
          unfold chgT
          cases decide (k.getD i 0 > 0) <;> cases decide (k.getD (i + 1) 0 > 0) <;> rfl
        show (if (!decide (V.bl (decide (k.getD i 0 > 0)) = V.bl (decide (k.getD (i + 1) 0 > 0)))) = true then _ else _)
        rw [← ec]
        cases hc : chgT k i with
        | true => exact iteT ⟨_, rfl, hC _ (RX.refl _) hc⟩
        | false => exact iteF (hC0 _ (RX.refl _) hc)
      · have S3 := S2.trans s3.same
        refine ⟨Da, _, rfl, .inl (.inl (.inl hDa)), ?_⟩
        rw [List.length_map, ← hk]
        have qa3 : ∀ H', Same H3 H' → SqV K H' true pa (l.map V.int) := fun H' u => qa _ (s2.same.trans (s3.same.trans u))
        refine r_next (r_nseq (r_asg (cb1 (tlc_call ⟨_, rfl, true, pa, _, rfl, qa3 _ (Same.refl _), ?_⟩))))
        refine lc_if (p := none) (n + 1) (fun i => decide (l.getD i 0 ≠ 0)) (fun i => V.int (i : Nat)) has_none (by omega) (fun i H4 hi s4 => ⟨_, _, qa3 H4 s4.same, ga i hi⟩) (fun H4 s4 => ⟨_, qa3 H4 s4.same, by rw [List.length_map, lp]; exact Nat.le_refl _⟩) (fun i x H4 H5 C1 C0 hi s4 _ hy hC hC0 => ?_) fun Dn' H4 nDn s4 hDn => ?_
        · obtain ⟨T2, y, rfl, nT, rfl, hu⟩ := hy
          have ey := hu _ (qa3 H4 s4.same)
          rw [ga i hi] at ey
          cases ey
          refine ⟨T2, _, rfl, .inl (.inl upd_same), rfl, _, _, rfl, _, _, rfl, rfl, rfl, ?_⟩
          refine ⟨_, rfl, rfl, _, rfl, ?_⟩
          by_cases z : l.getD i 0 = 0
          · rw [show (!decide (V.int (l.getD i 0) = V.int 0)) = false by rw [z]; rfl]
            exact iteF (hC0 _ (RX.new nT) (by simp only [z]; decide))
          · rw [show (!decide (V.int (l.getD i 0) = V.int 0)) = true by rw [decide_eq_false (fun e => z (V.int.inj e))]; rfl]
            exact iteT ⟨_, rfl, hC _ (RX.new nT) (by simp only [decide_eq_true_eq]; exact z)⟩
        · have S4 := S3.trans s4.same
          have emem : ∀ m : Int, m ∈ (((List.range (n + 1)).filter fun i => decide (l.getD i 0 ≠ 0)).map fun i : Nat => (i : Int)) ↔ ∃ z : Nat, z < n + 1 ∧ l.getD z 0 ≠ 0 ∧ (z : Int) = m := fun m => by
            rw [List.mem_map]
            constructor
            · rintro ⟨z, hz, e⟩
              rw [List.mem_filter, List.mem_range, decide_eq_true_eq] at hz
              exact ⟨z, hz.1, hz.2, e⟩
            · rintro ⟨z, a, b, e⟩
              exact ⟨z, by rw [List.mem_filter, List.mem_range, decide_eq_true_eq]; exact ⟨a, b⟩, e⟩
          refine ⟨Dn', ((List.range (n + 1)).filter fun i => decide (l.getD i 0 ≠ 0)).map fun i : Nat => (i : Int), rfl, .inl (.inl (by rw [hDn, List.map_map]; rfl)), ?_, fun m hm hle => ?_⟩
          · have : (n : Int) ∈ (((List.range (n + 1)).filter fun i => decide (l.getD i 0 ≠ 0)).map fun i : Nat => (i : Int)) := (emem _).mpr ⟨n, by omega, by rw [ll]; decide, rfl⟩
            exact List.length_pos_of_mem this
          · obtain ⟨z, hz, z0, rfl⟩ := (emem m).mp hm
            have isz : IsZ l z := ⟨by omega, z0, fun i hi => Classical.byContradiction fun c => by
              have := hle _ ((emem (i : Int)).mpr ⟨i, by omega, c, rfl⟩)
              omega⟩
            refine r_next (r_nret (r_tup ⟨_, rfl, r_cons (r_op (r_op ⟨_, rfl, p0, dx0, _, rfl, S4 _ _ hp0, .ref p0, M, rfl, hv.tab.same S4, ?_⟩))⟩))
            rw [hv.len]
            refine ⟨_, rfl, _, _, rfl, rfl, _, rfl, _, _, rfl, rfl, _, rfl, (by show 3 ≤ sizeLine; decide), fun t nt => ?_⟩
            exact q t _ z (S4.trans (same_new nt)) isz upd_same
end
end T29
set_option Elab.async false
set_option linter.all false
set_option maxRecDepth 100000
set_option maxHeartbeats 4000000
namespace T29
open PySem PySem.Spec PyProof.Rows L2 Gd Zn Rp Dn Tb Gn En Zs Ct Op Oc Rg Rt Ro Oa
/-- a global name that stands for a built-in -/
theorem pe_callV {X : Cx} {x : Str} {id : String} {r : List V → Hp → VK → Prop} {e : Expr} {es : List Expr} {t : TA} {p pos : Pos} (hc : CallR X (.builtin id) r) (hg : Gl X x) (hm : X.mg x = some (.builtin id)) (ha : PA X (e :: es) t) (hdb : (x == ("__debug__" : Str)) = false := by decide)
    (he : starEach (e :: es) X.env = (false, eval e X.env) :: starEach es X.env := by rfl) (hpl : (backTo pos (starEach es X.env)).any (·.1) = false := by rfl) : PE X (.Call (.Name x p) (e :: es) [] pos) (tCB r t) := by
  refine ⟨fun pins s σ H Q I h => ?_⟩
  refine wpAny_Call_Name_kw (ld_glob I hg hm ?_ hdb)
  exact callWith_method1 (thn (ha.run pos pins s σ H _ I h) fun us s1 ⟨vs, H1, I1, rv, q⟩ => hc pins s1 σ H1 vs us Q I1 rv q) he hpl
end T29
set_option Elab.async false
set_option linter.all false
set_option maxRecDepth 100000
set_option maxHeartbeats 4000000
namespace T29
open PySem PySem.Spec PyProof.Rows L2 Gd Zn Rp Dn Tb Gn En Zs Ct Op Oc Rg Rt Ro Oa
structure NewM (H H' : Hp) (D : Addr) (M : List (List Int)) : Prop where
  py : PyV H' (.ref D) (lmD M)
  hid : ∀ p, H p ≠ none → PyV (Dn.hid (some p) H') (.ref D) (lmD M)
theorem NewM.to {H H' H2 : Hp} {D : Addr} {M : List (List Int)} (h : NewM H H' D M) (s : Same H' H2) : NewM H H2 D M := ⟨h.py.mono s, fun p hp => PyV.mono (RX.of (p := some p) s).hid (h.hid p hp)⟩
theorem Same.some_ {H H' : Hp} (s : Same H H') : ∀ p, H p ≠ none → H' p ≠ none := fun p hp e => by
  cases h : H p with
  | none => exact hp h
  | some o => rw [s p o h] at e; cases e
end T29
set_option Elab.async false
set_option linter.all false
set_option maxRecDepth 100000
set_option maxHeartbeats 4000000
set_option Elab.async false
set_option linter.all false
set_option maxRecDepth 100000
set_option maxHeartbeats 4000000
namespace T29
open PySem PySem.Spec PyProof.Rows L2 Gd Zn Rp Dn Tb Gn En Zs Ct Op Oc Rg Rt Ro Oa
section
variable {P : Program} {w : World} {K : PySem.W.Frag} {mg : Str → Option Value} {base : Heap} {C : Addr}
abbrev st_ltab : Stmt := top 61
abbrev N_ltab : List Str := ["_law_pot_here", "_law_size", "_law_found", "_law_turn", "_law_near", "_law_number", "_law_far", "_law_entry", "_law_at"]
theorem sc_ltab : FnScope N_ltab ["_law_pot_here", "_law_size"] (defScope st_ltab) := ⟨rfl, rfl, rfl, by decide +kernel, rfl, by decide +kernel, by decide +kernel⟩
theorem LM.py {p : Addr} {H : Hp} {a : Addr} {M : List (List Int)} {vs : List V} (h : LM H p a M vs) (hap : a ≠ p) : PyV (hid (some p) H) (.ref a) (lmD M) := by
  refine py_lm (by rw [hid_at (fun z => hap (by cases z; rfl))]; exact h.at_) h.len fun i v e => ?_
  obtain ⟨b, e1, e2, e3, e4⟩ := h.get i v e
  exact ⟨b, e1, by rw [hid_at (fun z => e4 (by cases z; rfl))]; exact e2⟩
theorem ok_ltab {f : Addr} {fd : FuncData} (F : Fun K "_law_table" "_law_table" st_ltab f fd) (T : Txt mg) (D1 : Def P w K mg base "_law_draw" 1 ["_law_pot_here", "_law_size"] sp_draw) : FnOk P w K mg base CX0 2 f fd ["_law_pot_here", "_law_size"] sp_ltab := by
  refine F.ok sc_ltab (fun vs H Q E h => ?_) (fun cdv A outer s H vs Q E hr h => ?_)
  · obtain ⟨p, n, rfl, _⟩ := h
    rfl
  · obtain ⟨p, n, rfl, hp, h1, h3, q⟩ := h
    refine ⟨_, pss_cons (ps_set (i := 2) sc_ltab.nd rfl (Or.inr rfl) (pe_lc (own := [("_law_near", 4)]) (g := gName 4) (tt := tYes) rfl sc_ltab.nd (pi_range1 (by rfl) T.range (pa_cons (pv 1) pa_nil))
        (blkOk_by (N := N_ltab) (sc := defScope st_ltab) (by decide +kernel)) (fun _ _ _ _ _ => pg_name (i := 4) sc_ltab.nd rfl (Or.inr rfl) (Or.inl rfl)) (fun _ _ _ _ _ => pts_nil)
        (fun s' H' C' cl' fp' => by
          refine pe_lc (own := [("_law_far", 6)]) (wi := iRng1 (tCons (tVar 1) tNil)) (g := gName 6) (tt := tYes) (te := tIf (tTest (tOp rEq (tVar 4) (tVar 6))) (tC (.int 1)) (tC (.int 0))) rfl sc_ltab.nd ?p1 ?p2 ?p3 ?p4 ?p5
          case p1 => exact pi_range1 (by rfl) T.range (pa_cons (pv 1) pa_nil)
          case p2 => exact blkOk_by (N := N_ltab) (by rfl)
          case p3 => exact (fun _ _ _ _ _ => pg_name (i := 6) sc_ltab.nd rfl (Or.inl rfl) (Or.inr rfl))
          case p4 => exact (fun _ _ _ _ _ => pts_nil)
          case p5 => exact (fun _ _ _ _ _ => pe_ifExp (pt_cmpR op_eq (pv 4) (pv 6) (nomark _)) pe_int pe_int))))
      (pss_cons (ps_for PassesOwn.never rfl (pi_range1 (by rfl) T.range (pa_cons (pe_op op_add pe_int (pe_def D1 hr (pa_cons (pv 0) (pa_cons pe_int pa_nil)))) pa_nil)) (pg_name (i := 3) sc_ltab.nd rfl (Or.inl rfl))
        (pss_cons (ps_asg (pe_tup (pa_cons (pe_def D1 hr (pa_cons (pv 0) (pa_cons (pv 1) pa_nil))) (pa_cons (pe_op op_sub (pe_def D1 hr (pa_cons (pv 0) (pa_cons pe_int pa_nil))) pe_int) pa_nil))) (pg_tup rfl (pgs_cons (pg_name (i := 4) sc_ltab.nd rfl (Or.inr rfl)) (pgs_cons (pg_name (i := 5) sc_ltab.nd rfl (Or.inr rfl)) pgs_nil))))
        (pss_cons (ps_set (i := 6) sc_ltab.nd rfl (Or.inr rfl) (pe_def D1 hr (pa_cons (pv 0) (pa_cons (pv 1) pa_nil))))
        (pss_one (ps_if (pt_cmpR op_eq (pv 4) (pv 6) (nomark _))
          (pss_one (ps_asg (pe_lc (own := [("_law_entry", 7)]) (g := gName 7) (tt := tYes) rfl sc_ltab.nd (pi_seq (pe_ix ix_sq (pv 2) (pv 4) (fun _ _ => rfl)))
            (blkOk_by (N := N_ltab) (sc := defScope st_ltab) (by decide +kernel)) (fun _ _ _ _ _ => pg_name (i := 7) sc_ltab.nd rfl (Or.inl rfl) (Or.inr rfl)) (fun _ _ _ _ _ => pts_nil)
            (fun _ _ _ _ _ => pe_op op_sub pe_int (pv 7))) (pg_sub (pv 2) (pv 4) set_list)))
          (pss_cons (ps_asg (pe_lc (own := [("_law_at", 8)]) (g := gName 8) (tt := tYes) rfl sc_ltab.nd (pi_range1 (by rfl) T.range (pa_cons (pv 1) pa_nil))
            (blkOk_by (N := N_ltab) (sc := defScope st_ltab) (by decide +kernel)) (fun _ _ _ _ _ => pg_name (i := 8) sc_ltab.nd rfl (Or.inl rfl) (Or.inr rfl)) (fun _ _ _ _ _ => pts_nil)
            (fun _ _ _ _ _ => pe_op op_add (pe_ix (r := rIxS2 K) ix_sq (pe_ix (r := rIxS2 K) ix_sq (pv 2) (pv 4) (fun _ _ => rfl)) (pv 8) (fun _ _ => rfl)) (pe_op op_mul (pv 5) (pe_ix (r := rIxS2 K) ix_sq (pe_ix (r := rIxS2 K) ix_sq (pv 2) (pv 6) (fun _ _ => rfl)) (pv 8) (fun _ _ => rfl))))) (pg_sub (pv 2) (pv 4) set_list))
          (pss_one (ps_asg (pe_tup (pa_cons (pe_ix ix_sq (pv 2) (pv 6) (fun _ _ => rfl)) (pa_cons (pe_ix ix_sq (pv 2) (pv 4) (fun _ _ => rfl)) pa_nil))) (pg_tup rfl (pgs_cons (pg_sub (pv 2) (pv 4) set_list) (pgs_cons (pg_sub (pv 2) (pv 6) set_list) pgs_nil))))))))))
      ) (pss_one (ps_ret (pv 2)))), ?_⟩
    have hh : Has (some p) H := fun q e => by cases e; exact hp
    refine r_seq (r_asg (tlc_call ⟨_, rfl, (n : Int), rfl, by omega, by omega, ?_⟩))
    rw [Int.toNat_natCast]
    refine lc_fresh2 (p := some p) n (fun i => .lst (((unitM n).getD i []).map V.int)) hh (by omega) (fun i H2 hi s2 => hi) (fun H2 s2 => Nat.le_refl _) (fun i x H2 H3 C' hi s2 hp2 hy hC => ?_) fun D H2 rs nD s2 hD hrl hE => ?_
    · obtain ⟨rfl, rfl⟩ := hy
      have eM : (unitM n)[i]? = some ((List.range n).map fun j => if j = i then 1 else 0) := by unfold unitM; rw [List.getElem?_map, List.getElem?_range hi]; rfl
      refine ⟨rfl, tlc_call ⟨_, rfl, (n : Int), rfl, by omega, by omega, ?_⟩⟩
      rw [Int.toNat_natCast]
      refine lc_el (p := none) n (fun j v => v = .int (if j = i then 1 else 0)) has_none (by omega) (fun j H4 hj s4 => hj) (fun H4 s4 => Nat.le_refl _) (fun j x H4 H5 C2 hj s4 _ hy2 hC2 => ?_) fun Db H4 ys nDb s4 hDb hyl hyE => ?_
      · obtain ⟨rfl, rfl⟩ := hy2
        refine ⟨rfl, ?_⟩
        refine ⟨_, rfl, _, rfl, rfl, _, rfl, ?_⟩
        by_cases z : j = i
        · rw [decide_eq_true (show V.int (0 + (i : Int)) = V.int (0 + (j : Int)) by rw [z])]
          exact iteT (hC2 _ _ (RX.refl _) (by rw [if_pos z]))
        · rw [decide_eq_false (show ¬ V.int (0 + (i : Int)) = V.int (0 + (j : Int)) from fun e => z (by have := V.int.inj e; omega))]
          exact iteF (hC2 _ _ (RX.refl _) (by rw [if_neg z]))
      · have ey : ys = (List.range n).map fun j => V.int (if j = i then 1 else 0) := map_of_get (n := 0) _ (by rw [hyl, List.length_range]) fun j v e => by
          have hj : j < n := by rw [← hyl]; exact (List.getElem?_eq_some_iff.mp e).1
          exact ⟨j, List.getElem?_range hj, hyE j v e⟩
        refine hC Db _ (RX.of s4.same) nDb ?_
        rw [hDb, ey, getD_of eM, List.map_map]
        rfl
    · have hL : LM H2 p D (unitM n) rs := ⟨hD, by rw [hrl, (unit_sq n).len], fun i v e => by
        obtain ⟨c, e1, e2, e3, e4, _⟩ := hE i v e
        exact ⟨c, e1, e2, e3, fun z => e4 (by rw [z])⟩⟩
      have hDp : D ≠ p := fun z => (hh.ne nD) (by rw [z])
      refine r_next (r_nseq ?_)
      refine ⟨_, rfl, p, 3, rfl, s2.pot p rfl hp, by decide, by decide, fun r H3 r0 r1 s3 => ?_⟩
      refine ⟨_, _, rfl, rfl, 1 + r, rfl, by omega, by omega, ?_⟩
      refine for_range (lo := 0) (n := (1 + r).toNat) (fun i σ H9 => ∃ (x3 x4 x5 x6 x7 x8 : Option V) (M : List (List Int)) (vs : List V), σ = [some (.ref p), some (.int n), some (.ref D), x3, x4, x5, x6, x7, x8] ∧ RX (some p) H H9 ∧ LM H9 p D M vs ∧ SqB n (3 ^ i) M ∧ (detM n M = 1 ∨ detM n M = -1))
        ⟨_, _, _, _, _, _, _, _, rfl, s2.trans s3, hL.mono s3 hDp, (by rw [Int.pow_zero]; exact unit_sqB n), .inl (det_unit n h3)⟩ (fun i σ H4 hi hP => ?_) (fun σ H4 hP => ?_)
      · obtain ⟨x3, x4, x5, x6, x7, x8, M, vs, rfl, s4, hM4, hB, hdet⟩ := hP
        have e3 : (3 : Int) ^ (i + 1) = 3 * 3 ^ i := by rw [Int.pow_succ]; omega
        have p3 : (0 : Int) < 3 ^ i := Int.pow_pos (by decide)
        have toB : ∀ {M' : List (List Int)}, SqB n (3 ^ i) M' → SqB n (3 ^ (i + 1)) M' := fun h => h.mono (by omega)
        refine r_seq (r_asg ?_)
        refine ⟨_, rfl, _, rfl, p, (n : Int), rfl, s4.pot p rfl hp, by omega, by omega, fun a H5 a0 a1 s5 => ?_⟩
        refine ⟨_, rfl, p, 5, rfl, (s4.trans s5).pot p rfl hp, by decide, by decide, fun c H6 c0 c1 s6 => ⟨_, _, rfl, rfl, (by show 2 ≤ sizeLine; decide), fun t nt => ?_⟩⟩
        have sT : RX (some p) H6 (upd H6 t (.tup [V.int a, V.int (c - 2)])) := RX.new nt
        refine ⟨t, _, rfl, .inl (.inl upd_same), rfl, _, _, rfl, _, _, rfl, rfl, ?_⟩
        generalize upd H6 t (.tup [V.int a, V.int (c - 2)]) = H7 at sT
        have s7 := s4.trans (s5.trans (s6.trans sT))
        have hM7 := hM4.mono (s5.trans (s6.trans sT)) hDp
        refine r_next (r_nseq (r_asg (a2 ⟨_, rfl, _, rfl, p, (n : Int), rfl, s7.pot p rfl hp, by omega, by omega, fun b H8 b0 b1 s8 => ?_⟩)))
        have s78 := s7.trans s8
        have hM8 := hM7.mono s8 hDp
        obtain ⟨i', rfl⟩ : ∃ i' : Nat, a = (i' : Int) := ⟨a.toNat, by omega⟩
        obtain ⟨j', rfl⟩ : ∃ j' : Nat, b = (j' : Int) := ⟨b.toNat, by omega⟩
        have hi' : i' < n := by omega
        have hj' : j' < n := by omega
        have hvi : i' < vs.length := by rw [hM8.len, hB.len]; exact hi'
        have hvj : j' < vs.length := by rw [hM8.len, hB.len]; exact hj'
        have hp8 := s78.pot p rfl hp
        obtain ⟨bi, ebi, hbi, bia, bip⟩ := hM8.row (i := i') (by rw [hB.len]; exact hi')
        obtain ⟨bj, ebj, hbj, bja, bjp⟩ := hM8.row (i := j') (by rw [hB.len]; exact hj')
        have lri := hB.row _ (getD_mem (M := M) (i := i') (by rw [hB.len]; exact hi'))
        have lrj := hB.row _ (getD_mem (M := M) (i := j') (by rw [hB.len]; exact hj'))
        refine r_next (n_if ⟨_, rfl, _, rfl, rfl, _, rfl, ?_⟩)
        by_cases z : i' = j'
        · rw [decide_eq_true (show V.int (i' : Int) = V.int (j' : Int) by rw [z])]
          refine iteT (r_asg (tlc_call ?_))
          generalize hr : M.getD i' [] = r2 at hbi lri
          have qb : ∀ H', Same H8 H' → SqV K H' false bi (r2.map V.int) := fun H' s => .inl (.inl (s _ _ hbi))
          refine ⟨_, rfl, _, rfl, false, D, vs, (i' : Int), _, rfl, rfl, .inl (.inl hM8.at_), atI_nat ebi, false, bi, _, rfl, qb H8 (Same.refl H8), ?_⟩
          refine lc_el (p := none) n (fun j v => ∃ x, r2[j]? = some x ∧ v = .int (0 - x)) has_none (by omega) (fun j H4 hj s4 => its_go (qb H4 s4.same) (List.getElem?_eq_getElem (by rw [List.length_map]; omega))) (fun H4 s4 => its_stop (qb H4 s4.same) (by rw [List.length_map]; omega)) (fun j x H4 H5 C2 hj s4 _ hy2 hC2 => ?_) fun Db H9 ys nDb s9 hDb hyl hyE => ?_
          · obtain ⟨rfl, ex2⟩ := its_yld hy2 (qb H4 s4.same)
            have hj2 : j < r2.length := by omega
            rw [List.getElem?_map, List.getElem?_eq_getElem hj2] at ex2
            cases ex2
            refine ⟨rfl, ?_⟩
            exact ⟨_, rfl, _, _, rfl, rfl, hC2 _ _ (RX.refl _) ⟨_, List.getElem?_eq_getElem hj2, rfl⟩⟩
          · have ey : ys = (negR r2).map V.int := by
              unfold negR
              rw [List.map_map]
              exact map_of_get (n := 0) _ (by rw [hyl, lri]) hyE
            have hM9 := hM8.mono (RX.of s9.same) hDp
            have nDa : Db ≠ D := (ne_of_none hM8.at_ nDb).symm
            refine ⟨_, rfl, _, rfl, D, vs, _, i', rfl, rfl, hM9.at_, ixN_at hvi, ?_⟩
            have hL9 : LM (upd H9 D (.lst (vs.set i' (.ref Db)))) p D (stepN M i') (vs.set i' (.ref Db)) := by
              have := hM9.put (i := i') (b := Db) (r := negR r2) (by rw [hDb, ey]) nDa (fun z => by subst z; exact hp8.some_ nDb)
              unfold stepN
              rw [hr]
              exact this
            exact ⟨_, _, _, _, _, _, _, _, rfl, (s78.trans (RX.of s9.same)).mut nD hh, hL9, toB (hB.neg hi'), by rw [det_neg hB h1 h3 hi']; omega⟩
        · rw [decide_eq_false (show ¬ V.int (i' : Int) = V.int (j' : Int) from fun e => z (by have := V.int.inj e; omega))]
          refine iteF (r_seq (r_asg (tlc_call ?_)))
          have cb : -2 ≤ c - 2 ∧ c - 2 ≤ 2 := by omega
          obtain ⟨c', ec⟩ : ∃ c' : Int, c - 2 = c' := ⟨_, rfl⟩
          rw [ec] at cb
          generalize hri : M.getD i' [] = ri at hbi lri
          generalize hrj : M.getD j' [] = rj at hbj lrj
          refine ⟨_, rfl, (n : Int), rfl, by omega, by omega, ?_⟩
          rw [Int.toNat_natCast]
          refine lc_el (p := none) n (fun l v => ∃ x y, ri[l]? = some x ∧ rj[l]? = some y ∧ v = .int (x + c' * y)) has_none (by omega) (fun j H4 hj s4 => hj) (fun H4 s4 => Nat.le_refl _) (fun l x H4 H5 C2 hl s4 _ hy2 hC2 => ?_) fun Db H9 ys nDb s9 hDb hyl hyE => ?_
          · obtain ⟨rfl, rfl⟩ := hy2
            have hMz := hM8.mono (RX.of s4.same) hDp
            have l1 : l < ri.length := by omega
            have l2 : l < rj.length := by omega
            rw [show (0 : Int) + (l : Int) = (l : Int) by omega]
            refine ⟨rfl, ?_⟩
            refine ⟨_, rfl, _, rfl, false, D, vs, _, _, rfl, rfl, .inl (.inl hMz.at_), atI_nat ebi, _, rfl, false, bi, _, _, _, rfl, rfl, .inl (.inl (s4.same _ _ hbi)), ixL l1, ?_⟩
            refine ⟨_, rfl, _, rfl, _, rfl, false, D, vs, _, _, rfl, rfl, .inl (.inl hMz.at_), atI_nat ebj, _, rfl, false, bj, _, _, _, rfl, rfl, .inl (.inl (s4.same _ _ hbj)), ixL l2, _, _, rfl, rfl, .inl ⟨by omega, by omega⟩, _, _, rfl, rfl, ?_⟩
            refine hC2 _ _ (RX.refl _) ⟨_, _, List.getElem?_eq_getElem l1, List.getElem?_eq_getElem l2, ?_⟩
            rw [List.getD_eq_getElem?_getD, List.getD_eq_getElem?_getD, List.getElem?_eq_getElem l1, List.getElem?_eq_getElem l2]
            show V.int (ri[l] + (c - 2) * rj[l]) = _
            rw [ec]
          · have ey : ys = (addR c' ri rj).map V.int := by
              unfold addR
              rw [List.map_map]
              exact map_of_get (n := 0) _ (by simp [hyl, lri, lrj]) fun i v e => by
                obtain ⟨x, y, e1, e2, e3⟩ := hyE i v e
                exact ⟨(x, y), by rw [List.getElem?_zip_eq_some]; exact ⟨e1, e2⟩, e3⟩
            have hM9 := hM8.mono (RX.of s9.same) hDp
            have nDa : Db ≠ D := (ne_of_none hM8.at_ nDb).symm
            refine ⟨_, rfl, _, rfl, D, vs, _, i', rfl, rfl, hM9.at_, ixN_at hvi, ?_⟩
            have hL9 : LM (upd H9 D (.lst (vs.set i' (.ref Db)))) p D (stepA M i' j' c') (vs.set i' (.ref Db)) := by
              have := hM9.put (i := i') (b := Db) (r := addR c' ri rj) (by rw [hDb, ey]) nDa (fun z => by subst z; exact hp8.some_ nDb)
              unfold stepA
              rw [hri, hrj]
              exact this
            have sA : RX (some p) H (upd H9 D (.lst (vs.set i' (.ref Db)))) := (s78.trans (RX.of s9.same)).mut nD hh
            have hBA : SqB n (3 * 3 ^ i) (stepA M i' j' c') := hB.add2 hi' hj' (by omega) cb
            have hdA : detM n (stepA M i' j' c') = detM n M := det_add hB h3 c' hi' hj' z
            generalize upd H9 D (.lst (vs.set i' (.ref Db))) = Ha at hL9 sA
            generalize hMA : stepA M i' j' c' = MA at hL9 hBA hdA
            generalize vs.set i' (.ref Db) = va at hL9
            obtain ⟨ci, eci, hci, cia, cip⟩ := hL9.row (i := i') (by rw [hBA.len]; exact hi')
            obtain ⟨cj, ecj, hcj, cja, cjp⟩ := hL9.row (i := j') (by rw [hBA.len]; exact hj')
            have hwi : i' < va.length := by rw [hL9.len, hBA.len]; exact hi'
            have hwj : j' < va.length := by rw [hL9.len, hBA.len]; exact hj'
            refine r_next (n_asg ?_)
            refine ⟨_, rfl, _, rfl, false, D, va, _, _, rfl, rfl, .inl (.inl hL9.at_), atI_nat ecj, _, rfl, _, rfl, false, D, va, _, _, rfl, rfl, .inl (.inl hL9.at_), atI_nat eci, (by show 2 ≤ sizeLine; decide), fun t nt => ?_⟩
            have sT : RX (some p) Ha (upd Ha t (.tup [V.ref cj, V.ref ci])) := RX.new nt
            have hLt := hL9.mono sT hDp
            have h1' := hLt.put (i := i') (b := cj) (r := MA.getD j' []) (sT.keep cj _ (fun z => cjp (by cases z; rfl)) hcj) cja cjp
            have hb1 : upd (upd Ha t (.tup [V.ref cj, V.ref ci])) D (.lst (va.set i' (.ref cj))) ci = some (.lst ((MA.getD i' []).map V.int)) := by
              rw [upd_ne cia]
              exact sT.keep ci _ (fun z => cip (by cases z; rfl)) hci
            have h2' := h1'.put (i := j') (b := ci) (r := MA.getD i' []) hb1 cia cip
            refine ⟨t, _, rfl, .inl (.inl upd_same), rfl, _, _, rfl, _, rfl, _, rfl, D, va, _, i', rfl, rfl, hLt.at_, ixN_at hwi, ?_⟩
            refine ⟨_, _, rfl, _, rfl, _, rfl, D, _, _, j', rfl, rfl, h1'.at_, ixN_at (by rw [List.length_set]; exact hwj), rfl, ?_⟩
            refine ⟨_, _, _, _, _, _, stepX MA i' j', (va.set i' (.ref cj)).set j' (.ref ci), rfl, ((sA.trans sT).mut nD hh).mut nD hh, h2', ?_, ?_⟩
            · rw [e3]
              exact hBA.exch hi' hj'
            · rw [det_exch hBA h3 hi' hj' z, hdA]
              omega
      · obtain ⟨x3, x4, x5, x6, x7, x8, M, vs, rfl, s4, hM4, hB, hdet⟩ := hP
        refine ⟨_, rfl, q D H4 M s4 (hM4.py hDp) (hB.mono ?_) hdet⟩
        have : (1 + r).toNat ≤ 3 := by omega
        exact pow3_mono this
end
end T29
set_option Elab.async false
set_option linter.all false
set_option maxRecDepth 100000
set_option maxHeartbeats 4000000
namespace T29
open PySem PySem.Spec PyProof.Rows L2 Gd Zn Rp Dn Tb Gn En Zs Ct Op Oc Rg Rt Ro Oa
/-- every row but that of zeros has a worth above 0 -/
def Pos (n : Nat) (M : List (List Int)) : Prop := ∀ xs : List Int, xs.length = n → (∃ x ∈ xs, x ≠ 0) → 0 < btwM M xs xs
theorem pos_bowl {n : Nat} {M : List (List Int)} (h3 : n ≤ 3) (hM : Sh n M) (e : transp n M = M) (h : Pos n M) : Bowl n M := by
  intro i
  induction i using Nat.strongRecOn with
  | _ i ih =>
    intro hi
    by_cases z : 0 < dC M i
    · exact z
    · obtain ⟨a, b, c⟩ := pit_ok h3 hM e hi (fun j hj => ih j hj (by omega)) (by unfold dC at z; omega)
      have := h _ a b
      omega
theorem dC_last {n : Nat} {M : List (List Int)} (h1 : 1 ≤ n) (hM : Sh n M) : dC M (n - 1) = detM n M := by
  unfold dC
  rw [show n - 1 + 1 = n by omega]
  have : leadM n M = M := by
    unfold leadM
    rw [List.take_of_length_le (by rw [hM.len]; exact Nat.le_refl _)]
    refine (List.map_congr_left fun r hr => ?_).trans (List.map_id _)
    rw [List.take_of_length_le (by rw [hM.row r hr]; exact Nat.le_refl _)]
    rfl
  rw [this]
theorem w1 (a x : Int) : btwM [[a]] [x] [x] = a * x * x := by
  simp [btwM, ledM, dot]
  grind
theorem w2 (a b c x y : Int) : btwM [[a, b], [b, c]] [x, y] [x, y] = a * x * x + 2 * b * x * y + c * y * y := by
  simp [btwM, ledM, dot]
  grind
theorem w3 (a b c d e f x y z : Int) : btwM [[a, b, c], [b, d, e], [c, e, f]] [x, y, z] [x, y, z] = a * x * x + d * y * y + f * z * z + 2 * b * x * y + 2 * c * x * z + 2 * e * y * z := by
  simp [btwM, ledM, dot]
  grind
theorem c1 (a : Int) : cofM 0 [[a]] 0 0 = 1 := by simp [cofM, detM, outM, outW, cutAt, List.range_succ]
theorem sq_nn (x : Int) : 0 ≤ x * x := by
  rcases Int.le_total 0 x with h | h
  · exact Int.mul_nonneg h h
  · exact Int.mul_nonneg_of_nonpos_of_nonpos h h
theorem nn {a b c : Int} (h : 0 ≤ c) (e : c = a * b) (ha : 0 < a) : 0 ≤ b := by
  by_cases z : 0 ≤ b
  · exact z
  · have := Int.mul_neg_of_pos_of_neg ha (by omega : b < 0)
    omega
theorem pp {a b c : Int} (h : 0 < c) (e : c = a * b) (ha : 0 < a) : 0 < b := by
  by_cases z : 0 < b
  · exact z
  · have := Int.mul_nonpos_of_nonneg_of_nonpos (Int.le_of_lt ha) (by omega : b ≤ 0)
    omega
end T29
set_option Elab.async false
set_option linter.all false
set_option maxRecDepth 100000
set_option maxHeartbeats 4000000
namespace T29
open PySem PySem.Spec PyProof.Rows L2 Gd Zn Rp Dn Tb Gn En Zs Ct Op Oc Rg Rt Ro Oa
theorem det_tr {n : Nat} {M : List (List Int)} (h1 : 1 ≤ n) (h3 : n ≤ 3) (hM : Sh n M) : detM n (transp n M) = detM n M := by
  have : n = 1 ∨ n = 2 ∨ n = 3 := by omega
  rcases this with rfl | rfl | rfl
  · obtain ⟨a, rfl⟩ := sh1 hM rfl
    rfl
  · obtain ⟨a, b, c, d, rfl⟩ := sh2 hM rfl
    rw [trE2, det2, det2]; grind
  · obtain ⟨a, b, c, d, e, f, g, h, i, rfl⟩ := sh3 hM rfl
    rw [trE3, det3, det3]; grind
theorem det_ld {n : Nat} {G S : List (List Int)} (h1 : 1 ≤ n) (h3 : n ≤ 3) (hG : Sh n G) (hS : Sh n S) (hd : detM n S = 1 ∨ detM n S = -1) : detM n (ldM n G S) = detM n G := by
  unfold ldM
  have tS := tr_sh hS h1 h3
  rw [mul_detS h1 h3 (mul_sh h1 h3 tS hG) hS, mul_detS h1 h3 tS hG, det_tr h1 h3 hS]
  rcases hd with e | e <;> rw [e] <;> omega
theorem btw_led {n : Nat} {G S : List (List Int)} {x y : List Int} (h1 : 1 ≤ n) (h3 : n ≤ 3) (hG : Sh n G) (hS : Sh n S) (hx : x.length = n) (hy : y.length = n) : btwM (ldM n G S) x y = btwM G (ledM S x) (ledM S y) := by
  have : n = 1 ∨ n = 2 ∨ n = 3 := by omega
  unfold ldM
  rcases this with rfl | rfl | rfl
  · obtain ⟨a, rfl⟩ := sh1 hG rfl
    obtain ⟨b, rfl⟩ := sh1 hS rfl
    obtain ⟨x, rfl⟩ := len1 hx
    obtain ⟨y, rfl⟩ := len1 hy
    rw [trE1, mulE1, mulE1]
    simp [btwM, ledM, dot]
    grind
  · obtain ⟨a, b, c, d, rfl⟩ := sh2 hG rfl
    obtain ⟨p, q, r, s, rfl⟩ := sh2 hS rfl
    obtain ⟨x, x', rfl⟩ := len2 hx
    obtain ⟨y, y', rfl⟩ := len2 hy
    rw [trE2, mulE2, mulE2]
    simp [btwM, ledM, dot]
    grind
  · obtain ⟨a, b, c, d, e, f, g, h, i, rfl⟩ := sh3 hG rfl
    obtain ⟨p, q, r, s, t, u, v, w, z, rfl⟩ := sh3 hS rfl
    obtain ⟨x, x', x'', rfl⟩ := len3 hx
    obtain ⟨y, y', y'', rfl⟩ := len3 hy
    rw [trE3, mulE3, mulE3]
    simp [btwM, ledM, dot]
    grind
theorem zz {d x : Int} (h : d = 1 ∨ d = -1) (e : d * x = 0) : x = 0 := by
  rcases h with rfl | rfl <;> omega
theorem led_ne {n : Nat} {P : List (List Int)} {xs : List Int} (h1 : 1 ≤ n) (h3 : n ≤ 3) (hP : Sh n P) (hd : detM n P = 1 ∨ detM n P = -1) (hx : xs.length = n) (h : ∃ x ∈ xs, x ≠ 0) : ∃ x ∈ ledM P xs, x ≠ 0 := by
  by_cases z : ∃ x ∈ ledM P xs, x ≠ 0
  · exact z
  · exfalso
    have e0 : ∀ x ∈ ledM P xs, x = 0 := fun x hx => Decidable.byContradiction fun k => z ⟨x, hx, k⟩
    obtain ⟨x, mx, nx⟩ := h
    refine nx ?_
    have : n = 1 ∨ n = 2 ∨ n = 3 := by omega
    rcases this with rfl | rfl | rfl
    · obtain ⟨a, rfl⟩ := sh1 hP rfl
      obtain ⟨u, rfl⟩ := len1 hx
      simp [ledM, dot] at e0 mx
      rw [det1] at hd
      subst mx
      rcases hd with rfl | rfl <;> omega
    · obtain ⟨a, b, c, d, rfl⟩ := sh2 hP rfl
      obtain ⟨u, v, rfl⟩ := len2 hx
      simp [ledM, dot] at e0 mx
      rw [det2] at hd
      obtain ⟨k1, k2⟩ := e0
      have f1 : (a * d - b * c) * u = d * (a * u + b * v) - b * (c * u + d * v) := by grind
      have f2 : (a * d - b * c) * v = a * (c * u + d * v) - c * (a * u + b * v) := by grind
      rw [k1, k2] at f1 f2
      have g1 := zz hd (by omega : (a * d - b * c) * u = 0)
      have g2 := zz hd (by omega : (a * d - b * c) * v = 0)
      rcases mx with rfl | rfl <;> assumption
    · obtain ⟨a, b, c, d, e, f, g, h, i, rfl⟩ := sh3 hP rfl
      obtain ⟨u, v, w, rfl⟩ := len3 hx
      simp [ledM, dot] at e0 mx
      rw [det3] at hd
      obtain ⟨k1, k2, k3⟩ := e0
      have k1' : a * u + b * v + c * w = 0 := by grind
      have k2' : d * u + e * v + f * w = 0 := by grind
      have k3' : g * u + h * v + i * w = 0 := by grind
      have f1 : (a * (e * i - f * h) - b * (d * i - f * g) + c * (d * h - e * g)) * u = (e * i - f * h) * (a * u + b * v + c * w) + (c * h - b * i) * (d * u + e * v + f * w) + (b * f - c * e) * (g * u + h * v + i * w) := by grind
      have f2 : (a * (e * i - f * h) - b * (d * i - f * g) + c * (d * h - e * g)) * v = (f * g - d * i) * (a * u + b * v + c * w) + (a * i - c * g) * (d * u + e * v + f * w) + (c * d - a * f) * (g * u + h * v + i * w) := by grind
      have f3 : (a * (e * i - f * h) - b * (d * i - f * g) + c * (d * h - e * g)) * w = (d * h - e * g) * (a * u + b * v + c * w) + (b * g - a * h) * (d * u + e * v + f * w) + (a * e - b * d) * (g * u + h * v + i * w) := by grind
      rw [k1', k2', k3'] at f1 f2 f3
      have g1 := zz hd (by rw [f1]; simp)
      have g2 := zz hd (by rw [f2]; simp)
      have g3 := zz hd (by rw [f3]; simp)
      rcases mx with rfl | rfl | rfl <;> assumption
theorem pos_led {n : Nat} {G P : List (List Int)} (h1 : 1 ≤ n) (h3 : n ≤ 3) (hG : Sh n G) (hP : Sh n P) (hd : detM n P = 1 ∨ detM n P = -1) (h : Pos n G) : Pos n (ldM n G P) := fun xs hx hn => by
  rw [btw_led h1 h3 hG hP hx hx]
  exact h _ (by rw [led_len, hP.len]) (led_ne h1 h3 hP hd hx hn)
theorem ab_sub {x y : Int} {k : Nat} (hx : x.natAbs < 2 ^ k) (hy : y.natAbs < 2 ^ k) : (x - y).natAbs < 2 ^ (k + 1) := by
  rw [Nat.pow_succ]; omega
theorem det_bits {n b : Nat} {M : List (List Int)} (h1 : 1 ≤ n) (h3 : n ≤ 3) (hM : SqE n b M) : (detM n M).natAbs < 2 ^ (b + b + b + 3) := by
  have up : ∀ {x : Int} {k : Nat}, k ≤ b + b + b + 3 → x.natAbs < 2 ^ k → x.natAbs < 2 ^ (b + b + b + 3) := fun hk h => Wd.abs_mono h hk
  have m2 : ∀ {x y z w : Int}, x.natAbs < 2 ^ b → y.natAbs < 2 ^ b → z.natAbs < 2 ^ b → w.natAbs < 2 ^ b → (x * y - z * w).natAbs < 2 ^ (b + b + 1) := fun h1 h2 h3 h4 => ab_sub (Wd.abs_mul h1 h2) (Wd.abs_mul h3 h4)
  have bd := hM.bd
  have : n = 1 ∨ n = 2 ∨ n = 3 := by omega
  rcases this with rfl | rfl | rfl
  · obtain ⟨a, rfl⟩ := sh1 hM.sh rfl
    rw [det1]
    exact up (by omega) (bd [a] (by simp) a (by simp))
  · obtain ⟨a, b', c, d, rfl⟩ := sh2 hM.sh rfl
    simp only [List.mem_cons, List.not_mem_nil, or_false, forall_eq_or_imp, forall_eq] at bd
    obtain ⟨⟨ha, hb⟩, hc, hd⟩ := bd
    rw [det2]
    exact up (by omega) (m2 ha hd hb hc)
  · obtain ⟨a, b', c, d, e, f, g, h, i, rfl⟩ := sh3 hM.sh rfl
    simp only [List.mem_cons, List.not_mem_nil, or_false, forall_eq_or_imp, forall_eq] at bd
    obtain ⟨⟨ha, hb, hc⟩, ⟨hd, he, hf⟩, hg, hh, hi⟩ := bd
    rw [det3]
    have t1 := Wd.abs_mul ha (m2 he hi hf hh)
    have t2 := Wd.abs_mul hb (m2 hd hi hf hg)
    have t3 := Wd.abs_mul hc (m2 hd hh he hg)
    have s1 := ab_sub t1 t2
    refine up (by omega : b + (b + b + 1) + 1 + 1 ≤ _) (Wd.abs_add s1 (Wd.abs_mono t3 (by omega)))
end T29
set_option Elab.async false
set_option linter.all false
set_option maxRecDepth 100000
set_option maxHeartbeats 4000000
namespace T29
open PySem PySem.Spec PyProof.Rows L2 Gd Zn Rp Dn Tb Gn En Zs Ct Op Oc Rg Rt Ro Oa
theorem hab {h a b : Int} (hh : 1 ≤ h ∧ h ≤ 3) (ha : -2 ≤ a ∧ a ≤ 2) (hb : -2 ≤ b ∧ b ≤ 2) : -12 ≤ h * a * b ∧ h * a * b ≤ 12 := by
  have h' : h = 1 ∨ h = 2 ∨ h = 3 := by omega
  have a' : a = -2 ∨ a = -1 ∨ a = 0 ∨ a = 1 ∨ a = 2 := by omega
  rcases h' with rfl | rfl | rfl <;> rcases a' with rfl | rfl | rfl | rfl | rfl <;> omega
/-- the rows of the law -/
structure Rw (n b : Nat) (M : List (List Int)) : Prop where
  h1 : 1 ≤ n
  h3 : n ≤ 3
  sy : transp n M = M
  bd : SqE n b M
  pos : Pos n M
theorem Rw.up {n b c : Nat} {M : List (List Int)} (h : Rw n b M) (k : b ≤ c) : Rw n c M := ⟨h.h1, h.h3, h.sy, h.bd.mono k, h.pos⟩
end T29
set_option Elab.async false
set_option linter.all false
set_option maxRecDepth 100000
set_option maxHeartbeats 4000000
set_option Elab.async false
set_option linter.all false
set_option maxRecDepth 100000
set_option maxHeartbeats 4000000
namespace T29
open PySem PySem.Spec PyProof.Rows L2 Gd Zn Rp Dn Tb Gn En Zs Ct Op Oc Rg Rt Ro Oa
theorem wid_s {x : Int} (h : -1000 ≤ x ∧ x ≤ 1000) : Wd.Wid x := ⟨20, by omega, (by show x.natAbs < 2 ^ 20; omega)⟩
end T29
set_option Elab.async false
set_option linter.all false
set_option maxRecDepth 100000
set_option maxHeartbeats 4000000
namespace T29
open PySem PySem.Spec PyProof.Rows L2 Gd Zn Rp Dn Tb Gn En Zs Ct Op Oc Rg Rt Ro Oa
theorem ifF {b : Bool} {A B : Prop} (h : b = false) (x : B) : if b = true then A else B := by rw [h]; exact x
theorem ifT {b : Bool} {A B : Prop} (h : b = true) (x : A) : if b = true then A else B := by rw [if_pos h]; exact x
theorem LL.same {H H' : Hp} {a : Addr} {bs : List Addr} {M : List (List Int)} (h : LL H a bs M) (s : Same H H') : LL H' a bs M := ⟨s _ _ h.top, h.len, fun i b e => s _ _ (h.row i b e), h.nd, h.ne⟩
end T29
set_option Elab.async false
set_option linter.all false
set_option maxRecDepth 100000
set_option maxHeartbeats 4000000
namespace T29
open PySem PySem.Spec PyProof.Rows L2 Gd Zn Rp Dn Tb Gn En Zs Ct Op Oc Rg Rt Ro Oa
def leanM (M : List (List Int)) (a k : Nat) : List (List Int) := (M.take (a + 1)).map fun r => r.take a ++ [r.getD k 0]
theorem lean_sq {n a k : Nat} {M : List (List Int)} (h : Sq n M) (ha : a < n) (hk : k < n) : Sq (a + 1) (leanM M a k) := by
  refine ⟨?_, fun r hr => ?_, fun r hr x hx => ?_⟩
  · unfold leanM
    rw [List.length_map, List.length_take, h.len]
    omega
  · unfold leanM at hr
    obtain ⟨r', hr', rfl⟩ := List.mem_map.mp hr
    rw [List.length_append, List.length_take, h.row r' (List.mem_of_mem_take hr')]
    show min a n + 1 = a + 1
    omega
  · unfold leanM at hr
    obtain ⟨r', hr', rfl⟩ := List.mem_map.mp hr
    have hm := List.mem_of_mem_take hr'
    rcases List.mem_append.mp hx with hx | hx
    · exact h.small r' hm x (List.mem_of_mem_take hx)
    · rw [List.mem_singleton] at hx
      subst hx
      have : k < r'.length := by rw [h.row r' hm]; exact hk
      rw [List.getD_eq_getElem?_getD, List.getElem?_eq_getElem this]
      exact h.small r' hm _ (List.getElem_mem _)
section
variable {P : Program} {w : World} {K : PySem.W.Frag} {mg : Str → Option Value} {base : Heap} {C : Addr}
abbrev st_lea : Stmt := top 53
abbrev N_lea : List Str := ["rows", "at", "place", "row"]
theorem sc_lea : FnScope N_lea ["rows", "at", "place"] (defScope st_lea) := ⟨rfl, rfl, rfl, by decide +kernel, rfl, by decide +kernel, by decide +kernel⟩
def sp_lea : Sp := fun vs H Q _ => ∃ (v : V) (M : List (List Int)) (n a k : Nat), vs = [v, .int a, .int k] ∧ Mx H v M ∧ Sq n M ∧ n ≤ 3 ∧ a < n ∧ k < n ∧ ∀ H', Same H H' → Q (.int (detM (a + 1) (leanM M a k))) H'
theorem ok_lea {f : Addr} {fd : FuncData} (F : Fun K "_leaned" "_leaned" st_lea f fd) (T : Txt mg) (D2 : Def P w K mg base "determinant_of" 7 ["rows"] sp_detA) : FnOk P w K mg base CX0 8 f fd ["rows", "at", "place"] sp_lea := by
  refine F.ok sc_lea (fun vs H Q E h => ?_) (fun cdv A outer s H vs Q E hr h => ?_)
  · obtain ⟨v, M, n, a, k, rfl, _⟩ := h
    rfl
  · obtain ⟨v, M, n, m, k, rfl, ⟨a, vx, rfl, ha, hR⟩, hS, h3, hm, hk, q⟩ := h
    refine ⟨_, pss_one (ps_ret (pe_def D2 hr (pa_cons (pe_callTy (r := rTup K) c_tup (by rfl) T.tuple PyProof.Rows.boot_tuple (pa_cons (pe_lc (own := [("row", 3)]) (g := gName 3) (tt := tYes) rfl sc_lea.nd (pi_seq (pe_slice (r := rSlA K) sl_tupA (pv 0) po_none (po_some (pe_op op_add (pv 1) pe_int))))
        (blkOk_by (N := N_lea) (sc := defScope st_lea) (by decide +kernel)) (fun _ _ _ _ _ => pg_name (i := 3) sc_lea.nd rfl (Or.inl rfl) (Or.inr rfl)) (fun _ _ _ _ _ => pts_nil)
        (fun _ _ _ _ _ => pe_op op_cat3 (pe_slice (r := rSlA K) sl_tupA (pv 3) po_none (po_some (pv 1))) (pe_tup (pa_cons (pe_ix (r := rIxS2 K) ix_sq (pv 3) (pv 2) (fun _ _ => rfl)) pa_nil)))) pa_nil)) pa_nil))), ?_⟩
    have hvl : vx.length = n := by rw [hR.len, hS.len]
    refine r_ret (a1 (r_cb (r_cons (tlc_call ⟨_, rfl, _, rfl, _, _, rfl, rfl, _, rfl, ?_⟩))))
    rw [show ((m : Nat) : Int) + 1 = ((m + 1 : Nat) : Int) by omega]
    refine sl_all ha (by omega) fun b H1 s1 hb => ⟨true, b, _, rfl, .inl (.inl hb), ?_⟩
    have hRt : ∀ (i : Nat) (v : V), (vx.take (m + 1))[i]? = some v → ∃ r, M[i]? = some r ∧ RowV H v r ∧ i < m + 1 := fun i v e => by
      rw [List.getElem?_take] at e
      split at e
      · obtain ⟨r, er, hr⟩ := hR.get e
        exact ⟨r, er, hr, by assumption⟩
      · cases e
    have qb : ∀ H', Same H1 H' → SqV K H' true b (vx.take (m + 1)) := fun H' s => .inl (.inl (s _ _ hb))
    have lt : (vx.take (m + 1)).length = m + 1 := by rw [List.length_take]; omega
    have hL := lean_sq (k := k) hS hm hk
    refine lc_ks (p := none) (m + 1) (fun i v H => ∃ r, (leanM M m k)[i]? = some r ∧ RowV H v r) (fun i v H H' k h => ?_) has_none (by omega) (fun i H2 hi s2 => its_go (qb H2 s2.same) (List.getElem?_eq_getElem (by omega))) (fun H2 s2 => its_stop (qb H2 s2.same) (by omega)) (fun i x H2 H3 C' hi s2 _ hy hC => ?_) fun Da H2 rs nD s2 hD hrl hE => ?_
    · obtain ⟨r, e, h⟩ := h
      exact ⟨r, e, h.mono k⟩
    · obtain ⟨rfl, ex⟩ := its_yld hy (qb H2 s2.same)
      obtain ⟨r, er, ⟨c, rfl, hc⟩, hi'⟩ := hRt i x ex
      have lr := hS.row r (List.mem_of_getElem? er)
      have hc3 := (s1.trans s2.same) _ _ hc
      refine ⟨rfl, r_op ⟨_, rfl, _, rfl, _, rfl, sl_all hc3 (by rw [List.length_map]; omega) fun d H4 s4 hd => ?_⟩⟩
      refine r_tup (r_cons ⟨_, rfl, _, rfl, true, c, _, _, _, rfl, rfl, .inl (.inl (s4 _ _ hc3)), ixL (by omega), (by show 1 ≤ sizeLine; decide), fun t nt => ?_⟩)
      refine ⟨d, t, _, _, rfl, rfl, (same_new nt) _ _ hd, upd_same, ?_, fun e H5 s5 he => ?_⟩
      · rw [List.length_take, List.length_map]
        show _ + 1 ≤ 1000
        omega
      · refine hC _ _ (RX.of (s4.trans ((same_new nt).trans s5))) ⟨r.take m ++ [r.getD k 0], ?_, e, rfl, ?_⟩
        · unfold leanM
          rw [List.getElem?_map, List.getElem?_take, if_pos hi', er]
          rfl
        · rw [he, List.map_append, List.map_take]
          rfl
    · refine ⟨Da, rs, rfl, .inl ⟨.inl (.inl hD), fun l nl => ?_⟩⟩
      have kk : Same H2 (upd H2 l (.tup rs)) := same_new nl
      have mx : Mx (upd H2 l (.tup rs)) (.ref l) (leanM M m k) := ⟨l, rs, rfl, upd_same, (rows_of (by rw [hrl, hL.len]) hE).mono (KS.of kk)⟩
      exact ⟨m + 1, by omega, .ref l, _, rfl, mx, by omega, hL, fun H3 s3 => q H3 (s1.trans (s2.same.trans (kk.trans s3)))⟩
abbrev st_sqs : Stmt := top 50
abbrev N_sqs : List Str := ["form", "told", "ahead", "places", "at", "place"]
theorem sc_sqs : FnScope N_sqs ["form"] (defScope st_sqs) := ⟨rfl, rfl, rfl, by decide +kernel, rfl, by decide +kernel, by decide +kernel⟩
def ahd (n : Nat) (M : List (List Int)) (i : Nat) : Int := (1 :: crn n M).getD i 0
theorem crn_get {n i : Nat} {M : List (List Int)} (h : i < n) : (crn n M).getD i 0 = dC M i := by
  unfold crn
  rw [List.getD_eq_getElem?_getD, List.getElem?_map, List.getElem?_range h]
  rfl
theorem dC_wid {n i : Nat} {M : List (List Int)} (h3 : n ≤ 3) (h : Sq n M) (hi : i < n) : Wd.Wid (dC M i) := det_wid (by omega) (lead_sq h (by omega))
theorem ahd_wid {n i : Nat} {M : List (List Int)} (h3 : n ≤ 3) (h : Sq n M) (hi : i < n) : Wd.Wid (ahd n M i) := by
  unfold ahd
  cases i with
  | zero => exact wid_s (x := 1) ⟨by decide, by decide⟩
  | succ i =>
    show Wd.Wid ((crn n M).getD i 0)
    rw [crn_get (by omega)]
    exact dC_wid h3 h (by omega)
def lnL (n : Nat) (M : List (List Int)) (i : Nat) : List Int := (List.range n).map fun k => detM (i + 1) (leanM M i k)
/-- a square as the program tells it -/
def SquV (H : Hp) (v : V) (b : Int) (l : List Int) : Prop := ∃ t c, v = .ref t ∧ H t = some (.tup [.int b, .ref c]) ∧ H c = some (.tup (l.map V.int))
def sp_sqs (C : Addr) : Sp := fun vs H Q _ => ∃ v M, ∃ n b : Nat, vs = [v] ∧ Fv C H v n b M ∧ b ≤ 5000 ∧ Bowl n M ∧ ∀ D rs H', Same H H' → H' D = some (.lst rs) → H D = none → rs.length = n → (∀ (i : Nat) (v : V), rs[i]? = some v → SquV H' v (ahd n M i * dC M i) (lnL n M i)) → Q (.ref D) H'
theorem ok_sqs {f : Addr} {fd : FuncData} (F : Fun K "squares" "squares" st_sqs f fd) (T : Txt mg) (hmin : mg "min" = none) (Fc : Fcl K mg C) (D1 : Def P w K mg base "corners" 8 ["form"] (sp_corners C)) (D2 : Def P w K mg base "_leaned" 8 ["rows", "at", "place"] sp_lea)
    (D4 : Prp P w K mg base C "rows" 1 (sp_rows C)) (D5 : Prp P w K mg base C "size" 1 (sp_size C)) : FnOk P w K mg base CX0 9 f fd ["form"] (sp_sqs C) := by
  refine F.ok sc_sqs (fun vs H Q E h => ?_) (fun cdv A outer s H vs Q E hr h => ?_)
  · obtain ⟨v, M, n, b, rfl, _⟩ := h
    rfl
  · obtain ⟨v, M, n, b, rfl, hv, lb, hB, q⟩ := h
    refine ⟨_, pss_cons (ps_set (i := 1) sc_sqs.nd rfl (Or.inr rfl) (pe_def D1 hr (pa_cons (pv 0) pa_nil)))
      (pss_cons (ps_if (pt_cmpR op_le (pe_callB (cr_min rfl) (by rfl) hmin boot_min (pa_cons (pv 1) pa_nil)) pe_int (nomark _)) pss_dead pss_nil)
      (pss_cons (ps_set (i := 2) sc_sqs.nd rfl (Or.inr rfl) (pe_op op_cat (pe_lst (pa_cons pe_int pa_nil)) (pv 1)))
      (pss_cons (ps_set (i := 3) sc_sqs.nd rfl (Or.inr rfl) (pe_callTy (r := rRng1) cr_range1 (by rfl) T.range PyProof.Rows.boot_range (pa_cons (pe_prp D5 Fc.cl hr (pv 0)) pa_nil)))
      (pss_one (ps_ret (pe_lc (own := [("at", 4)]) (g := gName 4) (tt := tYes) (te := tTup (tCons (tOp (rI CMulX fun i j => .int (i * j)) (tOp (rIxS2 K) (tVar 2) (tVar 4)) (tOp (rIxS2 K) (tVar 1) (tVar 4))) (tCons (tCB (rTup K) (tCons (tLc (iRngV (tVar 3)) (gName 5) tYes (tCall sp_lea [] E0 (tCons (tProp C (sp_rows C) [] E0 (tVar 0)) (tCons (tVar 4) (tCons (tVar 5) tNil)))) [5]) tNil)) tNil))) rfl sc_sqs.nd (pi_rng (pv 3))
        (blkOk_by (N := N_sqs) (sc := defScope st_sqs) (by decide +kernel)) (fun _ _ _ _ _ => pg_name (i := 4) sc_sqs.nd rfl (Or.inr rfl) (Or.inl rfl)) (fun _ _ _ _ _ => pts_nil)
        (fun s' H' C' cl' fp' => by
          refine pe_tup (pa_cons (pe_op op_mulX (pe_ix (r := rIxS2 K) ix_sq (pv 2) (pv 4) (fun _ _ => rfl)) (pe_ix (r := rIxS2 K) ix_sq (pv 1) (pv 4) (fun _ _ => rfl))) (pa_cons (pe_callTy (r := rTup K) c_tup (by rfl) T.tuple PyProof.Rows.boot_tuple (pa_cons ?b pa_nil)) pa_nil))
          case b =>
            refine pe_lc (own := [("place", 5)]) (wi := iRngV (tVar 3)) (g := gName 5) (tt := tYes) (te := tCall sp_lea [] E0 (tCons (tProp C (sp_rows C) [] E0 (tVar 0)) (tCons (tVar 4) (tCons (tVar 5) tNil)))) rfl sc_sqs.nd ?p1 ?p2 ?p3 ?p4 ?p5
            case p1 => exact pi_rng (pv 3)
            case p2 => exact blkOk_by (N := N_sqs) (by rfl)
            case p3 => exact (fun _ _ _ _ _ => pg_name (i := 5) sc_sqs.nd rfl (Or.inl rfl) (Or.inr rfl))
            case p4 => exact (fun _ _ _ _ _ => pts_nil)
            case p5 => exact (fun _ _ _ _ _ => pe_def (X := Cx.blk _ _ _ _ _ _) D2 hr (pa_cons (pe_prp (X := Cx.blk _ _ _ _ _ _) D4 Fc.cl hr (pv 0)) (pa_cons (pv 4) (pa_cons (pv 5) pa_nil))))))))))), ?_⟩
    have h1 := hv.h1
    have h3 := hv.h3
    have hS := hv.bd.sq (by omega : b ≤ 20000)
    refine r_seq (r_asg (a1 ⟨_, rfl, v, M, n, b, rfl, hv, lb, fun Dc H1 s1 hDc => ?_⟩))
    refine r_next (r_nseq (r_if (r_tt (r_op (cb1 ⟨_, rfl, Dc, crn n M, rfl, SqL.of hDc, by rw [crn_len]; omega, fun m hm hl => ⟨_, _, rfl, rfl, _, rfl, ifF (decide_eq_false ?_) ?_⟩⟩)))))
    · obtain ⟨i, hi, rfl⟩ := crn_mem.mp hm
      have := hB i hi
      omega
    refine r_next (r_nseq (r_asg (r_op (r_lst ⟨(by show 1 ≤ sizeLine; decide), fun l nl => ⟨_, rfl, l, Dc, _, _, rfl, rfl, upd_same, same_new nl _ _ hDc, ?_, fun ca nca => ?_⟩⟩))))
    · rw [List.length_map, crn_len]
      show 1 + n ≤ sizeLine
      exact Nat.le_trans (by omega : 1 + n ≤ 100) (by decide)
    have s2 := s1.trans ((same_new (o := .lst [V.int 1]) nl).trans (same_new (o := .lst ([V.int 1] ++ (crn n M).map V.int)) nca))
    have hDc2 := ((same_new (o := .lst [V.int 1]) nl).trans (same_new (o := .lst ([V.int 1] ++ (crn n M).map V.int)) nca)) _ _ hDc
    have hca : upd (upd H1 l (.lst [V.int 1])) ca (.lst ([V.int 1] ++ (crn n M).map V.int)) ca = some (.lst ((1 :: crn n M).map V.int)) := upd_same
    generalize upd (upd H1 l (.lst [V.int 1])) ca (.lst ([V.int 1] ++ (crn n M).map V.int)) = H2 at s2 hDc2 hca
    refine r_next (r_nseq (r_asg (cb1 (r_prop ⟨_, rfl, p_size (hv.same s2).tab ⟨_, rfl, fun pl np => ?_⟩⟩))))
    have hlen : (M.length : Int) = (n : Int) := by rw [hS.len]
    rw [hlen]
    have s3 : Same H2 (upd H2 pl (.rng 0 (n : Int))) := same_new np
    have hpl : upd H2 pl (.rng 0 (n : Int)) pl = some (.rng 0 (n : Int)) := upd_same
    generalize upd H2 pl (.rng 0 (n : Int)) = H3 at s3 hpl
    have S3 := s2.trans s3
    have hb : -(2 ^ 62) ≤ (0 : Int) ∧ (0 : Int) < 2 ^ 62 ∧ -(2 ^ 62) ≤ (n : Int) ∧ (n : Int) < 2 ^ 62 := ⟨by decide, by decide, by omega, by omega⟩
    have hn : ((n : Int) - 0).toNat = n := by omega
    refine r_next (r_nret (tlc_call ⟨_, rfl, pl, 0, (n : Int), rfl, hpl, hb, ?_⟩))
    rw [hn]
    refine lc_ks (p := none) n (fun i v H => SquV H v (ahd n M i * dC M i) (lnL n M i)) (fun i v H H' k h => ?_) has_none (by omega) (fun i H2 hi s2 => hi) (fun H2 s2 => Nat.le_refl _) (fun i x H4 H5 C' hi s4 _ hy hC => ?_) fun Da H4 rs nD s4 hD hrl hE => ?_
    · obtain ⟨t, c, rfl, e1, e2⟩ := h
      exact ⟨t, c, rfl, k _ _ (by intro xs z; cases z) e1, k _ _ (by intro xs z; cases z) e2⟩
    · obtain ⟨rfl, rfl⟩ := hy
      rw [show (0 : Int) + (i : Int) = (i : Int) by omega]
      have s34 := s3.trans s4.same
      refine ⟨rfl, r_tup (r_cons (r_op (r_op ⟨_, rfl, _, rfl, false, ca, _, _, _, rfl, rfl, .inl (.inl (s34 _ _ hca)), ixL (by rw [List.length_cons, crn_len]; omega), _, rfl, _, rfl, false, Dc, _, _, _, rfl, rfl, .inl (.inl (s34 _ _ hDc2)), ixL (by rw [crn_len]; omega), _, _, rfl, rfl, ?_, ?_⟩)))⟩
      · rw [crn_get hi]
        exact Wd.mulW (ahd_wid h3 hS hi) (dC_wid h3 hS hi)
      · rw [crn_get hi]
        refine r_cons (r_cb (r_cons (tlc_call ⟨_, rfl, pl, 0, (n : Int), rfl, s4.same _ _ hpl, hb, ?_⟩)))
        rw [hn]
        refine lc_el (p := none) n (fun k v => v = .int (detM (i + 1) (leanM M i k))) has_none (by omega) (fun j H5 hj s5 => hj) (fun H5 s5 => Nat.le_refl _) (fun k x H6 H7 C2 hk s6 _ hy2 hC2 => ?_) fun Db H6 ys nDb s6 hDb hyl hyE => ?_
        · obtain ⟨rfl, rfl⟩ := hy2
          rw [show (0 : Int) + (k : Int) = (k : Int) by omega]
          have s36 := S3.trans (s4.same.trans s6.same)
          refine ⟨rfl, a3 (r_prop ⟨_, rfl, p_rows (hv.same s36).tab fun r mr => ⟨_, rfl, _, rfl, r, M, n, i, k, rfl, mr, hS, h3, hi, hk, fun H7 s7 => hC2 _ _ (RX.of s7) rfl⟩⟩)⟩
        · have ey : ys = (lnL n M i).map V.int := by
            unfold lnL
            rw [List.map_map]
            exact map_of_get (n := 0) _ (by rw [hyl, List.length_range]) fun j v e => by
              have hj : j < n := by rw [← hyl]; exact (List.getElem?_eq_some_iff.mp e).1
              exact ⟨j, List.getElem?_range hj, hyE j v e⟩
          refine ⟨Db, ys, rfl, .inl ⟨.inl (.inl hDb), fun l nl => ⟨(by show 2 ≤ sizeLine; decide), fun t nt => ?_⟩⟩⟩
          refine hC _ _ (RX.of (s6.same.trans ((same_new nl).trans (same_new nt)))) ⟨t, l, rfl, upd_same, ?_⟩
          rw [same_new nt _ _ upd_same, ey]
    · exact q Da rs H4 (S3.trans s4.same) hD (Same.free S3 nD) hrl hE
end
end T29
set_option Elab.async false
set_option linter.all false
set_option maxRecDepth 100000
set_option maxHeartbeats 4000000
namespace T29
open PySem PySem.Spec PyProof.Rows L2 Gd Zn Rp Dn Tb Gn En Zs Ct Op Oc Rg Rt Ro Oa
theorem r_forS {K : PySem.W.Frag} {tl : TE} {g : TG} {tb : TS} {D : Ends} {σ : L2.St} {H : Hp} (h : tl σ H fun x H1 => ∃ t a xs, x = .ref a ∧ SqV K H1 t a xs ∧ tFor (fun _ H R => R (Its t K a) H) g tb D σ H1) : tFor (iSeq K tl) g tb D σ H := h
theorem g_nm {i : Nat} {v : V} {σ : L2.St} {H : Hp} {k : L2.St → Hp → Prop} (h : k (σ.set i (some v)) H) : gName i v σ H k := h
def isTupD : PyData → Bool
  | .tuple _ => true
  | _ => false
theorem kit_tup (K : PySem.W.Frag) (d : PyData) : PySem.W.kitOne K (.type (tyD d)) (.type "tuple") = some (isTupD d) := by
  cases d <;> dsimp only [tyD, isTupD] <;> exact kit_ty (by decide +kernel)
def headB (k : Nat) (xs : List Int) : Bool := decide (xs.getD k 0 ≠ 0) && (xs.take k).all (fun x => decide (x = 0))
def intsD (ds : List PyData) : List Int := ds.map fun d => match d with | .int x => x | _ => 0
def sqAtB (n k : Nat) : PyData → Bool
  | .tuple [.int b, r] => decide (1 ≤ b) && rowOfB n r && headB k (intsD (items r))
  | _ => false
theorem sqAt_pair (n k : Nat) (b : Int) (r : PyData) : sqAtB n k (.tuple [.int b, r]) = (decide (1 ≤ b) && rowOfB n r && headB k (intsD (items r))) := rfl
theorem pyVs_at {H : Hp} : ∀ {vs : List V} {ds : List PyData}, PyVs H vs ds → ∀ {j : Nat} {v : V} {d : PyData}, vs[j]? = some v → ds[j]? = some d → PyV H v d
  | _, _, .cons a b, 0, _, _, e1, e2 => by cases e1; cases e2; exact a
  | _, _, .cons a b, j + 1, _, _, e1, e2 => pyVs_at b (by simpa using e1) (by simpa using e2)
theorem ints_iD (xs : List Int) : intsD (iD xs) = xs := by
  unfold intsD iD
  rw [List.map_map]
  exact List.map_id _
theorem row_ints {n : Nat} {d : PyData} (h : rowOfB n d = true) : isSeq d = true ∧ items d = iD (intsD (items d)) ∧ (intsD (items d)).length = n ∧ 1 ≤ n ∧ n ≤ 3 := by
  unfold rowOfB rowB at h
  simp only [Bool.and_eq_true, decide_eq_true_eq] at h
  obtain ⟨⟨⟨h1, h2, h3⟩, h4⟩, h5⟩ := h
  have : items d = iD (intsD (items d)) := by
    have k : ∀ ds : List PyData, ds.all isIntD = true → ds = iD (intsD ds) := fun ds => by
      induction ds with
      | nil => intro _; rfl
      | cons d ds ih =>
        intro h
        rw [List.all_cons, Bool.and_eq_true] at h
        cases d with
        | int x => exact congrArg (PyData.int x :: ·) (ih h.2)
        | _ => exact absurd h.1 (by simp [isIntD])
    exact k _ h4
  refine ⟨h1, this, by unfold intsD; rw [List.length_map]; exact h5, by omega, by omega⟩
theorem row_of {n : Nat} {d : PyData} {xs : List Int} (h1 : isSeq d = true) (h2 : items d = iD xs) (h3 : xs.length = n) (h4 : 1 ≤ n) (h5 : n ≤ 3) : rowOfB n d = true := by
  unfold rowOfB rowB
  have : (iD xs).all isIntD = true := by
    unfold iD
    rw [List.all_map]
    exact List.all_eq_true.mpr fun x _ => rfl
  have l : (iD xs).length = n := by unfold iD; rw [List.length_map]; exact h3
  rw [h1, h2, this, l, decide_eq_true h4, decide_eq_true h5, decide_eq_true rfl]
  rfl
section
variable {P : Program} {w : World} {K : PySem.W.Frag} {mg : Str → Option Value} {base : Heap} {C : Addr}
theorem sl_seq {H : Hp} {v : V} {xs : List Int} {k : Nat} {Q : VK} (h : SeqV H v (iD xs)) (hk : k ≤ xs.length) (q : ∀ b t H', Same H H' → (∀ H2, Same H' H2 → SqV K H2 t b ((xs.take k).map V.int)) → Q (.ref b) H') : rSlL K v none (some (k : Int)) H Q ∨ rSlA K v none (some (k : Int)) H Q := by
  rcases h with h | h
  · cases h with
    | @lst a vs _ e z =>
      have ez := pyVs_ints z
      subst ez
      refine .inl ⟨a, _, rfl, SqL.of e, fun p np => ?_⟩
      rw [cutV_to xs k hk]
      exact q p false _ (same_new np) fun H2 s => .inl (.inl (s _ _ upd_same))
  · cases h with
    | @tup a vs _ e z =>
      have ez := pyVs_ints z
      subst ez
      refine .inr (sl_all e (by rw [List.length_map]; exact hk) fun b H1 s1 hb => ?_)
      rw [← List.map_take] at hb
      exact q b true _ s1 fun H2 s => .inl (.inl (s _ _ hb))
abbrev st_isat : Stmt := top 52
abbrev N_isat : List Str := ["size", "place", "pair", "bottom", "row", "number"]
theorem sc_isat : FnScope N_isat ["size", "place", "pair"] (defScope st_isat) := ⟨rfl, rfl, rfl, by decide +kernel, rfl, by decide +kernel, by decide +kernel⟩
def sp_isat : Sp := fun vs H Q _ => ∃ (x : V) (d : PyData) (n k : Nat), vs = [.int n, .int k, x] ∧ PyV H x d ∧ k < n ∧ (items d).length ≤ 200 ∧ (∀ e ∈ items d, (items e).length ≤ 200) ∧ ∀ H', Same H H' → Q (.bl (sqAtB n k d)) H'
theorem ok_isat {f : Addr} {fd : FuncData} (F : Fun K "is_square_at" "is_square_at" st_isat f fd) (T : Txt mg) (D1 : Def P w K mg base "is_integer" 1 ["value"] sp_is_integer) (D2 : Def P w K mg base "is_row_of" 3 ["size", "value"] sp_is_row_of) : FnOk P w K mg base CX0 4 f fd ["size", "place", "pair"] sp_isat := by
  refine F.ok sc_isat (fun vs H Q E h => ?_) (fun cdv A outer s H vs Q E hr h => ?_)
  · obtain ⟨x, d, n, k, rfl, _⟩ := h
    rfl
  · obtain ⟨x, d, n, k, rfl, hx, hk, l1, l2, q⟩ := h
    refine ⟨_, pss_cons (ps_if (PW.pt (pw_or (pt_not (pt_val (pe_callB call_isi (by rfl) T.isi boot_isinstance (pa_cons (pv 2) (pa_cons (pe_bltn (v := .ty "tuple") (by rfl) T.tuple PyProof.Rows.boot_tuple rfl) pa_nil)))))
          (pw_or1 (pt_cmpR op_ne (pe_callB (r := Dn.rLen K) c_len (by rfl) T.len PySem.boot_len (pa_cons (pv 2) pa_nil)) pe_int (nomark _))))) (pss_one (ps_ret pe_bl)) pss_nil)
      (pss_cons (ps_asg (pv 2) (pg_tup rfl (pgs_cons (pg_name (i := 3) sc_isat.nd rfl (Or.inl rfl)) (pgs_cons (pg_name (i := 4) sc_isat.nd rfl (Or.inl rfl)) pgs_nil))))
      (pss_cons (ps_if (PW.pt (pw_or (pt_not (pt_val (pe_def D1 hr (pa_cons (pv 3) pa_nil)))) (pw_or (pt_cmpR op_lt (pv 3) pe_int (nomark _)) (pw_or1 (pt_not (pt_val (pe_def D2 hr (pa_cons (pv 0) (pa_cons (pv 4) pa_nil))))))))) (pss_one (ps_ret pe_bl)) pss_nil)
      (pss_one (ps_ret (pe_and (pe_cmpR op_ne (pe_ix (r := rIxS2 K) ix_sq (pv 4) (pv 1) (fun _ _ => rfl)) pe_int (nomark _))
        (pe_one (pe_callB (cr_all rfl) (by rfl) T.all boot_all (pa_cons (pe_lc (own := [("number", 5)]) (g := gName 5) (tt := tYes) rfl sc_isat.nd (pi_seq (pe_slice (r := fun x lo hi H Q => rSlL K x lo hi H Q ∨ rSlA K x lo hi H Q) (SlR.or sl_list sl_tupA) (pv 4) po_none (po_some (pv 1))))
          (blkOk_by (N := N_isat) (sc := defScope st_isat) (by decide +kernel)) (fun _ _ _ _ _ => pg_name (i := 5) sc_isat.nd rfl (Or.inl rfl) (Or.inr rfl)) (fun _ _ _ _ _ => pts_nil)
          (fun _ _ _ _ _ => pe_cmpR op_eq (pv 5) pe_int (nomark _))) pa_nil)))))))), ?_⟩
    have av : AnyV H x d := .inl hx
    refine r_seq (r_if (r_or (r_not (r_b ⟨_, rfl, x, .ty "tuple", _, _, _, rfl, .ty _, av.ty, kit_tup K d, _, rfl, ?_⟩))))
    by_cases hT : isTupD d = true
    · obtain ⟨ds, rfl⟩ : ∃ ds, d = .tuple ds := by
        cases d with
        | tuple ds => exact ⟨ds, rfl⟩
        | _ => exact absurd hT (by simp [isTupD])
      cases hx with
      | @tup a vs _ e z =>
      refine ifF rfl (r_tt (r_op (cb1 ⟨_, rfl, a, _, rfl, .inr (.inl (.inl e)), rfl, _, rfl, ?_⟩)))
      have lv := pyVs_len z
      by_cases l : vs.length = 2
      · refine ifF (by rw [l]; rfl) ?_
        obtain ⟨vb, vr, rfl⟩ := len2 l
        obtain ⟨db, dr, rfl⟩ : ∃ db dr, ds = [db, dr] := len2 (by rw [← lv]; rfl)
        have hb : PyV H vb db := pyVs_at z (j := 0) rfl rfl
        have hrw : PyV H vr dr := pyVs_at z (j := 1) rfl rfl
        refine r_next (r_nseq (r_asg ⟨_, rfl, a, _, rfl, .inl (.inl e), rfl, _, _, rfl, _, _, rfl, rfl, ?_⟩))
        refine r_next (r_nseq (r_if (r_or (r_not (r_b (a1 ⟨_, rfl, vb, db, rfl, .inl hb, fun H1 s1 => ⟨_, rfl, ?_⟩⟩))))))
        by_cases hI : isIntD db = true
        · obtain ⟨b, rfl⟩ : ∃ b, db = .int b := by
            cases db with
            | int b => exact ⟨b, rfl⟩
            | _ => exact absurd hI (by simp [isIntD])
          cases hb
          refine ifF rfl (r_or (r_tt (r_op ⟨_, rfl, _, _, rfl, rfl, _, rfl, ?_⟩)))
          by_cases hb1 : b < 1
          · refine ifT (decide_eq_true hb1) (r_ret (r_k ?_))
            have : sqAtB n k (.tuple [.int b, dr]) = false := by
              rw [sqAt_pair, decide_eq_false (by omega : ¬ 1 ≤ b)]
              rfl
            rw [← this]
            exact q _ s1
          · refine ifF (decide_eq_false hb1) (r_not (r_b (a2 ⟨_, rfl, _, rfl, vr, dr, n, rfl, .inl (hrw.mono s1), l2 dr (by simp [items]), fun H2 s2 => ⟨_, rfl, ?_⟩⟩)))
            by_cases hR : rowOfB n dr = true
            · refine ifF (by rw [hR]; rfl) ?_
              obtain ⟨k1, k2, k3, k4, k5⟩ := row_ints hR
              have S2 := s1.trans s2
              have sv : SeqV H2 vr (iD (intsD (items dr))) := by
                have := seq_of (.inl (hrw.mono S2)) k1
                rwa [k2] at this
              generalize hxs : intsD (items dr) = xs at k3 sv
              obtain ⟨t, ar, wv, rfl, qx, px⟩ := sv.at K
              have ew := pyVs_ints px
              subst ew
              have eqS : sqAtB n k (.tuple [.int b, dr]) = (!decide (V.int (xs.getD k 0) = V.int 0) && (xs.take k).all fun x => decide (x = 0)) := by
                rw [sqAt_pair]
                unfold headB
                rw [decide_eq_true (by omega : 1 ≤ b), hR, hxs]
                simp
              refine r_next (r_nret (r_andV (r_op (r_op ⟨_, rfl, _, rfl, t, ar, _, _, _, rfl, rfl, qx _ (Same.refl _), ixL (by omega), rfl, _, rfl, ?_⟩))))
              by_cases h0 : xs.getD k 0 = 0
              · refine ifF (by rw [h0]; rfl) ?_
                have : sqAtB n k (.tuple [.int b, dr]) = false := by rw [eqS, h0]; rfl
                rw [← this]
                exact q H2 S2
              · refine ifT (by rw [decide_eq_false (fun z => h0 (V.int.inj z))]; rfl) (cb1 (tlc_call ⟨_, rfl, _, rfl, _, rfl, sl_seq sv (by omega) fun b2 t2 H3 s3 qb => ⟨t2, b2, _, rfl, qb _ (Same.refl _), ?_⟩⟩))
                have lk : (xs.take k).length = k := by rw [List.length_take]; omega
                refine lc_el (p := none) k (fun j v => ∃ x, (xs.take k)[j]? = some x ∧ v = .bl (decide (x = 0))) has_none (by omega) (fun j H4 hj s4 => its_go (qb _ s4.same) (List.getElem?_eq_getElem (by rw [List.length_map, lk]; exact hj))) (fun H4 s4 => its_stop (qb _ s4.same) (by rw [List.length_map, lk]; exact Nat.le_refl _)) (fun j x H4 H5 C' hj s4 _ hy hC => ?_) fun Da H4 rs nDa s4 hDa hrl hrE => ?_
                · obtain ⟨rfl, ex⟩ := its_yld hy (qb _ s4.same)
                  have ej : (xs.take k)[j]? = some ((xs.take k)[j]'(by omega)) := List.getElem?_eq_getElem _
                  rw [List.getElem?_map, ej] at ex
                  cases ex
                  refine ⟨rfl, r_op ⟨_, rfl, rfl, hC _ _ (RX.refl _) ⟨_, ej, ?_⟩⟩⟩
                  exact congrArg V.bl (decide_eq_decide.mpr ⟨fun e => V.int.inj e, fun e => congrArg V.int e⟩)
                · have er : rs = ((xs.take k).map fun x => decide (x = 0)).map V.bl := by
                    rw [List.map_map]
                    exact map_of_get (n := 0) _ (by rw [hrl, lk]) hrE
                  subst er
                  refine ⟨Da, _, rfl, SqL.of hDa, ?_⟩
                  have := q _ (S2.trans (s3.trans s4.same))
                  rw [eqS, decide_eq_false (fun z => h0 (V.int.inj z))] at this
                  rw [List.all_map]
                  exact this
            · refine ifT (by rw [Bool.eq_false_iff.mpr hR]; rfl) (r_ret (r_k ?_))
              have : sqAtB n k (.tuple [.int b, dr]) = false := by
                rw [sqAt_pair, Bool.eq_false_iff.mpr hR, Bool.and_false]
                rfl
              rw [← this]
              exact q _ (s1.trans s2)
        · refine ifT (by rw [Bool.eq_false_iff.mpr hI]; rfl) (r_ret (r_k ?_))
          have : sqAtB n k (.tuple [db, dr]) = false := by
            cases db with
            | int b => exact absurd rfl hI
            | _ => rfl
          rw [← this]
          exact q _ s1
      · refine ifT (by simp; omega) (r_ret (r_k ?_))
        have : sqAtB n k (.tuple ds) = false := by
          match ds, lv with
          | [], _ => rfl
          | [x], _ => cases x <;> rfl
          | [_, _], lv => exact absurd lv l
          | x :: _ :: _ :: _, _ => cases x <;> rfl
        rw [← this]
        exact q _ (Same.refl H)
    · refine ifT (by rw [Bool.eq_false_iff.mpr hT]; rfl) (r_ret (r_k ?_))
      have : sqAtB n k d = false := by
        cases d with
        | tuple ds => exact absurd rfl hT
        | _ => rfl
      rw [← this]
      exact q _ (Same.refl H)
end
end T29
set_option Elab.async false
set_option linter.all false
set_option maxRecDepth 100000
set_option maxHeartbeats 4000000
namespace T29
open PySem PySem.Spec PyProof.Rows L2 Gd Zn Rp Dn Tb Gn En Zs Ct Op Oc Rg Rt Ro Oa
def GoodD (d : PyData) (p : Int × List Int) : Prop := ∃ dr, d = .tuple [.int p.1, dr] ∧ isSeq dr = true ∧ items dr = iD p.2
def Tol (H : Hp) (v : V) (ps : List (Int × List Int)) : Prop := ∃ ds, SeqV H v ds ∧ ds.length = ps.length ∧ ∀ (i : Nat) (d : PyData) (p : Int × List Int), ds[i]? = some d → ps[i]? = some p → GoodD d p
theorem Tol.mono {H H' : Hp} {v : V} {ps : List (Int × List Int)} (h : Tol H v ps) (s : Same H H') : Tol H' v ps := by
  obtain ⟨ds, a, b⟩ := h
  exact ⟨ds, SeqV.mono s a, b⟩
theorem tol_at {H : Hp} {v : V} {ps : List (Int × List Int)} (K : PySem.W.Frag) (h : Tol H v ps) : ∃ (t : Bool) (a : Addr) (vs : List V), v = .ref a ∧ (∀ H', Same H H' → SqV K H' t a vs) ∧ vs.length = ps.length ∧
    ∀ (i : Nat) (x : V), vs[i]? = some x → ∃ c p rv, ps[i]? = some p ∧ x = .ref c ∧ H c = some (.tup [.int p.1, rv]) ∧ SeqV H rv (iD p.2) := by
  obtain ⟨ds, sv, l, hg⟩ := h
  obtain ⟨t, a, vs, rfl, q, z⟩ := sv.at K
  have lv := pyVs_len z
  refine ⟨t, a, vs, rfl, q, by omega, fun i x e => ?_⟩
  have hi : i < vs.length := (List.getElem?_eq_some_iff.mp e).1
  have ed : ds[i]? = some ds[i] := List.getElem?_eq_getElem (by omega)
  have ep : ps[i]? = some ps[i] := List.getElem?_eq_getElem (by omega)
  obtain ⟨dr, e1, e2, e3⟩ := hg i _ _ ed ep
  have px := pyVs_at z e ed
  rw [e1] at px
  cases px with
  | @tup c ws _ ec zc =>
    cases zc with
    | cons h1 h2 =>
      cases h1
      cases h2 with
      | cons h3 h4 =>
        cases h4
        refine ⟨c, _, _, ep, rfl, ec, ?_⟩
        have := seq_of (.inl h3) e2
        rwa [e3] at this
def prodP (ps : List (Int × List Int)) : Int := ps.foldl (fun w p => w * p.1) 1
def termP (W : Int) (a b : Nat) (p : Int × List Int) : Int := p.2.getD a 0 * p.2.getD b 0 * (W / p.1)
def sumP (ps : List (Int × List Int)) (a b : Nat) : Int := (ps.map (termP (prodP ps) a b)).sum
def addsB (n : Nat) (M : List (List Int)) (ps : List (Int × List Int)) : Bool := decide (∀ a, a < n → ∀ b, b < n → sumP ps a b = ent M a b * prodP ps)
def OkP (n : Nat) (ps : List (Int × List Int)) : Prop := ∀ p ∈ ps, p.2.length = n ∧ 1 ≤ p.1 ∧ p.1.natAbs < 2 ^ 2000 ∧ Rb 2000 p.2
theorem prod_take {ps : List (Int × List Int)} {i : Nat} (hi : i < ps.length) : prodP (ps.take (i + 1)) = prodP (ps.take i) * (ps[i]).1 := by
  unfold prodP
  rw [List.take_add_one, List.getElem?_eq_getElem hi, List.foldl_append]
  rfl
theorem prod_bits {n : Nat} {ps : List (Int × List Int)} (h : OkP n ps) : ∀ i, i ≤ ps.length → (prodP (ps.take i)).natAbs < 2 ^ (2000 * i + 1) := fun i => by
  induction i with
  | zero => intro _; show (1 : Int).natAbs < 2 ^ 1; decide
  | succ i ih =>
    intro hi
    rw [prod_take (by omega)]
    exact Wd.abs_mono (Wd.abs_mul (ih (by omega)) (h _ (List.getElem_mem (by omega : i < ps.length))).2.2.1) (by omega)
theorem div_bits {W b : Int} {k : Nat} (hW : W.natAbs < 2 ^ k) (hb : 1 ≤ b) : (W / b).natAbs < 2 ^ k := by
  have : (W / b).natAbs ≤ W.natAbs := Int.natAbs_ediv_le_natAbs W b
  omega
theorem log_of {b : Int} {k : Nat} (hb : 1 ≤ b) (h : b.natAbs < 2 ^ k) : b.natAbs.log2 < k := (Nat.log2_lt (by omega)).mpr h
section
variable {P : Program} {w : World} {K : PySem.W.Frag} {mg : Str → Option Value} {base : Heap} {C : Addr}
abbrev st_adds : Stmt := top 54
abbrev N_adds : List Str := ["rows", "told", "whole", "bottom", "_", "at", "line", "place", "number", "row"]
theorem sc_adds : FnScope N_adds ["rows", "told"] (defScope st_adds) := ⟨rfl, rfl, rfl, by decide +kernel, rfl, by decide +kernel, by decide +kernel⟩
def sp_adds : Sp := fun vs H Q _ => ∃ (rv v : V) (M : List (List Int)) (n : Nat) (ps : List (Int × List Int)), vs = [rv, v] ∧ Mx H rv M ∧ Sq n M ∧ n ≤ 3 ∧ Tol H v ps ∧ ps.length ≤ 3 ∧ OkP n ps ∧ ∀ H', Same H H' → Q (.bl (addsB n M ps)) H'
theorem ok_adds {f : Addr} {fd : FuncData} (F : Fun K "_adds_up" "_adds_up" st_adds f fd) (T : Txt mg) : FnOk P w K mg base CX0 1 f fd ["rows", "told"] sp_adds := by
  refine F.ok sc_adds (fun vs H Q E h => ?_) (fun cdv A outer s H vs Q E hr h => ?_)
  · obtain ⟨rv, v, M, n, ps, rfl, _⟩ := h
    rfl
  · obtain ⟨rv, v, M, n, ps, rfl, ⟨ra, rx, rfl, hra, hR⟩, hS, h3, hT, l3, hO, q⟩ := h
    refine ⟨_, pss_cons (ps_set (i := 2) sc_adds.nd rfl (Or.inr rfl) pe_int)
      (pss_cons (ps_for PassesOwn.never rfl (pi_seq (pv 1)) (pg_tup rfl (pgs_cons (pg_name (i := 3) sc_adds.nd rfl (Or.inl rfl)) (pgs_cons (pg_name (i := 4) sc_adds.nd rfl (Or.inl rfl)) pgs_nil)))
        (pss_one (ps_set (i := 2) sc_adds.nd rfl (Or.inr rfl) (pe_op op_mulX (pv 2) (pv 3)))))
      (pss_cons (ps_for PassesOwn.never rfl (pi_enumS (by rfl) T.enum (pa_cons (pv 0) pa_nil)) (pg_tup rfl (pgs_cons (pg_name (i := 5) sc_adds.nd rfl (Or.inr rfl)) (pgs_cons (pg_name (i := 6) sc_adds.nd rfl (Or.inl rfl)) pgs_nil)))
        (pss_one (ps_for PassesOwn.never rfl (pi_enumS (by rfl) T.enum (pa_cons (pv 6) pa_nil)) (pg_tup rfl (pgs_cons (pg_name (i := 7) sc_adds.nd rfl (Or.inr rfl)) (pgs_cons (pg_name (i := 8) sc_adds.nd rfl (Or.inl rfl)) pgs_nil)))
          (pss_one (ps_if (pt_cmpR op_ne (pe_callB (r := rSum K) (cr_sum rfl) (by rfl) T.sum boot_sum (pa_cons (pe_lc (own := [("bottom", 3), ("row", 9)]) (g := gTup K 2 (gCons (gName 3) (gCons (gName 9) gNil))) (tt := tYes) rfl sc_adds.nd (pi_seq (pv 1))
            (blkOk_by (N := N_adds) (sc := defScope st_adds) (by decide +kernel)) (fun _ _ _ _ _ => pg_tup rfl (pgs_cons (pg_name (i := 3) sc_adds.nd rfl (Or.inl rfl) (Or.inr rfl)) (pgs_cons (pg_name (i := 9) sc_adds.nd rfl (Or.inl rfl) (Or.inr rfl)) pgs_nil))) (fun _ _ _ _ _ => pts_nil)
            (fun _ _ _ _ _ => pe_op op_mulX (pe_op op_mulX (pe_ix (r := rIxS2 K) ix_sq (pv 9) (pv 5) (fun _ _ => rfl)) (pe_ix (r := rIxS2 K) ix_sq (pv 9) (pv 7) (fun _ _ => rfl))) (pe_op op_fdivW (pv 2) (pv 3)))) pa_nil)) (pe_op op_mulX (pv 8) (pv 2)) (nomark _)) (pss_one (ps_ret pe_bl)) pss_nil)))))
      (pss_one (ps_ret pe_bl)))), ?_⟩
    obtain ⟨t, a, vs, rfl, qv, lv, hv⟩ := tol_at K hT
    refine r_seq (r_asg (r_k ?_))
    refine r_next (r_nseq ⟨_, rfl, t, a, vs, rfl, qv _ (Same.refl _), ?_⟩)
    refine for_by ps.length (fun i σ H' => ∃ x3 x4 x5 x6 x7 x8 x9, σ = [some (.ref ra), some (.ref a), some (.int (prodP (ps.take i))), x3, x4, x5, x6, x7, x8, x9] ∧ Same H H')
      ⟨_, _, _, _, _, _, _, rfl, Same.refl _⟩ (fun i σ H' hi hP => ?_) (fun σ H' hP => ?_) (fun i x σ Hb Ha hi hP hy => ?_) (fun σ H' hP => ?_)
    · obtain ⟨_, _, _, _, _, _, _, _, s1⟩ := hP
      exact its_go (qv _ s1) (List.getElem?_eq_getElem (by omega))
    · obtain ⟨_, _, _, _, _, _, _, _, s1⟩ := hP
      exact its_stop (qv _ s1) (by omega)
    · obtain ⟨x3, x4, x5, x6, x7, x8, x9, rfl, s1⟩ := hP
      obtain ⟨rfl, ex⟩ := its_yld hy (qv _ s1)
      obtain ⟨c, p, rv, ep, rfl, hc, hrv⟩ := hv i x ex
      refine ⟨c, _, rfl, .inl (.inl (s1 _ _ hc)), rfl, _, _, rfl, _, _, rfl, rfl, ?_⟩
      have ei : ps[i]'hi = p := by rw [List.getElem?_eq_getElem hi] at ep; exact Option.some.inj ep
      have op := hO p (by rw [← ei]; exact List.getElem_mem hi)
      refine r_asg (r_op ⟨_, rfl, _, rfl, _, _, rfl, rfl, Wd.mulW ⟨_, by omega, prod_bits hO i (by omega)⟩ ⟨2000, by decide, op.2.2.1⟩, ?_⟩)
      refine ⟨some (.int p.1), some rv, x5, x6, x7, x8, x9, ?_, s1⟩
      rw [prod_take hi, ei]
      rfl
    · obtain ⟨x3, x4, x5, x6, x7, x8, x9, rfl, s1⟩ := hP
      rw [List.take_length]
      have wW : (prodP ps).natAbs < 2 ^ (2000 * 3 + 1) := by
        have := prod_bits hO ps.length (Nat.le_refl _)
        rw [List.take_length] at this
        exact Wd.abs_mono this (by omega)
      have lR : rx.length = n := by rw [hR.len, hS.len]
      have qr : ∀ H', Same H H' → SqV K H' true ra rx := fun H' s => .inl (.inl (s _ _ hra))
      refine r_next (r_nseq ⟨_, rfl, true, ra, rx, rfl, qr _ s1, ?_⟩)
      refine for_by n (fun i σ H' => ∃ x3 x4 x5 x6 x7 x8 x9, σ = [some (.ref ra), some (.ref a), some (.int (prodP ps)), x3, x4, x5, x6, x7, x8, x9] ∧ Same H H' ∧ ∀ a, a < i → ∀ b, b < n → sumP ps a b = ent M a b * prodP ps)
        ⟨_, _, _, _, _, _, _, rfl, s1, fun a ha => absurd ha (by omega)⟩ (fun i σ H' hi hP => ?_) (fun σ H' hP => ?_) (fun i x σ Hb Ha hi hP hy => ?_) (fun σ H' hP => ?_)
      · obtain ⟨_, _, _, _, _, _, _, _, s2, _⟩ := hP
        exact ⟨_, _, qr _ s2, List.getElem?_eq_getElem (by omega)⟩
      · obtain ⟨_, _, _, _, _, _, _, _, s2, _⟩ := hP
        exact ⟨_, qr _ s2, by omega⟩
      · obtain ⟨x3, x4, x5, x6, x7, x8, x9, rfl, s2, hA⟩ := hP
        obtain ⟨T2, y, rfl, nT, rfl, hu⟩ := hy
        have ey := hu _ (qr _ s2)
        obtain ⟨r, er, ⟨rb, rfl, hrb⟩⟩ := hR.get ey
        have sT := s2.trans (same_new (o := .tup [V.int (i : Nat), .ref rb]) nT)
        refine ⟨T2, _, rfl, .inl (.inl upd_same), rfl, _, _, rfl, _, _, rfl, rfl, ?_⟩
        generalize upd Hb T2 (.tup [V.int (i : Nat), .ref rb]) = H3 at sT
        have lr := hS.row r (List.mem_of_getElem? er)
        have qrb : ∀ H', Same H H' → SqV K H' true rb (r.map V.int) := fun H' s => .inl (.inl (s _ _ hrb))
        have eM : M.getD i [] = r := getD_of er
        have sr := hS.small r (List.mem_of_getElem? er)
        refine ⟨_, rfl, true, rb, r.map V.int, rfl, qrb _ sT, ?_⟩
        refine for_by n (fun j σ H' => ∃ x3 x4 x7 x8 x9, σ = [some (.ref ra), some (.ref a), some (.int (prodP ps)), x3, x4, some (.int (i : Nat)), some (.ref rb), x7, x8, x9] ∧ Same H H' ∧ ∀ b, b < j → sumP ps i b = ent M i b * prodP ps)
          ⟨_, _, _, _, _, rfl, sT, fun b hb => absurd hb (by omega)⟩ (fun j σ H' hj hP => ?_) (fun σ H' hP => ?_) (fun j x σ Hb Ha hj hP hy => ?_) (fun σ H' hP => ?_)
        · obtain ⟨_, _, _, _, _, _, s4, _⟩ := hP
          exact ⟨_, _, qrb _ s4, List.getElem?_eq_getElem (by rw [List.length_map]; omega)⟩
        · obtain ⟨_, _, _, _, _, _, s4, _⟩ := hP
          exact ⟨_, qrb _ s4, by rw [List.length_map]; omega⟩
        · obtain ⟨x3, x4, x7, x8, x9, rfl, s4, hB⟩ := hP
          obtain ⟨T3, y, rfl, nT3, rfl, hu⟩ := hy
          have ey2 := hu _ (qrb _ s4)
          have hj' : j < r.length := by omega
          rw [List.getElem?_map, List.getElem?_eq_getElem hj'] at ey2
          cases ey2
          have sT3 := s4.trans (same_new (o := .tup [V.int (j : Nat), .int r[j]]) nT3)
          refine ⟨T3, _, rfl, .inl (.inl upd_same), rfl, _, _, rfl, _, _, rfl, rfl, ?_⟩
          generalize upd Hb T3 (.tup [V.int (j : Nat), .int r[j]]) = H5 at sT3
          have eE : ent M i j = r[j] := by
            unfold ent
            rw [eM, List.getD_eq_getElem?_getD, List.getElem?_eq_getElem hj']
            rfl
          refine r_if (r_tt (r_op (cb1 (tlc_call ⟨_, rfl, t, a, vs, rfl, qv _ sT3, ?_⟩))))
          refine lc_el (p := none) ps.length (fun k v => ∃ p, ps[k]? = some p ∧ v = .int (termP (prodP ps) i j p)) has_none (by omega) (fun k H6 hk s6 => its_go (qv _ (sT3.trans s6.same)) (List.getElem?_eq_getElem (by omega))) (fun H6 s6 => its_stop (qv _ (sT3.trans s6.same)) (by omega)) (fun k x H6 H7 C' hk s6 _ hy hC => ?_) fun Da H6 rs nDa s6 hDa hrl hrE => ?_
          · obtain ⟨rfl, ex⟩ := its_yld hy (qv _ (sT3.trans s6.same))
            obtain ⟨c, p, rv, ep, rfl, hc, hrv⟩ := hv k x ex
            have S6 := sT3.trans s6.same
            have op := hO p (List.mem_of_getElem? ep)
            obtain ⟨t2, ar, wv, rfl, qx, px⟩ := hrv.at K
            have ew := pyVs_ints px
            subst ew
            refine ⟨c, _, rfl, .inl (.inl (S6 _ _ hc)), rfl, _, _, rfl, _, _, rfl, rfl, rfl, ?_⟩
            have w1 : ∀ k, k < n → (p.2.getD k 0).natAbs < 2 ^ 2000 := fun k hk => rb_get op.2.2.2 (by omega)
            refine r_op (r_op (r_op ⟨_, rfl, _, rfl, t2, ar, _, _, _, rfl, rfl, qx _ S6, ixL (by omega), ?_⟩))
            refine ⟨_, rfl, _, rfl, t2, ar, _, _, _, rfl, rfl, qx _ S6, ixL (by omega), _, _, rfl, rfl, Wd.mulW ⟨2000, by decide, w1 i hi⟩ ⟨2000, by decide, w1 j hj⟩, ?_⟩
            refine ⟨_, rfl, _, rfl, _, _, rfl, rfl, ⟨by omega, Nat.lt_trans (log_of op.2.1 op.2.2.1) (by decide)⟩, _, _, rfl, rfl, Wd.mulW ⟨_, by decide, Wd.abs_mul (w1 i hi) (w1 j hj)⟩ ⟨_, by decide, div_bits wW op.2.1⟩, ?_⟩
            exact hC _ _ (RX.refl _) ⟨p, ep, rfl⟩
          · have er2 : rs = (ps.map (termP (prodP ps) i j)).map V.int := by
              rw [List.map_map]
              exact map_of_get (n := 0) _ hrl hrE
            subst er2
            have S6 := sT3.trans s6.same
            refine ⟨Da, _, rfl, SqL.of hDa, r_op ⟨_, rfl, _, rfl, _, _, rfl, rfl, Wd.mulW (sr _ (List.getElem_mem hj')).w ⟨_, by decide, wW⟩, rfl, _, rfl, ?_⟩⟩
            by_cases hz : sumP ps i j = ent M i j * prodP ps
            · refine ifF ?_ ?_
              · rw [show (ps.map (termP (prodP ps) i j)).sum = r[j] * prodP ps by rw [← eE]; exact hz]
                simp
              · refine ⟨_, _, _, _, _, rfl, S6, fun b hb => ?_⟩
                by_cases hbj : b = j
                · subst hbj; exact hz
                · exact hB b (by omega)
            · refine ifT ?_ ?_
              · rw [decide_eq_false (fun e => hz (by rw [eE]; exact V.int.inj e))]
                rfl
              · have e : addsB n M ps = false := decide_eq_false fun k => hz (k i hi j hj)
                have := q _ S6
                rw [e] at this
                exact this
        · obtain ⟨x3, x4, x7, x8, x9, rfl, s4, hB⟩ := hP
          refine ⟨_, _, _, _, _, _, _, rfl, s4, fun a ha b hb => ?_⟩
          by_cases hai : a = i
          · subst hai; exact hB b hb
          · exact hA a (by omega) b hb
      · obtain ⟨x3, x4, x5, x6, x7, x8, x9, rfl, s2, hA⟩ := hP
        refine r_next (r_nret (r_k ?_))
        have e : addsB n M ps = true := decide_eq_true hA
        have := q H' s2
        rw [e] at this
        exact this
end
end T29
set_option Elab.async false
set_option linter.all false
set_option maxRecDepth 100000
set_option maxHeartbeats 4000000
namespace T29
open PySem PySem.Spec PyProof.Rows L2 Gd Zn Rp Dn Tb Gn En Zs Ct Op Oc Rg Rt Ro Oa
def pairOf : PyData → Int × List Int
  | .tuple [.int b, r] => (b, intsD (items r))
  | _ => (0, [])
def toP (ds : List PyData) : List (Int × List Int) := ds.map pairOf
def allAt (n : Nat) (ds : List PyData) : Bool := (List.range ds.length).all fun k => sqAtB n k (ds.getD k .none)
def sqB (n : Nat) (M : List (List Int)) (d : PyData) : Bool := isSeq d && decide ((items d).length = n) && allAt n (items d) && addsB n M (toP (items d))
theorem sqAt_good {n k : Nat} {d : PyData} (h : sqAtB n k d = true) : GoodD d (pairOf d) ∧ 1 ≤ (pairOf d).1 ∧ (pairOf d).2.length = n := by
  have : ∃ b r, d = .tuple [.int b, r] := by
    unfold sqAtB at h
    split at h
    · exact ⟨_, _, rfl⟩
    · cases h
  obtain ⟨b, r, rfl⟩ := this
  rw [sqAt_pair] at h
  simp only [Bool.and_eq_true, decide_eq_true_eq] at h
  obtain ⟨k1, k2, k3, _⟩ := row_ints h.1.2
  exact ⟨⟨r, rfl, k1, k2⟩, h.1.1, k3⟩
/-- what may be judged: nothing large in it -/
structure Fine (d : PyData) : Prop where
  l0 : (items d).length ≤ 200
  l1 : ∀ e ∈ items d, (items e).length ≤ 200
  l2 : ∀ e ∈ items d, ∀ c ∈ items e, (items c).length ≤ 200
  sm : ∀ e ∈ items d, ∀ p, GoodD e p → p.1.natAbs < 2 ^ 2000 ∧ Rb 2000 p.2
section
variable {P : Program} {w : World} {K : PySem.W.Frag} {mg : Str → Option Value} {base : Heap} {C : Addr}
abbrev st_isq : Stmt := top 51
abbrev N_isq : List Str := ["form", "value", "place", "pair"]
theorem sc_isq : FnScope N_isq ["form", "value"] (defScope st_isq) := ⟨rfl, rfl, rfl, by decide +kernel, rfl, by decide +kernel, by decide +kernel⟩
def sp_il (C : Addr) : Sp := fun vs H Q E => sp_is_list vs H Q E ∨ sp_no1 C vs H Q E
/-- what is_squares says of v -/
def IsqV (C : Addr) (H : Hp) (n : Nat) (M : List (List Int)) (v : V) (b : Bool) : Prop := (∃ d, AnyV H v d ∧ Fine d ∧ sqB n M d = b) ∨ ((∃ N, Tab C H v N) ∧ b = false)
theorem IsqV.mono {C : Addr} {H H' : Hp} {n : Nat} {M : List (List Int)} {v : V} {b : Bool} (h : IsqV C H n M v b) (s : Same H H') : IsqV C H' n M v b := by
  rcases h with ⟨d, h1, h2, h3⟩ | ⟨⟨N, t⟩, h⟩
  · exact .inl ⟨d, h1.mono s, h2, h3⟩
  · exact .inr ⟨⟨N, T29.Tab.same s t⟩, h⟩
def sp_isq (C : Addr) : Sp := fun vs H Q _ => ∃ f v M, ∃ n b : Nat, ∃ r, vs = [f, v] ∧ Fv C H f n b M ∧ b ≤ 2000 ∧ IsqV C H n M v r ∧ ∀ H', Same H H' → Q (.bl r) H'
theorem ok_isq {f : Addr} {fd : FuncData} (F : Fun K "is_squares" "is_squares" st_isq f fd) (T : Txt mg) (Fc : Fcl K mg C) (D0 : Def P w K mg base "check_form" 1 ["form"] (sp_check_form C)) (D1 : Def P w K mg base "is_list" 1 ["value"] (sp_il C)) (D2 : Def P w K mg base "is_square_at" 4 ["size", "place", "pair"] sp_isat) (D3 : Def P w K mg base "_adds_up" 1 ["rows", "told"] sp_adds)
    (D4 : Prp P w K mg base C "rows" 1 (sp_rows C)) (D5 : Prp P w K mg base C "size" 1 (sp_size C)) : FnOk P w K mg base CX0 5 f fd ["form", "value"] (sp_isq C) := by
  refine F.ok sc_isq (fun vs H Q E h => ?_) (fun cdv A outer s H vs Q E hr h => ?_)
  · obtain ⟨fv, v, M, n, b, r, rfl, _⟩ := h
    rfl
  · obtain ⟨fv, v, M, n, b, r, rfl, hf, lb, hV, q⟩ := h
    refine ⟨_, pss_cons (ps_expr (pe_def D0 hr (pa_cons (pv 0) pa_nil)))
      (pss_cons (ps_if (PW.pt (pw_or (pt_not (pt_val (pe_def D1 hr (pa_cons (pv 1) pa_nil)))) (pw_or1 (pt_cmpR op_ne (pe_callB (r := Dn.rLen K) c_len (by rfl) T.len PySem.boot_len (pa_cons (pv 1) pa_nil)) (pe_prp D5 Fc.cl hr (pv 0)) (nomark _))))) (pss_one (ps_ret pe_bl)) pss_nil)
      (pss_cons (ps_if (pt_not (pt_val (pe_callB (cr_all rfl) (by rfl) T.all boot_all (pa_cons (pe_lc (own := [("place", 2), ("pair", 3)]) (g := gTup K 2 (gCons (gName 2) (gCons (gName 3) gNil))) (tt := tYes) rfl sc_isq.nd (pi_enumS (by rfl) T.enum (pa_cons (pv 1) pa_nil))
        (blkOk_by (N := N_isq) (sc := defScope st_isq) (by decide +kernel)) (fun _ _ _ _ _ => pg_tup rfl (pgs_cons (pg_name (i := 2) sc_isq.nd rfl (Or.inl rfl) (Or.inr rfl)) (pgs_cons (pg_name (i := 3) sc_isq.nd rfl (Or.inl rfl) (Or.inr rfl)) pgs_nil))) (fun _ _ _ _ _ => pts_nil)
        (fun _ _ _ _ _ => pe_def (X := Cx.blk _ _ _ _ _ _) D2 hr (pa_cons (pe_prp (X := Cx.blk _ _ _ _ _ _) D5 Fc.cl hr (pv 0)) (pa_cons (pv 2) (pa_cons (pv 3) pa_nil))))) pa_nil)))) (pss_one (ps_ret pe_bl)) pss_nil)
      (pss_one (ps_ret (pe_def D3 hr (pa_cons (pe_prp D4 Fc.cl hr (pv 0)) (pa_cons (pv 1) pa_nil))))))), ?_⟩
    have hS := hf.bd.sq (by omega : b ≤ 20000)
    have h3 := hf.h3
    refine r_seq (a1 ⟨_, rfl, fv, M, rfl, hf.tab, ?_⟩)
    rcases hV with ⟨d, av, fi, rfl⟩ | ⟨⟨N, ht⟩, rfl⟩
    · refine r_next (r_nseq (r_if (r_or (r_not (r_b (a1 ⟨_, rfl, .inl ⟨v, d, rfl, av, fun H1 s1 => ⟨_, rfl, ?_⟩⟩⟩))))))
      by_cases hI : isSeq d = true
      · have sv := seq_of av hI
        obtain ⟨t, a, vs, rfl, qv, px⟩ := sv.at K
        have lv := pyVs_len px
        refine ifF (by rw [hI]; rfl) (r_tt (r_op (cb1 ⟨_, rfl, a, vs, rfl, sq_or (qv _ s1), r_prop ⟨_, rfl, p_size (hf.same s1).tab ⟨rfl, _, rfl, ?_⟩⟩⟩)))
        have hlen : (M.length : Int) = (n : Int) := by rw [hS.len]
        rw [hlen]
        by_cases hl : vs.length = n
        · refine ifF (by rw [hl]; simp) ?_
          refine r_next (r_nseq (r_if (r_not (r_b (cb1 (tlc_call ⟨_, rfl, t, a, vs, rfl, qv _ s1, ?_⟩))))))
          refine lc_el (p := none) vs.length (fun k v => v = .bl (sqAtB n k ((items d).getD k .none))) has_none (by omega) (fun k H6 hk s6 => ⟨_, _, qv _ (s1.trans s6.same), List.getElem?_eq_getElem hk⟩) (fun H6 s6 => ⟨_, qv _ (s1.trans s6.same), Nat.le_refl _⟩) (fun k x H6 H7 C' hk s6 _ hy hC => ?_) fun Da H6 rs nDa s6 hDa hrl hrE => ?_
          · obtain ⟨T2, y, rfl, nT, rfl, hu⟩ := hy
            have ex := hu _ (qv _ (s1.trans s6.same))
            have sT := s6.same.trans (same_new (o := .tup [V.int (k : Nat), y]) nT)
            refine ⟨T2, _, rfl, .inl (.inl upd_same), rfl, _, _, rfl, _, _, rfl, rfl, rfl, ?_⟩
            have sN := same_new (o := .tup [V.int (k : Nat), y]) nT
            generalize upd H6 T2 (.tup [V.int (k : Nat), y]) = H7 at sT sN
            have ed : (items d)[k]? = some ((items d)[k]'(by omega)) := List.getElem?_eq_getElem _
            have md := List.mem_of_getElem? ed
            have eg : (items d).getD k .none = (items d)[k]'(by omega) := by rw [List.getD_eq_getElem?_getD, ed]; rfl
            have py := pyVs_at px ex ed
            rw [eg] at hC
            refine a3 (r_prop ⟨_, rfl, p_size (hf.same (s1.trans sT)).tab ⟨_, rfl, _, rfl, y, _, n, k, ?_, py.mono (s1.trans sT), by omega, fi.l1 _ md, fi.l2 _ md, fun H8 s8 => hC _ _ (RX.of (sN.trans s8)) rfl⟩⟩)
            rw [hlen]
          · have er : rs = ((List.range (items d).length).map fun k => sqAtB n k ((items d).getD k .none)).map V.bl := by
              rw [List.map_map]
              exact map_of_get (n := 0) _ (by rw [hrl, List.length_range, lv]) fun j v e => by
                have hj : j < rs.length := (List.getElem?_eq_some_iff.mp e).1
                exact ⟨j, List.getElem?_range (by omega), hrE j v e⟩
            subst er
            have S6 := s1.trans s6.same
            refine ⟨Da, _, rfl, SqL.of hDa, _, rfl, ?_⟩
            rw [List.all_map]
            by_cases hA : allAt n (items d) = true
            · refine ifF (by show (!allAt n (items d)) = false; rw [hA]; rfl) ?_
              have gd : ∀ k, (hk : k < (items d).length) → GoodD (items d)[k] (pairOf (items d)[k]) ∧ 1 ≤ (pairOf (items d)[k]).1 ∧ (pairOf (items d)[k]).2.length = n := fun k hk => by
                have := List.all_eq_true.mp hA k (List.mem_range.mpr hk)
                rw [List.getD_eq_getElem?_getD, List.getElem?_eq_getElem hk] at this
                exact sqAt_good this
              refine r_next (r_nret (a2 (r_prop ⟨_, rfl, p_rows (hf.same S6).tab fun rr mr => ⟨_, rfl, rr, _, M, n, toP (items d), rfl, mr, hS, h3, ⟨items d, SeqV.mono S6 sv, by unfold toP; rw [List.length_map], fun i e p e1 e2 => ?_⟩, by unfold toP; rw [List.length_map]; omega, fun p hp => ?_, fun H7 s7 => ?_⟩⟩)))
              · have hi := (List.getElem?_eq_some_iff.mp e1).1
                have := gd i hi
                rw [List.getElem?_eq_getElem hi] at e1
                cases e1
                unfold toP at e2
                rw [List.getElem?_map, List.getElem?_eq_getElem hi] at e2
                cases e2
                exact this.1
              · unfold toP at hp
                obtain ⟨e, me, rfl⟩ := List.mem_map.mp hp
                obtain ⟨i, hi, rfl⟩ := List.getElem_of_mem me
                obtain ⟨g1, g2, g3⟩ := gd i hi
                have := fi.sm _ me _ g1
                exact ⟨g3, g2, this.1, this.2⟩
              · have e : sqB n M d = addsB n M (toP (items d)) := by
                  unfold sqB
                  rw [hI, decide_eq_true (by omega : (items d).length = n), hA]
                  rfl
                rw [← e]
                exact q _ (S6.trans s7)
            · refine ifT (by show (!allAt n (items d)) = true; rw [Bool.eq_false_iff.mpr hA]; rfl) (r_ret (r_k ?_))
              have : sqB n M d = false := by
                unfold sqB
                rw [Bool.eq_false_iff.mpr hA, Bool.and_false]
                rfl
              rw [← this]
              exact q _ S6
        · refine ifT (by simp; omega) (r_ret (r_k ?_))
          have : sqB n M d = false := by
            unfold sqB
            rw [decide_eq_false (by omega : ¬ (items d).length = n), Bool.and_false]
            rfl
          rw [← this]
          exact q _ s1
      · refine ifT (by rw [Bool.eq_false_iff.mpr hI]; rfl) (r_ret (r_k ?_))
        have : sqB n M d = false := by
          unfold sqB
          rw [Bool.eq_false_iff.mpr hI]
          rfl
        rw [← this]
        exact q _ s1
    · exact r_next (r_nseq (r_if (r_or (r_not (r_b (a1 ⟨_, rfl, .inr ⟨v, N, rfl, ht, fun H1 s1 => ⟨_, rfl, ifT rfl (r_ret (r_k (q _ s1)))⟩⟩⟩))))))
end
end T29
set_option Elab.async false
set_option linter.all false
set_option maxRecDepth 100000
set_option maxHeartbeats 4000000
namespace T29
open PySem PySem.Spec PyProof.Rows L2 Gd Zn Rp Dn Tb Gn En Zs Ct Op Oc Rg Rt Ro Oa
def HeadOk (k : Nat) (p : Int × List Int) : Prop := 1 ≤ p.1 ∧ p.2.getD k 0 ≠ 0 ∧ ∀ j, j < k → p.2.getD j 0 = 0
instance (k : Nat) (p : Int × List Int) : Decidable (HeadOk k p) := inferInstanceAs (Decidable (_ ∧ _ ∧ _))
def headsB (ps : List (Int × List Int)) : Bool := decide (∀ k, k < ps.length → HeadOk k (ps.getD k (0, [])))
def fitsB (n : Nat) (M : List (List Int)) (ps : List (Int × List Int)) : Bool := headsB ps && addsB n M ps
end T29
set_option Elab.async false
set_option linter.all false
set_option maxRecDepth 100000
set_option maxHeartbeats 4000000
namespace T29
open PySem PySem.Spec PyProof.Rows L2 Gd Zn Rp Dn Tb Gn En Zs Ct Op Oc Rg Rt Ro Oa
theorem FnOk_imp {P : Program} {w : World} {K : PySem.W.Frag} {mg : Str → Option Value} {base : Heap} {CX : CXT} {k : Nat} {f : Addr} {fd : FuncData} {ps : List Str} {sp sp' : Sp} (h : ∀ vs H Q E, sp' vs H Q E → sp vs H Q E) (F : FnOk P w K mg base CX k f fd ps sp) : FnOk P w K mg base CX k f fd ps sp' :=
  ⟨fun vs H Q E q => F.len vs H Q E (h _ _ _ _ q), fun A outer s H args us vs Q E hr he hb hv q => F.run A outer s H args us vs Q E hr he hb hv (h _ _ _ _ q)⟩
section
variable {P : Program} {w : World} {K : PySem.W.Frag} {mg : Str → Option Value} {base : Heap} {C : Addr}
def sp_sqN (C : Addr) : Sp := fun vs H Q _ => ∃ v M, ∃ n b : Nat, vs = [v] ∧ Fv C H v n b M ∧ b ≤ 5000 ∧ ¬ Bowl n M ∧ ∀ H', Same H H' → Q .non H'
theorem ok_sqN {f : Addr} {fd : FuncData} (F : Fun K "squares" "squares" st_sqs f fd) (T : Txt mg) (hmin : mg "min" = none) (D1 : Def P w K mg base "corners" 8 ["form"] (sp_corners C)) : FnOk P w K mg base CX0 9 f fd ["form"] (sp_sqN C) := by
  refine F.ok sc_sqs (fun vs H Q E h => ?_) (fun cdv A outer s H vs Q E hr h => ?_)
  · obtain ⟨v, M, n, b, rfl, _⟩ := h
    rfl
  · obtain ⟨v, M, n, b, rfl, hv, lb, hB, q⟩ := h
    refine ⟨_, pss_cons (ps_set (i := 1) sc_sqs.nd rfl (Or.inr rfl) (pe_def D1 hr (pa_cons (pv 0) pa_nil)))
      (pss_cons (ps_if (pt_cmpR op_le (pe_callB (cr_min rfl) (by rfl) hmin boot_min (pa_cons (pv 1) pa_nil)) pe_int (nomark _)) (pss_one (ps_ret pe_non)) pss_nil) pss_dead), ?_⟩
    have h1 := hv.h1
    refine r_seq (r_asg (a1 ⟨_, rfl, v, M, n, b, rfl, hv, lb, fun Dc H1 s1 hDc => ?_⟩))
    refine r_next (r_nseq (r_if (r_tt (r_op (cb1 ⟨_, rfl, Dc, crn n M, rfl, SqL.of hDc, by rw [crn_len]; omega, fun m hm hl => ⟨_, _, rfl, rfl, _, rfl, ifT (decide_eq_true ?_) (r_ret (r_k (q _ s1)))⟩⟩)))))
    by_cases z : m ≤ 0
    · exact z
    · exfalso
      refine hB fun i hi => ?_
      have := hl _ (crn_mem.mpr ⟨i, hi, rfl⟩)
      omega
def sp_sqa (C : Addr) : Sp := fun vs H Q _ => ∃ v M, ∃ n b : Nat, vs = [v] ∧ Fv C H v n b M ∧ b ≤ 5000 ∧ (Bowl n M → ∀ D rs H', Same H H' → H' D = some (.lst rs) → H D = none → rs.length = n → (∀ (i : Nat) (v : V), rs[i]? = some v → SquV H' v (ahd n M i * dC M i) (lnL n M i)) → Q (.ref D) H') ∧ (¬ Bowl n M → ∀ H', Same H H' → Q .non H')
theorem ok_sqa {f : Addr} {fd : FuncData} (F : Fun K "squares" "squares" st_sqs f fd) (T : Txt mg) (hmin : mg "min" = none) (Fc : Fcl K mg C) (D1 : Def P w K mg base "corners" 8 ["form"] (sp_corners C)) (D2 : Def P w K mg base "_leaned" 8 ["rows", "at", "place"] sp_lea)
    (D4 : Prp P w K mg base C "rows" 1 (sp_rows C)) (D5 : Prp P w K mg base C "size" 1 (sp_size C)) : FnOk P w K mg base CX0 9 f fd ["form"] (sp_sqa C) :=
  FnOk_imp (fun vs H Q E h => by
    obtain ⟨v, M, n, b, e, hv, lb, q1, q2⟩ := h
    by_cases hB : Bowl n M
    · exact .inl ⟨v, M, n, b, e, hv, lb, hB, q1 hB⟩
    · exact .inr ⟨v, M, n, b, e, hv, lb, hB, q2 hB⟩) (FnOk_or (ok_sqs F T hmin Fc D1 D2 D4 D5) (ok_sqN F T hmin D1))
end
end T29
set_option Elab.async false
set_option linter.all false
set_option maxRecDepth 100000
set_option maxHeartbeats 4000000
namespace T29
open PySem PySem.Spec PyProof.Rows L2 Gd Zn Rp Dn Tb Gn En Zs Ct Op Oc Rg Rt Ro Oa
theorem t0 {W a k : Int} (ha : 0 < a) (e : W = a * k) : W / a = k := by rw [e, Int.mul_ediv_cancel_left _ (by omega)]
theorem foldl_mul (ps : List (Int × List Int)) : ∀ w, ps.foldl (fun w p => w * p.1) w = w * prodP ps := by
  induction ps with
  | nil => intro w; show w = w * 1; omega
  | cons p ps ih =>
    intro w
    unfold prodP
    rw [List.foldl_cons, List.foldl_cons, ih, ih (1 * p.1)]
    grind
theorem prod_cons (p : Int × List Int) (ps : List (Int × List Int)) : prodP (p :: ps) = p.1 * prodP ps := by
  show ps.foldl (fun w p => w * p.1) (1 * p.1) = _
  rw [foldl_mul, Int.one_mul]
theorem prod_pos : ∀ {ps : List (Int × List Int)}, (∀ p ∈ ps, 1 ≤ p.1) → 0 < prodP ps
  | [], _ => by decide
  | p :: ps, h => by
    rw [prod_cons]
    exact Int.mul_pos (by have := h p List.mem_cons_self; omega) (prod_pos fun q hq => h q (List.mem_cons_of_mem _ hq))
theorem prod_dvd : ∀ {ps : List (Int × List Int)} {p : Int × List Int}, p ∈ ps → (∀ p ∈ ps, 1 ≤ p.1) → ∃ q, 0 < q ∧ prodP ps = p.1 * q
  | a :: ps, p, h, h1 => by
    rw [prod_cons]
    have h2 := fun q hq => h1 q (List.mem_cons_of_mem _ hq)
    rcases List.mem_cons.mp h with rfl | h
    · exact ⟨_, prod_pos h2, rfl⟩
    · obtain ⟨q, q0, e⟩ := prod_dvd h h2
      exact ⟨a.1 * q, Int.mul_pos (by have := h1 a List.mem_cons_self; omega) q0, by rw [e]; grind⟩
/-- how much a term weighs -/
def wtP (ps : List (Int × List Int)) (p : Int × List Int) : Int := prodP ps / p.1
theorem wt_pos {ps : List (Int × List Int)} {p : Int × List Int} (h : p ∈ ps) (h1 : ∀ p ∈ ps, 1 ≤ p.1) : 0 < wtP ps p := by
  obtain ⟨q, q0, e⟩ := prod_dvd h h1
  unfold wtP
  rw [t0 (by have := h1 p h; omega) e]
  exact q0
theorem sum_sq {α : Type} {f : α → Int} {l : List α} (h : ∀ x ∈ l, 0 ≤ f x) : 0 ≤ (l.map f).sum := by
  induction l with
  | nil => simp
  | cons x l ih =>
    rw [List.map_cons, List.sum_cons]
    have := h x List.mem_cons_self
    have := ih fun y hy => h y (List.mem_cons_of_mem _ hy)
    omega
theorem sum_sq0 {α : Type} {f : α → Int} {l : List α} (h : ∀ x ∈ l, 0 ≤ f x) (e : (l.map f).sum = 0) : ∀ x ∈ l, f x = 0 := by
  induction l with
  | nil => intro x hx; cases hx
  | cons x l ih =>
    rw [List.map_cons, List.sum_cons] at e
    have a := h x List.mem_cons_self
    have b := sum_sq fun y hy => h y (List.mem_cons_of_mem _ hy)
    intro y hy
    rcases List.mem_cons.mp hy with rfl | hy
    · omega
    · exact ih (fun y hy => h y (List.mem_cons_of_mem _ hy)) (by omega) y hy
theorem sum_add {α : Type} {f g : α → Int} {l : List α} : (l.map f).sum + (l.map g).sum = (l.map fun x => f x + g x).sum := by
  induction l with
  | nil => rfl
  | cons x l ih => rw [List.map_cons, List.map_cons, List.map_cons, List.sum_cons, List.sum_cons, List.sum_cons, ← ih]; omega
theorem sum_mul {α : Type} {f : α → Int} {l : List α} (c : Int) : (l.map f).sum * c = (l.map fun x => f x * c).sum := by
  induction l with
  | nil => simp
  | cons x l ih => rw [List.map_cons, List.map_cons, List.sum_cons, List.sum_cons, ← ih, Int.add_mul]
/-- worth, of what fits -/
theorem fit_worth {n : Nat} {M : List (List Int)} {ps : List (Int × List Int)} (h1 : 1 ≤ n) (h3 : n ≤ 3) (hM : Sh n M) (l : ∀ p ∈ ps, p.2.length = n) (hs : addsB n M ps = true) (xs : List Int) (hx : xs.length = n) :
    btwM M xs xs * prodP ps = (ps.map fun p => dot p.2 xs * dot p.2 xs * wtP ps p).sum := by
  unfold addsB at hs
  rw [decide_eq_true_eq] at hs
  have : n = 1 ∨ n = 2 ∨ n = 3 := by omega
  rcases this with rfl | rfl | rfl
  · obtain ⟨a, rfl⟩ := sh1 hM rfl
    obtain ⟨x, rfl⟩ := len1 hx
    have e00 : sumP ps 0 0 = a * prodP ps := hs 0 (by decide) 0 (by decide)
    unfold sumP at e00
    have : btwM [[a]] [x] [x] * prodP ps = a * prodP ps * (x * x) := by simp [btwM, ledM, dot]; grind
    rw [this, ← e00, sum_mul]
    refine congrArg List.sum (List.map_congr_left fun p hp => ?_)
    obtain ⟨u, eu⟩ := len1 (l p hp)
    unfold termP wtP
    rw [eu]
    simp [dot]
    grind
  · obtain ⟨a, b, c, d, rfl⟩ := sh2 hM rfl
    obtain ⟨x, y, rfl⟩ := len2 hx
    have e00 : sumP ps 0 0 = a * prodP ps := hs 0 (by decide) 0 (by decide)
    have e01 : sumP ps 0 1 = b * prodP ps := hs 0 (by decide) 1 (by decide)
    have e10 : sumP ps 1 0 = c * prodP ps := hs 1 (by decide) 0 (by decide)
    have e11 : sumP ps 1 1 = d * prodP ps := hs 1 (by decide) 1 (by decide)
    have : btwM [[a, b], [c, d]] [x, y] [x, y] * prodP ps = a * prodP ps * (x * x) + (b * prodP ps * (x * y) + (c * prodP ps * (y * x) + d * prodP ps * (y * y))) := by simp [btwM, ledM, dot]; grind
    rw [this, ← e00, ← e01, ← e10, ← e11]
    unfold sumP
    rw [sum_mul, sum_mul, sum_mul, sum_mul, sum_add, sum_add, sum_add]
    refine congrArg List.sum (List.map_congr_left fun p hp => ?_)
    obtain ⟨u, v, eu⟩ := len2 (l p hp)
    unfold termP wtP
    rw [eu]
    simp [dot]
    grind
  · obtain ⟨a, b, c, d, e, f, g, h', i, rfl⟩ := sh3 hM rfl
    obtain ⟨x, y, z, rfl⟩ := len3 hx
    have e00 : sumP ps 0 0 = a * prodP ps := hs 0 (by decide) 0 (by decide)
    have e01 : sumP ps 0 1 = b * prodP ps := hs 0 (by decide) 1 (by decide)
    have e02 : sumP ps 0 2 = c * prodP ps := hs 0 (by decide) 2 (by decide)
    have e10 : sumP ps 1 0 = d * prodP ps := hs 1 (by decide) 0 (by decide)
    have e11 : sumP ps 1 1 = e * prodP ps := hs 1 (by decide) 1 (by decide)
    have e12 : sumP ps 1 2 = f * prodP ps := hs 1 (by decide) 2 (by decide)
    have e20 : sumP ps 2 0 = g * prodP ps := hs 2 (by decide) 0 (by decide)
    have e21 : sumP ps 2 1 = h' * prodP ps := hs 2 (by decide) 1 (by decide)
    have e22 : sumP ps 2 2 = i * prodP ps := hs 2 (by decide) 2 (by decide)
    have : btwM [[a, b, c], [d, e, f], [g, h', i]] [x, y, z] [x, y, z] * prodP ps = a * prodP ps * (x * x) + (b * prodP ps * (x * y) + (c * prodP ps * (x * z) + (d * prodP ps * (y * x) + (e * prodP ps * (y * y) + (f * prodP ps * (y * z) + (g * prodP ps * (z * x) + (h' * prodP ps * (z * y) + i * prodP ps * (z * z)))))))) := by
      generalize prodP ps = W
      simp [btwM, ledM, dot]
      grind
    rw [this, ← e00, ← e01, ← e02, ← e10, ← e11, ← e12, ← e20, ← e21, ← e22]
    unfold sumP
    rw [sum_mul, sum_mul, sum_mul, sum_mul, sum_mul, sum_mul, sum_mul, sum_mul, sum_mul, sum_add, sum_add, sum_add, sum_add, sum_add, sum_add, sum_add, sum_add]
    refine congrArg List.sum (List.map_congr_left fun p hp => ?_)
    obtain ⟨u, v, w, eu⟩ := len3 (l p hp)
    unfold termP wtP
    generalize prodP ps / p.1 = W
    rw [eu]
    simp [dot]
    grind
end T29
set_option Elab.async false
set_option linter.all false
set_option maxRecDepth 100000
set_option maxHeartbeats 4000000
namespace T29
open PySem PySem.Spec PyProof.Rows L2 Gd Zn Rp Dn Tb Gn En Zs Ct Op Oc Rg Rt Ro Oa
theorem head_dot {n i : Nat} {l xs : List Int} (h3 : n ≤ 3) (hi : i < n) (ll : l.length = n) (hd : ∀ k, k < i → l.getD k 0 = 0) (hx : xs.length = n) (z : ∀ k, i + 1 ≤ k → xs.getD k 0 = 0) : dot l xs = l.getD i 0 * xs.getD i 0 := by
  rcases lt_cases h3 hi with ⟨rfl, rfl⟩ | ⟨rfl, hq⟩ | ⟨rfl, hq⟩
  · obtain ⟨x, rfl⟩ := len1 hx
    obtain ⟨u, rfl⟩ := len1 ll
    simp [dot]
  · obtain ⟨x, y, rfl⟩ := len2 hx
    obtain ⟨u, v, rfl⟩ := len2 ll
    rcases hq with rfl | rfl
    · have : y = 0 := z 1 (by decide)
      subst this
      simp [dot]
    · have : u = 0 := hd 0 (by decide)
      subst this
      simp [dot]
  · obtain ⟨x, y, w, rfl⟩ := len3 hx
    obtain ⟨u, v, t, rfl⟩ := len3 ll
    rcases hq with rfl | rfl | rfl
    · have e1 : y = 0 := z 1 (by decide)
      have e2 : w = 0 := z 2 (by decide)
      subst e1 e2
      simp [dot]
    · have e1 : u = 0 := hd 0 (by decide)
      have e2 : w = 0 := z 2 (by decide)
      subst e1 e2
      simp [dot]
    · have e1 : u = 0 := hd 0 (by decide)
      have e2 : v = 0 := hd 1 (by decide)
      subst e1 e2
      simp [dot]
theorem fits_head {n : Nat} {M : List (List Int)} {ps : List (Int × List Int)} (f : fitsB n M ps = true) {k : Nat} {p : Int × List Int} (e : ps[k]? = some p) : HeadOk k p := by
  unfold fitsB headsB at f
  rw [Bool.and_eq_true, decide_eq_true_eq] at f
  have := f.1 k (List.getElem?_eq_some_iff.mp e).1
  rwa [List.getD_eq_getElem?_getD, e] at this
theorem fit_pos {n : Nat} {M : List (List Int)} {ps : List (Int × List Int)} (h1 : 1 ≤ n) (h3 : n ≤ 3) (hM : Sh n M) (lp : ps.length = n) (l : ∀ p ∈ ps, p.2.length = n) (f : fitsB n M ps = true) : Pos n M := fun xs hx ⟨x, mx, nx⟩ => by
  have f2 := f
  unfold fitsB at f2
  rw [Bool.and_eq_true] at f2
  have b1 : ∀ p ∈ ps, 1 ≤ p.1 := fun p hp => by
    obtain ⟨i, hi, rfl⟩ := List.getElem_of_mem hp
    exact (fits_head f (List.getElem?_eq_getElem hi)).1
  have e := fit_worth h1 h3 hM l f2.2 xs hx
  have W0 := prod_pos b1
  have nn : ∀ p ∈ ps, 0 ≤ dot p.2 xs * dot p.2 xs * wtP ps p := fun p hp => Int.mul_nonneg (sq_nn _) (Int.le_of_lt (wt_pos hp b1))
  have s0 := sum_sq nn
  rw [← e] at s0
  have w0 : 0 ≤ btwM M xs xs := by
    by_cases z : 0 ≤ btwM M xs xs
    · exact z
    · have := Int.mul_neg_of_neg_of_pos (by omega : btwM M xs xs < 0) W0
      omega
  by_cases z : btwM M xs xs = 0
  · exfalso
    rw [z, Int.zero_mul] at e
    have d0 : ∀ p ∈ ps, dot p.2 xs = 0 := fun p hp => by
      have := sum_sq0 nn e.symm p hp
      rcases Int.mul_eq_zero.mp this with q | q
      · rcases Int.mul_eq_zero.mp q with q | q <;> exact q
      · have := wt_pos hp b1; omega
    have key : ∀ m, m ≤ n → ∀ k, n - m ≤ k → xs.getD k 0 = 0 := fun m => by
      induction m with
      | zero =>
        intro _ k hk
        rw [List.getD_eq_getElem?_getD, List.getElem?_eq_none (by omega)]
        rfl
      | succ m ih =>
        intro hm k hk
        have ihm := ih (by omega)
        by_cases c : k = n - (m + 1)
        · have hkn : k < n := by omega
          have ep : ps[k]? = some (ps[k]'(by omega)) := List.getElem?_eq_getElem _
          have mp := List.mem_of_getElem? ep
          have hh := fits_head f ep
          have hd := head_dot h3 hkn (l _ mp) hh.2.2 hx fun j hj => ihm j (by omega)
          rw [d0 _ mp] at hd
          rcases Int.mul_eq_zero.mp hd.symm with q | q
          · exact absurd q hh.2.1
          · exact q
        · exact ihm k (by omega)
    obtain ⟨i, hi, rfl⟩ := List.getElem_of_mem mx
    have := key n (Nat.le_refl n) i (by omega)
    rw [List.getD_eq_getElem?_getD, List.getElem?_eq_getElem hi] at this
    exact nx this
  · omega
def subM (M : List (List Int)) (sp : List Nat) : List (List Int) := sp.map fun a => sp.map fun b => ent M a b
def lotsB : Nat → Nat → List (List Nat)
  | _, 0 => [[]]
  | 0, _ + 1 => []
  | s + 1, k + 1 => lotsB s (k + 1) ++ (lotsB s k).map fun l => l ++ [s]
def mdlM (n : Nat) (M : List (List Int)) (k : Nat) : Int := ((lotsB n k).map fun sp => detM k (subM M sp)).sum
theorem m11 (a : Int) : mdlM 1 [[a]] 1 = a := by
  simp [mdlM, lotsB, subM, ent]
  exact det1 a
theorem m21 (a b c : Int) : mdlM 2 [[a, b], [b, c]] 1 = a + c := by
  simp [mdlM, lotsB, subM, ent]
  rw [det1, det1]
theorem m22 (a b c : Int) : mdlM 2 [[a, b], [b, c]] 2 = a * c - b * b := by
  simp [mdlM, lotsB, subM, ent]
  rw [det2]
theorem m31 (a b c d e f : Int) : mdlM 3 [[a, b, c], [b, d, e], [c, e, f]] 1 = a + d + f := by
  simp [mdlM, lotsB, subM, ent]
  rw [det1, det1, det1]
  omega
theorem m32 (a b c d e f : Int) : mdlM 3 [[a, b, c], [b, d, e], [c, e, f]] 2 = a * d - b * b + (a * f - c * c) + (d * f - e * e) := by
  simp [mdlM, lotsB, subM, ent]
  rw [det2, det2, det2]
  omega
theorem m33 (a b c d e f : Int) : mdlM 3 [[a, b, c], [b, d, e], [c, e, f]] 3 = detM 3 [[a, b, c], [b, d, e], [c, e, f]] := by
  simp [mdlM, lotsB, subM, ent]
theorem same_sign {a c b : Int} (h1 : 0 < a + c) (h2 : 0 < a * c - b * b) : 0 < a := by
  by_cases z : 0 < a
  · exact z
  · have hc : 0 < c := by omega
    have := Int.mul_nonpos_of_nonpos_of_nonneg (by omega : a ≤ 0) (Int.le_of_lt hc)
    have := sq_nn b
    omega
section
variable (a b c d e f x y z : Int)
def E2 : Int := a * d - b * b + (a * f - c * c) + (d * f - e * e)
def E3 : Int := a * (d * f - e * e) - b * (b * f - e * c) + c * (b * e - d * c)
theorem ch1 : a * (a * (a * x + b * y + c * z) + b * (b * x + d * y + e * z) + c * (c * x + e * y + f * z)) + b * (b * (a * x + b * y + c * z) + d * (b * x + d * y + e * z) + e * (c * x + e * y + f * z)) + c * (c * (a * x + b * y + c * z) + e * (b * x + d * y + e * z) + f * (c * x + e * y + f * z)) + E2 a b c d e f * (a * x + b * y + c * z)
    = (a + d + f) * (a * (a * x + b * y + c * z) + b * (b * x + d * y + e * z) + c * (c * x + e * y + f * z)) + E3 a b c d e f * x := by
  unfold E2 E3
  grind
theorem ch2 : b * (a * (a * x + b * y + c * z) + b * (b * x + d * y + e * z) + c * (c * x + e * y + f * z)) + d * (b * (a * x + b * y + c * z) + d * (b * x + d * y + e * z) + e * (c * x + e * y + f * z)) + e * (c * (a * x + b * y + c * z) + e * (b * x + d * y + e * z) + f * (c * x + e * y + f * z)) + E2 a b c d e f * (b * x + d * y + e * z)
    = (a + d + f) * (b * (a * x + b * y + c * z) + d * (b * x + d * y + e * z) + e * (c * x + e * y + f * z)) + E3 a b c d e f * y := by
  unfold E2 E3
  grind
theorem ch3 : c * (a * (a * x + b * y + c * z) + b * (b * x + d * y + e * z) + c * (c * x + e * y + f * z)) + e * (b * (a * x + b * y + c * z) + d * (b * x + d * y + e * z) + e * (c * x + e * y + f * z)) + f * (c * (a * x + b * y + c * z) + e * (b * x + d * y + e * z) + f * (c * x + e * y + f * z)) + E2 a b c d e f * (c * x + e * y + f * z)
    = (a + d + f) * (c * (a * x + b * y + c * z) + e * (b * x + d * y + e * z) + f * (c * x + e * y + f * z)) + E3 a b c d e f * z := by
  unfold E2 E3
  grind
end
end T29
set_option Elab.async false
set_option linter.all false
set_option maxRecDepth 100000
set_option maxHeartbeats 4000000
namespace T29
open PySem PySem.Spec PyProof.Rows L2 Gd Zn Rp Dn Tb Gn En Zs Ct Op Oc Rg Rt Ro Oa
theorem yAy (e1 e2 e3 u1 u2 u3 v1 v2 v3 x1 x2 x3 : Int) (h : x1 * v1 + x2 * v2 + x3 * v3 = u1 * u1 + u2 * u2 + u3 * u3) :
    (v1 + e2 * x1) * (e1 * v1 + e3 * x1) + (v2 + e2 * x2) * (e1 * v2 + e3 * x2) + (v3 + e2 * x3) * (e1 * v3 + e3 * x3) = e1 * (v1 * v1 + v2 * v2 + v3 * v3) + (e3 + e1 * e2) * (u1 * u1 + u2 * u2 + u3 * u3) + e2 * e3 * (x1 * x1 + x2 * x2 + x3 * x3) := by
  rw [← h]
  grind
theorem xAu (a b c d e f x y z : Int) : x * (a * (a * x + b * y + c * z) + b * (b * x + d * y + e * z) + c * (c * x + e * y + f * z)) + y * (b * (a * x + b * y + c * z) + d * (b * x + d * y + e * z) + e * (c * x + e * y + f * z)) + z * (c * (a * x + b * y + c * z) + e * (b * x + d * y + e * z) + f * (c * x + e * y + f * z))
    = (a * x + b * y + c * z) * (a * x + b * y + c * z) + (b * x + d * y + e * z) * (b * x + d * y + e * z) + (c * x + e * y + f * z) * (c * x + e * y + f * z) := by grind
theorem sq3_pos {x y z : Int} (h : x ≠ 0 ∨ y ≠ 0 ∨ z ≠ 0) : 0 < x * x + y * y + z * z := by
  have p : ∀ {t : Int}, t ≠ 0 → 0 < t * t := fun {t} ht => by
    rcases Int.lt_or_gt_of_ne ht with h | h
    · exact Int.mul_pos_of_neg_of_neg h h
    · exact Int.mul_pos h h
  have a := sq_nn x
  have b := sq_nn y
  have c := sq_nn z
  rcases h with h | h | h
  · have := p h; omega
  · have := p h; omega
  · have := p h; omega
theorem lin3 (a b c v1 v2 v3 x y z e2 : Int) : a * (v1 + e2 * x) + b * (v2 + e2 * y) + c * (v3 + e2 * z) = a * v1 + b * v2 + c * v3 + e2 * (a * x + b * y + c * z) := by grind
theorem btw3 (a b c d e f y1 y2 y3 : Int) : btwM [[a, b, c], [b, d, e], [c, e, f]] [y1, y2, y3] [y1, y2, y3] = y1 * (a * y1 + b * y2 + c * y3) + y2 * (b * y1 + d * y2 + e * y3) + y3 * (c * y1 + e * y2 + f * y3) := by
  simp [btwM, ledM, dot, Int.add_assoc]
theorem worthB0 {a b c d e f x y z u1 u2 u3 v1 v2 v3 e1 e2 e3 : Int} (hu1 : a * x + b * y + c * z = u1) (hu2 : b * x + d * y + e * z = u2) (hu3 : c * x + e * y + f * z = u3)
    (k1 : a * v1 + b * v2 + c * v3 + e2 * u1 = e1 * v1 + e3 * x) (k2 : b * v1 + d * v2 + e * v3 + e2 * u2 = e1 * v2 + e3 * y) (k3 : c * v1 + e * v2 + f * v3 + e2 * u3 = e1 * v3 + e3 * z)
    (k4 : x * v1 + y * v2 + z * v3 = u1 * u1 + u2 * u2 + u3 * u3) (h1 : 0 < e1) (h2 : 0 < e2) (h3 : 0 < e3) (hx : x ≠ 0 ∨ y ≠ 0 ∨ z ≠ 0) :
    0 < btwM [[a, b, c], [b, d, e], [c, e, f]] [v1 + e2 * x, v2 + e2 * y, v3 + e2 * z] [v1 + e2 * x, v2 + e2 * y, v3 + e2 * z] := by
  have A1 : a * (v1 + e2 * x) + b * (v2 + e2 * y) + c * (v3 + e2 * z) = e1 * v1 + e3 * x := by rw [lin3, hu1]; exact k1
  have A2 : b * (v1 + e2 * x) + d * (v2 + e2 * y) + e * (v3 + e2 * z) = e1 * v2 + e3 * y := by rw [lin3, hu2]; exact k2
  have A3 : c * (v1 + e2 * x) + e * (v2 + e2 * y) + f * (v3 + e2 * z) = e1 * v3 + e3 * z := by rw [lin3, hu3]; exact k3
  rw [btw3, A1, A2, A3, yAy e1 e2 e3 u1 u2 u3 v1 v2 v3 x y z k4]
  have s1 : 0 ≤ v1 * v1 + v2 * v2 + v3 * v3 := by have := sq_nn v1; have := sq_nn v2; have := sq_nn v3; omega
  have s2 : 0 ≤ u1 * u1 + u2 * u2 + u3 * u3 := by have := sq_nn u1; have := sq_nn u2; have := sq_nn u3; omega
  have p1 := Int.mul_nonneg (Int.le_of_lt h1) s1
  have p2 := Int.mul_nonneg (a := e3 + e1 * e2) (by have := Int.mul_pos h1 h2; omega) s2
  have p3 := Int.mul_pos (Int.mul_pos h2 h3) (sq3_pos hx)
  omega
/-- A A + e2 -/
def bM (a b c d e f e2 : Int) : List (List Int) := [[a * a + b * b + c * c + e2, a * b + b * d + c * e, a * c + b * e + c * f], [a * b + b * d + c * e, b * b + d * d + e * e + e2, b * c + d * e + e * f], [a * c + b * e + c * f, b * c + d * e + e * f, c * c + e * e + f * f + e2]]
theorem bM_worth (a b c d e f e2 x y z : Int) : btwM (bM a b c d e f e2) [x, y, z] [x, y, z] = (a * x + b * y + c * z) * (a * x + b * y + c * z) + (b * x + d * y + e * z) * (b * x + d * y + e * z) + (c * x + e * y + f * z) * (c * x + e * y + f * z) + e2 * (x * x + y * y + z * z) := by
  unfold bM
  rw [btw3]
  grind
theorem bM_pos {a b c d e f e2 : Int} (h : 0 < e2) : Pos 3 (bM a b c d e f e2) := fun xs hx ⟨w, mw, nw⟩ => by
  obtain ⟨x, y, z, rfl⟩ := len3 hx
  rw [bM_worth]
  have hz : x ≠ 0 ∨ y ≠ 0 ∨ z ≠ 0 := by
    simp at mw
    rcases mw with rfl | rfl | rfl
    · exact .inl nw
    · exact .inr (.inl nw)
    · exact .inr (.inr nw)
  have p := Int.mul_pos h (sq3_pos hz)
  have s1 := sq_nn (a * x + b * y + c * z)
  have s2 := sq_nn (b * x + d * y + e * z)
  have s3 := sq_nn (c * x + e * y + f * z)
  omega
/-- the adjugate of a symmetric form, applied -/
theorem adj3 (p q r s t u w1 w2 w3 : Int) :
    p * ((s * u - t * t) * w1 + (r * t - q * u) * w2 + (q * t - r * s) * w3) + q * ((r * t - q * u) * w1 + (p * u - r * r) * w2 + (q * r - p * t) * w3) + r * ((q * t - r * s) * w1 + (q * r - p * t) * w2 + (p * s - q * q) * w3) = (p * (s * u - t * t) - q * (q * u - t * r) + r * (q * t - s * r)) * w1 ∧
    q * ((s * u - t * t) * w1 + (r * t - q * u) * w2 + (q * t - r * s) * w3) + s * ((r * t - q * u) * w1 + (p * u - r * r) * w2 + (q * r - p * t) * w3) + t * ((q * t - r * s) * w1 + (q * r - p * t) * w2 + (p * s - q * q) * w3) = (p * (s * u - t * t) - q * (q * u - t * r) + r * (q * t - s * r)) * w2 ∧
    r * ((s * u - t * t) * w1 + (r * t - q * u) * w2 + (q * t - r * s) * w3) + t * ((r * t - q * u) * w1 + (p * u - r * r) * w2 + (q * r - p * t) * w3) + u * ((q * t - r * s) * w1 + (q * r - p * t) * w2 + (p * s - q * q) * w3) = (p * (s * u - t * t) - q * (q * u - t * r) + r * (q * t - s * r)) * w3 := by
  refine ⟨?_, ?_, ?_⟩ <;> grind
theorem btw_scale (a b c d e f k x y z : Int) : btwM [[a, b, c], [b, d, e], [c, e, f]] [k * x, k * y, k * z] [k * x, k * y, k * z] = k * k * btwM [[a, b, c], [b, d, e], [c, e, f]] [x, y, z] [x, y, z] := by
  rw [btw3, btw3]
  grind
theorem Bx1 (a b c d e f e2 x y z : Int) : (a * a + b * b + c * c + e2) * x + (a * b + b * d + c * e) * y + (a * c + b * e + c * f) * z = a * (a * x + b * y + c * z) + b * (b * x + d * y + e * z) + c * (c * x + e * y + f * z) + e2 * x := by grind
theorem Bx2 (a b c d e f e2 x y z : Int) : (a * b + b * d + c * e) * x + (b * b + d * d + e * e + e2) * y + (b * c + d * e + e * f) * z = b * (a * x + b * y + c * z) + d * (b * x + d * y + e * z) + e * (c * x + e * y + f * z) + e2 * y := by grind
theorem Bx3 (a b c d e f e2 x y z : Int) : (a * c + b * e + c * f) * x + (b * c + d * e + e * f) * y + (c * c + e * e + f * f + e2) * z = c * (a * x + b * y + c * z) + e * (b * x + d * y + e * z) + f * (c * x + e * y + f * z) + e2 * z := by grind
/-- where the middles are above 0 every row's worth is -/
theorem mid_pos3 {a b c d e f : Int} (h1 : 0 < a + d + f) (h2 : 0 < E2 a b c d e f) (h3 : 0 < E3 a b c d e f) : Pos 3 [[a, b, c], [b, d, e], [c, e, f]] := fun xs hx ⟨w, mw, nw⟩ => by
  obtain ⟨w1, w2, w3, rfl⟩ := len3 hx
  have hw : w1 ≠ 0 ∨ w2 ≠ 0 ∨ w3 ≠ 0 := by
    simp at mw
    rcases mw with rfl | rfl | rfl
    · exact .inl nw
    · exact .inr (.inl nw)
    · exact .inr (.inr nw)
  have bp := bM_pos (a := a) (b := b) (c := c) (d := d) (e := e) (f := f) h2
  have bsy : transp 3 (bM a b c d e f (E2 a b c d e f)) = bM a b c d e f (E2 a b c d e f) := rfl
  have bsh : Sh 3 (bM a b c d e f (E2 a b c d e f)) := ⟨rfl, by simp [bM]⟩
  have bd := pos_bowl (by decide) bsh bsy bp 2 (by decide)
  have el : dC (bM a b c d e f (E2 a b c d e f)) 2 = detM 3 (bM a b c d e f (E2 a b c d e f)) := dC_last (n := 3) (by decide) bsh
  rw [el] at bd
  unfold bM at bd
  rw [det3] at bd
  have b1 := Bx1 a b c d e f (E2 a b c d e f)
  have b2 := Bx2 a b c d e f (E2 a b c d e f)
  have b3 := Bx3 a b c d e f (E2 a b c d e f)
  generalize a * a + b * b + c * c + E2 a b c d e f = p at bd b1
  generalize a * b + b * d + c * e = q at bd b1 b2
  generalize a * c + b * e + c * f = r at bd b1 b3
  generalize b * b + d * d + e * e + E2 a b c d e f = s at bd b2
  generalize b * c + d * e + e * f = t at bd b2 b3
  generalize c * c + e * e + f * f + E2 a b c d e f = u at bd b3
  obtain ⟨a1, a2, a3⟩ := adj3 p q r s t u w1 w2 w3
  generalize p * (s * u - t * t) - q * (q * u - t * r) + r * (q * t - s * r) = k at bd a1 a2 a3
  generalize (s * u - t * t) * w1 + (r * t - q * u) * w2 + (q * t - r * s) * w3 = x at a1 a2 a3
  generalize (r * t - q * u) * w1 + (p * u - r * r) * w2 + (q * r - p * t) * w3 = y at a1 a2 a3
  generalize (q * t - r * s) * w1 + (q * r - p * t) * w2 + (p * s - q * q) * w3 = z at a1 a2 a3
  rw [b1] at a1
  rw [b2] at a2
  rw [b3] at a3
  have hx' : x ≠ 0 ∨ y ≠ 0 ∨ z ≠ 0 := by
    by_cases zx : x = 0 ∧ y = 0 ∧ z = 0
    · exfalso
      obtain ⟨rfl, rfl, rfl⟩ := zx
      simp only [Int.mul_zero, Int.add_zero] at a1 a2 a3
      rcases hw with h | h | h
      · exact h ((Int.mul_eq_zero.mp a1.symm).resolve_left (by omega))
      · exact h ((Int.mul_eq_zero.mp a2.symm).resolve_left (by omega))
      · exact h ((Int.mul_eq_zero.mp a3.symm).resolve_left (by omega))
    · by_cases x0 : x = 0
      · by_cases y0 : y = 0
        · exact .inr (.inr fun z0 => zx ⟨x0, y0, z0⟩)
        · exact .inr (.inl y0)
      · exact .inl x0
  have main := worthB0 (v1 := a * (a * x + b * y + c * z) + b * (b * x + d * y + e * z) + c * (c * x + e * y + f * z)) (v2 := b * (a * x + b * y + c * z) + d * (b * x + d * y + e * z) + e * (c * x + e * y + f * z)) (v3 := c * (a * x + b * y + c * z) + e * (b * x + d * y + e * z) + f * (c * x + e * y + f * z)) rfl rfl rfl (ch1 a b c d e f x y z) (ch2 a b c d e f x y z) (ch3 a b c d e f x y z) (xAu a b c d e f x y z) h1 h2 h3 hx'
  rw [a1, a2, a3, btw_scale] at main
  exact pp main rfl (Int.mul_pos bd bd)
end T29
set_option Elab.async false
set_option linter.all false
set_option maxRecDepth 100000
set_option maxHeartbeats 4000000
namespace T29
open PySem PySem.Spec PyProof.Rows L2 Gd Zn Rp Dn Tb Gn En Zs Ct Op Oc Rg Rt Ro Oa
theorem e3det (a b c d e f : Int) : E3 a b c d e f = detM 3 [[a, b, c], [b, d, e], [c, e, f]] := by
  rw [det3]
  rfl
theorem pos_of_mul {a b c : Int} (h : 0 ≤ c) (e : c < a * b) (ha : 0 < a) : 0 < b := by
  by_cases z : 0 < b
  · exact z
  · have := Int.mul_nonpos_of_nonneg_of_nonpos (Int.le_of_lt ha) (by omega : b ≤ 0)
    omega
theorem bowl_mid {n : Nat} {M : List (List Int)} (h1 : 1 ≤ n) (h3 : n ≤ 3) (hM : Sh n M) (sy : transp n M = M) : (∀ k, 1 ≤ k → k ≤ n → 0 < mdlM n M k) ↔ Bowl n M := by
  have : n = 1 ∨ n = 2 ∨ n = 3 := by omega
  rcases this with rfl | rfl | rfl
  · obtain ⟨a, rfl⟩ := sh1 hM rfl
    constructor
    · intro h i hi
      have := h 1 (by decide) (by decide)
      rw [m11] at this
      obtain rfl : i = 0 := by omega
      unfold dC
      rw [d1E1]
      exact this
    · intro h k k1 k2
      obtain rfl : k = 1 := by omega
      have := h 0 (by decide)
      unfold dC at this
      rw [d1E1] at this
      rw [m11]
      exact this
  · obtain ⟨a, b, c, rfl⟩ := sy2 hM sy
    constructor
    · intro h i hi
      have k1 := h 1 (by decide) (by decide)
      have k2 := h 2 (by decide) (by decide)
      rw [m21] at k1
      rw [m22] at k2
      have : i = 0 ∨ i = 1 := by omega
      unfold dC
      rcases this with rfl | rfl
      · rw [d1E2]; exact same_sign k1 k2
      · rw [d2E2]; exact k2
    · intro h k k1 k2
      have a0 := h 0 (by decide)
      have a1 := h 1 (by decide)
      unfold dC at a0 a1
      rw [d1E2] at a0
      rw [d2E2] at a1
      have : k = 1 ∨ k = 2 := by omega
      rcases this with rfl | rfl
      · rw [m21]
        have := pos_of_mul (b := c) (sq_nn b) (by omega : b * b < a * c) a0
        omega
      · rw [m22]; exact a1
  · obtain ⟨a, b, c, d, e, f, rfl⟩ := sy3 hM sy
    constructor
    · intro h
      have k1 := h 1 (by decide) (by decide)
      have k2 := h 2 (by decide) (by decide)
      have k3 := h 3 (by decide) (by decide)
      rw [m31] at k1
      rw [m32] at k2
      rw [m33, ← e3det] at k3
      exact pos_bowl (by decide) hM sy (mid_pos3 k1 k2 k3)
    · intro h k k1 k2
      have a0 := h 0 (by decide)
      have a1 := h 1 (by decide)
      have a2 := h 2 (by decide)
      unfold dC at a0 a1 a2
      rw [d1E3] at a0
      rw [d2E3] at a1
      rw [d3E3] at a2
      have hd := pos_of_mul (b := d) (sq_nn b) (by omega : b * b < a * d) a0
      have q1 : (a * d - b * b) * (a * f - c * c) = a * (a * (d * f - e * e) - b * (b * f - e * c) + c * (b * e - d * c)) + (a * e - b * c) * (a * e - b * c) := by grind
      have q2 : (a * d - b * b) * (d * f - e * e) = d * (a * (d * f - e * e) - b * (b * f - e * c) + c * (b * e - d * c)) + (b * e - c * d) * (b * e - c * d) := by grind
      have p1 := Int.mul_pos a0 a2
      have p2 := Int.mul_pos hd a2
      have s1 := sq_nn (a * e - b * c)
      have s2 := sq_nn (b * e - c * d)
      have g1 : 0 < a * f - c * c := pp (by omega) q1.symm a1
      have g2 : 0 < d * f - e * e := pp (by omega) q2.symm a1
      have hf := pos_of_mul (b := f) (sq_nn c) (by omega : c * c < a * f) a0
      have : k = 1 ∨ k = 2 ∨ k = 3 := by omega
      rcases this with rfl | rfl | rfl
      · rw [m31]; omega
      · rw [m32]; omega
      · rw [m33, det3]; exact a2
def sqL (n : Nat) (M : List (List Int)) : List (Int × List Int) := (List.range n).map fun k => (ahd n M k * dC M k, lnL n M k)
theorem ln1 (a : Int) : lnL 1 [[a]] 0 = [a] := by
  simp [lnL, leanM, List.range_succ]
  exact det1 a
theorem ln20 (a b c d : Int) : lnL 2 [[a, b], [c, d]] 0 = [a, b] := by
  simp [lnL, leanM, List.range_succ]
  exact ⟨det1 a, det1 b⟩
theorem ln21 (a b c : Int) : lnL 2 [[a, b], [b, c]] 1 = [0, a * c - b * b] := by
  simp [lnL, leanM, List.range_succ]
  rw [det2, det2]
  exact ⟨by grind, rfl⟩
theorem ln30 (a b c d e f : Int) : lnL 3 [[a, b, c], [b, d, e], [c, e, f]] 0 = [a, b, c] := by
  simp [lnL, leanM, List.range_succ]
  exact ⟨det1 a, det1 b, det1 c⟩
theorem ln31 (a b c d e f : Int) : lnL 3 [[a, b, c], [b, d, e], [c, e, f]] 1 = [0, a * d - b * b, a * e - c * b] := by
  simp [lnL, leanM, List.range_succ]
  rw [det2, det2, det2]
  exact ⟨by grind, rfl, rfl⟩
theorem ln32 (a b c d e f : Int) : lnL 3 [[a, b, c], [b, d, e], [c, e, f]] 2 = [0, 0, detM 3 [[a, b, c], [b, d, e], [c, e, f]]] := by
  simp [lnL, leanM, List.range_succ]
  rw [det3, det3]
  exact ⟨by grind, by grind⟩
theorem k11 (a b d k D x : Int) (e : a * d = k + b * b) : b * b * (k * D) + k * k * D + a * (0 * 0) = d * a * (k * D) := by
  rw [Int.mul_comm d a, e]
  grind
theorem k12 (a b c f k D x : Int) (e : a * f = x + b * c) : b * c * (k * D) + k * x * D + a * (0 * D) = f * a * (k * D) := by
  rw [Int.mul_comm f a, e]
  grind
theorem k21 (a b c f k D x : Int) (e : a * f = x + b * c) : c * b * (k * D) + x * k * D + a * (D * 0) = f * a * (k * D) := by
  rw [Int.mul_comm f a, e]
  grind
theorem k22 (a c g k D x : Int) (e : k * (a * g) = a * D + x * x + k * (c * c)) : c * c * (k * D) + x * x * D + a * (D * D) = g * a * (k * D) := by
  have : g * a * (k * D) = k * (a * g) * D := by grind
  rw [this, e]
  grind
theorem k0 (a r s k D z t u : Int) (hz : r * s = z * a) (ht : t = 0) (hu : u = 0) : r * s * (k * D) + t * D + a * u = z * a * (k * D) := by
  rw [hz, ht, hu]
  grind
theorem kg (a k D r0 s0 r1 s1 r2 s2 : Int) : r0 * s0 * (a * k * k * D) + (r1 * s1 * (a * k * D) + (r2 * s2 * (a * a * k) + 0)) = a * k * (r0 * s0 * (k * D) + r1 * s1 * D + a * (r2 * s2)) := by grind
theorem kz (a k D z : Int) : a * k * (z * a * (k * D)) = z * (1 * (1 * a) * (a * k) * (k * D)) := by grind
theorem kq1 (a k D : Int) : 1 * (1 * a) * (a * k) * (k * D) = 1 * a * (a * k * k * D) := by grind
theorem kq2 (a k D : Int) : 1 * (1 * a) * (a * k) * (k * D) = a * k * (a * k * D) := by grind
theorem kq3 (a k D : Int) : 1 * (1 * a) * (a * k) * (k * D) = k * D * (a * a * k) := by grind
theorem sq_fits {n : Nat} {M : List (List Int)} (h1 : 1 ≤ n) (h3 : n ≤ 3) (hM : Sh n M) (sy : transp n M = M) (hB : Bowl n M) : fitsB n M (sqL n M) = true := by
  have : n = 1 ∨ n = 2 ∨ n = 3 := by omega
  rcases this with rfl | rfl | rfl
  · obtain ⟨a, rfl⟩ := sh1 hM rfl
    have a0 : 0 < a := by have := hB 0 (by decide); unfold dC at this; rw [d1E1] at this; exact this
    have e : sqL 1 [[a]] = [(1 * a, [a])] := by
      show [(1 * dC [[a]] 0, lnL 1 [[a]] 0)] = _
      unfold dC
      rw [ln1, d1E1]
    rw [e]
    unfold fitsB headsB addsB
    rw [Bool.and_eq_true, decide_eq_true_eq, decide_eq_true_eq]
    refine ⟨fun k hk => ?_, fun i hi j hj => ?_⟩
    · have : k = 0 := by simp at hk; exact hk
      subst this
      refine ⟨by show 1 ≤ 1 * a; omega, by show a ≠ 0; omega, fun j hj => absurd hj (by omega)⟩
    · obtain rfl : i = 0 := by omega
      obtain rfl : j = 0 := by omega
      show a * a * (1 * (1 * a) / (1 * a)) + 0 = a * (1 * (1 * a))
      rw [t0 (k := 1) (by omega) (by omega)]
      grind
  · obtain ⟨a, b, c, rfl⟩ := sy2 hM sy
    have a0 : 0 < a := by have := hB 0 (by decide); unfold dC at this; rw [d1E2] at this; exact this
    have k0' : 0 < a * c - b * b := by have := hB 1 (by decide); unfold dC at this; rw [d2E2] at this; exact this
    have e : sqL 2 [[a, b], [b, c]] = [(1 * a, [a, b]), (a * (a * c - b * b), [0, a * c - b * b])] := by
      show [(1 * dC [[a, b], [b, c]] 0, lnL 2 [[a, b], [b, c]] 0), ((crn 2 [[a, b], [b, c]]).getD 0 0 * dC [[a, b], [b, c]] 1, lnL 2 [[a, b], [b, c]] 1)] = _
      rw [crn_get (by decide)]
      unfold dC
      rw [ln20, ln21, d1E2, d2E2]
    rw [e]
    unfold fitsB headsB addsB
    rw [Bool.and_eq_true, decide_eq_true_eq, decide_eq_true_eq]
    generalize hk : a * c - b * b = k at k0' ⊢
    have p1 : 0 < a * k := Int.mul_pos a0 k0'
    refine ⟨fun i hi => ?_, fun i hi j hj => ?_⟩
    · have hi' : i < 2 := hi
      have : i = 0 ∨ i = 1 := by omega
      rcases this with rfl | rfl
      · exact ⟨by show 1 ≤ 1 * a; omega, by show a ≠ 0; omega, fun j hj => absurd hj (by omega)⟩
      · refine ⟨p1, by show k ≠ 0; omega, fun j hj => ?_⟩
        obtain rfl : j = 0 := by omega
        rfl
    · have q1 : 1 * (1 * a) * (a * k) / (1 * a) = a * k := t0 (by omega) (by grind)
      have q2 : 1 * (1 * a) * (a * k) / (a * k) = a := t0 p1 (by grind)
      have gi : i = 0 ∨ i = 1 := by omega
      have gj : j = 0 ∨ j = 1 := by omega
      rcases gi with rfl | rfl <;> rcases gj with rfl | rfl
      · show a * a * (1 * (1 * a) * (a * k) / (1 * a)) + (0 * 0 * (1 * (1 * a) * (a * k) / (a * k)) + 0) = a * (1 * (1 * a) * (a * k))
        rw [q1, q2]; grind
      · show a * b * (1 * (1 * a) * (a * k) / (1 * a)) + (0 * k * (1 * (1 * a) * (a * k) / (a * k)) + 0) = b * (1 * (1 * a) * (a * k))
        rw [q1, q2]; grind
      · show b * a * (1 * (1 * a) * (a * k) / (1 * a)) + (k * 0 * (1 * (1 * a) * (a * k) / (a * k)) + 0) = b * (1 * (1 * a) * (a * k))
        rw [q1, q2]; grind
      · show b * b * (1 * (1 * a) * (a * k) / (1 * a)) + (k * k * (1 * (1 * a) * (a * k) / (a * k)) + 0) = c * (1 * (1 * a) * (a * k))
        rw [q1, q2]
        have : b * b + k = a * c := by omega
        have e2 : b * b * (a * k) + (k * k * a + 0) = a * k * (b * b + k) := by grind
        rw [e2, this]; grind
  · obtain ⟨a, b, c, d, f, g, rfl⟩ := sy3 hM sy
    have a0 : 0 < a := by have := hB 0 (by decide); unfold dC at this; rw [d1E3] at this; exact this
    have k0' : 0 < a * d - b * b := by have := hB 1 (by decide); unfold dC at this; rw [d2E3] at this; exact this
    have l0 : 0 < a * (d * g - f * f) - b * (b * g - f * c) + c * (b * f - d * c) := by have := hB 2 (by decide); unfold dC at this; rw [d3E3] at this; exact this
    have e : sqL 3 [[a, b, c], [b, d, f], [c, f, g]] = [(1 * a, [a, b, c]), (a * (a * d - b * b), [0, a * d - b * b, a * f - c * b]), ((a * d - b * b) * (a * (d * g - f * f) - b * (b * g - f * c) + c * (b * f - d * c)), [0, 0, a * (d * g - f * f) - b * (b * g - f * c) + c * (b * f - d * c)])] := by
      show [(1 * dC [[a, b, c], [b, d, f], [c, f, g]] 0, lnL 3 [[a, b, c], [b, d, f], [c, f, g]] 0), ((crn 3 [[a, b, c], [b, d, f], [c, f, g]]).getD 0 0 * dC [[a, b, c], [b, d, f], [c, f, g]] 1, lnL 3 [[a, b, c], [b, d, f], [c, f, g]] 1), ((crn 3 [[a, b, c], [b, d, f], [c, f, g]]).getD 1 0 * dC [[a, b, c], [b, d, f], [c, f, g]] 2, lnL 3 [[a, b, c], [b, d, f], [c, f, g]] 2)] = _
      rw [crn_get (by decide), crn_get (by decide)]
      unfold dC
      rw [ln30, ln31, ln32, d1E3, d2E3, d3E3, det3]
    have eM0 : (a * d - b * b) * (a * g - c * c) - (a * f - c * b) * (a * f - c * b) = a * (a * (d * g - f * f) - b * (b * g - f * c) + c * (b * f - d * c)) := by grind
    rw [e]
    unfold fitsB headsB addsB
    rw [Bool.and_eq_true, decide_eq_true_eq, decide_eq_true_eq]
    generalize hx : a * f - c * b = x at eM0 ⊢
    generalize hk : a * d - b * b = k at k0' eM0 ⊢
    generalize hD : a * (d * g - f * f) - b * (b * g - f * c) + c * (b * f - d * c) = D at l0 eM0 ⊢
    have p1 : 0 < a * k := Int.mul_pos a0 k0'
    have p2 : 0 < k * D := Int.mul_pos k0' l0
    refine ⟨fun i hi => ?_, fun i hi j hj => ?_⟩
    · have hi' : i < 3 := hi
      have : i = 0 ∨ i = 1 ∨ i = 2 := by omega
      rcases this with rfl | rfl | rfl
      · exact ⟨by show 1 ≤ 1 * a; omega, by show a ≠ 0; omega, fun j hj => absurd hj (by omega)⟩
      · refine ⟨p1, by show k ≠ 0; omega, fun j hj => ?_⟩
        obtain rfl : j = 0 := by omega
        rfl
      · refine ⟨p2, by show D ≠ 0; omega, fun j hj => ?_⟩
        have : j = 0 ∨ j = 1 := by omega
        rcases this with rfl | rfl <;> rfl
    · have q1 : 1 * (1 * a) * (a * k) * (k * D) / (1 * a) = a * k * k * D := t0 (by omega) (kq1 a k D)
      have q2 : 1 * (1 * a) * (a * k) * (k * D) / (a * k) = a * k * D := t0 p1 (kq2 a k D)
      have q3 : 1 * (1 * a) * (a * k) * (k * D) / (k * D) = a * a * k := t0 p2 (kq3 a k D)
      have gen : ∀ r0 s0 r1 s1 r2 s2 z : Int, r0 * s0 * (k * D) + r1 * s1 * D + a * (r2 * s2) = z * a * (k * D) → r0 * s0 * (1 * (1 * a) * (a * k) * (k * D) / (1 * a)) + (r1 * s1 * (1 * (1 * a) * (a * k) * (k * D) / (a * k)) + (r2 * s2 * (1 * (1 * a) * (a * k) * (k * D) / (k * D)) + 0)) = z * (1 * (1 * a) * (a * k) * (k * D)) := fun r0 s0 r1 s1 r2 s2 z hz => by
        rw [q1, q2, q3, kg, hz, kz]
      have gi : i = 0 ∨ i = 1 ∨ i = 2 := by omega
      have gj : j = 0 ∨ j = 1 ∨ j = 2 := by omega
      have eD : a * d = k + b * b := by omega
      have eX : a * f = x + b * c := by have : c * b = b * c := Int.mul_comm c b; omega
      have eM : k * (a * g) = a * D + x * x + k * (c * c) := by
        have : k * (a * g - c * c) = k * (a * g) - k * (c * c) := Int.mul_sub _ _ _
        omega
      rcases gi with rfl | rfl | rfl <;> rcases gj with rfl | rfl | rfl
      · show a * a * (1 * (1 * a) * (a * k) * (k * D) / (1 * a)) + (0 * 0 * (1 * (1 * a) * (a * k) * (k * D) / (a * k)) + (0 * 0 * (1 * (1 * a) * (a * k) * (k * D) / (k * D)) + 0)) = a * (1 * (1 * a) * (a * k) * (k * D))
        exact gen _ _ _ _ _ _ _ (k0 a a a k D a (0 * 0) (0 * 0) rfl rfl rfl)
      · show a * b * (1 * (1 * a) * (a * k) * (k * D) / (1 * a)) + (0 * k * (1 * (1 * a) * (a * k) * (k * D) / (a * k)) + (0 * 0 * (1 * (1 * a) * (a * k) * (k * D) / (k * D)) + 0)) = b * (1 * (1 * a) * (a * k) * (k * D))
        exact gen _ _ _ _ _ _ _ (k0 a a b k D b (0 * k) (0 * 0) (Int.mul_comm a b) (Int.zero_mul k) rfl)
      · show a * c * (1 * (1 * a) * (a * k) * (k * D) / (1 * a)) + (0 * x * (1 * (1 * a) * (a * k) * (k * D) / (a * k)) + (0 * D * (1 * (1 * a) * (a * k) * (k * D) / (k * D)) + 0)) = c * (1 * (1 * a) * (a * k) * (k * D))
        exact gen _ _ _ _ _ _ _ (k0 a a c k D c (0 * x) (0 * D) (Int.mul_comm a c) (Int.zero_mul x) (Int.zero_mul D))
      · show b * a * (1 * (1 * a) * (a * k) * (k * D) / (1 * a)) + (k * 0 * (1 * (1 * a) * (a * k) * (k * D) / (a * k)) + (0 * 0 * (1 * (1 * a) * (a * k) * (k * D) / (k * D)) + 0)) = b * (1 * (1 * a) * (a * k) * (k * D))
        exact gen _ _ _ _ _ _ _ (k0 a b a k D b (k * 0) (0 * 0) rfl (Int.mul_zero k) rfl)
      · show b * b * (1 * (1 * a) * (a * k) * (k * D) / (1 * a)) + (k * k * (1 * (1 * a) * (a * k) * (k * D) / (a * k)) + (0 * 0 * (1 * (1 * a) * (a * k) * (k * D) / (k * D)) + 0)) = d * (1 * (1 * a) * (a * k) * (k * D))
        exact gen _ _ _ _ _ _ _ (k11 a b d k D x eD)
      · show b * c * (1 * (1 * a) * (a * k) * (k * D) / (1 * a)) + (k * x * (1 * (1 * a) * (a * k) * (k * D) / (a * k)) + (0 * D * (1 * (1 * a) * (a * k) * (k * D) / (k * D)) + 0)) = f * (1 * (1 * a) * (a * k) * (k * D))
        exact gen _ _ _ _ _ _ _ (k12 a b c f k D x eX)
      · show c * a * (1 * (1 * a) * (a * k) * (k * D) / (1 * a)) + (x * 0 * (1 * (1 * a) * (a * k) * (k * D) / (a * k)) + (D * 0 * (1 * (1 * a) * (a * k) * (k * D) / (k * D)) + 0)) = c * (1 * (1 * a) * (a * k) * (k * D))
        exact gen _ _ _ _ _ _ _ (k0 a c a k D c (x * 0) (D * 0) rfl (Int.mul_zero x) (Int.mul_zero D))
      · show c * b * (1 * (1 * a) * (a * k) * (k * D) / (1 * a)) + (x * k * (1 * (1 * a) * (a * k) * (k * D) / (a * k)) + (D * 0 * (1 * (1 * a) * (a * k) * (k * D) / (k * D)) + 0)) = f * (1 * (1 * a) * (a * k) * (k * D))
        exact gen _ _ _ _ _ _ _ (k21 a b c f k D x eX)
      · show c * c * (1 * (1 * a) * (a * k) * (k * D) / (1 * a)) + (x * x * (1 * (1 * a) * (a * k) * (k * D) / (a * k)) + (D * D * (1 * (1 * a) * (a * k) * (k * D) / (k * D)) + 0)) = g * (1 * (1 * a) * (a * k) * (k * D))
        exact gen _ _ _ _ _ _ _ (k22 a c g k D x eM)
end T29
set_option Elab.async false
set_option linter.all false
set_option maxRecDepth 100000
set_option maxHeartbeats 4000000
namespace T29
open PySem PySem.Spec PyProof.Rows L2 Gd Zn Rp Dn Tb Gn En Zs Ct Op Oc Rg Rt Ro Oa
section
variable {P : Program} {w : World} {K : PySem.W.Frag} {mg : Str → Option Value} {base : Heap} {C : Addr}
abbrev st_lrows : Stmt := top 59
abbrev N_lrows : List Str := ["_law_pot_here", "_law_size", "_law_most", "_law_found", "_law_near", "_law_far", "_law_row_here"]
theorem sc_lrows : FnScope N_lrows ["_law_pot_here", "_law_size", "_law_most"] (defScope st_lrows) := ⟨rfl, rfl, rfl, by decide +kernel, rfl, by decide +kernel, by decide +kernel⟩
theorem ok_lrows {f : Addr} {fd : FuncData} (F : Fun K "_law_rows" "_law_rows" st_lrows f fd) (T : Txt mg) (D1 : Def P w K mg base "_law_draw" 1 ["_law_pot_here", "_law_size"] sp_draw) : FnOk P w K mg base CX0 2 f fd ["_law_pot_here", "_law_size", "_law_most"] sp_lrows := by
  refine F.ok sc_lrows (fun vs H Q E h => ?_) (fun cdv A outer s H vs Q E hr h => ?_)
  · obtain ⟨p, n, m, rfl, _⟩ := h
    rfl
  · obtain ⟨p, n, m, rfl, hp, h1, h3, hm, q⟩ := h
    refine ⟨_, pss_cons (ps_setLc (i := 3) (own := [("_law_row_here", 6)]) (g := gName 6) (tt := tYes) rfl sc_lrows.nd rfl rfl (sw_true rfl rfl rfl (by decide +kernel)) (pi_range1 (by rfl) T.range (pa_cons (pv 1) pa_nil))
        (blkOk_by (N := N_lrows) (sc := defScope st_lrows) (by decide +kernel)) (fun _ _ _ _ _ => pg_name (i := 6) sc_lrows.nd rfl (Or.inl rfl) (Or.inr rfl)) (fun _ _ _ _ _ => pts_nil)
        (fun _ _ _ _ _ => pe_op op_rep (pe_lst (pa_cons pe_int pa_nil)) (pv 1)))
      (pss_cons (ps_for PassesOwn.never rfl (pi_range1 (by rfl) T.range (pa_cons (pv 1) pa_nil)) (pg_name (i := 4) sc_lrows.nd rfl (Or.inl rfl))
        (pss_one (ps_for PassesOwn.never rfl (pi_range2 (by rfl) T.range (pa_cons (pv 4) (pa_cons (pv 1) pa_nil))) (pg_name (i := 5) sc_lrows.nd rfl (Or.inl rfl))
          (pss_cons (ps_asg (pe_op op_sub (pe_def D1 hr (pa_cons (pv 0) (pa_cons (pe_op op_add (pe_op op_mul pe_int (pv 2)) pe_int) pa_nil))) (pv 2)) (pg_sub (pe_ix ix_sq (pv 3) (pv 4) (fun _ _ => rfl)) (pv 5) set_list))
          (pss_one (ps_asg (pe_ix ix_sq (pe_ix ix_sq (pv 3) (pv 4) (fun _ _ => rfl)) (pv 5) (fun _ _ => rfl)) (pg_sub (pe_ix ix_sq (pv 3) (pv 5) (fun _ _ => rfl)) (pv 4) set_list)))))))
      (pss_one (ps_ret (pv 3)))), ?_⟩
    have hh : Has (some p) H := fun q e => by cases e; exact hp
    refine r_seq (r_asg (tlc_call ?_))
    refine ⟨_, rfl, (n : Int), rfl, by omega, by omega, ?_⟩
    rw [Int.toNat_natCast]
    refine lc_new (p := some p) n (fun i o => o = .lst ((List.replicate n (0 : Int)).map V.int)) hh (by omega) (fun i H2 hi s2 => hi) (fun H2 s2 => Nat.le_refl _) (fun i x H2 H3 C' hi s2 hp2 hy hC => ?_) fun Da H2 bs nD s2 hD hl nd nDb fr hE => ?_
    · obtain ⟨rfl, rfl⟩ := hy
      refine ⟨rfl, r_op (r_lst ⟨(by show 1 ≤ sizeLine; decide), fun l nl => ?_⟩)⟩
      have s5 : Same H3 (upd H3 l (.lst [V.int 0])) := same_new nl
      refine ⟨_, rfl, l, _, [V.int 0], rfl, rfl, upd_same, by omega, by omega, ?_, fun c nc => ?_⟩
      · rw [Int.toNat_natCast]
        exact Nat.le_trans (by simp; omega : _ ≤ 100) (by decide)
      · have nc2 := Same.free s5 nc
        refine hC c _ _ ((RX.of s5).trans (RX.new nc)) nc2 upd_same ?_
        rw [Int.toNat_natCast]
        show HO.lst (List.replicate n [V.int 0]).flatten = _
        rw [rep_flat, List.map_replicate]
    · have hL : LL H2 Da bs (zeroM n) := ⟨hD, by rw [hl]; exact (zero_sqB n 0 (by decide)).len.symm, fun i b e => by
        obtain ⟨o, e1, e2⟩ := hE i b e
        have hi : i < n := by rw [← hl]; exact (List.getElem?_eq_some_iff.mp e).1
        rw [e1, e2, zero_getD hi], nd, nDb⟩
      have np : p ∉ Da :: bs := by
        rw [List.mem_cons, not_or]
        refine ⟨fun z => (hh.ne nD) (by rw [z]), fun z => ?_⟩
        have := fr p z
        exact hp.some_ this
      have frA : ∀ b ∈ Da :: bs, H b = none := fun b hb => by
        rcases List.mem_cons.mp hb with rfl | hb
        · exact nD
        · exact fr b hb
      refine r_next (r_nseq ?_)
      refine ⟨_, rfl, (n : Int), rfl, by omega, by omega, ?_⟩
      rw [Int.toNat_natCast]
      refine for_range (lo := 0) (n := n) (fun i σ H' => ∃ x4 x5 x6 M, σ = [some (.ref p), some (.int n), some (.int m), some (.ref Da), x4, x5, x6] ∧ RX (some p) H H' ∧ LL H' Da bs M ∧ SqB n m M ∧ Sym n M) ⟨_, _, _, _, rfl, s2, hL, zero_sqB n m (by omega), zero_sym n⟩ (fun i σ H' hi hP => ?_) (fun σ H' hP => ?_)
      · obtain ⟨x4, x5, x6, M, rfl, s3, hM, hB, hS⟩ := hP
        rw [show (0 : Int) + (i : Int) = (i : Int) by omega]
        refine ⟨_, rfl, _, rfl, (i : Int), (n : Int), rfl, ⟨by omega, by omega, by omega, by omega⟩, ?_⟩
        refine for_range (lo := (i : Int)) (n := ((n : Int) - (i : Int)).toNat) (fun j σ H' => ∃ x5 x6 M, σ = [some (.ref p), some (.int n), some (.int m), some (.ref Da), some (.int (i : Nat)), x5, x6] ∧ RX (some p) H H' ∧ LL H' Da bs M ∧ SqB n m M ∧ Sym n M) ⟨x5, x6, M, rfl, s3, hM, hB, hS⟩ (fun j σ H' hj hP => ?_) (fun σ H' hP => ?_)
        · obtain ⟨x5, x6, M, rfl, s4, hM4, hB4, hS4⟩ := hP
          obtain ⟨k, ek, hk⟩ : ∃ k : Nat, (i : Int) + (j : Int) = (k : Int) ∧ k < n := ⟨i + j, by omega, by omega⟩
          rw [ek]
          have bi : bs[i]? = some (bs[i]'(by omega)) := List.getElem?_eq_getElem _
          have bk : bs[k]? = some (bs[k]'(by omega)) := List.getElem?_eq_getElem _
          refine r_seq (r_asg (r_op (a2 ⟨_, rfl, _, rfl, _, _, rfl, rfl, .inl ⟨by decide, by decide⟩, _, _, rfl, rfl, p, _, rfl, s4.pot p rfl hp, by omega, by omega, fun r H5 r0 r1 s5 => ⟨_, rfl, _, _, rfl, rfl, ?_⟩⟩)))
          have s45 := s4.trans s5
          have hM5 := hM4.rx s5 np
          have lr : (M.getD i []).length = n := getD_row hB4.sh hi
          have hri := hM5.row i _ bi
          refine ⟨_, rfl, _, rfl, false, Da, _, _, _, rfl, rfl, .inl (.inl hM5.top), ixR bi, _, rfl, _, _, _, k, rfl, rfl, hri, ixN_at (by rw [List.length_map]; omega), ?_⟩
          have hM6 := hM5.put (j := k) bi (r - (m : Int))
          have hB6 : SqB n m (setIJ M i k (r - (m : Int))) := hB4.setIJ hi ⟨by omega, by omega⟩
          have s6 : RX (some p) H (upd H5 (bs[i]'(by omega)) (.lst (((M.getD i []).map V.int).set k (.int (r - (m : Int)))))) := s45.mut (frA _ (List.mem_cons_of_mem _ (List.getElem_mem _))) hh
          generalize upd H5 (bs[i]'(by omega)) (.lst (((M.getD i []).map V.int).set k (.int (r - (m : Int))))) = H6 at hM6 s6
          have hri6 := hM6.row i _ bi
          have hrk6 := hM6.row k _ bk
          have lr6 : ((setIJ M i k (r - (m : Int))).getD i []).length = n := getD_row hB6.sh hi
          have lk6 : ((setIJ M i k (r - (m : Int))).getD k []).length = n := getD_row hB6.sh hk
          have val : ((setIJ M i k (r - (m : Int))).getD i []).getD k 0 = r - (m : Int) := by
            have := ent_set hB4.sh hi hk (r - (m : Int)) i k
            rw [if_pos ⟨rfl, rfl⟩] at this
            exact this
          refine r_next (n_asg ?_)
          refine ⟨_, rfl, _, rfl, false, Da, _, _, _, rfl, rfl, .inl (.inl hM6.top), ixR bi, _, rfl, false, _, _, _, _, rfl, rfl, .inl (.inl hri6), ixL (by omega), ?_⟩
          rw [val]
          refine ⟨_, rfl, _, rfl, false, Da, _, _, _, rfl, rfl, .inl (.inl hM6.top), ixR bk, _, rfl, _, _, _, i, rfl, rfl, hrk6, ixN_at (by rw [List.length_map]; omega), ?_⟩
          have hM7 := hM6.put (j := i) bk (r - (m : Int))
          exact ⟨_, _, _, rfl, s6.mut (frA _ (List.mem_cons_of_mem _ (List.getElem_mem _))) hh, hM7, hB6.setIJ hk ⟨by omega, by omega⟩, hS4.put hB4.sh hi hk _⟩
        · obtain ⟨x5, x6, M, rfl, s4, hM4, hB4, hS4⟩ := hP
          exact ⟨_, _, _, M, rfl, s4, hM4, hB4, hS4⟩
      · obtain ⟨x4, x5, x6, M, rfl, s3, hM, hB, hS⟩ := hP
        exact ⟨_, rfl, q Da H' M s3 (hM.py np) hB (hS.tr hB.sh h1 h3)⟩
end
end T29
set_option Elab.async false
set_option linter.all false
set_option maxRecDepth 100000
set_option maxHeartbeats 4000000
namespace T29
open PySem PySem.Spec PyProof.Rows L2 Gd Zn Rp Dn Tb Gn En Zs Ct Op Oc Rg Rt Ro Oa
/-- lists of places -/
def LotsV (H : Hp) (vs : List V) (L : List (List Nat)) : Prop := vs.length = L.length ∧ ∀ (i : Nat) (v : V), vs[i]? = some v → ∃ b, v = .ref b ∧ H b = some (.lst ((L.getD i []).map fun (j : Nat) => V.int (j : Int)))
theorem LotsV.mono {H H' : Hp} {vs : List V} {L : List (List Nat)} (h : LotsV H vs L) (s : Same H H') : LotsV H' vs L := ⟨h.1, fun i v e => by
  obtain ⟨b, e1, e2⟩ := h.2 i v e
  exact ⟨b, e1, s _ _ e2⟩⟩
end T29
set_option Elab.async false
set_option linter.all false
set_option maxRecDepth 100000
set_option maxHeartbeats 4000000
set_option Elab.async false
set_option linter.all false
set_option maxRecDepth 100000
set_option maxHeartbeats 4000000
namespace T29
open PySem PySem.Spec PyProof.Rows L2 Gd Zn Rp Dn Tb Gn En Zs Ct Op Oc Rg Rt Ro Oa
def diagM (n : Nat) (hs : List Int) : List (List Int) := (List.range n).map fun i => (List.range n).map fun j => if i = j then hs.getD i 0 else 0
end T29
set_option Elab.async false
set_option linter.all false
set_option maxRecDepth 100000
set_option maxHeartbeats 4000000
namespace T29
open PySem PySem.Spec PyProof.Rows L2 Gd Zn Rp Dn Tb Gn En Zs Ct Op Oc Rg Rt Ro Oa
theorem dot_range {r xs : List Int} {n : Nat} (lr : r.length = n) (lx : xs.length = n) (h3 : n ≤ 3) : ((List.range n).map fun j => r.getD j 0 * xs.getD j 0).sum = dot r xs := by
  have : n = 0 ∨ n = 1 ∨ n = 2 ∨ n = 3 := by omega
  rcases this with rfl | rfl | rfl | rfl
  · cases List.length_eq_zero_iff.mp lr
    rfl
  · obtain ⟨a, rfl⟩ := len1 lr
    obtain ⟨b, rfl⟩ := len1 lx
    simp [dot, List.range_succ]
  · obtain ⟨a, b, rfl⟩ := len2 lr
    obtain ⟨c, d, rfl⟩ := len2 lx
    simp [dot, List.range_succ]
  · obtain ⟨a, b, c, rfl⟩ := len3 lr
    obtain ⟨d, e, f, rfl⟩ := len3 lx
    simp [dot, List.range_succ]
/-- a row moved by a table -/
def mvM (n : Nat) (U : List (List Int)) (xs : List Int) : List Int := (List.range n).map fun i => dot (U.getD i []) xs
end T29
set_option Elab.async false
set_option linter.all false
set_option maxRecDepth 100000
set_option maxHeartbeats 4000000
namespace T29
open PySem PySem.Spec PyProof.Rows L2 Gd Zn Rp Dn Tb Gn En Zs Ct Op Oc Rg Rt Ro Oa
/-- a row of the box -/
def RowB (H : Hp) (v : V) (n : Nat) : Prop := ∃ (b : Addr) (xs : List Int), v = .ref b ∧ H b = some (.lst (xs.map V.int)) ∧ xs.length = n ∧ ∀ x ∈ xs, -2 ≤ x ∧ x ≤ 2
theorem RowB.same {H H' : Hp} {v : V} {n : Nat} (h : RowB H v n) (s : Same H H') : RowB H' v n := by
  obtain ⟨b, xs, e, e1, e2, e3⟩ := h
  exact ⟨b, xs, e, s _ _ e1, e2, e3⟩
end T29
set_option Elab.async false
set_option linter.all false
set_option maxRecDepth 100000
set_option maxHeartbeats 4000000
set_option Elab.async false
set_option linter.all false
set_option maxRecDepth 100000
set_option maxHeartbeats 4000000
namespace T29
open PySem PySem.Spec PyProof.Rows L2 Gd Zn Rp Dn Tb Gn En Zs Ct Op Oc Rg Rt Ro Oa
theorem mv_led {n : Nat} {U : List (List Int)} {xs : List Int} (hU : Sh n U) : mvM n U xs = ledM U xs := by
  unfold mvM ledM
  refine List.ext_getElem? fun i => ?_
  rw [List.getElem?_map, List.getElem?_map]
  by_cases hi : i < n
  · have : i < U.length := by rw [hU.len]; exact hi
    rw [List.getElem?_range hi, List.getElem?_eq_getElem this]
    show some (dot (U.getD i []) xs) = some (dot U[i] xs)
    rw [List.getD_eq_getElem?_getD, List.getElem?_eq_getElem this]
    rfl
  · rw [List.getElem?_eq_none (by rw [List.length_range]; omega), List.getElem?_eq_none (by rw [hU.len]; omega)]
    rfl
/-- a pit of the led form, moved by the table, is a pit of the form -/
theorem pit_moved {n : Nat} {G U : List (List Int)} {xs : List Int} (h1 : 1 ≤ n) (h3 : n ≤ 3) (hG : Sh n G) (hU : Sh n U) (hd : detM n U = 1 ∨ detM n U = -1) (hx : xs.length = n) (h : pitB (ldM n G U) xs = true) : pitB G (mvM n U xs) = true := by
  unfold pitB at h ⊢
  rw [Bool.and_eq_true, List.any_eq_true, decide_eq_true_eq] at h ⊢
  obtain ⟨⟨x, mx, nx⟩, le⟩ := h
  rw [btw_led h1 h3 hG hU hx hx] at le
  rw [mv_led hU]
  obtain ⟨y, my, ny⟩ := led_ne h1 h3 hU hd hx ⟨x, mx, of_decide_eq_true nx⟩
  exact ⟨⟨y, my, decide_eq_true ny⟩, le⟩
end T29
set_option Elab.async false
set_option linter.all false
set_option maxRecDepth 100000
set_option maxHeartbeats 4000000
namespace T29
open PySem PySem.Spec PyProof.Rows L2 Gd Zn Rp Dn Tb Gn En Zs Ct Op Oc Rg Rt Ro Oa
def dat (s : Bool) (p : Int × List Int) : PyData := .tuple [.int p.1, if s = true then .tuple (iD p.2) else .list (iD p.2)]
theorem dat_items (s : Bool) (p : Int × List Int) : isSeq (if s = true then PyData.tuple (iD p.2) else .list (iD p.2)) = true ∧ items (if s = true then PyData.tuple (iD p.2) else .list (iD p.2)) = iD p.2 := by
  cases s <;> exact ⟨rfl, rfl⟩
theorem dat_good (s : Bool) (p : Int × List Int) : GoodD (dat s p) p := ⟨_, rfl, (dat_items s p).1, (dat_items s p).2⟩
/-- right bits and lengths -/
def OkR (n k : Nat) (q : Int × List Int) : Prop := q.2.length = n ∧ q.1.natAbs < 2 ^ k ∧ Rb k q.2
section
variable {P : Program} {w : World} {K : PySem.W.Frag} {mg : Str → Option Value} {base : Heap} {C : Addr}
/-- values of pairs, one by one -/
theorem pyvs_of {Hh : Hp} : ∀ {rs : List V} {ps : List (Int × List Int)}, rs.length = ps.length → (∀ (i : Nat) (v : V) (q : Int × List Int), rs[i]? = some v → ps[i]? = some q → PyV Hh v (dat true q)) → PyVs Hh rs (ps.map (dat true))
  | [], [], _, _ => .nil
  | v :: rs, q :: ps, l, h => .cons (h 0 v q rfl rfl) (pyvs_of (Nat.succ.inj l) fun i v q a b => h (i + 1) v q a b)
end
end T29
set_option Elab.async false
set_option linter.all false
set_option maxRecDepth 100000
set_option maxHeartbeats 4000000
namespace T29
open PySem PySem.Spec PyProof.Rows L2 Gd Zn Rp Dn Tb Gn En Zs Ct Op Oc Rg Rt Ro Oa
theorem op_isnB {X : Cx} : OpR X (compareOp .IsNot) (fun x y H Q => ∃ a b, x = .bl a ∧ y = .bl b ∧ Q (.bl (!decide (a = b))) H) := by
  intro pins s σ H x y v u Q I rx ry h
  obtain ⟨a, b, rfl, rfl, q⟩ := h
  cases (show v = Value.bool a from rx)
  cases (show u = Value.bool b from ry)
  cases a <;> cases b <;> exact wpAny_of_eq (by kernel_rfl) (fin_bl I q (by rfl))
theorem rb_up {k l : Nat} {xs : List Int} (h : Rb k xs) (e : k ≤ l) : Rb l xs := fun x hx => Wd.abs_mono (h x hx) e
theorem gd_pair {d : PyData} {p : Int × List Int} (h : GoodD d p) : pairOf d = p := by
  obtain ⟨dr, rfl, _, e⟩ := h
  show (p.1, intsD (items dr)) = p
  rw [e, ints_iD]
theorem take_zero (k : Nat) (l : List Int) (hk : k < l.length) : ((l.take k).all fun x => decide (x = 0)) = true ↔ ∀ j, j < k → l.getD j 0 = 0 := by
  rw [List.all_eq_true]
  constructor
  · intro h j hj
    have e : l[j]? = some l[j] := List.getElem?_eq_getElem (by omega)
    have := h l[j] (List.mem_iff_getElem?.mpr ⟨j, by rw [List.getElem?_take_of_lt hj, e]⟩)
    rw [List.getD_eq_getElem?_getD, e]
    exact of_decide_eq_true this
  · intro h x hx
    obtain ⟨j, e⟩ := List.mem_iff_getElem?.mp hx
    have hj : j < k := by
      have := (List.getElem?_eq_some_iff.mp e).1
      rw [List.length_take] at this
      omega
    have := h j hj
    rw [List.getElem?_take_of_lt hj] at e
    rw [List.getD_eq_getElem?_getD, e] at this
    exact decide_eq_true this
theorem head_iff (k : Nat) (p : Int × List Int) (hk : k < p.2.length) : (decide (1 ≤ p.1) && headB k p.2) = decide (HeadOk k p) := by
  rw [Bool.eq_iff_iff]
  unfold headB
  rw [Bool.and_eq_true, Bool.and_eq_true, decide_eq_true_eq, decide_eq_true_eq, decide_eq_true_eq, take_zero k p.2 hk]
  exact Iff.rfl
theorem sqAt_gd {n k : Nat} {d : PyData} {p : Int × List Int} (h : GoodD d p) (l : p.2.length = n) (h1 : 1 ≤ n) (h3 : n ≤ 3) (hk : k < n) : sqAtB n k d = decide (HeadOk k p) := by
  obtain ⟨dr, rfl, e1, e2⟩ := h
  rw [sqAt_pair, row_of e1 e2 l h1 h3, e2, ints_iD, Bool.and_true, head_iff k p (by omega)]
theorem sqB_good {n : Nat} {M : List (List Int)} {d : PyData} {ps : List (Int × List Int)} (hs : isSeq d = true) (hl : (items d).length = ps.length) (hg : ∀ (i : Nat) (e : PyData) (p : Int × List Int), (items d)[i]? = some e → ps[i]? = some p → GoodD e p) (lp : ps.length = n) (lr : ∀ p ∈ ps, p.2.length = n) (h1 : 1 ≤ n) (h3 : n ≤ 3) : sqB n M d = fitsB n M ps := by
  have eT : toP (items d) = ps := by
    refine List.ext_getElem? fun i => ?_
    unfold toP
    rw [List.getElem?_map]
    by_cases hi : i < ps.length
    · have a : (items d)[i]? = some (items d)[i] := List.getElem?_eq_getElem (by omega)
      have b : ps[i]? = some ps[i] := List.getElem?_eq_getElem hi
      rw [a, b]
      exact congrArg some (gd_pair (hg i _ _ a b))
    · rw [List.getElem?_eq_none (by omega), List.getElem?_eq_none (by omega)]
      rfl
  have eA : allAt n (items d) = headsB ps := by
    rw [Bool.eq_iff_iff]
    unfold allAt headsB
    rw [List.all_eq_true, decide_eq_true_eq]
    have key : ∀ k, k < ps.length → (sqAtB n k ((items d).getD k .none) = true ↔ HeadOk k (ps.getD k (0, []))) := fun k hk => by
      have a : (items d)[k]? = some (items d)[k] := List.getElem?_eq_getElem (by omega)
      have b : ps[k]? = some ps[k] := List.getElem?_eq_getElem hk
      rw [List.getD_eq_getElem?_getD, List.getD_eq_getElem?_getD, a, b]
      show sqAtB n k (items d)[k] = true ↔ HeadOk k ps[k]
      rw [sqAt_gd (hg k _ _ a b) (lr _ (List.getElem_mem _)) h1 h3 (by omega), decide_eq_true_eq]
    exact ⟨fun h k hk => (key k hk).mp (h k (List.mem_range.mpr (by omega))), fun h k hk => (key k (by have := List.mem_range.mp hk; omega)).mpr (h k (by have := List.mem_range.mp hk; omega))⟩
  unfold sqB fitsB
  rw [hs, decide_eq_true (by omega : (items d).length = n), eT, eA]
  rfl
theorem gd_fine {d : PyData} {p : Int × List Int} (h : GoodD d p) (l : p.2.length ≤ 200) : (items d).length ≤ 200 ∧ (∀ c ∈ items d, (items c).length ≤ 200) := by
  obtain ⟨dr, rfl, e1, e2⟩ := h
  refine ⟨(by show 2 ≤ 200; decide), fun c hc => ?_⟩
  have : c = .int p.1 ∨ c = dr := by simpa [items] using hc
  rcases this with rfl | rfl
  · exact Nat.zero_le _
  · rw [e2]
    unfold iD
    rw [List.length_map]
    exact l
theorem lean_sqe {n a k b : Nat} {M : List (List Int)} (h : SqE n b M) (ha : a < n) (hk : k < n) : SqE (a + 1) b (leanM M a k) := by
  refine ⟨?_, fun r hr => ?_, fun r hr x hx => ?_⟩
  · unfold leanM
    rw [List.length_map, List.length_take, h.len]
    omega
  · unfold leanM at hr
    obtain ⟨r', hr', rfl⟩ := List.mem_map.mp hr
    rw [List.length_append, List.length_take, h.row r' (List.mem_of_mem_take hr')]
    show min a n + 1 = a + 1
    omega
  · unfold leanM at hr
    obtain ⟨r', hr', rfl⟩ := List.mem_map.mp hr
    have hm := List.mem_of_mem_take hr'
    rcases List.mem_append.mp hx with hx | hx
    · exact h.bd r' hm x (List.mem_of_mem_take hx)
    · rw [List.mem_singleton] at hx
      subst hx
      have : k < r'.length := by rw [h.row r' hm]; exact hk
      rw [List.getD_eq_getElem?_getD, List.getElem?_eq_getElem this]
      exact h.bd r' hm _ (List.getElem_mem _)
theorem lead_sqe {n m b : Nat} {M : List (List Int)} (h : SqE n b M) (hm : m ≤ n) : SqE m b (leadM m M) := by
  have s := lead_sh h.sh hm
  refine ⟨s.len, s.row, fun r hr x hx => ?_⟩
  unfold leadM at hr
  obtain ⟨r', hr', rfl⟩ := List.mem_map.mp hr
  exact h.bd r' (List.mem_of_mem_take hr') x (List.mem_of_mem_take hx)
theorem dC_bits {n b i : Nat} {M : List (List Int)} (h3 : n ≤ 3) (h : SqE n b M) (hi : i < n) : (dC M i).natAbs < 2 ^ (b + b + b + 3) := det_bits (by omega) (by omega) (lead_sqe h (by omega))
theorem ahd_bits {n b i : Nat} {M : List (List Int)} (h3 : n ≤ 3) (h : SqE n b M) (hi : i < n) : (ahd n M i).natAbs < 2 ^ (b + b + b + 3) := by
  unfold ahd
  cases i with
  | zero => exact Nat.one_lt_two_pow (by omega)
  | succ i =>
    show ((crn n M).getD i 0).natAbs < _
    rw [crn_get (by omega)]
    exact dC_bits h3 h (by omega)
theorem sqL_len (n : Nat) (M : List (List Int)) : (sqL n M).length = n := by
  unfold sqL
  rw [List.length_map, List.length_range]
theorem sqL_get {n k : Nat} {M : List (List Int)} (hk : k < n) : (sqL n M)[k]? = some (ahd n M k * dC M k, lnL n M k) := by
  unfold sqL
  rw [List.getElem?_map, List.getElem?_range hk]
  rfl
end T29
set_option Elab.async false
set_option linter.all false
set_option maxRecDepth 100000
set_option maxHeartbeats 4000000
namespace T29
open PySem PySem.Spec PyProof.Rows L2 Gd Zn Rp Dn Tb Gn En Zs Ct Op Oc Rg Rt Ro Oa
structure SmH (a b : Nat) (d : PyData) : Prop where
  sh : d.showable = true
  dp : d.depth ≤ a
  ls : d.leavesShort 100 = true
  bk : d.bulk ≤ b
theorem SmH.up {a b a' b' : Nat} {d : PyData} (h : SmH a b d) (ha : a ≤ a') (hb : b ≤ b') : SmH a' b' d := ⟨h.sh, Nat.le_trans h.dp ha, h.ls, Nat.le_trans h.bk hb⟩
def tdD (ps : List (Int × List Int)) : PyData := .list (ps.map (dat true))
theorem td_good {ps : List (Int × List Int)} (i : Nat) (e : PyData) (p : Int × List Int) (a : (ps.map (dat true))[i]? = some e) (b : ps[i]? = some p) : GoodD e p := by
  rw [List.getElem?_map, b] at a
  cases a
  exact dat_good _ _
theorem td_sq {n : Nat} {M : List (List Int)} {ps : List (Int × List Int)} (lp : ps.length = n) (lr : ∀ p ∈ ps, p.2.length = n) (h1 : 1 ≤ n) (h3 : n ≤ 3) : sqB n M (tdD ps) = fitsB n M ps ∧ sqB n M (.tuple (ps.map (dat true))) = fitsB n M ps :=
  ⟨sqB_good rfl (List.length_map _) td_good lp lr h1 h3, sqB_good rfl (List.length_map _) td_good lp lr h1 h3⟩
/-- a list of fine pairs -/
theorem fine_mem {ds : List PyData} (l : ds.length ≤ 200) (h : ∀ e ∈ ds, ∃ p : Int × List Int, GoodD e p ∧ p.2.length ≤ 200 ∧ p.1.natAbs < 2 ^ 2000 ∧ Rb 2000 p.2) : Fine (.list ds) ∧ Fine (.tuple ds) := by
  have k : ∀ e ∈ ds, (items e).length ≤ 200 ∧ (∀ c ∈ items e, (items c).length ≤ 200) ∧ ∀ q, GoodD e q → q.1.natAbs < 2 ^ 2000 ∧ Rb 2000 q.2 := fun e he => by
    obtain ⟨p, g, a, b⟩ := h e he
    refine ⟨(gd_fine g a).1, (gd_fine g a).2, fun q hq => ?_⟩
    have : q = p := by rw [← gd_pair hq, ← gd_pair g]
    rw [this]
    exact b
  exact ⟨⟨l, fun e he => (k e he).1, fun e he => (k e he).2.1, fun e he => (k e he).2.2⟩, ⟨l, fun e he => (k e he).1, fun e he => (k e he).2.1, fun e he => (k e he).2.2⟩⟩
theorem td_mem {n b : Nat} {ps : List (Int × List Int)} (h3 : n ≤ 3) (hb : b ≤ 2000) (h : ∀ q ∈ ps, OkR n b q) : ∀ e ∈ ps.map (dat true), ∃ p : Int × List Int, GoodD e p ∧ p.2.length ≤ 200 ∧ p.1.natAbs < 2 ^ 2000 ∧ Rb 2000 p.2 := fun e he => by
  obtain ⟨q, hq, rfl⟩ := List.mem_map.mp he
  obtain ⟨a, c, d⟩ := h q hq
  exact ⟨q, dat_good _ _, by omega, Wd.abs_mono c hb, rb_up d hb⟩
theorem isq_of {C : Addr} {H : Hp} {n : Nat} {M : List (List Int)} {v : V} {d : PyData} {b : Bool} (h : PyV H v d) (f : Fine d) (e : sqB n M d = b) : IsqV C H n M v b := .inl ⟨d, .inl h, f, e⟩
theorem squ_pyS {H : Hp} {v : V} {q : Int × List Int} (h : SquV H v q.1 q.2) : PyV H v (dat true q) := by
  obtain ⟨t, c, rfl, e1, e2⟩ := h
  exact .tup e1 (.cons (.int _) (.cons (.tup e2 (py_ints _)) .nil))
def WrV (n : Nat) (M : List (List Int)) (H : Hp) (v : V) : Prop := ∃ d, PyV H v d ∧ Fine d ∧ sqB n M d = false
theorem WrV.mono {n : Nat} {M : List (List Int)} {H H' : Hp} {v : V} (h : WrV n M H v) (s : Same H H') : WrV n M H' v := by
  obtain ⟨d, a, b⟩ := h
  exact ⟨d, PyV.mono s a, b⟩
end T29
set_option Elab.async false
set_option linter.all false
set_option maxRecDepth 100000
set_option maxHeartbeats 4000000
set_option Elab.async false
set_option linter.all false
set_option maxRecDepth 100000
set_option maxHeartbeats 4000000
namespace T29
open PySem PySem.Spec PyProof.Rows L2 Gd Zn Rp Dn Tb Gn En Zs Ct Op Oc Rg Rt Ro Oa
theorem bowl_pos {n : Nat} {M : List (List Int)} (h1 : 1 ≤ n) (h3 : n ≤ 3) (hM : Sh n M) (sy : transp n M = M) (hB : Bowl n M) : Pos n M := by
  refine fit_pos h1 h3 hM (ps := sqL n M) (by unfold sqL; simp) (fun p hp => ?_) (sq_fits h1 h3 hM sy hB)
  unfold sqL at hp
  obtain ⟨k, _, rfl⟩ := List.mem_map.mp hp
  simp [lnL]
/-- what is no bowl stays none when led -/
theorem led_nb {n : Nat} {M U : List (List Int)} (h1 : 1 ≤ n) (h3 : n ≤ 3) (hM : Sh n M) (sy : transp n M = M) (g : Gr n U) (hl : Sh n (ldM n M U)) (sl : transp n (ldM n M U) = ldM n M U) (nB : ¬ Bowl n M) : ¬ Bowl n (ldM n M U) := fun hB => by
  refine nB (pos_bowl h3 hM sy fun xs lx hx => ?_)
  have pl := bowl_pos h1 h3 hl sl hB
  have gu := g.und
  have ly : (ledM (undM n U) xs).length = n := by rw [led_len, gu.sh.len]
  have ny := led_ne h1 h3 gu.sh gu.d lx hx
  have := pl _ ly ny
  rw [btw_led h1 h3 hM g.sh ly ly] at this
  have e : ledM U (ledM (undM n U) xs) = xs := by rw [← led_mul h1 h3 g.sh gu.sh lx, T29.mul_und g, led_unit h1 h3 lx]
  rwa [e] at this
def TV (H : Hp) (v : V) (n : Nat) (M : List (List Int)) : Prop := (Bowl n M ∧ v = .non) ∨ ∃ a, a < n ∧ (∀ i, i < a → 0 < dC M i) ∧ dC M a ≤ 0 ∧ RowV H v (pitM n a M)
theorem TV.same {H H' : Hp} {v : V} {n : Nat} {M : List (List Int)} (h : TV H v n M) (s : Same H H') : TV H' v n M := by
  rcases h with h | ⟨a, b, c, d, e⟩
  · exact .inl h
  · exact .inr ⟨a, b, c, d, e.mono (KS.of s)⟩
theorem c_pit {C : Addr} {H : Hp} {x : V} {n b : Nat} {M : List (List Int)} {Q : VK} {E : XK} (f : Fv C H x n b M) (lb : b ≤ 2000) (q : ∀ t H', Same H H' → TV H' t n M → Q t H') : sp_pit C [x] H Q E :=
  ⟨x, M, n, b, rfl, f, lb, fun H' s hB => q _ _ s (.inl ⟨hB, rfl⟩), fun a v' H' s la hb hc rv => q _ _ s (.inr ⟨a, la, hb, hc, rv⟩)⟩
theorem tv_nb {C : Addr} {H H1 : Hp} {x u : V} {n b : Nat} {M : List (List Int)} (f : Fv C H x n b M) (nB : ¬ Bowl n M) (hu : TV H1 u n M) : ∃ xs, RowV H1 u xs ∧ xs.length = n ∧ Rb (b + b + 1) xs ∧ pitB M xs = true := by
  rcases hu with ⟨hB, _⟩ | ⟨a, a1, a2, a3, a4⟩
  · exact absurd hB nB
  · obtain ⟨p1, ⟨x, mx, nx⟩, p3⟩ := pit_ok f.h3 f.bd.sh f.eq a1 a2 a3
    refine ⟨_, a4, p1, pit_rb f.h3 f.bd a1, ?_⟩
    unfold pitB
    rw [Bool.and_eq_true, List.any_eq_true, decide_eq_true_eq]
    exact ⟨⟨x, mx, decide_eq_true nx⟩, p3⟩
theorem tv_nn {H : Hp} {u : V} {n : Nat} {M : List (List Int)} (hu : TV H u n M) : decide (u = .non) = decide (Bowl n M) := by
  rcases hu with ⟨hB, rfl⟩ | ⟨a, a1, a2, a3, c, rfl, _⟩
  · rw [decide_eq_true rfl, decide_eq_true hB]
  · rw [decide_eq_false (fun z => by cases z), decide_eq_false (fun hB => by have := hB a a1; omega)]
theorem bowl_no {n : Nat} {M : List (List Int)} {H : Hp} {u : V} (hu : TV H u n M) (hB : Bowl n M) : u = .non := by
  rcases hu with ⟨_, e⟩ | ⟨a, a1, a2, a3, _⟩
  · exact e
  · have := hB a a1; omega
end T29
set_option Elab.async false
set_option linter.all false
set_option maxRecDepth 100000
set_option maxHeartbeats 8000000
namespace T29
open PySem PySem.Spec PyProof.Rows L2 Gd Zn Rp Dn Tb Gn En Zs Ct Op Oc Rg Rt Ro Oa
theorem c_led {F C : Addr} {E : XK} {H : Hp} {n b c : Nat} {G M : List (List Int)} {x y : V} {Q : VK} (hx : Fv F H x n b G) (hy : Tv C H y n c M) (q : ∀ d H', Same H H' → Fv F H' (.ref d) n ((c + b + 2) + c + 2) (ldM n G M) → Q (.ref d) H') (lb : b ≤ 2000 ∧ c ≤ 2000 := by decide) : sp_led F C [x, y] H Q E :=
  ⟨x, y, G, M, n, b, c, rfl, hx, hy, lb.1, lb.2, q⟩
theorem r_and {t u : TT} {σ : L2.St} {H : Hp} {Q : Bool → Hp → Prop} (h : t σ H fun c H1 => if c = true then u σ H1 Q else Q false H1) : tAnd t u σ H Q := h
end T29
set_option Elab.async false
set_option linter.all false
set_option maxRecDepth 100000
set_option maxHeartbeats 4000000
set_option Elab.async false
set_option linter.all false
set_option maxRecDepth 100000
set_option maxHeartbeats 4000000
set_option Elab.async false
set_option linter.all false
set_option maxRecDepth 100000
set_option maxHeartbeats 4000000
namespace T29
open PySem PySem.Spec PyProof.Rows L2 Gd Zn Rp Dn Tb Gn En Zs Ct Op Oc Rg Rt Ro Oa
def Psd (n : Nat) (M : List (List Int)) : Prop := ∀ xs : List Int, xs.length = n → 0 ≤ btwM M xs xs
theorem btw2' (a b c x y : Int) : btwM [[a, b], [b, c]] [x, y] [x, y] = x * (a * x + b * y) + y * (b * x + c * y) := by
  rw [w2]
  grind
theorem nn_of {w s : Int} (h : ∀ k : Int, 0 ≤ k → 0 < k * w + s) : 0 ≤ w := by
  by_cases z : 0 ≤ w
  · exact z
  · exfalso
    by_cases hs : 0 ≤ s
    · have := h s hs
      have e : s * w ≤ s * (-1) := Int.mul_le_mul_of_nonneg_left (by omega) hs
      omega
    · have := h 0 (by decide)
      omega
theorem s2w (a b c k x y : Int) : btwM [[k * a + 1, k * b], [k * b, k * c + 1]] [x, y] [x, y] = k * btwM [[a, b], [b, c]] [x, y] [x, y] + (x * x + y * y) := by
  rw [btw2', btw2']
  grind
theorem s3w (a b c d e f k x y z : Int) : btwM [[k * a + 1, k * b, k * c], [k * b, k * d + 1, k * e], [k * c, k * e, k * f + 1]] [x, y, z] [x, y, z] = k * btwM [[a, b, c], [b, d, e], [c, e, f]] [x, y, z] [x, y, z] + (x * x + y * y + z * z) := by
  rw [btw3, btw3]
  grind
theorem sq2_pos {x y : Int} (h : x ≠ 0 ∨ y ≠ 0) : 0 < x * x + y * y := by
  have := sq3_pos (x := x) (y := y) (z := 0) (by rcases h with h | h <;> simp [h])
  omega
theorem sh_2 (a b c d : Int) : Sh 2 [[a, b], [c, d]] := ⟨rfl, by simp⟩
theorem sh_3 (a b c d e f g h i : Int) : Sh 3 [[a, b, c], [d, e, f], [g, h, i]] := ⟨rfl, by simp⟩
theorem mids2 {a b c : Int} : (∀ k, 1 ≤ k → k ≤ 2 → 0 < mdlM 2 [[a, b], [b, c]] k) ↔ (0 < a + c ∧ 0 < a * c - b * b) := by
  constructor
  · intro h
    have k1 := h 1 (by decide) (by decide)
    have k2 := h 2 (by decide) (by decide)
    rw [m21] at k1
    rw [m22] at k2
    exact ⟨k1, k2⟩
  · intro ⟨x, y⟩ k k1 k2
    have : k = 1 ∨ k = 2 := by omega
    rcases this with rfl | rfl
    · rw [m21]; exact x
    · rw [m22]; exact y
theorem mids3 {a b c d e f : Int} : (∀ k, 1 ≤ k → k ≤ 3 → 0 < mdlM 3 [[a, b, c], [b, d, e], [c, e, f]] k) ↔ (0 < a + d + f ∧ 0 < E2 a b c d e f ∧ 0 < E3 a b c d e f) := by
  constructor
  · intro h
    have k1 := h 1 (by decide) (by decide)
    have k2 := h 2 (by decide) (by decide)
    have k3 := h 3 (by decide) (by decide)
    rw [m31] at k1
    rw [m32] at k2
    rw [m33, ← e3det] at k3
    exact ⟨k1, k2, k3⟩
  · intro ⟨x, y, z⟩ k k1 k2
    have : k = 1 ∨ k = 2 ∨ k = 3 := by omega
    rcases this with rfl | rfl | rfl
    · rw [m31]; exact x
    · rw [m32]; exact y
    · rw [m33, ← e3det]; exact z
theorem pos2_iff {a b c : Int} : Pos 2 [[a, b], [b, c]] ↔ (0 < a + c ∧ 0 < a * c - b * b) := by
  rw [← mids2, bowl_mid (n := 2) (M := [[a, b], [b, c]]) (by decide) (by decide) (sh_2 _ _ _ _) rfl]
  exact ⟨pos_bowl (by decide) (sh_2 _ _ _ _) rfl, bowl_pos (by decide) (by decide) (sh_2 _ _ _ _) rfl⟩
theorem pos3_iff {a b c d e f : Int} : Pos 3 [[a, b, c], [b, d, e], [c, e, f]] ↔ (0 < a + d + f ∧ 0 < E2 a b c d e f ∧ 0 < E3 a b c d e f) := by
  rw [← mids3, bowl_mid (n := 3) (M := [[a, b, c], [b, d, e], [c, e, f]]) (by decide) (by decide) (sh_3 _ _ _ _ _ _ _ _ _) rfl]
  exact ⟨pos_bowl (by decide) (sh_3 _ _ _ _ _ _ _ _ _) rfl, bowl_pos (by decide) (by decide) (sh_3 _ _ _ _ _ _ _ _ _) rfl⟩
theorem psd2 {a b c : Int} : Psd 2 [[a, b], [b, c]] ↔ (0 ≤ a + c ∧ 0 ≤ a * c - b * b) := by
  have sd : ∀ k : Int, (k * a + 1) * (k * c + 1) - k * b * (k * b) = k * k * (a * c - b * b) + k * (a + c) + 1 := fun k => by grind
  have st : ∀ k : Int, k * a + 1 + (k * c + 1) = k * (a + c) + 2 := fun k => by grind
  constructor
  · intro h
    have P : ∀ k : Int, 0 ≤ k → 0 < k * (a + c) + 2 ∧ 0 < k * k * (a * c - b * b) + k * (a + c) + 1 := fun k hk => by
      have := (pos2_iff (a := k * a + 1) (b := k * b) (c := k * c + 1)).mp fun xs hx ⟨w, mw, nw⟩ => by
        obtain ⟨x, y, rfl⟩ := len2 hx
        rw [s2w]
        have p := Int.mul_nonneg hk (h [x, y] rfl)
        have q := sq2_pos (x := x) (y := y) (by
          simp at mw
          rcases mw with rfl | rfl
          · exact .inl nw
          · exact .inr nw)
        omega
      rw [sd, st] at this
      exact this
    have t0 : 0 ≤ a + c := nn_of fun k hk => (P k hk).1
    refine ⟨t0, ?_⟩
    by_cases z : 0 ≤ a * c - b * b
    · exact z
    · exfalso
      have := (P (a + c + 1) (by omega)).2
      generalize a + c = t at this t0
      generalize a * c - b * b = D at this z
      have e : (t + 1) * (t + 1) * D ≤ (t + 1) * (t + 1) * (-1) := Int.mul_le_mul_of_nonneg_left (by omega) (sq_nn _)
      have e2 : (t + 1) * (t + 1) * (-1) + (t + 1) * t + 1 = -t := by grind
      omega
  · intro ⟨h1, h2⟩ xs hx
    obtain ⟨x, y, rfl⟩ := len2 hx
    by_cases zz : x ≠ 0 ∨ y ≠ 0
    · refine nn_of (s := x * x + y * y) fun k hk => ?_
      rw [← s2w]
      refine (pos2_iff (a := k * a + 1) (b := k * b) (c := k * c + 1)).mpr ?_ [x, y] rfl ?_
      · rw [sd, st]
        have p1 := Int.mul_nonneg hk h1
        have p2 := Int.mul_nonneg (sq_nn k) h2
        omega
      · rcases zz with h | h
        · exact ⟨x, by simp, h⟩
        · exact ⟨y, by simp, h⟩
    · have hx : x = 0 := Decidable.byContradiction fun k => zz (.inl k)
      have hy : y = 0 := Decidable.byContradiction fun k => zz (.inr k)
      subst hx hy
      rw [btw2']
      omega
theorem psd3 {a b c d e f : Int} : Psd 3 [[a, b, c], [b, d, e], [c, e, f]] ↔ (0 ≤ a + d + f ∧ 0 ≤ E2 a b c d e f ∧ 0 ≤ E3 a b c d e f) := by
  have s1 : ∀ k : Int, k * a + 1 + (k * d + 1) + (k * f + 1) = k * (a + d + f) + 3 := fun k => by grind
  have s2 : ∀ k : Int, E2 (k * a + 1) (k * b) (k * c) (k * d + 1) (k * e) (k * f + 1) = k * k * E2 a b c d e f + 2 * (k * (a + d + f)) + 3 := fun k => by unfold E2; grind
  have s3 : ∀ k : Int, E3 (k * a + 1) (k * b) (k * c) (k * d + 1) (k * e) (k * f + 1) = k * (k * k) * E3 a b c d e f + k * k * E2 a b c d e f + k * (a + d + f) + 1 := fun k => by unfold E2 E3; grind
  constructor
  · intro h
    have P : ∀ k : Int, 0 ≤ k → 0 < k * (a + d + f) + 3 ∧ 0 < k * k * E2 a b c d e f + 2 * (k * (a + d + f)) + 3 ∧ 0 < k * (k * k) * E3 a b c d e f + k * k * E2 a b c d e f + k * (a + d + f) + 1 := fun k hk => by
      have := (pos3_iff (a := k * a + 1) (b := k * b) (c := k * c) (d := k * d + 1) (e := k * e) (f := k * f + 1)).mp fun xs hx ⟨w, mw, nw⟩ => by
        obtain ⟨x, y, z, rfl⟩ := len3 hx
        rw [s3w]
        have p := Int.mul_nonneg hk (h [x, y, z] rfl)
        have q := sq3_pos (x := x) (y := y) (z := z) (by
          simp at mw
          rcases mw with rfl | rfl | rfl
          · exact .inl nw
          · exact .inr (.inl nw)
          · exact .inr (.inr nw))
        omega
      rw [s1, s2, s3] at this
      exact this
    clear s1 s2 s3 h
    have t0 : 0 ≤ a + d + f := nn_of fun k hk => (P k hk).1
    generalize a + d + f = t at P t0
    generalize E2 a b c d e f = u at P
    generalize E3 a b c d e f = v at P
    have u0 : 0 ≤ u := by
      by_cases z : 0 ≤ u
      · exact z
      · exfalso
        have := (P (2 * t + 3) (by omega)).2.1
        have e : (2 * t + 3) * (2 * t + 3) * u ≤ (2 * t + 3) * (2 * t + 3) * (-1) := Int.mul_le_mul_of_nonneg_left (by omega) (sq_nn _)
        have e2 : (2 * t + 3) * (2 * t + 3) * (-1) + 2 * ((2 * t + 3) * t) + 3 = -(6 * t + 6) := by grind
        omega
    refine ⟨t0, u0, ?_⟩
    by_cases z : 0 ≤ v
    · exact z
    · exfalso
      have := (P (u + t + 2) (by omega)).2.2
      obtain ⟨k, hk⟩ : ∃ k, k = u + t + 2 := ⟨_, rfl⟩
      rw [← hk] at this
      have k2 : 2 ≤ k := by omega
      have kk := sq_nn k
      have e : k * (k * k) * v ≤ k * (k * k) * (-1) := Int.mul_le_mul_of_nonneg_left (by omega) (Int.mul_nonneg (by omega) kk)
      have e2 : k * t ≤ k * k * t := by
        have : k * k * t - k * t = k * ((k - 1) * t) := by grind
        have := Int.mul_nonneg (a := k) (by omega) (Int.mul_nonneg (a := k - 1) (by omega) t0)
        omega
      have e3 : k * (k * k) * (-1) + k * k * u + k * k * t = -(2 * (k * k)) := by
        have : u = k - t - 2 := by omega
        rw [this]
        grind
      have : 4 ≤ k * k := by
        have := Int.mul_le_mul k2 k2 (by decide) (by omega)
        omega
      omega
  · intro ⟨h1, h2, h3⟩ xs hx
    obtain ⟨x, y, z, rfl⟩ := len3 hx
    by_cases zz : x ≠ 0 ∨ y ≠ 0 ∨ z ≠ 0
    · refine nn_of (s := x * x + y * y + z * z) fun k hk => ?_
      rw [← s3w]
      refine (pos3_iff (a := k * a + 1) (b := k * b) (c := k * c) (d := k * d + 1) (e := k * e) (f := k * f + 1)).mpr ?_ [x, y, z] rfl ?_
      · rw [s1, s2, s3]
        have p1 := Int.mul_nonneg hk h1
        have p2 := Int.mul_nonneg (sq_nn k) h2
        have p3 := Int.mul_nonneg (Int.mul_nonneg hk (sq_nn k)) h3
        omega
      · rcases zz with h | h | h
        · exact ⟨x, by simp, h⟩
        · exact ⟨y, by simp, h⟩
        · exact ⟨z, by simp, h⟩
    · have hx : x = 0 := Decidable.byContradiction fun k => zz (.inl k)
      have hy : y = 0 := Decidable.byContradiction fun k => zz (.inr (.inl k))
      have hz : z = 0 := Decidable.byContradiction fun k => zz (.inr (.inr k))
      subst hx hy hz
      rw [btw3]
      omega
end T29
set_option Elab.async false
set_option linter.all false
set_option maxRecDepth 100000
set_option maxHeartbeats 4000000
namespace T29
open PySem PySem.Spec PyProof.Rows L2 Gd Zn Rp Dn Tb Gn En Zs Ct Op Oc Rg Rt Ro Oa
def Nsd (n : Nat) (M : List (List Int)) : Prop := ∀ xs : List Int, xs.length = n → btwM M xs xs ≤ 0
def Gmd (n : Nat) (M : List (List Int)) : Prop := ∃ xs ys : List Int, xs.length = n ∧ ys.length = n ∧ 0 < btwM M xs xs * btwM M ys ys - btwM M xs ys * btwM M xs ys
theorem neg2 (a b c x y : Int) : btwM [[-a, -b], [-b, -c]] [x, y] [x, y] = -btwM [[a, b], [b, c]] [x, y] [x, y] := by
  rw [btw2', btw2']
  grind
theorem neg3 (a b c d e f x y z : Int) : btwM [[-a, -b, -c], [-b, -d, -e], [-c, -e, -f]] [x, y, z] [x, y, z] = -btwM [[a, b, c], [b, d, e], [c, e, f]] [x, y, z] [x, y, z] := by
  rw [btw3, btw3]
  grind
theorem nsd2 {a b c : Int} : Nsd 2 [[a, b], [b, c]] ↔ (a + c ≤ 0 ∧ 0 ≤ a * c - b * b) := by
  have k : Nsd 2 [[a, b], [b, c]] ↔ Psd 2 [[-a, -b], [-b, -c]] := by
    constructor
    · intro h xs hx
      obtain ⟨x, y, rfl⟩ := len2 hx
      rw [neg2]
      have := h [x, y] rfl
      omega
    · intro h xs hx
      obtain ⟨x, y, rfl⟩ := len2 hx
      have := h [x, y] rfl
      rw [neg2] at this
      omega
  rw [k, psd2]
  have e : -a * -c - -b * -b = a * c - b * b := by grind
  rw [e]
  constructor <;> (intro ⟨x, y⟩; exact ⟨by omega, y⟩)
theorem nsd3 {a b c d e f : Int} : Nsd 3 [[a, b, c], [b, d, e], [c, e, f]] ↔ (a + d + f ≤ 0 ∧ 0 ≤ E2 a b c d e f ∧ E3 a b c d e f ≤ 0) := by
  have k : Nsd 3 [[a, b, c], [b, d, e], [c, e, f]] ↔ Psd 3 [[-a, -b, -c], [-b, -d, -e], [-c, -e, -f]] := by
    constructor
    · intro h xs hx
      obtain ⟨x, y, z, rfl⟩ := len3 hx
      rw [neg3]
      have := h [x, y, z] rfl
      omega
    · intro h xs hx
      obtain ⟨x, y, z, rfl⟩ := len3 hx
      have := h [x, y, z] rfl
      rw [neg3] at this
      omega
  rw [k, psd3]
  have e1 : E2 (-a) (-b) (-c) (-d) (-e) (-f) = E2 a b c d e f := by unfold E2; grind
  have e2 : E3 (-a) (-b) (-c) (-d) (-e) (-f) = -E3 a b c d e f := by unfold E3; grind
  rw [e1, e2]
  constructor <;> (intro ⟨x, y, z⟩; exact ⟨by omega, y, by omega⟩)
theorem bc3 (x1 x2 x3 y1 y2 y3 u1 u2 u3 v1 v2 v3 : Int) : (x1 * u1 + x2 * u2 + x3 * u3) * (y1 * v1 + y2 * v2 + y3 * v3) - (x1 * v1 + x2 * v2 + x3 * v3) * (y1 * u1 + y2 * u2 + y3 * u3)
    = (x2 * y3 - x3 * y2) * (u2 * v3 - u3 * v2) + (x3 * y1 - x1 * y3) * (u3 * v1 - u1 * v3) + (x1 * y2 - x2 * y1) * (u1 * v2 - u2 * v1) := by grind
theorem btw3g (a b c d e f x1 x2 x3 y1 y2 y3 : Int) : btwM [[a, b, c], [b, d, e], [c, e, f]] [x1, x2, x3] [y1, y2, y3] = x1 * (a * y1 + b * y2 + c * y3) + x2 * (b * y1 + d * y2 + e * y3) + x3 * (c * y1 + e * y2 + f * y3) := by
  simp [btwM, ledM, dot, Int.add_assoc]
theorem cr1 (b d e c f x1 x2 x3 y1 y2 y3 : Int) : (b * x1 + d * x2 + e * x3) * (c * y1 + e * y2 + f * y3) - (c * x1 + e * x2 + f * x3) * (b * y1 + d * y2 + e * y3)
    = (d * f - e * e) * (x2 * y3 - x3 * y2) + (c * e - b * f) * (x3 * y1 - x1 * y3) + (b * e - c * d) * (x1 * y2 - x2 * y1) := by grind
theorem cr2 (a b c e f x1 x2 x3 y1 y2 y3 : Int) : (c * x1 + e * x2 + f * x3) * (a * y1 + b * y2 + c * y3) - (a * x1 + b * x2 + c * x3) * (c * y1 + e * y2 + f * y3)
    = (c * e - b * f) * (x2 * y3 - x3 * y2) + (a * f - c * c) * (x3 * y1 - x1 * y3) + (b * c - a * e) * (x1 * y2 - x2 * y1) := by grind
theorem cr3 (a b c d e x1 x2 x3 y1 y2 y3 : Int) : (a * x1 + b * x2 + c * x3) * (b * y1 + d * y2 + e * y3) - (b * x1 + d * x2 + e * x3) * (a * y1 + b * y2 + c * y3)
    = (b * e - c * d) * (x2 * y3 - x3 * y2) + (b * c - a * e) * (x3 * y1 - x1 * y3) + (a * d - b * b) * (x1 * y2 - x2 * y1) := by grind
/-- two rows' worths less what is between them, by the adjugate -/
theorem gram3 (a b c d e f x1 x2 x3 y1 y2 y3 : Int) : btwM [[a, b, c], [b, d, e], [c, e, f]] [x1, x2, x3] [x1, x2, x3] * btwM [[a, b, c], [b, d, e], [c, e, f]] [y1, y2, y3] [y1, y2, y3] - btwM [[a, b, c], [b, d, e], [c, e, f]] [x1, x2, x3] [y1, y2, y3] * btwM [[a, b, c], [b, d, e], [c, e, f]] [x1, x2, x3] [y1, y2, y3]
    = btwM [[d * f - e * e, c * e - b * f, b * e - c * d], [c * e - b * f, a * f - c * c, b * c - a * e], [b * e - c * d, b * c - a * e, a * d - b * b]] [x2 * y3 - x3 * y2, x3 * y1 - x1 * y3, x1 * y2 - x2 * y1] [x2 * y3 - x3 * y2, x3 * y1 - x1 * y3, x1 * y2 - x2 * y1] := by
  have sy : btwM [[a, b, c], [b, d, e], [c, e, f]] [x1, x2, x3] [y1, y2, y3] = y1 * (a * x1 + b * x2 + c * x3) + y2 * (b * x1 + d * x2 + e * x3) + y3 * (c * x1 + e * x2 + f * x3) := by
    rw [btw3g]
    grind
  rw [show btwM [[a, b, c], [b, d, e], [c, e, f]] [x1, x2, x3] [y1, y2, y3] * btwM [[a, b, c], [b, d, e], [c, e, f]] [x1, x2, x3] [y1, y2, y3] = (x1 * (a * y1 + b * y2 + c * y3) + x2 * (b * y1 + d * y2 + e * y3) + x3 * (c * y1 + e * y2 + f * y3)) * (y1 * (a * x1 + b * x2 + c * x3) + y2 * (b * x1 + d * x2 + e * x3) + y3 * (c * x1 + e * x2 + f * x3)) by rw [← sy, ← btw3g]]
  rw [btw3, btw3, btw3, bc3, cr1, cr2, cr3]
theorem adj_e2 (a b c d e f : Int) : E2 (d * f - e * e) (c * e - b * f) (b * e - c * d) (a * f - c * c) (b * c - a * e) (a * d - b * b) = (a + d + f) * E3 a b c d e f := by unfold E2 E3; grind
theorem adj_e3 (a b c d e f : Int) : E3 (d * f - e * e) (c * e - b * f) (b * e - c * d) (a * f - c * c) (b * c - a * e) (a * d - b * b) = E3 a b c d e f * E3 a b c d e f := by unfold E3; grind
theorem gmd3 {a b c d e f : Int} (h : E3 a b c d e f = 0) : Gmd 3 [[a, b, c], [b, d, e], [c, e, f]] ↔ 0 < E2 a b c d e f := by
  constructor
  · intro ⟨xs, ys, lx, ly, g⟩
    obtain ⟨x1, x2, x3, rfl⟩ := len3 lx
    obtain ⟨y1, y2, y3, rfl⟩ := len3 ly
    rw [gram3] at g
    by_cases z : 0 < E2 a b c d e f
    · exact z
    · exfalso
      have := (nsd3 (a := d * f - e * e) (b := c * e - b * f) (c := b * e - c * d) (d := a * f - c * c) (e := b * c - a * e) (f := a * d - b * b)).mpr ⟨by unfold E2 at z; omega, by rw [adj_e2, h]; omega, by rw [adj_e3, h]; decide⟩
      have := this [x2 * y3 - x3 * y2, x3 * y1 - x1 * y3, x1 * y2 - x2 * y1] rfl
      omega
  · intro g
    have i1 : btwM [[a, b, c], [b, d, e], [c, e, f]] [1, 0, 0] [1, 0, 0] = a := by rw [btw3]; omega
    have i2 : btwM [[a, b, c], [b, d, e], [c, e, f]] [0, 1, 0] [0, 1, 0] = d := by rw [btw3]; omega
    have i3 : btwM [[a, b, c], [b, d, e], [c, e, f]] [0, 0, 1] [0, 0, 1] = f := by rw [btw3]; omega
    have j1 : btwM [[a, b, c], [b, d, e], [c, e, f]] [1, 0, 0] [0, 1, 0] = b := by rw [btw3g]; omega
    have j2 : btwM [[a, b, c], [b, d, e], [c, e, f]] [1, 0, 0] [0, 0, 1] = c := by rw [btw3g]; omega
    have j3 : btwM [[a, b, c], [b, d, e], [c, e, f]] [0, 1, 0] [0, 0, 1] = e := by rw [btw3g]; omega
    unfold E2 at g
    by_cases q1 : 0 < a * d - b * b
    · exact ⟨[1, 0, 0], [0, 1, 0], rfl, rfl, by rw [i1, i2, j1]; exact q1⟩
    · by_cases q2 : 0 < a * f - c * c
      · exact ⟨[1, 0, 0], [0, 0, 1], rfl, rfl, by rw [i1, i3, j2]; exact q2⟩
      · exact ⟨[0, 1, 0], [0, 0, 1], rfl, rfl, by rw [i2, i3, j3]; omega⟩
/-- the two facts of numbers -/
theorem f1_2 (a b c : Int) : 0 ≤ (a + c) * (a + c) - 2 * (a * c - b * b) := by
  have : (a + c) * (a + c) - 2 * (a * c - b * b) = a * a + c * c + 2 * (b * b) := by grind
  have := sq_nn a; have := sq_nn b; have := sq_nn c
  omega
theorem f1_3 (a b c d e f : Int) : (a + d + f) * (a + d + f) - 2 * E2 a b c d e f = a * a + d * d + f * f + 2 * (b * b) + 2 * (c * c) + 2 * (e * e) := by unfold E2; grind
theorem sq_z {x : Int} (h : x * x ≤ 0) : x = 0 := by
  by_cases z : x = 0
  · exact z
  · have := sq3_pos (x := x) (y := 0) (z := 0) (.inl z)
    omega
theorem f3_3 {a b c d e f : Int} (h1 : a + d + f = 0) (h2 : E2 a b c d e f = 0) : E3 a b c d e f = 0 := by
  have := f1_3 a b c d e f
  rw [h1, h2] at this
  have q1 := sq_nn a; have q2 := sq_nn b; have q3 := sq_nn c; have q4 := sq_nn d; have q5 := sq_nn e; have q6 := sq_nn f
  have a0 := sq_z (x := a) (by omega)
  have b0 := sq_z (x := b) (by omega)
  have c0 := sq_z (x := c) (by omega)
  have d0 := sq_z (x := d) (by omega)
  have e0 := sq_z (x := e) (by omega)
  have g0 := sq_z (x := f) (by omega)
  subst a0 b0 c0 d0 e0 g0
  rfl
end T29
set_option Elab.async false
set_option linter.all false
set_option maxRecDepth 100000
set_option maxHeartbeats 4000000
set_option synthInstance.maxSize 10000
set_option synthInstance.maxHeartbeats 2000000
namespace T29
open PySem PySem.Spec PyProof.Rows L2 Gd Zn Rp Dn Tb Gn En Zs Ct Op Oc Rg Rt Ro Oa
theorem sgn3 (x : Int) : x.sign = -1 ∧ x < 0 ∨ x.sign = 0 ∧ x = 0 ∨ x.sign = 1 ∧ 0 < x := by
  rcases Int.lt_trichotomy x 0 with h | h | h
  · exact .inl ⟨Int.sign_eq_neg_one_of_neg h, h⟩
  · exact .inr (.inl ⟨by rw [h]; rfl, h⟩)
  · exact .inr (.inr ⟨Int.sign_eq_one_of_pos h, h⟩)
def S3 : List Int := [-1, 0, 1]
theorem sgn_mem (x : Int) : x.sign ∈ S3 := by
  rcases sgn3 x with ⟨h, _⟩ | ⟨h, _⟩ | ⟨h, _⟩ <;> rw [h] <;> decide
theorem sgn_pos {x : Int} : 0 < x.sign ↔ 0 < x := by
  rcases sgn3 x with ⟨h, h'⟩ | ⟨h, h'⟩ | ⟨h, h'⟩ <;> rw [h] <;> constructor <;> intro <;> omega
theorem sgn_nn {x : Int} : 0 ≤ x.sign ↔ 0 ≤ x := by
  rcases sgn3 x with ⟨h, h'⟩ | ⟨h, h'⟩ | ⟨h, h'⟩ <;> rw [h] <;> constructor <;> intro <;> omega
theorem sgn_np {x : Int} : x.sign ≤ 0 ↔ x ≤ 0 := by
  rcases sgn3 x with ⟨h, h'⟩ | ⟨h, h'⟩ | ⟨h, h'⟩ <;> rw [h] <;> constructor <;> intro <;> omega
theorem sgn_z {x : Int} : x.sign = 0 ↔ x = 0 := by
  rcases sgn3 x with ⟨h, h'⟩ | ⟨h, h'⟩ | ⟨h, h'⟩ <;> rw [h] <;> constructor <;> intro <;> omega
theorem kpt_sign (l : List Int) : kpt (l.map Int.sign) = (kpt l).map Int.sign := by
  induction l with
  | nil => rfl
  | cons x l ih =>
    unfold kpt at ih ⊢
    rw [List.map_cons]
    by_cases z : x = 0
    · subst z
      rw [List.filter_cons_of_neg (by decide), List.filter_cons_of_neg (by decide), ih]
    · have z' : x.sign ≠ 0 := fun h => z (sgn_z.mp h)
      rw [List.filter_cons_of_pos (by simpa using z'), List.filter_cons_of_pos (by simpa using z), ih, List.map_cons]
theorem getD_sign (l : List Int) (i : Nat) : (l.map Int.sign).getD i 0 = (l.getD i 0).sign := by
  rw [List.getD_eq_getElem?_getD, List.getD_eq_getElem?_getD, List.getElem?_map]
  cases l[i]? <;> rfl
theorem chg_sign (l : List Int) (i : Nat) : chgT (l.map Int.sign) i = chgT l i := by
  unfold chgT
  rw [getD_sign, getD_sign, decide_eq_decide.mpr (sgn_pos (x := l.getD i 0)), decide_eq_decide.mpr (sgn_pos (x := l.getD (i + 1) 0))]
theorem sgA_sign (l : List Int) : sgA (l.map Int.sign) = sgA l := by
  unfold sgA
  rw [kpt_sign, List.length_map, show chgT ((kpt l).map Int.sign) = chgT (kpt l) from funext (chg_sign _)]
theorem isZ_sign {l : List Int} {z : Nat} : IsZ (l.map Int.sign) z ↔ IsZ l z := by
  unfold IsZ
  rw [List.length_map, getD_sign]
  constructor
  · intro ⟨a, b, c⟩
    exact ⟨a, fun h => b (sgn_z.mpr h), fun i hi => sgn_z.mp (by rw [← getD_sign]; exact c i hi)⟩
  · intro ⟨a, b, c⟩
    exact ⟨a, fun h => b (sgn_z.mp h), fun i hi => by rw [getD_sign]; exact sgn_z.mpr (c i hi)⟩
instance (l : List Int) (z : Nat) : Decidable (IsZ l z) := inferInstanceAs (Decidable (z < l.length ∧ l.getD z 0 ≠ 0 ∧ ∀ i, i < z → l.getD i 0 = 0))
def ok3 (s1 s2 s3 : Int) : Prop := (s1 = 0 → s2 ≤ 0) ∧ (s1 = 0 → s2 = 0 → s3 = 0) ∧ (s2 = 0 → ¬ (0 < s1 ∧ 0 < s3) ∧ ¬ (s1 < 0 ∧ s3 < 0))
instance (s1 s2 s3 : Int) : Decidable (ok3 s1 s2 s3) := inferInstanceAs (Decidable (_ ∧ _ ∧ _))
theorem fin3 : ∀ s3 ∈ S3, ∀ s1 ∈ S3, ∀ s2 ∈ S3, ok3 s1 s2 s3 → ∀ t1 ∈ S3, ∀ t2 ∈ S3, ok3 t1 t2 s3 → ((0 ≤ s1 ∧ 0 ≤ s2 ∧ 0 ≤ s3) ↔ (0 ≤ t1 ∧ 0 ≤ t2 ∧ 0 ≤ s3)) → ((s1 ≤ 0 ∧ 0 ≤ s2 ∧ s3 ≤ 0) ↔ (t1 ≤ 0 ∧ 0 ≤ t2 ∧ s3 ≤ 0)) → (s3 = 0 → (0 < s2 ↔ 0 < t2)) →
    sgA [-s3, s2, -s1, 1] = sgA [-s3, t2, -t1, 1] ∧ ∀ z, z < 4 → IsZ [-s3, s2, -s1, 1] z → IsZ [-s3, t2, -t1, 1] z := by decide +kernel
theorem fin2 : ∀ s2 ∈ S3, ∀ s1 ∈ S3, (s1 = 0 → s2 ≤ 0) → ∀ t1 ∈ S3, (t1 = 0 → s2 ≤ 0) → ((0 ≤ s1 ∧ 0 ≤ s2) ↔ (0 ≤ t1 ∧ 0 ≤ s2)) → ((s1 ≤ 0 ∧ 0 ≤ s2) ↔ (t1 ≤ 0 ∧ 0 ≤ s2)) →
    sgA [s2, -s1, 1] = sgA [s2, -t1, 1] ∧ ∀ z, z < 3 → IsZ [s2, -s1, 1] z → IsZ [s2, -t1, 1] z := by decide +kernel
theorem poly3 (a b c d e f : Int) : polyM 3 [[a, b, c], [b, d, e], [c, e, f]] = [-E3 a b c d e f, E2 a b c d e f, -(a + d + f), 1] := by
  rw [show polyM 3 [[a, b, c], [b, d, e], [c, e, f]] = [-detM 3 [[a, b, c], [b, d, e], [c, e, f]], midM [[a, b, c], [b, d, e], [c, e, f]], -trM 3 [[a, b, c], [b, d, e], [c, e, f]], 1] from rfl, ← e3det, midE, trmE3]
  have h1 : d * f - e * e + (a * f - c * c) + (a * d - b * b) = E2 a b c d e f := by unfold E2; omega
  rw [h1]
theorem ok3_of (a b c d e f : Int) : ok3 (a + d + f).sign (E2 a b c d e f).sign (E3 a b c d e f).sign := by
  refine ⟨fun h => ?_, fun h h' => ?_, fun h => ?_⟩
  · rw [sgn_z] at h
    rw [sgn_np]
    have := f1_3 a b c d e f
    rw [h] at this
    have := sq_nn a; have := sq_nn b; have := sq_nn c; have := sq_nn d; have := sq_nn e; have := sq_nn f
    omega
  · rw [sgn_z] at h h' ⊢
    exact f3_3 h h'
  · rw [sgn_z] at h
    have k := f1_3 (d * f - e * e) (c * e - b * f) (b * e - c * d) (a * f - c * c) (b * c - a * e) (a * d - b * b)
    rw [adj_e2] at k
    have h' : d * f - e * e + (a * f - c * c) + (a * d - b * b) = 0 := by unfold E2 at h; omega
    rw [h'] at k
    have q1 := sq_nn (d * f - e * e); have q2 := sq_nn (c * e - b * f); have q3 := sq_nn (b * e - c * d); have q4 := sq_nn (a * f - c * c); have q5 := sq_nn (b * c - a * e); have q6 := sq_nn (a * d - b * b)
    have le : (a + d + f) * E3 a b c d e f ≤ 0 := by omega
    rw [sgn_pos, sgn_pos]
    refine ⟨fun ⟨x, y⟩ => ?_, fun ⟨x, y⟩ => ?_⟩
    · have := Int.mul_pos x y
      omega
    · have x' : a + d + f < 0 := by
        rcases sgn3 (a + d + f) with ⟨u, v⟩ | ⟨u, v⟩ | ⟨u, v⟩
        · exact v
        · rw [u] at x; omega
        · rw [u] at x; omega
      have y' : E3 a b c d e f < 0 := by
        rcases sgn3 (E3 a b c d e f) with ⟨u, v⟩ | ⟨u, v⟩ | ⟨u, v⟩
        · exact v
        · rw [u] at y; omega
        · rw [u] at y; omega
      have := Int.mul_pos_of_neg_of_neg x' y'
      omega
theorem ok2_of (a b c : Int) : (a + c).sign = 0 → (a * c - b * b).sign ≤ 0 := fun h => by
  rw [sgn_z] at h
  rw [sgn_np]
  have := f1_2 a b c
  rw [h] at this
  omega
theorem map3 (x y z : Int) : [-x, y, -z, 1].map Int.sign = [-x.sign, y.sign, -z.sign, 1] := by simp [Int.sign_neg]
theorem map2 (x y : Int) : [x, -y, 1].map Int.sign = [x.sign, -y.sign, 1] := by simp [Int.sign_neg]
theorem map1 (x : Int) : [-x, 1].map Int.sign = [-x.sign, 1] := by simp [Int.sign_neg]
/-- signs hang on what is above, below, on the determinant's sign and on two rows together -/
theorem inert {n : Nat} {M N : List (List Int)} (h1 : 1 ≤ n) (h3 : n ≤ 3) (hM : Sh n M) (sM : transp n M = M) (hN : Sh n N) (sN : transp n N = N) (p : Psd n M ↔ Psd n N) (q : Nsd n M ↔ Nsd n N) (g : Gmd n M ↔ Gmd n N) (dd : (detM n M).sign = (detM n N).sign) :
    sgA (polyM n M) = sgA (polyM n N) ∧ ∀ z, IsZ (polyM n M) z → IsZ (polyM n N) z := by
  have : n = 1 ∨ n = 2 ∨ n = 3 := by omega
  rcases this with rfl | rfl | rfl
  · obtain ⟨a, rfl⟩ := sh1 hM rfl
    obtain ⟨b, rfl⟩ := sh1 hN rfl
    rw [det1, det1] at dd
    rw [polyE1, polyE1, ← sgA_sign, ← sgA_sign [-b, 1], map1, map1, dd]
    refine ⟨rfl, fun z hz => ?_⟩
    rw [← isZ_sign, map1] at hz ⊢
    rw [← dd]
    exact hz
  · obtain ⟨a, b, c, rfl⟩ := sy2 hM sM
    obtain ⟨a', b', c', rfl⟩ := sy2 hN sN
    rw [psd2, psd2, ← sgn_nn, ← sgn_nn (x := a * c - b * b), ← sgn_nn (x := a' + c'), ← sgn_nn (x := a' * c' - b' * b')] at p
    rw [nsd2, nsd2, ← sgn_np, ← sgn_nn (x := a * c - b * b), ← sgn_np (x := a' + c'), ← sgn_nn (x := a' * c' - b' * b')] at q
    rw [det2, det2] at dd
    rw [← dd] at p q
    have F := fin2 _ (sgn_mem (a * c - b * b)) _ (sgn_mem (a + c)) (ok2_of a b c) _ (sgn_mem (a' + c')) (by rw [dd]; exact ok2_of a' b' c') p q
    rw [polyE2, polyE2, ← sgA_sign, ← sgA_sign [a' * c' - b' * b', -(a' + c'), 1], map2, map2, ← dd]
    refine ⟨F.1, fun z hz => ?_⟩
    rw [← isZ_sign, map2] at hz ⊢
    rw [← dd]
    exact F.2 z hz.1 hz
  · obtain ⟨a, b, c, d, e, f, rfl⟩ := sy3 hM sM
    obtain ⟨a', b', c', d', e', f', rfl⟩ := sy3 hN sN
    rw [← e3det, ← e3det] at dd
    have gg : (E3 a b c d e f).sign = 0 → (0 < (E2 a b c d e f).sign ↔ 0 < (E2 a' b' c' d' e' f').sign) := fun h => by
      have h' := h
      rw [dd] at h'
      rw [sgn_z] at h h'
      rw [sgn_pos, sgn_pos, ← gmd3 h, ← gmd3 h']
      exact g
    rw [psd3, psd3, ← sgn_nn, ← sgn_nn (x := E2 a b c d e f), ← sgn_nn (x := E3 a b c d e f), ← sgn_nn (x := a' + d' + f'), ← sgn_nn (x := E2 a' b' c' d' e' f'), ← sgn_nn (x := E3 a' b' c' d' e' f')] at p
    rw [nsd3, nsd3, ← sgn_np, ← sgn_nn (x := E2 a b c d e f), ← sgn_np (x := E3 a b c d e f), ← sgn_np (x := a' + d' + f'), ← sgn_nn (x := E2 a' b' c' d' e' f'), ← sgn_np (x := E3 a' b' c' d' e' f')] at q
    have o' := ok3_of a' b' c' d' e' f'
    rw [← dd] at p q o'
    have F := fin3 _ (sgn_mem (E3 a b c d e f)) _ (sgn_mem (a + d + f)) _ (sgn_mem (E2 a b c d e f)) (ok3_of a b c d e f) _ (sgn_mem (a' + d' + f')) _ (sgn_mem (E2 a' b' c' d' e' f')) o' p q gg
    rw [poly3, poly3, ← sgA_sign, ← sgA_sign [-E3 a' b' c' d' e' f', E2 a' b' c' d' e' f', -(a' + d' + f'), 1], map3, map3, ← dd]
    refine ⟨F.1, fun z hz => ?_⟩
    rw [← isZ_sign, map3] at hz ⊢
    rw [← dd]
    exact F.2 z hz.1 hz
end T29
set_option Elab.async false
set_option linter.all false
set_option maxRecDepth 100000
set_option maxHeartbeats 4000000
set_option synthInstance.maxSize 10000
set_option synthInstance.maxHeartbeats 2000000
namespace T29
open PySem PySem.Spec PyProof.Rows L2 Gd Zn Rp Dn Tb Gn En Zs Ct Op Oc Rg Rt Ro Oa
theorem back {n : Nat} {P : List (List Int)} {xs : List Int} (h1 : 1 ≤ n) (h3 : n ≤ 3) (hP : Sh n P) (hx : xs.length = n) : ∃ ys : List Int, ys.length = n ∧ ledM P ys = xs.map (detM n P * ·) := by
  have : n = 1 ∨ n = 2 ∨ n = 3 := by omega
  rcases this with rfl | rfl | rfl
  · obtain ⟨p, rfl⟩ := sh1 hP rfl
    obtain ⟨x, rfl⟩ := len1 hx
    exact ⟨[x], rfl, by rw [det1]; simp [ledM, dot]⟩
  · obtain ⟨p, q, r, s, rfl⟩ := sh2 hP rfl
    obtain ⟨x, y, rfl⟩ := len2 hx
    refine ⟨[s * x - q * y, p * y - r * x], rfl, ?_⟩
    rw [det2]
    simp [ledM, dot]
    constructor <;> grind
  · obtain ⟨a, b, c, d, e, f, g, h, i, rfl⟩ := sh3 hP rfl
    obtain ⟨x, y, z, rfl⟩ := len3 hx
    refine ⟨[(e * i - f * h) * x + (c * h - b * i) * y + (b * f - c * e) * z, (f * g - d * i) * x + (a * i - c * g) * y + (c * d - a * f) * z, (d * h - e * g) * x + (b * g - a * h) * y + (a * e - b * d) * z], rfl, ?_⟩
    rw [det3]
    simp [ledM, dot]
    refine ⟨?_, ?_, ?_⟩ <;> grind
theorem btw_mul2 {n : Nat} {M : List (List Int)} {c : Int} {xs ys : List Int} (h1 : 1 ≤ n) (h3 : n ≤ 3) (hM : Sh n M) (hx : xs.length = n) (hy : ys.length = n) : btwM M (xs.map (c * ·)) (ys.map (c * ·)) = c * c * btwM M xs ys := by
  have : n = 1 ∨ n = 2 ∨ n = 3 := by omega
  rcases this with rfl | rfl | rfl
  · obtain ⟨a, rfl⟩ := sh1 hM rfl
    obtain ⟨x, rfl⟩ := len1 hx
    obtain ⟨y, rfl⟩ := len1 hy
    simp [btwM, ledM, dot]
    grind
  · obtain ⟨a, b, d, e, rfl⟩ := sh2 hM rfl
    obtain ⟨x, x', rfl⟩ := len2 hx
    obtain ⟨y, y', rfl⟩ := len2 hy
    simp [btwM, ledM, dot]
    grind
  · obtain ⟨a, b, d, e, f, g, h, i, j, rfl⟩ := sh3 hM rfl
    obtain ⟨x, x', x'', rfl⟩ := len3 hx
    obtain ⟨y, y', y'', rfl⟩ := len3 hy
    simp [btwM, ledM, dot]
    grind
theorem sq_p {x : Int} (h : x ≠ 0) : 0 < x * x := by
  have := sq_nn x
  by_cases z : x * x ≤ 0
  · exact absurd (sq_z z) h
  · omega
theorem nn_cut {c w : Int} (hc : 0 < c) (h : 0 ≤ c * w) : 0 ≤ w := by
  by_cases z : 0 ≤ w
  · exact z
  · have := Int.mul_neg_of_pos_of_neg hc (by omega : w < 0)
    omega
section
variable {n : Nat} {M P : List (List Int)}
theorem psd_led (h1 : 1 ≤ n) (h3 : n ≤ 3) (hM : Sh n M) (hP : Sh n P) (hd : detM n P ≠ 0) : Psd n M ↔ Psd n (ldM n M P) := by
  constructor
  · intro h xs hx
    rw [btw_led h1 h3 hM hP hx hx]
    exact h _ (by rw [led_len, hP.len])
  · intro h xs hx
    obtain ⟨ys, ly, e⟩ := back h1 h3 hP hx
    have := h ys ly
    rw [btw_led h1 h3 hM hP ly ly, e, btw_mul2 h1 h3 hM hx hx] at this
    exact nn_cut (sq_p hd) this
theorem nsd_led (h1 : 1 ≤ n) (h3 : n ≤ 3) (hM : Sh n M) (hP : Sh n P) (hd : detM n P ≠ 0) : Nsd n M ↔ Nsd n (ldM n M P) := by
  constructor
  · intro h xs hx
    rw [btw_led h1 h3 hM hP hx hx]
    exact h _ (by rw [led_len, hP.len])
  · intro h xs hx
    obtain ⟨ys, ly, e⟩ := back h1 h3 hP hx
    have := h ys ly
    rw [btw_led h1 h3 hM hP ly ly, e, btw_mul2 h1 h3 hM hx hx] at this
    have := nn_cut (c := detM n P * detM n P) (w := -btwM M xs xs) (sq_p hd) (by rw [Int.mul_neg]; omega)
    omega
theorem gmd_led (h1 : 1 ≤ n) (h3 : n ≤ 3) (hM : Sh n M) (hP : Sh n P) (hd : detM n P ≠ 0) : Gmd n M ↔ Gmd n (ldM n M P) := by
  constructor
  · intro ⟨xs, zs, hx, hz, g⟩
    obtain ⟨ys, ly, e⟩ := back h1 h3 hP hx
    obtain ⟨us, lu, e'⟩ := back h1 h3 hP hz
    refine ⟨ys, us, ly, lu, ?_⟩
    rw [btw_led h1 h3 hM hP ly ly, btw_led h1 h3 hM hP lu lu, btw_led h1 h3 hM hP ly lu, e, e', btw_mul2 h1 h3 hM hx hx, btw_mul2 h1 h3 hM hz hz, btw_mul2 h1 h3 hM hx hz]
    have p := sq_p hd
    generalize detM n P * detM n P = t at p
    have : t * btwM M xs xs * (t * btwM M zs zs) - t * btwM M xs zs * (t * btwM M xs zs) = t * t * (btwM M xs xs * btwM M zs zs - btwM M xs zs * btwM M xs zs) := by grind
    rw [this]
    exact Int.mul_pos (Int.mul_pos p p) g
  · intro ⟨xs, zs, hx, hz, g⟩
    rw [btw_led h1 h3 hM hP hx hx, btw_led h1 h3 hM hP hz hz, btw_led h1 h3 hM hP hx hz] at g
    exact ⟨_, _, by rw [led_len, hP.len], by rw [led_len, hP.len], g⟩
theorem detS_led (h1 : 1 ≤ n) (h3 : n ≤ 3) (hM : Sh n M) (hP : Sh n P) (hd : detM n P ≠ 0) : (detM n M).sign = (detM n (ldM n M P)).sign := by
  unfold ldM
  have tP := tr_sh hP h1 h3
  rw [mul_detS h1 h3 (mul_sh h1 h3 tP hM) hP, mul_detS h1 h3 tP hM, det_tr h1 h3 hP, Int.sign_mul, Int.sign_mul]
  rcases sgn3 (detM n P) with ⟨u, _⟩ | ⟨_, v⟩ | ⟨u, _⟩
  · rw [u]; omega
  · exact absurd v hd
  · rw [u]; omega
/-- signs of a led form -/
theorem sg_led (h1 : 1 ≤ n) (h3 : n ≤ 3) (hM : Sh n M) (sM : transp n M = M) (hP : Sh n P) (hd : detM n P ≠ 0) (hL : Sh n (ldM n M P)) : sgA (polyM n (ldM n M P)) = sgA (polyM n M) ∧ ∀ z, IsZ (polyM n (ldM n M P)) z → IsZ (polyM n M) z :=
  inert h1 h3 hL (ld_sy h1 h3 hM hP sM) hM sM (psd_led h1 h3 hM hP hd).symm (nsd_led h1 h3 hM hP hd).symm (gmd_led h1 h3 hM hP hd).symm (detS_led h1 h3 hM hP hd).symm
end
theorem isz_uniq {l : List Int} {z z' : Nat} (h : IsZ l z) (h' : IsZ l z') : z = z' := by
  obtain ⟨_, b, c⟩ := h
  obtain ⟨_, b', c'⟩ := h'
  rcases Nat.lt_trichotomy z z' with q | q | q
  · exact absurd (c' z q) b
  · exact q
  · exact absurd (c z' q) b'
def H6 : List Int := [1, 2, -1, -3, 0, 6]
def posC (hs : List Int) : Nat := (hs.filter fun x => decide (0 < x)).length
def nulC (hs : List Int) : Nat := (hs.filter fun x => decide (x = 0)).length
theorem dg1 : ∀ a ∈ H6, sgA [-a, 1] = posC [a] ∧ IsZ [-a, 1] (nulC [a]) := by decide +kernel
theorem dg2 : ∀ a ∈ H6, ∀ b ∈ H6, sgA [a * b - 0 * 0, -(a + b), 1] = posC [a, b] ∧ IsZ [a * b - 0 * 0, -(a + b), 1] (nulC [a, b]) := by decide +kernel
theorem dg3 : ∀ a ∈ H6, ∀ b ∈ H6, ∀ c ∈ H6, sgA [-E3 a 0 0 b 0 c, E2 a 0 0 b 0 c, -(a + b + c), 1] = posC [a, b, c] ∧ IsZ [-E3 a 0 0 b 0 c, E2 a 0 0 b 0 c, -(a + b + c), 1] (nulC [a, b, c]) := by decide +kernel
theorem dg {n : Nat} {hs : List Int} (h1 : 1 ≤ n) (h3 : n ≤ 3) (l : hs.length = n) (h : ∀ x ∈ hs, x ∈ H6) : sgA (polyM n (diagM n hs)) = posC hs ∧ IsZ (polyM n (diagM n hs)) (nulC hs) := by
  have : n = 1 ∨ n = 2 ∨ n = 3 := by omega
  rcases this with rfl | rfl | rfl
  · obtain ⟨a, rfl⟩ := len1 l
    rw [show diagM 1 [a] = [[a]] from rfl, polyE1]
    exact dg1 a (h a (by simp))
  · obtain ⟨a, b, rfl⟩ := len2 l
    rw [show diagM 2 [a, b] = [[a, 0], [0, b]] from rfl, polyE2]
    exact dg2 a (h a (by simp)) b (h b (by simp))
  · obtain ⟨a, b, c, rfl⟩ := len3 l
    rw [show diagM 3 [a, b, c] = [[a, 0, 0], [0, b, 0], [0, 0, c]] from rfl, poly3]
    exact dg3 a (h a (by simp)) b (h b (by simp)) c (h c (by simp))
end T29
set_option Elab.async false
set_option linter.all false
set_option maxRecDepth 100000
set_option maxHeartbeats 4000000
namespace T29
open PySem PySem.Spec PyProof.Rows L2 Gd Zn Rp Dn Tb Gn En Zs Ct Op Oc Rg Rt Ro Oa
def gL (l : List Int) (g : Nat) : Nat := l.foldl (fun g x => Nat.gcd g x.natAbs) g
def dvM (M : List (List Int)) : Nat := gL M.flatten 0
theorem gL_app (l r : List Int) (g : Nat) : gL (l ++ r) g = gL r (gL l g) := by unfold gL; rw [List.foldl_append]
theorem gL_snoc (l : List Int) (x : Int) (g : Nat) : gL (l ++ [x]) g = Nat.gcd (gL l g) x.natAbs := by rw [gL_app]; rfl
theorem gL_dvd (l : List Int) (g k : Nat) : k ∣ gL l g ↔ k ∣ g ∧ ∀ x ∈ l, (k : Int) ∣ x := by
  induction l generalizing g with
  | nil => exact ⟨fun h => ⟨h, fun x hx => by cases hx⟩, fun h => h.1⟩
  | cons y l ih =>
    rw [show gL (y :: l) g = gL l (Nat.gcd g y.natAbs) from rfl, ih, Nat.dvd_gcd_iff, ← Int.ofNat_dvd_left]
    constructor
    · intro ⟨⟨a, b⟩, c⟩
      refine ⟨a, fun x hx => ?_⟩
      rcases List.mem_cons.mp hx with rfl | hx
      · exact b
      · exact c x hx
    · intro ⟨a, c⟩
      exact ⟨⟨a, c y List.mem_cons_self⟩, fun x hx => c x (List.mem_cons_of_mem _ hx)⟩
def Alld (k : Nat) (M : List (List Int)) : Prop := ∀ r ∈ M, ∀ x ∈ r, (k : Int) ∣ x
theorem dv_dvd {M : List (List Int)} {k : Nat} : k ∣ dvM M ↔ Alld k M := by
  unfold dvM Alld
  rw [gL_dvd]
  constructor
  · intro ⟨_, h⟩ r hr x hx
    exact h x (List.mem_flatten.mpr ⟨r, hr, hx⟩)
  · intro h
    refine ⟨Nat.dvd_zero k, fun x hx => ?_⟩
    obtain ⟨r, hr, hx⟩ := List.mem_flatten.mp hx
    exact h r hr x hx
theorem dvd_dotL {k : Int} {r : List Int} (h : ∀ x ∈ r, k ∣ x) : ∀ ys : List Int, k ∣ dot r ys := by
  induction r with
  | nil => intro ys; exact Int.dvd_zero k
  | cons x r ih =>
    intro ys
    cases ys with
    | nil => exact Int.dvd_zero k
    | cons y ys =>
      show k ∣ ((((x, y) :: r.zip ys).map fun p => p.1 * p.2).sum)
      rw [List.map_cons, List.sum_cons]
      exact Int.dvd_add (Int.dvd_mul_of_dvd_left (h x List.mem_cons_self)) (ih (fun z hz => h z (List.mem_cons_of_mem _ hz)) ys)
theorem dvd_dotR {k : Int} {r : List Int} (h : ∀ x ∈ r, k ∣ x) : ∀ ys : List Int, k ∣ dot ys r := by
  induction r with
  | nil => intro ys; cases ys <;> exact Int.dvd_zero k
  | cons x r ih =>
    intro ys
    cases ys with
    | nil => exact Int.dvd_zero k
    | cons y ys =>
      show k ∣ ((((y, x) :: ys.zip r).map fun p => p.1 * p.2).sum)
      rw [List.map_cons, List.sum_cons]
      exact Int.dvd_add (Int.dvd_mul_of_dvd_right (h x List.mem_cons_self)) (ih (fun z hz => h z (List.mem_cons_of_mem _ hz)) ys)
theorem alld_btw {n k : Nat} {M : List (List Int)} (h1 : 1 ≤ n) (h3 : n ≤ 3) (hM : Sh n M) : Alld k M ↔ ∀ xs ys : List Int, xs.length = n → ys.length = n → (k : Int) ∣ btwM M xs ys := by
  constructor
  · intro h xs ys _ _
    unfold btwM
    refine dvd_dotR (fun x hx => ?_) xs
    unfold ledM at hx
    obtain ⟨r, hr, rfl⟩ := List.mem_map.mp hx
    exact dvd_dotL (h r hr) ys
  · intro h r hr x hx
    have : n = 1 ∨ n = 2 ∨ n = 3 := by omega
    rcases this with rfl | rfl | rfl
    · obtain ⟨a, rfl⟩ := sh1 hM rfl
      have q := h [1] [1] rfl rfl
      simp [btwM, ledM, dot] at q
      simp at hr
      subst hr
      simp at hx
      subst hx
      exact q
    · obtain ⟨a, b, c, d, rfl⟩ := sh2 hM rfl
      have q1 := h [1, 0] [1, 0] rfl rfl
      have q2 := h [1, 0] [0, 1] rfl rfl
      have q3 := h [0, 1] [1, 0] rfl rfl
      have q4 := h [0, 1] [0, 1] rfl rfl
      simp [btwM, ledM, dot] at q1 q2 q3 q4
      simp at hr
      rcases hr with rfl | rfl <;> simp at hx <;> rcases hx with rfl | rfl <;> assumption
    · obtain ⟨a, b, c, d, e, f, g, i, j, rfl⟩ := sh3 hM rfl
      have q1 := h [1, 0, 0] [1, 0, 0] rfl rfl
      have q2 := h [1, 0, 0] [0, 1, 0] rfl rfl
      have q3 := h [1, 0, 0] [0, 0, 1] rfl rfl
      have q4 := h [0, 1, 0] [1, 0, 0] rfl rfl
      have q5 := h [0, 1, 0] [0, 1, 0] rfl rfl
      have q6 := h [0, 1, 0] [0, 0, 1] rfl rfl
      have q7 := h [0, 0, 1] [1, 0, 0] rfl rfl
      have q8 := h [0, 0, 1] [0, 1, 0] rfl rfl
      have q9 := h [0, 0, 1] [0, 0, 1] rfl rfl
      simp [btwM, ledM, dot] at q1 q2 q3 q4 q5 q6 q7 q8 q9
      simp at hr
      rcases hr with rfl | rfl | rfl <;> simp at hx <;> rcases hx with rfl | rfl | rfl <;> assumption
theorem dv_led {n : Nat} {M U : List (List Int)} (hM : Sh n M) (g : Gr n U) (hL : Sh n (ldM n M U)) : dvM (ldM n M U) = dvM M := by
  have key : ∀ k : Nat, Alld k (ldM n M U) ↔ Alld k M := fun k => by
    rw [alld_btw g.h1 g.h3 hL, alld_btw g.h1 g.h3 hM]
    constructor
    · intro h xs ys hx hy
      obtain ⟨us, lu, e⟩ := back g.h1 g.h3 g.sh hx
      obtain ⟨vs, lv, e'⟩ := back g.h1 g.h3 g.sh hy
      have := h us vs lu lv
      rw [btw_led g.h1 g.h3 hM g.sh lu lv, e, e', btw_mul2 g.h1 g.h3 hM hx hy] at this
      rcases g.d with d | d <;> rw [d] at this <;> simpa using this
    · intro h xs ys hx hy
      rw [btw_led g.h1 g.h3 hM g.sh hx hy]
      exact h _ _ (by rw [led_len, g.sh.len]) (by rw [led_len, g.sh.len])
  exact Nat.dvd_antisymm (dv_dvd.mpr ((key _).mp (dv_dvd.mp (Nat.dvd_refl _)))) (dv_dvd.mpr ((key _).mpr (dv_dvd.mp (Nat.dvd_refl _))))
end T29
set_option Elab.async false
set_option linter.all false
set_option maxRecDepth 100000
set_option maxHeartbeats 4000000
namespace T29
open PySem PySem.Spec PyProof.Rows L2 Gd Zn Rp Dn Tb Gn En Zs Ct Op Oc Rg Rt Ro Oa
theorem take_flat {M : List (List Int)} {i : Nat} {r : List Int} (e : M[i]? = some r) : (M.take (i + 1)).flatten = (M.take i).flatten ++ r := by
  rw [List.take_add_one, e, List.flatten_append]
  simp
theorem gL_at {l : List Int} {i : Nat} {x : Int} {g : Nat} (e : l[i]? = some x) : gL (l.take (i + 1)) g = Nat.gcd (gL (l.take i) g) x.natAbs := by
  rw [List.take_add_one, e]
  exact gL_snoc _ _ _
section
variable {P : Program} {w : World} {K : PySem.W.Frag} {mg : Str → Option Value} {base : Heap} {C : Addr}
def sp_dv (C : Addr) : Sp := fun vs H Q _ => ∃ v M, ∃ n b : Nat, vs = [v] ∧ Fv C H v n b M ∧ ∀ H', Same H H' → Q (.int (dvM M : Int)) H'
abbrev N_dv : List Str := ["self", "told", "row", "number"]
theorem sc_dv : FnScope N_dv ["self"] (defScope (st_F 11)) := ⟨rfl, rfl, rfl, by decide +kernel, rfl, by decide +kernel, by decide +kernel⟩
theorem ok_dv {f : Addr} {fd : FuncData} (F : Fun K "divisor" "Form.divisor" (st_F 11) f fd) (hg : mg "gcd" = some (.builtin "math.gcd")) (Fc : Fcl K mg C) : FnOk P w K mg base CX0 1 f fd ["self"] (sp_dv C) := by
  refine F.ok sc_dv (fun vs H Q E h => ?_) (fun cdv A outer s H vs Q E hr h => ?_)
  · obtain ⟨v, M, n, b, rfl, _⟩ := h
    rfl
  · obtain ⟨v, M, n, b, rfl, hv, q⟩ := h
    refine ⟨_, pss_cons (ps_set (i := 1) sc_dv.nd rfl (Or.inl rfl) pe_int)
      (pss_cons (ps_for PassesOwn.never rfl (pi_seq (pe_fld (pv 0) rfl)) (pg_name (i := 2) sc_dv.nd rfl (Or.inl rfl))
        (pss_one (ps_for PassesOwn.never rfl (pi_seq (pv 2)) (pg_name (i := 3) sc_dv.nd rfl (Or.inl rfl))
          (pss_one (ps_set (i := 1) sc_dv.nd rfl (Or.inl rfl) (pe_callV cr_gcd (by rfl) hg (pa_cons (pv 1) (pa_cons (pv 3) pa_nil))))))))
      (pss_one (ps_ret (pv 1)))), ?_⟩
    obtain ⟨p, dx, r, rfl, hp, hM⟩ := id hv.tab
    obtain ⟨a, vx, rfl, ha, hR⟩ := id hM
    have lx : vx.length = n := by rw [hR.len]; exact hv.bd.len
    have qx : SqV K H true a vx := .inl (.inl ha)
    refine r_seq (r_asg (r_next (r_nseq (r_forS ?_))))
    refine ⟨_, rfl, p, C, dx, _, _, rfl, hp, Fc.cl, Fc.nR, fldsT_rows _, true, a, vx, rfl, qx, ?_⟩
    refine for_by n (fun i σ H' => ∃ x2 x3, σ = [some (.ref p), some (.int (gL (M.take i).flatten 0 : Nat)), x2, x3] ∧ H' = H) ⟨_, _, rfl, rfl⟩ (fun i σ H' hi hP => ?_) (fun σ H' hP => ?_) (fun i x σ Ha Hb hi hP hy => ?_) (fun σ H' hP => ?_)
    · obtain ⟨_, _, _, rfl⟩ := hP
      exact its_go qx (List.getElem?_eq_getElem (by omega))
    · obtain ⟨_, _, _, rfl⟩ := hP
      exact its_stop qx (by omega)
    · obtain ⟨x2, x3, rfl, rfl⟩ := hP
      obtain ⟨rfl, ex⟩ := its_yld hy qx
      obtain ⟨rm, em, c', rfl, hc⟩ := hR.get ex
      have lm := hv.bd.row rm (List.mem_of_getElem? em)
      have q1 : SqV K Hb true c' (rm.map V.int) := .inl (.inl hc)
      refine g_nm (r_forS ⟨_, rfl, true, c', _, rfl, q1, ?_⟩)
      refine for_by n (fun j σ H' => ∃ x3, σ = [some (.ref p), some (.int (gL ((M.take i).flatten ++ rm.take j) 0 : Nat)), some (.ref c'), x3] ∧ H' = Hb) ⟨x3, ?_, rfl⟩ (fun j σ H' hj hP => ?_) (fun σ H' hP => ?_) (fun j x σ Hc Hd hj hP hy2 => ?_) (fun σ H' hP => ?_)
      · rw [List.take_zero, List.append_nil]
        rfl
      · obtain ⟨_, _, rfl⟩ := hP
        exact its_go q1 (List.getElem?_eq_getElem (by rw [List.length_map]; omega))
      · obtain ⟨_, _, rfl⟩ := hP
        exact its_stop q1 (by rw [List.length_map]; omega)
      · obtain ⟨x3, rfl, rfl⟩ := hP
        obtain ⟨rfl, ex2⟩ := its_yld hy2 q1
        have l1 : j < rm.length := by omega
        rw [List.getElem?_map, List.getElem?_eq_getElem l1] at ex2
        cases ex2
        refine g_nm (r_asg (r_cb ⟨_, rfl, _, rfl, _, _, rfl, ?_⟩))
        refine ⟨some (.int rm[j]), ?_, rfl⟩
        rw [gL_app, gL_app, gL_at (List.getElem?_eq_getElem l1), Int.natAbs_natCast]
        rfl
      · obtain ⟨x3, rfl, rfl⟩ := hP
        refine ⟨some (.ref c'), x3, ?_, rfl⟩
        rw [take_flat em, show rm.take n = rm from List.take_of_length_le (by omega)]
    · obtain ⟨x2, x3, rfl, rfl⟩ := hP
      rw [List.take_of_length_le (by rw [hv.bd.len]; exact Nat.le_refl _)]
      exact r_nret ⟨_, rfl, q _ (Same.refl _)⟩
end
end T29
set_option Elab.async false
set_option linter.all false
set_option maxRecDepth 100000
set_option maxHeartbeats 4000000
namespace Pw
open PySem PySem.Spec PyProof.Rows L2
def CPowW : Int → Int → Prop := fun i j => j = 2 ∧ i.natAbs < 2 ^ 20000
theorem op_powW {X : Cx} : OpR X (binaryOp .Pow) (rI CPowW fun i j => .int (i ^ j.toNat)) := by
  intro pins s σ H x y v u Q I rx ry h
  obtain ⟨i, j, rfl, rfl, ⟨rfl, hc⟩, q⟩ := h
  obtain ⟨t, rfl⟩ := rx
  obtain ⟨t', rfl⟩ := ry
  refine PyProof.Rows.pow_int (by decide) ?_ ⟨.int _, H, I.tok _, ⟨_, rfl⟩, q⟩
  have : Builtin.Int.intBits i ≤ 20000 := by
    unfold Builtin.Int.intBits
    by_cases z : i = 0
    · rw [z]; decide
    · have k : i.natAbs ≠ 0 := by omega
      have := (Nat.log2_lt k).mpr hc
      rw [if_neg (by simpa using z)]
      omega
  omega
end Pw
set_option Elab.async false
set_option linter.all false
set_option maxRecDepth 100000
set_option maxHeartbeats 4000000
namespace T29
open PySem PySem.Spec PyProof.Rows L2 Gd Zn Rp Dn Tb Gn En Zs Ct Op Oc Rg Rt Ro Oa
theorem tr_mul {n : Nat} {M N : List (List Int)} (h1 : 1 ≤ n) (h3 : n ≤ 3) (hM : Sh n M) (hN : Sh n N) : transp n (mulM n M N) = mulM n (transp n N) (transp n M) := by
  have : n = 1 ∨ n = 2 ∨ n = 3 := by omega
  rcases this with rfl | rfl | rfl
  · obtain ⟨a, rfl⟩ := sh1 hM rfl
    obtain ⟨b, rfl⟩ := sh1 hN rfl
    simp only [trE1, mulE1, Int.mul_comm]
  · obtain ⟨a, b, c, d, rfl⟩ := sh2 hM rfl
    obtain ⟨p, q, r, s, rfl⟩ := sh2 hN rfl
    simp only [trE2, mulE2, Int.mul_comm]
  · obtain ⟨a, b, c, d, e, f, g, h, i, rfl⟩ := sh3 hM rfl
    obtain ⟨p, q, r, s, t, u, v, w, x, rfl⟩ := sh3 hN rfl
    simp only [trE3, mulE3, Int.mul_comm]
theorem ld_mul {n : Nat} {G S U : List (List Int)} (h1 : 1 ≤ n) (h3 : n ≤ 3) (hG : Sh n G) (hS : Sh n S) (hU : Sh n U) : ldM n G (mulM n S U) = ldM n (ldM n G S) U := by
  have tS := tr_sh hS h1 h3
  have tU := tr_sh hU h1 h3
  have a1 := mul_sh h1 h3 tS hG
  have a2 := mul_sh h1 h3 hS hU
  unfold ldM
  rw [tr_mul h1 h3 hS hU, mul_assocS h1 h3 tU tS hG, mul_assocS h1 h3 tU a1 a2, ← mul_assocS h1 h3 a1 hS hU, ← mul_assocS h1 h3 tU (mul_sh h1 h3 a1 hS) hU]
theorem ld_unit {n : Nat} {G : List (List Int)} (h1 : 1 ≤ n) (h3 : n ≤ 3) (hG : Sh n G) : ldM n G (unitM n) = G := by
  have : n = 1 ∨ n = 2 ∨ n = 3 := by omega
  unfold ldM
  rw [unit_sy h1 h3]
  rcases this with rfl | rfl | rfl
  · obtain ⟨a, rfl⟩ := sh1 hG rfl
    rw [unitE1, mulE1, mulE1]; simp
  · obtain ⟨a, b, c, d, rfl⟩ := sh2 hG rfl
    rw [unitE2, mulE2, mulE2]; simp
  · obtain ⟨a, b, c, d, e, f, g, h, i, rfl⟩ := sh3 hG rfl
    rw [unitE3, mulE3, mulE3]; simp
theorem ld_und {n : Nat} {G U : List (List Int)} (hG : Sh n G) (g : Gr n U) : ldM n (ldM n G U) (undM n U) = G := by
  rw [← ld_mul g.h1 g.h3 hG g.sh g.und.sh, T29.mul_und g, ld_unit g.h1 g.h3 hG]
theorem mat_ext {n : Nat} {A B : List (List Int)} (h1 : 1 ≤ n) (h3 : n ≤ 3) (hA : Sh n A) (hB : Sh n B) (h : ∀ xs ys : List Int, xs.length = n → ys.length = n → btwM A xs ys = btwM B xs ys) : A = B := by
  have : n = 1 ∨ n = 2 ∨ n = 3 := by omega
  rcases this with rfl | rfl | rfl
  · obtain ⟨a, rfl⟩ := sh1 hA rfl
    obtain ⟨a', rfl⟩ := sh1 hB rfl
    have q := h [1] [1] rfl rfl
    simp [btwM, ledM, dot] at q
    rw [q]
  · obtain ⟨a, b, c, d, rfl⟩ := sh2 hA rfl
    obtain ⟨a', b', c', d', rfl⟩ := sh2 hB rfl
    have q1 := h [1, 0] [1, 0] rfl rfl
    have q2 := h [1, 0] [0, 1] rfl rfl
    have q3 := h [0, 1] [1, 0] rfl rfl
    have q4 := h [0, 1] [0, 1] rfl rfl
    simp [btwM, ledM, dot] at q1 q2 q3 q4
    rw [q1, q2, q3, q4]
  · obtain ⟨a, b, c, d, e, f, g, i, j, rfl⟩ := sh3 hA rfl
    obtain ⟨a', b', c', d', e', f', g', i', j', rfl⟩ := sh3 hB rfl
    have q1 := h [1, 0, 0] [1, 0, 0] rfl rfl
    have q2 := h [1, 0, 0] [0, 1, 0] rfl rfl
    have q3 := h [1, 0, 0] [0, 0, 1] rfl rfl
    have q4 := h [0, 1, 0] [1, 0, 0] rfl rfl
    have q5 := h [0, 1, 0] [0, 1, 0] rfl rfl
    have q6 := h [0, 1, 0] [0, 0, 1] rfl rfl
    have q7 := h [0, 0, 1] [1, 0, 0] rfl rfl
    have q8 := h [0, 0, 1] [0, 1, 0] rfl rfl
    have q9 := h [0, 0, 1] [0, 0, 1] rfl rfl
    simp [btwM, ledM, dot] at q1 q2 q3 q4 q5 q6 q7 q8 q9
    rw [q1, q2, q3, q4, q5, q6, q7, q8, q9]
theorem btw_add {n : Nat} {M N : List (List Int)} {xs ys : List Int} (h1 : 1 ≤ n) (h3 : n ≤ 3) (hM : Sh n M) (hN : Sh n N) (hx : xs.length = n) (hy : ys.length = n) : btwM (addM M N) xs ys = btwM M xs ys + btwM N xs ys := by
  have : n = 1 ∨ n = 2 ∨ n = 3 := by omega
  rcases this with rfl | rfl | rfl
  · obtain ⟨a, rfl⟩ := sh1 hM rfl
    obtain ⟨a', rfl⟩ := sh1 hN rfl
    obtain ⟨x, rfl⟩ := len1 hx
    obtain ⟨y, rfl⟩ := len1 hy
    simp [btwM, ledM, addM, dot]
    grind
  · obtain ⟨a, b, c, d, rfl⟩ := sh2 hM rfl
    obtain ⟨a', b', c', d', rfl⟩ := sh2 hN rfl
    obtain ⟨x, x', rfl⟩ := len2 hx
    obtain ⟨y, y', rfl⟩ := len2 hy
    simp [btwM, ledM, addM, dot]
    grind
  · obtain ⟨a, b, c, d, e, f, g, h, i, rfl⟩ := sh3 hM rfl
    obtain ⟨a', b', c', d', e', f', g', h', i', rfl⟩ := sh3 hN rfl
    obtain ⟨x, x', x'', rfl⟩ := len3 hx
    obtain ⟨y, y', y'', rfl⟩ := len3 hy
    simp [btwM, ledM, addM, dot]
    grind
theorem ld_add {n : Nat} {M N P : List (List Int)} (h1 : 1 ≤ n) (h3 : n ≤ 3) (hM : Sh n M) (hN : Sh n N) (hP : Sh n P) : ldM n (addM M N) P = addM (ldM n M P) (ldM n N P) :=
  mat_ext h1 h3 (ld_sh h1 h3 (add_sh hM hN) hP) (add_sh (ld_sh h1 h3 hM hP) (ld_sh h1 h3 hN hP)) fun xs ys hx hy => by
    have l : ∀ zs : List Int, (ledM P zs).length = n := fun zs => by rw [led_len, hP.len]
    rw [btw_led h1 h3 (add_sh hM hN) hP hx hy, btw_add h1 h3 hM hN (l xs) (l ys), btw_add h1 h3 (ld_sh h1 h3 hM hP) (ld_sh h1 h3 hN hP) hx hy, btw_led h1 h3 hM hP hx hy, btw_led h1 h3 hN hP hx hy]
/-- whether a form is a bowl stays when led -/
theorem bowl_led {n : Nat} {M U : List (List Int)} (hM : Sh n M) (sy : transp n M = M) (g : Gr n U) : Bowl n (ldM n M U) ↔ Bowl n M := by
  have sl := ld_sy g.h1 g.h3 hM g.sh sy
  have hl := ld_sh g.h1 g.h3 hM g.sh
  constructor
  · intro h
    by_cases z : Bowl n M
    · exact z
    · exact absurd h (led_nb g.h1 g.h3 hM sy g hl sl z)
  · intro h
    exact pos_bowl g.h3 hl sl (pos_led g.h1 g.h3 hM g.sh g.d (bowl_pos g.h1 g.h3 hM sy h))
/-- squares' lines of any bits -/
theorem sqL_okB {n b : Nat} {M : List (List Int)} (h3 : n ≤ 3) (h : SqE n b M) (hb : b ≤ 150) : ∀ q ∈ sqL n M, OkR n 1000 q := fun q hq => by
  unfold sqL at hq
  obtain ⟨k, hk, rfl⟩ := List.mem_map.mp hq
  have hk := List.mem_range.mp hk
  refine ⟨by show (lnL n M k).length = n; unfold lnL; rw [List.length_map, List.length_range], ?_, fun x hx => ?_⟩
  · exact Wd.abs_mono (Wd.abs_mul (ahd_bits h3 h hk) (dC_bits h3 h hk)) (by omega)
  · have hx : x ∈ lnL n M k := hx
    unfold lnL at hx
    obtain ⟨j, hj, rfl⟩ := List.mem_map.mp hx
    exact Wd.abs_mono (det_bits (by omega) (by omega) (lean_sqe h hk (List.mem_range.mp hj))) (by omega)
end T29
set_option Elab.async false
set_option linter.all false
set_option maxRecDepth 100000
set_option maxHeartbeats 4000000
namespace T29
open PySem PySem.Spec PyProof.Rows L2 Gd Zn Rp Dn Tb Gn En Zs Ct Op Oc Rg Rt Ro Oa
section
variable {P : Program} {w : World} {K : PySem.W.Frag} {mg : Str → Option Value} {base : Heap} {C : Addr}
abbrev st_lrow : Stmt := top 60
theorem sc_lrow : FnScope N_lrow ["_law_pot_here", "_law_size", "_law_most"] (defScope st_lrow) := ⟨rfl, rfl, rfl, by decide +kernel, rfl, by decide +kernel, by decide +kernel⟩
theorem ok_lrow {f : Addr} {fd : FuncData} (F : Fun K "_law_row" "_law_row" st_lrow f fd) (T : Txt mg) (D1 : Def P w K mg base "_law_draw" 1 ["_law_pot_here", "_law_size"] sp_draw) : FnOk P w K mg base CX0 2 f fd ["_law_pot_here", "_law_size", "_law_most"] sp_lrow := by
  refine F.ok sc_lrow (fun vs H Q E h => ?_) (fun cdv A outer s H vs Q E hr h => ?_)
  · obtain ⟨p, n, m, rfl, _⟩ := h
    rfl
  · obtain ⟨p, n, m, rfl, hp, h3, hm, q⟩ := h
    refine ⟨_, pss_one (ps_ret (pe_lc (own := [("_law_place", 3)]) (g := gName 3) (tt := tYes) rfl sc_lrow.nd (pi_range1 (by rfl) T.range (pa_cons (pv 1) pa_nil))
        (blkOk_by (N := N_lrow) (sc := defScope st_lrow) (by decide +kernel)) (fun _ _ _ _ _ => pg_name (i := 3) sc_lrow.nd rfl (Or.inl rfl) (Or.inr rfl)) (fun _ _ _ _ _ => pts_nil)
        (fun _ _ _ _ _ => pe_op op_sub (pe_def (X := Cx.blk _ _ _ _ _ _) D1 hr (pa_cons (pv 0) (pa_cons (pe_op op_add (pe_op op_mul pe_int (pv 2)) pe_int) pa_nil))) (pv 2)))), ?_⟩
    have hh : Has (some p) H := fun q e => by cases e; exact hp
    refine r_ret (tlc_call ?_)
    refine ⟨_, rfl, (n : Int), rfl, by omega, by omega, ?_⟩
    rw [Int.toNat_natCast]
    refine lc_el (p := some p) n (fun i v => ∃ x : Int, v = .int x ∧ -(m : Int) ≤ x ∧ x ≤ m) hh (by omega) (fun i H2 hi s2 => hi) (fun H2 s2 => Nat.le_refl _) (fun i x H2 H3 C' hi s2 hp2 hy hC => ?_) fun Da H2 rs nD s2 hD hrl hE => ?_
    · obtain ⟨rfl, rfl⟩ := hy
      refine ⟨rfl, ?_⟩
      exact ⟨_, rfl, _, rfl, _, _, rfl, rfl, .inl ⟨by decide, by decide⟩, _, _, rfl, rfl, p, _, rfl, hp2 p rfl, by omega, by omega, fun r H4 r0 r1 s4 => ⟨_, rfl, _, _, rfl, rfl, hC _ _ s4 ⟨_, rfl, by omega, by omega⟩⟩⟩
    · have : ∃ xs : List Int, rs = xs.map V.int ∧ ∀ x ∈ xs, -(m : Int) ≤ x ∧ x ≤ m := by
        clear hrl hD
        induction rs with
        | nil => exact ⟨[], rfl, fun x hx => by cases hx⟩
        | cons r rs ih =>
          obtain ⟨x, rfl, hb⟩ := hE 0 r rfl
          obtain ⟨xs, rfl, hbs⟩ := ih fun i v e => hE (i + 1) v e
          refine ⟨x :: xs, rfl, fun y hy => ?_⟩
          rcases List.mem_cons.mp hy with rfl | hy
          · exact hb
          · exact hbs y hy
      obtain ⟨xs, rfl, hb⟩ := this
      exact q Da H2 xs s2 nD hD (by rw [← hrl, List.length_map]) hb
abbrev st_ltold : Stmt := top 62
theorem sc_ltold : FnScope ["_law_rows_here", "_law_row_here"] ["_law_rows_here"] (defScope st_ltold) := ⟨rfl, rfl, rfl, by decide +kernel, rfl, by decide +kernel, by decide +kernel⟩
theorem ok_ltold {f : Addr} {fd : FuncData} (F : Fun K "_law_told" "_law_told" st_ltold f fd) (T : Txt mg) : FnOk P w K mg base CX0 1 f fd ["_law_rows_here"] sp_copied := by
  refine F.ok sc_ltold (fun vs H Q E h => ?_) (fun cdv A outer s H vs Q E hr h => ?_)
  · obtain ⟨v, d, M, rfl, _⟩ := h
    rfl
  · obtain ⟨v, d, M, rfl, av, ⟨g1, g2, g3⟩, hb, q⟩ := h
    refine ⟨_, pss_one (ps_ret (pe_callTy (r := rTup K) c_tup (by rfl) T.tuple PyProof.Rows.boot_tuple (pa_cons (pe_lc (own := [("_law_row_here", 1)]) (g := gName 1) (tt := tYes) rfl sc_ltold.nd (pi_seq (pv 0))
        (blkOk_by (N := ["_law_rows_here", "_law_row_here"]) (sc := defScope st_ltold) (by decide +kernel))
        (fun _ _ _ _ _ => pg_name (i := 1) sc_ltold.nd rfl (Or.inl rfl) (Or.inr rfl)) (fun _ _ _ _ _ => pts_nil)
        (fun _ _ _ _ _ => pe_callTy (r := rTup K) c_tup (by rfl) T.tuple PyProof.Rows.boot_tuple (pa_cons (pv 1) pa_nil))) pa_nil))), ?_⟩
    obtain ⟨t, a, vx, rfl, qx, px⟩ := (seq_of av g1).at K
    have hvl : vx.length = M.length := by rw [pyVs_len px]; exact g2
    refine r_ret (r_cb (r_cons ?_))
    refine tlc_of (Its t K a) (H1 := H) (fun R hR => ⟨_, rfl, t, a, vx, rfl, qx H (Same.refl H), hR⟩) ?_
    refine lc_ks (p := none) M.length (fun i v H => ∃ r, M[i]? = some r ∧ RowV H v r) (fun i v H H' k h => ?_) has_none (by omega) (fun i H2 hi s2 => ?_) (fun H2 s2 => ?_) (fun i x H2 H3 C hi s2 _ hy hC => ?_) fun Da H2 rs nD s2 hD hrl hE => ?_
    · obtain ⟨r, e, h⟩ := h
      exact ⟨r, e, h.mono k⟩
    · exact its_go (qx H2 s2.same) (List.getElem?_eq_getElem (by rw [hvl]; exact hi))
    · exact its_stop (qx H2 s2.same) (by rw [hvl]; exact Nat.le_refl _)
    · obtain ⟨rfl, ex⟩ := its_yld hy (qx H2 s2.same)
      obtain ⟨d', ed, pd⟩ := pyVs_get px ex
      obtain ⟨r, er, hd⟩ := g3 i d' ed
      refine ⟨rfl, ?_⟩
      refine r_cb (r_cons ?_)
      refine ⟨_, rfl, ?_⟩
      rcases hd with rfl | rfl
      · cases pd with
        | lst e p =>
          have ez := pyVs_ints p
          subst ez
          exact ⟨_, _, rfl, .inl ⟨.inl (.inl (s2.same _ _ e)), fun l nl => hC _ _ (RX.new nl) ⟨r, er, l, rfl, upd_same⟩⟩⟩
      · cases pd with
        | tup e p =>
          have ez := pyVs_ints p
          subst ez
          exact ⟨_, _, rfl, .inr ⟨.inl (.inl (s2.same _ _ e)), hC _ _ (RX.refl _) ⟨r, er, _, rfl, s2.same _ _ e⟩⟩⟩
    · refine ⟨Da, rs, rfl, .inl ⟨.inl (.inl hD), fun l nl => ?_⟩⟩
      have k : Same H2 (upd H2 l (.tup rs)) := same_new nl
      refine q _ _ (s2.same.trans k) ⟨l, rs, rfl, upd_same, ?_⟩
      exact (rows_of hrl hE).mono (KS.of k)
end
end T29
set_option Elab.async false
set_option linter.all false
set_option maxRecDepth 100000
set_option maxHeartbeats 4000000
namespace T29
open PySem PySem.Spec PyProof.Rows L2 Gd Zn Rp Dn Tb Gn En Zs Ct Op Oc Rg Rt Ro Oa Pw
theorem wt_le {ps : List (Int × List Int)} {p : Int × List Int} (h : p ∈ ps) (h1 : ∀ p ∈ ps, 1 ≤ p.1) : (wtP ps p).natAbs ≤ (prodP ps).natAbs := by
  obtain ⟨q, q0, e⟩ := prod_dvd h h1
  unfold wtP
  have p1 := h1 p h
  rw [t0 (by omega) e, e, Int.natAbs_mul]
  exact Nat.le_mul_of_pos_left _ (by omega)
theorem prod_b {ps : List (Int × List Int)} {k : Nat} : ∀ (ps : List (Int × List Int)), (∀ p ∈ ps, p.1.natAbs < 2 ^ k) → (prodP ps).natAbs < 2 ^ (k * ps.length + 1)
  | [], _ => by show (1 : Int).natAbs < 2 ^ 1; decide
  | p :: ps, h => by
    rw [prod_cons]
    exact Wd.abs_mono (Wd.abs_mul (h p List.mem_cons_self) (prod_b (ps := ps) ps fun q hq => h q (List.mem_cons_of_mem _ hq))) (by rw [List.length_cons, Nat.mul_succ]; omega)
def sqS (ps : List (Int × List Int)) (xs : List Int) : Int := (ps.map fun p => wtP ps p * (dot p.2 xs) ^ 2).sum
theorem sqS_worth {n : Nat} {M : List (List Int)} {ps : List (Int × List Int)} (h1 : 1 ≤ n) (h3 : n ≤ 3) (hM : Sh n M) (l : ∀ p ∈ ps, p.2.length = n) (hs : addsB n M ps = true) (xs : List Int) (hx : xs.length = n) : sqS ps xs = prodP ps * btwM M xs xs := by
  rw [Int.mul_comm, fit_worth h1 h3 hM l hs xs hx]
  unfold sqS
  refine congrArg List.sum (List.map_congr_left fun p _ => ?_)
  rw [Int.pow_succ, Int.pow_succ, Int.pow_zero, Int.one_mul]
  exact Int.mul_comm _ _
section
variable {P : Program} {w : World} {K : PySem.W.Frag} {mg : Str → Option Value} {base : Heap} {C : Addr}
abbrev st_lw : Stmt := top 63
abbrev N_lw : List Str := ["_law_value", "_law_row_here", "_law_whole", "_law_bottom", "_law_line", "_law_at"]
theorem sc_lw : FnScope N_lw ["_law_value", "_law_row_here"] (defScope st_lw) := ⟨rfl, rfl, rfl, by decide +kernel, rfl, by decide +kernel, by decide +kernel⟩
def sp_lw : Sp := fun vs H Q _ => ∃ (D r : Addr) (rs : List V) (ps : List (Int × List Int)) (xs : List Int) (n : Nat), vs = [.ref D, .ref r] ∧ H D = some (.lst rs) ∧ H r = some (.lst (xs.map V.int)) ∧ rs.length = n ∧ ps.length = n ∧ xs.length = n ∧ n ≤ 3 ∧ (∀ (i : Nat) (v : V) (q : Int × List Int), rs[i]? = some v → ps[i]? = some q → SquV H v q.1 q.2) ∧
  (∀ q ∈ ps, q.2.length = n ∧ 1 ≤ q.1 ∧ q.1.natAbs < 2 ^ 1000 ∧ Rb 1000 q.2) ∧ Rb 100 xs ∧ ∀ t H', Same H H' → H' t = some (.tup [.int (sqS ps xs), .int (prodP ps)]) → Q (.ref t) H'
theorem ok_lw {f : Addr} {fd : FuncData} (F : Fun K "_law_worth" "_law_worth" st_lw f fd) (T : Txt mg) : FnOk P w K mg base CX0 1 f fd ["_law_value", "_law_row_here"] sp_lw := by
  refine F.ok sc_lw (fun vs H Q E h => ?_) (fun cdv A outer s H vs Q E hr h => ?_)
  · obtain ⟨D, r, rs, ps, xs, n, rfl, _⟩ := h
    rfl
  · obtain ⟨D, r, rs, ps, xs, n, rfl, hD, hr0, lrs, lps, lx, h3, hsq, okp, bx, q⟩ := h
    refine ⟨_, pss_cons (ps_set (i := 2) sc_lw.nd rfl (Or.inr rfl) pe_int)
      (pss_cons (ps_for PassesOwn.never rfl (pi_seq (pv 0)) (pg_tup rfl (pgs_cons (pg_name (i := 3) sc_lw.nd rfl (Or.inl rfl)) (pgs_cons (pg_name (i := 4) sc_lw.nd rfl (Or.inl rfl)) pgs_nil)))
        (pss_one (ps_set (i := 2) sc_lw.nd rfl (Or.inr rfl) (pe_op op_mulX (pv 2) (pv 3)))))
      (pss_one (ps_ret (pe_tup (pa_cons (pe_callB (r := rSum K) (cr_sum rfl) (by rfl) T.sum boot_sum (pa_cons (pe_lc (own := [("_law_bottom", 3), ("_law_line", 4)]) (g := gTup K 2 (gCons (gName 3) (gCons (gName 4) gNil))) (tt := tYes)
          (te := tOp (rI CMulX fun i j => .int (i * j)) (tOp (rI CDivW fun i j => .int (i / j)) (tVar 2) (tVar 3)) (tOp (rI CPowW fun i j => .int (i ^ j.toNat)) (tCB (rSum K) (tCons (tLc (iRng1 (tCons (tCB (Dn.rLen K) (tCons (tVar 1) tNil)) tNil)) (gName 5) tYes (tOp (rI CMulX fun i j => .int (i * j)) (tOp (rIxS2 K) (tVar 4) (tVar 5)) (tOp (rIxS2 K) (tVar 1) (tVar 5))) [5]) tNil)) (tC (.int 2)))) rfl sc_lw.nd (pi_seq (pv 0))
          (blkOk_by (N := N_lw) (sc := defScope st_lw) (by decide +kernel)) (fun _ _ _ _ _ => pg_tup rfl (pgs_cons (pg_name (i := 3) sc_lw.nd rfl (Or.inl rfl) (Or.inr rfl)) (pgs_cons (pg_name (i := 4) sc_lw.nd rfl (Or.inr rfl) (Or.inl rfl)) pgs_nil))) (fun _ _ _ _ _ => pts_nil)
          (fun s' H' C' cl' fp' => by
            refine pe_op op_mulX (pe_op op_fdivW (pv 2) (pv 3)) (pe_op op_powW (pe_callB (r := rSum K) (cr_sum rfl) (by rfl) T.sum boot_sum (pa_cons ?b pa_nil)) pe_int)
            case b =>
              refine pe_lc (own := [("_law_at", 5)]) (wi := iRng1 (tCons (tCB (Dn.rLen K) (tCons (tVar 1) tNil)) tNil)) (g := gName 5) (tt := tYes) (te := tOp (rI CMulX fun i j => .int (i * j)) (tOp (rIxS2 K) (tVar 4) (tVar 5)) (tOp (rIxS2 K) (tVar 1) (tVar 5))) rfl sc_lw.nd ?p1 ?p2 ?p3 ?p4 ?p5
              case p1 => exact pi_range1 (by rfl) T.range (pa_cons (pe_callB (r := Dn.rLen K) c_len (by rfl) T.len PySem.boot_len (pa_cons (pv 1) pa_nil)) pa_nil)
              case p2 => exact blkOk_by (N := N_lw) (by rfl)
              case p3 => exact (fun _ _ _ _ _ => pg_name (i := 5) sc_lw.nd rfl (Or.inl rfl) (Or.inr rfl))
              case p4 => exact (fun _ _ _ _ _ => pts_nil)
              case p5 => exact (fun _ _ _ _ _ => pe_op op_mulX (pe_ix (r := rIxS2 K) ix_sq (pv 4) (pv 5) (fun _ _ => rfl)) (pe_ix (r := rIxS2 K) ix_sq (pv 1) (pv 5) (fun _ _ => rfl))))) pa_nil)) (pa_cons (pv 2) pa_nil)))))), ?_⟩
    have qD : ∀ H', Same H H' → SqV K H' false D rs := fun H' t => .inl (.inl (t _ _ hD))
    have qr : ∀ H', Same H H' → SqV K H' false r (xs.map V.int) := fun H' t => .inl (.inl (t _ _ hr0))
    have ok1 : ∀ p ∈ ps, 1 ≤ p.1 := fun p hp => (okp p hp).2.1
    have pb : (prodP ps).natAbs < 2 ^ 3001 := Wd.abs_mono (prod_b (ps := ps) ps fun p hp => (okp p hp).2.2.1) (by rw [lps]; omega)
    have item : ∀ i, i < n → ∃ t c p, rs[i]? = some (.ref t) ∧ ps[i]? = some p ∧ p ∈ ps ∧ (∀ G, Same H G → G t = some (.tup [.int p.1, .ref c])) ∧ ∀ G, Same H G → G c = some (.tup (p.2.map V.int)) := fun i hi => by
      have er : rs[i]? = some (rs[i]'(by omega)) := List.getElem?_eq_getElem _
      have ep : ps[i]? = some (ps[i]'(by omega)) := List.getElem?_eq_getElem _
      obtain ⟨t, c, e, e1, e2⟩ := hsq i _ _ er ep
      exact ⟨t, c, _, by rw [er, e], ep, List.mem_of_getElem? ep, fun G s => s _ _ e1, fun G s => s _ _ e2⟩
    refine r_seq (r_asg (r_next (r_nseq (r_forS ⟨_, rfl, false, D, rs, rfl, qD _ (Same.refl _), ?_⟩))))
    refine for_by n (fun i σ H' => ∃ x3 x4, σ = [some (.ref D), some (.ref r), some (.int (prodP (ps.take i))), x3, x4, none] ∧ H' = H) ⟨_, _, rfl, rfl⟩ (fun i σ H' hi hP => ?_) (fun σ H' hP => ?_) (fun i x σ Ha Hb hi hP hy => ?_) (fun σ H' hP => ?_)
    · obtain ⟨_, _, _, rfl⟩ := hP
      exact its_go (qD _ (Same.refl _)) (List.getElem?_eq_getElem (by omega))
    · obtain ⟨_, _, _, rfl⟩ := hP
      exact its_stop (qD _ (Same.refl _)) (by omega)
    · obtain ⟨x3, x4, rfl, rfl⟩ := hP
      obtain ⟨rfl, ex⟩ := its_yld hy (qD _ (Same.refl _))
      obtain ⟨t, c, p, e1, e2, mp, e3, e4⟩ := item i hi
      rw [e1] at ex
      cases ex
      refine ⟨t, _, rfl, .inl (.inl (e3 _ (Same.refl _))), rfl, _, _, rfl, _, _, rfl, rfl, ?_⟩
      have pbi : (prodP (ps.take i)).natAbs < 2 ^ 3001 := Wd.abs_mono (prod_b (ps := ps) (ps.take i) fun p hp => (okp p (List.mem_of_mem_take hp)).2.2.1) (by rw [List.length_take]; omega)
      refine r_asg (r_op ⟨_, rfl, _, rfl, _, _, rfl, rfl, Wd.mulW ⟨3001, by decide, pbi⟩ ⟨1000, by decide, (okp p mp).2.2.1⟩, ?_⟩)
      refine ⟨some (.int p.1), some (.ref c), ?_, rfl⟩
      have hi' : i < ps.length := by omega
      rw [prod_take hi']
      rw [List.getElem?_eq_getElem hi'] at e2
      cases e2
      rfl
    · obtain ⟨x3, x4, rfl, rfl⟩ := hP
      rw [List.take_of_length_le (by omega)]
      refine r_nret (r_tup (r_cons (r_cb (r_cons (tlc_call ⟨_, rfl, false, D, rs, rfl, qD _ (Same.refl _), ?_⟩)))))
      refine lc_el (p := none) n (fun i v => ∃ p, ps[i]? = some p ∧ v = .int (wtP ps p * (dot p.2 xs) ^ 2)) has_none (by omega) (fun i H2 hi s2 => its_go (qD _ s2.same) (List.getElem?_eq_getElem (by omega))) (fun H2 s2 => its_stop (qD _ s2.same) (by omega)) (fun i x H2 H3 C' hi s2 _ hy hC => ?_) fun D2 H2 us nD2 s2 hD2 hul huE => ?_
      · obtain ⟨rfl, ex⟩ := its_yld hy (qD _ s2.same)
        obtain ⟨t, c, p, e1, e2, mp, e3, e4⟩ := item i hi
        rw [e1] at ex
        cases ex
        have e4 := e4 _ s2.same
        obtain ⟨l2, o1, o2, o3⟩ := okp p mp
        refine ⟨t, _, rfl, .inl (.inl (e3 _ s2.same)), rfl, _, _, rfl, _, _, rfl, rfl, rfl, ?_⟩
        refine r_op (r_op ⟨_, rfl, _, rfl, _, _, rfl, rfl, wide_div (by omega) o2 (by decide) (by decide), r_op (r_cb (r_cons (tlc_call ⟨_, rfl, r, _, rfl, .inl (.inl (.inl (s2.same _ _ hr0))), (n : Int), by rw [List.length_map, lx], by omega, by omega, ?_⟩)))⟩)
        rw [Int.toNat_natCast]
        refine lc_el (p := none) n (fun j v => v = .int (p.2.getD j 0 * xs.getD j 0)) has_none (by omega) (fun j H4 hj s4 => hj) (fun H4 s4 => Nat.le_refl _) (fun j x H4 H5 C2 hj s4 _ hy2 hC2 => ?_) fun D3 H4 ws nD3 s4 hD3 hwl hwE => ?_
        · obtain ⟨rfl, rfl⟩ := hy2
          rw [show (0 : Int) + (j : Int) = (j : Int) by omega]
          have s5 := s2.same.trans s4.same
          refine ⟨rfl, r_op (r_op ⟨_, rfl, _, rfl, true, c, _, _, _, rfl, rfl, .inl (.inl (s4.same _ _ e4)), ixL (by omega), ?_⟩)⟩
          exact ⟨_, rfl, _, rfl, false, r, _, _, _, rfl, rfl, qr _ s5, ixL (by omega), _, _, rfl, rfl, Wd.mulW ⟨1000, by decide, rb_get o3 (by omega)⟩ ⟨100, by decide, rb_get bx (by omega)⟩, hC2 _ _ (RX.refl _) rfl⟩
        · have ew : ws = ((List.range n).map fun j => p.2.getD j 0 * xs.getD j 0).map V.int := by
            rw [List.map_map]
            refine map_of_get (n := 0) _ (by rw [hwl, List.length_range]) fun j v e => ?_
            have hj : j < n := by rw [← hwl]; exact (List.getElem?_eq_some_iff.mp e).1
            exact ⟨j, List.getElem?_range hj, hwE j v e⟩
          subst ew
          refine ⟨D3, _, rfl, SqL.of hD3, ?_⟩
          rw [dot_range l2 lx h3]
          have db : (dot p.2 xs).natAbs < 2 ^ 1102 := dot_rb o3 bx (by omega) (by omega)
          have db2 : ((dot p.2 xs) ^ (2 : Int).toNat).natAbs < 2 ^ 2204 := by
            show ((dot p.2 xs) ^ 2).natAbs < _
            rw [Int.pow_succ, Int.pow_succ, Int.pow_zero, Int.one_mul]
            exact Wd.abs_mul db db
          refine ⟨_, _, rfl, rfl, ⟨rfl, Wd.abs_mono db (by decide)⟩, _, _, rfl, rfl, Wd.mulW ⟨3001, by decide, Nat.lt_of_le_of_lt (wt_le mp ok1) pb⟩ ⟨2204, by decide, db2⟩, hC _ _ s4 ⟨p, e2, rfl⟩⟩
      have eu : us = (ps.map fun p => wtP ps p * (dot p.2 xs) ^ 2).map V.int := by
        rw [List.map_map]
        exact map_of_get (n := 0) _ (by rw [hul, lps]) huE
      subst eu
      refine ⟨D2, _, rfl, SqL.of hD2, ⟨_, rfl, (by show 2 ≤ sizeLine; decide), fun t nt => ?_⟩⟩
      exact q t _ (s2.same.trans (same_new nt)) upd_same
end
end T29
set_option Elab.async false
set_option linter.all false
set_option maxRecDepth 100000
set_option maxHeartbeats 8000000
namespace T29
open PySem PySem.Spec PyProof.Rows L2 Gd Zn Rp Dn Tb Gn En Zs Ct Op Oc Rg Rt Ro Oa Pw
theorem eqv_self_row (r : List Int) : (PyData.tuple (r.map PyData.int)).eqv (.tuple (r.map PyData.int)) = true := by
  rw [PyData.eqv, eqv_row, decide_eq_true rfl]
/-- four things told are compared: alike -/
theorem r_ne4 {K : PySem.W.Frag} {H : Hp} {a b pa pb : Addr} {r : List Int} {x y : Int} {c : Bool} {Q : VK} (ha : H a = some (.lst [.ref pa, .int x, .int y, .bl c])) (hb : H b = some (.lst [.ref pb, .int x, .int y, .bl c])) (hp : H pa = some (.tup (r.map V.int))) (hq : H pb = some (.tup (r.map V.int))) (q : Q (.bl false) H) : rNeD K (.ref a) (.ref b) H Q := by
  have sh : SeqAt.shaped (.list [.tuple (r.map PyData.int), .int x, .int y, .bool c]) = true := by
    unfold SeqAt.shaped
    simp only [PyData.canLay0, PyData.canLayAll0, PyData.depth, PyData.depthAll, lay_row, depth_row, Bool.and_true, Bool.true_and]
    decide
  refine ⟨.list [.tuple (r.map PyData.int), .int x, .int y, .bool c], .list [.tuple (r.map PyData.int), .int x, .int y, .bool c], .lst (.inl (.inl ha)) (.cons (.tup (.inl (.inl hp)) (dp_ints r)) (.cons (.int x) (.cons (.int y) (.cons (.bl c) .nil)))), .lst (.inl (.inl hb)) (.cons (.tup (.inl (.inl hq)) (dp_ints r)) (.cons (.int x) (.cons (.int y) (.cons (.bl c) .nil)))), sh, sh, ?_⟩
  have e : (PyData.list [.tuple (r.map PyData.int), .int x, .int y, .bool c]).eqv (.list [.tuple (r.map PyData.int), .int x, .int y, .bool c]) = true := by
    rw [PyData.eqv, PyData.eqvAll, PyData.eqvAll, PyData.eqvAll, PyData.eqvAll, PyData.eqvAll, eqv_self_row]
    simp [PyData.eqv]
  rw [e]
  exact q
section
variable {P : Program} {w : World} {K : PySem.W.Frag} {mg : Str → Option Value} {base : Heap} {C F : Addr}
abbrev st_wr : Stmt := top 64
abbrev N_wr : List Str := ["_law_pot_here", "_law_form", "_law_tables", "_law_here", "_law_whole", "_law_size", "_law_held", "_law_turn", "_law_table_here", "_law_row_here", "_law_told_here", "_law_worth_here", "_law_below", "_law_one"]
theorem sc_wr : FnScope N_wr ["_law_pot_here", "_law_form", "_law_tables"] (defScope st_wr) := ⟨rfl, rfl, rfl, by decide +kernel, rfl, by decide +kernel, by decide +kernel⟩
def sp_wy (F C : Addr) : Sp := fun vs H Q _ => ∃ (p Dt : Addr) (f t1 t2 : V) (M U1 U2 : List (List Int)) (n : Nat), vs = [.ref p, f, .ref Dt] ∧ PotOk H p ∧ Fv F H f n 3 M ∧ Dt ≠ p ∧ H Dt = some (.lst [t1, t2]) ∧ Tv C H t1 n 5 U1 ∧ Tv C H t2 n 5 U2 ∧ ∀ H', RX (some p) H H' → Q (.bl true) H'
theorem ok_wr {f : Addr} {fd : FuncData} (F' : Fun K "_law_way_right" "_law_way_right" st_wr f fd) (T : Txt mg) (Fc : Fcl K mg F) (Tc : Tcl K mg C) (D1 : Def P w K mg base "idle" 10 ["size"] (sp_idle C)) (D2 : Def P w K mg base "signs" 9 ["form"] (sp_sg F)) (D3 : Def P w K mg base "is_bowl" 9 ["form"] (sp_bowl F)) (D4 : Def P w K mg base "_law_pick" 2 ["_law_pot_here", "_law_some"] sp_pick)
    (D5 : Def P w K mg base "_law_row" 2 ["_law_pot_here", "_law_size", "_law_most"] sp_lrow) (D6 : Def P w K mg base "pit" 9 ["form"] (sp_pit F)) (D7 : Def P w K mg base "is_pit" 7 ["form", "value"] (sp_isp F)) (D8 : Def P w K mg base "squares" 9 ["form"] (sp_sqa F)) (D9 : Def P w K mg base "is_squares" 5 ["form", "value"] (sp_isq F)) (D10 : Def P w K mg base "_law_worth" 1 ["_law_value", "_law_row_here"] sp_lw)
    (P1 : Prp P w K mg base F "size" 1 (sp_size F)) (P2 : Prp P w K mg base F "determinant" 8 (sp_detP F)) (DV : Mtd P w K mg base F "divisor" 1 ["self"] (sp_dv F)) (DL : Mtd P w K mg base F "led" 10 ["self", "table"] (sp_led F C)) (DW : Mtd P w K mg base F "worth" 6 ["self", "row"] (sp_worth F))
    (DU : Mtd P w K mg base C "undone" 10 ["self"] (sp_undone C)) (DLd : Mtd P w K mg base C "lead" 5 ["self", "row"] (sp_lead C)) (DM : MulP P w K mg base C) (DE : EqP P w K mg base F) :
    FnOk P w K mg base CX0 11 f fd ["_law_pot_here", "_law_form", "_law_tables"] (sp_wy F C) := by
  refine F'.ok sc_wr (fun vs H Q E h => ?_) (fun cdv A outer s H vs Q E hr h => ?_)
  · obtain ⟨p, Dt, f, t1, t2, M, U1, U2, n, rfl, _⟩ := h
    rfl
  · obtain ⟨p, Dt, f, t1, t2, M, U1, U2, n, rfl, hp, fv, Dtp, hDt, tv1, tv2, q⟩ := h
    obtain ⟨fL, fdL, mL, GL', bL⟩ := DL.ex
    obtain ⟨fV, fdV, mV, GV, bV⟩ := DV.ex
    obtain ⟨fW, fdW, mW, GW, bW⟩ := DW.ex
    obtain ⟨fU, fdU, mU, GU, bU⟩ := DU.ex
    obtain ⟨fD, fdD, mD, GD, bD⟩ := DLd.ex
    have hr10 : Room 10 _ := hr
    have hr1 : Room 1 _ := hr10.mono (by decide)
    have hr5 : Room 5 _ := hr10.mono (by decide)
    have hr6 : Room 6 _ := hr10.mono (by decide)
    refine ⟨_, pss_cons (ps_par3 (i := 3) (j := 4) (l := 5) rfl sc_wr.nd rfl rfl rfl (by decide) (by decide) (by decide) rfl rfl rfl (pa_cons (pv 1) (pa_cons (pe_def D1 hr (pa_cons (pe_prp P1 Fc.cl hr (pv 1)) pa_nil)) (pa_cons (pe_prp P1 Fc.cl hr (pv 1)) pa_nil))) (by rfl))
      (pss_cons (ps_set (i := 6) sc_wr.nd rfl (Or.inl rfl) (pe_lst (pa_cons (pe_def D2 hr (pa_cons (pv 1) pa_nil)) (pa_cons (pe_prp P2 Fc.cl hr (pv 1)) (pa_cons (pe_meth0 (pv 1) Fc.cl mV GV hr1 bV .nil pass0) (pa_cons (pe_def D3 hr (pa_cons (pv 1) pa_nil)) pa_nil))))))
      (pss_cons (ps_for PassesOwn.never rfl (pi_range1 (by rfl) T.range (pa_cons pe_int pa_nil)) (pg_name (i := 7) sc_wr.nd rfl (Or.inl rfl))
        (pss_cons (ps_set (i := 8) sc_wr.nd rfl (Or.inl rfl) (pe_def D4 hr (pa_cons (pv 0) (pa_cons (pe_op (r := L2.rCat) op_cat (pv 2) (pe_lc (own := [("_law_one", 13)]) (g := gName 13) (tt := tYes) rfl sc_wr.nd (pi_seq (pv 2)) (blkOk_by (N := N_wr) (sc := defScope st_wr) (by decide +kernel)) (fun _ _ _ _ _ => pg_name (i := 13) sc_wr.nd rfl (Or.inl rfl) (Or.inr rfl)) (fun _ _ _ _ _ => pts_nil)
            (fun _ _ _ _ _ => pe_meth0 (X := Cx.blk _ _ _ _ _ _) (pv 13) Tc.cl mU GU hr10 bU .nil pass0))) pa_nil))))
        (pss_cons (ps_par (i := 3) (j := 4) rfl sc_wr.nd rfl rfl (by decide) rfl rfl (pa_cons (pe_meth (pv 3) Fc.cl mL GL' hr10 bL .nil pass0 (pa_cons (pv 8) pa_nil)) (pa_cons (pe_mulT DM hr (pv 4) (pv 8)) pa_nil)) (by rfl))
        (pss_cons (ps_if (PW.pt (pw_or (pt_cmpR (opNe DE hr) (pv 3) (pe_meth (pv 1) Fc.cl mL GL' hr10 bL .nil pass0 (pa_cons (pv 4) pa_nil)) (nomark _)) (pw_or1 (pt_cmpR (opNe DE hr) (pe_meth (pv 3) Fc.cl mL GL' hr10 bL .nil pass0 (pa_cons (pe_meth0 (pv 4) Tc.cl mU GU hr10 bU .nil pass0) pa_nil)) (pv 1) (nomark _))))) pss_dead pss_nil)
        (pss_cons (ps_if (pt_cmpR (op_neD hr.units) (pe_lst (pa_cons (pe_def D2 hr (pa_cons (pv 3) pa_nil)) (pa_cons (pe_prp P2 Fc.cl hr (pv 3)) (pa_cons (pe_meth0 (pv 3) Fc.cl mV GV hr1 bV .nil pass0) (pa_cons (pe_def D3 hr (pa_cons (pv 3) pa_nil)) pa_nil))))) (pv 6) (nomark _)) pss_dead pss_nil)
        (pss_cons (ps_set (i := 9) sc_wr.nd rfl (Or.inl rfl) (pe_def D5 hr (pa_cons (pv 0) (pa_cons (pv 5) (pa_cons pe_int pa_nil)))))
        (pss_cons (ps_if (pt_cmpR op_ne (pe_meth (pv 3) Fc.cl mW GW hr6 bW .nil pass0 (pa_cons (pv 9) pa_nil)) (pe_meth (pv 1) Fc.cl mW GW hr6 bW .nil pass0 (pa_cons (pe_meth (pv 4) Tc.cl mD GD hr5 bD .nil pass0 (pa_cons (pv 9) pa_nil)) pa_nil)) (nomark _)) pss_dead pss_nil)
        (pss_cons (ps_set (i := 10) sc_wr.nd rfl (Or.inl rfl) (pe_def D6 hr (pa_cons (pv 3) pa_nil)))
        (pss_cons (ps_if (PW.pt (pw_or (pt_cmpR op_ne (pe_cmpR op_isN (pv 10) pe_non (nomark _)) (pe_ix (r := rIxS2 K) ix_sq (pv 6) pe_int (fun _ _ => rfl)) (nomark _)) (pw_or1 (PW.pt (pw_and (pt_cmpR op_notN (pv 10) pe_non (nomark _)) (pw_and1 (pt_cmpR op_isnB (pe_def D7 hr (pa_cons (pv 1) (pa_cons (pe_meth (pv 4) Tc.cl mD GD hr5 bD .nil pass0 (pa_cons (pv 10) pa_nil)) pa_nil))) pe_bl (nomark _)))))))) pss_dead pss_nil)
        (pss_one (ps_if (pt_cmpR op_isN (pv 10) pe_non (nomark _))
          (pss_cons (ps_asg (pe_def D10 hr (pa_cons (pe_def D8 hr (pa_cons (pv 3) pa_nil)) (pa_cons (pv 9) pa_nil))) (pg_tup rfl (pgs_cons (pg_name (i := 11) sc_wr.nd rfl (Or.inl rfl)) (pgs_cons (pg_name (i := 12) sc_wr.nd rfl (Or.inl rfl)) pgs_nil))))
          (pss_one (ps_if (PW.pt (pw_or (pt_cmpR op_ne (pv 11) (pe_op op_mulX (pv 12) (pe_meth (pv 3) Fc.cl mW GW hr6 bW .nil pass0 (pa_cons (pv 9) pa_nil))) (nomark _)) (pw_or1 (pt_cmpR op_isnB (pe_def D9 hr (pa_cons (pv 3) (pa_cons (pe_def D8 hr (pa_cons (pv 3) pa_nil)) pa_nil))) pe_bl (nomark _))))) pss_dead pss_nil))) pss_nil)))))))))))
      (pss_one (ps_ret pe_bl)))), ?_⟩
    have h1 := fv.h1
    have h3 := fv.h3
    have hM := fv.bd.sh
    have sy := fv.eq
    have hh : Has (some p) H := fun q e => by cases e; exact hp
    refine r_seq (r_par3 (r_cons ⟨_, rfl, r_cons (a1 (r_prop ⟨_, rfl, p_size fv.tab ?_⟩))⟩))
    rw [fv.len]
    refine c_idle h1 h3 fun d0 H1 s1 tv0 => ?_
    refine r_cons (r_prop ⟨_, rfl, p_size (fv.same s1).tab ⟨_, _, _, rfl, ?_⟩⟩)
    rw [fv.len]
    -- held
    refine r_next (r_nseq (r_asg (r_lst (r_cons (a1 ⟨_, rfl, f, M, n, 3, rfl, fv.same s1, by decide, fun pf H2 z s2 hz hpf => ?_⟩)))))
    refine r_cons (r_prop ⟨_, rfl, p_det ((fv.same s1).same s2).tab (fv.bd.sq (by decide)) h3 fun H3 s3 => ?_⟩)
    refine r_cons (r_meth0 ⟨_, rfl, mth (((fv.same s1).same s2).same s3).tab ⟨f, M, n, 3, rfl, ((fv.same s1).same s2).same s3, fun H4 s4 => ?_⟩⟩)
    have s14 := s1.trans (s2.trans (s3.trans s4))
    refine r_cons (a1 ⟨_, rfl, f, M, n, 3, rfl, fv.same s14, by decide, fun H5 s5 => ⟨(by show 4 ≤ sizeLine; decide), fun Dh nDh => ?_⟩⟩)
    have s56 := same_new (o := .lst [.ref pf, .int (detM n M), .int (dvM M : Int), .bl (decide (Bowl n M))]) nDh
    have hDh : upd H5 Dh (.lst [.ref pf, .int (detM n M), .int (dvM M : Int), .bl (decide (Bowl n M))]) Dh = some (.lst [.ref pf, .int (detM n M), .int (dvM M : Int), .bl (decide (Bowl n M))]) := upd_same
    generalize upd H5 Dh (.lst [.ref pf, .int (detM n M), .int (dvM M : Int), .bl (decide (Bowl n M))]) = H6 at s56 hDh
    have hpf6 := ((s3.trans s4).trans (s5.trans s56)) _ _ hpf
    have s06 := s14.trans (s5.trans s56)
    have hp6 := (RX.of (p := some p) s06).pot p rfl hp
    have hh6 : Has (some p) H6 := fun q e => by cases e; exact hp6
    have neP : ∀ (c : Addr) (xs : List V), H6 c = some (.tup xs) → some p ≠ some c := fun c xs e z => by
      cases z
      obtain ⟨x, y, e', _⟩ := hp6
      rw [e] at e'
      cases e'
    have pfne := neP pf _ hpf6
    have Dhne : some p ≠ some Dh := fun z => by
      cases z
      obtain ⟨x, y, e', _⟩ := hp6
      rw [hDh] at e'
      cases e'
    have Dtne : some p ≠ some Dt := fun z => Dtp (by cases z; rfl)
    have fv6 := fv.same s06
    have tva := tv1.same s06
    have tvb := tv2.same s06
    have hDt6 := s06 _ _ hDt
    -- the way
    refine r_next (r_nseq ⟨(5 : Int), rfl, by decide, by decide, ?_⟩)
    rw [show (5 : Int).toNat = 5 from rfl]
    refine for_range (lo := 0) (n := 5) (fun i σ H' => ∃ hv wv W x7 x8 x9 x10 x11 x12, σ = [some (.ref p), some f, some (.ref Dt), some hv, some wv, some (.int (n : Nat)), some (.ref Dh), x7, x8, x9, x10, x11, x12, none] ∧ RX (some p) H6 H' ∧ Fv F H' hv n (3 + 26 * i) (ldM n M W) ∧ Tv C H' wv n (1 + 13 * i) W) ⟨f, .ref d0, unitM n, _, _, _, _, _, _, rfl, RX.refl _, by rw [ld_unit h1 h3 hM]; exact fv6, tv0.same (s2.trans (s3.trans (s4.trans (s5.trans s56))))⟩ (fun i σ G0 hi hP => ?_) (fun σ G0 hP => ?_)
    · obtain ⟨hv, wv, W, x7, x8, x9, x10, x11, x12, rfl, S0, fh, tw⟩ := hP
      have hpG := S0.pot p rfl hp6
      have hhG : Has (some p) G0 := fun q e => by cases e; exact hpG
      have k0 := KS.rx S0 hh6
      have tva0 := tva.ks k0
      have tvb0 := tvb.ks k0
      have hDt0 := S0.keep Dt _ Dtne hDt6
      have qDt : ∀ H', Same G0 H' → SqV K H' false Dt [t1, t2] := fun H' s => .inl (.inl (s _ _ hDt0))
      -- a table picked
      refine r_seq (r_asg (a2 ⟨_, rfl, r_op ⟨_, rfl, tlc_call ⟨_, rfl, false, Dt, _, rfl, qDt _ (Same.refl _), ?_⟩⟩⟩))
      refine lc_ks (p := none) 2 (fun i v H => ∃ U, Tv C H v n 11 U) (fun i v Ha Hb k h => by obtain ⟨U, h⟩ := h; exact ⟨U, h.ks k⟩) has_none (by omega) (fun i H2 hi s => its_go (qDt _ s.same) (List.getElem?_eq_getElem (by show i < 2; omega))) (fun H2 s => its_stop (qDt _ s.same) (Nat.le_refl _)) (fun i x Ha Hb C' hi s _ hy hC => ?_) fun Du G1 us nDu u1 hDu lus hus => ?_
      · obtain ⟨rfl, ex⟩ := its_yld hy (qDt _ s.same)
        have mx := List.mem_of_getElem? ex
        simp only [List.mem_cons, List.not_mem_nil, or_false] at mx
        rcases mx with rfl | rfl
        · exact ⟨rfl, r_meth0 ⟨_, rfl, m_und (tva0.same s.same) fun d H9 s9 t9 => hC _ _ (RX.of s9) ⟨_, t9⟩⟩⟩
        · exact ⟨rfl, r_meth0 ⟨_, rfl, m_und (tvb0.same s.same) fun d H9 s9 t9 => hC _ _ (RX.of s9) ⟨_, t9⟩⟩⟩
      refine ⟨Dt, Du, _, _, rfl, rfl, u1.same _ _ hDt0, hDu, by rw [lus]; exact (by show 4 ≤ sizeLine; decide), fun Dc nDc => ?_⟩
      have hp1 := (RX.of (p := some p) u1.same).pot p rfl hpG
      refine ⟨p, Dc, [t1, t2] ++ us, rfl, (RX.new (p := some p) nDc).pot p rfl hp1, upd_same, fun z => by subst z; exact hp1.some_ nDc, by simp, by rw [List.length_append, lus]; show 2 + 2 < 1000; decide, fun j x G2 ex u2 => ?_⟩
      have U02 : RX (some p) G0 G2 := (RX.of u1.same).trans ((RX.new nDc).trans u2)
      have tx : ∃ U, Tv C G2 x n 11 U := by
        have mx := List.mem_of_getElem? ex
        rcases List.mem_append.mp mx with m | m
        · simp only [List.mem_cons, List.not_mem_nil, or_false] at m
          rcases m with rfl | rfl
          · exact ⟨_, (tva0.ks (KS.rx U02 hhG)).up (by decide)⟩
          · exact ⟨_, (tvb0.ks (KS.rx U02 hhG)).up (by decide)⟩
        · obtain ⟨k, hk, ek⟩ := List.getElem_of_mem m
          obtain ⟨U, tU⟩ := hus k x (by rw [List.getElem?_eq_getElem hk, ek])
          have hh1 : Has (some p) G1 := fun q e => by cases e; exact hp1
          exact ⟨U, tU.ks (KS.rx ((RX.new nDc).trans u2) hh1)⟩
      obtain ⟨U, tx⟩ := tx
      have k02 := KS.rx U02 hhG
      have fh2 := fh.ks k02
      have tw2 := tw.ks k02
      clear hus hDu nDc u2
      -- led
      refine r_next (r_nseq (r_par2 (r_cons (r_meth1 ⟨_, rfl, mth fh2.tab ⟨_, rfl, c_led fh2 tx (fun d8 G3 s8 f8 => ?_) ⟨by omega, by omega⟩⟩⟩))))
      refine r_cons (r_op ⟨_, rfl, _, rfl, o_mul (tw2.same s8) (tx.same s8) (fun d9 G4 s9 t9 => ⟨_, _, rfl, ?_⟩) (by omega)⟩)
      have gW := t9.gr
      rw [← ld_mul h1 h3 hM tw.gr.sh tx.gr.sh] at f8
      generalize mulM n W U = W' at f8 t9 gW
      have fh4 : Fv F G4 (.ref d8) n (3 + 26 * (i + 1)) (ldM n M W') := (f8.same s9).up (by omega)
      have tw4 : Tv C G4 (.ref d9) n (1 + 13 * (i + 1)) W' := t9.up (by omega)
      have S4 : RX (some p) H6 G4 := S0.trans (U02.trans (RX.of (s8.trans s9)))
      have fv4 := fv6.ks (KS.rx S4 hh6)
      clear f8 t9 tx fh2 tw2 fh tw tva0 tvb0
      refine r_next (r_nseq (r_if (r_or (r_tt (r_op ⟨_, rfl, r_meth1 ⟨_, rfl, mth fv4.tab ⟨_, rfl, c_led fv4 tw4 (fun d10 G5 s10 f10 => rd_ne (fh4.same s10).tab f10.tab ⟨_, rfl, ifF (ne_no rfl) ?_⟩) ⟨by omega, by omega⟩⟩⟩⟩)))))
      have fh5 := fh4.same s10
      refine r_tt (r_op (r_meth1 ⟨_, rfl, mth fh5.tab (r_meth0 ⟨_, rfl, m_und (tw4.same s10) (fun d11 G6 s11 t11 => c_led (fh5.same s11) t11 (fun d12 G7 s12 f12 => ⟨_, rfl, rd_ne f12.tab (fv4.same (s10.trans (s11.trans s12))).tab ⟨_, rfl, ifF (ne_no (ld_und hM gW)) ?_⟩⟩) ⟨by omega, by omega⟩) (by omega)⟩)⟩))
      have s47 := s10.trans (s11.trans s12)
      have fh7 := fh4.same s47
      have S7 := S4.trans (RX.of s47)
      clear f10 t11 f12
      have hL := fh7.bd.sh
      have dne : detM n W' ≠ 0 := by rcases gW.d with e | e <;> rw [e] <;> decide
      obtain ⟨ls, lz⟩ := sg_led h1 h3 hM sy gW.sh dne hL
      -- what stays
      refine r_next (r_nseq (r_if (r_tt (r_op (r_lst (r_cons (a1 ⟨_, rfl, .ref d8, _, n, _, rfl, fh7, by omega, fun pt G8 z' s13 hz' hpt => ?_⟩)))))))
      refine r_cons (r_prop ⟨_, rfl, p_det (fh7.same s13).tab (fh7.bd.sq (by omega)) h3 fun G9 s14 => ?_⟩)
      refine r_cons (r_meth0 ⟨_, rfl, mth ((fh7.same s13).same s14).tab ⟨.ref d8, _, n, _, rfl, (fh7.same s13).same s14, fun G10 s15 => ?_⟩⟩)
      refine r_cons (a1 ⟨_, rfl, .ref d8, _, n, _, rfl, fh7.same (s13.trans (s14.trans s15)), by omega, fun G11 s16 => ⟨(by show 4 ≤ sizeLine; decide), fun l nl => ⟨_, rfl, ?_⟩⟩⟩)
      have ebw : decide (Bowl n (ldM n M W')) = decide (Bowl n M) := decide_eq_decide.mpr (bowl_led hM sy gW)
      rw [det_ld h1 h3 hM gW.sh gW.d, dv_led hM gW hL, ebw]
      have s7l : Same G7 (upd G11 l (.lst [.ref pt, .int (detM n M), .int (dvM M : Int), .bl (decide (Bowl n M))])) := (s13.trans (s14.trans (s15.trans s16))).trans (same_new nl)
      have s8l : Same G8 (upd G11 l (.lst [.ref pt, .int (detM n M), .int (dvM M : Int), .bl (decide (Bowl n M))])) := (s14.trans (s15.trans s16)).trans (same_new nl)
      have e1 : upd G11 l (.lst [.ref pt, .int (detM n M), .int (dvM M : Int), .bl (decide (Bowl n M))]) l = some (.lst [.ref pt, .int (detM n M), .int (dvM M : Int), .bl (decide (Bowl n M))]) := upd_same
      generalize upd G11 l (.lst [.ref pt, .int (detM n M), .int (dvM M : Int), .bl (decide (Bowl n M))]) = G12 at s7l s8l e1
      have S12 := S7.trans (RX.of s7l)
      have hDh12 := S12.keep Dh _ Dhne hDh
      have ept := s8l _ _ hpt
      rw [ls, isz_uniq (lz _ hz') hz] at ept
      refine r_ne4 (r := [(sgA (polyM n M) : Int), (n : Int) - sgA (polyM n M) - z, (z : Int)]) e1 hDh12 ept (S12.keep pf _ pfne hpf6) ⟨_, rfl, ifF rfl ?_⟩
      have fh12 := fh7.same s7l
      have tw12 := tw4.same (s47.trans s7l)
      have fv12 := fv4.same (s47.trans s7l)
      clear hpt hz' lz ls e1 ept
      -- a row
      refine r_next (r_nseq (r_asg (a3 ⟨_, rfl, _, rfl, p, n, 3, rfl, S12.pot p rfl hp6, h3, by decide, fun Dr G13 xs s18 nDr hDr lxs bxs => ?_⟩)))
      have S13 := S12.trans s18
      have hh12 : Has (some p) G12 := fun q e => by cases e; exact S12.pot p rfl hp6
      have k13 := KS.rx s18 hh12
      have fh13 := fh12.ks k13
      have tw13 := tw12.ks k13
      have fv13 := fv12.ks k13
      have rbx : Rb 2 xs := rb_of (B := 3) (k := 2) bxs (by decide)
      have sx : ∀ H', Same G13 H' → SeqV H' (.ref Dr) (iD xs) := fun H' t => seq_ints (t _ _ hDr)
      have lwx : (ledM W' xs).length = n := by rw [led_len, gW.sh.len]
      have rbw := led_rb tw13.bd rbx lxs h3
      refine r_next (r_nseq (r_if (r_tt (r_op (r_meth1 ⟨_, rfl, mth fh13.tab ⟨_, rfl, c_worth fh13 (sx _ (Same.refl _)) lxs rbx (fun G14 s19 => ?_) ⟨by omega, by decide⟩⟩⟩)))))
      refine r_meth1 ⟨_, rfl, mth (fv13.same s19).tab (r_meth1 ⟨_, rfl, m_lead (tw13.same s19) ⟨_, rfl, c_lead (tw13.same s19) (sx _ s19) lxs (rbx.small (by decide)) (by omega) fun v' G15 s20 rv => ?_⟩⟩)⟩
      refine c_worth (fv13.same (s19.trans s20)) (RowV.seq rv) lwx rbw (fun G16 s21 => ?_) ⟨by decide, by omega⟩
      refine ⟨rfl, _, rfl, ifF (by rw [btw_led h1 h3 hM gW.sh lxs lxs]; simp) ?_⟩
      have s1316 := s19.trans (s20.trans s21)
      have fh16 := fh13.same s1316
      have fv16 := fv13.same s1316
      have tw16 := tw13.same s1316
      have hDh16 := (S13.trans (RX.of s1316)).keep Dh _ Dhne hDh
      -- the pit
      refine r_next (r_nseq (r_asg (a1 ⟨_, rfl, c_pit fh16 (by omega) fun told G17 s22 tv => ?_⟩)))
      have fh17 := fh16.same s22
      have fv17 := fv16.same s22
      have tw17 := tw16.same s22
      have s1317 := s1316.trans s22
      have hDh17 := s22 _ _ hDh16
      refine r_next (r_nseq (r_if (r_or (r_tt (r_op (r_op ⟨_, rfl, rfl, _, rfl, false, Dh, _, ((3 : Nat) : Int), _, rfl, rfl, .inl (.inl hDh17), atI_nat (j := 3) rfl, ?_⟩))))))
      rw [tv_nn tv, ebw]
      refine ⟨rfl, _, rfl, ifF (by simp) ?_⟩
      by_cases hB : Bowl n (ldM n M W')
      · have en := bowl_no tv hB
        subst en
        refine r_and (r_tt (r_op ⟨_, rfl, rfl, _, rfl, ifF rfl (ifF rfl ?_)⟩))
        -- the squares
        refine r_next (r_nif (r_tt (r_op ⟨_, rfl, rfl, _, rfl, ifT rfl ?_⟩)))
        have okp : ∀ q ∈ sqL n (ldM n M W'), OkR n 1000 q := sqL_okB h3 fh17.bd (by omega)
        have lps := sqL_len n (ldM n M W')
        have lrp : ∀ q ∈ sqL n (ldM n M W'), q.2.length = n := fun q hq => (okp q hq).1
        have fits := sq_fits h1 h3 hL (ld_sy h1 h3 hM gW.sh sy) hB
        have hf := Bool.and_eq_true_iff.mp fits
        have hsG : ∀ (G : Hp) (rs : List V), rs.length = n → (∀ (i : Nat) (v : V), rs[i]? = some v → SquV G v (ahd n (ldM n M W') i * dC (ldM n M W') i) (lnL n (ldM n M W') i)) → ∀ (i : Nat) (v : V) (q : Int × List Int), rs[i]? = some v → (sqL n (ldM n M W'))[i]? = some q → SquV G v q.1 q.2 := fun G rs l hsq i v q a b => by
          have hi : i < n := by rw [← l]; exact (List.getElem?_eq_some_iff.mp a).1
          rw [sqL_get hi] at b
          cases b
          exact hsq i v a
        refine r_seq (r_asg (a2 (a1 ⟨_, rfl, .ref d8, _, n, _, rfl, fh17, by omega, fun _ Ds rs G18 s23 hDs nDs lrs hsq => ?_, fun nB => absurd hB nB⟩)))
        have hq18 := hsG G18 rs lrs hsq
        refine ⟨_, rfl, Ds, Dr, rs, sqL n (ldM n M W'), xs, n, rfl, hDs, (s1317.trans s23) _ _ hDr, lrs, lps, lxs, h3, hq18, fun q hq => ?_, rb_up rbx (by decide), fun t G19 s24 ht => ?_⟩
        · obtain ⟨a, b, c⟩ := okp q hq
          obtain ⟨k, hk, ek⟩ := List.getElem_of_mem hq
          have ho := of_decide_eq_true hf.1 k hk
          rw [List.getD_eq_getElem?_getD, List.getElem?_eq_getElem hk] at ho
          have ek' : (some (sqL n (ldM n M W'))[k]).getD (0, []) = q := by rw [ek]; rfl
          rw [ek'] at ho
          exact ⟨a, ho.1, b, c⟩
        refine ⟨t, _, rfl, .inl (.inl ht), rfl, _, _, rfl, _, _, rfl, rfl, ?_⟩
        have s1319 := s1317.trans (s23.trans s24)
        have fh19 := fh17.same (s23.trans s24)
        have pb : (prodP (sqL n (ldM n M W'))).natAbs < 2 ^ 3001 := Wd.abs_mono (prod_b (ps := []) _ fun q hq => (okp q hq).2.1) (by rw [lps]; omega)
        refine r_next (r_nif (r_or (r_tt (r_op ⟨_, rfl, r_op ⟨_, rfl, r_meth1 ⟨_, rfl, mth fh19.tab ⟨_, rfl, c_worth fh19 (sx _ s1319) lxs rbx (fun G20 s25 => ?_) ⟨by omega, by decide⟩⟩⟩⟩⟩))))
        have bw : (btwM (ldM n M W') xs xs).natAbs < 2 ^ 500 := Wd.abs_mono (dot_rb (k := 2) (l := 3 + 26 * (i + 1) + 2 + 2) rbx (led_rb fh19.bd rbx lxs h3) (by omega) (by rw [led_len, hL.len, lxs])) (by omega)
        refine ⟨_, _, rfl, rfl, Wd.mulW ⟨3001, by decide, pb⟩ ⟨500, by decide, bw⟩, rfl, _, rfl, ifF (by rw [sqS_worth h1 h3 hL lrp hf.2 xs lxs]; simp) ?_⟩
        have s1320 := s1319.trans s25
        have fh20 := fh19.same s25
        refine r_tt (r_op (a2 ⟨_, rfl, a1 ⟨_, rfl, .ref d8, _, n, _, rfl, fh20, by omega, fun _ Dz rs2 G21 s26 hDz nDz lrs2 hsq2 => ?_, fun nB => absurd hB nB⟩⟩))
        have hq21 := hsG G21 rs2 lrs2 hsq2
        have pv21 : PyVs G21 rs2 ((sqL n (ldM n M W')).map (dat true)) := pyvs_of (by rw [lrs2, lps]) fun i v q a b => squ_pyS (hq21 i v q a b)
        refine ⟨.ref d8, .ref Dz, _, n, _, true, rfl, fh20.same s26, by omega, isq_of (.lst hDz pv21) (fine_mem (by rw [List.length_map]; omega) (td_mem h3 (by decide) okp)).1 ((td_sq lps lrp h1 h3).1.trans fits), fun G22 s27 => ⟨true, true, rfl, rfl, _, rfl, ifF rfl ?_⟩⟩
        have s1322 := s1320.trans (s26.trans s27)
        exact ⟨_, _, W', _, _, _, _, _, _, rfl, S13.trans (RX.of s1322), fh13.same s1322, tw13.same s1322⟩
      · obtain ⟨ys, ry, ly, by_, py⟩ := tv_nb fh16 hB tv
        have nn : told ≠ .non := fun z => by subst z; obtain ⟨c, e, _⟩ := ry; cases e
        refine r_and (r_tt (r_op ⟨_, rfl, rfl, _, rfl, ifT (by rw [decide_eq_false nn]; rfl) ?_⟩))
        refine r_tt (r_op (a2 ⟨_, rfl, r_meth1 ⟨_, rfl, m_lead tw17 ⟨_, rfl, c_lead tw17 (RowV.seq ry) ly (by_.small (by omega)) (by omega) fun v' G18 s23 rv2 => ?_⟩⟩⟩))
        have lwy : (ledM W' ys).length = n := by rw [led_len, gW.sh.len]
        have pm := pit_moved h1 h3 hM gW.sh gW.d ly py
        rw [mv_led gW.sh] at pm
        refine ⟨f, v', M, n, 3, rfl, fv17.same s23, by decide, .inl ⟨ledM W' ys, RowV.seq rv2, lwy, rb_up (led_rb tw17.bd by_ ly h3) (by omega), fun G19 s24 => ?_⟩⟩
        rw [pm]
        refine ⟨true, true, rfl, rfl, _, rfl, ifF rfl ?_⟩
        refine r_next (r_nif (r_tt (r_op ⟨_, rfl, rfl, _, rfl, ifF (decide_eq_false nn) ?_⟩)))
        have s1319 := s1317.trans (s23.trans s24)
        exact ⟨_, _, W', _, _, _, _, _, _, rfl, S13.trans (RX.of s1319), fh13.same s1319, tw13.same s1319⟩
    · obtain ⟨hv, wv, W, x7, x8, x9, x10, x11, x12, rfl, S, _, _⟩ := hP
      exact r_nret (r_k (q _ ((RX.of s06).trans S)))
end
end T29
set_option Elab.async false
set_option linter.all false
set_option maxRecDepth 100000
set_option maxHeartbeats 4000000
namespace T29
open PySem PySem.Spec PyProof.Rows L2 Gd Zn Rp Dn Tb Gn En Zs Ct Op Oc Rg Rt Ro Oa Pw
def pwM (n : Nat) (c : List (List Int)) : Nat → List (List Int)
  | 0 => unitM n
  | k + 1 => mulM n (pwM n c k) c
theorem pw_gr {n : Nat} {c : List (List Int)} (g : Gr n c) : ∀ k, Gr n (pwM n c k)
  | 0 => gr_unit g.h1 g.h3
  | k + 1 => (pw_gr g k).mul g
def cnj (n : Nat) (U c : List (List Int)) : List (List Int) := mulM n (mulM n U c) (undM n U)
theorem cnj_gr {n : Nat} {U c : List (List Int)} (gU : Gr n U) (g : Gr n c) : Gr n (cnj n U c) := (gU.mul g).mul gU.und
theorem pw_cnj {n : Nat} {U c : List (List Int)} (gU : Gr n U) (g : Gr n c) : ∀ k, pwM n (cnj n U c) k = cnj n U (pwM n c k)
  | 0 => by
    show unitM n = mulM n (mulM n U (unitM n)) (undM n U)
    rw [mul_unitS g.h1 g.h3 gU.sh, T29.mul_und gU]
  | k + 1 => by
    have sX := (pw_gr g k).sh
    have sV := gU.und.sh
    have sUX := (gU.mul (pw_gr g k)).sh
    have sUc := (gU.mul g).sh
    show mulM n (pwM n (cnj n U c) k) (cnj n U c) = mulM n (mulM n U (mulM n (pwM n c k) c)) (undM n U)
    rw [pw_cnj gU g k]
    unfold cnj
    have e : mulM n (undM n U) (mulM n (mulM n U c) (undM n U)) = mulM n c (undM n U) := by
      rw [← mul_assocS g.h1 g.h3 sV sUc sV, ← mul_assocS g.h1 g.h3 sV gU.sh g.sh, T29.und_mul gU, unit_mulS g.h1 g.h3 g.sh]
    rw [mul_assocS g.h1 g.h3 sUX sV ((gU.mul g).mul gU.und).sh, e, ← mul_assocS g.h1 g.h3 sUX g.sh sV, mul_assocS g.h1 g.h3 gU.sh sX g.sh]
theorem pw12 {n : Nat} {U c : List (List Int)} (gU : Gr n U) (g : Gr n c) (e : pwM n c 12 = unitM n) : pwM n (cnj n U c) 12 = unitM n := by
  rw [pw_cnj gU g, e]
  unfold cnj
  rw [mul_unitS g.h1 g.h3 gU.sh, T29.mul_und gU]
def Fq (n : Nat) (G T : List (List Int)) (k : Nat) : List (List Int) := ldM n G (pwM n T k)
def totF (n : Nat) (G T : List (List Int)) : Nat → List (List Int)
  | 0 => G
  | k + 1 => addM (totF n G T k) (Fq n G T (k + 1))
section
variable {n : Nat} {G T : List (List Int)}
theorem fq_sh (hG : Sh n G) (g : Gr n T) (k : Nat) : Sh n (Fq n G T k) := ld_sh g.h1 g.h3 hG (pw_gr g k).sh
theorem fq_zero (hG : Sh n G) (g : Gr n T) : Fq n G T 0 = G := ld_unit g.h1 g.h3 hG
theorem fq_succ (hG : Sh n G) (g : Gr n T) (k : Nat) : Fq n G T (k + 1) = ldM n (Fq n G T k) T := ld_mul g.h1 g.h3 hG (pw_gr g k).sh g.sh
theorem fq_12 (hG : Sh n G) (g : Gr n T) (e : pwM n T 12 = unitM n) : Fq n G T 12 = G := by
  unfold Fq
  rw [e]
  exact ld_unit g.h1 g.h3 hG
theorem tot_sh (hG : Sh n G) (g : Gr n T) : ∀ k, Sh n (totF n G T k)
  | 0 => hG
  | k + 1 => add_sh (tot_sh hG g k) (fq_sh hG g (k + 1))
def smF (f : Nat → Int) : Nat → Int
  | 0 => 0
  | k + 1 => smF f k + f k
theorem sm_shift (f : Nat → Int) : ∀ k, smF (fun j => f (j + 1)) k + f 0 = smF f k + f k
  | 0 => rfl
  | k + 1 => by
    have := sm_shift f k
    show smF (fun j => f (j + 1)) k + f (k + 1) + f 0 = smF f k + f k + f (k + 1)
    omega
theorem btw_tot (hG : Sh n G) (g : Gr n T) {xs ys : List Int} (hx : xs.length = n) (hy : ys.length = n) : ∀ k, btwM (totF n G T k) xs ys = smF (fun j => btwM (Fq n G T j) xs ys) (k + 1)
  | 0 => by
    show btwM G xs ys = 0 + btwM (Fq n G T 0) xs ys
    rw [fq_zero hG g]
    omega
  | k + 1 => by
    show btwM (addM (totF n G T k) (Fq n G T (k + 1))) xs ys = smF _ (k + 1) + _
    rw [btw_add g.h1 g.h3 (tot_sh hG g k) (fq_sh hG g (k + 1)) hx hy, btw_tot hG g hx hy k]
theorem smF_congr {f h : Nat → Int} (e : ∀ j, f j = h j) (k : Nat) : smF f k = smF h k := by
  rw [show f = h from funext e]
theorem ld_tot (hG : Sh n G) (g : Gr n T) {k : Nat} (e : Fq n G T (k + 1) = G) : ldM n (totF n G T k) T = totF n G T k :=
  mat_ext g.h1 g.h3 (ld_sh g.h1 g.h3 (tot_sh hG g k) g.sh) (tot_sh hG g k) fun xs ys hx hy => by
    have l : ∀ zs : List Int, (ledM T zs).length = n := fun zs => by rw [led_len, g.sh.len]
    rw [btw_led g.h1 g.h3 (tot_sh hG g k) g.sh hx hy, btw_tot hG g (l xs) (l ys), btw_tot hG g hx hy]
    have a : ∀ j, btwM (Fq n G T j) (ledM T xs) (ledM T ys) = btwM (Fq n G T (j + 1)) xs ys := fun j => by
      rw [fq_succ hG g, btw_led g.h1 g.h3 (fq_sh hG g j) g.sh hx hy]
    rw [smF_congr a]
    have s := sm_shift (fun j => btwM (Fq n G T j) xs ys) (k + 1)
    simp only [e, fq_zero hG g] at s
    omega
end
def uR (n i : Nat) : List Int := (List.range n).map fun j => if j = i then 1 else 0
theorem uR_len (n i : Nat) : (uR n i).length = n := by simp [uR]
theorem uR_rb {n i k : Nat} (h : 1 ≤ k) : Rb k (uR n i) := fun x hx => by
  unfold uR at hx
  obtain ⟨j, _, rfl⟩ := List.mem_map.mp hx
  have : 2 ≤ 2 ^ k := by
    have := Nat.pow_le_pow_right (by decide : 0 < 2) h
    simpa using this
  split
  · show 1 < 2 ^ k; omega
  · show 0 < 2 ^ k; omega
theorem led_uR {n i : Nat} {P : List (List Int)} (h1 : 1 ≤ n) (h3 : n ≤ 3) (hP : Sh n P) (hi : i < n) : ledM P (uR n i) = colsM n P i := by
  have : n = 1 ∨ n = 2 ∨ n = 3 := by omega
  rcases this with rfl | rfl | rfl
  · obtain ⟨a, rfl⟩ := sh1 hP rfl
    obtain rfl : i = 0 := by omega
    simp [ledM, uR, dot, colsM, List.range_succ]
  · obtain ⟨a, b, c, d, rfl⟩ := sh2 hP rfl
    have : i = 0 ∨ i = 1 := by omega
    rcases this with rfl | rfl <;> simp [ledM, uR, dot, colsM, List.range_succ]
  · obtain ⟨a, b, c, d, e, f, g, h, j, rfl⟩ := sh3 hP rfl
    have : i = 0 ∨ i = 1 ∨ i = 2 := by omega
    rcases this with rfl | rfl | rfl <;> simp [ledM, uR, dot, colsM, List.range_succ]
theorem own_row {n i : Nat} {G P : List (List Int)} (h1 : 1 ≤ n) (h3 : n ≤ 3) (hG : Sh n G) (hP : Sh n P) (hi : i < n) : (ldM n G P).getD i [] = (List.range n).map fun j => btwM G (ledM P (uR n i)) (ledM P (uR n j)) := by
  rw [ld_row h3 hG hP hi]
  refine List.map_congr_left fun j hj => ?_
  rw [led_uR h1 h3 hP hi, led_uR h1 h3 hP (List.mem_range.mp hj)]
def cL : Nat → List (List (List Int))
  | 1 => [[[-1]]]
  | 2 => [[[0, -1], [1, 1]], [[0, -1], [1, 0]], [[0, 1], [1, 0]]]
  | 3 => [[[0, 0, 1], [1, 0, 0], [0, 1, 0]], [[0, -1, 0], [1, 0, 0], [0, 0, -1]]]
  | _ => []
theorem cL_ok {n : Nat} {c : List (List Int)} (h1 : 1 ≤ n) (h3 : n ≤ 3) (h : c ∈ cL n) : Gr n c ∧ SqE n 1 c ∧ pwM n c 12 = unitM n := by
  have : n = 1 ∨ n = 2 ∨ n = 3 := by omega
  rcases this with rfl | rfl | rfl
  · simp [cL] at h
    subst h
    exact ⟨⟨h1, h3, ⟨rfl, by simp⟩, by rw [det1]; exact .inr rfl⟩, ⟨rfl, by simp, by decide⟩, by decide +kernel⟩
  · simp [cL] at h
    rcases h with rfl | rfl | rfl
    · exact ⟨⟨h1, h3, ⟨rfl, by simp⟩, by rw [det2]; exact .inl rfl⟩, ⟨rfl, by simp, by decide⟩, by decide +kernel⟩
    · exact ⟨⟨h1, h3, ⟨rfl, by simp⟩, by rw [det2]; exact .inl rfl⟩, ⟨rfl, by simp, by decide⟩, by decide +kernel⟩
    · exact ⟨⟨h1, h3, ⟨rfl, by simp⟩, by rw [det2]; exact .inr rfl⟩, ⟨rfl, by simp, by decide⟩, by decide +kernel⟩
  · simp [cL] at h
    rcases h with rfl | rfl
    · exact ⟨⟨h1, h3, ⟨rfl, by simp⟩, by rw [det3]; exact .inl rfl⟩, ⟨rfl, by simp, by decide⟩, by decide +kernel⟩
    · exact ⟨⟨h1, h3, ⟨rfl, by simp⟩, by rw [det3]; exact .inr rfl⟩, ⟨rfl, by simp, by decide⟩, by decide +kernel⟩
def Lit (t : TA) (r : List Int) : Prop := ∀ (σ : L2.St) (H : Hp) (Q : List V → Hp → Prop), Q (r.map V.int) H → t σ H Q
theorem lit_nil : Lit tNil [] := fun σ H Q q => q
theorem lit_c {t : TA} {r : List Int} (a : Int) (h : Lit t r) : Lit (tCons (tC (.int a)) t) (a :: r) := fun σ H Q q => h σ H (fun xs H2 => Q (V.int a :: xs) H2) q
theorem lit_n {t : TA} {r : List Int} (a : Int) (h : Lit t r) : Lit (tCons (tUn (rU fun i => .int (-i)) (tC (.int a))) t) (-a :: r) := fun σ H Q q => ⟨a, rfl, h σ H (fun xs H2 => Q (V.int (-a) :: xs) H2) q⟩
def RowsLit (t : TA) (rs : List (List Int)) : Prop := ∀ (σ : L2.St) (H : Hp) (Q : List V → Hp → Prop), (∀ vs H', Same H H' → vs.length = rs.length → (∀ p, H p ≠ none → PyVs (hid (some p) H') vs (rs.map fun r => .list (iD r))) → Q vs H') → t σ H Q
theorem rows_nil : RowsLit tNil [] := fun σ H Q q => q [] H (Same.refl _) rfl fun _ _ => .nil
theorem rows_cons {t : TA} {ts : TA} {r : List Int} {rs : List (List Int)} (h : Lit t r) (hs : RowsLit ts rs) (l : r.length ≤ 3 := by decide) : RowsLit (tCons (tLst t) ts) (r :: rs) := fun σ H Q q =>
  h σ H _ ⟨by rw [List.length_map]; exact Nat.le_trans l (by decide), fun D nD => by
    have s1 : Same H (upd H D (.lst (r.map V.int))) := same_new nD
    have e1 : upd H D (.lst (r.map V.int)) D = some (.lst (r.map V.int)) := upd_same
    generalize upd H D (.lst (r.map V.int)) = H1 at s1 e1
    refine hs σ H1 _ fun vs H' s' lv hv => q (.ref D :: vs) H' (s1.trans s') (by rw [List.length_cons, List.length_cons, lv]) fun p hp => ?_
    have ne : some p ≠ some D := fun z => by cases z; exact hp nD
    have hp1 : H1 p ≠ none := fun z => by
      cases e : H p with
      | none => exact hp e
      | some o => rw [s1 _ _ e] at z; cases z
    exact .cons (.lst (by rw [hid_at ne]; exact s' _ _ e1) (py_ints r)) (hv p hp1)⟩
def MatLit (t : TE) (c : List (List Int)) : Prop := ∀ (σ : L2.St) (H : Hp) (Q : VK), (∀ D H', Same H H' → H D = none → (∀ p, H p ≠ none → PyV (hid (some p) H') (.ref D) (lmD c)) → Q (.ref D) H') → t σ H Q
theorem mat_lit {t : TA} {c : List (List Int)} (h : RowsLit t c) (l : c.length ≤ 3 := by decide) : MatLit (tLst t) c := fun σ H Q q =>
  h σ H _ fun vs H' s' lv hv => ⟨by rw [lv]; exact Nat.le_trans l (by decide), fun D nD => by
    have nD0 : H D = none := by
      cases e : H D with
      | none => rfl
      | some o => rw [s' _ _ e] at nD; cases nD
    refine q D _ (s'.trans (same_new nD)) nD0 fun p hp => ?_
    have ne : some p ≠ some D := fun z => by cases z; exact hp nD0
    refine .lst (by rw [hid_at ne]; exact upd_same) (PyVs.mono (fun c o e => ?_) (hv p hp))
    by_cases z : some p = some c
    · unfold hid at e; rw [if_pos z] at e; cases e
    · rw [hid_at z] at e ⊢
      exact same_new nD _ _ e⟩
def MatsLit (t : TA) (cs : List (List (List Int))) : Prop := ∀ (σ : L2.St) (H : Hp) (Q : List V → Hp → Prop), (∀ vs H', Same H H' → vs.length = cs.length → (∀ p, H p ≠ none → ∀ x ∈ vs, ∃ c ∈ cs, PyV (hid (some p) H') x (lmD c)) → Q vs H') → t σ H Q
theorem mats_nil : MatsLit tNil [] := fun σ H Q q => q [] H (Same.refl _) rfl fun _ _ x hx => by cases hx
theorem mats_cons {t : TE} {ts : TA} {c : List (List Int)} {cs : List (List (List Int))} (h : MatLit t c) (hs : MatsLit ts cs) : MatsLit (tCons t ts) (c :: cs) := fun σ H Q q =>
  h σ H _ fun D H1 s1 nD hD => hs σ H1 _ fun vs H' s' lv hv => q (.ref D :: vs) H' (s1.trans s') (by rw [List.length_cons, List.length_cons, lv]) fun p hp x hx => by
    have hp1 : H1 p ≠ none := fun z => by
      cases e : H p with
      | none => exact hp e
      | some o => rw [s1 _ _ e] at z; cases z
    rcases List.mem_cons.mp hx with rfl | hx
    · refine ⟨c, List.mem_cons_self, PyV.mono (fun c o e => ?_) (hD p hp)⟩
      by_cases z : some p = some c
      · unfold hid at e; rw [if_pos z] at e; cases e
      · rw [hid_at z] at e ⊢
        exact s' _ _ e
    · obtain ⟨c', hc, h'⟩ := hv p hp1 x hx
      exact ⟨c', List.mem_cons_of_mem _ hc, h'⟩
end T29
set_option Elab.async false
set_option linter.all false
set_option maxRecDepth 100000
set_option maxHeartbeats 8000000
namespace T29
open PySem PySem.Spec PyProof.Rows L2 Gd Zn Rp Dn Tb Gn En Zs Ct Op Oc Rg Rt Ro Oa Pw
mutual
theorem py_nd {H H' : Hp} (s : ∀ c u, H c = some u → (∀ k, u ≠ .dK k) → H' c = some u) : ∀ {v : V} {d : PyData}, PyV H v d → PyV H' v d
  | _, _, .non => .non
  | _, _, .bl b => .bl b
  | _, _, .int i => .int i
  | _, _, .str x => .str x
  | _, _, .lst e q => .lst (s _ _ e fun _ z => by cases z) (pys_nd s q)
  | _, _, .tup e q => .tup (s _ _ e fun _ z => by cases z) (pys_nd s q)
theorem pys_nd {H H' : Hp} (s : ∀ c u, H c = some u → (∀ k, u ≠ .dK k) → H' c = some u) : ∀ {vs : List V} {ds : List PyData}, PyVs H vs ds → PyVs H' vs ds
  | _, _, .nil => .nil
  | _, _, .cons a b => .cons (py_nd s a) (pys_nd s b)
end
theorem hid_upd {p b : Addr} {H H' : Hp} {kvs : List (Key × V)} {o : HO} {v : V} {d : PyData} (s : Same H H') (e : H' b = some (.dK kvs)) (h : PyV (hid (some p) H) v d) : PyV (hid (some p) (upd H' b o)) v d := by
  refine py_nd (fun c u ec nk => ?_) h
  by_cases z : some p = some c
  · unfold hid at ec; rw [if_pos z] at ec; cases ec
  · rw [hid_at z] at ec ⊢
    have := s _ _ ec
    by_cases cb : c = b
    · subst cb
      rw [e] at this
      cases this
      exact absurd rfl (nk kvs)
    · rw [upd_ne cb]
      exact this
theorem same_none {H H' : Hp} {c : Addr} (s : Same H H') (h : H' c = none) : H c = none := by
  cases e : H c with
  | none => rfl
  | some o => rw [s _ _ e] at h; cases h
theorem same_ne {H H' : Hp} {c : Addr} (s : Same H H') (h : H c ≠ none) : H' c ≠ none := fun z => h (same_none s z)
theorem pr_c {v : V} {tv : TE} {r : List (TE × TE)} {σ : L2.St} {H : Hp} {Q : List (V × V) → Hp → Prop} (h : tv σ H fun y H2 => tPairs r σ H2 fun ps H3 => Q ((v, y) :: ps) H3) : tPairs ((tC v, tv) :: r) σ H Q := h
theorem pr_n {σ : L2.St} {H : Hp} {Q : List (V × V) → Hp → Prop} (h : Q [] H) : tPairs [] σ H Q := h
structure Hd2 (p : Addr) (H : Hp) (Dd D1 D2 : Addr) (vs1 vs2 : List V) : Prop where
  ed : H Dd = some (.dK [(.inl 1, .ref D1), (.inl 2, .ref D2)])
  g1 : H D1 = some (.lst vs1)
  g2 : H D2 = some (.lst vs2)
  l1 : vs1.length = (cL 1).length
  l2 : vs2.length = (cL 2).length
  n1 : D1 ≠ Dd
  n2 : D2 ≠ Dd
  p1 : D1 ≠ p
  p2 : D2 ≠ p
  w1 : ∀ x ∈ vs1, ∃ c ∈ cL 1, PyV (hid (some p) H) x (lmD c)
  w2 : ∀ x ∈ vs2, ∃ c ∈ cL 2, PyV (hid (some p) H) x (lmD c)
theorem c_disp {t1 t2 : TA} (m1 : MatsLit t1 (cL 1)) (m2 : MatsLit t2 (cL 2)) {p : Addr} {σ : L2.St} {H : Hp} {Q : VK} (hp : PotOk H p) (q : ∀ Dd D1 D2 vs1 vs2 H', RX (some p) H H' → H Dd = none → Hd2 p H' Dd D1 D2 vs1 vs2 → Q (.ref Dd) H') : tDisp [(tC (.int 1), tLst t1), (tC (.int 2), tLst t2)] σ H Q := by
  have hh : Has (some p) H := fun q e => by cases e; exact hp
  have hpn : H p ≠ none := hp.some_
  intro Dd nDd
  have s1 : Same H (upd H Dd (.dK [])) := same_new nDd
  have e1 : upd H Dd (.dK []) Dd = some (.dK []) := upd_same
  generalize upd H Dd (.dK []) = H1 at s1 e1
  refine pr_c (r_lst (m1 _ _ _ fun vs1 H2 s2 lv1 hv1 => ⟨by rw [lv1]; exact (by show 1 ≤ sizeLine; decide), fun D1 nD1 => ?_⟩))
  have t2 : Same H2 (upd H2 D1 (.lst vs1)) := same_new nD1
  have f2 : upd H2 D1 (.lst vs1) D1 = some (.lst vs1) := upd_same
  generalize upd H2 D1 (.lst vs1) = H3 at t2 f2
  refine pr_c (r_lst (m2 _ _ _ fun vs2 H4 s4 lv2 hv2 => ⟨by rw [lv2]; exact (by show 3 ≤ sizeLine; decide), fun D2 nD2 => pr_n ?_⟩))
  have t4 : Same H4 (upd H4 D2 (.lst vs2)) := same_new nD2
  have f4 : upd H4 D2 (.lst vs2) D2 = some (.lst vs2) := upd_same
  generalize upd H4 D2 (.lst vs2) = H5 at t4 f4
  have s15 : Same H1 H5 := s2.trans (t2.trans (s4.trans t4))
  have e5 := s15 _ _ e1
  refine ⟨e5, [(.inl 1, .ref D1), (.inl 2, .ref D2)], rfl, (by show 2 ≤ 15; decide), ?_⟩
  have em : mergeK [] [((.inl 1 : Key), V.ref D1), (.inl 2, .ref D2)] = [(.inl 1, .ref D1), (.inl 2, .ref D2)] := rfl
  rw [em]
  have D1ne : D1 ≠ Dd := fun z => by subst z; rw [s2 _ _ e1] at nD1; cases nD1
  have D2ne : D2 ≠ Dd := fun z => by subst z; rw [(s2.trans (t2.trans s4)) _ _ e1] at nD2; cases nD2
  have pn1 := same_ne s1 hpn
  have pn3 := same_ne (s2.trans t2) pn1
  refine q Dd D1 D2 vs1 vs2 _ ((RX.of (s1.trans s15)).mut nDd hh) nDd ⟨upd_same, ?_, ?_, lv1, lv2, D1ne, D2ne, ?_, ?_, fun x hx => ?_, fun x hx => ?_⟩
  · rw [upd_ne D1ne]; exact (s4.trans t4) _ _ f2
  · rw [upd_ne D2ne]; exact f4
  · exact fun z => by subst z; exact same_ne s2 pn1 nD1
  · exact fun z => by subst z; exact same_ne s4 pn3 nD2
  · obtain ⟨c, hc, h⟩ := hv1 p pn1 x hx
    exact ⟨c, hc, hid_upd (t2.trans (s4.trans t4)) e5 h⟩
  · obtain ⟨c, hc, h⟩ := hv2 p pn3 x hx
    exact ⟨c, hc, hid_upd t4 e5 h⟩
theorem c_dput {t3 : TA} (m3 : MatsLit t3 (cL 3)) {p Dd D1 D2 : Addr} {vs1 vs2 : List V} {i : Nat} {σ : L2.St} {H0 H : Hp} {D : Ends} (ei : σ[i]? = some (some (.ref Dd))) (hh : Has (some p) H0) (hp : PotOk H p) (S : RX (some p) H0 H) (nDd : H0 Dd = none) (h : Hd2 p H Dd D1 D2 vs1 vs2)
    (q : ∀ D3 H', RX (some p) H0 H' → H' Dd = some (.dK [(.inl 1, .ref D1), (.inl 2, .ref D2), (.inl 3, .ref D3)]) → (∀ n : Nat, 1 ≤ n → n ≤ 3 → ∃ Dn vs, valV [((.inl 1 : Key), V.ref D1), (.inl 2, .ref D2), (.inl 3, .ref D3)] (.inl (n : Int)) = some (V.ref Dn) ∧ H' Dn = some (.lst vs) ∧ vs.length = (cL n).length ∧ Dn ≠ p ∧ ∀ x ∈ vs, ∃ c ∈ cL n, PyV (hid (some p) H') x (lmD c)) → D.nx σ H') : sDPut (tVar i) (tC (.int 3)) (tLst t3) D σ H := by
  have pn := hp.some_
  refine m3 _ _ _ fun vs3 H7 s7 lv3 hv3 => ⟨by rw [lv3]; exact (by show 2 ≤ sizeLine; decide), fun D3 nD3 => ?_⟩
  have t7 : Same H7 (upd H7 D3 (.lst vs3)) := same_new nD3
  have f7 : upd H7 D3 (.lst vs3) D3 = some (.lst vs3) := upd_same
  generalize upd H7 D3 (.lst vs3) = H8 at t7 f7
  have s68 : Same H H8 := s7.trans t7
  have e8 := s68 _ _ h.ed
  have D3ne : D3 ≠ Dd := fun z => by subst z; rw [s7 _ _ h.ed] at nD3; cases nD3
  refine ⟨_, ei, Dd, _, rfl, .inl ⟨_, .inl 3, e8, rfl, (by show 2 < sizeLine; decide), rfl⟩, ?_⟩
  have em : putK [((.inl 1 : Key), V.ref D1), (.inl 2, .ref D2)] (.inl 3) (.ref D3) = [(.inl 1, .ref D1), (.inl 2, .ref D2), (.inl 3, .ref D3)] := rfl
  rw [em]
  refine q D3 _ ((S.trans (RX.of s68)).mut nDd hh) upd_same fun n h1 h3 => ?_
  have : n = 1 ∨ n = 2 ∨ n = 3 := by omega
  rcases this with rfl | rfl | rfl
  · refine ⟨D1, vs1, rfl, ?_, h.l1, h.p1, fun x hx => ?_⟩
    · rw [upd_ne h.n1]; exact s68 _ _ h.g1
    · obtain ⟨c, hc, k⟩ := h.w1 x hx
      exact ⟨c, hc, hid_upd s68 e8 k⟩
  · refine ⟨D2, vs2, rfl, ?_, h.l2, h.p2, fun x hx => ?_⟩
    · rw [upd_ne h.n2]; exact s68 _ _ h.g2
    · obtain ⟨c, hc, k⟩ := h.w2 x hx
      exact ⟨c, hc, hid_upd s68 e8 k⟩
  · refine ⟨D3, vs3, rfl, ?_, lv3, fun z => by subst z; exact same_ne s7 pn nD3, fun x hx => ?_⟩
    · rw [upd_ne D3ne]; exact f7
    · obtain ⟨c, hc, k⟩ := hv3 p pn x hx
      exact ⟨c, hc, hid_upd t7 e8 k⟩
end T29
set_option Elab.async false
set_option linter.all false
set_option maxRecDepth 100000
set_option maxHeartbeats 8000000
namespace T29
open PySem PySem.Spec PyProof.Rows L2 Gd Zn Rp Dn Tb Gn En Zs Ct Op Oc Rg Rt Ro Oa Pw
section
variable {P : Program} {w : World} {K : PySem.W.Frag} {mg : Str → Option Value} {base : Heap} {C F : Addr}
abbrev st_hr : Stmt := top 65
abbrev N_hr : List Str := ["_law_pot_here", "_law_form", "_law_size", "_law_some", "_law_rows_here", "_law_table_here", "_law_turn", "_law_here", "_law_total", "_law_units", "_law_near", "_law_moved", "_law_own", "_law_at", "_law_place", "_law_far"]
theorem sc_hr : FnScope N_hr ["_law_pot_here", "_law_form"] (defScope st_hr) := ⟨rfl, rfl, rfl, by decide +kernel, rfl, by decide +kernel, by decide +kernel⟩
def sp_hr (F : Addr) : Sp := fun vs H Q _ => ∃ (p : Addr) (f : V) (M : List (List Int)) (n : Nat), vs = [.ref p, f] ∧ PotOk H p ∧ Fv F H f n 3 M ∧ ∀ H', RX (some p) H H' → Q (.bl true) H'
theorem ok_hr {f : Addr} {fd : FuncData} (F' : Fun K "_law_home_right" "_law_home_right" st_hr f fd) (T : Txt mg) (Fc : Fcl K mg F) (Tc : Tcl K mg C) (DMk : Mkr P w K mg base C) (D1 : Def P w K mg base "_law_pick" 2 ["_law_pot_here", "_law_some"] sp_pick) (D2 : Def P w K mg base "_law_table" 2 ["_law_pot_here", "_law_size"] sp_ltab)
    (P1 : Prp P w K mg base F "size" 1 (sp_size F)) (P2 : Prp P w K mg base F "rows" 1 (sp_rows F)) (DL : MtdN P w K mg base F "led" 10 ["self", "table"] ["table"] (sp_led F C) gU11 gV11) (DB : Mtd P w K mg base F "between" 5 ["self", "row", "other"] (sp_btw F))
    (DU : Mtd P w K mg base C "undone" 10 ["self"] (sp_undone C)) (DLd : Mtd P w K mg base C "lead" 5 ["self", "row"] (sp_lead C)) (DM : MulP P w K mg base C) (DA : AddP P w K mg base F) (DE : EqP P w K mg base F) (DT : Def P w K mg base "_law_told" 1 ["_law_rows_here"] sp_copied) :
    FnOk P w K mg base CX0 11 f fd ["_law_pot_here", "_law_form"] (sp_hr F) := by
  refine F'.ok sc_hr (fun vs H Q E h => ?_) (fun cdv A outer s H vs Q E hr h => ?_)
  · obtain ⟨p, f, M, n, rfl, _⟩ := h
    rfl
  · obtain ⟨p, f, M, n, rfl, hp, fv, q⟩ := h
    obtain ⟨fL, fdL, mL, GL', bL, kL⟩ := DL.ex
    obtain ⟨fB, fdB, mB, GB, bB⟩ := DB.ex
    obtain ⟨fU, fdU, mU, GU, bU⟩ := DU.ex
    obtain ⟨fD, fdD, mD, GD, bD⟩ := DLd.ex
    have hr10 : Room 10 _ := hr
    have hr5 : Room 5 _ := hr10.mono (by decide)
    have hu := Nat.lt_of_le_of_lt (Nat.add_le_add_left (by decide : 1 ≤ 64) _) hr.units
    refine ⟨_, pss_cons (ps_set (i := 2) sc_hr.nd rfl (Or.inr rfl) (pe_prp P1 Fc.cl hr (pv 1)))
      (pss_cons (ps_set (i := 3) sc_hr.nd rfl (Or.inl rfl) (pe_disp (pps_cons pe_int (pe_lst (pa_cons (pe_lst (pa_cons (pe_lst (pa_cons (pe_un un_neg pe_int) pa_nil)) pa_nil)) pa_nil))
          (pps_cons pe_int (pe_lst (pa_cons (pe_lst (pa_cons (pe_lst (pa_cons pe_int (pa_cons (pe_un un_neg pe_int) pa_nil))) (pa_cons (pe_lst (pa_cons pe_int (pa_cons pe_int pa_nil))) pa_nil)))
            (pa_cons (pe_lst (pa_cons (pe_lst (pa_cons pe_int (pa_cons (pe_un un_neg pe_int) pa_nil))) (pa_cons (pe_lst (pa_cons pe_int (pa_cons pe_int pa_nil))) pa_nil)))
            (pa_cons (pe_lst (pa_cons (pe_lst (pa_cons pe_int (pa_cons pe_int pa_nil))) (pa_cons (pe_lst (pa_cons pe_int (pa_cons pe_int pa_nil))) pa_nil))) pa_nil)))) pps_nil)) (by rfl) (by rfl) (fun z => by cases z) (by decide)))
      (pss_cons (ps_dput hu (pv 3) pe_int (pe_lst (pa_cons (pe_lst (pa_cons (pe_lst (pa_cons pe_int (pa_cons pe_int (pa_cons pe_int pa_nil)))) (pa_cons (pe_lst (pa_cons pe_int (pa_cons pe_int (pa_cons pe_int pa_nil)))) (pa_cons (pe_lst (pa_cons pe_int (pa_cons pe_int (pa_cons pe_int pa_nil)))) pa_nil))))
            (pa_cons (pe_lst (pa_cons (pe_lst (pa_cons pe_int (pa_cons (pe_un un_neg pe_int) (pa_cons pe_int pa_nil)))) (pa_cons (pe_lst (pa_cons pe_int (pa_cons pe_int (pa_cons pe_int pa_nil)))) (pa_cons (pe_lst (pa_cons pe_int (pa_cons pe_int (pa_cons (pe_un un_neg pe_int) pa_nil)))) pa_nil)))) pa_nil))) rfl)
      (pss_cons (ps_set (i := 4) sc_hr.nd rfl (Or.inl rfl) (pe_def D1 hr (pa_cons (pv 0) (pa_cons (pe_dget hu (pv 3) (pv 2) (fun _ _ => rfl)) pa_nil))))
      (pss_cons (ps_asg (pe_tup (pa_cons (pe_mkr DMk Tc hr (pa_cons (pv 4) pa_nil)) (pa_cons (pe_mkr DMk Tc hr (pa_cons (pe_def D2 hr (pa_cons (pv 0) (pa_cons (pv 2) pa_nil))) pa_nil)) pa_nil))) (pg_tup rfl (pgs_cons (pg_name (i := 5) sc_hr.nd rfl (Or.inr rfl)) (pgs_cons (pg_name (i := 6) sc_hr.nd rfl (Or.inl rfl)) pgs_nil))))
      (pss_cons (ps_set (i := 5) sc_hr.nd rfl (Or.inr rfl) (pe_mulT DM hr (pe_mulT DM hr (pv 6) (pv 5)) (pe_meth0 (pv 6) Tc.cl mU GU hr10 bU .nil pass0)))
      (pss_cons (ps_asg (pe_tup (pa_cons (pe_meth (pv 1) Fc.cl mL GL' hr10 bL .nil pass0 (pa_cons (pv 5) pa_nil)) (pa_cons (pv 1) pa_nil))) (pg_tup rfl (pgs_cons (pg_name (i := 7) sc_hr.nd rfl (Or.inl rfl)) (pgs_cons (pg_name (i := 8) sc_hr.nd rfl (Or.inr rfl)) pgs_nil))))
      (pss_cons (ps_for PassesOwn.never rfl (pi_range1 (by rfl) T.range (pa_cons pe_int pa_nil)) (pg_name (i := 6) sc_hr.nd rfl (Or.inl rfl))
        (pss_one (ps_if (pt_cmpR (opNe DE hr) (pv 7) (pv 1) (nomark _)) (pss_one (ps_asg (pe_tup (pa_cons (pe_addF DA hr (pv 8) (pv 7)) (pa_cons (pe_meth (pv 7) Fc.cl mL GL' hr10 bL .nil pass0 (pa_cons (pv 5) pa_nil)) pa_nil))) (pg_tup rfl (pgs_cons (pg_name (i := 8) sc_hr.nd rfl (Or.inr rfl)) (pgs_cons (pg_name (i := 7) sc_hr.nd rfl (Or.inl rfl)) pgs_nil))))) pss_nil)))
      (pss_cons (ps_if (pt_cmpR (opNe DE hr) (pv 7) (pv 1) (nomark _)) pss_dead pss_nil)
      (pss_cons (ps_set (i := 9) sc_hr.nd rfl (Or.inr rfl) (pe_lc (own := [("_law_place", 14)]) (g := gName 14) (tt := tYes) (te := tLc (iRng1 (tCons (tVar 2) tNil)) (gName 13) tYes (tIf (tTest (tOp rEq (tVar 13) (tVar 14))) (tC (.int 1)) (tC (.int 0))) [13]) rfl sc_hr.nd (pi_range1 (by rfl) T.range (pa_cons (pv 2) pa_nil)) (blkOk_by (N := N_hr) (sc := defScope st_hr) (by decide +kernel)) (fun _ _ _ _ _ => pg_name (i := 14) sc_hr.nd rfl (Or.inr rfl) (Or.inl rfl)) (fun _ _ _ _ _ => pts_nil)
          (fun s' H' C' cl' fp' => by
            refine pe_lc (own := [("_law_at", 13)]) (wi := iRng1 (tCons (tVar 2) tNil)) (g := gName 13) (tt := tYes) (te := tIf (tTest (tOp rEq (tVar 13) (tVar 14))) (tC (.int 1)) (tC (.int 0))) rfl sc_hr.nd ?p1 ?p2 ?p3 ?p4 ?p5
            case p1 => exact pi_range1 (by rfl) T.range (pa_cons (pv 2) pa_nil)
            case p2 => exact blkOk_by (N := N_hr) (by rfl)
            case p3 => exact (fun _ _ _ _ _ => pg_name (i := 13) sc_hr.nd rfl (Or.inl rfl) (Or.inr rfl))
            case p4 => exact (fun _ _ _ _ _ => pts_nil)
            case p5 => exact (fun _ _ _ _ _ => pe_ifExp (pt_cmpR op_eq (pv 13) (pv 14) (nomark _)) pe_int pe_int))))
      (pss_cons (ps_for PassesOwn.never rfl (pi_seq (pv 9)) (pg_name (i := 10) sc_hr.nd rfl (Or.inr rfl))
        (pss_one (ps_if (pt_cmpR (op_neD hr.units) (pe_lc (own := [("_law_far", 15)]) (g := gName 15) (tt := tYes) rfl sc_hr.nd (pi_seq (pv 9)) (blkOk_by (N := N_hr) (sc := defScope st_hr) (by decide +kernel)) (fun _ _ _ _ _ => pg_name (i := 15) sc_hr.nd rfl (Or.inl rfl) (Or.inr rfl)) (fun _ _ _ _ _ => pts_nil)
            (fun _ _ _ _ _ => pe_meth (X := Cx.blk _ _ _ _ _ _) (pv 8) Fc.cl mB GB hr5 bB .nil pass0 (pa_cons (pe_meth (X := Cx.blk _ _ _ _ _ _) (pv 5) Tc.cl mD GD hr5 bD .nil pass0 (pa_cons (pv 10) pa_nil)) (pa_cons (pe_meth (X := Cx.blk _ _ _ _ _ _) (pv 5) Tc.cl mD GD hr5 bD .nil pass0 (pa_cons (pv 15) pa_nil)) pa_nil))))
          (pe_lc (own := [("_law_far", 15)]) (g := gName 15) (tt := tYes) rfl sc_hr.nd (pi_seq (pv 9)) (blkOk_by (N := N_hr) (sc := defScope st_hr) (by decide +kernel)) (fun _ _ _ _ _ => pg_name (i := 15) sc_hr.nd rfl (Or.inl rfl) (Or.inr rfl)) (fun _ _ _ _ _ => pts_nil)
            (fun _ _ _ _ _ => pe_meth (X := Cx.blk _ _ _ _ _ _) (pv 8) Fc.cl mB GB hr5 bB .nil pass0 (pa_cons (pv 10) (pa_cons (pv 15) pa_nil)))) (nomark _)) pss_dead pss_nil)))
      (pss_cons (ps_if (PW.pt (pw_or (pt_cmpR (opNe DE hr) (pe_meth (pv 8) Fc.cl mL GL' hr10 bL .nil pass0 (pa_cons (pv 5) pa_nil)) (pv 8) (nomark _)) (pw_or1 (pt_cmpR (opNe DE hr) (pe_methNames (pv 8) Fc.cl mL GL' hr10 kL pass0 (pk_cons (pe_meth0 (pv 5) Tc.cl mU GU hr10 bU .nil pass0) pk_nil)) (pv 8) (nomark _))))) pss_dead pss_nil)
      (pss_cons (ps_set (i := 11) sc_hr.nd rfl (Or.inl rfl) (pe_cmpR (opEq DE hr) (pe_meth (pv 1) Fc.cl mL GL' hr10 bL .nil pass0 (pa_cons (pv 5) pa_nil)) (pv 1) (nomark _)))
      (pss_cons (ps_setLc (i := 12) (own := [("_law_near", 10)]) (g := gName 10) (tt := tYes) (te := tLc (iSeq K (tVar 9)) (gName 15) tYes (tMeth F "between" (sp_btw F) [] E0 (tVar 1) (tCons (tMeth C "lead" (sp_lead C) [] E0 (tVar 5) (tCons (tVar 10) tNil)) (tCons (tMeth C "lead" (sp_lead C) [] E0 (tVar 5) (tCons (tVar 15) tNil)) tNil))) [15]) rfl sc_hr.nd rfl rfl (sw_true rfl rfl rfl (by decide +kernel)) (pi_seq (pv 9)) (blkOk_by (N := N_hr) (sc := defScope st_hr) (by decide +kernel)) (fun _ _ _ _ _ => pg_name (i := 10) sc_hr.nd rfl (Or.inr rfl) (Or.inl rfl)) (fun _ _ _ _ _ => pts_nil)
          (fun s' H' C' cl' fp' => by
            refine pe_lc (own := [("_law_far", 15)]) (wi := iSeq K (tVar 9)) (g := gName 15) (tt := tYes) (te := tMeth F "between" (sp_btw F) [] E0 (tVar 1) (tCons (tMeth C "lead" (sp_lead C) [] E0 (tVar 5) (tCons (tVar 10) tNil)) (tCons (tMeth C "lead" (sp_lead C) [] E0 (tVar 5) (tCons (tVar 15) tNil)) tNil))) rfl sc_hr.nd ?p1 ?p2 ?p3 ?p4 ?p5
            case p1 => exact pi_seq (pv 9)
            case p2 => exact blkOk_by (N := N_hr) (by rfl)
            case p3 => exact (fun _ _ _ _ _ => pg_name (i := 15) sc_hr.nd rfl (Or.inl rfl) (Or.inr rfl))
            case p4 => exact (fun _ _ _ _ _ => pts_nil)
            case p5 => exact (fun _ _ _ _ _ => pe_meth (X := Cx.blk _ _ _ _ _ _) (pv 1) Fc.cl mB GB hr5 bB .nil pass0 (pa_cons (pe_meth (X := Cx.blk _ _ _ _ _ _) (pv 5) Tc.cl mD GD hr5 bD .nil pass0 (pa_cons (pv 10) pa_nil)) (pa_cons (pe_meth (X := Cx.blk _ _ _ _ _ _) (pv 5) Tc.cl mD GD hr5 bD .nil pass0 (pa_cons (pv 15) pa_nil)) pa_nil)))))
      (pss_one (ps_ret (pe_cmpR op_eq (pv 11) (pe_cmpR (op_eqD hr.units) (pe_def DT hr (pa_cons (pv 12) pa_nil)) (pe_prp P2 Fc.cl hr (pv 1)) (nomark _)) (nomark _))))))))))))))))), ?_⟩
    have h1 := fv.h1
    have h3 := fv.h3
    have hM := fv.bd.sh
    have hh : Has (some p) H := fun q e => by cases e; exact hp
    have m1 : MatsLit (tCons (tLst (tCons (tLst (tCons (tUn (rU fun i => .int (-i)) (tC (.int 1))) tNil)) tNil)) tNil) (cL 1) := mats_cons (mat_lit (rows_cons (lit_n 1 lit_nil) rows_nil)) mats_nil
    have m2 : MatsLit _ (cL 2) := mats_cons (mat_lit (rows_cons (lit_c 0 (lit_n 1 lit_nil)) (rows_cons (lit_c 1 (lit_c 1 lit_nil)) rows_nil))) (mats_cons (mat_lit (rows_cons (lit_c 0 (lit_n 1 lit_nil)) (rows_cons (lit_c 1 (lit_c 0 lit_nil)) rows_nil))) (mats_cons (mat_lit (rows_cons (lit_c 0 (lit_c 1 lit_nil)) (rows_cons (lit_c 1 (lit_c 0 lit_nil)) rows_nil))) mats_nil))
    have m3 : MatsLit _ (cL 3) := mats_cons (mat_lit (rows_cons (lit_c 0 (lit_c 0 (lit_c 1 lit_nil))) (rows_cons (lit_c 1 (lit_c 0 (lit_c 0 lit_nil))) (rows_cons (lit_c 0 (lit_c 1 (lit_c 0 lit_nil))) rows_nil)))) (mats_cons (mat_lit (rows_cons (lit_c 0 (lit_n 1 (lit_c 0 lit_nil))) (rows_cons (lit_c 1 (lit_c 0 (lit_c 0 lit_nil))) (rows_cons (lit_c 0 (lit_c 0 (lit_n 1 lit_nil))) rows_nil)))) mats_nil)
    refine r_seq (r_asg (r_prop ⟨_, rfl, p_size fv.tab ?_⟩))
    rw [fv.len]
    -- the dict
    refine r_next (r_nseq (r_asg (c_disp m1 m2 hp fun Dd D1 D2 vs1 vs2 H6 S6 nDd hd => ?_)))
    refine r_next (r_nseq (c_dput m3 rfl hh (S6.pot p rfl hp) S6 nDd hd fun D3 H9 S9 e9 hw => ?_))
    obtain ⟨Dn, vs, eV, gn, lvn, nn, wn⟩ := hw n h1 h3
    clear hw hd
    have hp9 := S9.pot p rfl hp
    have lpos : 0 < (cL n).length ∧ (cL n).length < 1000 := by
      have : n = 1 ∨ n = 2 ∨ n = 3 := by omega
      rcases this with rfl | rfl | rfl <;> decide
    -- a table that comes home
    have dg : DGet H9 Dd (V.int (n : Int)) (some (V.ref Dn)) := by
      have := DGet.k (k := .inl (n : Int)) e9
      rw [eV] at this
      exact this
    refine r_next (r_nseq (r_asg (a2 ⟨_, rfl, ⟨_, rfl, _, rfl, Dd, _, rfl, dg, ?_⟩⟩)))
    refine ⟨p, Dn, vs, rfl, hp9, gn, nn, by omega, by omega, fun j x H10 ex s10 => ?_⟩
    obtain ⟨c, hc, pc⟩ := wn x (List.mem_of_getElem? ex)
    obtain ⟨gc, ec, c12⟩ := cL_ok h1 h3 hc
    have S10 := S9.trans s10
    have pc10 := py_rx pc s10
    have hp10 := S10.pot p rfl hp
    have fv10 := fv.ks (KS.rx S10 hh)
    clear wn pc dg eV gn e9 m1 m2 m3
    refine r_next (r_nseq (r_asg (r_tup (r_cons (mkA ⟨_, rfl, MkA.of (.inl (py_un pc10)) (grid_lm c) gc ec (by decide) fun d1 H11 s11 t11 => ?_⟩)))))
    have hp11 := (RX.of (p := some p) s11).pot p rfl hp10
    have hh11 : Has (some p) H11 := fun q e => by cases e; exact hp11
    refine r_cons (mkA (a2 ⟨_, rfl, _, rfl, p, n, rfl, hp11, h1, h3, fun Dt H12 U s12 pU bU dU => ?_⟩))
    have gU : Gr n U := ⟨h1, h3, bU.sh, dU⟩
    have eU : SqE n 5 U := bU.e (by decide)
    have k12 := KS.rx s12 hh11
    refine MkA.of (.inl (py_un pU)) (grid_lm U) gU eU (by decide) fun d2 H13 s13 t13 => ?_
    refine ⟨(by show 2 ≤ sizeLine; decide), fun tp ntp => ?_⟩
    have u13 := same_new (o := .tup [.ref d1, .ref d2]) ntp
    have et : upd H13 tp (.tup [.ref d1, .ref d2]) tp = some (.tup [.ref d1, .ref d2]) := upd_same
    generalize upd H13 tp (.tup [.ref d1, .ref d2]) = H14 at u13 et
    refine ⟨tp, _, rfl, .inl (.inl et), rfl, _, _, rfl, _, _, rfl, rfl, ?_⟩
    have tc14 := ((t11.ks k12).same s13).same u13
    have tu14 := t13.same u13
    have S14 := S10.trans ((RX.of s11).trans (s12.trans (RX.of (s13.trans u13))))
    have fv14 := fv.ks (KS.rx S14 hh)
    clear t11 t13 et
    -- turned
    refine r_next (r_nseq (r_asg (r_op (r_op ⟨_, rfl, _, rfl, o_mul tu14 tc14 (fun d3 H15 s15 t15 => r_meth0 ⟨_, rfl, m_und (tu14.same s15) (fun d4 H16 s16 t16 => o_mul (t15.same s16) t16 (fun d5 H17 s17 t17 => ?_) (by decide)) (by decide)⟩) (by decide)⟩))))
    have s1417 := s15.trans (s16.trans s17)
    have fv17 := fv14.same s1417
    have S17 := S14.trans (RX.of s1417)
    have gT : Gr n (mulM n (mulM n U c) (undM n U)) := cnj_gr gU gc
    have T12 : pwM n (mulM n (mulM n U c) (undM n U)) 12 = unitM n := pw12 gU gc c12
    have tT : Tv C H17 (.ref d5) n 21 (mulM n (mulM n U c) (undM n U)) := t17
    generalize mulM n (mulM n U c) (undM n U) = T at gT T12 tT
    clear t15 t16 t17 tu14 tc14
    -- led
    refine r_next (r_nseq (r_asg (r_tup (r_cons (r_meth1 ⟨_, rfl, mth fv17.tab ⟨_, rfl, c_led fv17 tT (fun d6 H18 s18 f18 => ?_) (by decide)⟩⟩)))))
    refine r_cons ⟨_, rfl, (by show 2 ≤ sizeLine; decide), fun tp2 ntp2 => ?_⟩
    have u18 := same_new (o := .tup [.ref d6, f]) ntp2
    have et : upd H18 tp2 (.tup [.ref d6, f]) tp2 = some (.tup [.ref d6, f]) := upd_same
    generalize upd H18 tp2 (.tup [.ref d6, f]) = H19 at u18 et
    refine ⟨tp2, _, rfl, .inl (.inl et), rfl, _, _, rfl, _, _, rfl, rfl, ?_⟩
    have s1719 := s18.trans u18
    have fh19 : Fv F H19 (.ref d6) n (3 + 46 * (0 + 1)) (Fq n M T (0 + 1)) := by
      rw [fq_succ hM gT, fq_zero hM gT]
      exact f18.same u18
    have fv19 := fv17.same s1719
    have tT19 := tT.same s1719
    have S19 := S17.trans (RX.of s1719)
    clear f18 et tT fv17 fv14
    -- twelve times
    refine r_next (r_nseq ⟨(12 : Int), rfl, by decide, by decide, ?_⟩)
    rw [show (12 : Int).toNat = 12 from rfl]
    refine for_range (lo := 0) (n := 12) (fun i σ H' => ∃ (k : Nat) (hv tv : V) (x6 x9 x10 x11 x12 x13 x14 x15 : Option V), σ = [some (.ref p), some f, some (.int (n : Nat)), some (.ref Dd), some x, some (.ref d5), x6, some hv, some tv, none, none, x11, x12, none, none, none] ∧ Same H19 H' ∧ k ≤ 11 ∧ (k = i ∨ Fq n M T (k + 1) = M) ∧ Fv F H' hv n (3 + 46 * (k + 1)) (Fq n M T (k + 1)) ∧ Fv F H' tv n (600 + k) (totF n M T k)) ⟨0, _, _, _, none, none, _, _, none, none, none, rfl, Same.refl _, by decide, .inl rfl, fh19, fv19.up (by decide)⟩ (fun i σ G0 hi hP => ?_) (fun σ G0 hP => ?_)
    · obtain ⟨k, hv, tv, x6, x9, x10, x11, x12, x13, x14, x15, rfl, s0, hk, hs, fh, ft⟩ := hP
      have fvg := fv19.same s0
      have tTg := tT19.same s0
      refine r_if (r_tt (r_op ⟨_, rfl, _, rfl, rd_ne fh.tab fvg.tab ⟨_, rfl, ?_⟩⟩))
      by_cases z : Fq n M T (k + 1) = M
      · refine ifF (ne_no z) ⟨k, _, _, _, none, none, _, _, none, none, none, rfl, s0, hk, .inr z, fh, ft⟩
      · have ki : k = i := by rcases hs with e | e; exact e; exact absurd e z
        have k11 : k + 1 ≤ 11 := by
          by_cases q : k = 11
          · subst q
            exact absurd (fq_12 hM gT T12) z
          · omega
        refine ifT (by rw [decide_eq_false z]; rfl) ?_
        refine r_asg (r_tup (r_cons (r_op ⟨_, rfl, _, rfl, o_addF ft (fh.up (by omega)) (fun d7 G1 s1 f1 => ?_) (by omega)⟩)))
        refine r_cons (r_meth1 ⟨_, rfl, mth (fh.same s1).tab ⟨_, rfl, c_led (fh.same s1) (tTg.same s1) (fun d8 G2 s2 f2 => ⟨(by show 2 ≤ sizeLine; decide), fun tp3 ntp3 => ?_⟩) ⟨by omega, by decide⟩⟩⟩)
        have u3 := same_new (o := .tup [.ref d7, .ref d8]) ntp3
        have et : upd G2 tp3 (.tup [.ref d7, .ref d8]) tp3 = some (.tup [.ref d7, .ref d8]) := upd_same
        generalize upd G2 tp3 (.tup [.ref d7, .ref d8]) = G3 at u3 et
        refine ⟨tp3, _, rfl, .inl (.inl et), rfl, _, _, rfl, _, _, rfl, rfl, ?_⟩
        refine ⟨k + 1, _, _, _, none, none, _, _, none, none, none, rfl, s0.trans (s1.trans (s2.trans u3)), k11, .inl (by omega), ?_, f1.same (s2.trans u3)⟩
        rw [fq_succ hM gT (k + 1)]
        exact (f2.same u3).up (by omega)
    · obtain ⟨k, hv, tv, x6, x9, x10, x11, x12, x13, x14, x15, rfl, s0, hk, hs, fh, ft⟩ := hP
      have hq : Fq n M T (k + 1) = M := by
        rcases hs with e | e
        · omega
        · exact e
      have fvg := fv19.same s0
      have tTg := tT19.same s0
      have S0 := S19.trans (RX.of s0)
      have eT := ld_tot hM gT hq
      have shT := tot_sh hM gT k
      have ft : Fv F G0 tv n 620 (totF n M T k) := ft.up (by omega)
      generalize totF n M T k = N at ft eT shT
      refine r_next (r_nseq (r_if (r_tt (r_op ⟨_, rfl, _, rfl, rd_ne fh.tab fvg.tab ⟨_, rfl, ifF (ne_no hq) ?_⟩⟩))))
      clear fh hs hq
      -- unit rows
      have hpG := S0.pot p rfl hp
      have hn0 : ((n : Int)).toNat = n := by omega
      refine r_next (r_nseq (r_asg (tlc_call ⟨_, rfl, (n : Int), rfl, by omega, by omega, ?_⟩)))
      rw [hn0]
      refine lc_fresh (p := none) n (fun i => .lst ((uR n i).map V.int)) has_none (by omega) (fun i H2 hi s2 => hi) (fun H2 s2 => Nat.le_refl _) (fun i x H2 H3 C' hi s2 hp2 hy hC => ?_) fun Du G1 rs nDu u1 hDu hrl hE => ?_
      · obtain ⟨rfl, rfl⟩ := hy
        refine ⟨rfl, tlc_call ⟨_, rfl, (n : Int), rfl, by omega, by omega, ?_⟩⟩
        rw [hn0]
        refine lc_el (p := none) n (fun j v => v = .int (if j = i then 1 else 0)) has_none (by omega) (fun j H4 hj s4 => hj) (fun H4 s4 => Nat.le_refl _) (fun j x H4 H5 C2 hj s4 _ hy2 hC2 => ?_) fun Db H4 ys nDb s4 hDb hyl hyE => ?_
        · obtain ⟨rfl, rfl⟩ := hy2
          refine ⟨rfl, ?_⟩
          refine ⟨_, rfl, _, rfl, rfl, _, rfl, ?_⟩
          by_cases z : j = i
          · rw [decide_eq_true (show V.int (0 + (j : Int)) = V.int (0 + (i : Int)) by rw [z])]
            exact iteT (hC2 _ _ (RX.refl _) (by rw [if_pos z]))
          · rw [decide_eq_false (show ¬ V.int (0 + (j : Int)) = V.int (0 + (i : Int)) from fun e => z (by have := V.int.inj e; omega))]
            exact iteF (hC2 _ _ (RX.refl _) (by rw [if_neg z]))
        · have ey : ys = (List.range n).map fun j => V.int (if j = i then 1 else 0) := map_of_get (n := 0) _ (by rw [hyl, List.length_range]) fun j v e => by
            have hj : j < n := by rw [← hyl]; exact (List.getElem?_eq_some_iff.mp e).1
            exact ⟨j, List.getElem?_range hj, hyE j v e⟩
          refine hC Db _ s4 nDb ?_
          rw [hDb, ey]
          unfold uR
          rw [List.map_map]
          rfl
      have u1 := u1.same
      have fv1 := fvg.same u1
      have tT1 := tTg.same u1
      have ft1 := ft.same u1
      have S1 := S0.trans (RX.of u1)
      -- what a walk over the rows finds
      have qDu : ∀ H', Same G1 H' → SqV K H' false Du rs := fun H' s => .inl (.inl (s _ _ hDu))
      have at_ : ∀ (i : Nat) (v : V) (H' : Hp), Same G1 H' → rs[i]? = some v → SeqV H' v (iD (uR n i)) := fun i v H' s e => by
        obtain ⟨b, rfl, hb⟩ := hE i v e
        exact seq_ints (s _ _ hb)
      have lt_ : ∀ (i : Nat) (v : V), rs[i]? = some v → i < n := fun i v e => by rw [← hrl]; exact (List.getElem?_eq_some_iff.mp e).1
      have lT : ∀ i, (ledM T (uR n i)).length = n := fun i => by rw [led_len, gT.sh.len]
      have bT : ∀ i, Rb 30 (ledM T (uR n i)) := fun i => rb_up (led_rb (k := 21) (l := 1) tT1.bd (uR_rb (by decide)) (uR_len n i) h3) (by decide)
      have sm1 : ∀ i, ∀ x ∈ uR n i, Small x := fun i => (uR_rb (k := 1) (by decide)).small (by decide)
      clear hDu hE
      refine r_next (r_nseq (r_forS ⟨_, rfl, false, Du, rs, rfl, qDu _ (Same.refl _), ?_⟩))
      refine for_by n (fun i σ H' => ∃ x10, σ = [some (.ref p), some f, some (.int (n : Nat)), some (.ref Dd), some x, some (.ref d5), x6, some hv, some tv, some (.ref Du), x10, x11, x12, none, none, none] ∧ Same G1 H') ⟨_, rfl, Same.refl _⟩ (fun i σ H' hi hP => ?_) (fun σ H' hP => ?_) (fun i x σ Ha Hb hi hP hy => ?_) (fun σ G2 hP => ?_)
      · obtain ⟨_, _, s⟩ := hP
        exact its_go (qDu _ s) (List.getElem?_eq_getElem (by rw [hrl]; exact hi))
      · obtain ⟨_, _, s⟩ := hP
        exact its_stop (qDu _ s) (by rw [hrl]; exact Nat.le_refl _)
      · obtain ⟨x10, rfl, s⟩ := hP
        obtain ⟨rfl, ex⟩ := its_yld hy (qDu _ s)
        refine g_nm ?_
        refine r_if (r_tt (r_op (tlc_call ⟨_, rfl, false, Du, rs, rfl, qDu _ s, ?_⟩)))
        refine lc_el (p := none) n (fun j v => v = .int (btwM N (ledM T (uR n i)) (ledM T (uR n j)))) has_none (by omega) (fun j H4 hj s4 => its_go (qDu _ (s.trans s4.same)) (List.getElem?_eq_getElem (by rw [hrl]; exact hj))) (fun H4 s4 => its_stop (qDu _ (s.trans s4.same)) (by rw [hrl]; exact Nat.le_refl _)) (fun j y H4 H5 C2 hj s4 _ hy2 hC2 => ?_) fun Da H4 ys nDa s4 hDa hyl hyE => ?_
        · obtain ⟨rfl, ey⟩ := its_yld hy2 (qDu _ (s.trans s4.same))
          have s' := s.trans s4.same
          refine ⟨rfl, r_meth2 ⟨_, rfl, mth (ft1.same s').tab (r_meth1 ⟨_, rfl, m_lead (tT1.same s') ⟨_, rfl, c_lead (tT1.same s') (at_ i _ _ s' ex) (uR_len n i) (sm1 i) (by decide) fun v1 H6 s6 rv1 => ?_⟩⟩)⟩⟩
          refine r_meth1 ⟨_, rfl, m_lead ((tT1.same s').same s6) ⟨_, rfl, c_lead ((tT1.same s').same s6) (at_ j _ _ (s'.trans s6) ey) (uR_len n j) (sm1 j) (by decide) fun v2 H7 s7 rv2 => ?_⟩⟩
          exact c_btw (((ft1.same s').same s6).same s7) (RowV.seq (RowV.mono (KS.of s7) rv1)) (RowV.seq rv2) (lT i) (lT j) (bT i) (bT j) (fun H8 s8 => hC2 _ _ (RX.of (s6.trans (s7.trans s8))) rfl)
        have ea : ys = ((List.range n).map fun j => btwM N (ledM T (uR n i)) (ledM T (uR n j))).map V.int := by
          rw [List.map_map]
          exact map_of_get (n := 0) _ (by rw [hyl, List.length_range]) fun j v e => by
            have hj : j < n := by rw [← hyl]; exact (List.getElem?_eq_some_iff.mp e).1
            exact ⟨j, List.getElem?_range hj, hyE j v e⟩
        subst ea
        have s' := s.trans s4.same
        refine tlc_call ⟨_, rfl, false, Du, rs, rfl, qDu _ s', ?_⟩
        refine lc_el (p := none) n (fun j v => v = .int (btwM N (uR n i) (uR n j))) has_none (by omega) (fun j H4 hj s4 => its_go (qDu _ (s'.trans s4.same)) (List.getElem?_eq_getElem (by rw [hrl]; exact hj))) (fun H4 s4 => its_stop (qDu _ (s'.trans s4.same)) (by rw [hrl]; exact Nat.le_refl _)) (fun j y H4 H5 C2 hj s4 _ hy2 hC2 => ?_) fun Db H5 zs nDb s5 hDb hzl hzE => ?_
        · obtain ⟨rfl, ey⟩ := its_yld hy2 (qDu _ (s'.trans s4.same))
          have t' := s'.trans s4.same
          refine ⟨rfl, r_meth2 ⟨_, rfl, mth (ft1.same t').tab ⟨_, rfl, _, rfl, ?_⟩⟩⟩
          exact c_btw (k := 1) (ft1.same t') (at_ i _ _ t' ex) (at_ j _ _ t' ey) (uR_len n i) (uR_len n j) (uR_rb (by decide)) (uR_rb (by decide)) (fun H8 s8 => hC2 _ _ (RX.of s8) rfl)
        have ez : zs = ((List.range n).map fun j => btwM N (uR n i) (uR n j)).map V.int := by
          rw [List.map_map]
          exact map_of_get (n := 0) _ (by rw [hzl, List.length_range]) fun j v e => by
            have hj : j < n := by rw [← hzl]; exact (List.getElem?_eq_some_iff.mp e).1
            exact ⟨j, List.getElem?_range hj, hzE j v e⟩
        subst ez
        refine r_neLi (s5.same _ _ hDa) hDb ⟨_, rfl, ifF (ne_noL (List.map_congr_left fun j hj => ?_)) ⟨_, rfl, s'.trans s5.same⟩⟩
        rw [← btw_led h1 h3 shT gT.sh (uR_len n i) (uR_len n j), eT]
      · obtain ⟨x10, rfl, s2⟩ := hP
        have ft2 := ft1.same s2
        have fv2 := fv1.same s2
        have tT2 := tT1.same s2
        have S2 := S1.trans (RX.of s2)
        -- the sum
        refine r_next (r_nseq (r_if (r_or (r_tt (r_op (r_meth1 ⟨_, rfl, mth ft2.tab ⟨_, rfl, c_led ft2 tT2 (fun d10 G3 s3 f3 => ⟨_, rfl, rd_ne f3.tab (ft2.same s3).tab ⟨_, rfl, ifF (ne_no eT) ?_⟩⟩) (by decide)⟩⟩))))))
        have ft3 := ft2.same s3
        have tT3 := tT2.same s3
        refine r_tt (r_op (r_methN ⟨_, rfl, mth ft3.tab (r_meth0 ⟨_, rfl, m_und tT3 (fun d11 G4 s4 t4 => c_led (ft3.same s4) t4 (fun d12 G5 s5 f5 => ⟨_, rfl, rd_ne f5.tab ((ft3.same s4).same s5).tab ⟨_, rfl, ifF (ne_no ?_) ?_⟩⟩) (by decide)) (by decide)⟩)⟩))
        · have := ld_und shT gT
          rwa [eT] at this
        have s25 := s3.trans (s4.trans s5)
        have fv5 := fv2.same s25
        have tT5 := tT2.same s25
        have S5 := S2.trans (RX.of s25)
        clear f3 t4 f5 ft3 tT3
        -- moved
        refine r_next (r_nseq (r_asg (r_op (r_meth1 ⟨_, rfl, mth fv5.tab ⟨_, rfl, c_led fv5 tT5 (fun d13 G6 s6 f6 => ⟨_, rfl, rd_eq f6.tab (fv5.same s6).tab ?_⟩) (by decide)⟩⟩))))
        have fv6 := fv5.same s6
        have tT6 := tT5.same s6
        have S6 := S5.trans (RX.of s6)
        have s16 : Same G1 G6 := s2.trans (s25.trans s6)
        clear f6
        -- own rows
        refine r_next (r_nseq (r_asg (tlc_call ⟨_, rfl, false, Du, rs, rfl, qDu _ s16, ?_⟩)))
        have shL : Sh n (ldM n M T) := ld_sh h1 h3 hM gT.sh
        refine lc_fresh (p := none) n (fun i => .lst (((ldM n M T).getD i []).map V.int)) has_none (by omega) (fun i H2 hi s7 => its_go (qDu _ (s16.trans s7.same)) (List.getElem?_eq_getElem (by rw [hrl]; exact hi))) (fun H2 s7 => its_stop (qDu _ (s16.trans s7.same)) (by rw [hrl]; exact Nat.le_refl _)) (fun i x H2 H3 C' hi s7 hp2 hy hC => ?_) fun Do G7 os nDo u7 hDo hol hoE => ?_
        · obtain ⟨rfl, ex⟩ := its_yld hy (qDu _ (s16.trans s7.same))
          have s := s16.trans s7.same
          refine ⟨rfl, tlc_call ⟨_, rfl, false, Du, rs, rfl, qDu _ s, ?_⟩⟩
          refine lc_el (p := none) n (fun j v => v = .int (btwM M (ledM T (uR n i)) (ledM T (uR n j)))) has_none (by omega) (fun j H4 hj s4 => its_go (qDu _ (s.trans s4.same)) (List.getElem?_eq_getElem (by rw [hrl]; exact hj))) (fun H4 s4 => its_stop (qDu _ (s.trans s4.same)) (by rw [hrl]; exact Nat.le_refl _)) (fun j y H4 H5 C2 hj s4 _ hy2 hC2 => ?_) fun Da H4 ys nDa s4 hDa hyl hyE => ?_
          · obtain ⟨rfl, ey⟩ := its_yld hy2 (qDu _ (s.trans s4.same))
            have s' := s.trans s4.same
            have fk := fv1.same s'
            have tk := tT1.same s'
            refine ⟨rfl, r_meth2 ⟨_, rfl, mth fk.tab (r_meth1 ⟨_, rfl, m_lead tk ⟨_, rfl, c_lead tk (at_ i _ _ s' ex) (uR_len n i) (sm1 i) (by decide) fun v1 H6 s6 rv1 => ?_⟩⟩)⟩⟩
            refine r_meth1 ⟨_, rfl, m_lead (tk.same s6) ⟨_, rfl, c_lead (tk.same s6) (at_ j _ _ (s'.trans s6) ey) (uR_len n j) (sm1 j) (by decide) fun v2 H7 s7 rv2 => ?_⟩⟩
            exact c_btw ((fk.same s6).same s7) (RowV.seq (RowV.mono (KS.of s7) rv1)) (RowV.seq rv2) (lT i) (lT j) (bT i) (bT j) (fun H8 s8 => hC2 _ _ (RX.of (s6.trans (s7.trans s8))) rfl)
          · have ea : ys = ((ldM n M T).getD i []).map V.int := by
              rw [own_row h1 h3 hM gT.sh hi, List.map_map]
              exact map_of_get (n := 0) _ (by rw [hyl, List.length_range]) fun j v e => by
                have hj : j < n := by rw [← hyl]; exact (List.getElem?_eq_some_iff.mp e).1
                exact ⟨j, List.getElem?_range hj, hyE j v e⟩
            refine hC Da _ s4 nDa ?_
            rw [hDa, ea]
        have pO : PyV G7 (.ref Do) (lmD (ldM n M T)) := py_lm hDo (by rw [hol, shL.len]) hoE
        have fv7 := fv6.same u7.same
        have S7 := S6.trans (RX.of u7.same)
        -- told
        refine r_next (r_nret (r_op ⟨_, rfl, r_op (a1 ⟨_, rfl, .ref Do, _, ldM n M T, rfl, .inl pO, grid_lm _, by rw [shL.len]; omega, fun v' G8 s8 mx => r_prop ⟨_, rfl, p_rows (fv7.same s8).tab fun r mr => r_eqMx mx mr ?_⟩⟩)⟩))
        refine ⟨rfl, ?_⟩
        have S8 := S7.trans (RX.of s8)
        have e : decide (V.bl (decide (ldM n M T = M)) = V.bl (decide (ldM n M T = M))) = true := decide_eq_true rfl
        rw [e]
        exact q _ S8
end
end T29
set_option Elab.async false
set_option linter.all false
set_option maxRecDepth 100000
set_option maxHeartbeats 8000000
namespace T29
open PySem PySem.Spec PyProof.Rows L2 Gd Zn Rp Dn Tb Gn En Zs Ct Op Oc Rg Rt Ro Oa Pw
section
variable {P : Program} {w : World} {K : PySem.W.Frag} {mg : Str → Option Value} {base : Heap} {C F : Addr}
abbrev st_ri : Stmt := top 66
abbrev N_ri : List Str := ["_law_pot_here", "_law_size", "_law_form", "_law_other", "_law_tables"]
theorem sc_ri : FnScope N_ri ["_law_pot_here"] (defScope st_ri) := ⟨rfl, rfl, rfl, by decide +kernel, rfl, by decide +kernel, by decide +kernel⟩
theorem ok_ri {f : Addr} {fd : FuncData} (F' : Fun K "_law_right" "_law_right" st_ri f fd) (T : Txt mg) (Fc : Fcl K mg F) (Tc : Tcl K mg C) (DF : MkrF P w K mg base F) (DMk : Mkr P w K mg base C) (D1 : Def P w K mg base "_law_draw" 1 ["_law_pot_here", "_law_size"] sp_draw) (D2 : Def P w K mg base "_law_rows" 2 ["_law_pot_here", "_law_size", "_law_most"] sp_lrows)
    (D3 : Def P w K mg base "_law_table" 2 ["_law_pot_here", "_law_size"] sp_ltab) (D4 : Def P w K mg base "_law_way_right" 11 ["_law_pot_here", "_law_form", "_law_tables"] (sp_wy F C)) (D5 : Def P w K mg base "_law_home_right" 11 ["_law_pot_here", "_law_form"] (sp_hr F))
    (DL : Mtd P w K mg base F "led" 10 ["self", "table"] (sp_led F C)) (DA : AddP P w K mg base F) (DE : EqP P w K mg base F) :
    FnG P w K mg base CX0 12 f fd ["_law_pot_here"] sp_right := by
  refine okG F' sc_ri (fun vs H Q E h => ?_) (fun cdv A outer s H vs Q E hst hr h => ?_)
  · obtain ⟨p, rfl, _⟩ := h
    rfl
  · obtain ⟨p, rfl, hp, q⟩ := h
    obtain ⟨fL, fdL, mL, GL', bL⟩ := DL.ex
    have hr10 : Room 10 _ := hr.mono (by decide)
    refine ⟨_, pss_cons (ps_set (i := 1) sc_ri.nd rfl (Or.inl rfl) (pe_op op_add pe_int (pe_def D1 hr (pa_cons (pv 0) (pa_cons pe_int pa_nil)))))
      (pss_cons (ps_par (i := 2) (j := 3) rfl sc_ri.nd rfl rfl (by decide) rfl rfl (pa_cons (pe_mkrF DF Fc hr (pa_cons (pe_def D2 hr (pa_cons (pv 0) (pa_cons (pv 1) (pa_cons pe_int pa_nil)))) pa_nil)) (pa_cons (pe_mkrF DF Fc hr (pa_cons (pe_def D2 hr (pa_cons (pv 0) (pa_cons (pv 1) (pa_cons pe_int pa_nil)))) pa_nil)) pa_nil)) (by rfl))
      (pss_cons (ps_set (i := 4) sc_ri.nd rfl (Or.inl rfl) (pe_lst (pa_cons (pe_mkr DMk Tc hr (pa_cons (pe_def D3 hr (pa_cons (pv 0) (pa_cons (pv 1) pa_nil))) pa_nil)) (pa_cons (pe_mkr DMk Tc hr (pa_cons (pe_def D3 hr (pa_cons (pv 0) (pa_cons (pv 1) pa_nil))) pa_nil)) pa_nil))))
      (pss_cons (ps_if (pt_cmpR (opNe DE hr) (pe_meth (pe_addF DA hr (pv 2) (pv 3)) Fc.cl mL GL' hr10 bL .nil pass0 (pa_cons (pe_ix (r := rIxS2 K) ix_sq (pv 4) pe_int (fun _ _ => rfl)) pa_nil))
          (pe_addF DA hr (pe_meth (pv 2) Fc.cl mL GL' hr10 bL .nil pass0 (pa_cons (pe_ix (r := rIxS2 K) ix_sq (pv 4) pe_int (fun _ _ => rfl)) pa_nil)) (pe_meth (pv 3) Fc.cl mL GL' hr10 bL .nil pass0 (pa_cons (pe_ix (r := rIxS2 K) ix_sq (pv 4) pe_int (fun _ _ => rfl)) pa_nil))) (nomark _)) pss_dead pss_nil)
      (pss_one (ps_ret (pe_and (pe_def D4 hr (pa_cons (pv 0) (pa_cons (pv 2) (pa_cons (pv 4) pa_nil)))) (pe_one (pe_def D5 hr (pa_cons (pv 0) (pa_cons (pv 2) pa_nil)))))))))), ?_⟩
    have hh : Has (some p) H := fun q e => by cases e; exact hp
    refine r_seq (r_asg (r_op ⟨_, rfl, p, 3, rfl, hp, by decide, by decide, fun r H1 r0 r1 s1 => ⟨_, _, rfl, rfl, ?_⟩⟩))
    obtain ⟨n, en⟩ : ∃ n : Nat, 1 + r = (n : Int) := ⟨(1 + r).toNat, by omega⟩
    have h1 : 1 ≤ n := by omega
    have h3 : n ≤ 3 := by omega
    have ev : (fun i j : Int => V.int (i + j)) 1 r = V.int (n : Int) := congrArg V.int en
    rw [ev]
    have hp1 := s1.pot p rfl hp
    have hs : ∀ G : Hp, PotOk G p → Has (some p) G := fun G h q e => by cases e; exact h
    -- forms
    refine r_next (r_nseq (r_par2 (r_cons (mkF (a3 ⟨_, rfl, _, rfl, p, n, 4, rfl, hp1, h1, h3, by decide, fun D2 H2 M s2 pM bM tM => MkF.of (.inl (py_un pM)) (grid_lm M) h1 h3 tM (bM.e (by decide : 4 < 2 ^ 3)) (by decide) fun c1 H3 s3 f3 => ?_⟩)))))
    have S3 := s1.trans (s2.trans (RX.of s3))
    have hp3 := S3.pot p rfl hp
    refine r_cons (mkF (a3 ⟨_, rfl, _, rfl, p, n, 4, rfl, hp3, h1, h3, by decide, fun D4 H4 N s4 pN bN tN => MkF.of (.inl (py_un pN)) (grid_lm N) h1 h3 tN (bN.e (by decide : 4 < 2 ^ 3)) (by decide) fun c2 H5 s5 f5 => ⟨_, _, rfl, ?_⟩⟩))
    have f5a := (f3.ks (KS.rx s4 (hs _ hp3))).same s5
    have S5 := S3.trans (s4.trans (RX.of s5))
    have hp5 := S5.pot p rfl hp
    clear f3 pM pN
    -- tables
    refine r_next (r_nseq (r_asg (r_lst (r_cons (mkA (a2 ⟨_, rfl, _, rfl, p, n, rfl, hp5, h1, h3, fun D6 H6 U s6 pU bU dU => MkA.of (.inl (py_un pU)) (grid_lm U) ⟨h1, h3, bU.sh, dU⟩ (bU.e (by decide : 27 < 2 ^ 5)) (by decide) fun t1 H7 s7 t7 => ?_⟩))))))
    have S7 := S5.trans (s6.trans (RX.of s7))
    have hp7 := S7.pot p rfl hp
    have k57 : KS H5 H7 := KS.rx (s6.trans (RX.of s7)) (hs _ hp5)
    refine r_cons (mkA (a2 ⟨_, rfl, _, rfl, p, n, rfl, hp7, h1, h3, fun D8 H8 W s8 pW bW dW => MkA.of (.inl (py_un pW)) (grid_lm W) ⟨h1, h3, bW.sh, dW⟩ (bW.e (by decide : 27 < 2 ^ 5)) (by decide) fun t2 H9 s9 t9 => ⟨(by show 2 ≤ sizeLine; decide), fun Dt nDt => ?_⟩⟩))
    have S9 := S7.trans (s8.trans (RX.of s9))
    have hp9 := S9.pot p rfl hp
    have k79 : KS H7 H9 := KS.rx (s8.trans (RX.of s9)) (hs _ hp7)
    have u9 := same_new (o := .lst [.ref t1, .ref t2]) nDt
    have et : upd H9 Dt (.lst [.ref t1, .ref t2]) Dt = some (.lst [.ref t1, .ref t2]) := upd_same
    have Dtp : Dt ≠ p := fun z => by subst z; exact hp9.some_ nDt
    generalize upd H9 Dt (.lst [.ref t1, .ref t2]) = G at u9 et
    have SG := S9.trans (RX.of (p := some p) u9)
    have fa := ((f5a.ks k57).ks k79).same u9
    have fb := ((f5.ks k57).ks k79).same u9
    have ta := (t7.ks k79).same u9
    have tb := t9.same u9
    have qt : ∀ G', Same G G' → SqV K G' false Dt [.ref t1, .ref t2] := fun G' s => .inl (.inl (s _ _ et))
    clear f5 f5a t7 t9
    refine r_next (r_nseq (r_if (r_tt (r_op (r_meth1 (r_op ⟨_, rfl, _, rfl, o_addF fa fb (fun d1 G1 s1 f1 => mth f1.tab ⟨_, rfl, false, Dt, _, ((0 : Nat) : Int), _, rfl, rfl, qt _ s1, atI_nat (j := 0) rfl, c_led f1 (ta.same s1) (fun d2 G2 s2 f2 => ?_) (by decide)⟩) (by decide)⟩))))))
    have s02 := s1.trans s2
    refine r_op (r_meth1 ⟨_, rfl, mth (fa.same s02).tab ⟨_, rfl, false, Dt, _, ((0 : Nat) : Int), _, rfl, rfl, qt _ s02, atI_nat (j := 0) rfl, c_led (fa.same s02) (ta.same s02) (fun d3 G3 s3 f3 => ?_) (by decide)⟩⟩)
    have s03 := s02.trans s3
    refine r_meth1 ⟨_, rfl, mth (fb.same s03).tab ⟨_, rfl, false, Dt, _, ((0 : Nat) : Int), _, rfl, rfl, qt _ s03, atI_nat (j := 0) rfl, c_led (fb.same s03) (ta.same s03) (fun d4 G4 s4 f4 => ?_) (by decide)⟩⟩
    refine o_addF (f3.same s4) f4 (fun d5 G5 s5 f5 => rd_ne (f2.same (s3.trans (s4.trans s5))).tab f5.tab ⟨_, rfl, ifF (ne_no (ld_add h1 h3 bM.sh bN.sh bU.sh)) ?_⟩) (by decide)
    have s05 := s03.trans (s4.trans s5)
    have S := SG.trans (RX.of (p := some p) s05)
    refine r_next (r_nret (r_andV (a3 ⟨_, rfl, _, rfl, _, rfl, p, Dt, _, _, _, M, U, W, n, rfl, S.pot p rfl hp, fa.same s05, Dtp, s05 _ _ et, ta.same s05, tb.same s05, fun G6 s6 => ⟨_, rfl, ifT rfl ?_⟩⟩)))
    have S6 := S.trans s6
    have hh5 : Has (some p) G5 := hs _ (S.pot p rfl hp)
    exact a2 ⟨_, rfl, _, rfl, p, _, M, n, rfl, S6.pot p rfl hp, (fa.same s05).ks (KS.rx s6 hh5), fun G7 s7 => q _ (S6.trans s7)⟩
end
section
variable {K : PySem.W.Frag} {P : Program} {w : World} {mg : Str → Option Value} {base : Heap} {F C : Addr}
abbrev st_law : Stmt := top 67
abbrev N_law : List Str := ["_law_script"]
theorem sc_law : FnScope N_law ["_law_script"] (defScope st_law) := ⟨rfl, rfl, rfl, by decide +kernel, rfl, by decide +kernel, by decide +kernel⟩
theorem ok_law {f : Addr} {fd : FuncData} (F' : Fun K "law" "law" st_law f fd) (D1 : Def P w K mg base "_law_pot" 1 ["_law_script", "_law_k"] (sp_pot K)) (D2 : DefG P w K mg base "_law_right" 12 ["_law_pot_here"] sp_right) :
    FnG P w K mg base CX0 13 f fd ["_law_script"] (sp_law K) := by
  refine okG F' sc_law (fun vs H Q E h => ?_) (fun cdv A outer s H vs Q E hst hr h => ?_)
  · obtain ⟨a, ns, rfl, _⟩ := h
    rfl
  · obtain ⟨a, ns, rfl, hS, hl, q⟩ := h
    refine ⟨_, pss_one (ps_ret (pe_defG D2 hst hr (pa_cons (pe_def D1 hr (pa_cons (pv 0) (pa_cons pe_int pa_nil))) pa_nil))), ?_⟩
    exact r_ret (a1 (a2 ⟨_, rfl, a, ns, _, rfl, hS, hl, by decide, by decide, fun p H4 np s4 hp4 => ⟨p, rfl, hp4, fun H5 s5 => q H5⟩⟩))
end
end T29
set_option Elab.async false
set_option linter.all false
set_option maxRecDepth 100000
set_option maxHeartbeats 4000000
namespace T29
open PySem PySem.Spec PyProof.Rows L2 Gd Zn Rp Dn Tb Gn En Zs Ct Op Oc Rg Rt Ro Oa Pw
theorem kit_no {K : PySem.W.Frag} {C : Addr} {T : String} (m : PySem.W.kitMeta T = true) (h : PySem.W.mroIn K C (.type T) = some false) : PySem.W.kitOne K (.ref C) (.type T) = some false := by
  unfold PySem.W.kitOne
  rw [if_neg (by intro e; cases beq_iff_eq.mp e)]
  show (if PySem.W.kitMeta T = true then PySem.W.subIn K (.ref C) (.type T) else none) = some false
  rw [if_pos m]
  exact h
theorem kitF_of {K : PySem.W.Frag} {C : Addr} (h2 : PySem.W.mroIn K C (.type "list") = some false) (h3 : PySem.W.mroIn K C (.type "tuple") = some false) : KitF K C :=
  ⟨kit_no (by decide +kernel) h2, kit_no (by decide +kernel) h3⟩
section
variable {P : Program} {w : World} {K : PySem.W.Frag} {mg : Str → Option Value} {base : Heap} {C : Addr}
abbrev st_idle : Stmt := top 39
theorem sc_idle : FnScope ["size"] ["size"] (defScope st_idle) := ⟨rfl, rfl, rfl, by decide +kernel, rfl, by decide +kernel, by decide +kernel⟩
theorem ok_idle {f : Addr} {fd : FuncData} (F : Fun K "idle" "idle" st_idle f fd) (Tc : Tcl K mg C) (D1 : Def P w K mg base "check_size" 2 ["size"] sp_check_size) (D2 : Def P w K mg base "unit_rows" 1 ["many"] sp_unit_rows) (D4 : Mkr P w K mg base C) : FnOk P w K mg base CX0 10 f fd ["size"] (sp_idle C) := by
  refine F.ok sc_idle (fun vs H Q E h => ?_) (fun cdv A outer s H vs Q E hr h => ?_)
  · obtain ⟨n, rfl, _⟩ := h
    rfl
  · obtain ⟨n, rfl, h1, h3, q⟩ := h
    refine ⟨_, pss_cons (ps_expr (pe_def D1 hr (pa_cons (pv 0) pa_nil)))
      (pss_one (ps_ret (pe_mkr D4 Tc hr (pa_cons (pe_def D2 hr (pa_cons (pv 0) pa_nil)) pa_nil)))), ?_⟩
    refine ⟨_, rfl, n, rfl, h1, h3, fun H1 s1 => ?_⟩
    refine ⟨_, rfl, n, rfl, h3, fun v' H2 s2 hM => ?_⟩
    exact make_tab hM (unit_sq n) h1 h3 (.inl (det_unit n h3)) fun c H3 s3 ht => q c H3 (s1.trans (s2.trans s3)) ht
end
end T29
set_option Elab.async false
set_option linter.all false
set_option maxRecDepth 100000
set_option maxHeartbeats 4000000
namespace T29
open PySem PySem.Spec PyProof.Rows L2 Gd Zn Rp Dn Tb Gn En Zs Ct Op Oc Rg Rt Ro Oa Pw
theorem all_mk {l : PySem.W.OpenLaw} {w : World} {K : PySem.W.Frag} {h : Heap} {mg : Str → Option Value} {fa : Addr} (X : K.In h) (G : h.Ns mainGlobals mg) (hfa : mg "law" = some (.ref fa))
    {C f_is_integer f_is_list f_is_row f_is_row_of f_check_row f_is_grid f_check_size f_copied f_unit_rows f_across f_scalar f_led_row f_multiplied f_without f_leading f_determinant_of f_cofactor f_trace_of f_polynomial_of f_check_table f_check_alike f_idle f_check_form f_corners f_signs f_is_bowl f_pit f_is_pit f_squares f_is_squares f_is_square_at f__leaned f__adds_up f__law_pot f__law_draw f__law_pick f__law_rows f__law_row f__law_table f__law_told f__law_worth f__law_way_right f__law_home_right f__law_right f_law f_T___init__ f_T_rows f_T_size f_T_determinant f_T___mul__ f_T_lead f_T_undone f_Fm___init__ f_Fm_rows f_Fm_size f_Fm_determinant f_Fm___eq__ f_Fm___add__ f_Fm_worth f_Fm_between f_Fm_led f_Fm_divisor : Addr}
    {od_is_integer an_is_integer od_is_list an_is_list od_is_row an_is_row od_is_row_of an_is_row_of od_check_row an_check_row od_is_grid an_is_grid od_check_size an_check_size od_copied an_copied od_unit_rows an_unit_rows od_across an_across od_scalar an_scalar od_led_row an_led_row od_multiplied an_multiplied od_without an_without od_leading an_leading od_determinant_of an_determinant_of od_cofactor an_cofactor od_trace_of an_trace_of od_polynomial_of an_polynomial_of od_check_table an_check_table od_check_alike an_check_alike od_idle an_idle od_check_form an_check_form od_corners an_corners od_signs an_signs od_is_bowl an_is_bowl od_pit an_pit od_is_pit an_is_pit od_squares an_squares od_is_squares an_is_squares od_is_square_at an_is_square_at od__leaned an__leaned od__adds_up an__adds_up od__law_pot an__law_pot od__law_draw an__law_draw od__law_pick an__law_pick od__law_rows an__law_rows od__law_row an__law_row od__law_table an__law_table od__law_told an__law_told od__law_worth an__law_worth od__law_way_right an__law_way_right od__law_home_right an__law_home_right od__law_right an__law_right od_law an_law od_T___init__ an_T___init__ od_T_rows an_T_rows od_T_size an_T_size od_T_determinant an_T_determinant od_T___mul__ an_T___mul__ od_T_lead an_T_lead od_T_undone an_T_undone od_Fm___init__ an_Fm___init__ od_Fm_rows an_Fm_rows od_Fm_size an_Fm_size od_Fm_determinant an_Fm_determinant od_Fm___eq__ an_Fm___eq__ od_Fm___add__ an_Fm___add__ od_Fm_worth an_Fm_worth od_Fm_between an_Fm_between od_Fm_led an_Fm_led od_Fm_divisor an_Fm_divisor : Option Addr}
    {sl_is_integer sl_is_list sl_is_row sl_is_row_of sl_check_row sl_is_grid sl_check_size sl_copied sl_unit_rows sl_across sl_scalar sl_led_row sl_multiplied sl_without sl_leading sl_determinant_of sl_cofactor sl_trace_of sl_polynomial_of sl_check_table sl_check_alike sl_idle sl_check_form sl_corners sl_signs sl_is_bowl sl_pit sl_is_pit sl_squares sl_is_squares sl_is_square_at sl__leaned sl__adds_up sl__law_pot sl__law_draw sl__law_pick sl__law_rows sl__law_row sl__law_table sl__law_told sl__law_worth sl__law_way_right sl__law_home_right sl__law_right sl_law sl_T___init__ sl_T_rows sl_T_size sl_T_determinant sl_T___mul__ sl_T_lead sl_T_undone sl_Fm___init__ sl_Fm_rows sl_Fm_size sl_Fm_determinant sl_Fm___eq__ sl_Fm___add__ sl_Fm_worth sl_Fm_between sl_Fm_led sl_Fm_divisor : Array (Option Value)}
    {oc_is_integer kV_is_integer dc_is_integer pm_is_integer cd_is_integer ct_is_integer oc_is_list kV_is_list dc_is_list pm_is_list cd_is_list ct_is_list oc_is_row kV_is_row dc_is_row pm_is_row cd_is_row ct_is_row oc_is_row_of kV_is_row_of dc_is_row_of pm_is_row_of cd_is_row_of ct_is_row_of oc_check_row kV_check_row dc_check_row pm_check_row cd_check_row ct_check_row oc_is_grid kV_is_grid dc_is_grid pm_is_grid cd_is_grid ct_is_grid oc_check_size kV_check_size dc_check_size pm_check_size cd_check_size ct_check_size oc_copied kV_copied dc_copied pm_copied cd_copied ct_copied oc_unit_rows kV_unit_rows dc_unit_rows pm_unit_rows cd_unit_rows ct_unit_rows oc_across kV_across dc_across pm_across cd_across ct_across oc_scalar kV_scalar dc_scalar pm_scalar cd_scalar ct_scalar oc_led_row kV_led_row dc_led_row pm_led_row cd_led_row ct_led_row oc_multiplied kV_multiplied dc_multiplied pm_multiplied cd_multiplied ct_multiplied oc_without kV_without dc_without pm_without cd_without ct_without oc_leading kV_leading dc_leading pm_leading cd_leading ct_leading oc_determinant_of kV_determinant_of dc_determinant_of pm_determinant_of cd_determinant_of ct_determinant_of oc_cofactor kV_cofactor dc_cofactor pm_cofactor cd_cofactor ct_cofactor oc_trace_of kV_trace_of dc_trace_of pm_trace_of cd_trace_of ct_trace_of oc_polynomial_of kV_polynomial_of dc_polynomial_of pm_polynomial_of cd_polynomial_of ct_polynomial_of oc_check_table kV_check_table dc_check_table pm_check_table cd_check_table ct_check_table oc_check_alike kV_check_alike dc_check_alike pm_check_alike cd_check_alike ct_check_alike oc_idle kV_idle dc_idle pm_idle cd_idle ct_idle oc_check_form kV_check_form dc_check_form pm_check_form cd_check_form ct_check_form oc_corners kV_corners dc_corners pm_corners cd_corners ct_corners oc_signs kV_signs dc_signs pm_signs cd_signs ct_signs oc_is_bowl kV_is_bowl dc_is_bowl pm_is_bowl cd_is_bowl ct_is_bowl oc_pit kV_pit dc_pit pm_pit cd_pit ct_pit oc_is_pit kV_is_pit dc_is_pit pm_is_pit cd_is_pit ct_is_pit oc_squares kV_squares dc_squares pm_squares cd_squares ct_squares oc_is_squares kV_is_squares dc_is_squares pm_is_squares cd_is_squares ct_is_squares oc_is_square_at kV_is_square_at dc_is_square_at pm_is_square_at cd_is_square_at ct_is_square_at oc__leaned kV__leaned dc__leaned pm__leaned cd__leaned ct__leaned oc__adds_up kV__adds_up dc__adds_up pm__adds_up cd__adds_up ct__adds_up oc__law_pot kV__law_pot dc__law_pot pm__law_pot cd__law_pot ct__law_pot oc__law_draw kV__law_draw dc__law_draw pm__law_draw cd__law_draw ct__law_draw oc__law_pick kV__law_pick dc__law_pick pm__law_pick cd__law_pick ct__law_pick oc__law_rows kV__law_rows dc__law_rows pm__law_rows cd__law_rows ct__law_rows oc__law_row kV__law_row dc__law_row pm__law_row cd__law_row ct__law_row oc__law_table kV__law_table dc__law_table pm__law_table cd__law_table ct__law_table oc__law_told kV__law_told dc__law_told pm__law_told cd__law_told ct__law_told oc__law_worth kV__law_worth dc__law_worth pm__law_worth cd__law_worth ct__law_worth oc__law_way_right kV__law_way_right dc__law_way_right pm__law_way_right cd__law_way_right ct__law_way_right oc__law_home_right kV__law_home_right dc__law_home_right pm__law_home_right cd__law_home_right ct__law_home_right oc__law_right kV__law_right dc__law_right pm__law_right cd__law_right ct__law_right oc_law kV_law dc_law pm_law cd_law ct_law oc_T___init__ kV_T___init__ dc_T___init__ pm_T___init__ cd_T___init__ ct_T___init__ oc_T_rows kV_T_rows dc_T_rows pm_T_rows cd_T_rows ct_T_rows oc_T_size kV_T_size dc_T_size pm_T_size cd_T_size ct_T_size oc_T_determinant kV_T_determinant dc_T_determinant pm_T_determinant cd_T_determinant ct_T_determinant oc_T___mul__ kV_T___mul__ dc_T___mul__ pm_T___mul__ cd_T___mul__ ct_T___mul__ oc_T_lead kV_T_lead dc_T_lead pm_T_lead cd_T_lead ct_T_lead oc_T_undone kV_T_undone dc_T_undone pm_T_undone cd_T_undone ct_T_undone oc_Fm___init__ kV_Fm___init__ dc_Fm___init__ pm_Fm___init__ cd_Fm___init__ ct_Fm___init__ oc_Fm_rows kV_Fm_rows dc_Fm_rows pm_Fm_rows cd_Fm_rows ct_Fm_rows oc_Fm_size kV_Fm_size dc_Fm_size pm_Fm_size cd_Fm_size ct_Fm_size oc_Fm_determinant kV_Fm_determinant dc_Fm_determinant pm_Fm_determinant cd_Fm_determinant ct_Fm_determinant oc_Fm___eq__ kV_Fm___eq__ dc_Fm___eq__ pm_Fm___eq__ cd_Fm___eq__ ct_Fm___eq__ oc_Fm___add__ kV_Fm___add__ dc_Fm___add__ pm_Fm___add__ cd_Fm___add__ ct_Fm___add__ oc_Fm_worth kV_Fm_worth dc_Fm_worth pm_Fm_worth cd_Fm_worth ct_Fm_worth oc_Fm_between kV_Fm_between dc_Fm_between pm_Fm_between cd_Fm_between ct_Fm_between oc_Fm_led kV_Fm_led dc_Fm_led pm_Fm_led cd_Fm_led ct_Fm_led oc_Fm_divisor kV_Fm_divisor dc_Fm_divisor pm_Fm_divisor cd_Fm_divisor ct_Fm_divisor : Value}
    {pp_T_rows pp_T_size pp_T_determinant pp_Fm_rows pp_Fm_size pp_Fm_determinant : Addr} {rs_T_rows rs_T_size rs_T_determinant rs_Fm_rows rs_Fm_size rs_Fm_determinant : List Value}
    {cld : ClassData} {mrest : List Value}
    {CF : Addr} {cldF : ClassData} {mrestF : List Value}
    (aC : PySem.W.nsIn K mainGlobals "Table" = some (some (.ref C)))
    (aCF : PySem.W.nsIn K mainGlobals "Form" = some (some (.ref CF)))
    (a_is_integer : PySem.W.nsIn K mainGlobals "is_integer" = some (some (.ref f_is_integer)))
    (l_is_integer : K.lookup f_is_integer = some ⟨oc_is_integer, od_is_integer, .func (PySem.W.fnOf "is_integer" "is_integer" (defArgs st_is_integer) (defBody st_is_integer) (defScope st_is_integer) .none kV_is_integer dc_is_integer pm_is_integer an_is_integer cd_is_integer ct_is_integer), sl_is_integer⟩)
    (c_is_integer : PySem.W.codeIn K cd_is_integer "is_integer" = true)
    (k_is_integer : PySem.W.keepIn K (.ref f_is_integer) = true)
    (a_is_list : PySem.W.nsIn K mainGlobals "is_list" = some (some (.ref f_is_list)))
    (l_is_list : K.lookup f_is_list = some ⟨oc_is_list, od_is_list, .func (PySem.W.fnOf "is_list" "is_list" (defArgs st_is_list) (defBody st_is_list) (defScope st_is_list) .none kV_is_list dc_is_list pm_is_list an_is_list cd_is_list ct_is_list), sl_is_list⟩)
    (c_is_list : PySem.W.codeIn K cd_is_list "is_list" = true)
    (k_is_list : PySem.W.keepIn K (.ref f_is_list) = true)
    (a_is_row : PySem.W.nsIn K mainGlobals "is_row" = some (some (.ref f_is_row)))
    (l_is_row : K.lookup f_is_row = some ⟨oc_is_row, od_is_row, .func (PySem.W.fnOf "is_row" "is_row" (defArgs st_is_row) (defBody st_is_row) (defScope st_is_row) .none kV_is_row dc_is_row pm_is_row an_is_row cd_is_row ct_is_row), sl_is_row⟩)
    (c_is_row : PySem.W.codeIn K cd_is_row "is_row" = true)
    (k_is_row : PySem.W.keepIn K (.ref f_is_row) = true)
    (a_is_row_of : PySem.W.nsIn K mainGlobals "is_row_of" = some (some (.ref f_is_row_of)))
    (l_is_row_of : K.lookup f_is_row_of = some ⟨oc_is_row_of, od_is_row_of, .func (PySem.W.fnOf "is_row_of" "is_row_of" (defArgs st_is_row_of) (defBody st_is_row_of) (defScope st_is_row_of) .none kV_is_row_of dc_is_row_of pm_is_row_of an_is_row_of cd_is_row_of ct_is_row_of), sl_is_row_of⟩)
    (c_is_row_of : PySem.W.codeIn K cd_is_row_of "is_row_of" = true)
    (k_is_row_of : PySem.W.keepIn K (.ref f_is_row_of) = true)
    (a_check_row : PySem.W.nsIn K mainGlobals "check_row" = some (some (.ref f_check_row)))
    (l_check_row : K.lookup f_check_row = some ⟨oc_check_row, od_check_row, .func (PySem.W.fnOf "check_row" "check_row" (defArgs st_check_row) (defBody st_check_row) (defScope st_check_row) .none kV_check_row dc_check_row pm_check_row an_check_row cd_check_row ct_check_row), sl_check_row⟩)
    (c_check_row : PySem.W.codeIn K cd_check_row "check_row" = true)
    (k_check_row : PySem.W.keepIn K (.ref f_check_row) = true)
    (a_is_grid : PySem.W.nsIn K mainGlobals "is_grid" = some (some (.ref f_is_grid)))
    (l_is_grid : K.lookup f_is_grid = some ⟨oc_is_grid, od_is_grid, .func (PySem.W.fnOf "is_grid" "is_grid" (defArgs st_is_grid) (defBody st_is_grid) (defScope st_is_grid) .none kV_is_grid dc_is_grid pm_is_grid an_is_grid cd_is_grid ct_is_grid), sl_is_grid⟩)
    (c_is_grid : PySem.W.codeIn K cd_is_grid "is_grid" = true)
    (k_is_grid : PySem.W.keepIn K (.ref f_is_grid) = true)
    (a_check_size : PySem.W.nsIn K mainGlobals "check_size" = some (some (.ref f_check_size)))
    (l_check_size : K.lookup f_check_size = some ⟨oc_check_size, od_check_size, .func (PySem.W.fnOf "check_size" "check_size" (defArgs st_check_size) (defBody st_check_size) (defScope st_check_size) .none kV_check_size dc_check_size pm_check_size an_check_size cd_check_size ct_check_size), sl_check_size⟩)
    (c_check_size : PySem.W.codeIn K cd_check_size "check_size" = true)
    (k_check_size : PySem.W.keepIn K (.ref f_check_size) = true)
    (a_copied : PySem.W.nsIn K mainGlobals "copied" = some (some (.ref f_copied)))
    (l_copied : K.lookup f_copied = some ⟨oc_copied, od_copied, .func (PySem.W.fnOf "copied" "copied" (defArgs st_copied) (defBody st_copied) (defScope st_copied) .none kV_copied dc_copied pm_copied an_copied cd_copied ct_copied), sl_copied⟩)
    (c_copied : PySem.W.codeIn K cd_copied "copied" = true)
    (k_copied : PySem.W.keepIn K (.ref f_copied) = true)
    (a_unit_rows : PySem.W.nsIn K mainGlobals "unit_rows" = some (some (.ref f_unit_rows)))
    (l_unit_rows : K.lookup f_unit_rows = some ⟨oc_unit_rows, od_unit_rows, .func (PySem.W.fnOf "unit_rows" "unit_rows" (defArgs st_unit_rows) (defBody st_unit_rows) (defScope st_unit_rows) .none kV_unit_rows dc_unit_rows pm_unit_rows an_unit_rows cd_unit_rows ct_unit_rows), sl_unit_rows⟩)
    (c_unit_rows : PySem.W.codeIn K cd_unit_rows "unit_rows" = true)
    (k_unit_rows : PySem.W.keepIn K (.ref f_unit_rows) = true)
    (a_across : PySem.W.nsIn K mainGlobals "across" = some (some (.ref f_across)))
    (l_across : K.lookup f_across = some ⟨oc_across, od_across, .func (PySem.W.fnOf "across" "across" (defArgs st_across) (defBody st_across) (defScope st_across) .none kV_across dc_across pm_across an_across cd_across ct_across), sl_across⟩)
    (c_across : PySem.W.codeIn K cd_across "across" = true)
    (k_across : PySem.W.keepIn K (.ref f_across) = true)
    (a_scalar : PySem.W.nsIn K mainGlobals "scalar" = some (some (.ref f_scalar)))
    (l_scalar : K.lookup f_scalar = some ⟨oc_scalar, od_scalar, .func (PySem.W.fnOf "scalar" "scalar" (defArgs st_scalar) (defBody st_scalar) (defScope st_scalar) .none kV_scalar dc_scalar pm_scalar an_scalar cd_scalar ct_scalar), sl_scalar⟩)
    (c_scalar : PySem.W.codeIn K cd_scalar "scalar" = true)
    (k_scalar : PySem.W.keepIn K (.ref f_scalar) = true)
    (a_led_row : PySem.W.nsIn K mainGlobals "led_row" = some (some (.ref f_led_row)))
    (l_led_row : K.lookup f_led_row = some ⟨oc_led_row, od_led_row, .func (PySem.W.fnOf "led_row" "led_row" (defArgs st_led_row) (defBody st_led_row) (defScope st_led_row) .none kV_led_row dc_led_row pm_led_row an_led_row cd_led_row ct_led_row), sl_led_row⟩)
    (c_led_row : PySem.W.codeIn K cd_led_row "led_row" = true)
    (k_led_row : PySem.W.keepIn K (.ref f_led_row) = true)
    (a_multiplied : PySem.W.nsIn K mainGlobals "multiplied" = some (some (.ref f_multiplied)))
    (l_multiplied : K.lookup f_multiplied = some ⟨oc_multiplied, od_multiplied, .func (PySem.W.fnOf "multiplied" "multiplied" (defArgs st_multiplied) (defBody st_multiplied) (defScope st_multiplied) .none kV_multiplied dc_multiplied pm_multiplied an_multiplied cd_multiplied ct_multiplied), sl_multiplied⟩)
    (c_multiplied : PySem.W.codeIn K cd_multiplied "multiplied" = true)
    (k_multiplied : PySem.W.keepIn K (.ref f_multiplied) = true)
    (a_without : PySem.W.nsIn K mainGlobals "without" = some (some (.ref f_without)))
    (l_without : K.lookup f_without = some ⟨oc_without, od_without, .func (PySem.W.fnOf "without" "without" (defArgs st_without) (defBody st_without) (defScope st_without) .none kV_without dc_without pm_without an_without cd_without ct_without), sl_without⟩)
    (c_without : PySem.W.codeIn K cd_without "without" = true)
    (k_without : PySem.W.keepIn K (.ref f_without) = true)
    (a_leading : PySem.W.nsIn K mainGlobals "leading" = some (some (.ref f_leading)))
    (l_leading : K.lookup f_leading = some ⟨oc_leading, od_leading, .func (PySem.W.fnOf "leading" "leading" (defArgs st_leading) (defBody st_leading) (defScope st_leading) .none kV_leading dc_leading pm_leading an_leading cd_leading ct_leading), sl_leading⟩)
    (c_leading : PySem.W.codeIn K cd_leading "leading" = true)
    (k_leading : PySem.W.keepIn K (.ref f_leading) = true)
    (a_determinant_of : PySem.W.nsIn K mainGlobals "determinant_of" = some (some (.ref f_determinant_of)))
    (l_determinant_of : K.lookup f_determinant_of = some ⟨oc_determinant_of, od_determinant_of, .func (PySem.W.fnOf "determinant_of" "determinant_of" (defArgs st_det) (defBody st_det) (defScope st_det) .none kV_determinant_of dc_determinant_of pm_determinant_of an_determinant_of cd_determinant_of ct_determinant_of), sl_determinant_of⟩)
    (c_determinant_of : PySem.W.codeIn K cd_determinant_of "determinant_of" = true)
    (k_determinant_of : PySem.W.keepIn K (.ref f_determinant_of) = true)
    (a_cofactor : PySem.W.nsIn K mainGlobals "cofactor" = some (some (.ref f_cofactor)))
    (l_cofactor : K.lookup f_cofactor = some ⟨oc_cofactor, od_cofactor, .func (PySem.W.fnOf "cofactor" "cofactor" (defArgs st_cofactor) (defBody st_cofactor) (defScope st_cofactor) .none kV_cofactor dc_cofactor pm_cofactor an_cofactor cd_cofactor ct_cofactor), sl_cofactor⟩)
    (c_cofactor : PySem.W.codeIn K cd_cofactor "cofactor" = true)
    (k_cofactor : PySem.W.keepIn K (.ref f_cofactor) = true)
    (a_trace_of : PySem.W.nsIn K mainGlobals "trace_of" = some (some (.ref f_trace_of)))
    (l_trace_of : K.lookup f_trace_of = some ⟨oc_trace_of, od_trace_of, .func (PySem.W.fnOf "trace_of" "trace_of" (defArgs st_trace_of) (defBody st_trace_of) (defScope st_trace_of) .none kV_trace_of dc_trace_of pm_trace_of an_trace_of cd_trace_of ct_trace_of), sl_trace_of⟩)
    (c_trace_of : PySem.W.codeIn K cd_trace_of "trace_of" = true)
    (k_trace_of : PySem.W.keepIn K (.ref f_trace_of) = true)
    (a_polynomial_of : PySem.W.nsIn K mainGlobals "polynomial_of" = some (some (.ref f_polynomial_of)))
    (l_polynomial_of : K.lookup f_polynomial_of = some ⟨oc_polynomial_of, od_polynomial_of, .func (PySem.W.fnOf "polynomial_of" "polynomial_of" (defArgs st_pol_of) (defBody st_pol_of) (defScope st_pol_of) .none kV_polynomial_of dc_polynomial_of pm_polynomial_of an_polynomial_of cd_polynomial_of ct_polynomial_of), sl_polynomial_of⟩)
    (c_polynomial_of : PySem.W.codeIn K cd_polynomial_of "polynomial_of" = true)
    (k_polynomial_of : PySem.W.keepIn K (.ref f_polynomial_of) = true)
    (a_check_table : PySem.W.nsIn K mainGlobals "check_table" = some (some (.ref f_check_table)))
    (l_check_table : K.lookup f_check_table = some ⟨oc_check_table, od_check_table, .func (PySem.W.fnOf "check_table" "check_table" (defArgs st_check_table) (defBody st_check_table) (defScope st_check_table) .none kV_check_table dc_check_table pm_check_table an_check_table cd_check_table ct_check_table), sl_check_table⟩)
    (c_check_table : PySem.W.codeIn K cd_check_table "check_table" = true)
    (k_check_table : PySem.W.keepIn K (.ref f_check_table) = true)
    (a_check_alike : PySem.W.nsIn K mainGlobals "check_alike" = some (some (.ref f_check_alike)))
    (l_check_alike : K.lookup f_check_alike = some ⟨oc_check_alike, od_check_alike, .func (PySem.W.fnOf "check_alike" "check_alike" (defArgs st_check_alike) (defBody st_check_alike) (defScope st_check_alike) .none kV_check_alike dc_check_alike pm_check_alike an_check_alike cd_check_alike ct_check_alike), sl_check_alike⟩)
    (c_check_alike : PySem.W.codeIn K cd_check_alike "check_alike" = true)
    (k_check_alike : PySem.W.keepIn K (.ref f_check_alike) = true)
    (a_idle : PySem.W.nsIn K mainGlobals "idle" = some (some (.ref f_idle)))
    (l_idle : K.lookup f_idle = some ⟨oc_idle, od_idle, .func (PySem.W.fnOf "idle" "idle" (defArgs st_idle) (defBody st_idle) (defScope st_idle) .none kV_idle dc_idle pm_idle an_idle cd_idle ct_idle), sl_idle⟩)
    (c_idle : PySem.W.codeIn K cd_idle "idle" = true)
    (k_idle : PySem.W.keepIn K (.ref f_idle) = true)
    (a_check_form : PySem.W.nsIn K mainGlobals "check_form" = some (some (.ref f_check_form)))
    (l_check_form : K.lookup f_check_form = some ⟨oc_check_form, od_check_form, .func (PySem.W.fnOf "check_form" "check_form" (defArgs st_check_form) (defBody st_check_form) (defScope st_check_form) .none kV_check_form dc_check_form pm_check_form an_check_form cd_check_form ct_check_form), sl_check_form⟩)
    (c_check_form : PySem.W.codeIn K cd_check_form "check_form" = true)
    (k_check_form : PySem.W.keepIn K (.ref f_check_form) = true)
    (a_corners : PySem.W.nsIn K mainGlobals "corners" = some (some (.ref f_corners)))
    (l_corners : K.lookup f_corners = some ⟨oc_corners, od_corners, .func (PySem.W.fnOf "corners" "corners" (defArgs st_corners) (defBody st_corners) (defScope st_corners) .none kV_corners dc_corners pm_corners an_corners cd_corners ct_corners), sl_corners⟩)
    (c_corners : PySem.W.codeIn K cd_corners "corners" = true)
    (k_corners : PySem.W.keepIn K (.ref f_corners) = true)
    (a_signs : PySem.W.nsIn K mainGlobals "signs" = some (some (.ref f_signs)))
    (l_signs : K.lookup f_signs = some ⟨oc_signs, od_signs, .func (PySem.W.fnOf "signs" "signs" (defArgs st_sg) (defBody st_sg) (defScope st_sg) .none kV_signs dc_signs pm_signs an_signs cd_signs ct_signs), sl_signs⟩)
    (c_signs : PySem.W.codeIn K cd_signs "signs" = true)
    (k_signs : PySem.W.keepIn K (.ref f_signs) = true)
    (a_is_bowl : PySem.W.nsIn K mainGlobals "is_bowl" = some (some (.ref f_is_bowl)))
    (l_is_bowl : K.lookup f_is_bowl = some ⟨oc_is_bowl, od_is_bowl, .func (PySem.W.fnOf "is_bowl" "is_bowl" (defArgs st_bowl) (defBody st_bowl) (defScope st_bowl) .none kV_is_bowl dc_is_bowl pm_is_bowl an_is_bowl cd_is_bowl ct_is_bowl), sl_is_bowl⟩)
    (c_is_bowl : PySem.W.codeIn K cd_is_bowl "is_bowl" = true)
    (k_is_bowl : PySem.W.keepIn K (.ref f_is_bowl) = true)
    (a_pit : PySem.W.nsIn K mainGlobals "pit" = some (some (.ref f_pit)))
    (l_pit : K.lookup f_pit = some ⟨oc_pit, od_pit, .func (PySem.W.fnOf "pit" "pit" (defArgs st_pit) (defBody st_pit) (defScope st_pit) .none kV_pit dc_pit pm_pit an_pit cd_pit ct_pit), sl_pit⟩)
    (c_pit : PySem.W.codeIn K cd_pit "pit" = true)
    (k_pit : PySem.W.keepIn K (.ref f_pit) = true)
    (a_is_pit : PySem.W.nsIn K mainGlobals "is_pit" = some (some (.ref f_is_pit)))
    (l_is_pit : K.lookup f_is_pit = some ⟨oc_is_pit, od_is_pit, .func (PySem.W.fnOf "is_pit" "is_pit" (defArgs st_is_pit) (defBody st_is_pit) (defScope st_is_pit) .none kV_is_pit dc_is_pit pm_is_pit an_is_pit cd_is_pit ct_is_pit), sl_is_pit⟩)
    (c_is_pit : PySem.W.codeIn K cd_is_pit "is_pit" = true)
    (k_is_pit : PySem.W.keepIn K (.ref f_is_pit) = true)
    (a_squares : PySem.W.nsIn K mainGlobals "squares" = some (some (.ref f_squares)))
    (l_squares : K.lookup f_squares = some ⟨oc_squares, od_squares, .func (PySem.W.fnOf "squares" "squares" (defArgs st_sqs) (defBody st_sqs) (defScope st_sqs) .none kV_squares dc_squares pm_squares an_squares cd_squares ct_squares), sl_squares⟩)
    (c_squares : PySem.W.codeIn K cd_squares "squares" = true)
    (k_squares : PySem.W.keepIn K (.ref f_squares) = true)
    (a_is_squares : PySem.W.nsIn K mainGlobals "is_squares" = some (some (.ref f_is_squares)))
    (l_is_squares : K.lookup f_is_squares = some ⟨oc_is_squares, od_is_squares, .func (PySem.W.fnOf "is_squares" "is_squares" (defArgs st_isq) (defBody st_isq) (defScope st_isq) .none kV_is_squares dc_is_squares pm_is_squares an_is_squares cd_is_squares ct_is_squares), sl_is_squares⟩)
    (c_is_squares : PySem.W.codeIn K cd_is_squares "is_squares" = true)
    (k_is_squares : PySem.W.keepIn K (.ref f_is_squares) = true)
    (a_is_square_at : PySem.W.nsIn K mainGlobals "is_square_at" = some (some (.ref f_is_square_at)))
    (l_is_square_at : K.lookup f_is_square_at = some ⟨oc_is_square_at, od_is_square_at, .func (PySem.W.fnOf "is_square_at" "is_square_at" (defArgs st_isat) (defBody st_isat) (defScope st_isat) .none kV_is_square_at dc_is_square_at pm_is_square_at an_is_square_at cd_is_square_at ct_is_square_at), sl_is_square_at⟩)
    (c_is_square_at : PySem.W.codeIn K cd_is_square_at "is_square_at" = true)
    (k_is_square_at : PySem.W.keepIn K (.ref f_is_square_at) = true)
    (a__leaned : PySem.W.nsIn K mainGlobals "_leaned" = some (some (.ref f__leaned)))
    (l__leaned : K.lookup f__leaned = some ⟨oc__leaned, od__leaned, .func (PySem.W.fnOf "_leaned" "_leaned" (defArgs st_lea) (defBody st_lea) (defScope st_lea) .none kV__leaned dc__leaned pm__leaned an__leaned cd__leaned ct__leaned), sl__leaned⟩)
    (c__leaned : PySem.W.codeIn K cd__leaned "_leaned" = true)
    (k__leaned : PySem.W.keepIn K (.ref f__leaned) = true)
    (a__adds_up : PySem.W.nsIn K mainGlobals "_adds_up" = some (some (.ref f__adds_up)))
    (l__adds_up : K.lookup f__adds_up = some ⟨oc__adds_up, od__adds_up, .func (PySem.W.fnOf "_adds_up" "_adds_up" (defArgs st_adds) (defBody st_adds) (defScope st_adds) .none kV__adds_up dc__adds_up pm__adds_up an__adds_up cd__adds_up ct__adds_up), sl__adds_up⟩)
    (c__adds_up : PySem.W.codeIn K cd__adds_up "_adds_up" = true)
    (k__adds_up : PySem.W.keepIn K (.ref f__adds_up) = true)
    (a__law_pot : PySem.W.nsIn K mainGlobals "_law_pot" = some (some (.ref f__law_pot)))
    (l__law_pot : K.lookup f__law_pot = some ⟨oc__law_pot, od__law_pot, .func (PySem.W.fnOf "_law_pot" "_law_pot" (defArgs st_pot) (defBody st_pot) (defScope st_pot) .none kV__law_pot dc__law_pot pm__law_pot an__law_pot cd__law_pot ct__law_pot), sl__law_pot⟩)
    (c__law_pot : PySem.W.codeIn K cd__law_pot "_law_pot" = true)
    (k__law_pot : PySem.W.keepIn K (.ref f__law_pot) = true)
    (a__law_draw : PySem.W.nsIn K mainGlobals "_law_draw" = some (some (.ref f__law_draw)))
    (l__law_draw : K.lookup f__law_draw = some ⟨oc__law_draw, od__law_draw, .func (PySem.W.fnOf "_law_draw" "_law_draw" (defArgs st_draw) (defBody st_draw) (defScope st_draw) .none kV__law_draw dc__law_draw pm__law_draw an__law_draw cd__law_draw ct__law_draw), sl__law_draw⟩)
    (c__law_draw : PySem.W.codeIn K cd__law_draw "_law_draw" = true)
    (k__law_draw : PySem.W.keepIn K (.ref f__law_draw) = true)
    (a__law_pick : PySem.W.nsIn K mainGlobals "_law_pick" = some (some (.ref f__law_pick)))
    (l__law_pick : K.lookup f__law_pick = some ⟨oc__law_pick, od__law_pick, .func (PySem.W.fnOf "_law_pick" "_law_pick" (defArgs st_pick) (defBody st_pick) (defScope st_pick) .none kV__law_pick dc__law_pick pm__law_pick an__law_pick cd__law_pick ct__law_pick), sl__law_pick⟩)
    (c__law_pick : PySem.W.codeIn K cd__law_pick "_law_pick" = true)
    (k__law_pick : PySem.W.keepIn K (.ref f__law_pick) = true)
    (a__law_rows : PySem.W.nsIn K mainGlobals "_law_rows" = some (some (.ref f__law_rows)))
    (l__law_rows : K.lookup f__law_rows = some ⟨oc__law_rows, od__law_rows, .func (PySem.W.fnOf "_law_rows" "_law_rows" (defArgs st_lrows) (defBody st_lrows) (defScope st_lrows) .none kV__law_rows dc__law_rows pm__law_rows an__law_rows cd__law_rows ct__law_rows), sl__law_rows⟩)
    (c__law_rows : PySem.W.codeIn K cd__law_rows "_law_rows" = true)
    (k__law_rows : PySem.W.keepIn K (.ref f__law_rows) = true)
    (a__law_row : PySem.W.nsIn K mainGlobals "_law_row" = some (some (.ref f__law_row)))
    (l__law_row : K.lookup f__law_row = some ⟨oc__law_row, od__law_row, .func (PySem.W.fnOf "_law_row" "_law_row" (defArgs st_lrow) (defBody st_lrow) (defScope st_lrow) .none kV__law_row dc__law_row pm__law_row an__law_row cd__law_row ct__law_row), sl__law_row⟩)
    (c__law_row : PySem.W.codeIn K cd__law_row "_law_row" = true)
    (k__law_row : PySem.W.keepIn K (.ref f__law_row) = true)
    (a__law_table : PySem.W.nsIn K mainGlobals "_law_table" = some (some (.ref f__law_table)))
    (l__law_table : K.lookup f__law_table = some ⟨oc__law_table, od__law_table, .func (PySem.W.fnOf "_law_table" "_law_table" (defArgs st_ltab) (defBody st_ltab) (defScope st_ltab) .none kV__law_table dc__law_table pm__law_table an__law_table cd__law_table ct__law_table), sl__law_table⟩)
    (c__law_table : PySem.W.codeIn K cd__law_table "_law_table" = true)
    (k__law_table : PySem.W.keepIn K (.ref f__law_table) = true)
    (a__law_told : PySem.W.nsIn K mainGlobals "_law_told" = some (some (.ref f__law_told)))
    (l__law_told : K.lookup f__law_told = some ⟨oc__law_told, od__law_told, .func (PySem.W.fnOf "_law_told" "_law_told" (defArgs st_ltold) (defBody st_ltold) (defScope st_ltold) .none kV__law_told dc__law_told pm__law_told an__law_told cd__law_told ct__law_told), sl__law_told⟩)
    (c__law_told : PySem.W.codeIn K cd__law_told "_law_told" = true)
    (k__law_told : PySem.W.keepIn K (.ref f__law_told) = true)
    (a__law_worth : PySem.W.nsIn K mainGlobals "_law_worth" = some (some (.ref f__law_worth)))
    (l__law_worth : K.lookup f__law_worth = some ⟨oc__law_worth, od__law_worth, .func (PySem.W.fnOf "_law_worth" "_law_worth" (defArgs st_lw) (defBody st_lw) (defScope st_lw) .none kV__law_worth dc__law_worth pm__law_worth an__law_worth cd__law_worth ct__law_worth), sl__law_worth⟩)
    (c__law_worth : PySem.W.codeIn K cd__law_worth "_law_worth" = true)
    (k__law_worth : PySem.W.keepIn K (.ref f__law_worth) = true)
    (a__law_way_right : PySem.W.nsIn K mainGlobals "_law_way_right" = some (some (.ref f__law_way_right)))
    (l__law_way_right : K.lookup f__law_way_right = some ⟨oc__law_way_right, od__law_way_right, .func (PySem.W.fnOf "_law_way_right" "_law_way_right" (defArgs st_wr) (defBody st_wr) (defScope st_wr) .none kV__law_way_right dc__law_way_right pm__law_way_right an__law_way_right cd__law_way_right ct__law_way_right), sl__law_way_right⟩)
    (c__law_way_right : PySem.W.codeIn K cd__law_way_right "_law_way_right" = true)
    (k__law_way_right : PySem.W.keepIn K (.ref f__law_way_right) = true)
    (a__law_home_right : PySem.W.nsIn K mainGlobals "_law_home_right" = some (some (.ref f__law_home_right)))
    (l__law_home_right : K.lookup f__law_home_right = some ⟨oc__law_home_right, od__law_home_right, .func (PySem.W.fnOf "_law_home_right" "_law_home_right" (defArgs st_hr) (defBody st_hr) (defScope st_hr) .none kV__law_home_right dc__law_home_right pm__law_home_right an__law_home_right cd__law_home_right ct__law_home_right), sl__law_home_right⟩)
    (c__law_home_right : PySem.W.codeIn K cd__law_home_right "_law_home_right" = true)
    (k__law_home_right : PySem.W.keepIn K (.ref f__law_home_right) = true)
    (a__law_right : PySem.W.nsIn K mainGlobals "_law_right" = some (some (.ref f__law_right)))
    (l__law_right : K.lookup f__law_right = some ⟨oc__law_right, od__law_right, .func (PySem.W.fnOf "_law_right" "_law_right" (defArgs st_ri) (defBody st_ri) (defScope st_ri) .none kV__law_right dc__law_right pm__law_right an__law_right cd__law_right ct__law_right), sl__law_right⟩)
    (c__law_right : PySem.W.codeIn K cd__law_right "_law_right" = true)
    (k__law_right : PySem.W.keepIn K (.ref f__law_right) = true)
    (a_law : PySem.W.nsIn K mainGlobals "law" = some (some (.ref f_law)))
    (l_law : K.lookup f_law = some ⟨oc_law, od_law, .func (PySem.W.fnOf "law" "law" (defArgs st_law) (defBody st_law) (defScope st_law) .none kV_law dc_law pm_law an_law cd_law ct_law), sl_law⟩)
    (c_law : PySem.W.codeIn K cd_law "law" = true)
    (k_law : PySem.W.keepIn K (.ref f_law) = true)
    (a_T___init__ : PySem.W.findIn K (.ref C) "__init__" = some (some (.ref f_T___init__)))
    (i_T___init__ : PySem.W.isFn K (.ref f_T___init__) = true)
    (l_T___init__ : K.lookup f_T___init__ = some ⟨oc_T___init__, od_T___init__, .func (PySem.W.fnOf "__init__" "Table.__init__" (defArgs (st_T 0)) (defBody (st_T 0)) (defScope (st_T 0)) .none kV_T___init__ dc_T___init__ pm_T___init__ an_T___init__ cd_T___init__ ct_T___init__), sl_T___init__⟩)
    (c_T___init__ : PySem.W.codeIn K cd_T___init__ "Table.__init__" = true)
    (k_T___init__ : PySem.W.keepIn K (.ref f_T___init__) = true)
    (p_T_rows : PySem.W.findIn K (.ref C) "rows" = some (some (.ref pp_T_rows)))
    (g_T_rows : PySem.W.specialIn K (.ref pp_T_rows) "__get__" = some (some (.builtin "property.__get__")))
    (t_T_rows : PySem.W.takesIn K (.ref pp_T_rows) = some true)
    (r_T_rows : PySem.W.recIn K pp_T_rows "property" = some (.ref f_T_rows :: rs_T_rows))
    (l_T_rows : K.lookup f_T_rows = some ⟨oc_T_rows, od_T_rows, .func (PySem.W.fnOf "rows" "Table.rows" (defArgs (st_T 1)) (defBody (st_T 1)) (defScope (st_T 1)) .none kV_T_rows dc_T_rows pm_T_rows an_T_rows cd_T_rows ct_T_rows), sl_T_rows⟩)
    (c_T_rows : PySem.W.codeIn K cd_T_rows "Table.rows" = true)
    (k_T_rows : PySem.W.keepIn K (.ref f_T_rows) = true)
    (p_T_size : PySem.W.findIn K (.ref C) "size" = some (some (.ref pp_T_size)))
    (g_T_size : PySem.W.specialIn K (.ref pp_T_size) "__get__" = some (some (.builtin "property.__get__")))
    (t_T_size : PySem.W.takesIn K (.ref pp_T_size) = some true)
    (r_T_size : PySem.W.recIn K pp_T_size "property" = some (.ref f_T_size :: rs_T_size))
    (l_T_size : K.lookup f_T_size = some ⟨oc_T_size, od_T_size, .func (PySem.W.fnOf "size" "Table.size" (defArgs (st_T 2)) (defBody (st_T 2)) (defScope (st_T 2)) .none kV_T_size dc_T_size pm_T_size an_T_size cd_T_size ct_T_size), sl_T_size⟩)
    (c_T_size : PySem.W.codeIn K cd_T_size "Table.size" = true)
    (k_T_size : PySem.W.keepIn K (.ref f_T_size) = true)
    (p_T_determinant : PySem.W.findIn K (.ref C) "determinant" = some (some (.ref pp_T_determinant)))
    (g_T_determinant : PySem.W.specialIn K (.ref pp_T_determinant) "__get__" = some (some (.builtin "property.__get__")))
    (t_T_determinant : PySem.W.takesIn K (.ref pp_T_determinant) = some true)
    (r_T_determinant : PySem.W.recIn K pp_T_determinant "property" = some (.ref f_T_determinant :: rs_T_determinant))
    (l_T_determinant : K.lookup f_T_determinant = some ⟨oc_T_determinant, od_T_determinant, .func (PySem.W.fnOf "determinant" "Table.determinant" (defArgs (st_T 3)) (defBody (st_T 3)) (defScope (st_T 3)) .none kV_T_determinant dc_T_determinant pm_T_determinant an_T_determinant cd_T_determinant ct_T_determinant), sl_T_determinant⟩)
    (c_T_determinant : PySem.W.codeIn K cd_T_determinant "Table.determinant" = true)
    (k_T_determinant : PySem.W.keepIn K (.ref f_T_determinant) = true)
    (a_T___mul__ : PySem.W.findIn K (.ref C) "__mul__" = some (some (.ref f_T___mul__)))
    (i_T___mul__ : PySem.W.isFn K (.ref f_T___mul__) = true)
    (l_T___mul__ : K.lookup f_T___mul__ = some ⟨oc_T___mul__, od_T___mul__, .func (PySem.W.fnOf "__mul__" "Table.__mul__" (defArgs (st_T 7)) (defBody (st_T 7)) (defScope (st_T 7)) .none kV_T___mul__ dc_T___mul__ pm_T___mul__ an_T___mul__ cd_T___mul__ ct_T___mul__), sl_T___mul__⟩)
    (c_T___mul__ : PySem.W.codeIn K cd_T___mul__ "Table.__mul__" = true)
    (k_T___mul__ : PySem.W.keepIn K (.ref f_T___mul__) = true)
    (a_T_lead : PySem.W.findIn K (.ref C) "lead" = some (some (.ref f_T_lead)))
    (i_T_lead : PySem.W.isFn K (.ref f_T_lead) = true)
    (l_T_lead : K.lookup f_T_lead = some ⟨oc_T_lead, od_T_lead, .func (PySem.W.fnOf "lead" "Table.lead" (defArgs (st_T 8)) (defBody (st_T 8)) (defScope (st_T 8)) .none kV_T_lead dc_T_lead pm_T_lead an_T_lead cd_T_lead ct_T_lead), sl_T_lead⟩)
    (c_T_lead : PySem.W.codeIn K cd_T_lead "Table.lead" = true)
    (k_T_lead : PySem.W.keepIn K (.ref f_T_lead) = true)
    (a_T_undone : PySem.W.findIn K (.ref C) "undone" = some (some (.ref f_T_undone)))
    (i_T_undone : PySem.W.isFn K (.ref f_T_undone) = true)
    (l_T_undone : K.lookup f_T_undone = some ⟨oc_T_undone, od_T_undone, .func (PySem.W.fnOf "undone" "Table.undone" (defArgs (st_T 9)) (defBody (st_T 9)) (defScope (st_T 9)) .none kV_T_undone dc_T_undone pm_T_undone an_T_undone cd_T_undone ct_T_undone), sl_T_undone⟩)
    (c_T_undone : PySem.W.codeIn K cd_T_undone "Table.undone" = true)
    (k_T_undone : PySem.W.keepIn K (.ref f_T_undone) = true)
    (a_Fm___init__ : PySem.W.findIn K (.ref CF) "__init__" = some (some (.ref f_Fm___init__)))
    (i_Fm___init__ : PySem.W.isFn K (.ref f_Fm___init__) = true)
    (l_Fm___init__ : K.lookup f_Fm___init__ = some ⟨oc_Fm___init__, od_Fm___init__, .func (PySem.W.fnOf "__init__" "Form.__init__" (defArgs (st_F 0)) (defBody (st_F 0)) (defScope (st_F 0)) .none kV_Fm___init__ dc_Fm___init__ pm_Fm___init__ an_Fm___init__ cd_Fm___init__ ct_Fm___init__), sl_Fm___init__⟩)
    (c_Fm___init__ : PySem.W.codeIn K cd_Fm___init__ "Form.__init__" = true)
    (k_Fm___init__ : PySem.W.keepIn K (.ref f_Fm___init__) = true)
    (p_Fm_rows : PySem.W.findIn K (.ref CF) "rows" = some (some (.ref pp_Fm_rows)))
    (g_Fm_rows : PySem.W.specialIn K (.ref pp_Fm_rows) "__get__" = some (some (.builtin "property.__get__")))
    (t_Fm_rows : PySem.W.takesIn K (.ref pp_Fm_rows) = some true)
    (r_Fm_rows : PySem.W.recIn K pp_Fm_rows "property" = some (.ref f_Fm_rows :: rs_Fm_rows))
    (l_Fm_rows : K.lookup f_Fm_rows = some ⟨oc_Fm_rows, od_Fm_rows, .func (PySem.W.fnOf "rows" "Form.rows" (defArgs (st_F 1)) (defBody (st_F 1)) (defScope (st_F 1)) .none kV_Fm_rows dc_Fm_rows pm_Fm_rows an_Fm_rows cd_Fm_rows ct_Fm_rows), sl_Fm_rows⟩)
    (c_Fm_rows : PySem.W.codeIn K cd_Fm_rows "Form.rows" = true)
    (k_Fm_rows : PySem.W.keepIn K (.ref f_Fm_rows) = true)
    (p_Fm_size : PySem.W.findIn K (.ref CF) "size" = some (some (.ref pp_Fm_size)))
    (g_Fm_size : PySem.W.specialIn K (.ref pp_Fm_size) "__get__" = some (some (.builtin "property.__get__")))
    (t_Fm_size : PySem.W.takesIn K (.ref pp_Fm_size) = some true)
    (r_Fm_size : PySem.W.recIn K pp_Fm_size "property" = some (.ref f_Fm_size :: rs_Fm_size))
    (l_Fm_size : K.lookup f_Fm_size = some ⟨oc_Fm_size, od_Fm_size, .func (PySem.W.fnOf "size" "Form.size" (defArgs (st_F 2)) (defBody (st_F 2)) (defScope (st_F 2)) .none kV_Fm_size dc_Fm_size pm_Fm_size an_Fm_size cd_Fm_size ct_Fm_size), sl_Fm_size⟩)
    (c_Fm_size : PySem.W.codeIn K cd_Fm_size "Form.size" = true)
    (k_Fm_size : PySem.W.keepIn K (.ref f_Fm_size) = true)
    (p_Fm_determinant : PySem.W.findIn K (.ref CF) "determinant" = some (some (.ref pp_Fm_determinant)))
    (g_Fm_determinant : PySem.W.specialIn K (.ref pp_Fm_determinant) "__get__" = some (some (.builtin "property.__get__")))
    (t_Fm_determinant : PySem.W.takesIn K (.ref pp_Fm_determinant) = some true)
    (r_Fm_determinant : PySem.W.recIn K pp_Fm_determinant "property" = some (.ref f_Fm_determinant :: rs_Fm_determinant))
    (l_Fm_determinant : K.lookup f_Fm_determinant = some ⟨oc_Fm_determinant, od_Fm_determinant, .func (PySem.W.fnOf "determinant" "Form.determinant" (defArgs (st_F 3)) (defBody (st_F 3)) (defScope (st_F 3)) .none kV_Fm_determinant dc_Fm_determinant pm_Fm_determinant an_Fm_determinant cd_Fm_determinant ct_Fm_determinant), sl_Fm_determinant⟩)
    (c_Fm_determinant : PySem.W.codeIn K cd_Fm_determinant "Form.determinant" = true)
    (k_Fm_determinant : PySem.W.keepIn K (.ref f_Fm_determinant) = true)
    (a_Fm___eq__ : PySem.W.findIn K (.ref CF) "__eq__" = some (some (.ref f_Fm___eq__)))
    (i_Fm___eq__ : PySem.W.isFn K (.ref f_Fm___eq__) = true)
    (l_Fm___eq__ : K.lookup f_Fm___eq__ = some ⟨oc_Fm___eq__, od_Fm___eq__, .func (PySem.W.fnOf "__eq__" "Form.__eq__" (defArgs (st_F 4)) (defBody (st_F 4)) (defScope (st_F 4)) .none kV_Fm___eq__ dc_Fm___eq__ pm_Fm___eq__ an_Fm___eq__ cd_Fm___eq__ ct_Fm___eq__), sl_Fm___eq__⟩)
    (c_Fm___eq__ : PySem.W.codeIn K cd_Fm___eq__ "Form.__eq__" = true)
    (k_Fm___eq__ : PySem.W.keepIn K (.ref f_Fm___eq__) = true)
    (a_Fm___add__ : PySem.W.findIn K (.ref CF) "__add__" = some (some (.ref f_Fm___add__)))
    (i_Fm___add__ : PySem.W.isFn K (.ref f_Fm___add__) = true)
    (l_Fm___add__ : K.lookup f_Fm___add__ = some ⟨oc_Fm___add__, od_Fm___add__, .func (PySem.W.fnOf "__add__" "Form.__add__" (defArgs (st_F 6)) (defBody (st_F 6)) (defScope (st_F 6)) .none kV_Fm___add__ dc_Fm___add__ pm_Fm___add__ an_Fm___add__ cd_Fm___add__ ct_Fm___add__), sl_Fm___add__⟩)
    (c_Fm___add__ : PySem.W.codeIn K cd_Fm___add__ "Form.__add__" = true)
    (k_Fm___add__ : PySem.W.keepIn K (.ref f_Fm___add__) = true)
    (a_Fm_worth : PySem.W.findIn K (.ref CF) "worth" = some (some (.ref f_Fm_worth)))
    (i_Fm_worth : PySem.W.isFn K (.ref f_Fm_worth) = true)
    (l_Fm_worth : K.lookup f_Fm_worth = some ⟨oc_Fm_worth, od_Fm_worth, .func (PySem.W.fnOf "worth" "Form.worth" (defArgs (st_F 7)) (defBody (st_F 7)) (defScope (st_F 7)) .none kV_Fm_worth dc_Fm_worth pm_Fm_worth an_Fm_worth cd_Fm_worth ct_Fm_worth), sl_Fm_worth⟩)
    (c_Fm_worth : PySem.W.codeIn K cd_Fm_worth "Form.worth" = true)
    (k_Fm_worth : PySem.W.keepIn K (.ref f_Fm_worth) = true)
    (a_Fm_between : PySem.W.findIn K (.ref CF) "between" = some (some (.ref f_Fm_between)))
    (i_Fm_between : PySem.W.isFn K (.ref f_Fm_between) = true)
    (l_Fm_between : K.lookup f_Fm_between = some ⟨oc_Fm_between, od_Fm_between, .func (PySem.W.fnOf "between" "Form.between" (defArgs (st_F 8)) (defBody (st_F 8)) (defScope (st_F 8)) .none kV_Fm_between dc_Fm_between pm_Fm_between an_Fm_between cd_Fm_between ct_Fm_between), sl_Fm_between⟩)
    (c_Fm_between : PySem.W.codeIn K cd_Fm_between "Form.between" = true)
    (k_Fm_between : PySem.W.keepIn K (.ref f_Fm_between) = true)
    (a_Fm_led : PySem.W.findIn K (.ref CF) "led" = some (some (.ref f_Fm_led)))
    (i_Fm_led : PySem.W.isFn K (.ref f_Fm_led) = true)
    (l_Fm_led : K.lookup f_Fm_led = some ⟨oc_Fm_led, od_Fm_led, .func (PySem.W.fnOf "led" "Form.led" (defArgs (st_F 10)) (defBody (st_F 10)) (defScope (st_F 10)) .none kV_Fm_led dc_Fm_led pm_Fm_led an_Fm_led cd_Fm_led ct_Fm_led), sl_Fm_led⟩)
    (c_Fm_led : PySem.W.codeIn K cd_Fm_led "Form.led" = true)
    (k_Fm_led : PySem.W.keepIn K (.ref f_Fm_led) = true)
    (a_Fm_divisor : PySem.W.findIn K (.ref CF) "divisor" = some (some (.ref f_Fm_divisor)))
    (i_Fm_divisor : PySem.W.isFn K (.ref f_Fm_divisor) = true)
    (l_Fm_divisor : K.lookup f_Fm_divisor = some ⟨oc_Fm_divisor, od_Fm_divisor, .func (PySem.W.fnOf "divisor" "Form.divisor" (defArgs (st_F 11)) (defBody (st_F 11)) (defScope (st_F 11)) .none kV_Fm_divisor dc_Fm_divisor pm_Fm_divisor an_Fm_divisor cd_Fm_divisor ct_Fm_divisor), sl_Fm_divisor⟩)
    (c_Fm_divisor : PySem.W.codeIn K cd_Fm_divisor "Form.divisor" = true)
    (k_Fm_divisor : PySem.W.keepIn K (.ref f_Fm_divisor) = true)
    (pg : PySem.W.plainGet K C Str.empty = true)
    (hd : PySem.W.hasDictIn K C = true)
    (po : PySem.W.plainOver K C = true)
    (sa : PySem.W.findIn K (.ref C) "__setattr__" = some (some (.builtin "object.__setattr__")))
    (mk : PySem.W.makesIn K C = true)
    (kc : PySem.W.keepIn K (.ref C) = true)
    (nR : PySem.W.findIn K (.ref C) "_rows" = some none)
    (cc : PySem.W.findIn K (.ref C) "__class__" = some (some (.builtin "object.__class__")))
    (cg : PySem.W.specialIn K (.builtin "object.__class__") "__get__" = some (some (.builtin "getset_descriptor.__get__")))
    (ct : PySem.W.takesIn K (.builtin "object.__class__") = some true)
    (cm : PySem.W.mroIn K C (.type "object") = some true)
    (hcl : PySem.W.clsIn K C = some cld)
    (hmr : cld.mro = Value.ref C :: mrest)
    (pgF : PySem.W.plainGet K CF Str.empty = true)
    (hdF : PySem.W.hasDictIn K CF = true)
    (poF : PySem.W.plainOver K CF = true)
    (saF : PySem.W.findIn K (.ref CF) "__setattr__" = some (some (.builtin "object.__setattr__")))
    (mkF : PySem.W.makesIn K CF = true)
    (kcF : PySem.W.keepIn K (.ref CF) = true)
    (nRF : PySem.W.findIn K (.ref CF) "_rows" = some none)
    (ccF : PySem.W.findIn K (.ref CF) "__class__" = some (some (.builtin "object.__class__")))
    (cmF : PySem.W.mroIn K CF (.type "object") = some true)
    (hclF : PySem.W.clsIn K CF = some cldF)
    (hmrF : cldF.mro = Value.ref CF :: mrestF)
    (cmlF : PySem.W.mroIn K CF (.type "list") = some false)
    (cmtF : PySem.W.mroIn K CF (.type "tuple") = some false)
    (hneF : PySem.W.findIn K (.ref CF) "__ne__" = some (some (.builtin "object.__ne__")))
    (hgcd : PySem.W.nsIn K mainGlobals "gcd" = some (some (.builtin "math.gcd")))
    (z0 : PySem.W.nsIn K mainGlobals "isinstance" = some none)
    (z1 : PySem.W.nsIn K mainGlobals "int" = some none)
    (z2 : PySem.W.nsIn K mainGlobals "bool" = some none)
    (z3 : PySem.W.nsIn K mainGlobals "list" = some none)
    (z4 : PySem.W.nsIn K mainGlobals "tuple" = some none)
    (z5 : PySem.W.nsIn K mainGlobals "all" = some none)
    (z6 : PySem.W.nsIn K mainGlobals "sum" = some none)
    (z7 : PySem.W.nsIn K mainGlobals "zip" = some none)
    (z8 : PySem.W.nsIn K mainGlobals "len" = some none)
    (z9 : PySem.W.nsIn K mainGlobals "range" = some none)
    (z10 : PySem.W.nsIn K mainGlobals "repr" = some none)
    (z11 : PySem.W.nsIn K mainGlobals "abs" = some none)
    (z12 : PySem.W.nsIn K mainGlobals "max" = some none)
    (z13 : PySem.W.nsIn K mainGlobals "divmod" = some none)
    (z14 : PySem.W.nsIn K mainGlobals "dict" = some none)
    (z15 : PySem.W.nsIn K mainGlobals "enumerate" = some none)
    (zz_min : PySem.W.nsIn K mainGlobals "min" = some none)
    (zz_any : PySem.W.nsIn K mainGlobals "any" = some none)
    : ∃ fd : FuncData, (∀ (s : Shared) (v : Value), BindsTo s fd ⟨[v], []⟩ [("_law_script", v)]) ∧ ∀ base : Heap, K.In base → base.Ns mainGlobals mg → FnG l.prog w K mg base CX0 13 fa fd ["_law_script"] (sp_law K) := by
  have e := hfa.symm.trans (PySem.W.mg_of X G a_law)
  cases e
  have T : Txt mg := ⟨PySem.W.mg_none_of X G z0, PySem.W.mg_none_of X G z1, PySem.W.mg_none_of X G z2, PySem.W.mg_none_of X G z3, PySem.W.mg_none_of X G z4, PySem.W.mg_none_of X G z5, PySem.W.mg_none_of X G z6, PySem.W.mg_none_of X G z7, PySem.W.mg_none_of X G z8, PySem.W.mg_none_of X G z9, PySem.W.mg_none_of X G z10, PySem.W.mg_none_of X G z11, PySem.W.mg_none_of X G z12, PySem.W.mg_none_of X G z13, PySem.W.mg_none_of X G z14, PySem.W.mg_none_of X G z15⟩
  have Cl : Cls K C := ⟨pg, hd, po, sa⟩
  have Tc : Tcl K mg C := ⟨Cl, nR, PySem.W.mg_of X G aC, cc, cg, ct, cm⟩
  have ClF : Cls K CF := ⟨pgF, hdF, poF, saF⟩
  have Fc : Fcl K mg CF := ⟨ClF, nRF, PySem.W.mg_of X G aCF, ccF, cg, ct, cmF⟩
  have F_is_integer := fun_mk (st := st_is_integer) l_is_integer c_is_integer k_is_integer
  have b_is_integer := F_is_integer.binds (ps := ["value"]) fun _ _ _ _ _ _ us hl => match us, hl with | [_], _ => rfl
  have F_is_list := fun_mk (st := st_is_list) l_is_list c_is_list k_is_list
  have b_is_list := F_is_list.binds (ps := ["value"]) fun _ _ _ _ _ _ us hl => match us, hl with | [_], _ => rfl
  have F_is_row := fun_mk (st := st_is_row) l_is_row c_is_row k_is_row
  have b_is_row := F_is_row.binds (ps := ["value"]) fun _ _ _ _ _ _ us hl => match us, hl with | [_], _ => rfl
  have F_is_row_of := fun_mk (st := st_is_row_of) l_is_row_of c_is_row_of k_is_row_of
  have b_is_row_of := F_is_row_of.binds (ps := ["size", "value"]) fun _ _ _ _ _ _ us hl => match us, hl with | [_, _], _ => rfl
  have F_check_row := fun_mk (st := st_check_row) l_check_row c_check_row k_check_row
  have b_check_row := F_check_row.binds (ps := ["size", "row"]) fun _ _ _ _ _ _ us hl => match us, hl with | [_, _], _ => rfl
  have F_is_grid := fun_mk (st := st_is_grid) l_is_grid c_is_grid k_is_grid
  have b_is_grid := F_is_grid.binds (ps := ["value"]) fun _ _ _ _ _ _ us hl => match us, hl with | [_], _ => rfl
  have F_check_size := fun_mk (st := st_check_size) l_check_size c_check_size k_check_size
  have b_check_size := F_check_size.binds (ps := ["size"]) fun _ _ _ _ _ _ us hl => match us, hl with | [_], _ => rfl
  have F_copied := fun_mk (st := st_copied) l_copied c_copied k_copied
  have b_copied := F_copied.binds (ps := ["rows"]) fun _ _ _ _ _ _ us hl => match us, hl with | [_], _ => rfl
  have F_unit_rows := fun_mk (st := st_unit_rows) l_unit_rows c_unit_rows k_unit_rows
  have b_unit_rows := F_unit_rows.binds (ps := ["many"]) fun _ _ _ _ _ _ us hl => match us, hl with | [_], _ => rfl
  have F_across := fun_mk (st := st_across) l_across c_across k_across
  have b_across := F_across.binds (ps := ["rows"]) fun _ _ _ _ _ _ us hl => match us, hl with | [_], _ => rfl
  have F_scalar := fun_mk (st := st_scalar) l_scalar c_scalar k_scalar
  have b_scalar := F_scalar.binds (ps := ["row", "other"]) fun _ _ _ _ _ _ us hl => match us, hl with | [_, _], _ => rfl
  have F_led_row := fun_mk (st := st_led_row) l_led_row c_led_row k_led_row
  have b_led_row := F_led_row.binds (ps := ["rows", "row"]) fun _ _ _ _ _ _ us hl => match us, hl with | [_, _], _ => rfl
  have F_multiplied := fun_mk (st := st_multiplied) l_multiplied c_multiplied k_multiplied
  have b_multiplied := F_multiplied.binds (ps := ["rows", "others"]) fun _ _ _ _ _ _ us hl => match us, hl with | [_, _], _ => rfl
  have F_without := fun_mk (st := st_without) l_without c_without k_without
  have b_without := F_without.binds (ps := ["rows", "at", "place"]) fun _ _ _ _ _ _ us hl => match us, hl with | [_, _, _], _ => rfl
  have F_leading := fun_mk (st := st_leading) l_leading c_leading k_leading
  have b_leading := F_leading.binds (ps := ["rows", "many"]) fun _ _ _ _ _ _ us hl => match us, hl with | [_, _], _ => rfl
  have F_determinant_of := fun_mk (st := st_det) l_determinant_of c_determinant_of k_determinant_of
  have b_determinant_of := F_determinant_of.binds (ps := ["rows"]) fun _ _ _ _ _ _ us hl => match us, hl with | [_], _ => rfl
  have F_cofactor := fun_mk (st := st_cofactor) l_cofactor c_cofactor k_cofactor
  have b_cofactor := F_cofactor.binds (ps := ["rows", "at", "place"]) fun _ _ _ _ _ _ us hl => match us, hl with | [_, _, _], _ => rfl
  have F_trace_of := fun_mk (st := st_trace_of) l_trace_of c_trace_of k_trace_of
  have b_trace_of := F_trace_of.binds (ps := ["rows"]) fun _ _ _ _ _ _ us hl => match us, hl with | [_], _ => rfl
  have F_polynomial_of := fun_mk (st := st_pol_of) l_polynomial_of c_polynomial_of k_polynomial_of
  have b_polynomial_of := F_polynomial_of.binds (ps := ["rows"]) fun _ _ _ _ _ _ us hl => match us, hl with | [_], _ => rfl
  have F_check_table := fun_mk (st := st_check_table) l_check_table c_check_table k_check_table
  have b_check_table := F_check_table.binds (ps := ["table"]) fun _ _ _ _ _ _ us hl => match us, hl with | [_], _ => rfl
  have F_check_alike := fun_mk (st := st_check_alike) l_check_alike c_check_alike k_check_alike
  have b_check_alike := F_check_alike.binds (ps := ["one", "other"]) fun _ _ _ _ _ _ us hl => match us, hl with | [_, _], _ => rfl
  have F_idle := fun_mk (st := st_idle) l_idle c_idle k_idle
  have b_idle := F_idle.binds (ps := ["size"]) fun _ _ _ _ _ _ us hl => match us, hl with | [_], _ => rfl
  have F_check_form := fun_mk (st := st_check_form) l_check_form c_check_form k_check_form
  have b_check_form := F_check_form.binds (ps := ["form"]) fun _ _ _ _ _ _ us hl => match us, hl with | [_], _ => rfl
  have F_corners := fun_mk (st := st_corners) l_corners c_corners k_corners
  have b_corners := F_corners.binds (ps := ["form"]) fun _ _ _ _ _ _ us hl => match us, hl with | [_], _ => rfl
  have F_signs := fun_mk (st := st_sg) l_signs c_signs k_signs
  have b_signs := F_signs.binds (ps := ["form"]) fun _ _ _ _ _ _ us hl => match us, hl with | [_], _ => rfl
  have F_is_bowl := fun_mk (st := st_bowl) l_is_bowl c_is_bowl k_is_bowl
  have b_is_bowl := F_is_bowl.binds (ps := ["form"]) fun _ _ _ _ _ _ us hl => match us, hl with | [_], _ => rfl
  have F_pit := fun_mk (st := st_pit) l_pit c_pit k_pit
  have b_pit := F_pit.binds (ps := ["form"]) fun _ _ _ _ _ _ us hl => match us, hl with | [_], _ => rfl
  have F_is_pit := fun_mk (st := st_is_pit) l_is_pit c_is_pit k_is_pit
  have b_is_pit := F_is_pit.binds (ps := ["form", "value"]) fun _ _ _ _ _ _ us hl => match us, hl with | [_, _], _ => rfl
  have F_squares := fun_mk (st := st_sqs) l_squares c_squares k_squares
  have b_squares := F_squares.binds (ps := ["form"]) fun _ _ _ _ _ _ us hl => match us, hl with | [_], _ => rfl
  have F_is_squares := fun_mk (st := st_isq) l_is_squares c_is_squares k_is_squares
  have b_is_squares := F_is_squares.binds (ps := ["form", "value"]) fun _ _ _ _ _ _ us hl => match us, hl with | [_, _], _ => rfl
  have F_is_square_at := fun_mk (st := st_isat) l_is_square_at c_is_square_at k_is_square_at
  have b_is_square_at := F_is_square_at.binds (ps := ["size", "place", "pair"]) fun _ _ _ _ _ _ us hl => match us, hl with | [_, _, _], _ => rfl
  have F__leaned := fun_mk (st := st_lea) l__leaned c__leaned k__leaned
  have b__leaned := F__leaned.binds (ps := ["rows", "at", "place"]) fun _ _ _ _ _ _ us hl => match us, hl with | [_, _, _], _ => rfl
  have F__adds_up := fun_mk (st := st_adds) l__adds_up c__adds_up k__adds_up
  have b__adds_up := F__adds_up.binds (ps := ["rows", "told"]) fun _ _ _ _ _ _ us hl => match us, hl with | [_, _], _ => rfl
  have F__law_pot := fun_mk (st := st_pot) l__law_pot c__law_pot k__law_pot
  have b__law_pot := F__law_pot.binds (ps := ["_law_script", "_law_k"]) fun _ _ _ _ _ _ us hl => match us, hl with | [_, _], _ => rfl
  have F__law_draw := fun_mk (st := st_draw) l__law_draw c__law_draw k__law_draw
  have b__law_draw := F__law_draw.binds (ps := ["_law_pot_here", "_law_size"]) fun _ _ _ _ _ _ us hl => match us, hl with | [_, _], _ => rfl
  have F__law_pick := fun_mk (st := st_pick) l__law_pick c__law_pick k__law_pick
  have b__law_pick := F__law_pick.binds (ps := ["_law_pot_here", "_law_some"]) fun _ _ _ _ _ _ us hl => match us, hl with | [_, _], _ => rfl
  have F__law_rows := fun_mk (st := st_lrows) l__law_rows c__law_rows k__law_rows
  have b__law_rows := F__law_rows.binds (ps := ["_law_pot_here", "_law_size", "_law_most"]) fun _ _ _ _ _ _ us hl => match us, hl with | [_, _, _], _ => rfl
  have F__law_row := fun_mk (st := st_lrow) l__law_row c__law_row k__law_row
  have b__law_row := F__law_row.binds (ps := ["_law_pot_here", "_law_size", "_law_most"]) fun _ _ _ _ _ _ us hl => match us, hl with | [_, _, _], _ => rfl
  have F__law_table := fun_mk (st := st_ltab) l__law_table c__law_table k__law_table
  have b__law_table := F__law_table.binds (ps := ["_law_pot_here", "_law_size"]) fun _ _ _ _ _ _ us hl => match us, hl with | [_, _], _ => rfl
  have F__law_told := fun_mk (st := st_ltold) l__law_told c__law_told k__law_told
  have b__law_told := F__law_told.binds (ps := ["_law_rows_here"]) fun _ _ _ _ _ _ us hl => match us, hl with | [_], _ => rfl
  have F__law_worth := fun_mk (st := st_lw) l__law_worth c__law_worth k__law_worth
  have b__law_worth := F__law_worth.binds (ps := ["_law_value", "_law_row_here"]) fun _ _ _ _ _ _ us hl => match us, hl with | [_, _], _ => rfl
  have F__law_way_right := fun_mk (st := st_wr) l__law_way_right c__law_way_right k__law_way_right
  have b__law_way_right := F__law_way_right.binds (ps := ["_law_pot_here", "_law_form", "_law_tables"]) fun _ _ _ _ _ _ us hl => match us, hl with | [_, _, _], _ => rfl
  have F__law_home_right := fun_mk (st := st_hr) l__law_home_right c__law_home_right k__law_home_right
  have b__law_home_right := F__law_home_right.binds (ps := ["_law_pot_here", "_law_form"]) fun _ _ _ _ _ _ us hl => match us, hl with | [_, _], _ => rfl
  have F__law_right := fun_mk (st := st_ri) l__law_right c__law_right k__law_right
  have b__law_right := F__law_right.binds (ps := ["_law_pot_here"]) fun _ _ _ _ _ _ us hl => match us, hl with | [_], _ => rfl
  have F_law := fun_mk (st := st_law) l_law c_law k_law
  have b_law := F_law.binds (ps := ["_law_script"]) fun _ _ _ _ _ _ us hl => match us, hl with | [_], _ => rfl
  have F_T___init__ := fun_mk (st := (st_T 0)) l_T___init__ c_T___init__ k_T___init__
  have b_T___init__ := F_T___init__.binds (ps := ["self", "rows"]) fun _ _ _ _ _ _ us hl => match us, hl with | [_, _], _ => rfl
  have F_T_rows := fun_mk (st := (st_T 1)) l_T_rows c_T_rows k_T_rows
  have b_T_rows := F_T_rows.binds (ps := ["self"]) fun _ _ _ _ _ _ us hl => match us, hl with | [_], _ => rfl
  have F_T_size := fun_mk (st := (st_T 2)) l_T_size c_T_size k_T_size
  have b_T_size := F_T_size.binds (ps := ["self"]) fun _ _ _ _ _ _ us hl => match us, hl with | [_], _ => rfl
  have F_T_determinant := fun_mk (st := (st_T 3)) l_T_determinant c_T_determinant k_T_determinant
  have b_T_determinant := F_T_determinant.binds (ps := ["self"]) fun _ _ _ _ _ _ us hl => match us, hl with | [_], _ => rfl
  have F_T___mul__ := fun_mk (st := (st_T 7)) l_T___mul__ c_T___mul__ k_T___mul__
  have b_T___mul__ := F_T___mul__.binds (ps := ["self", "other"]) fun _ _ _ _ _ _ us hl => match us, hl with | [_, _], _ => rfl
  have F_T_lead := fun_mk (st := (st_T 8)) l_T_lead c_T_lead k_T_lead
  have b_T_lead := F_T_lead.binds (ps := ["self", "row"]) fun _ _ _ _ _ _ us hl => match us, hl with | [_, _], _ => rfl
  have F_T_undone := fun_mk (st := (st_T 9)) l_T_undone c_T_undone k_T_undone
  have b_T_undone := F_T_undone.binds (ps := ["self"]) fun _ _ _ _ _ _ us hl => match us, hl with | [_], _ => rfl
  have F_Fm___init__ := fun_mk (st := (st_F 0)) l_Fm___init__ c_Fm___init__ k_Fm___init__
  have b_Fm___init__ := F_Fm___init__.binds (ps := ["self", "rows"]) fun _ _ _ _ _ _ us hl => match us, hl with | [_, _], _ => rfl
  have F_Fm_rows := fun_mk (st := (st_F 1)) l_Fm_rows c_Fm_rows k_Fm_rows
  have b_Fm_rows := F_Fm_rows.binds (ps := ["self"]) fun _ _ _ _ _ _ us hl => match us, hl with | [_], _ => rfl
  have F_Fm_size := fun_mk (st := (st_F 2)) l_Fm_size c_Fm_size k_Fm_size
  have b_Fm_size := F_Fm_size.binds (ps := ["self"]) fun _ _ _ _ _ _ us hl => match us, hl with | [_], _ => rfl
  have F_Fm_determinant := fun_mk (st := (st_F 3)) l_Fm_determinant c_Fm_determinant k_Fm_determinant
  have b_Fm_determinant := F_Fm_determinant.binds (ps := ["self"]) fun _ _ _ _ _ _ us hl => match us, hl with | [_], _ => rfl
  have F_Fm___eq__ := fun_mk (st := (st_F 4)) l_Fm___eq__ c_Fm___eq__ k_Fm___eq__
  have b_Fm___eq__ := F_Fm___eq__.binds (ps := ["self", "other"]) fun _ _ _ _ _ _ us hl => match us, hl with | [_, _], _ => rfl
  have F_Fm___add__ := fun_mk (st := (st_F 6)) l_Fm___add__ c_Fm___add__ k_Fm___add__
  have b_Fm___add__ := F_Fm___add__.binds (ps := ["self", "other"]) fun _ _ _ _ _ _ us hl => match us, hl with | [_, _], _ => rfl
  have F_Fm_worth := fun_mk (st := (st_F 7)) l_Fm_worth c_Fm_worth k_Fm_worth
  have b_Fm_worth := F_Fm_worth.binds (ps := ["self", "row"]) fun _ _ _ _ _ _ us hl => match us, hl with | [_, _], _ => rfl
  have F_Fm_between := fun_mk (st := (st_F 8)) l_Fm_between c_Fm_between k_Fm_between
  have b_Fm_between := F_Fm_between.binds (ps := ["self", "row", "other"]) fun _ _ _ _ _ _ us hl => match us, hl with | [_, _, _], _ => rfl
  have F_Fm_led := fun_mk (st := (st_F 10)) l_Fm_led c_Fm_led k_Fm_led
  have b_Fm_led := F_Fm_led.binds (ps := ["self", "table"]) fun _ _ _ _ _ _ us hl => match us, hl with | [_, _], _ => rfl
  have F_Fm_divisor := fun_mk (st := (st_F 11)) l_Fm_divisor c_Fm_divisor k_Fm_divisor
  have b_Fm_divisor := F_Fm_divisor.binds (ps := ["self"]) fun _ _ _ _ _ _ us hl => match us, hl with | [_], _ => rfl
  refine ⟨PySem.W.fnOf "law" "law" (defArgs st_law) (defBody st_law) (defScope st_law) .none kV_law dc_law pm_law an_law cd_law ct_law, fun s v => .of_eq rfl, fun base _ _ => ?_⟩
  have D_is_integer : Def l.prog w K mg base "is_integer" 1 ["value"] sp_is_integer := ⟨f_is_integer, _, ok_is_integer F_is_integer T, PySem.W.mg_of X G a_is_integer, k_is_integer, b_is_integer⟩
  have D_is_list : Def l.prog w K mg base "is_list" 1 ["value"] sp_is_list := ⟨f_is_list, _, ok_is_list F_is_list T, PySem.W.mg_of X G a_is_list, k_is_list, b_is_list⟩
  have D_is_row : Def l.prog w K mg base "is_row" 2 ["value"] sp_is_row := ⟨f_is_row, _, ok_is_row F_is_row T D_is_list D_is_integer, PySem.W.mg_of X G a_is_row, k_is_row, b_is_row⟩
  have D_is_row_of : Def l.prog w K mg base "is_row_of" 3 ["size", "value"] sp_is_row_of := ⟨f_is_row_of, _, ok_is_row_of F_is_row_of T D_is_row, PySem.W.mg_of X G a_is_row_of, k_is_row_of, b_is_row_of⟩
  have D_check_row : Def l.prog w K mg base "check_row" 4 ["size", "row"] sp_check_row := ⟨f_check_row, _, ok_check_row F_check_row D_is_row_of, PySem.W.mg_of X G a_check_row, k_check_row, b_check_row⟩
  have D_is_grid : Def l.prog w K mg base "is_grid" 4 ["value"] sp_is_grid := ⟨f_is_grid, _, ok_is_grid F_is_grid T D_is_list D_is_row_of, PySem.W.mg_of X G a_is_grid, k_is_grid, b_is_grid⟩
  have D_check_size : Def l.prog w K mg base "check_size" 2 ["size"] sp_check_size := ⟨f_check_size, _, ok_check_size F_check_size D_is_integer, PySem.W.mg_of X G a_check_size, k_check_size, b_check_size⟩
  have D_copied : Def l.prog w K mg base "copied" 1 ["rows"] sp_copied := ⟨f_copied, _, ok_copied F_copied T, PySem.W.mg_of X G a_copied, k_copied, b_copied⟩
  have D_unit_rows : Def l.prog w K mg base "unit_rows" 1 ["many"] sp_unit_rows := ⟨f_unit_rows, _, ok_unit_rows F_unit_rows T, PySem.W.mg_of X G a_unit_rows, k_unit_rows, b_unit_rows⟩
  have D_across : Def l.prog w K mg base "across" 1 ["rows"] sp_across := ⟨f_across, _, ok_across F_across T, PySem.W.mg_of X G a_across, k_across, b_across⟩
  have D_scalar : Def l.prog w K mg base "scalar" 1 ["row", "other"] sp_scalar := ⟨f_scalar, _, ok_scalar F_scalar T, PySem.W.mg_of X G a_scalar, k_scalar, b_scalar⟩
  have D_acrossG : Def l.prog w K mg base "across" 1 ["rows"] sp_acrossG := ⟨f_across, _, ok_acrossG F_across T, PySem.W.mg_of X G a_across, k_across, b_across⟩
  have D_led_row : Def l.prog w K mg base "led_row" 2 ["rows", "row"] sp_led_row := ⟨f_led_row, _, ok_led_row F_led_row T D_scalar, PySem.W.mg_of X G a_led_row, k_led_row, b_led_row⟩
  have D_multiplied : Def l.prog w K mg base "multiplied" 3 ["rows", "others"] sp_multiplied := ⟨f_multiplied, _, ok_multiplied F_multiplied T D_across D_led_row, PySem.W.mg_of X G a_multiplied, k_multiplied, b_multiplied⟩
  have D_without : Def l.prog w K mg base "without" 1 ["rows", "at", "place"] sp_without := ⟨f_without, _, ok_without F_without T, PySem.W.mg_of X G a_without, k_without, b_without⟩
  have D_leading : Def l.prog w K mg base "leading" 1 ["rows", "many"] sp_leading := ⟨f_leading, _, ok_leading F_leading T, PySem.W.mg_of X G a_leading, k_leading, b_leading⟩
  have DD := ok_dets (P := l.prog) (w := w) (base := base) F_determinant_of F_cofactor T D_without (PySem.W.mg_of X G a_determinant_of) k_determinant_of b_determinant_of (PySem.W.mg_of X G a_cofactor) k_cofactor b_cofactor
  have D_detA : Def l.prog w K mg base "determinant_of" 7 ["rows"] sp_detA := ⟨f_determinant_of, _, ok_detA F_determinant_of F_cofactor T D_without DD, PySem.W.mg_of X G a_determinant_of, k_determinant_of, b_determinant_of⟩
  have D_cofA : Def l.prog w K mg base "cofactor" 6 ["rows", "at", "place"] sp_cofA := ⟨f_cofactor, _, ok_cofA F_cofactor T D_without (fun n => (DD n).1), PySem.W.mg_of X G a_cofactor, k_cofactor, b_cofactor⟩
  have D_trace_of : Def l.prog w K mg base "trace_of" 1 ["rows"] sp_trace_of := ⟨f_trace_of, _, ok_trace_of F_trace_of T, PySem.W.mg_of X G a_trace_of, k_trace_of, b_trace_of⟩
  have D_polynomial_of : Def l.prog w K mg base "polynomial_of" 8 ["rows"] sp_pol_of := ⟨f_polynomial_of, _, ok_pol_of F_polynomial_of T (fun n => (DD n).1) D_trace_of (fun n => (DD n).2), PySem.W.mg_of X G a_polynomial_of, k_polynomial_of, b_polynomial_of⟩
  have kitF : KitF K CF := kitF_of cmlF cmtF
  have Dmk : Mkr l.prog w K mg base C := ⟨f_T___init__, _, ⟨mk, a_T___init__, i_T___init__, kc⟩, ok_init F_T___init__ T Tc D_is_grid D_copied (fun n => (DD n).1), b_T___init__⟩
  have P_rows : Prp l.prog w K mg base C "rows" 1 (sp_rows C) := ⟨pp_T_rows, f_T_rows, _, ⟨p_T_rows, g_T_rows, t_T_rows, ⟨_, r_T_rows⟩⟩, ok_rows F_T_rows Tc, b_T_rows⟩
  have P_size : Prp l.prog w K mg base C "size" 1 (sp_size C) := ⟨pp_T_size, f_T_size, _, ⟨p_T_size, g_T_size, t_T_size, ⟨_, r_T_size⟩⟩, ok_size F_T_size T Tc, b_T_size⟩
  have P_determinant : Prp l.prog w K mg base C "determinant" 8 (sp_detP C) := ⟨pp_T_determinant, f_T_determinant, _, ⟨p_T_determinant, g_T_determinant, t_T_determinant, ⟨_, r_T_determinant⟩⟩, ok_detP F_T_determinant Tc (fun n => (DD n).1), b_T_determinant⟩
  have D_check_table : Def l.prog w K mg base "check_table" 1 ["table"] (sp_check_table C) := ⟨f_check_table, _, ok_check_table F_check_table T Tc, PySem.W.mg_of X G a_check_table, k_check_table, b_check_table⟩
  have D_check_alike : Def l.prog w K mg base "check_alike" 3 ["one", "other"] (sp_check_alike C) := ⟨f_check_alike, _, ok_check_alike F_check_alike Tc P_size, PySem.W.mg_of X G a_check_alike, k_check_alike, b_check_alike⟩
  have Dmul : MulP l.prog w K mg base C := ⟨f_T___mul__, _, cld, mrest, hcl, hmr, a_T___mul__, i_T___mul__, ok_mul F_T___mul__ Tc D_check_table D_check_alike D_multiplied Dmk P_rows, b_T___mul__⟩
  have M_lead : Mtd l.prog w K mg base C "lead" 5 ["self", "row"] (sp_lead C) := ⟨f_T_lead, _, ⟨a_T_lead, i_T_lead, k_T_lead⟩, ok_lead F_T_lead Tc D_check_row P_size D_led_row, b_T_lead⟩
  have M_undone : Mtd l.prog w K mg base C "undone" 10 ["self"] (sp_undone C) := ⟨f_T_undone, _, ⟨a_T_undone, i_T_undone, k_T_undone⟩, ok_undone F_T_undone T Tc P_determinant P_size (fun n => (DD n).2) Dmk, b_T_undone⟩
  have D_idle : Def l.prog w K mg base "idle" 10 ["size"] (sp_idle C) := ⟨f_idle, _, ok_idle F_idle Tc D_check_size D_unit_rows Dmk, PySem.W.mg_of X G a_idle, k_idle, b_idle⟩
  have Fmk : MkrF l.prog w K mg base CF := ⟨f_Fm___init__, _, ⟨mkF, a_Fm___init__, i_Fm___init__, kcF⟩, ok_initF F_Fm___init__ T Fc D_is_grid D_copied D_acrossG, b_Fm___init__⟩
  have FP_rows : Prp l.prog w K mg base CF "rows" 1 (sp_rows CF) := ⟨pp_Fm_rows, f_Fm_rows, _, ⟨p_Fm_rows, g_Fm_rows, t_Fm_rows, ⟨_, r_Fm_rows⟩⟩, ok_rowsF F_Fm_rows Fc, b_Fm_rows⟩
  have FP_size : Prp l.prog w K mg base CF "size" 1 (sp_size CF) := ⟨pp_Fm_size, f_Fm_size, _, ⟨p_Fm_size, g_Fm_size, t_Fm_size, ⟨_, r_Fm_size⟩⟩, ok_sizeF F_Fm_size T Fc, b_Fm_size⟩
  have FP_determinant : Prp l.prog w K mg base CF "determinant" 8 (sp_detP CF) := ⟨pp_Fm_determinant, f_Fm_determinant, _, ⟨p_Fm_determinant, g_Fm_determinant, t_Fm_determinant, ⟨_, r_Fm_determinant⟩⟩, ok_detF F_Fm_determinant Fc (fun n => (DD n).1), b_Fm_determinant⟩
  have Feq : EqP l.prog w K mg base CF := ⟨f_Fm___eq__, _, a_Fm___eq__, i_Fm___eq__, ok_eqF F_Fm___eq__ T Fc, b_Fm___eq__, hneF, cmF⟩
  have D_check_form : Def l.prog w K mg base "check_form" 1 ["form"] (sp_check_form CF) := ⟨f_check_form, _, ok_check_form F_check_form T Fc, PySem.W.mg_of X G a_check_form, k_check_form, b_check_form⟩
  have D_alFF : Def l.prog w K mg base "check_alike" 3 ["one", "other"] (sp_check_alike2 CF CF) := ⟨f_check_alike, _, ok_check_alike2 F_check_alike Fc.cl Fc.cl FP_size FP_size, PySem.W.mg_of X G a_check_alike, k_check_alike, b_check_alike⟩
  have D_alFT : Def l.prog w K mg base "check_alike" 3 ["one", "other"] (sp_check_alike2 CF C) := ⟨f_check_alike, _, ok_check_alike2 F_check_alike Fc.cl Tc.cl FP_size P_size, PySem.W.mg_of X G a_check_alike, k_check_alike, b_check_alike⟩
  have Fadd : AddP l.prog w K mg base CF := ⟨f_Fm___add__, _, cldF, mrestF, hclF, hmrF, a_Fm___add__, i_Fm___add__, ok_addF F_Fm___add__ T Fc D_check_form D_alFF Fmk FP_rows, b_Fm___add__⟩
  have FM_between : Mtd l.prog w K mg base CF "between" 5 ["self", "row", "other"] (sp_btw CF) := ⟨f_Fm_between, _, ⟨a_Fm_between, i_Fm_between, k_Fm_between⟩, ok_btw F_Fm_between Fc D_check_row FP_size D_led_row D_scalar, b_Fm_between⟩
  have FM_worth : Mtd l.prog w K mg base CF "worth" 6 ["self", "row"] (sp_worth CF) := ⟨f_Fm_worth, _, ⟨a_Fm_worth, i_Fm_worth, k_Fm_worth⟩, ok_worth F_Fm_worth Fc FM_between, b_Fm_worth⟩
  have kb_Fm_led : KBinds K (PySem.W.fnOf "led" "Form.led" (defArgs (st_F 10)) (defBody (st_F 10)) (defScope (st_F 10)) .none kV_Fm_led dc_Fm_led pm_Fm_led an_Fm_led cd_Fm_led ct_Fm_led) ["self", "table"] ["table"] gU11 gV11 := by
    refine KBinds.mk (fun s us ws _ hl => ?_) (fun {vs us zs ws} r1 r2 => ?_)
    · match us, ws, hl with
      | [s0], [a0], _ => exact .of_eq rfl
    · cases r1 with
      | nil => exact .nil
      | cons y0 t0 =>
        cases t0 with
        | cons _ _ => exact .nil
        | nil =>
          cases r2 with
          | nil => exact .nil
          | cons x0 u0 =>
            cases u0 with
            | cons _ _ => exact .nil
            | nil => exact .cons y0 (.cons x0 .nil)
  have FMK_led : MtdN l.prog w K mg base CF "led" 10 ["self", "table"] ["table"] (sp_led CF C) gU11 gV11 := ⟨f_Fm_led, _, ⟨a_Fm_led, i_Fm_led, k_Fm_led⟩, ok_led F_Fm_led Fc Tc D_check_table D_alFT D_multiplied D_across Fmk P_rows, b_Fm_led, kb_Fm_led⟩
  have FM_led := FMK_led.m
  have FM_divisor : Mtd l.prog w K mg base CF "divisor" 1 ["self"] (sp_dv CF) := ⟨f_Fm_divisor, _, ⟨a_Fm_divisor, i_Fm_divisor, k_Fm_divisor⟩, ok_dv F_Fm_divisor (PySem.W.mg_of X G hgcd) Fc, b_Fm_divisor⟩
  have D_corners : Def l.prog w K mg base "corners" 8 ["form"] (sp_corners CF) := ⟨f_corners, _, ok_corners F_corners T Fc D_check_form D_detA D_leading FP_rows FP_size, PySem.W.mg_of X G a_corners, k_corners, b_corners⟩
  have D_signs : Def l.prog w K mg base "signs" 9 ["form"] (sp_sg CF) := ⟨f_signs, _, ok_sg F_signs T (PySem.W.mg_none_of X G zz_min) Fc D_check_form D_polynomial_of FP_rows FP_size, PySem.W.mg_of X G a_signs, k_signs, b_signs⟩
  have D_is_bowl : Def l.prog w K mg base "is_bowl" 9 ["form"] (sp_bowl CF) := ⟨f_is_bowl, _, ok_bowl F_is_bowl (PySem.W.mg_none_of X G zz_min) D_corners, PySem.W.mg_of X G a_is_bowl, k_is_bowl, b_is_bowl⟩
  have D_pit : Def l.prog w K mg base "pit" 9 ["form"] (sp_pit CF) := ⟨f_pit, _, ok_pit F_pit T Fc D_corners D_leading D_cofA FP_rows FP_size, PySem.W.mg_of X G a_pit, k_pit, b_pit⟩
  have N_is_list : Def l.prog w K mg base "is_list" 1 ["value"] (sp_no1 CF) := ⟨f_is_list, _, ok_il2 F_is_list T Fc kitF, PySem.W.mg_of X G a_is_list, k_is_list, b_is_list⟩
  have N_is_row : Def l.prog w K mg base "is_row" 2 ["value"] (sp_no1 CF) := ⟨f_is_row, _, ok_ir2 F_is_row T N_is_list D_is_integer, PySem.W.mg_of X G a_is_row, k_is_row, b_is_row⟩
  have U_is_row_of : Def l.prog w K mg base "is_row_of" 3 ["size", "value"] (sp_iroU CF) := ⟨f_is_row_of, _, FnOk_or (ok_is_row_of F_is_row_of T D_is_row) (ok_iro2 F_is_row_of T N_is_row), PySem.W.mg_of X G a_is_row_of, k_is_row_of, b_is_row_of⟩
  have D_is_pit : Def l.prog w K mg base "is_pit" 7 ["form", "value"] (sp_isp CF) := ⟨f_is_pit, _, ok_isp F_is_pit T (PySem.W.mg_none_of X G zz_any) Fc D_check_form U_is_row_of FP_size FM_worth, PySem.W.mg_of X G a_is_pit, k_is_pit, b_is_pit⟩
  have D__leaned : Def l.prog w K mg base "_leaned" 8 ["rows", "at", "place"] sp_lea := ⟨f__leaned, _, ok_lea F__leaned T D_detA, PySem.W.mg_of X G a__leaned, k__leaned, b__leaned⟩
  have D_squares : Def l.prog w K mg base "squares" 9 ["form"] (sp_sqa CF) := ⟨f_squares, _, ok_sqa F_squares T (PySem.W.mg_none_of X G zz_min) Fc D_corners D__leaned FP_rows FP_size, PySem.W.mg_of X G a_squares, k_squares, b_squares⟩
  have U_is_list : Def l.prog w K mg base "is_list" 1 ["value"] (sp_il CF) := ⟨f_is_list, _, FnOk_or (ok_is_list F_is_list T) (ok_il2 F_is_list T Fc kitF), PySem.W.mg_of X G a_is_list, k_is_list, b_is_list⟩
  have D_is_square_at : Def l.prog w K mg base "is_square_at" 4 ["size", "place", "pair"] sp_isat := ⟨f_is_square_at, _, ok_isat F_is_square_at T D_is_integer D_is_row_of, PySem.W.mg_of X G a_is_square_at, k_is_square_at, b_is_square_at⟩
  have D__adds_up : Def l.prog w K mg base "_adds_up" 1 ["rows", "told"] sp_adds := ⟨f__adds_up, _, ok_adds F__adds_up T, PySem.W.mg_of X G a__adds_up, k__adds_up, b__adds_up⟩
  have D_is_squares : Def l.prog w K mg base "is_squares" 5 ["form", "value"] (sp_isq CF) := ⟨f_is_squares, _, ok_isq F_is_squares T Fc D_check_form U_is_list D_is_square_at D__adds_up FP_rows FP_size, PySem.W.mg_of X G a_is_squares, k_is_squares, b_is_squares⟩
  have D__law_pot : Def l.prog w K mg base "_law_pot" 1 ["_law_script", "_law_k"] (sp_pot K) := ⟨f__law_pot, _, ok_pot F__law_pot T, PySem.W.mg_of X G a__law_pot, k__law_pot, b__law_pot⟩
  have D__law_draw : Def l.prog w K mg base "_law_draw" 1 ["_law_pot_here", "_law_size"] sp_draw := ⟨f__law_draw, _, ok_draw F__law_draw T, PySem.W.mg_of X G a__law_draw, k__law_draw, b__law_draw⟩
  have D__law_pick : Def l.prog w K mg base "_law_pick" 2 ["_law_pot_here", "_law_some"] sp_pick := ⟨f__law_pick, _, ok_pick F__law_pick T D__law_draw, PySem.W.mg_of X G a__law_pick, k__law_pick, b__law_pick⟩
  have D__law_rows : Def l.prog w K mg base "_law_rows" 2 ["_law_pot_here", "_law_size", "_law_most"] sp_lrows := ⟨f__law_rows, _, ok_lrows F__law_rows T D__law_draw, PySem.W.mg_of X G a__law_rows, k__law_rows, b__law_rows⟩
  have D__law_row : Def l.prog w K mg base "_law_row" 2 ["_law_pot_here", "_law_size", "_law_most"] sp_lrow := ⟨f__law_row, _, ok_lrow F__law_row T D__law_draw, PySem.W.mg_of X G a__law_row, k__law_row, b__law_row⟩
  have D__law_table : Def l.prog w K mg base "_law_table" 2 ["_law_pot_here", "_law_size"] sp_ltab := ⟨f__law_table, _, ok_ltab F__law_table T D__law_draw, PySem.W.mg_of X G a__law_table, k__law_table, b__law_table⟩
  have D__law_told : Def l.prog w K mg base "_law_told" 1 ["_law_rows_here"] sp_copied := ⟨f__law_told, _, ok_ltold F__law_told T, PySem.W.mg_of X G a__law_told, k__law_told, b__law_told⟩
  have D__law_worth : Def l.prog w K mg base "_law_worth" 1 ["_law_value", "_law_row_here"] sp_lw := ⟨f__law_worth, _, ok_lw F__law_worth T, PySem.W.mg_of X G a__law_worth, k__law_worth, b__law_worth⟩
  have D__law_way_right : Def l.prog w K mg base "_law_way_right" 11 ["_law_pot_here", "_law_form", "_law_tables"] (sp_wy CF C) := ⟨f__law_way_right, _, ok_wr F__law_way_right T Fc Tc D_idle D_signs D_is_bowl D__law_pick D__law_row D_pit D_is_pit D_squares D_is_squares D__law_worth FP_size FP_determinant FM_divisor FMK_led.m FM_worth M_undone M_lead Dmul Feq, PySem.W.mg_of X G a__law_way_right, k__law_way_right, b__law_way_right⟩
  have D__law_home_right : Def l.prog w K mg base "_law_home_right" 11 ["_law_pot_here", "_law_form"] (sp_hr CF) := ⟨f__law_home_right, _, ok_hr F__law_home_right T Fc Tc Dmk D__law_pick D__law_table FP_size FP_rows FMK_led FM_between M_undone M_lead Dmul Fadd Feq D__law_told, PySem.W.mg_of X G a__law_home_right, k__law_home_right, b__law_home_right⟩
  have D__law_right : DefG l.prog w K mg base "_law_right" 12 ["_law_pot_here"] sp_right := ⟨f__law_right, _, ok_ri F__law_right T Fc Tc Fmk Dmk D__law_draw D__law_rows D__law_table D__law_way_right D__law_home_right FMK_led.m Fadd Feq, PySem.W.mg_of X G a__law_right, k__law_right, b__law_right⟩
  exact ok_law F_law D__law_pot D__law_right
theorem walk {l : PySem.W.OpenLaw} {q : Program} {loose : List Str} {XP : (Str → Option Value) → Heap → Prop} {YP : World → Heap → Prop} {d : DefRec} {K : Params → PySem.W.Frag} (hn : l.most = some 63) (hdf : d.params.defaults = [])
    (hY : ∀ (w : World) (h : Heap), YP w h → (K w.params).In h)
    (F : ∀ (w : World) (mg : Str → Option Value) (fa : Addr) (h : Heap), (K w.params).In h → h.Ns mainGlobals mg → mg d.name = some (.ref fa) →
      ∃ fd : FuncData, (∀ (s : Shared) (u : Value), BindsTo s fd ⟨[u], []⟩ [("_law_script", u)]) ∧ ∀ base : Heap, (K w.params).In base → base.Ns mainGlobals mg → FnG l.prog w (K w.params) mg base CX0 13 fa fd ["_law_script"] (sp_law (K w.params))) :
    PySem.W.WalkO q loose XP YP l.row.toRowW d [] (fun f vs => PySem.call f vs) :=
  walkG (n := 63) (k := 13) (x := "_law_script") (sp := fun w => sp_law (K w.params)) hn (by decide) hdf ⟨rfl, by decide, by decide⟩ hY F (fun _ _ a ns hl _ hS => ⟨a, ns, rfl, hS, hl, fun _ => rfl⟩)
end T29
open PySem PySem.W PyProof.Rows
set_option maxRecDepth 100000 in
set_option maxHeartbeats 0 in
theorem PySem.Challenge.cw_keptbowls_k29_whole_forms_led_about_holds : PySem.Challenge.rw_keptbowls_k29_whole_forms_led_about.Holds := by
  w_on; o_law; k_head; (case hw => w_witness2)
  k_fill
  refine T29.walk (l := PySem.Challenge.rw_keptbowls_k29_whole_forms_led_about) rfl rfl (fun w h Y => PySem.W.kIn_of Y) ?F
  case F =>
    intro w mg fa h KX G hmg
    refine' T29.all_mk KX G hmg ?aC ?aCF ?a_is_integer ?l_is_integer ?c_is_integer ?k_is_integer ?a_is_list ?l_is_list ?c_is_list ?k_is_list ?a_is_row ?l_is_row ?c_is_row ?k_is_row ?a_is_row_of ?l_is_row_of ?c_is_row_of ?k_is_row_of ?a_check_row ?l_check_row ?c_check_row ?k_check_row ?a_is_grid ?l_is_grid ?c_is_grid ?k_is_grid ?a_check_size ?l_check_size ?c_check_size ?k_check_size ?a_copied ?l_copied ?c_copied ?k_copied ?a_unit_rows ?l_unit_rows ?c_unit_rows ?k_unit_rows ?a_across ?l_across ?c_across ?k_across ?a_scalar ?l_scalar ?c_scalar ?k_scalar ?a_led_row ?l_led_row ?c_led_row ?k_led_row ?a_multiplied ?l_multiplied ?c_multiplied ?k_multiplied ?a_without ?l_without ?c_without ?k_without ?a_leading ?l_leading ?c_leading ?k_leading ?a_determinant_of ?l_determinant_of ?c_determinant_of ?k_determinant_of ?a_cofactor ?l_cofactor ?c_cofactor ?k_cofactor ?a_trace_of ?l_trace_of ?c_trace_of ?k_trace_of ?a_polynomial_of ?l_polynomial_of ?c_polynomial_of ?k_polynomial_of ?a_check_table ?l_check_table ?c_check_table ?k_check_table ?a_check_alike ?l_check_alike ?c_check_alike ?k_check_alike ?a_idle ?l_idle ?c_idle ?k_idle ?a_check_form ?l_check_form ?c_check_form ?k_check_form ?a_corners ?l_corners ?c_corners ?k_corners ?a_signs ?l_signs ?c_signs ?k_signs ?a_is_bowl ?l_is_bowl ?c_is_bowl ?k_is_bowl ?a_pit ?l_pit ?c_pit ?k_pit ?a_is_pit ?l_is_pit ?c_is_pit ?k_is_pit ?a_squares ?l_squares ?c_squares ?k_squares ?a_is_squares ?l_is_squares ?c_is_squares ?k_is_squares ?a_is_square_at ?l_is_square_at ?c_is_square_at ?k_is_square_at ?a__leaned ?l__leaned ?c__leaned ?k__leaned ?a__adds_up ?l__adds_up ?c__adds_up ?k__adds_up ?a__law_pot ?l__law_pot ?c__law_pot ?k__law_pot ?a__law_draw ?l__law_draw ?c__law_draw ?k__law_draw ?a__law_pick ?l__law_pick ?c__law_pick ?k__law_pick ?a__law_rows ?l__law_rows ?c__law_rows ?k__law_rows ?a__law_row ?l__law_row ?c__law_row ?k__law_row ?a__law_table ?l__law_table ?c__law_table ?k__law_table ?a__law_told ?l__law_told ?c__law_told ?k__law_told ?a__law_worth ?l__law_worth ?c__law_worth ?k__law_worth ?a__law_way_right ?l__law_way_right ?c__law_way_right ?k__law_way_right ?a__law_home_right ?l__law_home_right ?c__law_home_right ?k__law_home_right ?a__law_right ?l__law_right ?c__law_right ?k__law_right ?a_law ?l_law ?c_law ?k_law ?a_T___init__ ?i_T___init__ ?l_T___init__ ?c_T___init__ ?k_T___init__ ?p_T_rows ?g_T_rows ?t_T_rows ?r_T_rows ?l_T_rows ?c_T_rows ?k_T_rows ?p_T_size ?g_T_size ?t_T_size ?r_T_size ?l_T_size ?c_T_size ?k_T_size ?p_T_determinant ?g_T_determinant ?t_T_determinant ?r_T_determinant ?l_T_determinant ?c_T_determinant ?k_T_determinant ?a_T___mul__ ?i_T___mul__ ?l_T___mul__ ?c_T___mul__ ?k_T___mul__ ?a_T_lead ?i_T_lead ?l_T_lead ?c_T_lead ?k_T_lead ?a_T_undone ?i_T_undone ?l_T_undone ?c_T_undone ?k_T_undone ?a_Fm___init__ ?i_Fm___init__ ?l_Fm___init__ ?c_Fm___init__ ?k_Fm___init__ ?p_Fm_rows ?g_Fm_rows ?t_Fm_rows ?r_Fm_rows ?l_Fm_rows ?c_Fm_rows ?k_Fm_rows ?p_Fm_size ?g_Fm_size ?t_Fm_size ?r_Fm_size ?l_Fm_size ?c_Fm_size ?k_Fm_size ?p_Fm_determinant ?g_Fm_determinant ?t_Fm_determinant ?r_Fm_determinant ?l_Fm_determinant ?c_Fm_determinant ?k_Fm_determinant ?a_Fm___eq__ ?i_Fm___eq__ ?l_Fm___eq__ ?c_Fm___eq__ ?k_Fm___eq__ ?a_Fm___add__ ?i_Fm___add__ ?l_Fm___add__ ?c_Fm___add__ ?k_Fm___add__ ?a_Fm_worth ?i_Fm_worth ?l_Fm_worth ?c_Fm_worth ?k_Fm_worth ?a_Fm_between ?i_Fm_between ?l_Fm_between ?c_Fm_between ?k_Fm_between ?a_Fm_led ?i_Fm_led ?l_Fm_led ?c_Fm_led ?k_Fm_led ?a_Fm_divisor ?i_Fm_divisor ?l_Fm_divisor ?c_Fm_divisor ?k_Fm_divisor ?pg ?hd ?po ?sa ?mk ?kc ?nR ?cc ?cg ?ct ?cm ?hcl ?hmr ?pgF ?hdF ?poF ?saF ?mkF ?kcF ?nRF ?ccF ?cmF ?hclF ?hmrF ?cmlF ?cmtF ?hneF ?hgcd ?z0 ?z1 ?z2 ?z3 ?z4 ?z5 ?z6 ?z7 ?z8 ?z9 ?z10 ?z11 ?z12 ?z13 ?z14 ?z15 ?zz_min ?zz_any
    (case aC => k_is)
    (case aCF => k_is)
    (case a_is_integer => k_is)
    (case l_is_integer => k_is)
    (case c_is_integer => k_is)
    (case k_is_integer => k_is)
    (case a_is_list => k_is)
    (case l_is_list => k_is)
    (case c_is_list => k_is)
    (case k_is_list => k_is)
    (case a_is_row => k_is)
    (case l_is_row => k_is)
    (case c_is_row => k_is)
    (case k_is_row => k_is)
    (case a_is_row_of => k_is)
    (case l_is_row_of => k_is)
    (case c_is_row_of => k_is)
    (case k_is_row_of => k_is)
    (case a_check_row => k_is)
    (case l_check_row => k_is)
    (case c_check_row => k_is)
    (case k_check_row => k_is)
    (case a_is_grid => k_is)
    (case l_is_grid => k_is)
    (case c_is_grid => k_is)
    (case k_is_grid => k_is)
    (case a_check_size => k_is)
    (case l_check_size => k_is)
    (case c_check_size => k_is)
    (case k_check_size => k_is)
    (case a_copied => k_is)
    (case l_copied => k_is)
    (case c_copied => k_is)
    (case k_copied => k_is)
    (case a_unit_rows => k_is)
    (case l_unit_rows => k_is)
    (case c_unit_rows => k_is)
    (case k_unit_rows => k_is)
    (case a_across => k_is)
    (case l_across => k_is)
    (case c_across => k_is)
    (case k_across => k_is)
    (case a_scalar => k_is)
    (case l_scalar => k_is)
    (case c_scalar => k_is)
    (case k_scalar => k_is)
    (case a_led_row => k_is)
    (case l_led_row => k_is)
    (case c_led_row => k_is)
    (case k_led_row => k_is)
    (case a_multiplied => k_is)
    (case l_multiplied => k_is)
    (case c_multiplied => k_is)
    (case k_multiplied => k_is)
    (case a_without => k_is)
    (case l_without => k_is)
    (case c_without => k_is)
    (case k_without => k_is)
    (case a_leading => k_is)
    (case l_leading => k_is)
    (case c_leading => k_is)
    (case k_leading => k_is)
    (case a_determinant_of => k_is)
    (case l_determinant_of => k_is)
    (case c_determinant_of => k_is)
    (case k_determinant_of => k_is)
    (case a_cofactor => k_is)
    (case l_cofactor => k_is)
    (case c_cofactor => k_is)
    (case k_cofactor => k_is)
    (case a_trace_of => k_is)
    (case l_trace_of => k_is)
    (case c_trace_of => k_is)
    (case k_trace_of => k_is)
    (case a_polynomial_of => k_is)
    (case l_polynomial_of => k_is)
    (case c_polynomial_of => k_is)
    (case k_polynomial_of => k_is)
    (case a_check_table => k_is)
    (case l_check_table => k_is)
    (case c_check_table => k_is)
    (case k_check_table => k_is)
    (case a_check_alike => k_is)
    (case l_check_alike => k_is)
    (case c_check_alike => k_is)
    (case k_check_alike => k_is)
    (case a_idle => k_is)
    (case l_idle => k_is)
    (case c_idle => k_is)
    (case k_idle => k_is)
    (case a_check_form => k_is)
    (case l_check_form => k_is)
    (case c_check_form => k_is)
    (case k_check_form => k_is)
    (case a_corners => k_is)
    (case l_corners => k_is)
    (case c_corners => k_is)
    (case k_corners => k_is)
    (case a_signs => k_is)
    (case l_signs => k_is)
    (case c_signs => k_is)
    (case k_signs => k_is)
    (case a_is_bowl => k_is)
    (case l_is_bowl => k_is)
    (case c_is_bowl => k_is)
    (case k_is_bowl => k_is)
    (case a_pit => k_is)
    (case l_pit => k_is)
    (case c_pit => k_is)
    (case k_pit => k_is)
    (case a_is_pit => k_is)
    (case l_is_pit => k_is)
    (case c_is_pit => k_is)
    (case k_is_pit => k_is)
    (case a_squares => k_is)
    (case l_squares => k_is)
    (case c_squares => k_is)
    (case k_squares => k_is)
    (case a_is_squares => k_is)
    (case l_is_squares => k_is)
    (case c_is_squares => k_is)
    (case k_is_squares => k_is)
    (case a_is_square_at => k_is)
    (case l_is_square_at => k_is)
    (case c_is_square_at => k_is)
    (case k_is_square_at => k_is)
    (case a__leaned => k_is)
    (case l__leaned => k_is)
    (case c__leaned => k_is)
    (case k__leaned => k_is)
    (case a__adds_up => k_is)
    (case l__adds_up => k_is)
    (case c__adds_up => k_is)
    (case k__adds_up => k_is)
    (case a__law_pot => k_is)
    (case l__law_pot => k_is)
    (case c__law_pot => k_is)
    (case k__law_pot => k_is)
    (case a__law_draw => k_is)
    (case l__law_draw => k_is)
    (case c__law_draw => k_is)
    (case k__law_draw => k_is)
    (case a__law_pick => k_is)
    (case l__law_pick => k_is)
    (case c__law_pick => k_is)
    (case k__law_pick => k_is)
    (case a__law_rows => k_is)
    (case l__law_rows => k_is)
    (case c__law_rows => k_is)
    (case k__law_rows => k_is)
    (case a__law_row => k_is)
    (case l__law_row => k_is)
    (case c__law_row => k_is)
    (case k__law_row => k_is)
    (case a__law_table => k_is)
    (case l__law_table => k_is)
    (case c__law_table => k_is)
    (case k__law_table => k_is)
    (case a__law_told => k_is)
    (case l__law_told => k_is)
    (case c__law_told => k_is)
    (case k__law_told => k_is)
    (case a__law_worth => k_is)
    (case l__law_worth => k_is)
    (case c__law_worth => k_is)
    (case k__law_worth => k_is)
    (case a__law_way_right => k_is)
    (case l__law_way_right => k_is)
    (case c__law_way_right => k_is)
    (case k__law_way_right => k_is)
    (case a__law_home_right => k_is)
    (case l__law_home_right => k_is)
    (case c__law_home_right => k_is)
    (case k__law_home_right => k_is)
    (case a__law_right => k_is)
    (case l__law_right => k_is)
    (case c__law_right => k_is)
    (case k__law_right => k_is)
    (case a_law => k_is)
    (case l_law => k_is)
    (case c_law => k_is)
    (case k_law => k_is)
    (case a_T___init__ => k_is)
    (case i_T___init__ => k_is)
    (case l_T___init__ => k_is)
    (case c_T___init__ => k_is)
    (case k_T___init__ => k_is)
    (case p_T_rows => k_is)
    (case g_T_rows => k_is)
    (case t_T_rows => k_is)
    (case r_T_rows => k_is)
    (case l_T_rows => k_is)
    (case c_T_rows => k_is)
    (case k_T_rows => k_is)
    (case p_T_size => k_is)
    (case g_T_size => k_is)
    (case t_T_size => k_is)
    (case r_T_size => k_is)
    (case l_T_size => k_is)
    (case c_T_size => k_is)
    (case k_T_size => k_is)
    (case p_T_determinant => k_is)
    (case g_T_determinant => k_is)
    (case t_T_determinant => k_is)
    (case r_T_determinant => k_is)
    (case l_T_determinant => k_is)
    (case c_T_determinant => k_is)
    (case k_T_determinant => k_is)
    (case a_T___mul__ => k_is)
    (case i_T___mul__ => k_is)
    (case l_T___mul__ => k_is)
    (case c_T___mul__ => k_is)
    (case k_T___mul__ => k_is)
    (case a_T_lead => k_is)
    (case i_T_lead => k_is)
    (case l_T_lead => k_is)
    (case c_T_lead => k_is)
    (case k_T_lead => k_is)
    (case a_T_undone => k_is)
    (case i_T_undone => k_is)
    (case l_T_undone => k_is)
    (case c_T_undone => k_is)
    (case k_T_undone => k_is)
    (case a_Fm___init__ => k_is)
    (case i_Fm___init__ => k_is)
    (case l_Fm___init__ => k_is)
    (case c_Fm___init__ => k_is)
    (case k_Fm___init__ => k_is)
    (case p_Fm_rows => k_is)
    (case g_Fm_rows => k_is)
    (case t_Fm_rows => k_is)
    (case r_Fm_rows => k_is)
    (case l_Fm_rows => k_is)
    (case c_Fm_rows => k_is)
    (case k_Fm_rows => k_is)
    (case p_Fm_size => k_is)
    (case g_Fm_size => k_is)
    (case t_Fm_size => k_is)
    (case r_Fm_size => k_is)
    (case l_Fm_size => k_is)
    (case c_Fm_size => k_is)
    (case k_Fm_size => k_is)
    (case p_Fm_determinant => k_is)
    (case g_Fm_determinant => k_is)
    (case t_Fm_determinant => k_is)
    (case r_Fm_determinant => k_is)
    (case l_Fm_determinant => k_is)
    (case c_Fm_determinant => k_is)
    (case k_Fm_determinant => k_is)
    (case a_Fm___eq__ => k_is)
    (case i_Fm___eq__ => k_is)
    (case l_Fm___eq__ => k_is)
    (case c_Fm___eq__ => k_is)
    (case k_Fm___eq__ => k_is)
    (case a_Fm___add__ => k_is)
    (case i_Fm___add__ => k_is)
    (case l_Fm___add__ => k_is)
    (case c_Fm___add__ => k_is)
    (case k_Fm___add__ => k_is)
    (case a_Fm_worth => k_is)
    (case i_Fm_worth => k_is)
    (case l_Fm_worth => k_is)
    (case c_Fm_worth => k_is)
    (case k_Fm_worth => k_is)
    (case a_Fm_between => k_is)
    (case i_Fm_between => k_is)
    (case l_Fm_between => k_is)
    (case c_Fm_between => k_is)
    (case k_Fm_between => k_is)
    (case a_Fm_led => k_is)
    (case i_Fm_led => k_is)
    (case l_Fm_led => k_is)
    (case c_Fm_led => k_is)
    (case k_Fm_led => k_is)
    (case a_Fm_divisor => k_is)
    (case i_Fm_divisor => k_is)
    (case l_Fm_divisor => k_is)
    (case c_Fm_divisor => k_is)
    (case k_Fm_divisor => k_is)
    (case pg => k_is)
    (case hd => k_is)
    (case po => k_is)
    (case sa => k_is)
    (case mk => k_is)
    (case kc => k_is)
    (case nR => k_is)
    (case cc => k_is)
    (case cg => k_is)
    (case ct => k_is)
    (case cm => k_is)
    (case hcl => k_is)
    (case hmr => rfl)
    (case pgF => k_is)
    (case hdF => k_is)
    (case poF => k_is)
    (case saF => k_is)
    (case mkF => k_is)
    (case kcF => k_is)
    (case nRF => k_is)
    (case ccF => k_is)
    (case cmF => k_is)
    (case hclF => k_is)
    (case hmrF => rfl)
    (case cmlF => k_is)
    (case cmtF => k_is)
    (case hneF => k_is)
    (case hgcd => k_is)
    (case z0 => k_is)
    (case z1 => k_is)
    (case z2 => k_is)
    (case z3 => k_is)
    (case z4 => k_is)
    (case z5 => k_is)
    (case z6 => k_is)
    (case z7 => k_is)
    (case z8 => k_is)
    (case z9 => k_is)
    (case z10 => k_is)
    (case z11 => k_is)
    (case z12 => k_is)
    (case z13 => k_is)
    (case z14 => k_is)
    (case z15 => k_is)
    (case zz_min => k_is)
    (case zz_any => k_is)
#print axioms PySem.Challenge.cw_keptbowls_k29_whole_forms_led_about_holds
