import PyProof.Rows.All
import Wide.All
import OpenK.AllK
import Wide.FinOn
import HandS.ForMost
import HandS.IsInst
import HandS.Zip
import HandS.Star
import KE.KStar
import HandS.Wide
import HandS.WideBits
import HandS.Property
import HandS.Style
import HandS.SlotsOwn
import HandS.More
import HandS.Sort
import HandS.TupMul
import HandS.TupAny
import HandS.TryOnly
import HandS.FStr
import HandS.MakeKwOnly
import HandS.Conv
import PySem.Challenge.RW_keptbowls_k34_whole_keeping
set_option Elab.async false
set_option linter.all false
set_option maxRecDepth 100000
set_option maxHeartbeats 1000000
namespace Zn
open PySem PySem.Spec PyProof.Rows L2
open PySem.Sem (wp)
/-- a sequence to be walked: a tuple or a list, where, its items -/
abbrev Src := Bool × Addr × Array Value
def ItK (t : Bool) (h : Heap) (i l : Addr) (k : Nat) : Prop := cond t (h.IsTupleIter i l k) (h.IsListIter i l k)
def SqK (t : Bool) (h : Heap) (l : Addr) (xs : Array Value) : Prop := cond t (h.IsTuple l xs) (h.IsList l xs)
abbrev TupAt (h : Heap) (T : Addr) (xs : List Value) : Prop := h.get? T = some { cls := .type "tuple", data := .seq xs.toArray }
theorem ItK.at {t : Bool} {h h' : Heap} {i l : Addr} {k : Nat} (x : ItK t h i l k) (e : ∀ o, h.get? i = some o → h'.get? i = some o) : ItK t h' i l k := by
  cases t with
  | true => exact Heap.IsTupleIter.at x e
  | false => exact Heap.IsListIter.at x e
theorem SqK.at {t : Bool} {h h' : Heap} {l : Addr} {xs : Array Value} (x : SqK t h l xs) (e : ∀ o, h.get? l = some o → h'.get? l = some o) : SqK t h' l xs := by
  cases t with
  | true => obtain ⟨o, ho, r⟩ := x; exact ⟨o, e _ ho, r⟩
  | false => obtain ⟨o, ho, r⟩ := x; exact ⟨o, e _ ho, r⟩
theorem ItK.lt {t : Bool} {h : Heap} {i l : Addr} {k : Nat} (x : ItK t h i l k) : i < h.objs.size := by
  cases t with
  | true => obtain ⟨o, ho, _⟩ := x; exact Heap.lt_size ho
  | false => obtain ⟨o, ho, _⟩ := x; exact Heap.lt_size ho
theorem SqK.lt {t : Bool} {h : Heap} {l : Addr} {xs : Array Value} (x : SqK t h l xs) : l < h.objs.size := by
  cases t with
  | true => obtain ⟨o, ho, _⟩ := x; exact Heap.lt_size ho
  | false => obtain ⟨o, ho, _⟩ := x; exact Heap.lt_size ho
theorem ItK.rec_ {t : Bool} {h : Heap} {i l : Addr} {k : Nat} (x : ItK t h i l k) : ∃ o, h.get? i = some o ∧ (o.cls = .type "tuple_iterator" ∨ o.cls = .type "list_iterator") ∧ o.data = .fields #[.ref l, .int k 0] := by
  cases t with
  | true => obtain ⟨o, ho, hc, hd⟩ := x; exact ⟨o, ho, .inl hc, hd⟩
  | false => obtain ⟨o, ho, hc, hd⟩ := x; exact ⟨o, ho, .inr hc, hd⟩
section
variable {prog : Program} {w : World} {A : Around} {E : Value → Shared → Prop} {s : Shared}
theorem nextOf_item {t : Bool} {i l : Addr} {k : Nat} {xs : Array Value} {x : Value} {Q : Value → Shared → Prop} (hi : ItK t s.heap i l k) (hl : SqK t s.heap l xs) (hx : xs[k]? = some x)
    (hQ : ∀ h', ItK t h' i l (k + 1) → Heap.SameBut i s.heap h' → Q x { s with heap := h' }) : wpAny (model prog w) A (Builtin.SmallTypes.nextOf (.ref i)) Q E s := by
  cases t with
  | true => exact RZ.nextOf_tuple_item hi hl hx hQ
  | false => exact wpAny_nextOf_list_item hi hl hx hQ
theorem nextOf_end {t : Bool} {i l : Addr} {k : Nat} {xs : Array Value} {Q : Value → Shared → Prop} (hh : A.handled = none) (hi : ItK t s.heap i l k) (hl : SqK t s.heap l xs) (hx : xs[k]? = none)
    (hE : ∀ h' e, Heap.ExtBut i s.heap h' → (∃ o, h'.get? e = some o ∧ o.cls = .type "StopIteration") → E (.ref e) { s with heap := h' }) : wpAny (model prog w) A (Builtin.SmallTypes.nextOf (.ref i)) Q E s := by
  cases t with
  | true => exact RZ.nextOf_tuple_end hh hi hl hx hE
  | false => exact wpAny_nextOf_list_end hh hi hl hx hE
theorem pyIter_K {t : Bool} {l : Addr} {xs : Array Value} {Q : Value → Shared → Prop} (hl : SqK t s.heap l xs)
    (hQ : ∀ h', ItK t h' s.heap.objs.size l 0 → h'.objs.size = s.heap.objs.size + 1 → (∀ c o, s.heap.get? c = some o → h'.get? c = some o) → Q (.ref s.heap.objs.size) { s with heap := h' }) :
    wpAny (model prog w) A (pyIter (.ref l)) Q E s := by
  cases t with
  | true => exact wpAny_pyIter_tuple hl (hQ _ ⟨_, Heap.get?_push_size _ rfl, rfl, rfl⟩ (Heap.size_push ..) fun c o e => Heap.get?_push_of_some _ e)
  | false => exact wpAny_pyIter_list hl (hQ _ ⟨_, Heap.get?_push_size _ rfl, rfl, rfl⟩ (Heap.size_push ..) fun c o e => Heap.get?_push_of_some _ e)
/-- the iterators at the k-th turn of their sequences -/
def AllAt (h : Heap) (k : Nat) : List Addr → List Src → Prop
  | [], [] => True
  | i :: is, (t, l, xs) :: r => ItK t h i l k ∧ SqK t h l xs ∧ AllAt h k is r
  | _, _ => False
theorem AllAt.at {h h' : Heap} {k : Nat} : ∀ {is : List Addr} {r : List Src}, AllAt h k is r → (∀ i ∈ is, ∀ o, h.get? i = some o → h'.get? i = some o) → (∀ q ∈ r, ∀ o, h.get? q.2.1 = some o → h'.get? q.2.1 = some o) → AllAt h' k is r
  | [], [], _, _, _ => trivial
  | i :: is, (t, l, xs) :: r, x, e1, e2 => ⟨x.1.at (e1 i List.mem_cons_self), x.2.1.at (e2 _ List.mem_cons_self), AllAt.at x.2.2 (fun j hj => e1 j (List.mem_cons_of_mem _ hj)) fun q hq => e2 q (List.mem_cons_of_mem _ hq)⟩
theorem AllAt.len {h : Heap} {k : Nat} : ∀ {is : List Addr} {r : List Src}, AllAt h k is r → is.length = r.length
  | [], [], _ => rfl
  | _ :: _, _ :: _, x => by rw [List.length_cons, List.length_cons, AllAt.len x.2.2]
theorem AllAt.lt {h : Heap} {k : Nat} : ∀ {is : List Addr} {r : List Src}, AllAt h k is r → ∀ i ∈ is, i < h.objs.size
  | i :: is, (t, l, xs) :: r, x, j, hj => by
    rcases List.mem_cons.mp hj with rfl | hj
    · exact x.1.lt
    · exact AllAt.lt x.2.2 j hj
theorem AllAt.ob {h : Heap} {k : Nat} : ∀ {is : List Addr} {r : List Src}, AllAt h k is r → ∀ i ∈ is, ∃ o l, h.get? i = some o ∧ o.data = .fields #[.ref l, .int k 0]
  | i :: is, (t, l, xs) :: r, x, j, hj => by
    rcases List.mem_cons.mp hj with rfl | hj
    · obtain ⟨o, ho, _, hd⟩ := x.1.rec_
      exact ⟨o, l, ho, hd⟩
    · exact AllAt.ob x.2.2 j hj
/-- the items at the k-th turn -/
def Items (k : Nat) : List Src → List Value → Prop
  | [], [] => True
  | (_, _, xs) :: r, y :: ys => xs[k]? = some y ∧ Items k r ys
  | _, _ => False
theorem Items.len {k : Nat} : ∀ {r : List Src} {ys : List Value}, Items k r ys → r.length = ys.length
  | [], [], _ => rfl
  | _ :: _, _ :: _, x => by rw [List.length_cons, List.length_cons, Items.len x.2]
/-- what a draw asks of the loop's body, and gives -/
def DrawOk (M : Model) (A : Around) {β : Type} (f : Value × Nat → β → Sem (ForInStep β)) (b0 : β) (TO : Addr) : Prop :=
  ∀ (s : Shared) (i l : Addr) (t : Bool) (k : Nat) (xs : Array Value) (x old : Value) (pre post : List Value) (Q : ForInStep β → Shared → Prop) (E : Value → Shared → Prop), ItK t s.heap i l k → SqK t s.heap l xs → xs[k]? = some x → i ≠ TO → l ≠ TO → l ≠ i →
    (pre ++ old :: post).length ≤ 1000 → TupAt s.heap TO (pre ++ old :: post) →
    (∀ h', ItK t h' i l (k + 1) → TupAt h' TO (pre ++ x :: post) → h'.objs.size = s.heap.objs.size → (∀ c o, c ≠ TO → c ≠ i → s.heap.get? c = some o → h'.get? c = some o) → Q (.yield b0) { s with heap := h' }) →
    wpAny M A (f (.ref i, pre.length) b0) Q E s
theorem draw_all {β : Type} {M : Model} {f : Value × Nat → β → Sem (ForInStep β)} {b0 : β} {TO : Addr} {Q : β → Shared → Prop} (hf : DrawOk M A f b0 TO) (k : Nat) (is : List Addr) :
    ∀ (r : List Src) (ys olds pre : List Value) (s : Shared), AllAt s.heap k is r → Items k r ys → ys.length = olds.length → (pre ++ olds).length ≤ 1000 → is.Nodup → TO ∉ is → (∀ q ∈ r, q.2.1 ≠ TO ∧ q.2.1 ∉ is) → TupAt s.heap TO (pre ++ olds) →
      (∀ h', AllAt h' (k + 1) is r → TupAt h' TO (pre ++ ys) → h'.objs.size = s.heap.objs.size → (∀ c o, c ≠ TO → c ∉ is → s.heap.get? c = some o → h'.get? c = some o) → Q b0 { s with heap := h' }) →
      wpAny M A (forIn ((is.map Value.ref).zipIdx pre.length) b0 f) Q E s := by
  induction is with
  | nil =>
    intro r ys olds pre s ha hy hl _ _ _ _ hT hQ
    cases r with
    | cons _ _ => exact ha.elim
    | nil =>
      cases ys with
      | cons _ _ => exact hy.elim
      | nil =>
        have e : olds = [] := List.length_eq_zero_iff.mp hl.symm
        subst e
        rw [List.map_nil, List.zipIdx_nil, List.forIn_nil]
        exact wpAny_pure (hQ s.heap trivial hT rfl fun _ _ _ _ e => e)
  | cons i is ih =>
    intro r ys olds pre s ha hy hl hbd hn hTO hs hT hQ
    cases r with
    | nil => exact ha.elim
    | cons q r =>
      obtain ⟨t, l, xs⟩ := q
      cases ys with
      | nil => exact hy.elim
      | cons y ys =>
        cases olds with
        | nil => cases hl
        | cons o olds =>
          have ha1 : ItK t s.heap i l k := ha.1
          have ha2 : SqK t s.heap l xs := ha.2.1
          have ha3 : AllAt s.heap k is r := ha.2.2
          have hy1 : xs[k]? = some y := hy.1
          have hy2 : Items k r ys := hy.2
          rw [List.map_cons, List.zipIdx_cons, List.forIn_cons]
          have hni : i ∉ is := (List.nodup_cons.mp hn).1
          have hiT : i ≠ TO := fun e => hTO (e ▸ List.mem_cons_self)
          have hq := hs _ List.mem_cons_self
          have hq1 : l ≠ TO := hq.1
          have hq2 : l ∉ i :: is := hq.2
          refine wpAny_bind (hf s i l t k xs y o pre olds _ E ha1 ha2 hy1 hiT hq1 (fun e => hq2 (e ▸ List.mem_cons_self)) hbd hT fun h1 hi1 hT1 hz1 hk1 => ?_)
          have e1 : pre.length + 1 = (pre ++ [y]).length := by simp
          have hT1' : TupAt h1 TO ((pre ++ [y]) ++ olds) := by
            rw [List.append_assoc]
            exact hT1
          have goal := ih r ys olds (pre ++ [y]) { s with heap := h1 } (ha3.at (fun j hj o e => hk1 j o (fun q => hTO (q ▸ List.mem_cons_of_mem _ hj)) (fun q => hni (q ▸ hj)) e)
            fun q hqm o e => hk1 _ o (hs q (List.mem_cons_of_mem _ hqm)).1 (fun z => (hs q (List.mem_cons_of_mem _ hqm)).2 (z ▸ List.mem_cons_self)) e) hy2 (Nat.succ.inj hl) (by simpa using hbd) (List.nodup_cons.mp hn).2 (fun z => hTO (List.mem_cons_of_mem _ z))
            (fun q hqm => ⟨(hs q (List.mem_cons_of_mem _ hqm)).1, fun z => (hs q (List.mem_cons_of_mem _ hqm)).2 (List.mem_cons_of_mem _ z)⟩) hT1' fun h2 ha2' hT2 hz2 hk2 => ?_
          · rw [← e1] at goal
            exact goal
          · refine hQ h2 ⟨hi1.at fun o e => hk2 i o hiT hni e, ha2.at fun o e => hk2 l o hq1 (fun z => hq2 (List.mem_cons_of_mem _ z)) (hk1 l o hq1 (fun z => hq2 (z ▸ List.mem_cons_self)) e), ha2'⟩ ?_ (hz2.trans hz1) fun c o c1 c2 e => ?_
            · rw [List.append_assoc] at hT2
              exact hT2
            · exact hk2 c o c1 (fun z => c2 (List.mem_cons_of_mem _ z)) (hk1 c o c1 (fun z => c2 (z ▸ List.mem_cons_self)) e)
end
end Zn
set_option Elab.async false
set_option linter.all false
set_option maxRecDepth 100000
set_option maxHeartbeats 1000000
namespace Zn
open PySem PySem.Spec PyProof.Rows L2
open PySem.Sem (wp)
section
variable {prog : Program} {w : World} {A : Around} {E : Value → Shared → Prop} {s : Shared}
/-- one turn of the loop within next -/
theorem next_item {z TI TO : Addr} {is : List Addr} {r : List Src} {k : Nat} {ys olds : List Value} {Q : Value → Shared → Prop} (hne : is ≠ [])
    (hz : IsZip s.heap z TI TO .none) (hTI : TupAt s.heap TI (is.map Value.ref)) (hTO : TupAt s.heap TO olds) (ha : AllAt s.heap k is r) (hy : Items k r ys) (hlo : olds.length = is.length) (hsm : is.length ≤ 1000)
    (hnd : is.Nodup) (hzi : z ∉ is) (hTOi : TO ∉ is) (hzT : z ≠ TO) (hs : ∀ q ∈ r, q.2.1 ≠ TO ∧ q.2.1 ≠ z ∧ q.2.1 ∉ is)
    (hQ : ∀ h', IsZip h' z TI TO (rawInt s.heap.objs.size) → TupAt h' TO ys → AllAt h' (k + 1) is r → TupAt h' s.heap.objs.size ys → h'.objs.size = s.heap.objs.size + 1 →
      (∀ c o, c ≠ z → c ≠ TO → c ∉ is → s.heap.get? c = some o → h'.get? c = some o) → Q (.ref s.heap.objs.size) { s with heap := h' }) :
    wpAny (model prog w) A (Builtin.«zip.__next__» ⟨[.ref z], []⟩) (fun fin s' => ∃ v, fin = .done (.ret v) ∧ Q v s') E s := by
  show wpAny _ _ (field (.ref z) 2 >>= _) _ _ _
  refine wpAny_bind (wpAny_field hz rfl (x := .bool false) rfl ?_)
  show wpAny _ _ (field (.ref z) 3 >>= _) _ _ _
  refine wpAny_bind (wpAny_field hz rfl (x := .ref TI) rfl ?_)
  refine wpAny_bind (wpAny_seqItems hTI rfl ?_)
  have hem : (is.map Value.ref).toArray.isEmpty = false := by
    cases is with
    | nil => exact absurd rfl hne
    | cons _ _ => simp
  simp only [hem, Bool.false_eq_true, if_false]
  refine wpAny_bind ?_
  unfold Builtin.SmallTypes.ownedTupleIsFree
  refine wpAny_bind (wpAny_field hz rfl (x := .none) rfl (wpAny_pure ?_))
  simp only [if_true]
  refine wpAny_bind (wpAny_rule ?_)
  refine wpAny_bind (wpAny_field hz rfl (x := .ref TO) rfl ?_)
  refine wpAny_bind (wpAny_setField_rec hz (by simp) fun g1 hz1 hs1 => ?_)
  replace hz1 : IsZip g1 z TI TO .ellipsis := hz1
  have up1 : ∀ c o, c ≠ z → s.heap.get? c = some o → g1.get? c = some o := fun c o c1 e => hs1.extBut _ _ c1 e
  have ha1 : AllAt g1 k is r := ha.at (fun i hi o e => up1 i o (fun q => hzi (q ▸ hi)) e) fun q hq o e => up1 _ o (hs q hq).2.1 e
  have hly : ys.length = olds.length := by rw [hlo, ha.len, ← hy.len]
  refine wpAny_bind ?_
  refine draw_all (M := model prog w) (A := A) (E := E) (b0 := (none, ())) (TO := TO) (Q := _) ?hf k is r ys olds [] { s with heap := g1 } ha1 hy hly (by simpa [hlo] using hsm) hnd hTOi (fun q hq => ⟨(hs q hq).1, (hs q hq).2.2⟩) (up1 TO _ hzT.symm hTO) ?hq
  case hf =>
    intro s2 i l t k2 xs x old pre post Q2 E2 hi hl hx hiT hlT hli hbd hT2 kq
    show wpAny _ _ (((Builtin.SmallTypes.nextOf (.ref i) >>= fun v => pure (some v)).onRaise _) >>= _) _ _ _
    refine wpAny_bind (wpAny_onRaise ?_)
    refine wpAny_bind (nextOf_item hi hl hx fun g2 hi2 hs2 => wpAny_pure ?_)
    have hT3 : TupAt g2 TO (pre ++ old :: post) := hs2.extBut _ _ hiT.symm hT2
    refine wpAny_bind (wpAny_seqItems hT3 rfl ?_)
    have hb2 : (pre ++ old :: post).length ≤ sizeLine := Nat.le_trans hbd (by decide)
    refine wpAny_bind (wpAny_updateSeq hT3 rfl ?_ (by rw [List.size_toArray]; exact hb2) (by rw [Array.size_setIfInBounds, List.size_toArray]; exact Nat.le_succ_of_le hb2))
    refine wpAny_bind (wpAny_letGo (wpAny_pure ?_))
    have hup : Heap.SameBut TO g2 (g2.update TO (Obj.mapSeq fun v => v.setIfInBounds pre.length x)) := Heap.SameBut.update ..
    refine kq _ (hi2.at fun o e => hup.extBut _ _ hiT e) ?_ (hup.1.trans hs2.1) fun c o c1 c2 e => hup.extBut _ _ c1 (hs2.extBut _ _ c2 e)
    show (g2.update TO _).get? TO = _
    rw [Heap.get?_update_self _ hT3 rfl]
    simp [Obj.mapSeq, List.set_append]
  case hq =>
    intro g2 ha2 hT2 hz2 hk2
    refine wpAny_bind (wpAny_seqItems hT2 rfl ?_)
    have hyl : ys.length ≤ sizeLine := Nat.le_trans (by rw [hly, hlo]; exact hsm) (by decide)
    refine wpAny_bind (wpAny_newTuple ?_ (by simpa using hyl))
    have hsz : g2.objs.size = s.heap.objs.size := hz2.trans hs1.1
    have hz3 : IsZip g2 z TI TO .ellipsis := hk2 z _ hzT hzi hz1
    have hzlt : z < g2.objs.size := Heap.lt_size hz3
    have hTlt : TO < g2.objs.size := Heap.lt_size hT2
    show wpAny _ _ (Builtin.SmallTypes.ownedTupleHandOut (.ref z) (.ref g2.objs.size) >>= _) _ _ _
    refine wpAny_bind ?_
    unfold Builtin.SmallTypes.ownedTupleHandOut
    have hz4 : IsZip (g2.push { cls := .type "tuple", data := .seq ([] ++ ys).toArray.toList.toArray }) z TI TO .ellipsis := Heap.get?_push_of_some _ hz3
    refine wpAny_bind (wpAny_setField_rec hz4 (by simp) fun g5 hz5 hs5 => ?_)
    replace hz5 : IsZip g5 z TI TO (rawInt g2.objs.size) := hz5
    refine wpAny_setField_rec hz5 (by simp) fun g6 hz6 hs6 => ?_
    replace hz6 : IsZip g6 z TI TO (rawInt g2.objs.size) := hz6
    have up : ∀ c o, c ≠ z → g2.get? c = some o → g6.get? c = some o := fun c o c1 e => hs6.extBut _ _ c1 (hs5.extBut _ _ c1 (Heap.get?_push_of_some _ e))
    have hnew : TupAt g6 g2.objs.size ys := by
      have e := hs6.extBut _ _ (Nat.ne_of_gt hzlt) (hs5.extBut _ _ (Nat.ne_of_gt hzlt) (Heap.get?_push_size g2 (o := { cls := .type "tuple", data := .seq ([] ++ ys).toArray.toList.toArray }) rfl))
      simpa using e
    have hs8 : g6.objs.size = g2.objs.size + 1 := by rw [hs6.1, hs5.1, Heap.size_push]
    have hT6 : TupAt g6 TO ys := up TO _ hzT.symm hT2
    rw [hsz] at hz6 hnew hs8
    refine wpAny_pure ⟨_, rfl, ?_⟩
    show Q (.ref g2.objs.size) _
    rw [hsz]
    exact hQ g6 hz6 hT6 (ha2.at (fun i hi o e => up i o (fun q => hzi (q ▸ hi)) e) fun q hq o e => up _ o (hs q hq).2.1 e) hnew hs8 fun c o c1 c2 c3 e => up c o c1 (hk2 c o c2 c3 (up1 c o c1 e))
end
end Zn
set_option Elab.async false
set_option linter.all false
set_option maxRecDepth 100000
set_option maxHeartbeats 1000000
namespace Zn
open PySem PySem.Spec PyProof.Rows L2
open PySem.Sem (wp)
def StopAt (h : Heap) (e : Addr) : Prop := ∃ o, h.get? e = some o ∧ o.cls = .type "StopIteration"
/-- an exhausted sequence ends the loop's body -/
def StopOk (M : Model) (A : Around) {β : Type} (f : Value × Nat → β → Sem (ForInStep β)) (b0 : β) (z TI TO : Addr) : Prop :=
  ∀ (s : Shared) (i l : Addr) (t : Bool) (k j : Nat) (xs : Array Value) (Q : ForInStep β → Shared → Prop) (E : Value → Shared → Prop), ItK t s.heap i l k → SqK t s.heap l xs → xs[k]? = none → i ≠ z → IsZip s.heap z TI TO .ellipsis →
    (∀ h' e, (∀ c o, c ≠ z → c ≠ i → s.heap.get? c = some o → h'.get? c = some o) → StopAt h' e → E (.ref e) { s with heap := h' }) → wpAny M A (f (.ref i, j) b0) Q E s
section
variable {prog : Program} {w : World} {A : Around} {E : Value → Shared → Prop} {s : Shared}
theorem stop_all {β : Type} {M : Model} {f : Value × Nat → β → Sem (ForInStep β)} {b0 : β} {z TI TO : Addr} {Q : β → Shared → Prop} (hf : DrawOk M A f b0 TO) (hg : StopOk M A f b0 z TI TO) (k : Nat) (is : List Addr) :
    ∀ (r : List Src) (olds pre : List Value) (s : Shared), AllAt s.heap k is r → (∃ q ∈ r, q.2.2[k]? = none) → r.length = olds.length → (pre ++ olds).length ≤ 1000 → is.Nodup → TO ∉ is → z ∉ is → z ≠ TO → (∀ q ∈ r, q.2.1 ≠ TO ∧ q.2.1 ∉ is) →
      IsZip s.heap z TI TO .ellipsis → TupAt s.heap TO (pre ++ olds) →
      (∀ h' e, (∀ c o, c ≠ z → c ≠ TO → c ∉ is → s.heap.get? c = some o → h'.get? c = some o) → StopAt h' e → E (.ref e) { s with heap := h' }) →
      wpAny M A (forIn ((is.map Value.ref).zipIdx pre.length) b0 f) Q E s := by
  induction is with
  | nil =>
    intro r olds pre s ha hy _ _ _ _ _ _ _ _ _ _
    cases r with
    | cons _ _ => exact ha.elim
    | nil => obtain ⟨q, hq, _⟩ := hy; cases hq
  | cons i is ih =>
    intro r olds pre s ha hy hl hbd hn hTO hzi hzT hs hz hT hE
    cases r with
    | nil => exact ha.elim
    | cons q r =>
      obtain ⟨t, l, xs⟩ := q
      cases olds with
      | nil => cases hl
      | cons o olds =>
        have ha1 : ItK t s.heap i l k := ha.1
        have ha2 : SqK t s.heap l xs := ha.2.1
        have ha3 : AllAt s.heap k is r := ha.2.2
        rw [List.map_cons, List.zipIdx_cons, List.forIn_cons]
        have hni : i ∉ is := (List.nodup_cons.mp hn).1
        have hiT : i ≠ TO := fun e => hTO (e ▸ List.mem_cons_self)
        have hiz : i ≠ z := fun e => hzi (e ▸ List.mem_cons_self)
        have hq := hs _ List.mem_cons_self
        have hq1 : l ≠ TO := hq.1
        have hq2 : l ∉ i :: is := hq.2
        cases hx : xs[k]? with
        | none =>
          exact wpAny_bind (hg s i l t k _ xs _ _ ha1 ha2 hx hiz hz fun h' e hk he => hE h' e (fun c o c1 c2 c3 x => hk c o c1 (fun q => c3 (q ▸ List.mem_cons_self)) x) he)
        | some y =>
          have hy2 : ∃ q ∈ r, q.2.2[k]? = none := by
            obtain ⟨q, hq, e⟩ := hy
            rcases List.mem_cons.mp hq with rfl | hq
            · rw [hx] at e; cases e
            · exact ⟨q, hq, e⟩
          refine wpAny_bind (hf s i l t k xs y o pre olds _ E ha1 ha2 hx hiT hq1 (fun e => hq2 (e ▸ List.mem_cons_self)) hbd hT fun h1 hi1 hT1 hz1 hk1 => ?_)
          have e1 : pre.length + 1 = (pre ++ [y]).length := by simp
          have hT1' : TupAt h1 TO ((pre ++ [y]) ++ olds) := by
            rw [List.append_assoc]
            exact hT1
          have goal := ih r olds (pre ++ [y]) { s with heap := h1 } (ha3.at (fun j hj o e => hk1 j o (fun q => hTO (q ▸ List.mem_cons_of_mem _ hj)) (fun q => hni (q ▸ hj)) e)
            fun q hqm o e => hk1 _ o (hs q (List.mem_cons_of_mem _ hqm)).1 (fun z => (hs q (List.mem_cons_of_mem _ hqm)).2 (z ▸ List.mem_cons_self)) e) hy2 (Nat.succ.inj hl) (by simpa using hbd) (List.nodup_cons.mp hn).2 (fun z => hTO (List.mem_cons_of_mem _ z))
            (fun q => hzi (List.mem_cons_of_mem _ q)) hzT (fun q hqm => ⟨(hs q (List.mem_cons_of_mem _ hqm)).1, fun z => (hs q (List.mem_cons_of_mem _ hqm)).2 (List.mem_cons_of_mem _ z)⟩) (hk1 z _ hzT hiz.symm hz) hT1' fun h2 e hk2 he =>
              hE h2 e (fun c o c1 c2 c3 x => hk2 c o c1 c2 (fun q => c3 (List.mem_cons_of_mem _ q)) (hk1 c o c2 (fun q => c3 (q ▸ List.mem_cons_self)) x)) he
          rw [← e1] at goal
          exact goal
/-- the turn at which some sequence has come to its end -/
theorem next_stop {z TI TO : Addr} {is : List Addr} {r : List Src} {k : Nat} {olds : List Value} {Q : Fin → Shared → Prop} (hh : A.handled = none) (hne : is ≠ [])
    (hz : IsZip s.heap z TI TO .none) (hTI : TupAt s.heap TI (is.map Value.ref)) (hTO : TupAt s.heap TO olds) (ha : AllAt s.heap k is r) (hy : ∃ q ∈ r, q.2.2[k]? = none) (hlo : olds.length = is.length) (hsm : is.length ≤ 1000)
    (hnd : is.Nodup) (hzi : z ∉ is) (hTOi : TO ∉ is) (hzT : z ≠ TO) (hs : ∀ q ∈ r, q.2.1 ≠ TO ∧ q.2.1 ≠ z ∧ q.2.1 ∉ is)
    (hE : ∀ h' e, (∀ c o, c ≠ z → c ≠ TO → c ∉ is → s.heap.get? c = some o → h'.get? c = some o) → StopAt h' e → E (.ref e) { s with heap := h' }) :
    wpAny (model prog w) A (Builtin.«zip.__next__» ⟨[.ref z], []⟩) Q E s := by
  show wpAny _ _ (field (.ref z) 2 >>= _) _ _ _
  refine wpAny_bind (wpAny_field hz rfl (x := .bool false) rfl ?_)
  show wpAny _ _ (field (.ref z) 3 >>= _) _ _ _
  refine wpAny_bind (wpAny_field hz rfl (x := .ref TI) rfl ?_)
  refine wpAny_bind (wpAny_seqItems hTI rfl ?_)
  have hem : (is.map Value.ref).toArray.isEmpty = false := by
    cases is with
    | nil => exact absurd rfl hne
    | cons _ _ => simp
  simp only [hem, Bool.false_eq_true, if_false]
  refine wpAny_bind ?_
  unfold Builtin.SmallTypes.ownedTupleIsFree
  refine wpAny_bind (wpAny_field hz rfl (x := .none) rfl (wpAny_pure ?_))
  simp only [if_true]
  refine wpAny_bind (wpAny_rule ?_)
  refine wpAny_bind (wpAny_field hz rfl (x := .ref TO) rfl ?_)
  refine wpAny_bind (wpAny_setField_rec hz (by simp) fun g1 hz1 hs1 => ?_)
  replace hz1 : IsZip g1 z TI TO .ellipsis := hz1
  have up1 : ∀ c o, c ≠ z → s.heap.get? c = some o → g1.get? c = some o := fun c o c1 e => hs1.extBut _ _ c1 e
  have ha1 : AllAt g1 k is r := ha.at (fun i hi o e => up1 i o (fun q => hzi (q ▸ hi)) e) fun q hq o e => up1 _ o (hs q hq).2.1 e
  refine wpAny_bind ?_
  refine stop_all (M := model prog w) (A := A) (E := E) (b0 := (none, ())) (z := z) (TI := TI) (TO := TO) (Q := _) ?hf ?hg k is r olds [] { s with heap := g1 } ha1 hy (by rw [hlo, ha.len]) (by simpa [hlo] using hsm) hnd hTOi hzi hzT (fun q hq => ⟨(hs q hq).1, (hs q hq).2.2⟩) hz1 (up1 TO _ hzT.symm hTO)
    fun h' e hk he => hE h' e (fun c o c1 c2 c3 x => hk c o c1 c2 c3 (up1 c o c1 x)) he
  case hf =>
    intro s2 i l t k2 xs x old pre post Q2 E2 hi hl hx hiT hlT hli hbd hT2 kq
    show wpAny _ _ (((Builtin.SmallTypes.nextOf (.ref i) >>= fun v => pure (some v)).onRaise _) >>= _) _ _ _
    refine wpAny_bind (wpAny_onRaise ?_)
    refine wpAny_bind (nextOf_item hi hl hx fun g2 hi2 hs2 => wpAny_pure ?_)
    have hT3 : TupAt g2 TO (pre ++ old :: post) := hs2.extBut _ _ hiT.symm hT2
    refine wpAny_bind (wpAny_seqItems hT3 rfl ?_)
    have hb2 : (pre ++ old :: post).length ≤ sizeLine := Nat.le_trans hbd (by decide)
    refine wpAny_bind (wpAny_updateSeq hT3 rfl ?_ (by rw [List.size_toArray]; exact hb2) (by rw [Array.size_setIfInBounds, List.size_toArray]; exact Nat.le_succ_of_le hb2))
    refine wpAny_bind (wpAny_letGo (wpAny_pure ?_))
    have hup : Heap.SameBut TO g2 (g2.update TO (Obj.mapSeq fun v => v.setIfInBounds pre.length x)) := Heap.SameBut.update ..
    refine kq _ (hi2.at fun o e => hup.extBut _ _ hiT e) ?_ (hup.1.trans hs2.1) fun c o c1 c2 e => hup.extBut _ _ c1 (hs2.extBut _ _ c2 e)
    show (g2.update TO _).get? TO = _
    rw [Heap.get?_update_self _ hT3 rfl]
    simp [Obj.mapSeq, List.set_append]
  case hg =>
    intro s2 i l t k2 j xs Q2 E2 hi hl hx hiz hz2 ke
    show wpAny _ _ (((Builtin.SmallTypes.nextOf (.ref i) >>= fun v => pure (some v)).onRaise _) >>= _) _ _ _
    refine wpAny_bind (wpAny_onRaise ?_)
    refine wpAny_bind (nextOf_end hh hi hl hx fun g2 e hs2 he => ?_)
    obtain ⟨oe, hoe, hce⟩ := he
    have hz3 : IsZip g2 z TI TO .ellipsis := hs2 _ _ hiz.symm hz2
    have hez : e ≠ z := fun x => by subst x; rw [hz3] at hoe; cases hoe; simp at hce
    exact wpAny_setField_rec hz3 (by simp) fun g3 _ hs3 => ke g3 e (fun c o c1 c2 x => hs3.extBut _ _ c1 (hs2 _ _ c2 x)) ⟨oe, hs3.extBut _ _ hez hoe, hce⟩
theorem pyNext_item {z TI TO : Addr} {is : List Addr} {r : List Src} {k : Nat} {ys olds : List Value} {Q : Option Value → Shared → Prop} (hne : is ≠ [])
    (hz : IsZip s.heap z TI TO .none) (hTI : TupAt s.heap TI (is.map Value.ref)) (hTO : TupAt s.heap TO olds) (ha : AllAt s.heap k is r) (hy : Items k r ys) (hlo : olds.length = is.length) (hsm : is.length ≤ 1000)
    (hnd : is.Nodup) (hzi : z ∉ is) (hTOi : TO ∉ is) (hzT : z ≠ TO) (hs : ∀ q ∈ r, q.2.1 ≠ TO ∧ q.2.1 ≠ z ∧ q.2.1 ∉ is)
    (hQ : ∀ h', IsZip h' z TI TO (rawInt s.heap.objs.size) → TupAt h' TO ys → AllAt h' (k + 1) is r → TupAt h' s.heap.objs.size ys → h'.objs.size = s.heap.objs.size + 1 →
      (∀ c o, c ≠ z → c ≠ TO → c ∉ is → s.heap.get? c = some o → h'.get? c = some o) → Q (some (.ref s.heap.objs.size)) { s with heap := h' }) : wpAny (model prog w) A (pyNext (.ref z)) Q E s := by
  have ty : s.TypeIs (.ref z) "zip" := ⟨_, hz, rfl⟩
  unfold pyNext
  refine wpAny_bind (wpAny_attempt (wpAny_callSpecial?_slot (name := Str.ofString "__next__") ty F.slot_zip_next ?_))
  exact wpAny_call_entry F.slot_zip_next ty F.entry_zip_next (next_item hne hz hTI hTO ha hy hlo hsm hnd hzi hTOi hzT hs fun h' b1 b2 b3 b4 b5 b6 => wpAny_pure (hQ h' b1 b2 b3 b4 b5 b6)) (F.args_zip_next_1 _)
theorem pyNext_stop {z TI TO : Addr} {is : List Addr} {r : List Src} {k : Nat} {olds : List Value} {Q : Option Value → Shared → Prop} (hh : A.handled = none) (hne : is ≠ [])
    (hz : IsZip s.heap z TI TO .none) (hTI : TupAt s.heap TI (is.map Value.ref)) (hTO : TupAt s.heap TO olds) (ha : AllAt s.heap k is r) (hy : ∃ q ∈ r, q.2.2[k]? = none) (hlo : olds.length = is.length) (hsm : is.length ≤ 1000)
    (hnd : is.Nodup) (hzi : z ∉ is) (hTOi : TO ∉ is) (hzT : z ≠ TO) (hs : ∀ q ∈ r, q.2.1 ≠ TO ∧ q.2.1 ≠ z ∧ q.2.1 ∉ is)
    (hQ : ∀ h', (∀ c o, c ≠ z → c ≠ TO → c ∉ is → s.heap.get? c = some o → h'.get? c = some o) → Q none { s with heap := h' }) : wpAny (model prog w) A (pyNext (.ref z)) Q E s := by
  have ty : s.TypeIs (.ref z) "zip" := ⟨_, hz, rfl⟩
  unfold pyNext
  refine wpAny_bind (wpAny_attempt (wpAny_callSpecial?_slot (name := Str.ofString "__next__") ty F.slot_zip_next ?_))
  refine wpAny_call_entry F.slot_zip_next ty F.entry_zip_next (next_stop hh hne hz hTI hTO ha hy hlo hsm hnd hzi hTOi hzT hs fun h' e hk he => ?_) (F.args_zip_next_1 _)
  obtain ⟨o, ho, hc⟩ := he
  exact wpAny_bind (wpAny_isInstance (T := "StopIteration") (b := true) ⟨o, ho, hc⟩ isSubtype_stop (wpAny_pure (hQ _ hk)))
end
end Zn
set_option Elab.async false
set_option linter.all false
set_option maxRecDepth 100000
set_option maxHeartbeats 1000000
namespace Zn
open PySem PySem.Spec PyProof.Rows L2
open PySem.Sem (wp)
/-- the sequences stand -/
def Srcs (h : Heap) : List Src → Prop
  | [] => True
  | (t, l, xs) :: r => SqK t h l xs ∧ Srcs h r
theorem Srcs.at {h h' : Heap} : ∀ {r : List Src}, Srcs h r → (∀ q ∈ r, ∀ o, h.get? q.2.1 = some o → h'.get? q.2.1 = some o) → Srcs h' r
  | [], _, _ => trivial
  | (t, l, xs) :: r, x, e => ⟨x.1.at (e _ List.mem_cons_self), Srcs.at x.2 fun q hq => e q (List.mem_cons_of_mem _ hq)⟩
/-- the new iterators -/
def news (n : Nat) : List Src → List Addr
  | [] => []
  | _ :: r => n :: news (n + 1) r
theorem news_len (n : Nat) (r : List Src) : (news n r).length = r.length := by
  induction r generalizing n with
  | nil => rfl
  | cons q r ih => show (news (n + 1) r).length + 1 = r.length + 1; rw [ih]
theorem news_mem {r : List Src} {n i : Nat} (h : i ∈ news n r) : n ≤ i ∧ i < n + r.length := by
  induction r generalizing n with
  | nil => cases h
  | cons q r ih =>
    rcases List.mem_cons.mp h with rfl | h
    · exact ⟨Nat.le_refl _, by simp⟩
    · have := ih h
      rw [List.length_cons]
      omega
theorem news_nodup (r : List Src) (n : Nat) : (news n r).Nodup := by
  induction r generalizing n with
  | nil => exact List.nodup_nil
  | cons q r ih => exact List.nodup_cons.mpr ⟨fun h => absurd (news_mem h).1 (by omega), ih _⟩
section
variable {prog : Program} {w : World} {A : Around} {E : Value → Shared → Prop}
theorem iters_all (f : Value → Array Value → Sem (ForInStep (Array Value))) (hf : ∀ v acc, f v acc = (do let i ← holding acc.toList (pyIter v); pure (.yield (acc.push i)))) (r : List Src) :
    ∀ (acc : Array Value) (s : Shared) (Q : Array Value → Shared → Prop), Srcs s.heap r →
      (∀ h', AllAt h' 0 (news s.heap.objs.size r) r → h'.objs.size = s.heap.objs.size + r.length → (∀ c o, s.heap.get? c = some o → h'.get? c = some o) → Q (acc ++ ((news s.heap.objs.size r).map Value.ref).toArray) { s with heap := h' }) →
      wpAny (model prog w) A (forIn (r.map fun q => Value.ref q.2.1) acc f) Q E s := by
  induction r with
  | nil =>
    intro acc s Q _ hQ
    rw [List.map_nil, List.forIn_nil]
    have := hQ s.heap trivial rfl fun _ _ e => e
    exact wpAny_pure (by simpa [news] using this)
  | cons q r ih =>
    intro acc s Q hs hQ
    obtain ⟨t, l, xs⟩ := q
    have h1 : SqK t s.heap l xs := hs.1
    have h2 : Srcs s.heap r := hs.2
    rw [List.map_cons, List.forIn_cons, hf]
    refine wpAny_bind (wpAny_bind (wpAny_holding (pyIter_K h1 fun g hi hz hk => wpAny_pure ?_)))
    refine ih (acc.push (.ref s.heap.objs.size)) { s with heap := g } Q (h2.at fun q _ o e => hk _ o e) fun g2 ha hz2 hk2 => ?_
    have hz2' : g2.objs.size = g.objs.size + r.length := hz2
    have ha' : AllAt g2 0 (news g.objs.size r) r := ha
    have e : g.objs.size = s.heap.objs.size + 1 := hz
    rw [e] at ha' hz2'
    have fin := hQ g2 ⟨hi.at fun o e => hk2 _ o e, (h1.at fun o e => hk _ o e).at fun o e => hk2 _ o e, ha'⟩ (by rw [hz2', List.length_cons]; omega) fun c o x => hk2 c o (hk c o x)
    show Q _ _
    have e3 : (acc.push (Value.ref s.heap.objs.size) ++ ((news g.objs.size r).map Value.ref).toArray) = (acc ++ ((news s.heap.objs.size ((t, l, xs) :: r)).map Value.ref).toArray) := by
      rw [e]
      simp [news, Array.append_assoc]
    rw [show (({ s with heap := g } : Shared).heap) = g from rfl, e3]
    exact fin
/-- what zip(..) leaves -/
structure Made (h h' : Heap) (r : List Src) : Prop where
  zr : IsZip h' (h.objs.size + r.length + 2) (h.objs.size + r.length) (h.objs.size + r.length + 1) .none
  ti : TupAt h' (h.objs.size + r.length) ((news h.objs.size r).map Value.ref)
  to : TupAt h' (h.objs.size + r.length + 1) (r.map fun _ => Value.none)
  all : AllAt h' 0 (news h.objs.size r) r
  sz : h'.objs.size = h.objs.size + r.length + 3
  kp : ∀ c o, h.get? c = some o → h'.get? c = some o
theorem made_of {h g : Heap} {r : List Src} (ha : AllAt g 0 (news h.objs.size r) r) (hz : g.objs.size = h.objs.size + r.length) (hk : ∀ c o, h.get? c = some o → g.get? c = some o) {o1 o2 o3 : Obj}
    (e1 : o1 = { cls := .type "tuple", data := .seq ((news h.objs.size r).map Value.ref).toArray }) (e2 : o2 = { cls := .type "tuple", data := .seq (r.map fun _ => Value.none).toArray })
    (e3 : o3 = { cls := .type "zip", data := .fields #[.none, .bool false, .bool false, .ref g.objs.size, .ref (g.push o1).objs.size] }) : Made h (((g.push o1).push o2).push o3) r := by
  have s1 : (g.push o1).objs.size = g.objs.size + 1 := Heap.size_push ..
  have s2 : ((g.push o1).push o2).objs.size = g.objs.size + 2 := by rw [Heap.size_push, s1]
  have s3 : (((g.push o1).push o2).push o3).objs.size = g.objs.size + 3 := by rw [Heap.size_push, s2]
  have g1 : (((g.push o1).push o2).push o3).get? g.objs.size = some o1 := Heap.get?_push_of_some _ (Heap.get?_push_of_some _ (Heap.get?_push_size _ (by rw [e1]; rfl)))
  have g2 : (((g.push o1).push o2).push o3).get? (g.push o1).objs.size = some o2 := Heap.get?_push_of_some _ (Heap.get?_push_size _ (by rw [e2]; rfl))
  have g3 : (((g.push o1).push o2).push o3).get? ((g.push o1).push o2).objs.size = some o3 := Heap.get?_push_size _ (by rw [e3]; rfl)
  have kp : ∀ c o, g.get? c = some o → (((g.push o1).push o2).push o3).get? c = some o := fun c o e => Heap.get?_push_of_some _ (Heap.get?_push_of_some _ (Heap.get?_push_of_some _ e))
  rw [s1, hz] at g2
  rw [hz] at g1
  have e3' : o3 = { cls := .type "zip", data := .fields #[.none, .bool false, .bool false, .ref (h.objs.size + r.length), .ref (h.objs.size + r.length + 1)] } := by rw [e3, s1, hz]
  rw [s2, hz] at g3
  rw [e3] at e3'
  exact ⟨g3.trans (congrArg some (e3.trans e3')), g1.trans (congrArg some e1), g2.trans (congrArg some e2), ha.at (fun i _ o e => kp i o e) fun q _ o e => kp _ o e, by rw [s3, hz], fun c o e => kp c o (hk c o e)⟩
theorem zip_new (r : List Src) (hsm : r.length ≤ 1000) : Meets (Builtin.«zip.__new__» ⟨.type "zip" :: r.map fun q => Value.ref q.2.1, []⟩) (fun _ R s => Srcs s.heap r ∧ ∀ h', Made s.heap h' r → R (.ok (.ret (.ref (s.heap.objs.size + r.length + 2)))) { s with heap := h' }) :=
  .of_wp fun prog w A R s h => by
    obtain ⟨hs, h⟩ := h
    have hsub := sub_zip
    unfold Builtin.«zip.__new__»
    have hc : Builtin.SmallTypes.newClass "zip" ⟨.type "zip" :: r.map fun q => Value.ref q.2.1, []⟩ = pure (Value.type "zip", r.map fun q => Value.ref q.2.1) := by
      unfold Builtin.SmallTypes.newClass
      simp only [isType, sub_zip]
      rfl
    rw [hc]
    refine wpAny_bind (wpAny_pure ?_)
    dsimp only
    refine wpAny_bind ?_
    unfold Builtin.SmallTypes.iterAll
    refine wpAny_bind (iters_all _ (fun v acc => rfl) r #[] s _ hs fun g ha hz hk => wpAny_pure ?_)
    have e0 : (#[] ++ ((news s.heap.objs.size r).map Value.ref).toArray).toList = (news s.heap.objs.size r).map Value.ref := by simp
    rw [e0]
    have lsz : r.length ≤ sizeLine := Nat.le_trans hsm (by decide)
    refine wpAny_bind (wpAny_newTuple ?_ (by rw [List.length_map, news_len]; exact lsz))
    refine wpAny_bind (wpAny_newTuple ?_ (by rw [List.length_map, List.length_map, news_len]; exact lsz))
    refine wpAny_bind ?_
    show wpAny _ _ (newObj (.type "zip") (.fields #[.none, .bool false, .bool false, _, _])) _ _ _
    refine wpAny_newObj_type ?_
    refine wpAny_pure ⟨_, rfl, ?_⟩
    have nn : ((news s.heap.objs.size r).map Value.ref).map (fun _ => Value.none) = r.map fun _ => Value.none := by
      rw [List.map_map]
      refine List.ext_getElem (by simp [news_len]) fun i _ _ => by simp
    have z1 : g.objs.size = s.heap.objs.size + r.length := hz
    have fin := h _ (made_of ha hz hk rfl rfl rfl)
    have zz : ∀ o1 o2 : Obj, ((g.push o1).push o2).objs.size = s.heap.objs.size + r.length + 2 := fun o1 o2 => by rw [Heap.size_push, Heap.size_push, z1]
    show R (.ok (.ret (.ref ((g.push _).push _).objs.size))) _
    rw [zz, nn]
    exact fin
end
end Zn
set_option Elab.async false
set_option linter.all false
set_option maxRecDepth 100000
set_option maxHeartbeats 1000000
namespace Zn
open PySem PySem.Spec PyProof.Rows L2
open PySem.Sem (wp)
/-- the iterators alone -/
def ItsAt (h : Heap) (k : Nat) : List Addr → List (Bool × Addr) → Prop
  | [], [] => True
  | i :: is, (t, l) :: r => ItK t h i l k ∧ ItsAt h k is r
  | _, _ => False
theorem ItsAt.at {h h' : Heap} {k : Nat} : ∀ {is : List Addr} {r : List (Bool × Addr)}, ItsAt h k is r → (∀ i ∈ is, ∀ o, h.get? i = some o → h'.get? i = some o) → ItsAt h' k is r
  | [], [], _, _ => trivial
  | i :: is, (t, l) :: r, x, e1 => ⟨x.1.at (e1 i List.mem_cons_self), ItsAt.at x.2 (fun j hj => e1 j (List.mem_cons_of_mem _ hj))⟩
theorem ItsAt.ob {h : Heap} {k : Nat} : ∀ {is : List Addr} {r : List (Bool × Addr)}, ItsAt h k is r → ∀ i ∈ is, ∃ o l, h.get? i = some o ∧ o.data = .fields #[.ref l, .int k 0]
  | i :: is, (t, l) :: r, x, j, hj => by
    rcases List.mem_cons.mp hj with rfl | hj
    · obtain ⟨o, ho, _, hd⟩ := x.1.rec_
      exact ⟨o, l, ho, hd⟩
    · exact ItsAt.ob x.2 j hj
theorem ItsAt.len {h : Heap} {k : Nat} : ∀ {is : List Addr} {r : List (Bool × Addr)}, ItsAt h k is r → is.length = r.length
  | [], [], _ => rfl
  | _ :: _, _ :: _, x => by rw [List.length_cons, List.length_cons, ItsAt.len x.2]
def bare (r : List Src) : List (Bool × Addr) := r.map fun q => (q.1, q.2.1)
theorem AllAt.its {h : Heap} {k : Nat} : ∀ {is : List Addr} {r : List Src}, AllAt h k is r → ItsAt h k is (bare r)
  | [], [], _ => trivial
  | _ :: _, (_, _, _) :: _, x => ⟨x.1, AllAt.its x.2.2⟩
theorem allAt_of {h : Heap} {k : Nat} : ∀ {is : List Addr} {r : List Src}, ItsAt h k is (bare r) → Srcs h r → AllAt h k is r
  | [], [], _, _ => trivial
  | _ :: _, (_, _, _) :: _, x, y => ⟨x.1, y.1, allAt_of x.2 y.2⟩
def SqV (K : PySem.W.Frag) (H : Hp) (t : Bool) (a : Addr) (xs : List V) : Prop := cond t (SqT K H a xs) (SqL K H a xs)
/-- what stands at the i-th places -/
def RowAt (K : PySem.W.Frag) (H : Hp) (i : Nat) : List (Bool × Addr) → List V → Prop
  | [], [] => True
  | (t, a) :: r, y :: ys => (∃ xs, SqV K H t a xs ∧ xs[i]? = some y) ∧ RowAt K H i r ys
  | _, _ => False
def AllSq (K : PySem.W.Frag) (H : Hp) (src : List (Bool × Addr)) : Prop := ∀ q ∈ src, ∃ xs, SqV K H q.1 q.2 xs
def Itn (K : PySem.W.Frag) (src : List (Bool × Addr)) : It :=
  ⟨fun i H => ∃ ys, RowAt K H i src ys, fun i H v H' => ∃ T ys, v = .ref T ∧ H T = none ∧ H' = upd H T (.tup ys) ∧ ∀ zs, RowAt K H i src zs → zs = ys,
    fun i H => AllSq K H src ∧ ∃ q ∈ src, ∃ xs, SqV K H q.1 q.2 xs ∧ xs.length ≤ i⟩
section
variable {X : Cx} {pins : List (Addr × Obj)} {σ : L2.St} {H : Hp} {s : Shared}
theorem sqv_ob (I : Inv X pins σ H s) {t : Bool} {a : Addr} {xs : List V} (h : SqV X.K H t a xs) : ∃ its : List Value, Vals xs its ∧ SqK t s.heap a its.toArray ∧ xs.length ≤ sizeLine := by
  cases t with
  | true =>
    obtain ⟨its, r, p, z⟩ := I.tuple h
    exact ⟨its, r, p, z⟩
  | false =>
    obtain ⟨its, r, p, z⟩ := I.list h
    exact ⟨its, r, p.isList, z⟩
theorem sqv_inj (I : Inv X pins σ H s) {t : Bool} {a : Addr} {xs ys : List V} (h : SqV X.K H t a xs) (h' : SqV X.K H t a ys) : xs = ys := by
  cases t with
  | true => exact I.tuple_inj h h'
  | false => exact I.list_inj h h'
theorem row_inj (I : Inv X pins σ H s) {i : Nat} : ∀ {src : List (Bool × Addr)} {ys zs : List V}, RowAt X.K H i src ys → RowAt X.K H i src zs → zs = ys
  | [], [], [], _, _ => rfl
  | (t, a) :: r, y :: ys, z :: zs, h1, h2 => by
    obtain ⟨⟨xs, q1, e1⟩, h1⟩ := h1
    obtain ⟨⟨xs', q2, e2⟩, h2⟩ := h2
    have e := sqv_inj I q1 q2
    subst e
    rw [e1] at e2
    cases e2
    rw [row_inj I h1 h2]
theorem row_ob (I : Inv X pins σ H s) {i : Nat} : ∀ {src : List (Bool × Addr)} {ys : List V}, RowAt X.K H i src ys → ∃ (r : List Src) (us : List Value), bare r = src ∧ Srcs s.heap r ∧ Items i r us ∧ Vals ys us
  | [], [], _ => ⟨[], [], rfl, trivial, trivial, .nil⟩
  | (t, a) :: src, y :: ys, h => by
    obtain ⟨⟨xs, q, e⟩, h⟩ := h
    obtain ⟨its, rv, p, _⟩ := sqv_ob I q
    obtain ⟨u, hu, ru⟩ := rv.get e
    obtain ⟨r, us, e1, e2, e3, e4⟩ := row_ob I h
    exact ⟨(t, a, its.toArray) :: r, u :: us, by unfold bare at e1 ⊢; rw [List.map_cons, e1], ⟨p, e2⟩, ⟨by simpa using hu, e3⟩, .cons ru e4⟩
theorem all_ob (I : Inv X pins σ H s) : ∀ {src : List (Bool × Addr)}, AllSq X.K H src → ∃ r : List Src, bare r = src ∧ Srcs s.heap r ∧ ∀ q ∈ src, ∀ xs, SqV X.K H q.1 q.2 xs → ∃ p ∈ r, p.2.2.size = xs.length
  | [], _ => ⟨[], rfl, trivial, fun q hq => by cases hq⟩
  | (t, a) :: src, h => by
    obtain ⟨xs, q⟩ := h _ List.mem_cons_self
    obtain ⟨its, rv, p, _⟩ := sqv_ob I q
    obtain ⟨r, e1, e2, e3⟩ := all_ob I (src := src) fun q hq => h q (List.mem_cons_of_mem _ hq)
    refine ⟨(t, a, its.toArray) :: r, by unfold bare at e1 ⊢; rw [List.map_cons, e1], ⟨p, e2⟩, fun q' hq' ys hy => ?_⟩
    rcases List.mem_cons.mp hq' with rfl | hq'
    · refine ⟨_, List.mem_cons_self, ?_⟩
      have e := sqv_inj I q hy
      subst e
      have := rv.length
      simp [this]
    · obtain ⟨p', hp', e'⟩ := e3 q' hq' ys hy
      exact ⟨p', List.mem_cons_of_mem _ hp', e'⟩
end
/-- the iterator's own objects are apart -/
structure Apart (z TI TO : Addr) (is : List Addr) (src : List (Bool × Addr)) : Prop where
  nd : is.Nodup
  zi : z ∉ is
  ti : TI ∉ is
  oi : TO ∉ is
  zT : z ≠ TO
  zI : z ≠ TI
  TT : TI ≠ TO
  sr : ∀ q ∈ src, q.2 ≠ TO ∧ q.2 ≠ z ∧ q.2 ≠ TI ∧ q.2 ∉ is
  ne : is ≠ []
  sm : is.length ≤ 1000
def ZTn (z TI TO : Addr) (is : List Addr) (src : List (Bool × Addr)) (i : Nat) (h : Heap) : Prop :=
  IsZip h z TI TO .none ∧ TupAt h TI (is.map Value.ref) ∧ (∃ olds : List Value, olds.length = is.length ∧ TupAt h TO olds) ∧ ItsAt h i is src
theorem bare_mem {r : List Src} {q : Src} (h : q ∈ r) : (q.1, q.2.1) ∈ bare r := List.mem_map.mpr ⟨q, h, rfl⟩
/-- zip over any number of sequences, unpacked at once -/
theorem turn_n {P : Program} {w : World} {K : PySem.W.Frag} {elts : List Expr} {kk : Nat} {tpos : Pos} {z TI TO : Addr} {is : List Addr} {src : List (Bool × Addr)} (D : Apart z TI TO is src) :
    Turn P w K (.Tuple elts kk tpos) (Itn K src) (z :: TI :: TO :: is) z (ZTn z TI TO is src) where
  mem := List.mem_cons_self
  obj := fun i h st c hc => by
    obtain ⟨hz, hTI, ⟨olds, _, hTO⟩, hi⟩ := st
    rcases List.mem_cons.mp hc with rfl | hc
    · exact ⟨_, hz, fun v q => nomatch q⟩
    rcases List.mem_cons.mp hc with rfl | hc
    · exact ⟨_, hTI, fun v q => nomatch q⟩
    rcases List.mem_cons.mp hc with rfl | hc
    · exact ⟨_, hTO, fun v q => nomatch q⟩
    obtain ⟨o, l, e, d⟩ := hi.ob c hc
    exact ⟨o, e, fun v q => by rw [d] at q; cases q⟩
  keep := fun i h h' st k => by
    obtain ⟨hz, hTI, ⟨olds, hl, hTO⟩, hi⟩ := st
    exact ⟨k z List.mem_cons_self _ hz, k TI (by simp) _ hTI, ⟨olds, hl, k TO (by simp) _ hTO⟩, hi.at fun j hj o e => k j (by simp [hj]) o e⟩
  item := by
    intro X hP hw hK hc i pins s σ H E I hf st hg
    subst hP hw hK
    obtain ⟨hz, hTI, ⟨olds, hol, hTO⟩, hi⟩ := st
    obtain ⟨ys, hrow⟩ := hg
    obtain ⟨r, us, e1, e2, e3, e4⟩ := row_ob I hrow
    subst e1
    have hzl : z < s.heap.objs.size := Heap.lt_size hz
    have ha := allAt_of hi e2
    have hys : ys.length ≤ 1000 := by rw [e4.length, ← e3.len, ← ha.len]; exact D.sm
    have hpart : ∀ c ∈ z :: TI :: TO :: is, c < s.heap.objs.size := fun c hcm => by
      rcases List.mem_cons.mp hcm with rfl | hcm
      · exact hzl
      rcases List.mem_cons.mp hcm with rfl | hcm
      · exact Heap.lt_size hTI
      rcases List.mem_cons.mp hcm with rfl | hcm
      · exact Heap.lt_size hTO
      exact ha.lt c hcm
    refine pyNext_item D.ne hz hTI hTO ha e3 hol D.sm D.nd D.zi D.oi D.zT (fun q hq => ⟨(D.sr _ (bare_mem hq)).1, (D.sr _ (bare_mem hq)).2.1, (D.sr _ (bare_mem hq)).2.2.2⟩) fun g z1 TO1 a1 T1 sz1 k1 => ?_
    refine ⟨_, rfl, wpAny_letOwnedTupleGo_zip (s := { s with heap := g }) z1 fun g2 z2 sb => ?_⟩
    have T2 : g2.get? s.heap.objs.size = some { cls := .type "tuple", data := .seq us.toArray } := (sb.2 _ (Nat.ne_of_gt hzl)).trans T1
    have new : ObjOk X.prog X.w (upd H s.heap.objs.size (.tup ys)) g2 s.heap.objs.size (.tup ys) := ⟨Nat.le_trans hys (by decide), us, e4, ⟨_, T2, rfl, _, rfl⟩⟩
    have I1 : Inv X pins σ (upd H s.heap.objs.size (.tup ys)) { s with heap := g2 } :=
      I.turnedNew (t' := s.toks) (ch := z :: TI :: TO :: is) (fun c o hb q => (sb.2 c (fun q' => hb (by simp [q']))).trans (k1 c o (fun q' => hb (by simp [q'])) (fun q' => hb (by simp [q'])) (fun q' => hb (by simp [q'])) q)) hf (Nat.le_refl _) new
    refine ⟨.ref s.heap.objs.size, _, I1, rfl, ⟨_, ys, rfl, I.hok.fresh (Nat.le_refl _), rfl, fun zs hzs => row_inj I hrow hzs⟩, ⟨z2, ?_, ⟨us, ?_, ?_⟩, ?_⟩, fun c hcm => ?_⟩
    · exact (sb.2 _ D.zI.symm).trans (k1 _ _ D.zI.symm D.TT D.ti hTI)
    · rw [ha.len, e3.len]
    · exact (sb.2 _ D.zT.symm).trans TO1
    · exact a1.its.at fun j hj o q => (sb.2 _ (fun e => D.zi (e ▸ hj))).trans q
    · rw [upd_ne (Nat.ne_of_lt (hpart c hcm))]
      exact (hf c hcm).1
  done := by
    intro X hP hw hK hc i pins s σ H E I hf st hg
    subst hP hw hK
    obtain ⟨hz, hTI, ⟨olds, hol, hTO⟩, hi⟩ := st
    obtain ⟨hall, q, hq, xs, hqx, hle⟩ := hg
    obtain ⟨r, e1, e2, e3⟩ := all_ob I hall
    subst e1
    have ha := allAt_of hi e2
    obtain ⟨p, hp, hps⟩ := e3 q hq xs hqx
    exact pyNext_stop (I.ok.hd hc) D.ne hz hTI hTO ha ⟨p, hp, by rw [Array.getElem?_eq_none_iff]; omega⟩ hol D.sm D.nd D.zi D.oi D.zT (fun q hq => ⟨(D.sr _ (bare_mem hq)).1, (D.sr _ (bare_mem hq)).2.1, (D.sr _ (bare_mem hq)).2.2.2⟩)
      fun g hk => ⟨rfl, I.turnedL (t' := s.toks) (ch := z :: TI :: TO :: is) (fun c o hb q => hk c o (fun q' => hb (by simp [q'])) (fun q' => hb (by simp [q'])) (fun q' => hb (by simp [q'])) q) hf⟩
  self := fun A i s Q E st h => wpAny_pyIter_zip st.1 h
end Zn
set_option Elab.async false
set_option linter.all false
set_option maxRecDepth 100000
set_option maxHeartbeats 1000000
namespace Zn
open PySem PySem.Spec PyProof.Rows L2
open PySem.Sem (wp)
theorem tc1 (a : Value) : checkTypeCall "zip" ⟨[a], []⟩ = pure () := by kernel_rfl
theorem tc3 (a b c : Value) : checkTypeCall "zip" ⟨[a, b, c], []⟩ = pure () := by kernel_rfl
theorem nc1 (a : Value) : checkBuiltinCall "zip.__new__" ⟨[.type "zip", a], []⟩ = pure () := by kernel_rfl
theorem nc3 (a b c : Value) : checkBuiltinCall "zip.__new__" ⟨[.type "zip", a, b, c], []⟩ = pure () := by kernel_rfl
theorem tcn : ∀ {l : List Value}, 0 < l.length → l.length ≤ 3 → checkTypeCall "zip" ⟨l, []⟩ = pure ()
  | [a], _, _ => tc1 a
  | [a, b], _, _ => F.typeCall_zip_2 a b
  | [a, b, c], _, _ => tc3 a b c
theorem ncn : ∀ {l : List Value}, 0 < l.length → l.length ≤ 3 → checkBuiltinCall "zip.__new__" ⟨.type "zip" :: l, []⟩ = pure ()
  | [a], _, _ => nc1 a
  | [a, b], _, _ => F.newCall_zip_2 a b
  | [a, b, c], _, _ => nc3 a b c
theorem oi1 (a b : Value) : argsOk "object.__init__" ⟨[a, b], []⟩ := by
  unfold argsOk; rw [signature?_of (id := "object.__init__") (n := ['_', '_', 't', 'i', 'n', 'i', '_', '_']) (o := ['t', 'c', 'e', 'j', 'b', 'o']) (by kernel_rfl) F.owner_object]; kernel_rfl
theorem oi3 (a b c d : Value) : argsOk "object.__init__" ⟨[a, b, c, d], []⟩ := by
  unfold argsOk; rw [signature?_of (id := "object.__init__") (n := ['_', '_', 't', 'i', 'n', 'i', '_', '_']) (o := ['t', 'c', 'e', 'j', 'b', 'o']) (by kernel_rfl) F.owner_object]; kernel_rfl
theorem oin : ∀ {l : List Value}, 0 < l.length → l.length ≤ 3 → ∀ obj, argsOk "object.__init__" ⟨obj :: l, []⟩
  | [a], _, _ => fun o => oi1 o a
  | [a, b], _, _ => fun o => F.args_object_init_3 o a b
  | [a, b, c], _, _ => fun o => oi3 o a b c
section
variable {prog : Program} {w : World} {A : Around} {E : Value → Shared → Prop} {s : Shared}
theorem call_zipN {r : List Src} {Q : Value → Shared → Prop} (h0 : 0 < r.length) (h3 : r.length ≤ 3) (hs : Srcs s.heap r) (h : ∀ h', Made s.heap h' r → Q (.ref (s.heap.objs.size + r.length + 2)) { s with heap := h' }) :
    wpAny (model prog w) A (call (.type "zip") (r.map fun q => Value.ref q.2.1)) Q E s :=
  callType_new F.called_zip (by decide) (tcn (by simpa using h0) (by simpa using h3)) (ncn (by simpa using h0) (by simpa using h3)) (oin (by simpa using h0) (by simpa using h3)) F.entry_zip_new
    (zip_new r (by omega)) ⟨hs, fun h' m => ⟨⟨_, m.zr, rfl⟩, h h' m⟩⟩
end
theorem srcs_lt {h : Heap} : ∀ {r : List Src}, Srcs h r → ∀ q ∈ r, q.2.1 < h.objs.size
  | (t, l, xs) :: r, x, q, hq => by
    rcases List.mem_cons.mp hq with rfl | hq
    · exact x.1.lt
    · exact srcs_lt x.2 q hq
theorem nA (n r : Nat) : n + r + 2 ≠ n + r + 1 := by omega
theorem nB (n r : Nat) : n + r + 2 ≠ n + r := by omega
theorem nC (n r : Nat) : n + r ≠ n + r + 1 := by omega
theorem nD {n r l : Nat} (k : Nat) (h : l < n) : l ≠ n + r + k := by omega
theorem nE {n r l : Nat} (h : l < n) : l ≠ n + r := by omega
theorem nF {n l : Nat} (h : l < n) (h2 : n ≤ l) : False := by omega
theorem nG {n r : Nat} (k : Nat) (h : n + r + k < n + r) : False := by omega
theorem nH {n r : Nat} (h : n + r < n + r) : False := by omega
theorem made_apart {h h' : Heap} {r : List Src} (m : Made h h' r) (hs : Srcs h r) (h0 : 0 < r.length) (h3 : r.length ≤ 1000) :
    Apart (h.objs.size + r.length + 2) (h.objs.size + r.length) (h.objs.size + r.length + 1) (news h.objs.size r) (bare r) where
  nd := news_nodup r _
  zi := fun q => nG 2 (news_mem q).2
  ti := fun q => nH (news_mem q).2
  oi := fun q => nG 1 (news_mem q).2
  zT := nA _ _
  zI := nB _ _
  TT := nC _ _
  sr := fun q hq => by
    obtain ⟨p, hp, rfl⟩ := List.mem_map.mp hq
    have hl := srcs_lt hs p hp
    exact ⟨nD 1 hl, nD 2 hl, nE hl, fun z => nF hl (news_mem z).1⟩
  ne := fun z => by
    have := news_len h.objs.size r
    rw [z] at this
    have : (0 : Nat) = r.length := this
    omega
  sm := by rw [news_len]; exact h3
section
variable {X : Cx}
def kRefs (src : List (Bool × Addr)) : List V := src.map fun q => V.ref q.2
/-- the sequences of the abstract heap, as they stand -/
theorem srcs_of {pins : List (Addr × Obj)} {σ : L2.St} {H : Hp} {s : Shared} (I : Inv X pins σ H s) {src : List (Bool × Addr)} (h : AllSq X.K H src) : ∃ r : List Src, bare r = src ∧ Srcs s.heap r :=
  let ⟨r, e1, e2, _⟩ := all_ob I h; ⟨r, e1, e2⟩
theorem vals_refs : ∀ {src : List (Bool × Addr)} {us : List Value}, Vals (kRefs src) us → us = src.map fun q => Value.ref q.2
  | [], [], .nil => rfl
  | (t, a) :: r, u :: us, .cons ru t' => by
    have e : u = Value.ref a := ru
    rw [e, vals_refs t', List.map_cons]
/-- an iterator over the zip of 1 to 3 sequences has come -/
theorem zip_come {pins : List (Addr × Obj)} {σ : L2.St} {H : Hp} {s : Shared} {us : List Value} {R : It → Hp → Prop} {elts : List Expr} {kk : Nat} {tpos : Pos} {E : Value → Shared → Prop} (I : Inv X pins σ H s) {src : List (Bool × Addr)} (rv : Vals (kRefs src) us)
    (h0 : 0 < src.length) (h3 : src.length ≤ 3) (ha : AllSq X.K H src) (q : R (Itn X.K src) H) :
    wpAny (model X.prog X.w) X.A (call (.type "zip") us) (fun v s1 => wpAny (model X.prog X.w) X.A (pyIter v) (PIE X pins σ (.Tuple elts kk tpos) R) E s1) E s := by
  obtain ⟨r, e1, e2⟩ := srcs_of I ha
  have e3 := vals_refs rv
  subst e1
  have hl : (bare r).length = r.length := List.length_map ..
  rw [hl] at h0 h3
  have e4 : us = r.map fun q => Value.ref q.2.1 := by rw [e3]; unfold bare; rw [List.map_map]; rfl
  rw [e4]
  refine call_zipN h0 h3 e2 fun g m => wpAny_pyIter_zip m.zr ?_
  have I2 : Inv X pins σ H { s with heap := g } := I.kept (t' := s.toks) m.kp
  refine ⟨_, _, _, _, H, rfl, I2, turn_n (made_apart m e2 h0 (by omega)), ⟨m.zr, m.ti, ⟨_, ?_, m.to⟩, m.all.its⟩, fun c hcm => ?_, q⟩
  · rw [List.length_map, news_len]
  · have hle : s.heap.objs.size ≤ c := by
      rcases List.mem_cons.mp hcm with rfl | hcm
      · exact Nat.le_add_right_of_le (Nat.le_add_right ..)
      rcases List.mem_cons.mp hcm with rfl | hcm
      · exact Nat.le_add_right ..
      rcases List.mem_cons.mp hcm with rfl | hcm
      · exact Nat.le_add_right_of_le (Nat.le_add_right ..)
      exact (news_mem hcm).1
    exact I.fpOk hle (I.hok.fresh hle)
def iZn (K : PySem.W.Frag) (ta : TA) : TI := fun σ H R => ta σ H fun vs H1 => ∃ src : List (Bool × Addr), vs = kRefs src ∧ 0 < src.length ∧ src.length ≤ 3 ∧ AllSq K H1 src ∧ R (Itn K src) H1
/-- for a, b in zip(x, y): lists and tuples, mixed -/
theorem pi_zipn {e : Expr} {es : List Expr} {ta : TA} {p pos tpos : Pos} {elts : List Expr} {kk : Nat} (hg : Gl X "zip") (hm : X.mg "zip" = none) (ha : PA X (e :: es) ta)
    (hs : starEach (e :: es) X.env = (false, eval e X.env) :: starEach es X.env := by rfl) (hpl : (backTo pos (starEach es X.env)).any (·.1) = false := by rfl) :
    PI X (.Tuple elts kk tpos) (.Call (.Name "zip" p) (e :: es) [] pos) (iZn X.K ta) := by
  refine ⟨fun pins s σ H R I h => ?_⟩
  refine Call_ (ld_blt I hg hm PyProof.Rows.boot_zip (PyProof.Rows.callWith_type1 (thn (ha.run pos pins s σ H _ I h) fun us s1 ⟨vs, H1, I1, r1, q1⟩ => ?_) hs hpl))
  obtain ⟨src, rfl, h0, h3, hq, q⟩ := q1
  exact zip_come I1 r1 h0 h3 hq q
end
end Zn
set_option Elab.async false
set_option linter.all false
set_option maxRecDepth 100000
set_option maxHeartbeats 1000000
namespace Zs
open PySem PySem.Spec PyProof.Rows L2 Zn
open PySem.Sem (wp)
abbrev ZipB (h : Heap) (z TI TO : Addr) (f0 : Value) (b : Bool) : Prop :=
  h.get? z = some { cls := .type "zip", dict := none, data := .fields #[f0, .bool b, .bool false, .ref TI, .ref TO], slots := #[] }
/-- none was handed out yet, or one was -/
def Own (f0 : Value) : Prop := f0 = .none ∨ ∃ T : Addr, f0 = rawInt T
/-- an exhausted sequence ends the loop's body -/
def StopOkB (M : Model) (A : Around) {β : Type} (f : Value × Nat → β → Sem (ForInStep β)) (b0 : β) (z TI TO : Addr) (b : Bool) : Prop :=
  ∀ (s : Shared) (i l : Addr) (t : Bool) (k j : Nat) (xs : Array Value) (Q : ForInStep β → Shared → Prop) (E : Value → Shared → Prop), ItK t s.heap i l k → SqK t s.heap l xs → xs[k]? = none → i ≠ z → ZipB s.heap z TI TO .ellipsis b →
    (∀ h' e, (∀ c o, c ≠ z → c ≠ i → s.heap.get? c = some o → h'.get? c = some o) → StopAt h' e → E (.ref e) { s with heap := h' }) → wpAny M A (f (.ref i, j) b0) Q E s
section
variable {prog : Program} {w : World} {A : Around} {E : Value → Shared → Prop} {s : Shared}
theorem stop_allB {β : Type} {M : Model} {f : Value × Nat → β → Sem (ForInStep β)} {b0 : β} {z TI TO : Addr} {b : Bool} {Q : β → Shared → Prop} (hf : DrawOk M A f b0 TO) (hg : StopOkB M A f b0 z TI TO b) (k : Nat) (is : List Addr) :
    ∀ (r : List Src) (olds pre : List Value) (s : Shared), AllAt s.heap k is r → (∃ q ∈ r, q.2.2[k]? = none) → r.length = olds.length → (pre ++ olds).length ≤ 1000 → is.Nodup → TO ∉ is → z ∉ is → z ≠ TO → (∀ q ∈ r, q.2.1 ≠ TO ∧ q.2.1 ∉ is) →
      ZipB s.heap z TI TO .ellipsis b → TupAt s.heap TO (pre ++ olds) →
      (∀ h' e, (∀ c o, c ≠ z → c ≠ TO → c ∉ is → s.heap.get? c = some o → h'.get? c = some o) → StopAt h' e → E (.ref e) { s with heap := h' }) →
      wpAny M A (forIn ((is.map Value.ref).zipIdx pre.length) b0 f) Q E s := by
  induction is with
  | nil =>
    intro r olds pre s ha hy _ _ _ _ _ _ _ _ _ _
    cases r with
    | cons _ _ => exact ha.elim
    | nil => obtain ⟨q, hq, _⟩ := hy; cases hq
  | cons i is ih =>
    intro r olds pre s ha hy hl hbd hn hTO hzi hzT hs hz hT hE
    cases r with
    | nil => exact ha.elim
    | cons q r =>
      obtain ⟨t, l, xs⟩ := q
      cases olds with
      | nil => cases hl
      | cons o olds =>
        have ha1 : ItK t s.heap i l k := ha.1
        have ha2 : SqK t s.heap l xs := ha.2.1
        have ha3 : AllAt s.heap k is r := ha.2.2
        rw [List.map_cons, List.zipIdx_cons, List.forIn_cons]
        have hni : i ∉ is := (List.nodup_cons.mp hn).1
        have hiT : i ≠ TO := fun e => hTO (e ▸ List.mem_cons_self)
        have hiz : i ≠ z := fun e => hzi (e ▸ List.mem_cons_self)
        have hq := hs _ List.mem_cons_self
        have hq1 : l ≠ TO := hq.1
        have hq2 : l ∉ i :: is := hq.2
        cases hx : xs[k]? with
        | none =>
          exact wpAny_bind (hg s i l t k _ xs _ _ ha1 ha2 hx hiz hz fun h' e hk he => hE h' e (fun c o c1 c2 c3 x => hk c o c1 (fun q => c3 (q ▸ List.mem_cons_self)) x) he)
        | some y =>
          have hy2 : ∃ q ∈ r, q.2.2[k]? = none := by
            obtain ⟨q, hq, e⟩ := hy
            rcases List.mem_cons.mp hq with rfl | hq
            · rw [hx] at e; cases e
            · exact ⟨q, hq, e⟩
          refine wpAny_bind (hf s i l t k xs y o pre olds _ E ha1 ha2 hx hiT hq1 (fun e => hq2 (e ▸ List.mem_cons_self)) hbd hT fun h1 hi1 hT1 hz1 hk1 => ?_)
          have e1 : pre.length + 1 = (pre ++ [y]).length := by simp
          have hT1' : TupAt h1 TO ((pre ++ [y]) ++ olds) := by
            rw [List.append_assoc]
            exact hT1
          have goal := ih r olds (pre ++ [y]) { s with heap := h1 } (ha3.at (fun j hj o e => hk1 j o (fun q => hTO (q ▸ List.mem_cons_of_mem _ hj)) (fun q => hni (q ▸ hj)) e)
            fun q hqm o e => hk1 _ o (hs q (List.mem_cons_of_mem _ hqm)).1 (fun z => (hs q (List.mem_cons_of_mem _ hqm)).2 (z ▸ List.mem_cons_self)) e) hy2 (Nat.succ.inj hl) (by simpa using hbd) (List.nodup_cons.mp hn).2 (fun z => hTO (List.mem_cons_of_mem _ z))
            (fun q => hzi (List.mem_cons_of_mem _ q)) hzT (fun q hqm => ⟨(hs q (List.mem_cons_of_mem _ hqm)).1, fun z => (hs q (List.mem_cons_of_mem _ hqm)).2 (List.mem_cons_of_mem _ z)⟩) (hk1 z _ hzT hiz.symm hz) hT1' fun h2 e hk2 he =>
              hE h2 e (fun c o c1 c2 c3 x => hk2 c o c1 c2 (fun q => c3 (List.mem_cons_of_mem _ q)) (hk1 c o c2 (fun q => c3 (q ▸ List.mem_cons_self)) x)) he
          rw [← e1] at goal
          exact goal
theorem alive {a : Addr} {Q : Option Obj → Shared → Prop} (h : Q (s.heap.get? a) s) : wpAny (model prog w) A (loadIfAlive a) Q E s := fun Γ p hΓ => by
  unfold loadIfAlive
  rw [Sem.wp_loadIfAlive]
  exact wpAny_pure h Γ p hΓ
/-- is it free: either answer, the record then with that mark -/
theorem is_free {z TI TO : Addr} {f0 : Value} {b : Bool} {Q : Bool → Shared → Prop} (ow : Own f0) (hz : ZipB s.heap z TI TO f0 b)
    (h1 : Q true s) (h2 : ∀ h', ZipB h' z TI TO f0 true → Heap.SameBut z s.heap h' → Q false { s with heap := h' }) :
    wpAny (model prog w) A (Builtin.SmallTypes.ownedTupleIsFree (.ref z)) Q E s := by
  unfold Builtin.SmallTypes.ownedTupleIsFree
  rcases ow with rfl | ⟨T, rfl⟩
  · exact wpAny_bind (wpAny_field hz rfl (x := .none) rfl (wpAny_pure h1))
  · refine wpAny_bind (wpAny_field hz rfl (x := rawInt T) rfl ?_)
    show wpAny _ _ (loadIfAlive _ >>= _) _ _ _
    refine wpAny_bind (alive ?_)
    cases e : s.heap.get? (Int.toNat (T : Int)) with
    | none => exact wpAny_pure h1
    | some o =>
      show wpAny _ _ (field (.ref z) 1 >>= _) _ _ _
      refine wpAny_bind (wpAny_field hz rfl (x := .bool b) rfl ?_)
      cases b with
      | true => exact wpAny_pure (h2 s.heap hz ⟨rfl, fun _ _ => rfl⟩)
      | false =>
        show wpAny _ _ (setField (.ref z) 1 (.bool true) >>= _) _ _ _
        exact wpAny_bind (wpAny_setField_rec hz (by simp) fun g hg hs => wpAny_pure (h2 g hg hs))
/-- drawing one after another into a new array -/
def Draw2 (M : Model) (A : Around) (f : Value → (Option Fin × Array Value) → Sem (ForInStep (Option Fin × Array Value))) : Prop :=
  ∀ (s : Shared) (i l : Addr) (t : Bool) (k : Nat) (xs : Array Value) (x : Value) (acc : Array Value) (Q : ForInStep (Option Fin × Array Value) → Shared → Prop) (E : Value → Shared → Prop), ItK t s.heap i l k → SqK t s.heap l xs → xs[k]? = some x →
    (∀ h', ItK t h' i l (k + 1) → h'.objs.size = s.heap.objs.size → (∀ c o, c ≠ i → s.heap.get? c = some o → h'.get? c = some o) → Q (.yield (none, acc.push x)) { s with heap := h' }) → wpAny M A (f (.ref i) (none, acc)) Q E s
def Stop2 (M : Model) (A : Around) (f : Value → (Option Fin × Array Value) → Sem (ForInStep (Option Fin × Array Value))) : Prop :=
  ∀ (s : Shared) (i l : Addr) (t : Bool) (k : Nat) (xs : Array Value) (acc : Array Value) (Q : ForInStep (Option Fin × Array Value) → Shared → Prop) (E : Value → Shared → Prop), ItK t s.heap i l k → SqK t s.heap l xs → xs[k]? = none →
    (∀ h' e, (∀ c o, c ≠ i → s.heap.get? c = some o → h'.get? c = some o) → StopAt h' e → E (.ref e) { s with heap := h' }) → wpAny M A (f (.ref i) (none, acc)) Q E s
theorem draws2 {M : Model} {f : Value → (Option Fin × Array Value) → Sem (ForInStep (Option Fin × Array Value))} {Q : (Option Fin × Array Value) → Shared → Prop} (hf : Draw2 M A f) (k : Nat) (is : List Addr) :
    ∀ (r : List Src) (ys : List Value) (acc : Array Value) (s : Shared), AllAt s.heap k is r → Items k r ys → is.Nodup → (∀ q ∈ r, q.2.1 ∉ is) →
      (∀ h', AllAt h' (k + 1) is r → h'.objs.size = s.heap.objs.size → (∀ c o, c ∉ is → s.heap.get? c = some o → h'.get? c = some o) → Q (none, acc ++ ys.toArray) { s with heap := h' }) →
      wpAny M A (forIn (is.map Value.ref) (none, acc) f) Q E s := by
  induction is with
  | nil =>
    intro r ys acc s ha hy _ _ hQ
    cases r with
    | cons _ _ => exact ha.elim
    | nil =>
      cases ys with
      | cons _ _ => exact hy.elim
      | nil =>
        rw [List.map_nil, List.forIn_nil]
        have := hQ s.heap trivial rfl fun _ _ _ e => e
        exact wpAny_pure (by simpa using this)
  | cons i is ih =>
    intro r ys acc s ha hy hn hs hQ
    cases r with
    | nil => exact ha.elim
    | cons q r =>
      obtain ⟨t, l, xs⟩ := q
      cases ys with
      | nil => exact hy.elim
      | cons y ys =>
        have ha1 : ItK t s.heap i l k := ha.1
        have ha2 : SqK t s.heap l xs := ha.2.1
        have ha3 : AllAt s.heap k is r := ha.2.2
        have hy1 : xs[k]? = some y := hy.1
        have hy2 : Items k r ys := hy.2
        rw [List.map_cons, List.forIn_cons]
        have hni : i ∉ is := (List.nodup_cons.mp hn).1
        have hq2 : l ∉ i :: is := hs _ List.mem_cons_self
        have hli : l ≠ i := fun e => hq2 (e ▸ List.mem_cons_self)
        refine wpAny_bind (hf s i l t k xs y acc _ E ha1 ha2 hy1 fun h1 hi1 hz1 hk1 => ?_)
        refine ih r ys (acc.push y) { s with heap := h1 } (ha3.at (fun j hj o e => hk1 j o (fun q => hni (q ▸ hj)) e) fun q hqm o e => hk1 _ o (fun z => hs q (List.mem_cons_of_mem _ hqm) (z ▸ List.mem_cons_self)) e) hy2 (List.nodup_cons.mp hn).2
          (fun q hqm z => hs q (List.mem_cons_of_mem _ hqm) (List.mem_cons_of_mem _ z)) fun h2 ha2' hz2 hk2 => ?_
        have e3 : acc.push y ++ ys.toArray = acc ++ (y :: ys).toArray := by simp
        rw [e3]
        exact hQ h2 ⟨hi1.at fun o e => hk2 i o hni e, ha2.at fun o e => hk2 l o (fun z => hq2 (List.mem_cons_of_mem _ z)) (hk1 l o hli e), ha2'⟩ (hz2.trans hz1) fun c o c2 e => hk2 c o (fun z => c2 (List.mem_cons_of_mem _ z)) (hk1 c o (fun z => c2 (z ▸ List.mem_cons_self)) e)
theorem stops2 {M : Model} {f : Value → (Option Fin × Array Value) → Sem (ForInStep (Option Fin × Array Value))} {Q : (Option Fin × Array Value) → Shared → Prop} (hf : Draw2 M A f) (hg : Stop2 M A f) (k : Nat) (is : List Addr) :
    ∀ (r : List Src) (acc : Array Value) (s : Shared), AllAt s.heap k is r → (∃ q ∈ r, q.2.2[k]? = none) → is.Nodup → (∀ q ∈ r, q.2.1 ∉ is) →
      (∀ h' e, (∀ c o, c ∉ is → s.heap.get? c = some o → h'.get? c = some o) → StopAt h' e → E (.ref e) { s with heap := h' }) →
      wpAny M A (forIn (is.map Value.ref) (none, acc) f) Q E s := by
  induction is with
  | nil =>
    intro r acc s ha hy _ _ _
    cases r with
    | cons _ _ => exact ha.elim
    | nil => obtain ⟨q, hq, _⟩ := hy; cases hq
  | cons i is ih =>
    intro r acc s ha hy hn hs hE
    cases r with
    | nil => exact ha.elim
    | cons q r =>
      obtain ⟨t, l, xs⟩ := q
      have ha1 : ItK t s.heap i l k := ha.1
      have ha2 : SqK t s.heap l xs := ha.2.1
      have ha3 : AllAt s.heap k is r := ha.2.2
      rw [List.map_cons, List.forIn_cons]
      have hni : i ∉ is := (List.nodup_cons.mp hn).1
      have hq2 : l ∉ i :: is := hs _ List.mem_cons_self
      cases hx : xs[k]? with
      | none => exact wpAny_bind (hg s i l t k xs acc _ _ ha1 ha2 hx fun h' e hk he => hE h' e (fun c o c3 x => hk c o (fun q => c3 (q ▸ List.mem_cons_self)) x) he)
      | some y =>
        have hy2 : ∃ q ∈ r, q.2.2[k]? = none := by
          obtain ⟨q, hq, e⟩ := hy
          rcases List.mem_cons.mp hq with rfl | hq
          · rw [hx] at e; cases e
          · exact ⟨q, hq, e⟩
        refine wpAny_bind (hf s i l t k xs y acc _ E ha1 ha2 hx fun h1 hi1 hz1 hk1 => ?_)
        exact ih r (acc.push y) { s with heap := h1 } (ha3.at (fun j hj o e => hk1 j o (fun q => hni (q ▸ hj)) e) fun q hqm o e => hk1 _ o (fun z => hs q (List.mem_cons_of_mem _ hqm) (z ▸ List.mem_cons_self)) e) hy2 (List.nodup_cons.mp hn).2
          (fun q hqm z => hs q (List.mem_cons_of_mem _ hqm) (List.mem_cons_of_mem _ z)) fun h2 e hk2 he => hE h2 e (fun c o c3 x => hk2 c o (fun q => c3 (List.mem_cons_of_mem _ q)) (hk1 c o (fun q => c3 (q ▸ List.mem_cons_self)) x)) he
/-- one turn: whichever way the tuple comes -/
theorem turn_item {z TI TO : Addr} {f0 : Value} {b : Bool} {is : List Addr} {r : List Src} {k : Nat} {ys olds : List Value} {Q : Value → Shared → Prop} (ow : Own f0) (hne : is ≠ [])
    (hz : ZipB s.heap z TI TO f0 b) (hTI : TupAt s.heap TI (is.map Value.ref)) (hTO : TupAt s.heap TO olds) (ha : AllAt s.heap k is r) (hy : Items k r ys) (hlo : olds.length = is.length) (hsm : is.length ≤ 1000)
    (hnd : is.Nodup) (hzi : z ∉ is) (hTOi : TO ∉ is) (hTIi : TI ∉ is) (hzT : z ≠ TO) (hzI : z ≠ TI) (hTT : TI ≠ TO) (hs : ∀ q ∈ r, q.2.1 ≠ TO ∧ q.2.1 ≠ z ∧ q.2.1 ∉ is)
    (hQ : ∀ h' f1 b1 olds', Own f1 → ZipB h' z TI TO f1 b1 → olds'.length = is.length → TupAt h' TO olds' → AllAt h' (k + 1) is r → TupAt h' s.heap.objs.size ys →
      (∀ c o, c ≠ z → c ≠ TO → c ∉ is → s.heap.get? c = some o → h'.get? c = some o) → Q (.ref s.heap.objs.size) { s with heap := h' }) :
    wpAny (model prog w) A (Builtin.«zip.__next__» ⟨[.ref z], []⟩) (fun fin s' => ∃ v, fin = .done (.ret v) ∧ Q v s') E s := by
  show wpAny _ _ (field (.ref z) 2 >>= _) _ _ _
  refine wpAny_bind (wpAny_field hz rfl (x := .bool false) rfl ?_)
  show wpAny _ _ (field (.ref z) 3 >>= _) _ _ _
  refine wpAny_bind (wpAny_field hz rfl (x := .ref TI) rfl ?_)
  refine wpAny_bind (wpAny_seqItems hTI rfl ?_)
  have hem : (is.map Value.ref).toArray.isEmpty = false := by
    cases is with
    | nil => exact absurd rfl hne
    | cons _ _ => simp
  simp only [hem, Bool.false_eq_true, if_false]
  have hly : ys.length = olds.length := by rw [hlo, ha.len, ← hy.len]
  have hyl : ys.length ≤ sizeLine := Nat.le_trans (by rw [hly, hlo]; exact hsm) (by decide)
  refine wpAny_bind (is_free ow hz ?one fun g0 hz0 hs0 => ?two)
  case two =>
    -- a new tuple
    simp only [Bool.false_eq_true, if_false]
    have up0 : ∀ c o, c ≠ z → s.heap.get? c = some o → g0.get? c = some o := fun c o c1 e => hs0.extBut _ _ c1 e
    have ha0 : AllAt g0 k is r := ha.at (fun i hi o e => up0 i o (fun q => hzi (q ▸ hi)) e) fun q hq o e => up0 _ o (hs q hq).2.1 e
    rw [List.forIn_toArray]
    refine wpAny_bind (draws2 (M := model prog w) (A := A) (E := E) (Q := _) ?hf k is r ys #[] { s with heap := g0 } ha0 hy hnd (fun q hq => (hs q hq).2.2) fun g2 ha2 hz2 hk2 => ?_)
    case hf =>
      intro s2 i l t k2 xs x acc Q2 E2 hi hl hx kq
      show wpAny _ _ (holding _ (Builtin.SmallTypes.nextOf (.ref i) >>= fun v => pure (some v)) >>= _) _ _ _
      refine wpAny_bind (wpAny_holding ?_)
      refine wpAny_bind (nextOf_item hi hl hx fun g2 hi2 hs2 => wpAny_pure (wpAny_pure ?_))
      exact kq g2 hi2 hs2.1 fun c o c1 e => hs2.extBut _ _ c1 e
    refine wpAny_bind (wpAny_newTuple ?_ (by simpa using hyl))
    have hsz : g2.objs.size = s.heap.objs.size := hz2.trans hs0.1
    refine wpAny_pure ⟨_, rfl, ?_⟩
    show Q (.ref g2.objs.size) _
    rw [hsz]
    have e5 : ((#[] ++ ys.toArray).toList.toArray : Array Value) = ys.toArray := by simp
    have upn : ∀ c o, g2.get? c = some o → (g2.push { cls := .type "tuple", data := .seq (#[] ++ ys.toArray).toList.toArray }).get? c = some o := fun c o e => Heap.get?_push_of_some _ e
    refine hQ _ f0 true olds ow (upn z _ (hk2 z _ hzi hz0)) hlo (upn TO _ (hk2 TO _ hTOi (up0 TO _ hzT.symm hTO))) (ha2.at (fun i _ o e => upn i o e) fun q _ o e => upn _ o e) ?_ fun c o c1 c2 c3 e => upn c o (hk2 c o c3 (up0 c o c1 e))
    have := Heap.get?_push_size g2 (o := { cls := .type "tuple", data := .seq (#[] ++ ys.toArray).toList.toArray }) rfl
    rw [hsz, e5] at this
    rw [e5]
    exact this
  case one =>
    simp only [if_true]
    refine wpAny_bind (wpAny_rule ?_)
    refine wpAny_bind (wpAny_field hz rfl (x := .ref TO) rfl ?_)
    refine wpAny_bind (wpAny_setField_rec hz (by simp) fun g1 hz1 hs1 => ?_)
    replace hz1 : ZipB g1 z TI TO .ellipsis b := hz1
    have up1 : ∀ c o, c ≠ z → s.heap.get? c = some o → g1.get? c = some o := fun c o c1 e => hs1.extBut _ _ c1 e
    have ha1 : AllAt g1 k is r := ha.at (fun i hi o e => up1 i o (fun q => hzi (q ▸ hi)) e) fun q hq o e => up1 _ o (hs q hq).2.1 e
    refine wpAny_bind ?_
    refine draw_all (M := model prog w) (A := A) (E := E) (b0 := (none, ())) (TO := TO) (Q := _) ?hf k is r ys olds [] { s with heap := g1 } ha1 hy hly (by simpa [hlo] using hsm) hnd hTOi (fun q hq => ⟨(hs q hq).1, (hs q hq).2.2⟩) (up1 TO _ hzT.symm hTO) ?hq
    case hf =>
      intro s2 i l t k2 xs x old pre post Q2 E2 hi hl hx hiT hlT hli hbd hT2 kq
      show wpAny _ _ (((Builtin.SmallTypes.nextOf (.ref i) >>= fun v => pure (some v)).onRaise _) >>= _) _ _ _
      refine wpAny_bind (wpAny_onRaise ?_)
      refine wpAny_bind (nextOf_item hi hl hx fun g2 hi2 hs2 => wpAny_pure ?_)
      have hT3 : TupAt g2 TO (pre ++ old :: post) := hs2.extBut _ _ hiT.symm hT2
      refine wpAny_bind (wpAny_seqItems hT3 rfl ?_)
      have hb2 : (pre ++ old :: post).length ≤ sizeLine := Nat.le_trans hbd (by decide)
      refine wpAny_bind (wpAny_updateSeq hT3 rfl ?_ (by rw [List.size_toArray]; exact hb2) (by rw [Array.size_setIfInBounds, List.size_toArray]; exact Nat.le_succ_of_le hb2))
      refine wpAny_bind (wpAny_letGo (wpAny_pure ?_))
      have hup : Heap.SameBut TO g2 (g2.update TO (Obj.mapSeq fun v => v.setIfInBounds pre.length x)) := Heap.SameBut.update ..
      refine kq _ (hi2.at fun o e => hup.extBut _ _ hiT e) ?_ (hup.1.trans hs2.1) fun c o c1 c2 e => hup.extBut _ _ c1 (hs2.extBut _ _ c2 e)
      show (g2.update TO _).get? TO = _
      rw [Heap.get?_update_self _ hT3 rfl]
      simp [Obj.mapSeq, List.set_append]
    case hq =>
      intro g2 ha2 hT2 hz2 hk2
      refine wpAny_bind (wpAny_seqItems hT2 rfl ?_)
      refine wpAny_bind (wpAny_newTuple ?_ (by simpa using hyl))
      have hsz : g2.objs.size = s.heap.objs.size := hz2.trans hs1.1
      have hz3 : ZipB g2 z TI TO .ellipsis b := hk2 z _ hzT hzi hz1
      have hzlt : z < g2.objs.size := Heap.lt_size hz3
      show wpAny _ _ (Builtin.SmallTypes.ownedTupleHandOut (.ref z) (.ref g2.objs.size) >>= _) _ _ _
      refine wpAny_bind ?_
      unfold Builtin.SmallTypes.ownedTupleHandOut
      have hz4 : ZipB (g2.push { cls := .type "tuple", data := .seq ([] ++ ys).toArray.toList.toArray }) z TI TO .ellipsis b := Heap.get?_push_of_some _ hz3
      refine wpAny_bind (wpAny_setField_rec hz4 (by simp) fun g5 hz5 hs5 => ?_)
      replace hz5 : ZipB g5 z TI TO (rawInt g2.objs.size) b := hz5
      refine wpAny_setField_rec hz5 (by simp) fun g6 hz6 hs6 => ?_
      replace hz6 : ZipB g6 z TI TO (rawInt g2.objs.size) false := hz6
      have up : ∀ c o, c ≠ z → g2.get? c = some o → g6.get? c = some o := fun c o c1 e => hs6.extBut _ _ c1 (hs5.extBut _ _ c1 (Heap.get?_push_of_some _ e))
      have hnew : TupAt g6 g2.objs.size ys := by
        have e := hs6.extBut _ _ (Nat.ne_of_gt hzlt) (hs5.extBut _ _ (Nat.ne_of_gt hzlt) (Heap.get?_push_size g2 (o := { cls := .type "tuple", data := .seq ([] ++ ys).toArray.toList.toArray }) rfl))
        simpa using e
      have hT6 : TupAt g6 TO ys := up TO _ hzT.symm hT2
      refine wpAny_pure ⟨_, rfl, ?_⟩
      show Q (.ref g2.objs.size) _
      rw [hsz] at hz6 hnew ⊢
      exact hQ g6 _ false ys (.inr ⟨_, rfl⟩) hz6 (hly.trans hlo) hT6 (ha2.at (fun i hi o e => up i o (fun q => hzi (q ▸ hi)) e) fun q hq o e => up _ o (hs q hq).2.1 e) hnew fun c o c1 c2 c3 e => up c o c1 (hk2 c o c2 c3 (up1 c o c1 e))
/-- .. at which some sequence has come to its end -/
theorem turn_stop {z TI TO : Addr} {f0 : Value} {b : Bool} {is : List Addr} {r : List Src} {k : Nat} {olds : List Value} {Q : Fin → Shared → Prop} (hh : A.handled = none) (ow : Own f0) (hne : is ≠ [])
    (hz : ZipB s.heap z TI TO f0 b) (hTI : TupAt s.heap TI (is.map Value.ref)) (hTO : TupAt s.heap TO olds) (ha : AllAt s.heap k is r) (hy : ∃ q ∈ r, q.2.2[k]? = none) (hlo : olds.length = is.length) (hsm : is.length ≤ 1000)
    (hnd : is.Nodup) (hzi : z ∉ is) (hTOi : TO ∉ is) (hzT : z ≠ TO) (hs : ∀ q ∈ r, q.2.1 ≠ TO ∧ q.2.1 ≠ z ∧ q.2.1 ∉ is)
    (hE : ∀ h' e, (∀ c o, c ≠ z → c ≠ TO → c ∉ is → s.heap.get? c = some o → h'.get? c = some o) → StopAt h' e → E (.ref e) { s with heap := h' }) :
    wpAny (model prog w) A (Builtin.«zip.__next__» ⟨[.ref z], []⟩) Q E s := by
  show wpAny _ _ (field (.ref z) 2 >>= _) _ _ _
  refine wpAny_bind (wpAny_field hz rfl (x := .bool false) rfl ?_)
  show wpAny _ _ (field (.ref z) 3 >>= _) _ _ _
  refine wpAny_bind (wpAny_field hz rfl (x := .ref TI) rfl ?_)
  refine wpAny_bind (wpAny_seqItems hTI rfl ?_)
  have hem : (is.map Value.ref).toArray.isEmpty = false := by
    cases is with
    | nil => exact absurd rfl hne
    | cons _ _ => simp
  simp only [hem, Bool.false_eq_true, if_false]
  refine wpAny_bind (is_free ow hz ?one fun g0 hz0 hs0 => ?two)
  case two =>
    simp only [Bool.false_eq_true, if_false]
    have up0 : ∀ c o, c ≠ z → s.heap.get? c = some o → g0.get? c = some o := fun c o c1 e => hs0.extBut _ _ c1 e
    have ha0 : AllAt g0 k is r := ha.at (fun i hi o e => up0 i o (fun q => hzi (q ▸ hi)) e) fun q hq o e => up0 _ o (hs q hq).2.1 e
    rw [List.forIn_toArray]
    refine wpAny_bind (stops2 (M := model prog w) (A := A) (E := E) (Q := _) ?hf ?hg k is r #[] { s with heap := g0 } ha0 hy hnd (fun q hq => (hs q hq).2.2) fun h' e hk he => hE h' e (fun c o c1 c2 c3 x => hk c o c3 (up0 c o c1 x)) he)
    case hf =>
      intro s2 i l t k2 xs x acc Q2 E2 hi hl hx kq
      show wpAny _ _ (holding _ (Builtin.SmallTypes.nextOf (.ref i) >>= fun v => pure (some v)) >>= _) _ _ _
      refine wpAny_bind (wpAny_holding ?_)
      refine wpAny_bind (nextOf_item hi hl hx fun g2 hi2 hs2 => wpAny_pure (wpAny_pure ?_))
      exact kq g2 hi2 hs2.1 fun c o c1 e => hs2.extBut _ _ c1 e
    case hg =>
      intro s2 i l t k2 xs acc Q2 E2 hi hl hx ke
      show wpAny _ _ (holding _ (Builtin.SmallTypes.nextOf (.ref i) >>= fun v => pure (some v)) >>= _) _ _ _
      refine wpAny_bind (wpAny_holding ?_)
      exact wpAny_bind (nextOf_end hh hi hl hx fun g2 e hs2 he => ke g2 e (fun c o c1 x => hs2 _ _ c1 x) he)
  case one =>
    simp only [if_true]
    refine wpAny_bind (wpAny_rule ?_)
    refine wpAny_bind (wpAny_field hz rfl (x := .ref TO) rfl ?_)
    refine wpAny_bind (wpAny_setField_rec hz (by simp) fun g1 hz1 hs1 => ?_)
    replace hz1 : ZipB g1 z TI TO .ellipsis b := hz1
    have up1 : ∀ c o, c ≠ z → s.heap.get? c = some o → g1.get? c = some o := fun c o c1 e => hs1.extBut _ _ c1 e
    have ha1 : AllAt g1 k is r := ha.at (fun i hi o e => up1 i o (fun q => hzi (q ▸ hi)) e) fun q hq o e => up1 _ o (hs q hq).2.1 e
    refine wpAny_bind ?_
    refine stop_allB (M := model prog w) (A := A) (E := E) (b0 := (none, ())) (z := z) (TI := TI) (TO := TO) (b := b) (Q := _) ?hf1 ?hg1 k is r olds [] { s with heap := g1 } ha1 hy (by rw [hlo, ha.len]) (by simpa [hlo] using hsm) hnd hTOi hzi hzT (fun q hq => ⟨(hs q hq).1, (hs q hq).2.2⟩) hz1 (up1 TO _ hzT.symm hTO)
      fun h' e hk he => hE h' e (fun c o c1 c2 c3 x => hk c o c1 c2 c3 (up1 c o c1 x)) he
    case hf1 =>
      intro s2 i l t k2 xs x old pre post Q2 E2 hi hl hx hiT hlT hli hbd hT2 kq
      show wpAny _ _ (((Builtin.SmallTypes.nextOf (.ref i) >>= fun v => pure (some v)).onRaise _) >>= _) _ _ _
      refine wpAny_bind (wpAny_onRaise ?_)
      refine wpAny_bind (nextOf_item hi hl hx fun g2 hi2 hs2 => wpAny_pure ?_)
      have hT3 : TupAt g2 TO (pre ++ old :: post) := hs2.extBut _ _ hiT.symm hT2
      refine wpAny_bind (wpAny_seqItems hT3 rfl ?_)
      have hb2 : (pre ++ old :: post).length ≤ sizeLine := Nat.le_trans hbd (by decide)
      refine wpAny_bind (wpAny_updateSeq hT3 rfl ?_ (by rw [List.size_toArray]; exact hb2) (by rw [Array.size_setIfInBounds, List.size_toArray]; exact Nat.le_succ_of_le hb2))
      refine wpAny_bind (wpAny_letGo (wpAny_pure ?_))
      have hup : Heap.SameBut TO g2 (g2.update TO (Obj.mapSeq fun v => v.setIfInBounds pre.length x)) := Heap.SameBut.update ..
      refine kq _ (hi2.at fun o e => hup.extBut _ _ hiT e) ?_ (hup.1.trans hs2.1) fun c o c1 c2 e => hup.extBut _ _ c1 (hs2.extBut _ _ c2 e)
      show (g2.update TO _).get? TO = _
      rw [Heap.get?_update_self _ hT3 rfl]
      simp [Obj.mapSeq, List.set_append]
    case hg1 =>
      intro s2 i l t k2 j xs Q2 E2 hi hl hx hiz hz2 ke
      show wpAny _ _ (((Builtin.SmallTypes.nextOf (.ref i) >>= fun v => pure (some v)).onRaise _) >>= _) _ _ _
      refine wpAny_bind (wpAny_onRaise ?_)
      refine wpAny_bind (nextOf_end hh hi hl hx fun g2 e hs2 he => ?_)
      obtain ⟨oe, hoe, hce⟩ := he
      have hz3 : ZipB g2 z TI TO .ellipsis b := hs2 _ _ hiz.symm hz2
      have hez : e ≠ z := fun x => by subst x; rw [hz3] at hoe; cases hoe; simp at hce
      exact wpAny_setField_rec hz3 (by simp) fun g3 _ hs3 => ke g3 e (fun c o c1 c2 x => hs3.extBut _ _ c1 (hs2 _ _ c2 x)) ⟨oe, hs3.extBut _ _ hez hoe, hce⟩
end
end Zs
set_option Elab.async false
set_option linter.all false
set_option maxRecDepth 100000
set_option maxHeartbeats 1000000
namespace Zs
open PySem PySem.Spec PyProof.Rows L2 Zn
open PySem.Sem (wp)
section
variable {prog : Program} {w : World} {A : Around} {E : Value → Shared → Prop} {s : Shared}
theorem call_zipStar {pos p : Pos} {e : Expr} {env : Env} {Q : Value → Shared → Prop}
    (h : wpAny (model prog w) A (eval e env) (fun v s₁ => PySem.W.StarOf (model prog w) A E v (fun vs s₂ => wpAny (model prog w) A (call (.type "zip") vs) Q E s₂) s₁) E s)
    (he : starEach [.Starred e p] env = [(true, eval e env)] := by rfl) :
    wpAny (model prog w) A (callWith pos (.type "zip") [] (backTo pos (starEach [.Starred e p] env)) []) Q E s := by
  rw [he]
  refine PySem.W.ks_call (P := fun _ => True) rfl (fun h _ => ⟨_, .inr (.inl rfl), PySem.W.Looks.of_pure rfl⟩) (PySem.W.ks_lone ?_)
  refine wpAny_mono h (fun v s₁ hv => ?_) fun _ _ x => x
  unfold PySem.W.StarOf at hv ⊢
  exact wpAny_mono hv (fun b s₂ hb => ⟨hb.1, wpAny_mono hb.2 (fun vs s₃ hc => ⟨trivial, hc⟩) fun _ _ x => x⟩) fun _ _ x => x
theorem nextB_item {z TI TO : Addr} {f0 : Value} {b : Bool} {is : List Addr} {r : List Src} {k : Nat} {ys olds : List Value} {Q : Option Value → Shared → Prop} (ow : Own f0) (hne : is ≠ [])
    (hz : ZipB s.heap z TI TO f0 b) (hTI : TupAt s.heap TI (is.map Value.ref)) (hTO : TupAt s.heap TO olds) (ha : AllAt s.heap k is r) (hy : Items k r ys) (hlo : olds.length = is.length) (hsm : is.length ≤ 1000)
    (hnd : is.Nodup) (hzi : z ∉ is) (hTOi : TO ∉ is) (hTIi : TI ∉ is) (hzT : z ≠ TO) (hzI : z ≠ TI) (hTT : TI ≠ TO) (hs : ∀ q ∈ r, q.2.1 ≠ TO ∧ q.2.1 ≠ z ∧ q.2.1 ∉ is)
    (hQ : ∀ h' f1 b1 olds', Own f1 → ZipB h' z TI TO f1 b1 → olds'.length = is.length → TupAt h' TO olds' → AllAt h' (k + 1) is r → TupAt h' s.heap.objs.size ys →
      (∀ c o, c ≠ z → c ≠ TO → c ∉ is → s.heap.get? c = some o → h'.get? c = some o) → Q (some (.ref s.heap.objs.size)) { s with heap := h' }) : wpAny (model prog w) A (pyNext (.ref z)) Q E s := by
  have ty : s.TypeIs (.ref z) "zip" := ⟨_, hz, rfl⟩
  unfold pyNext
  refine wpAny_bind (wpAny_attempt (wpAny_callSpecial?_slot (name := Str.ofString "__next__") ty F.slot_zip_next ?_))
  exact wpAny_call_entry F.slot_zip_next ty F.entry_zip_next (turn_item ow hne hz hTI hTO ha hy hlo hsm hnd hzi hTOi hTIi hzT hzI hTT hs fun h' f1 b1 o1 c1 c2 c3 c4 c5 c6 c7 => wpAny_pure (hQ h' f1 b1 o1 c1 c2 c3 c4 c5 c6 c7)) (F.args_zip_next_1 _)
theorem nextB_stop {z TI TO : Addr} {f0 : Value} {b : Bool} {is : List Addr} {r : List Src} {k : Nat} {olds : List Value} {Q : Option Value → Shared → Prop} (hh : A.handled = none) (ow : Own f0) (hne : is ≠ [])
    (hz : ZipB s.heap z TI TO f0 b) (hTI : TupAt s.heap TI (is.map Value.ref)) (hTO : TupAt s.heap TO olds) (ha : AllAt s.heap k is r) (hy : ∃ q ∈ r, q.2.2[k]? = none) (hlo : olds.length = is.length) (hsm : is.length ≤ 1000)
    (hnd : is.Nodup) (hzi : z ∉ is) (hTOi : TO ∉ is) (hzT : z ≠ TO) (hs : ∀ q ∈ r, q.2.1 ≠ TO ∧ q.2.1 ≠ z ∧ q.2.1 ∉ is)
    (hQ : ∀ h', (∀ c o, c ≠ z → c ≠ TO → c ∉ is → s.heap.get? c = some o → h'.get? c = some o) → Q none { s with heap := h' }) : wpAny (model prog w) A (pyNext (.ref z)) Q E s := by
  have ty : s.TypeIs (.ref z) "zip" := ⟨_, hz, rfl⟩
  unfold pyNext
  refine wpAny_bind (wpAny_attempt (wpAny_callSpecial?_slot (name := Str.ofString "__next__") ty F.slot_zip_next ?_))
  refine wpAny_call_entry F.slot_zip_next ty F.entry_zip_next (turn_stop hh ow hne hz hTI hTO ha hy hlo hsm hnd hzi hTOi hzT hs fun h' e hk he => ?_) (F.args_zip_next_1 _)
  obtain ⟨o, ho, hc⟩ := he
  exact wpAny_bind (wpAny_isInstance (T := "StopIteration") (b := true) ⟨o, ho, hc⟩ isSubtype_stop (wpAny_pure (hQ _ hk)))
theorem iterB {z TI TO : Addr} {f0 : Value} {b : Bool} {Q : Value → Shared → Prop} (hz : ZipB s.heap z TI TO f0 b) (h : Q (.ref z) s) : wpAny (model prog w) A (pyIter (.ref z)) Q E s := by
  have ty : s.TypeIs (.ref z) "zip" := ⟨_, hz, rfl⟩
  refine wpAny_pyIter_slot ty F.slot_zip_iter (wpAny_call_entry F.slot_zip_iter ty F.entry_zip_iter ?_ (F.args_zip_iter_1 _))
  show wpAny _ _ (ret (.ref z)) _ _ s
  exact wpAny_pure ⟨_, rfl, "zip", _, ty, F.slot_zip_next.lookup, h⟩
end
def ZTb (z TI TO : Addr) (is : List Addr) (src : List (Bool × Addr)) (i : Nat) (h : Heap) : Prop :=
  (∃ f0 b, Own f0 ∧ ZipB h z TI TO f0 b) ∧ TupAt h TI (is.map Value.ref) ∧ (∃ olds : List Value, olds.length = is.length ∧ TupAt h TO olds) ∧ ItsAt h i is src
/-- zip over any number of sequences, each tuple kept by a name -/
theorem turn_b {P : Program} {w : World} {K : PySem.W.Frag} {x : Str} {xp : Pos} {z TI TO : Addr} {is : List Addr} {src : List (Bool × Addr)} (D : Apart z TI TO is src) :
    Turn P w K (.Name x xp) (Itn K src) (z :: TI :: TO :: is) z (ZTb z TI TO is src) where
  mem := List.mem_cons_self
  obj := fun i h st c hc => by
    obtain ⟨⟨f0, b, _, hz⟩, hTI, ⟨olds, _, hTO⟩, hi⟩ := st
    rcases List.mem_cons.mp hc with rfl | hc
    · exact ⟨_, hz, fun v q => nomatch q⟩
    rcases List.mem_cons.mp hc with rfl | hc
    · exact ⟨_, hTI, fun v q => nomatch q⟩
    rcases List.mem_cons.mp hc with rfl | hc
    · exact ⟨_, hTO, fun v q => nomatch q⟩
    obtain ⟨o, l, e, d⟩ := hi.ob c hc
    exact ⟨o, e, fun v q => by rw [d] at q; cases q⟩
  keep := fun i h h' st k => by
    obtain ⟨⟨f0, b, ow, hz⟩, hTI, ⟨olds, hl, hTO⟩, hi⟩ := st
    exact ⟨⟨f0, b, ow, k z (by simp) _ hz⟩, k TI (by simp) _ hTI, ⟨olds, hl, k TO (by simp) _ hTO⟩, hi.at fun j hj o e => k j (by simp [hj]) o e⟩
  item := by
    intro X hP hw hK hc i pins s σ H E I hf st hg
    subst hP hw hK
    obtain ⟨⟨f0, b, ow, hz⟩, hTI, ⟨olds, hol, hTO⟩, hi⟩ := st
    obtain ⟨ys, hrow⟩ := hg
    obtain ⟨r, us, e1, e2, e3, e4⟩ := row_ob I hrow
    subst e1
    have hzl : z < s.heap.objs.size := Heap.lt_size hz
    have ha := allAt_of hi e2
    have hys : ys.length ≤ 1000 := by rw [e4.length, ← e3.len, ← ha.len]; exact D.sm
    have hpart : ∀ c ∈ z :: TI :: TO :: is, c < s.heap.objs.size := fun c hcm => by
      rcases List.mem_cons.mp hcm with rfl | hcm
      · exact hzl
      rcases List.mem_cons.mp hcm with rfl | hcm
      · exact Heap.lt_size hTI
      rcases List.mem_cons.mp hcm with rfl | hcm
      · exact Heap.lt_size hTO
      exact ha.lt c hcm
    refine nextB_item ow D.ne hz hTI hTO ha e3 hol D.sm D.nd D.zi D.oi D.ti D.zT D.zI D.TT (fun q hq => ⟨(D.sr _ (bare_mem hq)).1, (D.sr _ (bare_mem hq)).2.1, (D.sr _ (bare_mem hq)).2.2.2⟩) fun g f1 b1 olds' ow1 z1 ol1 TO1 a1 T1 k1 => ?_
    refine ⟨_, rfl, ?_⟩
    unfold letOwnedTupleGo
    refine wpAny_pure ?_
    have new : ObjOk X.prog X.w (upd H s.heap.objs.size (.tup ys)) g s.heap.objs.size (.tup ys) := ⟨Nat.le_trans hys (by decide), us, e4, ⟨_, T1, rfl, _, rfl⟩⟩
    have I1 : Inv X pins σ (upd H s.heap.objs.size (.tup ys)) { s with heap := g } :=
      I.turnedNew (t' := s.toks) (ch := z :: TI :: TO :: is) (fun c o hb q => k1 c o (fun q' => hb (by simp [q'])) (fun q' => hb (by simp [q'])) (fun q' => hb (by simp [q'])) q) hf (Nat.le_refl _) new
    refine ⟨.ref s.heap.objs.size, _, I1, rfl, ⟨_, ys, rfl, I.hok.fresh (Nat.le_refl _), rfl, fun zs hzs => row_inj I hrow hzs⟩, ⟨⟨f1, b1, ow1, z1⟩, ?_, ⟨olds', ol1, TO1⟩, a1.its⟩, fun c hcm => ?_⟩
    · exact k1 _ _ D.zI.symm D.TT D.ti hTI
    · rw [upd_ne (Nat.ne_of_lt (hpart c hcm))]
      exact (hf c hcm).1
  done := by
    intro X hP hw hK hc i pins s σ H E I hf st hg
    subst hP hw hK
    obtain ⟨⟨f0, b, ow, hz⟩, hTI, ⟨olds, hol, hTO⟩, hi⟩ := st
    obtain ⟨hall, q, hq, xs, hqx, hle⟩ := hg
    obtain ⟨r, e1, e2, e3⟩ := all_ob I hall
    subst e1
    have ha := allAt_of hi e2
    obtain ⟨p, hp, hps⟩ := e3 q hq xs hqx
    exact nextB_stop (I.ok.hd hc) ow D.ne hz hTI hTO ha ⟨p, hp, by rw [Array.getElem?_eq_none_iff]; omega⟩ hol D.sm D.nd D.zi D.oi D.zT (fun q hq => ⟨(D.sr _ (bare_mem hq)).1, (D.sr _ (bare_mem hq)).2.1, (D.sr _ (bare_mem hq)).2.2.2⟩)
      fun g hk => ⟨rfl, I.turnedL (t' := s.toks) (ch := z :: TI :: TO :: is) (fun c o hb q => hk c o (fun q' => hb (by simp [q'])) (fun q' => hb (by simp [q'])) (fun q' => hb (by simp [q'])) q) hf⟩
  self := fun A i s Q E st h => let ⟨⟨_, _, _, hz⟩, _⟩ := st; iterB hz h
section
variable {X : Cx}
theorem zip_comeB {pins : List (Addr × Obj)} {σ : L2.St} {H : Hp} {s : Shared} {us : List Value} {R : It → Hp → Prop} {x : Str} {xp : Pos} {E : Value → Shared → Prop} (I : Inv X pins σ H s) {src : List (Bool × Addr)} (rv : Vals (kRefs src) us)
    (h0 : 0 < src.length) (h3 : src.length ≤ 3) (ha : AllSq X.K H src) (q : R (Itn X.K src) H) :
    wpAny (model X.prog X.w) X.A (call (.type "zip") us) (fun v s1 => wpAny (model X.prog X.w) X.A (pyIter v) (PIE X pins σ (.Name x xp) R) E s1) E s := by
  obtain ⟨r, e1, e2⟩ := srcs_of I ha
  have e3 := vals_refs rv
  subst e1
  have hl : (bare r).length = r.length := List.length_map ..
  rw [hl] at h0 h3
  have e4 : us = r.map fun q => Value.ref q.2.1 := by rw [e3]; unfold bare; rw [List.map_map]; rfl
  rw [e4]
  refine call_zipN h0 h3 e2 fun g m => wpAny_pyIter_zip m.zr ?_
  have I2 : Inv X pins σ H { s with heap := g } := I.kept (t' := s.toks) m.kp
  refine ⟨_, _, _, _, H, rfl, I2, turn_b (made_apart m e2 h0 (by omega)), ⟨⟨.none, false, .inl rfl, m.zr⟩, m.ti, ⟨_, ?_, m.to⟩, m.all.its⟩, fun c hcm => ?_, q⟩
  · rw [List.length_map, news_len]
  · have hle : s.heap.objs.size ≤ c := by
      rcases List.mem_cons.mp hcm with rfl | hcm
      · exact Nat.le_add_right_of_le (Nat.le_add_right ..)
      rcases List.mem_cons.mp hcm with rfl | hcm
      · exact Nat.le_add_right ..
      rcases List.mem_cons.mp hcm with rfl | hcm
      · exact Nat.le_add_right_of_le (Nat.le_add_right ..)
      exact (news_mem hcm).1
    exact I.fpOk hle (I.hok.fresh hle)
def iZs (K : PySem.W.Frag) (te : TE) : TI := fun σ H R => te σ H fun y H1 => ∃ (a : Addr) (src : List (Bool × Addr)), y = .ref a ∧ (SqT K H1 a (kRefs src) ∨ SqL K H1 a (kRefs src)) ∧ 0 < src.length ∧ src.length ≤ 3 ∧ AllSq K H1 src ∧ R (Itn K src) H1
/-- for x in zip(*rows) -/
theorem pi_zipStar {e : Expr} {te : TE} {p sp pos : Pos} {x : Str} {xp : Pos} (hg : Gl X "zip") (hm : X.mg "zip" = none) (he : PE X e te) (hst : starEach [.Starred e sp] X.env = [(true, eval e X.env)] := by rfl) :
    PI X (.Name x xp) (.Call (.Name "zip" p) [.Starred e sp] [] pos) (iZs X.K te) := by
  refine ⟨fun pins s σ H R I h => ?_⟩
  refine Call_ (ld_blt I hg hm PyProof.Rows.boot_zip (call_zipStar (thn (he.run pins s σ H _ I h) fun v s1 hv => ?_) hst))
  obtain ⟨y, H1, I1, ry, a, src, rfl, hx, h0, h3, hq, q⟩ := hv
  obtain rfl : v = Value.ref a := ry
  exact StX.star_any I1 hx fun us s2 I2 rv => zip_comeB I2 rv h0 h3 hq q
end
end Zs
set_option Elab.async false
set_option linter.all false
set_option maxRecDepth 100000
set_option maxHeartbeats 1000000
namespace En
open PySem PySem.Spec PyProof.Rows L2 Zn
open PySem.Sem (wp)
section
variable {prog : Program} {w : World} {A : Around} {E : Value → Shared → Prop} {s : Shared}
theorem next_item {e it l : Addr} {t : Bool} {i : Nat} {items : Array Value} {x old : Value} {Q : Value → Shared → Prop}
    (he : IsEnum s.heap e it i old) (hit : ItK t s.heap it l i) (hl : SqK t s.heap l items) (hx : items[i]? = some x) (hne : e ≠ it)
    (hQ : ∀ h', IsEnumOut h' e it ((i : Int) + 1) x s.heap.objs.size → ItK t h' it l (i + 1) → h'.get? s.heap.objs.size = some { cls := .type "tuple", data := .seq #[.int i s.toks, x] } →
      (∀ b o, b ≠ e → b ≠ it → s.heap.get? b = some o → h'.get? b = some o) → Q (.ref s.heap.objs.size) { s with heap := h', toks := s.toks + 1 }) :
    wpAny (model prog w) A (Builtin.«enumerate.__next__» ⟨[.ref e], []⟩) (fun fin s' => ∃ v, fin = .done (.ret v) ∧ Q v s') E s := by
  obtain ⟨hp, g, d, tk, os⟩ := s
  show wpAny _ _ (field (.ref e) 2 >>= _) _ _ _
  refine wpAny_bind (wpAny_field he rfl (x := .ref it) rfl ?_)
  refine wpAny_bind (nextOf_item hit hl hx fun g1 it1 sb1 => ?_)
  replace sb1 : Heap.SameBut it hp g1 := sb1
  have e1 : IsEnum g1 e it i old := (sb1.2 e hne).trans he
  show wpAny _ _ (field (.ref e) 3 >>= _) _ _ ⟨g1, g, d, tk, os⟩
  refine wpAny_bind (wpAny_field e1 rfl (x := rawInt i) rfl ?_)
  show wpAny _ _ (field (.ref e) 4 >>= _) _ _ ⟨g1, g, d, tk, os⟩
  refine wpAny_bind (wpAny_field e1 rfl (x := .none) rfl ?_)
  show wpAny _ _ (mkInt i >>= _) _ _ ⟨g1, g, d, tk, os⟩
  refine wpAny_bind (wpAny_mkInt ?_)
  show wpAny _ _ (setField (.ref e) 3 (rawInt ((i : Int) + 1)) >>= _) _ _ ⟨g1, g, d, tk + 1, os⟩
  refine wpAny_bind (wpAny_setField_rec e1 (by simp) fun g2 e2 sb2 => ?_)
  replace sb2 : Heap.SameBut e g1 g2 := sb2
  replace e2 : IsEnum g2 e it ((i : Int) + 1) old := e2
  show wpAny _ _ (setField (.ref e) 4 .none >>= _) _ _ ⟨g2, g, d, tk + 1, os⟩
  refine wpAny_bind (wpAny_setField_rec e2 (by simp) fun g3 e3 sb3 => ?_)
  replace sb3 : Heap.SameBut e g2 g3 := sb3
  replace e3 : IsEnum g3 e it ((i : Int) + 1) old := e3
  show wpAny _ _ (newTuple [.int i tk, x] >>= _) _ _ ⟨g3, g, d, tk + 1, os⟩
  refine wpAny_bind (wpAny_newTuple ?_)
  have e4 : IsEnum (g3.push { cls := .type "tuple", data := .seq #[.int i tk, x] }) e it ((i : Int) + 1) old := Heap.get?_push_of_some _ e3
  have sz3 : g3.objs.size = hp.objs.size := by rw [sb3.1, sb2.1, sb1.1]
  have hel : e < hp.objs.size := Heap.lt_size he
  have it3 : ItK t g3 it l (i + 1) := it1.at fun o q => sb3.extBut _ _ hne.symm (sb2.extBut _ _ hne.symm q)
  generalize eg4 : g3.push { cls := .type "tuple", data := .seq #[.int i tk, x] } = g4 at e4
  have tup4 : g4.get? hp.objs.size = some { cls := .type "tuple", data := .seq #[.int i tk, x] } := by rw [← eg4, ← sz3]; exact Heap.get?_push_size _ rfl
  have up4 : ∀ b o, b ≠ e → b ≠ it → hp.get? b = some o → g4.get? b = some o := fun b o b1 b2 q => by
    rw [← eg4]
    exact Heap.get?_push_of_some _ (sb3.extBut b o b1 (sb2.extBut b o b1 (sb1.extBut b o b2 q)))
  have it4 : ItK t g4 it l (i + 1) := it3.at fun o q => by rw [← eg4]; exact Heap.get?_push_of_some _ q
  show wpAny _ _ (Builtin.SmallTypes.ownedTupleIsFree (.ref e) >>= _) _ _ ⟨g4, g, d, tk + 1, os⟩
  rw [sz3]
  refine wpAny_bind ?_
  unfold Builtin.SmallTypes.ownedTupleIsFree
  refine wpAny_bind (wpAny_field e4 rfl (x := .none) rfl (wpAny_pure ?_))
  simp only [if_true]
  refine wpAny_bind (wpAny_rule ?_)
  refine wpAny_bind (wpAny_field e4 rfl (x := old) rfl ?_)
  refine wpAny_bind (wpAny_setField_rec e4 (by simp) fun g5 e5 sb5 => ?_)
  replace sb5 : Heap.SameBut e g4 g5 := sb5
  replace e5 : IsEnum g5 e it ((i : Int) + 1) x := e5
  show wpAny _ _ (Builtin.SmallTypes.ownedTupleHandOut (.ref e) (.ref hp.objs.size) >>= _) _ _ ⟨g5, g, d, tk + 1, os⟩
  refine wpAny_bind ?_
  unfold Builtin.SmallTypes.ownedTupleHandOut
  refine wpAny_bind (wpAny_setField_rec e5 (by simp) fun g6 e6 sb6 => ?_)
  replace e6 : IsEnumOut g6 e it ((i : Int) + 1) x hp.objs.size := e6
  refine wpAny_setField_rec e6 (by simp) fun g7 e7 sb7 => ?_
  replace e7 : IsEnumOut g7 e it ((i : Int) + 1) x hp.objs.size := e7
  have up : ∀ b o, b ≠ e → g4.get? b = some o → g7.get? b = some o := fun b o b1 q => sb7.extBut _ _ b1 (sb6.extBut _ _ b1 (sb5.extBut _ _ b1 q))
  refine wpAny_bind (wpAny_letGo (wpAny_pure ⟨_, rfl, ?_⟩))
  exact hQ g7 e7 (it4.at fun o q => up it o hne.symm q) (up _ _ (Nat.ne_of_gt hel) tup4) fun b o b1 b2 q => up b o b1 (up4 b o b1 b2 q)
theorem next_stop {e it l : Addr} {t : Bool} {i : Nat} {items : Array Value} {old : Value} {Q : Fin → Shared → Prop} (hh : A.handled = none)
    (he : IsEnum s.heap e it i old) (hit : ItK t s.heap it l i) (hl : SqK t s.heap l items) (hx : items[i]? = none) (hne : e ≠ it)
    (hE : ∀ h' x, (∀ b o, b ≠ e → b ≠ it → s.heap.get? b = some o → h'.get? b = some o) → StopAt h' x → E (.ref x) { s with heap := h' }) :
    wpAny (model prog w) A (Builtin.«enumerate.__next__» ⟨[.ref e], []⟩) Q E s := by
  show wpAny _ _ (field (.ref e) 2 >>= _) _ _ _
  refine wpAny_bind (wpAny_field he rfl (x := .ref it) rfl ?_)
  exact wpAny_bind (nextOf_end hh hit hl hx fun g1 x sb1 hs => hE g1 x (fun b o b1 b2 q => sb1 _ _ b2 q) hs)
theorem pyNext_item {e it l : Addr} {t : Bool} {i : Nat} {items : Array Value} {x old : Value} {Q : Option Value → Shared → Prop}
    (he : IsEnum s.heap e it i old) (hit : ItK t s.heap it l i) (hl : SqK t s.heap l items) (hx : items[i]? = some x) (hne : e ≠ it)
    (hQ : ∀ h', IsEnumOut h' e it ((i : Int) + 1) x s.heap.objs.size → ItK t h' it l (i + 1) → h'.get? s.heap.objs.size = some { cls := .type "tuple", data := .seq #[.int i s.toks, x] } →
      (∀ b o, b ≠ e → b ≠ it → s.heap.get? b = some o → h'.get? b = some o) → Q (some (.ref s.heap.objs.size)) { s with heap := h', toks := s.toks + 1 }) : wpAny (model prog w) A (pyNext (.ref e)) Q E s := by
  have ty : s.TypeIs (.ref e) "enumerate" := ⟨_, he, rfl⟩
  unfold pyNext
  refine wpAny_bind (wpAny_attempt (wpAny_callSpecial?_slot (name := Str.ofString "__next__") ty F.slot_enumerate_next ?_))
  exact wpAny_call_entry F.slot_enumerate_next ty F.entry_enumerate_next (next_item he hit hl hx hne fun h' b1 b2 b3 b4 => wpAny_pure (hQ h' b1 b2 b3 b4)) (F.args_enumerate_next_1 _)
theorem pyNext_stop {e it l : Addr} {t : Bool} {i : Nat} {items : Array Value} {old : Value} {Q : Option Value → Shared → Prop} (hh : A.handled = none)
    (he : IsEnum s.heap e it i old) (hit : ItK t s.heap it l i) (hl : SqK t s.heap l items) (hx : items[i]? = none) (hne : e ≠ it)
    (hQ : ∀ h', (∀ b o, b ≠ e → b ≠ it → s.heap.get? b = some o → h'.get? b = some o) → Q none { s with heap := h' }) : wpAny (model prog w) A (pyNext (.ref e)) Q E s := by
  have ty : s.TypeIs (.ref e) "enumerate" := ⟨_, he, rfl⟩
  unfold pyNext
  refine wpAny_bind (wpAny_attempt (wpAny_callSpecial?_slot (name := Str.ofString "__next__") ty F.slot_enumerate_next ?_))
  refine wpAny_call_entry F.slot_enumerate_next ty F.entry_enumerate_next (next_stop hh he hit hl hx hne fun h' x hk hs => ?_) (F.args_enumerate_next_1 _)
  obtain ⟨o, ho, hc⟩ := hs
  exact wpAny_bind (wpAny_isInstance (T := "StopIteration") (b := true) ⟨o, ho, hc⟩ isSubtype_stop (wpAny_pure (hQ _ hk)))
end
theorem enum_newT (l : Addr) (items : Array Value) (n : Nat) (dct : Option Addr) (sl : Array (Option Value)) :
    Meets (Builtin.«enumerate.__new__» ⟨[.type "enumerate", .ref l], []⟩) (fun _ R s => s.heap.get? l = some { cls := .type "tuple", dict := dct, data := .seq items n, slots := sl } ∧
      R (.ok (.ret (.ref (s.heap.push { cls := .type "tuple_iterator", data := .fields #[.ref l, .int 0 0] }).objs.size)))
        { s with heap := (s.heap.push { cls := .type "tuple_iterator", data := .fields #[.ref l, .int 0 0] }).push { cls := .type "enumerate", data := .fields #[.none, .bool false, .ref s.heap.objs.size, rawInt 0, .none, .none] } }) :=
  .of_wp fun prog w A R s h => by
    obtain ⟨hp, g, d, tk, os⟩ := s
    obtain ⟨hl, h⟩ := h
    have hsub := sub_enumerate
    have hT : Heap.IsTuple (Shared.heap ⟨hp, g, d, tk, os⟩) l items := ⟨_, hl, rfl, n, rfl⟩
    wp_walk using wpAny_loadPart' hl
    refine wpAny_stack_any fun st => wpAny_pure ?_
    split
    · rename_i c _ _ _ _ _
      cases (c == Value.type "enumerate")
      · wp_walk using wpAny_loadPart' hl, wpAny_pyIter_tuple hT
        exact ⟨_, rfl, h⟩
      · wp_walk using wpAny_loadPart' hl, wpAny_pyIter_tuple hT
        exact ⟨_, rfl, h⟩
    · wp_walk using wpAny_loadPart' hl, wpAny_pyIter_tuple hT
      exact ⟨_, rfl, h⟩
section
variable {prog : Program} {w : World} {A : Around} {E : Value → Shared → Prop} {s : Shared}
theorem call_enum {t : Bool} {l : Addr} {items : Array Value} {Q : Value → Shared → Prop} (hl : SqK t s.heap l items)
    (h : ∀ h', IsEnum h' (s.heap.objs.size + 1) s.heap.objs.size 0 .none → ItK t h' s.heap.objs.size l 0 → (∀ b o, s.heap.get? b = some o → h'.get? b = some o) → Q (.ref (s.heap.objs.size + 1)) { s with heap := h' }) :
    wpAny (model prog w) A (call (.type "enumerate") [.ref l]) Q E s := by
  cases t with
  | false => exact call_enumerate_list hl fun h' b1 b2 _ b4 => h h' b1 b2 b4
  | true =>
    obtain ⟨⟨c, dct, dt, sl⟩, ho, hc, n, hd⟩ := hl
    replace hc : c = .type "tuple" := hc
    replace hd : dt = .seq items n := hd
    subst hc hd
    refine callType_new F.called_enumerate (by decide) (F.typeCall_enumerate_1 _) (F.newCall_enumerate_1 _) (fun obj => F.args_object_init_2 obj _) F.entry_enumerate_new (enum_newT l items n dct sl) ⟨ho, ?_⟩
    have z1 : (s.heap.push { cls := .type "tuple_iterator", data := .fields #[.ref l, .int 0 0] }).objs.size = s.heap.objs.size + 1 := Heap.size_push ..
    show _ ∧ _
    rw [z1]
    have he := Heap.get?_push_size (s.heap.push { cls := .type "tuple_iterator", data := .fields #[.ref l, .int 0 0] }) (o := { cls := .type "enumerate", data := .fields #[.none, .bool false, .ref s.heap.objs.size, rawInt 0, .none, .none] }) rfl
    rw [z1] at he
    exact ⟨⟨_, he, rfl⟩, h _ he ⟨_, Heap.get?_push_of_some _ (Heap.get?_push_size _ rfl), rfl, rfl⟩ fun b o x => Heap.get?_push_of_some _ (Heap.get?_push_of_some _ x)⟩
end
def Ite2 (K : PySem.W.Frag) (t : Bool) (a : Addr) : It :=
  ⟨fun i H => ∃ (xs : List V) (x : V), SqV K H t a xs ∧ xs[i]? = some x, fun i H v H' => ∃ T x, v = .ref T ∧ H T = none ∧ H' = upd H T (.tup [.int (i : Nat), x]) ∧ ∀ xs, SqV K H t a xs → xs[i]? = some x, fun i H => ∃ xs : List V, SqV K H t a xs ∧ xs.length ≤ i⟩
theorem turn_e {P : Program} {w : World} {K : PySem.W.Frag} {elts : List Expr} {kk : Nat} {tpos : Pos} (t : Bool) (a e it : Addr) :
    Turn P w K (.Tuple elts kk tpos) (Ite2 K t a) [e, it] e (fun i h => (∃ old, IsEnum h e it ((i : Nat) : Int) old) ∧ ItK t h it a i ∧ e ≠ it) where
  mem := by simp
  obj := fun i h st b hb => by
    obtain ⟨⟨old, he⟩, hi, _⟩ := st
    obtain ⟨o, ho, _, hd⟩ := hi.rec_
    rcases List.mem_cons.mp hb with rfl | hb
    · exact ⟨_, he, fun v q => nomatch q⟩
    · rw [List.mem_singleton.mp hb]
      exact ⟨o, ho, fun v q => by rw [hd] at q; cases q⟩
  keep := fun i h h' st k => by
    obtain ⟨⟨old, he⟩, hi, hne⟩ := st
    exact ⟨⟨old, k e (by simp) _ he⟩, hi.at fun o q => k it (by simp) o q, hne⟩
  item := by
    intro X hP hw hK hc i pins s σ H E I hf st hg
    subst hP hw hK
    obtain ⟨⟨old, he⟩, hit, hne⟩ := st
    obtain ⟨xs, x, hq, hx⟩ := hg
    obtain ⟨its, rv, p, hz⟩ := sqv_ob I hq
    obtain ⟨u, hu, ru⟩ := rv.get hx
    have hel : e < s.heap.objs.size := Heap.lt_size he
    have hil : it < s.heap.objs.size := hit.lt
    refine pyNext_item he hit p (x := u) (by simpa using hu) hne fun g eo it1 tp k1 => ?_
    refine ⟨_, rfl, wpAny_letOwnedTupleGo_enum (s := { s with heap := g, toks := s.toks + 1 }) eo fun g2 e2 sb => ?_⟩
    have tp2 : g2.get? s.heap.objs.size = some { cls := .type "tuple", data := .seq #[.int i s.toks, u] } := (sb.2 _ (Nat.ne_of_gt hel)).trans tp
    have new : ObjOk X.prog X.w (upd H s.heap.objs.size (.tup [.int (i : Nat), x])) g2 s.heap.objs.size (.tup [.int (i : Nat), x]) :=
      ⟨by show 2 ≤ sizeLine; decide, [.int i s.toks, u], .cons ⟨_, rfl⟩ (.cons ru .nil), ⟨_, tp2, rfl, _, rfl⟩⟩
    have I1 : Inv X pins σ (upd H s.heap.objs.size (.tup [.int (i : Nat), x])) { s with heap := g2, toks := s.toks + 1 } :=
      I.turnedNew (ch := [e, it]) (fun b ob hb q => (sb.2 b (fun z => hb (by simp [z]))).trans (k1 b ob (fun z => hb (by simp [z])) (fun z => hb (by simp [z])) q)) hf (Nat.le_refl _) new
    refine ⟨.ref s.heap.objs.size, _, I1, rfl, ⟨_, x, rfl, I.hok.fresh (Nat.le_refl _), rfl, fun ys hy => by rw [sqv_inj I hy hq]; exact hx⟩, ⟨⟨u, ?_⟩, it1.at fun o q => (sb.2 it (Ne.symm hne)).trans q, hne⟩, fun b hb => ?_⟩
    · rw [show ((i + 1 : Nat) : Int) = (i : Int) + 1 by omega]
      exact e2
    · have hb' : b < s.heap.objs.size := by
        rcases List.mem_cons.mp hb with rfl | hb
        · exact hel
        · rw [List.mem_singleton.mp hb]; exact hil
      rw [upd_ne (Nat.ne_of_lt hb')]
      exact (hf b hb).1
  done := by
    intro X hP hw hK hc i pins s σ H E I hf st hg
    subst hP hw hK
    obtain ⟨⟨old, he⟩, hit, hne⟩ := st
    obtain ⟨xs, hq, hx⟩ := hg
    obtain ⟨its, rv, p, hz⟩ := sqv_ob I hq
    have hl := rv.length
    exact pyNext_stop (I.ok.hd hc) he hit p (by simp; omega) hne fun g hk => ⟨rfl, I.turnedL (t' := s.toks) (ch := [e, it]) (fun b o hb q => hk b o (fun z => hb (by simp [z])) (fun z => hb (by simp [z])) q) hf⟩
  self := fun A i s Q E st h => let ⟨⟨_, he⟩, _⟩ := st; wpAny_pyIter_enum he h
def iEn (K : PySem.W.Frag) (ta : TA) : TI := fun σ H R => ta σ H fun vs H1 => ∃ t a xs, vs = [.ref a] ∧ SqV K H1 t a xs ∧ R (Ite2 K t a) H1
section
variable {X : Cx}
/-- for i, x in enumerate(xs), a list or a tuple -/
theorem pi_enumS {e : Expr} {ta : TA} {p pos tpos : Pos} {elts : List Expr} {kk : Nat} (hg : Gl X "enumerate") (hm : X.mg "enumerate" = none) (ha : PA X [e] ta)
    (hs : starEach [e] X.env = (false, eval e X.env) :: starEach [] X.env := by rfl) (hpl : (backTo pos (starEach [] X.env)).any (·.1) = false := by rfl) :
    PI X (.Tuple elts kk tpos) (.Call (.Name "enumerate" p) [e] [] pos) (iEn X.K ta) := by
  refine ⟨fun pins s σ H R I h => ?_⟩
  refine Call_ (ld_blt I hg hm PyProof.Rows.boot_enumerate (PyProof.Rows.callWith_type1 (thn (ha.run pos pins s σ H _ I h) fun us s1 ⟨vs, H1, I1, r1, q1⟩ => ?_) hs hpl))
  obtain ⟨t, a, xs, rfl, hq, q⟩ := q1
  obtain ⟨u, rfl, ru⟩ := vals1 r1
  cases (show u = Value.ref a from ru)
  obtain ⟨its, rv, p', hz⟩ := sqv_ob I1 hq
  refine call_enum p' fun g he hit hk => wpAny_pyIter_enum he ?_
  refine ⟨s1.heap.objs.size + 1, [s1.heap.objs.size + 1, s1.heap.objs.size], _, _, H1, rfl, I1.kept (t' := s1.toks) hk, turn_e t a (s1.heap.objs.size + 1) s1.heap.objs.size, ⟨⟨.none, he⟩, hit, Nat.succ_ne_self _⟩, fun b hb => ?_, q⟩
  have hle : s1.heap.objs.size ≤ b := by
    rcases List.mem_cons.mp hb with rfl | hb
    · exact Nat.le_succ _
    · rw [List.mem_singleton.mp hb]; exact Nat.le_refl _
  exact I1.fpOk hle (I1.hok.fresh hle)
end
end En
set_option Elab.async false
set_option linter.all false
set_option maxRecDepth 100000
set_option maxHeartbeats 1000000
namespace Gd
open PySem PySem.Spec PyProof.Rows L2
def Still (A : Around) : Prop := A.guards = some []
structure FnG (P : Program) (w : World) (K : PySem.W.Frag) (mg : Str → Option Value) (base : Heap) (CX : CXT) (k : Nat) (f : Addr) (fd : FuncData) (ps : List Str) (sp : Sp) : Prop where
  len : ∀ vs H Q E, sp vs H Q E → vs.length = ps.length
  run : ∀ (A : Around) (outer : List Env) (s : Shared) (H : Hp) (ar : Args) (us : List Value) (vs : List V) (Q : VK) (E : XK), Still A → Room k A → Env0 P w K mg base A outer s H → BindsTo s fd ar (ps.zip us) → Vals vs us → sp vs H Q E →
    codeAny (model P w) A (.call (.ref f) ar) (CR CX outer P w H s Q E) s
section
variable {P : Program} {w : World} {K : PySem.W.Frag} {mg : Str → Option Value} {base : Heap}
theorem fnG_of {CX : CXT} {k : Nat} {f : Addr} {nm qual : Str} {pa : Arguments} {bd : List Stmt} {sc : Scope} {dV kV doc pm cdv ct oc : Value} {an od : Option Addr}
    {osl : Array (Option Value)} {N ps : List Str} {sp : Sp} (hlk : K.lookup f = some ⟨oc, od, .func (PySem.W.fnOf nm qual pa bd sc dV kV doc pm an cdv ct), osl⟩) (hco : PySem.W.codeIn K cdv qual = true) (S : FnScope N ps sc)
    (len : ∀ vs H Q E, sp vs H Q E → vs.length = ps.length)
    (hb : ∀ (A : Around) (outer : List Env) (s : Shared) (H : Hp) (vs : List V) (Q : VK) (E : XK), Still A → Room k (A.deeper (envOfC qual sc s.heap.objs.size f cdv)) → sp vs H Q E →
      ∃ t, PSs (cxOf CX P w K mg base N qual sc f cdv A outer s H E) bd t ∧ t { nx := fun _ H2 => Q .non H2, rt := Q } (start N vs) H) :
    FnG P w K mg base CX (k + 1) f (PySem.W.fnOf nm qual pa bd sc dV kV doc pm an cdv ct) ps sp := by
  refine ⟨len, fun A outer s H ar us vs Q E hst room e0 bind rv hsp => ?_⟩
  have hlen := len vs H Q E hsp
  have inK : K.In s.heap := e0.mod.kin.keeps fun b o e => (e0.bs b o e).1
  have noLim : s.heap.NoLimit := e0.mod.nolimit.keeps fun b o e => (e0.bs b o e).1
  have kinds : ∀ y ∈ ps.zip us, sc.names.lookup y.1 = some .local ∨ (sc.names.lookup y.1 = some .cell ∧ ((cellsFrom (s.heap.objs.size + 1) sc.names []).lookup y.1).isSome = true) := by
    rintro ⟨n, v⟩ hy
    rcases S.par n (List.of_mem_zip hy).1 with q | q
    · exact .inl q
    · exact .inr ⟨q, PySem.W.cellsFrom_some _ _ _ (.inl q)⟩
  refine codeAny_call_function room.depth (inK f _ hlk) rfl S.co S.gen rfl (PySem.W.codeRec_of inK hco) (bind _ _ _ _ ?_)
  refine wpAny_newFunctionEnv_cells S.kind kinds fun env henv s2 inc => ?_
  subst henv
  refine ⟨noLim.keeps inc.toInCall.keep, codeAny_func ?_⟩
  obtain ⟨t, der, rd⟩ := hb A outer s H vs Q E hst (room.deeper _) hsp
  have J0 : Inv (cxOf CX P w K mg base N qual sc f cdv A outer s H E) [] (start N vs) H s2 := inv_start S room.hd e0 hlen rv inc
  refine wpAny_mono (der.run [] s2 (start N vs) H _ J0 rd) (fun fl s3 hfl => ?_) fun e s3 he => he
  have out : ∀ {σ2 : L2.St} {H2 : Hp} {v : V} {u : Value}, Inv (cxOf CX P w K mg base N qual sc f cdv A outer s H E) [] σ2 H2 s3 → RelV v u → Q v H2 → CE outer P w H s Q u s3 := by
    intro σ2 H2 v u J r q
    exact ⟨v, H2, J.os, J.bare, J.base, J.hok, r, q⟩
  cases fl with
  | ret u =>
    obtain ⟨v, σ2, H2, J, r, q⟩ := hfl
    exact out J r q
  | next =>
    obtain ⟨σ2, H2, J, q⟩ := hfl
    exact out (v := V.non) (u := Value.none) J rfl q
  | brk =>
    obtain ⟨_, _, _, no⟩ := hfl
    exact no.elim
  | cont =>
    obtain ⟨_, _, _, no⟩ := hfl
    exact no.elim
theorem okG {x qual : Str} {st : Stmt} {f : Addr} {fd : FuncData} {N ps : List Str} {k : Nat} {sp : Sp} (F : Fun K x qual st f fd) (S : FnScope N ps (defScope st)) (len : ∀ vs H Q E, sp vs H Q E → vs.length = ps.length)
    (hb : ∀ (cdv : Value) (A : Around) (outer : List Env) (s : Shared) (H : Hp) (vs : List V) (Q : VK) (E : XK), Still A → Room k (A.deeper (envOfC qual (defScope st) s.heap.objs.size f cdv)) → sp vs H Q E →
      ∃ t, PSs (cxOf CX0 P w K mg base N qual (defScope st) f cdv A outer s H E).nox (defBody st) t ∧ t { nx := fun _ H2 => Q .non H2, rt := Q } (start N vs) H) : FnG P w K mg base CX0 (k + 1) f fd ps sp := by
  obtain ⟨oc, od, kV, doc, pm, an, cdv, ct, osl, rfl, hlk, hco⟩ := F.ex
  refine fnG_of hlk hco S len fun A outer s H vs Q E hst room hsp => ?_
  obtain ⟨t, der, rd⟩ := hb cdv A outer s H vs Q E hst room hsp
  exact ⟨t, der.nox, rd⟩
end
section
variable {X : Cx} {CX : CXT} {k : Nat} {f : Addr} {fd : FuncData} {ps : List Str} {sp : Sp} {ds : List Value} {dvs : List V} {E : XK} {x : Str} {e : Expr} {es : List Expr} {t : TA} {p pos : Pos}
theorem runG {pins : List (Addr × Obj)} {σ : L2.St} {H : Hp} {s : Shared} {Q : VK} {us : List Value} {vs : List V} (F : FnG X.prog X.w X.K X.mg X.base CX k f fd ps sp) (hst : Still X.A) (room : Room k X.A) (hb : Binds X.K fd ps ds) (hd : Vals dvs ds) (hx : Passes CX X E)
    (I : Inv X pins σ H s) (rv : Vals vs us) (h : sp (vs ++ dvs) H Q E) : wpAny (model X.prog X.w) X.A (call (.ref f) us) (EP X pins σ Q) X.xe s := by
  have both : Vals (vs ++ dvs) (us ++ ds) := rv.append hd
  have hl : (us ++ ds).length = ps.length := by rw [← both.length]; exact F.len _ _ _ _ h
  refine wpAny_call (codeAny_mono (F.run X.A X.stack s H ⟨us, []⟩ (us ++ ds) (vs ++ dvs) Q E hst room I.env0 (hb s us I.kIn hl) both h) fun r s2 hq => ?_)
  cases r with
  | error er => exact hx pins σ H s er s2 I hq
  | ok fl =>
    cases fl with
    | ret u => exact I.after hq
    | next => exact (show False from hq).elim
    | brk => exact (show False from hq).elim
    | cont => exact (show False from hq).elim
theorem pe_callG (F : FnG X.prog X.w X.K X.mg X.base CX k f fd ps sp) (hst : Still X.A) (room : Room k X.A) (hg : Gl X x) (hm : X.mg x = some (.ref f)) (hk : PySem.W.keepIn X.K (.ref f) = true) (hb : Binds X.K fd ps ds) (hd : Vals dvs ds) (hx : Passes CX X E)
    (ha : PA X (e :: es) t) (hdb : (x == ("__debug__" : Str)) = false := by decide) (he : starEach (e :: es) X.env = (false, eval e X.env) :: starEach es X.env := by rfl) (hpl : (backTo pos (starEach es X.env)).any (·.1) = false := by rfl) :
    PE X (.Call (.Name x p) (e :: es) [] pos) (tCall sp dvs E t) := by
  refine ⟨fun pins s σ H Q I h => wpAny_Call_Name_kw (ld_glob I hg hm ?_ hdb)⟩
  refine PySem.W.callWith_K (h₀ := X.base) I.ok.mod.kin hk (thn (ha.run pos pins s σ H _ I h) fun us s1 ⟨vs, H1, I1, rv, q⟩ => ⟨I1.kIn, ?_⟩) he hpl
  exact runG F hst room hb hd hx I1 rv q
end
theorem lawG {P : Program} {w : World} {K : PySem.W.Frag} {mg mb : Str → Option Value} {k : Nat} {fa a : Addr} {fd : FuncData} {x : Str} {sp : Sp} {s₁ : Shared} {vs : List Value} {ns : List Int}
    (inK : K.In s₁.heap) (hns : s₁.heap.Ns mainGlobals mg) (hbn : s₁.heap.Ns builtinsNs mb) (hbb : ∀ x : Str, x ≠ "__name__" → mb x = bootBuiltins x) (hlim : s₁.heap.NoLimit) (hgen : s₁.gens = #[])
    (ha : s₁.heap.get? a = some { cls := .type "list", data := .seq vs.toArray }) (hi : IntsAre vs ns) (hl : ns.length ≤ sizeLine) (room : Room k callerA)
    (F : ∀ base : Heap, K.In base → base.Ns mainGlobals mg → FnG P w K mg base CX0 k fa fd [x] sp) (hbind : ∀ (s : Shared) (u : Value), BindsTo s fd ⟨[u], []⟩ [(x, u)])
    (hsp : ∀ H : Hp, Only H → SqL K H a (ns.map V.int) → sp [.ref a] H (fun v _ => v = .bl true) fun _ _ _ => False) :
    codeAny (model P w) callerA (.call (.ref fa) ⟨[.ref a], []⟩) (fun r s2 => r = .ok (.ret (.bool true)) ∧ OldK s₁.heap s2.heap ∧ s2.os = s₁.os ∧ AllBare s2.gens) s₁ := by
  have rv := vals_ints hi
  have lV := hi.length
  have main : ∀ H : Hp, Only H → SqL K H a (ns.map V.int) → HOk P w H s₁.heap → (∀ b, H b ≠ none → b = a) → (H a ≠ none → K.lookup a = none) →
      codeAny (model P w) callerA (.call (.ref fa) ⟨[.ref a], []⟩) (fun r s2 => r = .ok (.ret (.bool true)) ∧ OldK s₁.heap s2.heap ∧ s2.os = s₁.os ∧ AllBare s2.gens) s₁ := by
    intro H only sq hok justA notK
    have isA : ∀ {b : Addr} {u : HO}, H b = some u → b = a := fun {b u} q => justA b (by rw [q]; simp)
    have dictFree : ∀ {b : Addr} {o : Obj} {es : Array DictEntry} {ep : Nat}, s₁.heap.get? b = some o → o.data = .dict es ep → H b = none := by
      intro b o es ep e d
      cases q : H b with
      | none => rfl
      | some u =>
        have eb := isA q
        subst eb
        rw [ha] at e; cases e
        have bad : Data.seq vs.toArray _ = Data.dict es ep := d
        cases bad
    have under : ∀ {b : Addr} {m : Str → Option Value}, s₁.heap.Ns b m → (hidT s₁.heap H).Ns b m := by
      rintro b m ⟨o, es, ep, e, d, more⟩
      exact ⟨o, es, ep, hidT_get e (dictFree e d), d, more⟩
    have inB : K.In (hidT s₁.heap H) := by
      intro b o e
      refine hidT_get (inK b o e) ?_
      cases q : H b with
      | none => rfl
      | some u =>
        have eb := isA q
        subst eb
        rw [notK (by rw [q]; simp)] at e; cases e
    have modB : Mod K mg (hidT s₁.heap H) := by
      obtain ⟨mc, c1, c2⟩ := hlim
      exact ⟨inB, under hns, ⟨mb, under hbn, hbb⟩, mc, under c1, c2⟩
    have env0 : Env0 P w K mg (hidT s₁.heap H) callerA [] s₁ H := by
      refine ⟨rfl, modB, fun b o e => of_hidT e, Nat.le_of_eq (hidT_size _ _), trivial, fun b hb => ?_, hok, .of_eq hgen⟩
      cases (show b ∈ ([] : List Addr) from hb)
    refine codeAny_mono ((F _ inB (under hns)).run callerA [] s₁ H ⟨[.ref a], []⟩ [.ref a] [.ref a] _ _ rfl room env0 (hbind s₁ (.ref a)) (.cons rfl .nil) (hsp H only sq)) fun r s2 h => ?_
    cases r with
    | error e => exact (show False from h).elim
    | ok fl =>
      cases fl with
      | next => exact (show False from h).elim
      | brk => exact (show False from h).elim
      | cont => exact (show False from h).elim
      | ret u =>
        obtain ⟨v, H2, sameOs, bareG, un, hok2, ru, qv⟩ := h
        have ev : v = .bl true := qv
        subst ev
        have eu : u = Value.bool true := ru
        subst eu
        refine ⟨rfl, OldK.of_keep ?_, sameOs, bareG⟩
        intro b o e
        cases q : H b with
        | none =>
          refine un.keep b o e q (fun z => ?_) (by simp)
          cases (show b ∈ ([] : List Addr) from z)
        | some u2 =>
          rcases only b with z | ⟨ob, xs, z⟩
          · rw [q] at z; cases z
          · have z2 := un.frzs b ob _ z
            have f1 := (hok b _ z).1
            have f2 := (hok2 b _ z2).1
            rw [e] at f1; cases f1
            exact f2
  cases hk : K.lookup a with
  | some o =>
    have e := inK a o hk
    rw [ha] at e
    cases e
    refine main (fun _ => none) (fun _ => .inl rfl) (.inr ⟨_, vs.toArray, _, hk, rfl, rfl, rfl, ?_, by simpa using rv⟩) (fun b u z => by cases (show (none : Option HO) = some u from z)) (fun b z => (z rfl).elim) fun z => (z rfl).elim
    rw [List.size_toArray, lV]
    exact hl
  | none =>
    have at_ : ∀ b, b = a → (if b = a then some (HO.frz { cls := .type "list", data := .seq vs.toArray } (.lst (ns.map V.int))) else none) = some (HO.frz { cls := .type "list", data := .seq vs.toArray } (.lst (ns.map V.int))) := fun b e => if_pos e
    have off : ∀ b, ¬ b = a → (if b = a then some (HO.frz { cls := .type "list", data := .seq vs.toArray } (.lst (ns.map V.int))) else none) = none := fun b e => if_neg e
    refine main (fun b => if b = a then some (.frz { cls := .type "list", data := .seq vs.toArray } (.lst (ns.map V.int))) else none) (fun b => ?_) (.inl (.inr ⟨_, at_ a rfl⟩)) (fun b u z => ?_) (fun b z => ?_) fun _ => hk
    · by_cases hb : b = a
      · exact .inr ⟨_, _, at_ b hb⟩
      · exact .inl (off b hb)
    · by_cases hb : b = a
      · have z2 := (at_ b hb).symm.trans z
        cases z2
        subst hb
        exact ⟨ha, by rw [List.length_map]; exact hl, vs, _, rv, ha⟩
      · have z2 := (off b hb).symm.trans z
        cases z2
    · by_cases hb : b = a
      · exact hb
      · exact (z (off b hb)).elim
theorem walkG {l : PySem.W.OpenLaw} {n k : Nat} {q : Program} {loose : List Str} {XP : (Str → Option Value) → Heap → Prop} {YP : World → Heap → Prop} {d : DefRec} {K : Params → PySem.W.Frag} {sp : World → Sp} {x : Str}
    (hn : l.most = some n) (hn2 : n ≤ sizeLine) (hdf : d.params.defaults = []) (room : Room k callerA) (hY : ∀ (w : World) (h : Heap), YP w h → (K w.params).In h)
    (F : ∀ (w : World) (mg : Str → Option Value) (fa : Addr) (h : Heap), (K w.params).In h → h.Ns mainGlobals mg → mg d.name = some (.ref fa) →
      ∃ fd : FuncData, (∀ (s : Shared) (u : Value), BindsTo s fd ⟨[u], []⟩ [(x, u)]) ∧
        ∀ base : Heap, (K w.params).In base → base.Ns mainGlobals mg → FnG l.prog w (K w.params) mg base CX0 k fa fd [x] (sp w))
    (hsp : ∀ (w : World) (H : Hp) (a : Addr) (ns : List Int), ns.length ≤ n → Only H → SqL (K w.params) H a (ns.map V.int) → sp w [.ref a] H (fun v _ => v = .bl true) fun _ _ _ => False) :
    PySem.W.WalkO q loose XP YP l.row.toRowW d [] (fun f vs => PySem.call f vs) := by
  refine Att.attach_call hn hdf fun w s₀ s₁ mg mb fa o pm cd doc a vs ns G Y ho hd hcd hmg hobj hints hlen hgen => ?_
  have inK := hY w s₁.heap Y
  obtain ⟨fd, hb, hF⟩ := F w mg fa s₁.heap inK G.T.g hmg
  exact lawG inK G.T.g G.T.b G.T.builtins G.T.nolimit hgen hobj hints (Nat.le_trans hlen hn2) room hF hb fun H hO hS => hsp w H a ns hlen hO hS
end Gd
set_option Elab.async false
set_option linter.all false
set_option maxRecDepth 100000
set_option maxHeartbeats 1000000
namespace Rp
open PySem PySem.Spec PyProof.Rows L2 Gd
mutual
inductive PyV (H : Hp) : V → PyData → Prop
  | non : PyV H .non .none
  | bl (b : Bool) : PyV H (.bl b) (.bool b)
  | int (i : Int) : PyV H (.int i) (.int i)
  | str (x : Str) : PyV H (.str x) (.str x)
  | lst {a : Addr} {xs : List V} {ds : List PyData} : H a = some (.lst xs) → PyVs H xs ds → PyV H (.ref a) (.list ds)
  | tup {a : Addr} {xs : List V} {ds : List PyData} : H a = some (.tup xs) → PyVs H xs ds → PyV H (.ref a) (.tuple ds)
inductive PyVs (H : Hp) : List V → List PyData → Prop
  | nil : PyVs H [] []
  | cons {x : V} {xs : List V} {d : PyData} {ds : List PyData} : PyV H x d → PyVs H xs ds → PyVs H (x :: xs) (d :: ds)
end
section
variable {P : Program} {w : World} {H : Hp} {h : Heap}
mutual
theorem PyV.reads (ok : HOk P w H h) : ∀ {v : V} {d : PyData} {u : Value}, PyV H v d → RelV v u → ∃ as, Reads h u d as
  | _, _, _, .non, r => by cases (show _ = Value.none from r); exact ⟨_, .none⟩
  | _, _, _, .bl b, r => by cases (show _ = Value.bool b from r); exact ⟨_, .bool b⟩
  | _, _, _, .int i, r => by obtain ⟨t, rfl⟩ := r; exact ⟨_, .int i t⟩
  | _, _, _, .str x, r => by obtain ⟨t, rfl⟩ := r; exact ⟨_, .str x t⟩
  | _, _, _, .lst (a := a) e q, r => by
    cases (show _ = Value.ref a from r)
    obtain ⟨_, its, n, rv, o⟩ := ok a _ e
    obtain ⟨as, ra⟩ := PyVs.reads ok q rv
    exact ⟨_, .list o rfl rfl ra⟩
  | _, _, _, .tup (a := a) e q, r => by
    cases (show _ = Value.ref a from r)
    obtain ⟨_, its, rv, o, o1, o2, n, o3⟩ := ok a _ e
    obtain ⟨as, ra⟩ := PyVs.reads ok q rv
    exact ⟨_, .tuple o1 o2 o3 ra⟩
theorem PyVs.reads (ok : HOk P w H h) : ∀ {vs : List V} {ds : List PyData} {us : List Value}, PyVs H vs ds → Vals vs us → ∃ as, ReadsAll h us ds as
  | _, _, _, .nil, .nil => ⟨_, .nil⟩
  | _, _, _, .cons q qs, .cons r rs => by
    obtain ⟨as, h1⟩ := PyV.reads ok q r
    obtain ⟨bs, h2⟩ := PyVs.reads ok qs rs
    exact ⟨_, .cons h1 h2⟩
end
end
mutual
theorem PyV.noDict {H : Hp} : ∀ {v : V} {d : PyData}, PyV H v d → d.hasDict = false
  | _, _, .non => by simp only [PyData.hasDict]
  | _, _, .bl _ => by simp only [PyData.hasDict]
  | _, _, .int _ => by simp only [PyData.hasDict]
  | _, _, .str _ => by simp only [PyData.hasDict]
  | _, _, .lst _ q => by simp only [PyData.hasDict]; exact PyVs.noDict q
  | _, _, .tup _ q => by simp only [PyData.hasDict]; exact PyVs.noDict q
theorem PyVs.noDict {H : Hp} : ∀ {vs : List V} {ds : List PyData}, PyVs H vs ds → PyData.hasDictAll ds = false
  | _, _, .nil => by simp only [PyData.hasDictAll]
  | _, _, .cons q qs => by simp only [PyData.hasDictAll, PyV.noDict q, PyVs.noDict qs, Bool.or_self]
end
mutual
theorem PyV.mono {H H' : Hp} (s : Same H H') : ∀ {v : V} {d : PyData}, PyV H v d → PyV H' v d
  | _, _, .non => .non
  | _, _, .bl b => .bl b
  | _, _, .int i => .int i
  | _, _, .str x => .str x
  | _, _, .lst e q => .lst (s _ _ e) (PyVs.mono s q)
  | _, _, .tup e q => .tup (s _ _ e) (PyVs.mono s q)
theorem PyVs.mono {H H' : Hp} (s : Same H H') : ∀ {vs : List V} {ds : List PyData}, PyVs H vs ds → PyVs H' vs ds
  | _, _, .nil => .nil
  | _, _, .cons q qs => .cons (PyV.mono s q) (PyVs.mono s qs)
end
/-- a dict of ints and texts to scalars -/
def scalD : V → Option PyData
  | .non => some .none
  | .bl b => some (.bool b)
  | .int i => some (.int i)
  | .str x => some (.str x)
  | _ => none
/-- the size of what repr gives -/
structure Fit (d : PyData) : Prop where
  sh : d.showable = true
  dp : d.depth ≤ 20
  sz : d.shown.length ≤ sizeLine
def rRep : List V → Hp → VK → Prop := fun xs H Q => ∃ v d, xs = [v] ∧ PyV H v d ∧ Fit d ∧ Q (.str d.shown) H
section
variable {X : Cx} {k : Nat}
theorem call_rep (hst : Still X.A) (room : Room k X.A) : CallR X (.builtin "repr") rRep := by
  intro pins s σ H xs us Q I r h
  obtain ⟨v, d, rfl, pv, ⟨sh, dp, sz⟩, q⟩ := h
  obtain ⟨u, rfl, rv⟩ := vals1 r
  cases pv with
  | non =>
    cases (show u = Value.none from rv)
    simp only [PyData.shown] at q
    exact PySem.P.repr_of_none ⟨.str _, H, I.tok _, ⟨_, rfl⟩, q⟩
  | bl b =>
    cases (show u = Value.bool b from rv)
    simp only [PyData.shown] at q
    exact PySem.P.repr_of_bool ⟨.str _, H, I.tok _, ⟨_, rfl⟩, q⟩
  | int i =>
    obtain ⟨t, rfl⟩ := rv
    simp only [PyData.shown] at q
    simp only [PyData.showable, decide_eq_true_eq] at sh
    exact PySem.P.repr_of_int sh ⟨.str _, H, I.tok _, ⟨_, rfl⟩, q⟩
  | str x =>
    obtain ⟨t, rfl⟩ := rv
    simp only [PyData.shown] at q sz
    exact PySem.P.repr_of_str ⟨.str _, H, I.tok _, ⟨_, rfl⟩, q⟩ sz
  | lst e p =>
    obtain ⟨as, rd⟩ := PyV.reads I.hok (PyV.lst e p) rv
    cases (show u = Value.ref _ from rv)
    refine repr_of_reads' rd sh (PyData.noDict_hsm (PyV.noDict (PyV.lst e p))) hst ?_ (fun _ _ e => e) (fun h2 t tk kp => ?_) sz
    · have := room.un
      omega
    · exact ⟨.str _, H, I.kept (t' := tk) kp, ⟨_, rfl⟩, q⟩
  | tup e p =>
    obtain ⟨as, rd⟩ := PyV.reads I.hok (PyV.tup e p) rv
    cases (show u = Value.ref _ from rv)
    refine repr_of_reads' rd sh (PyData.noDict_hsm (PyV.noDict (PyV.tup e p))) hst ?_ (fun _ _ e => e) (fun h2 t tk kp => ?_) sz
    · have := room.un
      omega
    · exact ⟨.str _, H, I.kept (t' := tk) kp, ⟨_, rfl⟩, q⟩
end
def keyD : Key → PyData
  | .inl i => .int i
  | .inr x => .str x
/-- a dict with scalars alone -/
inductive Flat : List (Key × V) → List (PyData × PyData) → Prop
  | nil : Flat [] []
  | cons {k : Key} {v : V} {d : PyData} {kvs : List (Key × V)} {r : List (PyData × PyData)} : scalD v = some d → Flat kvs r → Flat ((k, v) :: kvs) ((keyD k, d) :: r)
theorem read_key {h : Heap} {k : Key} {u : Value} (e : keyIs k u = true) : Reads h u (keyD k) [] := by
  rcases keyIs_shape e with ⟨i, t, rfl, rfl⟩ | ⟨x, t, rfl, rfl⟩
  · exact .int i t
  · exact .str x t
theorem read_scal {h : Heap} {v : V} {u : Value} {d : PyData} (e : scalD v = some d) (r : RelV v u) : Reads h u d [] := by
  cases v with
  | non => cases e; cases (show u = Value.none from r); exact .none
  | bl b => cases e; cases (show u = Value.bool b from r); exact .bool b
  | int i => cases e; obtain ⟨t, rfl⟩ := r; exact .int i t
  | str x => cases e; obtain ⟨t, rfl⟩ := r; exact .str x t
  | byt _ => cases e
  | flt _ => cases e
  | ref _ => cases e
  | ty _ => cases e
theorem flat_reads {P : Program} {w : World} {h : Heap} : ∀ {es : List DictEntry} {vs : List (Key × Value)} {kvs : List (Key × V)} {r : List (PyData × PyData)}, Pairs (mixKind P w) es vs → KV kvs vs → Flat kvs r →
    ReadsAll h (es.map (·.key)) (r.map (·.1)) [] ∧ ReadsAll h (es.map (·.val)) (r.map (·.2)) []
  | _, _, _, _, .nil, .nil, .nil => ⟨.nil, .nil⟩
  | _, _, _, _, .cons hk hv hp, .cons hr hrs, .cons hs hf => by
    obtain ⟨a1, a2⟩ := flat_reads (h := h) hp hrs hf
    obtain ⟨e1, e2⟩ := hr
    subst e1
    exact ⟨ReadsAll.cons (as := []) (bs := []) (read_key hk) a1, ReadsAll.cons (as := []) (bs := []) (read_scal hs (by show RelV _ (DictEntry.val _); rw [hv]; exact e2)) a2⟩
def rRepD : List V → Hp → VK → Prop := fun xs H Q => ∃ a kvs r, xs = [.ref a] ∧ H a = some (.dK kvs) ∧ Flat kvs r ∧ Fit (.dict r) ∧ Q (.str (PyData.dict r).shown) H
/-- repr of what is data of any depth, or a dict of scalars -/
def rRepA : List V → Hp → VK → Prop := fun xs H Q => rRep xs H Q ∨ rRepD xs H Q
section
variable {X : Cx} {k : Nat}
theorem call_repA (hst : Still X.A) (room : Room k X.A) : CallR X (.builtin "repr") rRepA := by
  intro pins s σ H xs us Q I r h
  rcases h with h | h
  · exact call_rep hst room pins s σ H xs us Q I r h
  · obtain ⟨a, kvs, ds, rfl, ha, hf, ⟨sh, dp, sz⟩, q⟩ := h
    obtain ⟨u, rfl, rv⟩ := vals1 r
    cases (show u = Value.ref a from rv)
    obtain ⟨_, ns, vs, kv, o, es, ep, ho, ex, hd, _, hp, _⟩ := I.hok a _ ha
    obtain ⟨r1, r2⟩ := flat_reads (h := s.heap) hp kv hf
    refine repr_of_reads' (Reads.dict ho ex.1 hd r1 r2) sh (fun _ hm => ?_) hst ?_ (fun _ _ e => e) (fun h2 t tk kp => ?_) sz
    · have e : sysModules = a := by simpa using hm
      rw [← e] at ns
      simp at ns
    · have := room.un
      omega
    · exact ⟨.str _, H, I.kept (t' := tk) kp, ⟨_, rfl⟩, q⟩
end
end Rp
set_option Elab.async false
set_option linter.all false
set_option maxRecDepth 100000
set_option maxHeartbeats 1000000
namespace Dn
open PySem PySem.Spec PyProof.Rows L2 Gd Zn Rp
/-- the pot: two counts -/
def PotOk (H : Hp) (p : Addr) : Prop := ∃ a b : Int, H p = some (.lst [.int a, .int b]) ∧ 0 ≤ a ∧ 0 ≤ b ∧ b < 2 ^ 32
/-- all but the pot stays; the pot stays a pot -/
structure RX (p : Option Addr) (H H' : Hp) : Prop where
  keep : ∀ c o, p ≠ some c → H c = some o → H' c = some o
  pot : ∀ a, p = some a → PotOk H a → PotOk H' a
theorem RX.refl {p : Option Addr} (H : Hp) : RX p H H := ⟨fun _ _ _ e => e, fun _ _ e => e⟩
theorem RX.trans {p : Option Addr} {H H1 H2 : Hp} (a : RX p H H1) (b : RX p H1 H2) : RX p H H2 := ⟨fun c o n e => b.keep c o n (a.keep c o n e), fun q e k => b.pot q e (a.pot q e k)⟩
theorem RX.of {p : Option Addr} {H H' : Hp} (s : Same H H') : RX p H H' := ⟨fun c o _ e => s c o e, fun a _ ⟨x, y, e, r⟩ => ⟨x, y, s a _ e, r⟩⟩
theorem RX.same {H H' : Hp} (s : RX none H H') : Same H H' := fun c o e => s.keep c o (by simp) e
theorem same_new {H : Hp} {p : Addr} {o : HO} (h : H p = none) : Same H (upd H p o) := fun b x e => by rw [upd_ne (ne_of_none e h)]; exact e
theorem RX.new {p : Option Addr} {H : Hp} {a : Addr} {o : HO} (h : H a = none) : RX p H (upd H a o) := .of (same_new h)
theorem PotOk.some_ {H : Hp} {p : Addr} (h : PotOk H p) : H p ≠ none := by
  obtain ⟨a, b, e, _⟩ := h
  rw [e]
  simp
/-- what H did not know may change -/
theorem RX.mut {p : Option Addr} {H H' : Hp} {a : Addr} {o : HO} (s : RX p H H') (h : H a = none) (hp : ∀ q, p = some q → PotOk H q) : RX p H (upd H' a o) := by
  refine ⟨fun c u n e => ?_, fun q e k => ?_⟩
  · rw [upd_ne (ne_of_none e h)]
    exact s.keep c u n e
  · have nq : q ≠ a := fun z => by subst z; exact (hp q e).some_ h
    obtain ⟨x, y, e1, r⟩ := s.pot q e k
    exact ⟨x, y, by rw [upd_ne nq]; exact e1, r⟩
/-- the pot is there, where there is one -/
def Has (p : Option Addr) (H : Hp) : Prop := ∀ q, p = some q → PotOk H q
theorem Has.to {p : Option Addr} {H H' : Hp} (h : Has p H) (s : RX p H H') : Has p H' := fun q e => s.pot q e (h q e)
theorem has_none {H : Hp} : Has none H := fun q e => by cases e
theorem Has.ne {p : Option Addr} {H : Hp} (h : Has p H) {a : Addr} (n : H a = none) : p ≠ some a := fun e => (h a e).some_ n
/-- the heap without the pot -/
def hid (p : Option Addr) (H : Hp) : Hp := fun b => if p = some b then none else H b
theorem hid_at {p : Option Addr} {H : Hp} {a : Addr} (n : p ≠ some a) : hid p H a = H a := if_neg n
theorem hid_le {p : Option Addr} {H : Hp} : Same (hid p H) H := fun b o e => by
  unfold hid at e
  split at e
  · cases e
  · exact e
theorem RX.hid {p : Option Addr} {H H' : Hp} (s : RX p H H') : Same (hid p H) (hid p H') := fun b o e => by
  unfold Dn.hid at e ⊢
  split
  · rename_i q; rw [if_pos q] at e; cases e
  · rename_i q; rw [if_neg q] at e; exact s.keep b o q e
/-- what a comprehension asks of its iterator -/
def LcB (g : TG) (tt : TT) (te : TE) (vs : List Nat) (σ : L2.St) (Q : VK) (J : It) (H1 : Hp) : Prop := ∀ D, H1 D = none → ∃ W : Nat → Nat → Hp → Prop, (∃ m, W 0 m (upd H1 D (.lst []))) ∧ ∀ i m H, W i m H →
  (J.stop i H ∧ Q (.ref D) H) ∨ (J.go i H ∧ ∃ Nx : Hp → Prop, (∀ H', Nx H' → ∃ m', m' < m ∧ W (i + 1) m' H') ∧ ∀ x H', J.yld i H x H' → g x (wipe σ vs) H' fun σ2 H2 => wipe σ2 vs = wipe σ vs ∧ tt σ2 H2 fun b H3 =>
    if b = true then te σ2 H3 fun y H4 => ∃ acc, H4 D = some (.lst acc) ∧ acc.length < sizeLine ∧ Nx (upd H4 D (.lst (acc ++ [y]))) else Nx H3)
/-- [e for .. in J] where the elements are scalars that El tells -/
theorem lc_el {p : Option Addr} {J : It} {g : TG} {te : TE} {vs : List Nat} {σ : L2.St} {H1 : Hp} {Q : VK} (n : Nat) (El : Nat → V → Prop) (hp : Has p H1) (hn : n ≤ 1000)
    (hgo : ∀ i H, i < n → RX p H1 H → J.go i H) (hst : ∀ H, RX p H1 H → J.stop n H)
    (hs : ∀ i x H H' (C : VK), i < n → RX p H1 H → Has p H → J.yld i H x H' → (∀ y H4, RX p H H4 → El i y → C y H4) → g x (wipe σ vs) H' fun σ2 H2 => wipe σ2 vs = wipe σ vs ∧ te σ2 H2 C)
    (hd : ∀ D H xs, H1 D = none → RX p H1 H → H D = some (.lst xs) → xs.length = n → (∀ i v, xs[i]? = some v → El i v) → Q (.ref D) H) :
    LcB g tYes te vs σ Q J H1 := by
  intro D nD
  have nP : p ≠ some D := hp.ne nD
  refine ⟨fun i m H => i ≤ n ∧ m = n - i ∧ RX p H1 H ∧ ∃ xs, H D = some (.lst xs) ∧ xs.length = i ∧ ∀ j v, xs[j]? = some v → El j v, ⟨n, Nat.zero_le _, rfl, RX.new nD, [], upd_same, rfl, fun j v e => by simp at e⟩, ?_⟩
  rintro i m H ⟨hi, rfl, s1, xs, hD, hl, hE⟩
  by_cases hlt : i < n
  · refine .inr ⟨hgo i H hlt s1, fun H' => i + 1 ≤ n ∧ RX p H1 H' ∧ ∃ xs, H' D = some (.lst xs) ∧ xs.length = i + 1 ∧ ∀ j v, xs[j]? = some v → El j v, fun H' h => ⟨n - (i + 1), by omega, h.1, rfl, h.2⟩, fun x H' hy => ?_⟩
    refine hs i x H H' _ hlt s1 (hp.to s1) hy fun y H4 s4 e4 => ?_
    have hD4 := s4.keep D _ nP hD
    have s5 : RX p H1 (upd H4 D (.lst (xs ++ [y]))) := (s1.trans s4).mut nD hp
    refine ⟨xs, hD4, Nat.lt_of_lt_of_le (by omega : xs.length < 1001) (by decide), hlt, s5, xs ++ [y], upd_same, by simp [hl], fun j v e => ?_⟩
    by_cases hj : j < xs.length
    · rw [List.getElem?_append_left hj] at e
      exact hE j v e
    · rw [List.getElem?_append_right (by omega)] at e
      have z : j - xs.length = 0 := by
        by_cases q : j - xs.length = 0
        · exact q
        · rw [List.getElem?_eq_none (by simp; omega)] at e; cases e
      rw [z] at e
      cases e
      have : j = i := by omega
      subst this
      exact e4
  · have e : i = n := by omega
    subst e
    exact .inl ⟨hst H s1, hd D H xs nD s1 hD hl hE⟩
/-- .. with a test -/
theorem lc_if {p : Option Addr} {J : It} {g : TG} {tt : TT} {te : TE} {vs : List Nat} {σ : L2.St} {H1 : Hp} {Q : VK} (n : Nat) (T : Nat → Bool) (f : Nat → V) (hp : Has p H1) (hn : n ≤ 1000)
    (hgo : ∀ i H, i < n → RX p H1 H → J.go i H) (hst : ∀ H, RX p H1 H → J.stop n H)
    (hs : ∀ i x H H' (C : V → Hp → Prop) (C0 : Hp → Prop), i < n → RX p H1 H → Has p H → J.yld i H x H' → (∀ H4, RX p H H4 → T i = true → C (f i) H4) → (∀ H4, RX p H H4 → T i = false → C0 H4) →
      g x (wipe σ vs) H' fun σ2 H2 => wipe σ2 vs = wipe σ vs ∧ tt σ2 H2 fun b H3 => if b = true then te σ2 H3 C else C0 H3)
    (hd : ∀ D H, H1 D = none → RX p H1 H → H D = some (.lst (((List.range n).filter T).map f)) → Q (.ref D) H) :
    LcB g tt te vs σ Q J H1 := by
  intro D nD
  have nP : p ≠ some D := hp.ne nD
  refine ⟨fun i m H => i ≤ n ∧ m = n - i ∧ RX p H1 H ∧ H D = some (.lst (((List.range i).filter T).map f)), ⟨n, Nat.zero_le _, rfl, RX.new nD, upd_same⟩, ?_⟩
  rintro i m H ⟨hi, rfl, s1, hD⟩
  by_cases hlt : i < n
  · refine .inr ⟨hgo i H hlt s1, fun H' => i + 1 ≤ n ∧ RX p H1 H' ∧ H' D = some (.lst (((List.range (i + 1)).filter T).map f)), fun H' h => ⟨n - (i + 1), by omega, h.1, rfl, h.2⟩, fun x H' hy => ?_⟩
    refine hs i x H H' _ _ hlt s1 (hp.to s1) hy (fun H4 s4 e4 => ?_) fun H4 s4 e4 => ?_
    · have hD4 := s4.keep D _ nP hD
      refine ⟨_, hD4, ?_, hlt, (s1.trans s4).mut nD hp, ?_⟩
      · rw [List.length_map]
        have := List.length_filter_le T (List.range i)
        rw [List.length_range] at this
        exact Nat.lt_of_lt_of_le (by omega : _ < 1001) (by decide)
      · rw [upd_same, List.range_succ, List.filter_append, List.map_append]
        simp [e4]
    · refine ⟨hlt, s1.trans s4, ?_⟩
      rw [s4.keep D _ nP hD, List.range_succ, List.filter_append, List.map_append]
      simp [e4]
  · have e : i = n := by omega
    subst e
    exact .inl ⟨hst H s1, hd D H nD s1 hD⟩
/-- the whole comprehension, from what its iterator gives -/
theorem tlc_of {wi : TI} {g : TG} {tt : TT} {te : TE} {vs : List Nat} {σ : L2.St} {H H1 : Hp} {Q : VK} (J : It) (hw : ∀ R : It → Hp → Prop, R J H1 → wi σ H R) (h : LcB g tt te vs σ Q J H1) : tLc wi g tt te vs σ H Q := hw _ h
section
variable {σ : L2.St} {H : Hp} {Q : VK} {te ta : TE} {t : TA} {D : Ends}
theorem r_next (h : D.nx σ H) : tNext D σ H := h
theorem r_nret {rt : VK} {bk ct : L2.St → Hp → Prop} (h : te σ H D.rt) : tNext ⟨tRet te D, rt, bk, ct⟩ σ H := h
theorem r_nseq {t u : TS} {rt : VK} {bk ct : L2.St → Hp → Prop} (h : t { D with nx := u D } σ H) : tNext ⟨tSeq t u D, rt, bk, ct⟩ σ H := h
theorem r_if {c : TT} {t u : TS} (h : c σ H fun b H1 => if b = true then t D σ H1 else u D σ H1) : tIfS c t u D σ H := h
theorem r_not {c : TT} {Q : Bool → Hp → Prop} (h : c σ H fun b H1 => Q (!b) H1) : tNot c σ H Q := h
theorem r_b {Q : Bool → Hp → Prop} (h : te σ H fun x H1 => ∃ c, x = .bl c ∧ Q c H1) : tB te σ H Q := h
theorem r_seq {t u : TS} (h : t { D with nx := u D } σ H) : tSeq t u D σ H := h
theorem r_asg {g : TG} (h : te σ H fun x H1 => g x σ H1 D.nx) : tAsg te g D σ H := h
theorem r_op {r : R2} {ta tb : TE} (h : ta σ H fun x H1 => tb σ H1 fun y H2 => r x y H2 Q) : tOp r ta tb σ H Q := h
theorem r_ret (h : te σ H D.rt) : tRet te D σ H := h
theorem r_cb {r : List V → Hp → VK → Prop} (h : t σ H fun vs H1 => r vs H1 Q) : tCB r t σ H Q := h
theorem r_cons {Q : List V → Hp → Prop} (h : ta σ H fun x H1 => t σ H1 fun xs H2 => Q (x :: xs) H2) : tCons ta t σ H Q := h
end
theorem row2 {K : PySem.W.Frag} {H : Hp} {i : Nat} {t1 t2 : Bool} {a b : Addr} {xs ys : List V} {x y : V} (h1 : SqV K H t1 a xs) (e1 : xs[i]? = some x) (h2 : SqV K H t2 b ys) (e2 : ys[i]? = some y) : RowAt K H i [(t1, a), (t2, b)] [x, y] := ⟨⟨_, h1, e1⟩, ⟨_, h2, e2⟩, trivial⟩
def Its (t : Bool) (K : PySem.W.Frag) (a : Addr) : It := cond t (Itt K a) (Itl K a)
theorem its_go {t : Bool} {K : PySem.W.Frag} {a : Addr} {H : Hp} {xs : List V} {x : V} {i : Nat} (q : SqV K H t a xs) (e : xs[i]? = some x) : (Its t K a).go i H := by
  cases t with
  | true => exact ⟨xs, x, q, e⟩
  | false => exact ⟨xs, x, q, e⟩
theorem its_stop {t : Bool} {K : PySem.W.Frag} {a : Addr} {H : Hp} {xs : List V} {i : Nat} (q : SqV K H t a xs) (e : xs.length ≤ i) : (Its t K a).stop i H := by
  cases t with
  | true => exact ⟨xs, q, e⟩
  | false => exact ⟨xs, q, e⟩
theorem its_yld {t : Bool} {K : PySem.W.Frag} {a : Addr} {H H' : Hp} {xs : List V} {x : V} {i : Nat} (y : (Its t K a).yld i H x H') (q : SqV K H t a xs) : H' = H ∧ xs[i]? = some x := by
  cases t with
  | true => exact ⟨y.1, y.2 xs q⟩
  | false => exact ⟨y.1, y.2 xs q⟩
def iSeq (K : PySem.W.Frag) (tl : TE) : TI := fun σ H R => tl σ H fun x H1 => ∃ t a xs, x = .ref a ∧ SqV K H1 t a xs ∧ R (Its t K a) H1
section
variable {X : Cx}
theorem pi_seq {tg l : Expr} {tl : TE} (hl : PE X l tl) : PI X tg l (iSeq X.K tl) := by
  refine ⟨fun pins s σ H R I h => thn (hl.run pins s σ H _ I h) fun v s1 hv => ?_⟩
  obtain ⟨x, H1, I1, rx, t, a, xs, rfl, hq, hR⟩ := hv
  cases (show v = Value.ref a from rx)
  have fr : ∀ b ∈ [s1.heap.objs.size], FpOk X pins H1 b := fun b hb => by
    obtain rfl : b = s1.heap.objs.size := by simpa using hb
    exact I1.fpOk (Nat.le_refl _) (I1.hok.fresh (Nat.le_refl _))
  cases t with
  | true =>
    obtain ⟨its, rv, p, _⟩ := I1.tuple hq
    exact wpAny_pyIter_tuple p ⟨s1.heap.objs.size, [s1.heap.objs.size], _, _, H1, rfl, I1.kept (t' := s1.toks) fun b o e => Heap.get?_push_of_some _ e, turn_tuple a _, ⟨_, Heap.get?_push_size _ rfl, rfl, rfl⟩, fr, hR⟩
  | false =>
    obtain ⟨its, rv, p, _⟩ := I1.list hq
    exact wpAny_pyIter_list p.isList ⟨s1.heap.objs.size, [s1.heap.objs.size], _, _, H1, rfl, I1.kept (t' := s1.toks) fun b o e => Heap.get?_push_of_some _ e, turn_list a _, ⟨_, Heap.get?_push_size _ rfl, rfl, rfl⟩, fr, hR⟩
end
theorem sq_or {t : Bool} {K : PySem.W.Frag} {a : Addr} {H : Hp} {xs : List V} (q : SqV K H t a xs) : SqL K H a xs ∨ SqT K H a xs := by
  cases t with
  | true => exact .inr q
  | false => exact .inl q
def rIxS2 (K : PySem.W.Frag) : R2 := fun x y H Q => ∃ t p xs i v, x = .ref p ∧ y = .int i ∧ SqV K H t p xs ∧ atI xs i = some v ∧ Q v H
theorem ix_sq {X : Cx} : IxR X (rIxS2 X.K) := by
  intro value slice pins s σ H x y v u Q I rx ry h hs
  obtain ⟨t, p, xs, i, z, e1, e2, hq, he, q⟩ := h
  cases t with
  | true => exact ix_tup value slice pins s σ H x y v u Q I rx ry ⟨p, xs, i, z, e1, e2, hq, he, q⟩ hs
  | false => exact ix_list value slice pins s σ H x y v u Q I rx ry ⟨p, xs, i, z, e1, e2, hq, he, q⟩ hs
def rLen (K : PySem.W.Frag) : List V → Hp → VK → Prop := fun xs H Q => ∃ p ys, xs = [.ref p] ∧ (SqL K H p ys ∨ SqT K H p ys) ∧ Q (.int ys.length) H
theorem c_len {X : Cx} : CallR X (.builtin "len") (rLen X.K) := call_len_seq
section
variable {X : Cx}
theorem pss_dead {st : List Stmt} : PSs X st (fun _ _ _ => False) := ⟨fun _ _ _ _ _ _ h => h.elim⟩
end
end Dn
set_option Elab.async false
set_option linter.all false
set_option maxRecDepth 100000
set_option maxHeartbeats 1000000
namespace Tb
open PySem PySem.Spec PyProof.Rows L2 Gd Zn Rp Dn
def KS (H H' : Hp) : Prop := ∀ c o, (∀ xs, o ≠ .lst xs) → H c = some o → H' c = some o
theorem KS.refl (H : Hp) : KS H H := fun _ _ _ e => e
theorem KS.trans {H H1 H2 : Hp} (a : KS H H1) (b : KS H1 H2) : KS H H2 := fun c o n e => b c o n (a c o n e)
theorem KS.of {H H' : Hp} (s : Same H H') : KS H H' := fun c o _ e => s c o e
theorem KS.rx {p : Option Addr} {H H' : Hp} (s : RX p H H') (hp : Has p H) : KS H H' := fun c o n e => by
  refine s.keep c o (fun z => ?_) e
  obtain ⟨a, b, e2, _⟩ := hp c z
  rw [e] at e2
  cases e2
  exact n _ rfl
theorem KS.lst {H : Hp} {a : Addr} {xs : List V} {o' : HO} (e : H a = some (.lst xs)) : KS H (upd H a o') := fun c o n q => by
  have nc : c ≠ a := fun z => by
    subst z
    rw [q] at e
    cases e
    exact n _ rfl
  rw [upd_ne nc]
  exact q
/-- a row, a table of rows: tuples -/
def RowV (H : Hp) (v : V) (r : List Int) : Prop := ∃ b, v = .ref b ∧ H b = some (.tup (r.map V.int))
inductive RowsV (H : Hp) : List V → List (List Int) → Prop
  | nil : RowsV H [] []
  | cons {v : V} {vs : List V} {r : List Int} {M : List (List Int)} : RowV H v r → RowsV H vs M → RowsV H (v :: vs) (r :: M)
def Mx (H : Hp) (v : V) (M : List (List Int)) : Prop := ∃ a vs, v = .ref a ∧ H a = some (.tup vs) ∧ RowsV H vs M
theorem RowV.mono {H H' : Hp} {v : V} {r : List Int} (s : KS H H') (h : RowV H v r) : RowV H' v r := by
  obtain ⟨b, e, h⟩ := h
  exact ⟨b, e, s b _ (fun _ z => by cases z) h⟩
theorem RowsV.mono {H H' : Hp} {vs : List V} {M : List (List Int)} (s : KS H H') (h : RowsV H vs M) : RowsV H' vs M := by
  induction h with
  | nil => exact .nil
  | cons p _ ih => exact .cons (p.mono s) ih
theorem Mx.mono {H H' : Hp} {v : V} {M : List (List Int)} (s : KS H H') (h : Mx H v M) : Mx H' v M := by
  obtain ⟨a, vs, e, h, r⟩ := h
  exact ⟨a, vs, e, s a _ (fun _ z => by cases z) h, r.mono s⟩
theorem RowsV.len {H : Hp} {vs : List V} {M : List (List Int)} (h : RowsV H vs M) : vs.length = M.length := by
  induction h with
  | nil => rfl
  | cons _ _ ih => rw [List.length_cons, List.length_cons, ih]
theorem RowsV.get {H : Hp} {vs : List V} {M : List (List Int)} (h : RowsV H vs M) {i : Nat} {v : V} (e : vs[i]? = some v) : ∃ r, M[i]? = some r ∧ RowV H v r := by
  induction h generalizing i with
  | nil => simp at e
  | cons p _ ih =>
    cases i with
    | zero =>
      cases e
      exact ⟨_, rfl, p⟩
    | succ i =>
      obtain ⟨r, h1, h2⟩ := ih (i := i) (by simpa using e)
      exact ⟨r, by simpa using h1, h2⟩
theorem rows_of {H : Hp} : ∀ {vs : List V} {M : List (List Int)}, vs.length = M.length → (∀ (i : Nat) (v : V), vs[i]? = some v → ∃ r, M[i]? = some r ∧ RowV H v r) → RowsV H vs M
  | [], [], _, _ => .nil
  | v :: vs, r :: M, hl, h => by
    obtain ⟨r', e, p⟩ := h 0 v rfl
    cases e
    exact .cons p (rows_of (Nat.succ.inj hl) fun i w e => h (i + 1) w e)
theorem RowV.py {H : Hp} {v : V} {r : List Int} (h : RowV H v r) : PyV H v (.tuple (r.map PyData.int)) := by
  obtain ⟨b, rfl, h⟩ := h
  refine .tup h ?_
  clear h
  induction r with
  | nil => exact .nil
  | cons x r ih => exact .cons (.int x) ih
theorem RowsV.py {H : Hp} {vs : List V} {M : List (List Int)} (h : RowsV H vs M) : PyVs H vs (M.map fun r => .tuple (r.map PyData.int)) := by
  induction h with
  | nil => exact .nil
  | cons p _ ih => exact .cons p.py ih
def mxD (M : List (List Int)) : PyData := .tuple (M.map fun r => .tuple (r.map PyData.int))
theorem Mx.py {H : Hp} {v : V} {M : List (List Int)} (h : Mx H v M) : PyV H v (mxD M) := by
  obtain ⟨a, vs, rfl, h, r⟩ := h
  exact .tup h r.py
/-- a comprehension whose elements hang on what is no list -/
theorem lc_ks {p : Option Addr} {J : It} {g : TG} {te : TE} {vs : List Nat} {σ : L2.St} {H1 : Hp} {Q : VK} (n : Nat) (El : Nat → V → Hp → Prop) (mono : ∀ i v H H', KS H H' → El i v H → El i v H') (hp : Has p H1) (hn : n ≤ 1000)
    (hgo : ∀ i H, i < n → RX p H1 H → J.go i H) (hst : ∀ H, RX p H1 H → J.stop n H)
    (hs : ∀ i x H H' (C : VK), i < n → RX p H1 H → Has p H → J.yld i H x H' → (∀ y H4, RX p H H4 → El i y H4 → C y H4) → g x (wipe σ vs) H' fun σ2 H2 => wipe σ2 vs = wipe σ vs ∧ te σ2 H2 C)
    (hd : ∀ D H xs, H1 D = none → RX p H1 H → H D = some (.lst xs) → xs.length = n → (∀ i v, xs[i]? = some v → El i v H) → Q (.ref D) H) : LcB g tYes te vs σ Q J H1 := by
  intro D nD
  have nP : p ≠ some D := hp.ne nD
  refine ⟨fun i m H => i ≤ n ∧ m = n - i ∧ RX p H1 H ∧ ∃ xs, H D = some (.lst xs) ∧ xs.length = i ∧ ∀ j v, xs[j]? = some v → El j v H, ⟨n, Nat.zero_le _, rfl, RX.new nD, [], upd_same, rfl, fun j v e => by simp at e⟩, ?_⟩
  rintro i m H ⟨hi, rfl, s1, xs, hD, hl, hE⟩
  by_cases hlt : i < n
  · refine .inr ⟨hgo i H hlt s1, fun H' => i + 1 ≤ n ∧ RX p H1 H' ∧ ∃ xs, H' D = some (.lst xs) ∧ xs.length = i + 1 ∧ ∀ j v, xs[j]? = some v → El j v H', fun H' h => ⟨n - (i + 1), by omega, h.1, rfl, h.2⟩, fun x H' hy => ?_⟩
    have hpH := hp.to s1
    refine hs i x H H' _ hlt s1 hpH hy fun y H4 s4 e4 => ?_
    have hD4 := s4.keep D _ nP hD
    have s5 : RX p H1 (upd H4 D (.lst (xs ++ [y]))) := (s1.trans s4).mut nD hp
    have k5 : KS H4 (upd H4 D (.lst (xs ++ [y]))) := KS.lst hD4
    refine ⟨xs, hD4, Nat.lt_of_lt_of_le (by omega : xs.length < 1001) (by decide), hlt, s5, xs ++ [y], upd_same, by simp [hl], fun j v e => ?_⟩
    by_cases hj : j < xs.length
    · rw [List.getElem?_append_left hj] at e
      exact mono _ _ _ _ ((KS.rx s4 hpH).trans k5) (hE j v e)
    · rw [List.getElem?_append_right (by omega)] at e
      have z : j - xs.length = 0 := by
        by_cases w : j - xs.length = 0
        · exact w
        · rw [List.getElem?_eq_none (by simp; omega)] at e; cases e
      rw [z] at e
      cases e
      have : j = i := by omega
      subst this
      exact mono _ _ _ _ k5 e4
  · have e : i = n := by omega
    subst e
    exact .inl ⟨hst H s1, hd D H xs nD s1 hD hl hE⟩
/-- tuple(a list that was just made) -/
def rTup (K : PySem.W.Frag) : List V → Hp → VK → Prop := fun xs H Q => ∃ p ys, xs = [.ref p] ∧ ((SqL K H p ys ∧ ∀ l, H l = none → Q (.ref l) (upd H l (.tup ys))) ∨ (SqT K H p ys ∧ Q (.ref p) H))
theorem c_tup {X : Cx} : CallR X (.type "tuple") (rTup X.K) := call_tuple_of
def transp (m : Nat) (M : List (List Int)) : List (List Int) := (List.range m).map fun j => M.map fun r => r.getD j 0
end Tb
set_option Elab.async false
set_option linter.all false
set_option maxRecDepth 100000
set_option maxHeartbeats 1000000
namespace Gn
open PySem PySem.Spec PyProof.Rows L2 Gd Zn Rp Dn
structure Def (P : Program) (w : World) (K : PySem.W.Frag) (mg : Str → Option Value) (base : Heap) (nm : Str) (k : Nat) (ps : List Str) (sp : Sp) : Prop where
  ex : ∃ (f : Addr) (fd : FuncData), FnOk P w K mg base CX0 k f fd ps sp ∧ mg nm = some (.ref f) ∧ PySem.W.keepIn K (.ref f) = true ∧ Binds K fd ps []
section
variable {X : Cx}
theorem pe_def {nm : Str} {k j : Nat} {ps : List Str} {sp : Sp} {e : Expr} {es : List Expr} {t : TA} {p pos : Pos} (D : Def X.prog X.w X.K X.mg X.base nm k ps sp) (room : Room j X.A) (ha : PA X (e :: es) t) (hkj : k ≤ j := by decide) (hg : Gl X nm := by rfl)
    (hdb : (nm == ("__debug__" : Str)) = false := by decide) (he : starEach (e :: es) X.env = (false, eval e X.env) :: starEach es X.env := by rfl) (hpl : (backTo pos (starEach es X.env)).any (·.1) = false := by rfl) :
    PE X (.Call (.Name nm p) (e :: es) [] pos) (tCall sp [] E0 t) := by
  obtain ⟨f, fd, G, m, kp, b⟩ := D.ex
  exact pe_call G (room.mono hkj) hg m kp b .nil pass0 ha hdb he hpl
end
def AnyV (H : Hp) (v : V) (d : PyData) : Prop := PyV H v d ∨ ∃ a kvs r, v = .ref a ∧ H a = some (.dK kvs) ∧ d = .dict r ∧ Flat kvs r
theorem AnyV.mono {H H' : Hp} {v : V} {d : PyData} (s : Same H H') (h : AnyV H v d) : AnyV H' v d := by
  rcases h with h | ⟨a, kvs, r, e, h, e2, f⟩
  · exact .inl (h.mono s)
  · exact .inr ⟨a, kvs, r, e, s _ _ h, e2, f⟩
def tyD : PyData → String
  | .none => "NoneType" | .bool _ => "bool" | .int _ => "int" | .str _ => "str" | .list _ => "list" | .tuple _ => "tuple" | .dict _ => "dict"
theorem AnyV.ty {K : PySem.W.Frag} {H : Hp} {v : V} {d : PyData} (h : AnyV H v d) : TyX K H v (.type (tyD d)) := by
  rcases h with h | ⟨a, kvs, r, rfl, e, rfl, f⟩
  · cases h with
    | non => exact .base .non
    | bl b => exact .base (.bl b)
    | int i => exact .base (.int i)
    | str x => exact .base (.str x)
    | lst e _ => exact .base (.lst e)
    | tup e _ => exact .base (.tup e)
  · exact .base (.dK e)
def isIntD : PyData → Bool
  | .int _ => true
  | _ => false
def isBool : PyData → Bool
  | .bool _ => true
  | _ => false
def isSeq : PyData → Bool
  | .list _ => true
  | .tuple _ => true
  | _ => false
def items : PyData → List PyData
  | .list xs => xs
  | .tuple xs => xs
  | _ => []
theorem kit_int (K : PySem.W.Frag) (d : PyData) : PySem.W.kitOne K (.type (tyD d)) (.type "int") = some (isIntD d || isBool d) := by
  cases d <;> dsimp only [tyD, isIntD, isBool] <;> exact kit_ty (by decide +kernel)
theorem kit_bool (K : PySem.W.Frag) (d : PyData) : PySem.W.kitOne K (.type (tyD d)) (.type "bool") = some (isBool d) := by
  cases d <;> dsimp only [tyD, isBool] <;> exact kit_ty (by decide +kernel)
theorem kit_seq (K : PySem.W.Frag) (d : PyData) : PySem.W.kitAny K (.type (tyD d)) [.type "list", .type "tuple"] = some (isSeq d) := by
  cases d <;> dsimp only [tyD, isSeq] <;>
  first
  | exact kitAny_cons (kit_ty (b := "list") (r := true) (by decide +kernel)) (fun h => by cases h) (fun _ => rfl)
  | exact kitAny_cons (kit_ty (b := "list") (r := false) (by decide +kernel)) (fun _ => kitAny_cons (kit_ty (b := "tuple") (r := true) (by decide +kernel)) (fun h => by cases h) (fun _ => rfl)) (fun h => by cases h)
  | exact kitAny_cons (kit_ty (b := "list") (r := false) (by decide +kernel)) (fun _ => kitAny_cons (kit_ty (b := "tuple") (r := false) (by decide +kernel)) (fun _ => kitAny_nil) (fun h => by cases h)) (fun h => by cases h)
def iD (xs : List Int) : List PyData := xs.map PyData.int
theorem pyVs_ints {H : Hp} : ∀ {vs : List V} {xs : List Int}, PyVs H vs (iD xs) → vs = xs.map V.int
  | _, [], .nil => rfl
  | _, x :: xs, .cons (.int _) q => by rw [pyVs_ints q]; rfl
/-- a list or a tuple, its items -/
def SeqV (H : Hp) (v : V) (ds : List PyData) : Prop := PyV H v (.list ds) ∨ PyV H v (.tuple ds)
theorem SeqV.mono {H H' : Hp} {v : V} {ds : List PyData} (s : Same H H') (h : SeqV H v ds) : SeqV H' v ds := h.imp (PyV.mono s) (PyV.mono s)
theorem SeqV.at {H : Hp} {v : V} {ds : List PyData} (K : PySem.W.Frag) (h : SeqV H v ds) : ∃ (t : Bool) (a : Addr) (vs : List V), v = .ref a ∧ (∀ H', Same H H' → SqV K H' t a vs) ∧ PyVs H vs ds := by
  rcases h with h | h
  · cases h with
    | lst e q => exact ⟨false, _, _, rfl, fun H' s => .inl (.inl (s _ _ e)), q⟩
  · cases h with
    | tup e q => exact ⟨true, _, _, rfl, fun H' s => .inl (.inl (s _ _ e)), q⟩
theorem seq_of {H : Hp} {v : V} {d : PyData} (h : AnyV H v d) (e : isSeq d = true) : SeqV H v (items d) := by
  rcases h with h | ⟨_, _, _, _, _, rfl, _⟩
  · cases h with
    | lst x q => exact .inl (.lst x q)
    | tup x q => exact .inr (.tup x q)
    | non => cases e
    | bl _ => cases e
    | int _ => cases e
    | str _ => cases e
  · cases e
def dot (xs ys : List Int) : Int := ((xs.zip ys).map fun p => p.1 * p.2).sum
def Small (x : Int) : Prop := -(2 ^ 64) < x ∧ x < 2 ^ 64
theorem map_of_get {α : Type} {n : Nat} (f : α → V) : ∀ {vs : List V} {l : List α}, vs.length = l.length → (∀ (i : Nat) (v : V), vs[i]? = some v → ∃ x : α, l[i]? = some x ∧ v = f x) → vs = l.map f
  | [], [], _, _ => rfl
  | v :: vs, x :: l, hl, h => by
    obtain ⟨y, e1, e2⟩ := h 0 v rfl
    cases e1
    rw [e2, map_of_get (n := n) f (Nat.succ.inj hl) (fun i w e => h (i + 1) w e)]
    rfl
theorem pyVs_len {H : Hp} : ∀ {vs : List V} {ds : List PyData}, PyVs H vs ds → vs.length = ds.length
  | _, _, .nil => rfl
  | _, _, .cons _ q => by rw [List.length_cons, List.length_cons, pyVs_len q]
theorem pyVs_get {H : Hp} : ∀ {vs : List V} {ds : List PyData} {i : Nat} {v : V}, PyVs H vs ds → vs[i]? = some v → ∃ d, ds[i]? = some d ∧ PyV H v d
  | _, _, _, _, .nil, e => by simp at e
  | _, _, 0, _, .cons (d := d) p _, e => by
    cases e
    exact ⟨d, rfl, p⟩
  | _, _, i + 1, _, .cons _ q, e => by
    obtain ⟨d', h1, h2⟩ := pyVs_get (i := i) q (by simpa using e)
    exact ⟨d', by simpa using h1, h2⟩
end Gn
set_option Elab.async false
set_option linter.all false
set_option maxRecDepth 100000
set_option maxHeartbeats 1000000
namespace Wd
open PySem PySem.Spec PyProof.Rows L2
def Big (x : Int) : Prop := ∃ k : Nat, k ≤ 20000 ∧ x.natAbs < 2 ^ k
def Wid (x : Int) : Prop := ∃ k : Nat, k ≤ 1000000 ∧ x.natAbs < 2 ^ k
theorem lit {x : Int} (h : -(2 ^ 64) < x ∧ x < 2 ^ 64) : Big x := ⟨64, by decide, by omega⟩
theorem Big.w {x : Int} (h : Big x) : Wid x := by
  obtain ⟨k, a, b⟩ := h
  exact ⟨k, Nat.le_trans a (by decide), b⟩
theorem mulW {i j : Int} (hi : Wid i) (hj : Wid j) : CMulX i j := by
  obtain ⟨a, h1, h2⟩ := hi
  obtain ⟨b, h3, h4⟩ := hj
  exact mulx_ok h2 h4 (by omega)
theorem mul {i j : Int} (hi : Big i) (hj : Big j) : CMulX i j := mulW hi.w hj.w
theorem pow_le {a b : Nat} (h : a ≤ b) : 2 ^ a ≤ 2 ^ b := Nat.pow_le_pow_right (by decide) h
theorem abs_mul {x y : Int} {a b : Nat} (hx : x.natAbs < 2 ^ a) (hy : y.natAbs < 2 ^ b) : (x * y).natAbs < 2 ^ (a + b) := by
  rw [Int.natAbs_mul, Nat.pow_add]
  exact Nat.mul_lt_mul'' hx hy
theorem abs_mono {x : Int} {a b : Nat} (hx : x.natAbs < 2 ^ a) (h : a ≤ b) : x.natAbs < 2 ^ b := Nat.lt_of_lt_of_le hx (pow_le h)
theorem abs_add {x y : Int} {a : Nat} (hx : x.natAbs < 2 ^ a) (hy : y.natAbs < 2 ^ a) : (x + y).natAbs < 2 ^ (a + 1) := by
  rw [Nat.pow_succ]
  omega
theorem abs_sum : ∀ {l : List Int} {B : Nat}, (∀ x ∈ l, x.natAbs ≤ B) → l.sum.natAbs ≤ l.length * B
  | [], B, _ => by simp
  | x :: l, B, h => by
    have h1 := h x List.mem_cons_self
    have h2 := abs_sum (l := l) (B := B) fun y hy => h y (List.mem_cons_of_mem _ hy)
    rw [List.sum_cons, List.length_cons, Nat.add_mul, Nat.one_mul]
    omega
end Wd
set_option Elab.async false
set_option linter.all false
set_option maxRecDepth 100000
set_option maxHeartbeats 1000000
namespace T34
open PySem PySem.Spec PyProof.Rows L2 Gd Zn Rp Dn Tb Gn En Zs
def top (i : Nat) : Stmt := PySem.Challenge.pw_keptbowls_k34_whole_keeping.main.body.getD i (.Pass ⟨0, 0, 0, 0⟩)
abbrev Small (x : Int) : Prop := Wd.Big x
structure Txt (mg : Str → Option Value) : Prop where
  isi : mg "isinstance" = none
  int : mg "int" = none
  bool : mg "bool" = none
  list : mg "list" = none
  tuple : mg "tuple" = none
  all : mg "all" = none
  sum : mg "sum" = none
  zip : mg "zip" = none
  len : mg "len" = none
  range : mg "range" = none
  repr : mg "repr" = none
  abs : mg "abs" = none
  max : mg "max" = none
  divmod : mg "divmod" = none
  dict : mg "dict" = none
  enum : mg "enumerate" = none
section
variable {P : Program} {w : World} {K : PySem.W.Frag} {mg : Str → Option Value} {base : Heap}
abbrev st_is_integer : Stmt := top 11
def sp_is_integer : Sp := fun vs H Q _ => ∃ v d, vs = [v] ∧ AnyV H v d ∧ ∀ H', Same H H' → Q (.bl (isIntD d)) H'
theorem sc_is_integer : FnScope ["value"] ["value"] (defScope st_is_integer) := ⟨rfl, rfl, rfl, by decide +kernel, rfl, by decide +kernel, by decide +kernel⟩
theorem ok_is_integer {f : Addr} {fd : FuncData} (F : Fun K "is_integer" "is_integer" st_is_integer f fd) (T : Txt mg) : FnOk P w K mg base CX0 1 f fd ["value"] sp_is_integer := by
  refine F.ok sc_is_integer (fun vs H Q E h => ?_) (fun cdv A outer s H vs Q E hr h => ?_)
  · obtain ⟨v, d, rfl, _⟩ := h
    rfl
  · obtain ⟨v, d, rfl, av, q⟩ := h
    refine ⟨_, pss_one (ps_ret (pe_and (pe_callB call_isi (by rfl) T.isi boot_isinstance (pa_cons (pv 0) (pa_cons (pe_bltn (v := .ty "int") (by rfl) T.int PyProof.Rows.boot_int rfl) pa_nil)))
      (pe_one (pe_not (pe_callB call_isi (by rfl) T.isi boot_isinstance (pa_cons (pv 0) (pa_cons (pe_bltn (v := .ty "bool") (by rfl) T.bool PyProof.Rows.boot_bool rfl) pa_nil))))))), ?_⟩
    refine ⟨_, rfl, v, .ty "int", _, _, _, rfl, .ty _, av.ty, kit_int K d, _, rfl, ?_⟩
    cases e : isIntD d || isBool d with
    | false =>
      refine iteF ?_
      have : isIntD d = false := by revert e; cases isIntD d <;> simp
      rw [← this]
      exact q H (Same.refl H)
    | true =>
      refine iteT ?_
      refine ⟨_, rfl, v, .ty "bool", _, _, _, rfl, .ty _, av.ty, kit_bool K d, _, rfl, ?_⟩
      have : (!isBool d) = isIntD d := by
        revert e
        cases d <;> simp [isIntD, isBool]
      rw [this]
      exact q H (Same.refl H)
abbrev st_is_list : Stmt := top 12
def sp_is_list : Sp := fun vs H Q _ => ∃ v d, vs = [v] ∧ AnyV H v d ∧ ∀ H', Same H H' → Q (.bl (isSeq d)) H'
theorem sc_is_list : FnScope ["value"] ["value"] (defScope st_is_list) := ⟨rfl, rfl, rfl, by decide +kernel, rfl, by decide +kernel, by decide +kernel⟩
theorem ok_is_list {f : Addr} {fd : FuncData} (F : Fun K "is_list" "is_list" st_is_list f fd) (T : Txt mg) : FnOk P w K mg base CX0 1 f fd ["value"] sp_is_list := by
  refine F.ok sc_is_list (fun vs H Q E h => ?_) (fun cdv A outer s H vs Q E hr h => ?_)
  · obtain ⟨v, d, rfl, _⟩ := h
    rfl
  · obtain ⟨v, d, rfl, av, q⟩ := h
    refine ⟨_, pss_one (ps_ret (pe_callB call_isiT (by rfl) T.isi boot_isinstance (pa_cons (pv 0) (pa_cons (pe_tup (pa_cons (pe_bltn (v := .ty "list") (by rfl) T.list PyProof.Rows.boot_list rfl) (pa_cons (pe_bltn (v := .ty "tuple") (by rfl) T.tuple PyProof.Rows.boot_tuple rfl) pa_nil))) pa_nil)))), ?_⟩
    refine ⟨_, rfl, (by show 2 ≤ sizeLine; decide), fun t ht => ?_⟩
    exact ⟨v, t, _, _, _, _, rfl, upd_same, .cons (.ty _) (.cons (.ty _) .nil), (av.mono (same_new ht)).ty, kit_seq K d, q _ (same_new ht)⟩
abbrev st_scalar : Stmt := top 21
def sp_scalar : Sp := fun vs H Q _ => ∃ (v o : V) (xs ys : List Int), vs = [v, o] ∧ SeqV H v (iD xs) ∧ SeqV H o (iD ys) ∧ xs.length = ys.length ∧ xs.length ≤ 100 ∧ (∀ x ∈ xs, Small x) ∧ (∀ y ∈ ys, Small y) ∧ ∀ H', Same H H' → Q (.int (dot xs ys)) H'
theorem sc_scalar : FnScope ["row", "other", "number", "factor"] ["row", "other"] (defScope st_scalar) := ⟨rfl, rfl, rfl, by decide +kernel, rfl, by decide +kernel, by decide +kernel⟩
theorem ok_scalar {f : Addr} {fd : FuncData} (F : Fun K "scalar" "scalar" st_scalar f fd) (T : Txt mg) : FnOk P w K mg base CX0 1 f fd ["row", "other"] sp_scalar := by
  refine F.ok sc_scalar (fun vs H Q E h => ?_) (fun cdv A outer s H vs Q E hr h => ?_)
  · obtain ⟨v, o, xs, ys, rfl, _⟩ := h
    rfl
  · obtain ⟨v, o, xs, ys, rfl, sx, sy, hl, hb, hsm, hsy, q⟩ := h
    refine ⟨_, pss_one (ps_ret (pe_callB (cr_sum rfl) (by rfl) T.sum boot_sum (pa_cons (pe_lc (own := [("number", 2), ("factor", 3)]) (g := gTup K 2 (gCons (gName 2) (gCons (gName 3) gNil))) (tt := tYes) rfl sc_scalar.nd (pi_zipn (by rfl) T.zip (pa_cons (pv 0) (pa_cons (pv 1) pa_nil)))
      (blkOk_by (N := ["row", "other", "number", "factor"]) (sc := defScope st_scalar) (by decide +kernel))
      (fun _ _ _ _ _ => pg_tup rfl (pgs_cons (pg_name (i := 2) sc_scalar.nd rfl (Or.inl rfl) (Or.inr rfl)) (pgs_cons (pg_name (i := 3) sc_scalar.nd rfl (Or.inl rfl) (Or.inr rfl)) pgs_nil)))
      (fun _ _ _ _ _ => pts_nil) (fun _ _ _ _ _ => pe_op op_mulX (pv 2) (pv 3))) pa_nil))), ?_⟩
    obtain ⟨t1, a, vx, rfl, qx, px⟩ := sx.at K
    obtain ⟨t2, b, vy, rfl, qy, py⟩ := sy.at K
    have ex := pyVs_ints px
    have ey := pyVs_ints py
    subst ex ey
    refine r_ret (r_cb (r_cons ?_))
    have sq : ∀ H2, Same H H2 → AllSq K H2 [(t1, a), (t2, b)] := fun H2 s2 z hz => by
      rcases List.mem_cons.mp hz with rfl | hz
      · exact ⟨_, qx H2 s2⟩
      · rcases List.mem_cons.mp hz with rfl | hz
        · exact ⟨_, qy H2 s2⟩
        · cases hz
    refine tlc_of (Itn K [(t1, a), (t2, b)]) (H1 := H) (fun R hR => ⟨_, rfl, _, rfl, [(t1, a), (t2, b)], rfl, Nat.zero_lt_succ _, (by show 2 ≤ 3; decide), sq H (Same.refl H), hR⟩) ?_
    refine lc_el (p := none) xs.length (fun i v => ∃ x y, xs[i]? = some x ∧ ys[i]? = some y ∧ v = .int (x * y)) has_none (by omega) (fun i H2 hi s2 => ?_) (fun H2 s2 => ?_) (fun i x H2 H3 C hi s2 _ hy hC => ?_) fun D H2 rs nD s2 hD hrl hE => ?_
    · exact ⟨[.int xs[i], .int (ys[i]'(by omega))], row2 (qx H2 s2.same) (by simp [hi]) (qy H2 s2.same) (by simp [(by omega : i < ys.length)])⟩
    · exact ⟨sq H2 s2.same, (t1, a), List.mem_cons_self, _, qx H2 s2.same, by simp⟩
    · have hi2 : i < ys.length := by omega
      obtain ⟨T2, zs, rfl, nT, rfl, hu⟩ := hy
      have ez : zs = [.int xs[i], .int ys[i]] := (hu _ (row2 (qx H2 s2.same) (by simp [hi]) (qy H2 s2.same) (by simp [hi2]))).symm
      subst ez
      refine ⟨T2, _, rfl, .inl (.inl upd_same), rfl, _, _, rfl, _, _, rfl, rfl, rfl, ?_⟩
      exact ⟨_, rfl, _, rfl, _, _, rfl, rfl, Wd.mul (hsm _ (List.getElem_mem hi)) (hsy _ (List.getElem_mem hi2)), hC _ _ (RX.new nT) ⟨_, _, List.getElem?_eq_getElem hi, List.getElem?_eq_getElem hi2, rfl⟩⟩
    · have er : rs = (xs.zip ys).map fun (p : Int × Int) => V.int (p.1 * p.2) := map_of_get (n := 0) _ (by simp [hrl, hl]) fun i v e => by
        obtain ⟨x, y, e1, e2, e3⟩ := hE i v e
        exact ⟨(x, y), by rw [List.getElem?_zip_eq_some]; exact ⟨e1, e2⟩, e3⟩
      refine ⟨D, (xs.zip ys).map (fun (p : Int × Int) => p.1 * p.2), rfl, .inl (.inl ?_), q H2 s2.same⟩
      rw [hD, er, List.map_map]
      rfl
end
end T34
set_option Elab.async false
set_option linter.all false
set_option maxRecDepth 100000
set_option maxHeartbeats 1000000
namespace T34
open PySem PySem.Spec PyProof.Rows L2 Gd Zn Rp Dn Tb Gn En Zs
section
variable {P : Program} {w : World} {K : PySem.W.Frag} {mg : Str → Option Value} {base : Heap}
abbrev st_is_row : Stmt := top 14
def rowB (d : PyData) : Bool := isSeq d && (decide (1 ≤ (items d).length) && decide ((items d).length ≤ 3)) && (items d).all isIntD
def sp_is_row : Sp := fun vs H Q _ => ∃ v d, vs = [v] ∧ AnyV H v d ∧ (items d).length ≤ 200 ∧ ∀ H', Same H H' → Q (.bl (rowB d)) H'
theorem sc_is_row : FnScope ["value", "number"] ["value"] (defScope st_is_row) := ⟨rfl, rfl, rfl, by decide +kernel, rfl, by decide +kernel, by decide +kernel⟩
theorem ok_is_row {f : Addr} {fd : FuncData} (F : Fun K "is_row" "is_row" st_is_row f fd) (T : Txt mg) (D1 : Def P w K mg base "is_list" 1 ["value"] sp_is_list) (D2 : Def P w K mg base "is_integer" 1 ["value"] sp_is_integer) :
    FnOk P w K mg base CX0 2 f fd ["value"] sp_is_row := by
  refine F.ok sc_is_row (fun vs H Q E h => ?_) (fun cdv A outer s H vs Q E hr h => ?_)
  · obtain ⟨v, d, rfl, _⟩ := h
    rfl
  · obtain ⟨v, d, rfl, av, hb, q⟩ := h
    refine ⟨_, pss_one (ps_ret (pe_and (pe_def D1 hr (pa_cons (pv 0) pa_nil))
      (pe_and (pe_chain op_le op_le pe_int (pe_callB (r := Dn.rLen K) c_len (by rfl) T.len PySem.boot_len (pa_cons (pv 0) pa_nil)) pe_int)
      (pe_one (pe_callB (cr_all rfl) (by rfl) T.all boot_all (pa_cons (pe_lc (own := [("number", 1)]) (g := gName 1) (tt := tYes) rfl sc_is_row.nd (pi_seq (pv 0))
        (blkOk_by (N := ["value", "number"]) (sc := defScope st_is_row) (by decide +kernel))
        (fun _ _ _ _ _ => pg_name (i := 1) sc_is_row.nd rfl (Or.inl rfl) (Or.inr rfl)) (fun _ _ _ _ _ => pts_nil) (fun _ _ _ _ _ => pe_def (X := Cx.blk _ _ _ _ _ _) D2 hr (pa_cons (pv 1) pa_nil))) pa_nil)))))), ?_⟩
    refine ⟨_, rfl, v, d, rfl, av, fun H1 s1 => ⟨_, rfl, ?_⟩⟩
    cases e1 : isSeq d with
    | false =>
      refine iteF ?_
      have : rowB d = false := by unfold rowB; rw [e1]; rfl
      rw [← this]
      exact q H1 s1
    | true =>
      refine iteT ?_
      obtain ⟨t, a, vx, rfl, qx, px⟩ := (seq_of av e1).at K
      have hvl : vx.length = (items d).length := pyVs_len px
      have bad : (decide (1 ≤ (items d).length) && decide ((items d).length ≤ 3)) = false → Q (.bl false) H1 := fun z => by
        have : rowB d = false := by unfold rowB; rw [z, Bool.and_false]; rfl
        rw [← this]
        exact q H1 s1
      refine ⟨_, rfl, a, vx, rfl, sq_or (qx H1 s1), _, _, rfl, rfl, _, rfl, ?_⟩
      cases e2 : decide ((1 : Int) ≤ (vx.length : Int)) with
      | false =>
        refine iteF ⟨_, rfl, iteF ?_⟩
        refine bad ?_
        rw [decide_eq_false_iff_not] at e2
        rw [decide_eq_false (by omega)]
        rfl
      | true =>
        rw [decide_eq_true_eq] at e2
        refine iteT ⟨_, _, rfl, rfl, _, rfl, ?_⟩
        cases e3 : decide ((vx.length : Int) ≤ 3) with
        | false =>
          refine iteF ?_
          refine bad ?_
          rw [decide_eq_false_iff_not] at e3
          rw [decide_eq_false (show ¬ (items d).length ≤ 3 by omega), Bool.and_false]
        | true =>
          rw [decide_eq_true_eq] at e3
          refine iteT ?_
          refine r_cb (r_cons ?_)
          refine tlc_of (Its t K a) (H1 := H1) (fun R hR => ⟨_, rfl, t, a, vx, rfl, qx H1 s1, hR⟩) ?_
          refine lc_el (p := none) vx.length (fun i v => ∃ d', (items d)[i]? = some d' ∧ v = .bl (isIntD d')) has_none (by omega) (fun i H2 hi s2 => ?_) (fun H2 s2 => ?_) (fun i x H2 H3 C hi s2 _ hy hC => ?_) fun Da H2 rs nD s2 hD hrl hE => ?_
          · exact its_go (qx H2 (s1.trans s2.same)) (List.getElem?_eq_getElem hi)
          · exact its_stop (qx H2 (s1.trans s2.same)) (Nat.le_refl _)
          · obtain ⟨rfl, ex⟩ := its_yld hy (qx H2 (s1.trans s2.same))
            obtain ⟨d', ed, pd⟩ := pyVs_get px ex
            refine ⟨rfl, ?_⟩
            exact ⟨_, rfl, x, d', rfl, .inl (PyV.mono (s1.trans s2.same) pd), fun H4 s4 => hC _ _ (RX.of s4) ⟨d', ed, rfl⟩⟩
          · have er : rs = (items d).map fun d' => V.bl (isIntD d') := map_of_get (n := 0) _ (by rw [hrl, hvl]) hE
            refine ⟨Da, (items d).map isIntD, rfl, .inl (.inl ?_), ?_⟩
            · rw [hD, er, List.map_map]
              rfl
            · have : rowB d = ((items d).map isIntD).all id := by
                unfold rowB
                rw [e1, decide_eq_true (show 1 ≤ (items d).length by omega), decide_eq_true (show (items d).length ≤ 3 by omega), List.all_map]
                rfl
              rw [← this]
              exact q H2 (s1.trans s2.same)
end
end T34
set_option Elab.async false
set_option linter.all false
set_option maxRecDepth 100000
set_option maxHeartbeats 1000000
namespace T34
open PySem PySem.Spec PyProof.Rows L2 Gd Zn Rp Dn Tb Gn En Zs
section
variable {P : Program} {w : World} {K : PySem.W.Frag} {mg : Str → Option Value} {base : Heap}
abbrev st_is_row_of : Stmt := top 15
def rowOfB (n : Nat) (d : PyData) : Bool := rowB d && decide ((items d).length = n)
def sp_is_row_of : Sp := fun vs H Q _ => ∃ v d, ∃ n : Nat, vs = [.int n, v] ∧ AnyV H v d ∧ (items d).length ≤ 200 ∧ ∀ H', Same H H' → Q (.bl (rowOfB n d)) H'
theorem sc_is_row_of : FnScope ["size", "value"] ["size", "value"] (defScope st_is_row_of) := ⟨rfl, rfl, rfl, by decide +kernel, rfl, by decide +kernel, by decide +kernel⟩
theorem ok_is_row_of {f : Addr} {fd : FuncData} (F : Fun K "is_row_of" "is_row_of" st_is_row_of f fd) (T : Txt mg) (D1 : Def P w K mg base "is_row" 2 ["value"] sp_is_row) :
    FnOk P w K mg base CX0 3 f fd ["size", "value"] sp_is_row_of := by
  refine F.ok sc_is_row_of (fun vs H Q E h => ?_) (fun cdv A outer s H vs Q E hr h => ?_)
  · obtain ⟨v, d, n, rfl, _⟩ := h
    rfl
  · obtain ⟨v, d, n, rfl, av, hb, q⟩ := h
    refine ⟨_, pss_one (ps_ret (pe_and (pe_def D1 hr (pa_cons (pv 1) pa_nil))
      (pe_one (pe_cmpR op_eq (pe_callB (r := Dn.rLen K) c_len (by rfl) T.len PySem.boot_len (pa_cons (pv 1) pa_nil)) (pv 0) (nomark _))))), ?_⟩
    refine ⟨_, rfl, v, d, rfl, av, hb, fun H1 s1 => ⟨_, rfl, ?_⟩⟩
    cases e1 : rowB d with
    | false =>
      refine iteF ?_
      have : rowOfB n d = false := by unfold rowOfB; rw [e1]; rfl
      rw [← this]
      exact q H1 s1
    | true =>
      refine iteT ?_
      have e2 : isSeq d = true := by
        unfold rowB at e1
        rw [Bool.and_eq_true, Bool.and_eq_true] at e1
        exact e1.1.1
      obtain ⟨t, a, vx, rfl, qx, px⟩ := (seq_of av e2).at K
      have hvl : vx.length = (items d).length := pyVs_len px
      refine ⟨_, rfl, a, vx, rfl, sq_or (qx H1 s1), _, rfl, rfl, ?_⟩
      have : decide (V.int (vx.length : Int) = V.int (n : Int)) = rowOfB n d := by
        unfold rowOfB
        rw [e1, Bool.true_and, ← hvl]
        by_cases z : vx.length = n
        · rw [z, decide_eq_true rfl, decide_eq_true rfl]
        · rw [decide_eq_false z, decide_eq_false (fun q => z (by have := V.int.inj q; omega))]
      show Q _ _
      rw [this]
      exact q H1 s1
abbrev st_is_grid : Stmt := top 18
def gridB (d : PyData) : Bool := isSeq d && (items d).all (rowOfB (items d).length) && decide (0 < (items d).length)
def sp_is_grid : Sp := fun vs H Q _ => ∃ v d, vs = [v] ∧ AnyV H v d ∧ (items d).length ≤ 200 ∧ (∀ r ∈ items d, (items r).length ≤ 200) ∧ ∀ H', Same H H' → Q (.bl (gridB d)) H'
theorem sc_is_grid : FnScope ["value", "row"] ["value"] (defScope st_is_grid) := ⟨rfl, rfl, rfl, by decide +kernel, rfl, by decide +kernel, by decide +kernel⟩
theorem ok_is_grid {f : Addr} {fd : FuncData} (F : Fun K "is_grid" "is_grid" st_is_grid f fd) (T : Txt mg) (D1 : Def P w K mg base "is_list" 1 ["value"] sp_is_list) (D2 : Def P w K mg base "is_row_of" 3 ["size", "value"] sp_is_row_of) :
    FnOk P w K mg base CX0 4 f fd ["value"] sp_is_grid := by
  refine F.ok sc_is_grid (fun vs H Q E h => ?_) (fun cdv A outer s H vs Q E hr h => ?_)
  · obtain ⟨v, d, rfl, _⟩ := h
    rfl
  · obtain ⟨v, d, rfl, av, hb, hbs, q⟩ := h
    refine ⟨_, pss_one (ps_ret (pe_and (pe_def D1 hr (pa_cons (pv 0) pa_nil))
      (pe_and (pe_callB (cr_all rfl) (by rfl) T.all boot_all (pa_cons (pe_lc (own := [("row", 1)]) (g := gName 1) (tt := tYes) rfl sc_is_grid.nd (pi_seq (pv 0))
        (blkOk_by (N := ["value", "row"]) (sc := defScope st_is_grid) (by decide +kernel))
        (fun _ _ _ _ _ => pg_name (i := 1) sc_is_grid.nd rfl (Or.inl rfl) (Or.inr rfl)) (fun _ _ _ _ _ => pts_nil)
        (fun _ _ _ _ _ => pe_def (X := Cx.blk _ _ _ _ _ _) D2 hr (pa_cons (pe_callB (r := Dn.rLen K) c_len (by rfl) T.len PySem.boot_len (pa_cons (pv 0) pa_nil)) (pa_cons (pv 1) pa_nil)))) pa_nil))
      (pe_one (pe_cmpR op_gt (pe_callB (r := Dn.rLen K) c_len (by rfl) T.len PySem.boot_len (pa_cons (pv 0) pa_nil)) pe_int (nomark _)))))), ?_⟩
    refine ⟨_, rfl, v, d, rfl, av, fun H1 s1 => ⟨_, rfl, ?_⟩⟩
    cases e1 : isSeq d with
    | false =>
      refine iteF ?_
      have : gridB d = false := by unfold gridB; rw [e1]; rfl
      rw [← this]
      exact q H1 s1
    | true =>
      refine iteT ?_
      obtain ⟨t, a, vx, rfl, qx, px⟩ := (seq_of av e1).at K
      have hvl : vx.length = (items d).length := pyVs_len px
      refine r_cb (r_cons ?_)
      refine tlc_of (Its t K a) (H1 := H1) (fun R hR => ⟨_, rfl, t, a, vx, rfl, qx H1 s1, hR⟩) ?_
      refine lc_el (p := none) vx.length (fun i v => ∃ d', (items d)[i]? = some d' ∧ v = .bl (rowOfB (items d).length d')) has_none (by omega) (fun i H2 hi s2 => ?_) (fun H2 s2 => ?_) (fun i x H2 H3 C hi s2 _ hy hC => ?_) fun Da H2 rs nD s2 hD hrl hE => ?_
      · exact its_go (qx H2 (s1.trans s2.same)) (List.getElem?_eq_getElem hi)
      · exact its_stop (qx H2 (s1.trans s2.same)) (Nat.le_refl _)
      · obtain ⟨rfl, ex⟩ := its_yld hy (qx H2 (s1.trans s2.same))
        obtain ⟨d', ed, pd⟩ := pyVs_get px ex
        refine ⟨rfl, ?_⟩
        refine ⟨_, rfl, a, vx, rfl, sq_or (qx _ (s1.trans s2.same)), _, rfl, x, d', (items d).length, by rw [hvl]; rfl, .inl (PyV.mono (s1.trans s2.same) pd), hbs d' (List.mem_of_getElem? ed), fun H4 s4 => hC _ _ (RX.of s4) ⟨d', ed, rfl⟩⟩
      · have er : rs = (items d).map fun d' => V.bl (rowOfB (items d).length d') := map_of_get (n := 0) _ (by rw [hrl, hvl]) hE
        refine ⟨Da, (items d).map (rowOfB (items d).length), rfl, .inl (.inl (by rw [hD, er, List.map_map]; rfl)), _, rfl, ?_⟩
        have ea : ((items d).map (rowOfB (items d).length)).all id = (items d).all (rowOfB (items d).length) := by rw [List.all_map]; rfl
        rw [ea]
        cases e2 : (items d).all (rowOfB (items d).length) with
        | false =>
          refine iteF ?_
          have : gridB d = false := by unfold gridB; rw [e2, Bool.and_false]; rfl
          rw [← this]
          exact q H2 (s1.trans s2.same)
        | true =>
          refine iteT ?_
          refine ⟨_, rfl, a, vx, rfl, sq_or (qx H2 (s1.trans s2.same)), _, _, rfl, rfl, ?_⟩
          have : decide ((vx.length : Int) > 0) = gridB d := by
            unfold gridB
            rw [e1, e2, ← hvl]
            by_cases z : 0 < vx.length
            · rw [decide_eq_true (show (vx.length : Int) > 0 by omega), decide_eq_true z]; rfl
            · rw [decide_eq_false (show ¬ (vx.length : Int) > 0 by omega), decide_eq_false z]; rfl
          show Q (.bl (decide ((vx.length : Int) > 0))) _
          rw [this]
          exact q H2 (s1.trans s2.same)
end
end T34
set_option Elab.async false
set_option linter.all false
set_option maxRecDepth 100000
set_option maxHeartbeats 1000000
namespace T34
open PySem PySem.Spec PyProof.Rows L2 Gd Zn Rp Dn Tb Gn En Zs
def GridD (d : PyData) (M : List (List Int)) : Prop := isSeq d = true ∧ (items d).length = M.length ∧ ∀ (i : Nat) (d' : PyData), (items d)[i]? = some d' → ∃ r, M[i]? = some r ∧ (d' = .list (iD r) ∨ d' = .tuple (iD r))
theorem grid_mx (M : List (List Int)) : GridD (mxD M) M := by
  refine ⟨rfl, ?_, fun i d' e => ?_⟩
  · show (M.map _).length = _
    rw [List.length_map]
  · have e : (M.map fun r => PyData.tuple (r.map PyData.int))[i]? = some d' := e
    rw [List.getElem?_map] at e
    cases h : M[i]? with
    | none => rw [h] at e; cases e
    | some r =>
      rw [h] at e
      cases e
      exact ⟨r, rfl, .inr rfl⟩
theorem RowV.sq {K : PySem.W.Frag} {H : Hp} {v : V} {r : List Int} (h : RowV H v r) : ∃ b, v = .ref b ∧ SqV K H true b (r.map V.int) := by
  obtain ⟨b, e, h⟩ := h
  exact ⟨b, e, .inl (.inl h)⟩
theorem RowV.seq {H : Hp} {v : V} {r : List Int} (h : RowV H v r) : SeqV H v (iD r) := .inr h.py
/-- the columns -/
theorem row_all {K : PySem.W.Frag} {H : Hp} {j m : Nat} (hj : j < m) : ∀ {src : List (Bool × Addr)} {M : List (List Int)}, RowsV H (kRefs src) M → (∀ q ∈ src, q.1 = true) → (∀ r ∈ M, r.length = m) → RowAt K H j src (M.map fun r => .int (r.getD j 0))
  | [], _, .nil, _, _ => trivial
  | (t, a) :: src, r :: M, .cons p q, ht, hm => by
    have e : t = true := ht _ List.mem_cons_self
    subst e
    obtain ⟨b, eb, hb⟩ := p
    cases eb
    have hr : j < r.length := by rw [hm r List.mem_cons_self]; exact hj
    refine ⟨⟨r.map V.int, .inl (.inl hb), ?_⟩, row_all hj q (fun q hq => ht q (List.mem_cons_of_mem _ hq)) fun r hr => hm r (List.mem_cons_of_mem _ hr)⟩
    show _ = some (V.int (r.getD j 0))
    rw [List.getElem?_map, List.getElem?_eq_getElem hr, List.getD_eq_getElem?_getD, List.getElem?_eq_getElem hr]
    rfl
theorem all_sq {K : PySem.W.Frag} {H : Hp} : ∀ {src : List (Bool × Addr)} {M : List (List Int)}, RowsV H (kRefs src) M → (∀ q ∈ src, q.1 = true) → AllSq K H src
  | [], _, _, _ => fun q hq => by cases hq
  | (t, a) :: src, r :: M, .cons p q, ht => fun z hz => by
    have e : t = true := ht _ List.mem_cons_self
    subst e
    obtain ⟨b, eb, hb⟩ := p
    cases eb
    rcases List.mem_cons.mp hz with rfl | hz
    · exact ⟨_, .inl (.inl hb)⟩
    · exact all_sq q (fun q hq => ht q (List.mem_cons_of_mem _ hq)) z hz
theorem rows_src {H : Hp} {vs : List V} {M : List (List Int)} (h : RowsV H vs M) : ∃ src : List (Bool × Addr), vs = kRefs src ∧ ∀ q ∈ src, q.1 = true := by
  induction h with
  | nil => exact ⟨[], rfl, fun q hq => by cases hq⟩
  | cons p _ ih =>
    obtain ⟨src, e, h⟩ := ih
    obtain ⟨b, rfl, _⟩ := p
    refine ⟨(true, b) :: src, by rw [e]; rfl, fun q hq => ?_⟩
    rcases List.mem_cons.mp hq with rfl | hq
    · rfl
    · exact h q hq
section
variable {P : Program} {w : World} {K : PySem.W.Frag} {mg : Str → Option Value} {base : Heap}
abbrev st_copied : Stmt := top 19
def sp_copied : Sp := fun vs H Q _ => ∃ v d M, vs = [v] ∧ AnyV H v d ∧ GridD d M ∧ M.length ≤ 100 ∧ ∀ v' H', Same H H' → Mx H' v' M → Q v' H'
theorem sc_copied : FnScope ["rows", "row"] ["rows"] (defScope st_copied) := ⟨rfl, rfl, rfl, by decide +kernel, rfl, by decide +kernel, by decide +kernel⟩
theorem ok_copied {f : Addr} {fd : FuncData} (F : Fun K "copied" "copied" st_copied f fd) (T : Txt mg) : FnOk P w K mg base CX0 1 f fd ["rows"] sp_copied := by
  refine F.ok sc_copied (fun vs H Q E h => ?_) (fun cdv A outer s H vs Q E hr h => ?_)
  · obtain ⟨v, d, M, rfl, _⟩ := h
    rfl
  · obtain ⟨v, d, M, rfl, av, ⟨g1, g2, g3⟩, hb, q⟩ := h
    refine ⟨_, pss_one (ps_ret (pe_callTy (r := rTup K) c_tup (by rfl) T.tuple PyProof.Rows.boot_tuple (pa_cons (pe_lc (own := [("row", 1)]) (g := gName 1) (tt := tYes) rfl sc_copied.nd (pi_seq (pv 0))
        (blkOk_by (N := ["rows", "row"]) (sc := defScope st_copied) (by decide +kernel))
        (fun _ _ _ _ _ => pg_name (i := 1) sc_copied.nd rfl (Or.inl rfl) (Or.inr rfl)) (fun _ _ _ _ _ => pts_nil)
        (fun _ _ _ _ _ => pe_callTy (r := rTup K) c_tup (by rfl) T.tuple PyProof.Rows.boot_tuple (pa_cons (pv 1) pa_nil))) pa_nil))), ?_⟩
    obtain ⟨t, a, vx, rfl, qx, px⟩ := (seq_of av g1).at K
    have hvl : vx.length = M.length := by rw [pyVs_len px]; exact g2
    refine r_ret (r_cb (r_cons ?_))
    refine tlc_of (Its t K a) (H1 := H) (fun R hR => ⟨_, rfl, t, a, vx, rfl, qx H (Same.refl H), hR⟩) ?_
    refine lc_ks (p := none) M.length (fun i v H => ∃ r, M[i]? = some r ∧ RowV H v r) (fun i v H H' k h => ?_) has_none (by omega) (fun i H2 hi s2 => ?_) (fun H2 s2 => ?_) (fun i x H2 H3 C hi s2 _ hy hC => ?_) fun Da H2 rs nD s2 hD hrl hE => ?_
    · obtain ⟨r, e, h⟩ := h
      exact ⟨r, e, h.mono k⟩
    · exact its_go (qx H2 s2.same) (List.getElem?_eq_getElem (by rw [hvl]; exact hi))
    · exact its_stop (qx H2 s2.same) (by rw [hvl]; exact Nat.le_refl _)
    · obtain ⟨rfl, ex⟩ := its_yld hy (qx H2 s2.same)
      obtain ⟨d', ed, pd⟩ := pyVs_get px ex
      obtain ⟨r, er, hd⟩ := g3 i d' ed
      refine ⟨rfl, ?_⟩
      refine r_cb (r_cons ?_)
      refine ⟨_, rfl, ?_⟩
      rcases hd with rfl | rfl
      · cases pd with
        | lst e p =>
          have ez := pyVs_ints p
          subst ez
          exact ⟨_, _, rfl, .inl ⟨.inl (.inl (s2.same _ _ e)), fun l nl => hC _ _ (RX.new nl) ⟨r, er, l, rfl, upd_same⟩⟩⟩
      · cases pd with
        | tup e p =>
          have ez := pyVs_ints p
          subst ez
          exact ⟨_, _, rfl, .inr ⟨.inl (.inl (s2.same _ _ e)), hC _ _ (RX.refl _) ⟨r, er, _, rfl, s2.same _ _ e⟩⟩⟩
    · refine ⟨Da, rs, rfl, .inl ⟨.inl (.inl hD), fun l nl => ?_⟩⟩
      have k : Same H2 (upd H2 l (.tup rs)) := same_new nl
      refine q _ _ (s2.same.trans k) ⟨l, rs, rfl, upd_same, ?_⟩
      exact (rows_of hrl hE).mono (KS.of k)
abbrev st_across : Stmt := top 20
def sp_across : Sp := fun vs H Q _ => ∃ v M m, vs = [v] ∧ Mx H v M ∧ 0 < M.length ∧ M.length ≤ 3 ∧ m ≤ 100 ∧ (∀ r ∈ M, r.length = m) ∧ ∀ v' H', Same H H' → Mx H' v' (transp m M) → Q v' H'
theorem sc_across : FnScope ["rows", "column"] ["rows"] (defScope st_across) := ⟨rfl, rfl, rfl, by decide +kernel, rfl, by decide +kernel, by decide +kernel⟩
theorem transp_get {m j : Nat} {M : List (List Int)} (h : j < m) : (transp m M)[j]? = some (M.map fun r => r.getD j 0) := by
  unfold transp
  rw [List.getElem?_map, List.getElem?_range h]
  rfl
theorem transp_len {m : Nat} {M : List (List Int)} : (transp m M).length = m := by
  unfold transp
  rw [List.length_map, List.length_range]
theorem ok_across {f : Addr} {fd : FuncData} (F : Fun K "across" "across" st_across f fd) (T : Txt mg) : FnOk P w K mg base CX0 1 f fd ["rows"] sp_across := by
  refine F.ok sc_across (fun vs H Q E h => ?_) (fun cdv A outer s H vs Q E hr h => ?_)
  · obtain ⟨v, M, m, rfl, _⟩ := h
    rfl
  · obtain ⟨v, M, m, rfl, ⟨a, vx, rfl, ha, hR⟩, h0, h3, hm, hM, q⟩ := h
    refine ⟨_, pss_one (ps_ret (pe_callTy (r := rTup K) c_tup (by rfl) T.tuple PyProof.Rows.boot_tuple (pa_cons (pe_lc (own := [("column", 1)]) (g := gName 1) (tt := tYes) rfl sc_across.nd (pi_zipStar (by rfl) T.zip (pv 0))
        (blkOk_by (N := ["rows", "column"]) (sc := defScope st_across) (by decide +kernel))
        (fun _ _ _ _ _ => pg_name (i := 1) sc_across.nd rfl (Or.inl rfl) (Or.inr rfl)) (fun _ _ _ _ _ => pts_nil)
        (fun _ _ _ _ _ => pe_callTy (r := rTup K) c_tup (by rfl) T.tuple PyProof.Rows.boot_tuple (pa_cons (pv 1) pa_nil))) pa_nil))), ?_⟩
    obtain ⟨src, rfl, hs⟩ := rows_src hR
    have hsl : src.length = M.length := by
      have := hR.len
      unfold kRefs at this
      rw [List.length_map] at this
      exact this
    refine r_ret (r_cb (r_cons ?_))
    refine tlc_of (Itn K src) (H1 := H) (fun R hR' => ⟨_, rfl, a, src, rfl, .inl (.inl (.inl ha)), by omega, by omega, all_sq hR hs, hR'⟩) ?_
    refine lc_ks (p := none) m (fun i v H => ∃ r, (transp m M)[i]? = some r ∧ RowV H v r) (fun i v H H' k h => ?_) has_none (by omega) (fun i H2 hi s2 => ?_) (fun H2 s2 => ?_) (fun i x H2 H3 C hi s2 _ hy hC => ?_) fun Da H2 rs nD s2 hD hrl hE => ?_
    · obtain ⟨r, e, h⟩ := h
      exact ⟨r, e, h.mono k⟩
    · exact ⟨_, row_all hi (hR.mono (KS.of s2.same)) hs hM⟩
    · refine ⟨all_sq (hR.mono (KS.of s2.same)) hs, ?_⟩
      cases src with
      | nil => rw [List.length_nil] at hsl; omega
      | cons q src =>
        obtain ⟨t, b⟩ := q
        cases M with
        | nil => rw [List.length_nil] at h0; omega
        | cons r M =>
          cases hR with
          | cons p _ =>
            obtain ⟨b', eb, hb⟩ := p
            cases eb
            have e : t = true := hs _ List.mem_cons_self
            subst e
            exact ⟨_, List.mem_cons_self, _, .inl (.inl (s2.same _ _ hb)), by rw [List.length_map, hM r List.mem_cons_self]; exact Nat.le_refl _⟩
    · obtain ⟨T2, ys, rfl, nT, rfl, hu⟩ := hy
      have ey := (hu _ (row_all hi (hR.mono (KS.of s2.same)) hs hM)).symm
      subst ey
      refine ⟨rfl, ?_⟩
      refine r_cb (r_cons ?_)
      refine ⟨_, rfl, ?_⟩
      refine ⟨T2, _, rfl, .inr ⟨.inl (.inl upd_same), hC _ _ (RX.new nT) ⟨_, transp_get hi, T2, rfl, ?_⟩⟩⟩
      rw [upd_same, List.map_map]
      rfl
    · refine ⟨Da, rs, rfl, .inl ⟨.inl (.inl hD), fun l nl => ?_⟩⟩
      have k : Same H2 (upd H2 l (.tup rs)) := same_new nl
      refine q _ _ (s2.same.trans k) ⟨l, rs, rfl, upd_same, ?_⟩
      exact (rows_of (by rw [hrl, transp_len]) hE).mono (KS.of k)
end
end T34
set_option Elab.async false
set_option linter.all false
set_option maxRecDepth 100000
set_option maxHeartbeats 1000000
namespace Ct
open PySem PySem.Spec PyProof.Rows L2 Gd Zn Rp Dn Tb
section
variable {X : Cx}
theorem op_catT0 : OpR X (binaryOp .Add) (fun x y H Q => ∃ a b ys, x = .ref a ∧ y = .ref b ∧ SqT X.K H a [] ∧ SqT X.K H b ys ∧ Q (.ref b) H) := by
  intro pins s σ H x y v u Q I rx ry h
  obtain ⟨a, b, ys, rfl, rfl, ha, hb, q⟩ := h
  cases (show v = Value.ref a from rx)
  cases (show u = Value.ref b from ry)
  obtain ⟨i1, r1, ⟨o1, g1, c1, n1, d1⟩, _⟩ := I.tuple ha
  obtain ⟨i2, r2, ⟨o2, g2, c2, n2, d2⟩, _⟩ := I.tuple hb
  obtain ⟨oc1, od1, odt1, os1⟩ := o1
  obtain ⟨oc2, od2, odt2, os2⟩ := o2
  subst c1 c2
  have e1 : odt1 = .seq i1.toArray n1 := d1
  have e2 : odt2 = .seq i2.toArray n2 := d2
  subst e1 e2
  have z : i1 = [] := by cases r1; rfl
  subst z
  refine concat_meets (T := "tuple") ⟨_, g1, rfl⟩ ⟨_, g2, rfl⟩ noFill_tuple_add seq_tuple_add F.slot_tuple_add F.entry_tuple_add (F.args_tuple_add_2 _ _) (tuple_addW0 a b _ _ n1 n2 _ _ _ _ rfl) ⟨g1, g2, ?_⟩
  exact ⟨.ref b, H, I, rfl, q⟩
def rCat (x y : V) (H : Hp) (Q : VK) : Prop := ∃ a b xs ys, x = .ref a ∧ y = .ref b ∧ H a = some (.tup xs) ∧ H b = some (.tup ys) ∧ xs.length + ys.length ≤ 1000 ∧ ∀ c H', Same H H' → H' c = some (.tup (xs ++ ys)) → Q (.ref c) H'
theorem op_cat3 : OpR X (binaryOp .Add) rCat := by
  intro pins s σ H x y v u Q I rx ry h
  obtain ⟨a, b, xs, ys, rfl, rfl, ha, hb, hl, q⟩ := h
  cases xs with
  | nil => exact op_catT0 pins s σ H _ _ v u Q I rx ry ⟨a, b, ys, rfl, rfl, .inl (.inl ha), .inl (.inl hb), q b H (Same.refl H) hb⟩
  | cons x0 xs =>
    refine op_catT pins s σ H _ _ v u Q I rx ry ⟨a, b, x0 :: xs, ys, rfl, rfl, .inl (.inl ha), .inl (.inl hb), List.cons_ne_nil _ _, Nat.le_trans hl (by decide), fun e => ?_, fun e p hp => ?_⟩
    · subst e
      exact q a H (Same.refl H) (by rw [List.append_nil]; exact ha)
    · exact q p _ (same_new hp) upd_same
end
end Ct
set_option Elab.async false
set_option linter.all false
set_option maxRecDepth 100000
set_option maxHeartbeats 1000000
namespace T34
open PySem PySem.Spec PyProof.Rows L2 Gd Zn Rp Dn Tb Gn En Zs Ct
def ledM (M : List (List Int)) (xs : List Int) : List Int := M.map fun r => dot r xs
def mulM (n : Nat) (M N : List (List Int)) : List (List Int) := M.map fun r => ledM (transp n N) r
section
variable {P : Program} {w : World} {K : PySem.W.Frag} {mg : Str → Option Value} {base : Heap}
abbrev st_led_row : Stmt := top 22
def sp_led_row : Sp := fun vs H Q _ => ∃ v o M xs, vs = [v, o] ∧ Mx H v M ∧ SeqV H o (iD xs) ∧ M.length ≤ 100 ∧ xs.length ≤ 100 ∧ (∀ x ∈ xs, Small x) ∧ (∀ r ∈ M, r.length = xs.length ∧ ∀ x ∈ r, Small x) ∧ ∀ v' H', Same H H' → RowV H' v' (ledM M xs) → Q v' H'
theorem sc_led_row : FnScope ["rows", "row", "line"] ["rows", "row"] (defScope st_led_row) := ⟨rfl, rfl, rfl, by decide +kernel, rfl, by decide +kernel, by decide +kernel⟩
theorem ok_led_row {f : Addr} {fd : FuncData} (F : Fun K "led_row" "led_row" st_led_row f fd) (T : Txt mg) (D1 : Def P w K mg base "scalar" 1 ["row", "other"] sp_scalar) : FnOk P w K mg base CX0 2 f fd ["rows", "row"] sp_led_row := by
  refine F.ok sc_led_row (fun vs H Q E h => ?_) (fun cdv A outer s H vs Q E hr h => ?_)
  · obtain ⟨v, o, M, xs, rfl, _⟩ := h
    rfl
  · obtain ⟨v, o, M, xs, rfl, ⟨a, vx, rfl, ha, hR⟩, hx, hM, hxl, hsx, hsm, q⟩ := h
    refine ⟨_, pss_one (ps_ret (pe_callTy (r := rTup K) c_tup (by rfl) T.tuple PyProof.Rows.boot_tuple (pa_cons (pe_lc (own := [("line", 2)]) (g := gName 2) (tt := tYes) rfl sc_led_row.nd (pi_seq (pv 0))
        (blkOk_by (N := ["rows", "row", "line"]) (sc := defScope st_led_row) (by decide +kernel))
        (fun _ _ _ _ _ => pg_name (i := 2) sc_led_row.nd rfl (Or.inl rfl) (Or.inr rfl)) (fun _ _ _ _ _ => pts_nil)
        (fun _ _ _ _ _ => pe_def (X := Cx.blk _ _ _ _ _ _) D1 hr (pa_cons (pv 2) (pa_cons (pv 1) pa_nil)))) pa_nil))), ?_⟩
    have hvl : vx.length = M.length := hR.len
    have qx : ∀ H', Same H H' → SqV K H' true a vx := fun H' s => .inl (.inl (s _ _ ha))
    refine r_ret (r_cb (r_cons ?_))
    refine tlc_of (Its true K a) (H1 := H) (fun R hR => ⟨_, rfl, true, a, vx, rfl, qx H (Same.refl H), hR⟩) ?_
    refine lc_el (p := none) M.length (fun i v => ∃ r, M[i]? = some r ∧ v = .int (dot r xs)) has_none (by omega) (fun i H2 hi s2 => ?_) (fun H2 s2 => ?_) (fun i x H2 H3 C hi s2 _ hy hC => ?_) fun Da H2 rs nD s2 hD hrl hE => ?_
    · exact its_go (qx H2 s2.same) (List.getElem?_eq_getElem (by rw [hvl]; exact hi))
    · exact its_stop (qx H2 s2.same) (by rw [hvl]; exact Nat.le_refl _)
    · obtain ⟨rfl, ex⟩ := its_yld hy (qx H2 s2.same)
      obtain ⟨r, er, hr'⟩ := hR.get ex
      obtain ⟨l1, l2⟩ := hsm r (List.mem_of_getElem? er)
      refine ⟨rfl, ?_⟩
      refine ⟨_, rfl, _, rfl, x, o, r, xs, rfl, T34.RowV.seq (hr'.mono (KS.of s2.same)), SeqV.mono s2.same hx, l1, by omega, l2, hsx, fun H4 s4 => hC _ _ (RX.of s4) ⟨r, er, rfl⟩⟩
    · have er : rs = M.map fun r => V.int (dot r xs) := map_of_get (n := 0) _ hrl hE
      refine ⟨Da, rs, rfl, .inl ⟨.inl (.inl hD), fun l nl => ?_⟩⟩
      refine q _ _ (s2.same.trans (same_new nl)) ⟨l, rfl, ?_⟩
      rw [upd_same, er]
      unfold ledM
      rw [List.map_map]
      rfl
abbrev st_multiplied : Stmt := top 23
def sp_multiplied : Sp := fun vs H Q _ => ∃ v o M N, ∃ n : Nat, vs = [v, o] ∧ Mx H v M ∧ Mx H o N ∧ M.length ≤ 100 ∧ 0 < N.length ∧ N.length ≤ 3 ∧ n ≤ 100 ∧ (∀ r ∈ M, r.length = N.length ∧ ∀ x ∈ r, Small x) ∧ (∀ r ∈ N, r.length = n ∧ ∀ x ∈ r, Small x) ∧ ∀ v' H', Same H H' → Mx H' v' (mulM n M N) → Q v' H'
theorem sc_multiplied : FnScope ["rows", "others", "columns", "row"] ["rows", "others"] (defScope st_multiplied) := ⟨rfl, rfl, rfl, by decide +kernel, rfl, by decide +kernel, by decide +kernel⟩
theorem transp_mem {n : Nat} {N : List (List Int)} {c : List Int} (h : c ∈ transp n N) : ∃ j, j < n ∧ c = N.map fun r => r.getD j 0 := by
  unfold transp at h
  rw [List.mem_map] at h
  obtain ⟨j, hj, e⟩ := h
  exact ⟨j, List.mem_range.mp hj, e.symm⟩
theorem small_transp {n : Nat} {N : List (List Int)} (hN : ∀ r ∈ N, r.length = n ∧ ∀ x ∈ r, Small x) : ∀ c ∈ transp n N, c.length = N.length ∧ ∀ x ∈ c, Small x := fun c hc => by
  obtain ⟨j, hj, rfl⟩ := transp_mem hc
  refine ⟨List.length_map .., fun x hx => ?_⟩
  rw [List.mem_map] at hx
  obtain ⟨r, hr, rfl⟩ := hx
  obtain ⟨l1, l2⟩ := hN r hr
  have : j < r.length := by omega
  rw [List.getD_eq_getElem?_getD, List.getElem?_eq_getElem this]
  exact l2 _ (List.getElem_mem this)
theorem ok_multiplied {f : Addr} {fd : FuncData} (F : Fun K "multiplied" "multiplied" st_multiplied f fd) (T : Txt mg) (D1 : Def P w K mg base "across" 1 ["rows"] sp_across) (D2 : Def P w K mg base "led_row" 2 ["rows", "row"] sp_led_row) :
    FnOk P w K mg base CX0 3 f fd ["rows", "others"] sp_multiplied := by
  refine F.ok sc_multiplied (fun vs H Q E h => ?_) (fun cdv A outer s H vs Q E hr h => ?_)
  · obtain ⟨v, o, M, N, n, rfl, _⟩ := h
    rfl
  · obtain ⟨v, o, M, N, n, rfl, hMx, hN, hM, h0, h3, hn, hMr, hNr, q⟩ := h
    refine ⟨_, pss_cons (ps_set (i := 2) sc_multiplied.nd rfl (Or.inr rfl) (pe_def D1 hr (pa_cons (pv 1) pa_nil)))
      (pss_one (ps_ret (pe_callTy (r := rTup K) c_tup (by rfl) T.tuple PyProof.Rows.boot_tuple (pa_cons (pe_lc (own := [("row", 3)]) (g := gName 3) (tt := tYes) rfl sc_multiplied.nd (pi_seq (pv 0))
        (blkOk_by (N := ["rows", "others", "columns", "row"]) (sc := defScope st_multiplied) (by decide +kernel))
        (fun _ _ _ _ _ => pg_name (i := 3) sc_multiplied.nd rfl (Or.inl rfl) (Or.inr rfl)) (fun _ _ _ _ _ => pts_nil)
        (fun _ _ _ _ _ => pe_def (X := Cx.blk _ _ _ _ _ _) D2 hr (pa_cons (pv 2) (pa_cons (pv 3) pa_nil)))) pa_nil)))), ?_⟩
    refine ⟨_, rfl, o, N, n, rfl, hN, h0, h3, hn, fun r hr => (hNr r hr).1, fun cv H1 s1 hC => ?_⟩
    obtain ⟨a, vx, rfl, ha, hR⟩ := hMx.mono (KS.of s1)
    have hvl : vx.length = M.length := hR.len
    have qx : ∀ H', Same H1 H' → SqV K H' true a vx := fun H' s => .inl (.inl (s _ _ ha))
    refine r_nret (r_cb (r_cons ?_))
    refine tlc_of (Its true K a) (H1 := H1) (fun R hR => ⟨_, rfl, true, a, vx, rfl, qx H1 (Same.refl H1), hR⟩) ?_
    refine lc_ks (p := none) M.length (fun i v H => ∃ r, (mulM n M N)[i]? = some r ∧ RowV H v r) (fun i v H H' k h => ?_) has_none (by omega) (fun i H2 hi s2 => ?_) (fun H2 s2 => ?_) (fun i x H2 H3 C hi s2 _ hy hC' => ?_) fun Da H2 rs nD s2 hD hrl hE => ?_
    · obtain ⟨r, e, h⟩ := h
      exact ⟨r, e, h.mono k⟩
    · exact its_go (qx H2 s2.same) (List.getElem?_eq_getElem (by rw [hvl]; exact hi))
    · exact its_stop (qx H2 s2.same) (by rw [hvl]; exact Nat.le_refl _)
    · obtain ⟨rfl, ex⟩ := its_yld hy (qx H2 s2.same)
      obtain ⟨r, er, hr'⟩ := hR.get ex
      obtain ⟨lr, lsm⟩ := hMr r (List.mem_of_getElem? er)
      refine ⟨rfl, ?_⟩
      refine ⟨_, rfl, _, rfl, cv, x, transp n N, r, rfl, hC.mono (KS.of s2.same), T34.RowV.seq (hr'.mono (KS.of s2.same)), by rw [transp_len]; exact hn, by omega, lsm, fun c hc => ?_, fun v' H4 s4 hv => hC' _ _ (RX.of s4) ⟨_, ?_, hv⟩⟩
      · obtain ⟨l1, l2⟩ := small_transp hNr c hc
        exact ⟨by omega, l2⟩
      · unfold mulM
        rw [List.getElem?_map, er]
        rfl
    · refine ⟨Da, rs, rfl, .inl ⟨.inl (.inl hD), fun l nl => ?_⟩⟩
      have k : Same H2 (upd H2 l (.tup rs)) := same_new nl
      refine q _ _ (s1.trans (s2.same.trans k)) ⟨l, rs, rfl, upd_same, ?_⟩
      exact (rows_of (by rw [hrl]; unfold mulM; rw [List.length_map]) hE).mono (KS.of k)
end
end T34
set_option Elab.async false
set_option linter.all false
set_option maxRecDepth 100000
set_option maxHeartbeats 1000000
namespace Tb
open PySem PySem.Spec PyProof.Rows L2 Gd Zn Rp Dn
theorem RowsV.snoc {H : Hp} {vs : List V} {M : List (List Int)} {v : V} {r : List Int} (h : RowsV H vs M) (p : RowV H v r) : RowsV H (vs ++ [v]) (M ++ [r]) := by
  induction h with
  | nil => exact .cons p .nil
  | cons q _ ih => exact .cons q ih
/-- a comprehension with a test whose elements are rows; W: what stands after so many steps -/
theorem lc_rows {p : Option Addr} {J : It} {g : TG} {tt : TT} {te : TE} {vs : List Nat} {σ : L2.St} {H1 : Hp} {Q : VK} (n : Nat) (W : Nat → List (List Int)) (hp : Has p H1) (hn : n ≤ 1000) (w0 : W 0 = []) (wl : ∀ i, i ≤ n → (W i).length ≤ i)
    (hgo : ∀ i H, i < n → RX p H1 H → J.go i H) (hst : ∀ H, RX p H1 H → J.stop n H)
    (hs : ∀ i x H H' (C : V → Hp → Prop) (C0 : Hp → Prop), i < n → RX p H1 H → Has p H → J.yld i H x H' → (∀ y r H4, RX p H H4 → W (i + 1) = W i ++ [r] → RowV H4 y r → C y H4) → (∀ H4, RX p H H4 → W (i + 1) = W i → C0 H4) →
      g x (wipe σ vs) H' fun σ2 H2 => wipe σ2 vs = wipe σ vs ∧ tt σ2 H2 fun b H3 => if b = true then te σ2 H3 C else C0 H3)
    (hd : ∀ D H xs, H1 D = none → RX p H1 H → H D = some (.lst xs) → RowsV H xs (W n) → Q (.ref D) H) :
    LcB g tt te vs σ Q J H1 := by
  intro D nD
  have nP : p ≠ some D := hp.ne nD
  refine ⟨fun i m H => i ≤ n ∧ m = n - i ∧ RX p H1 H ∧ ∃ xs, H D = some (.lst xs) ∧ RowsV H xs (W i), ⟨n, Nat.zero_le _, rfl, RX.new nD, [], upd_same, by rw [w0]; exact .nil⟩, ?_⟩
  rintro i m H ⟨hi, rfl, s1, xs, hD, hR⟩
  by_cases hlt : i < n
  · refine .inr ⟨hgo i H hlt s1, fun H' => i + 1 ≤ n ∧ RX p H1 H' ∧ ∃ xs, H' D = some (.lst xs) ∧ RowsV H' xs (W (i + 1)), fun H' h => ⟨n - (i + 1), by omega, h.1, rfl, h.2⟩, fun x H' hy => ?_⟩
    have hpH := hp.to s1
    refine hs i x H H' _ _ hlt s1 hpH hy (fun y r H4 s4 e4 r4 => ?_) fun H4 s4 e4 => ?_
    · have hD4 := s4.keep D _ nP hD
      have k5 : KS H4 (upd H4 D (.lst (xs ++ [y]))) := KS.lst hD4
      refine ⟨xs, hD4, ?_, hlt, (s1.trans s4).mut nD hp, _, upd_same, ?_⟩
      · have h1 := hR.len
        have h2 := wl i hi
        exact Nat.lt_of_lt_of_le (by omega : xs.length < 1001) (by decide)
      · rw [e4]
        exact ((hR.mono (KS.rx s4 hpH)).snoc r4).mono k5
    · refine ⟨hlt, s1.trans s4, xs, s4.keep D _ nP hD, ?_⟩
      rw [e4]
      exact hR.mono (KS.rx s4 hpH)
  · have e : i = n := by omega
    subst e
    exact .inl ⟨hst H s1, hd D H xs nD s1 hD hR⟩
end Tb
set_option Elab.async false
set_option linter.all false
set_option maxRecDepth 100000
set_option maxHeartbeats 1000000
namespace T34
open PySem PySem.Spec PyProof.Rows L2 Gd Zn Rp Dn Tb Gn En Zs Ct
def cutAt (k : Nat) (r : List Int) : List Int := r.take k ++ r.drop (k + 1)
def outW (M : List (List Int)) (at_ k : Nat) (i : Nat) : List (List Int) := ((List.range i).filter fun j => !decide (j = at_)).map fun j => cutAt k (M.getD j [])
def outM (M : List (List Int)) (at_ k : Nat) : List (List Int) := outW M at_ k M.length
theorem outW_succ (M : List (List Int)) (at_ k i : Nat) : outW M at_ k (i + 1) = outW M at_ k i ++ if i = at_ then [] else [cutAt k (M.getD i [])] := by
  unfold outW
  rw [List.range_succ, List.filter_append, List.map_append]
  by_cases h : i = at_ <;> simp [h]
theorem outW_len (M : List (List Int)) (at_ k i : Nat) : (outW M at_ k i).length ≤ i := by
  unfold outW
  rw [List.length_map]
  have := List.length_filter_le (fun j => !decide (j = at_)) (List.range i)
  rw [List.length_range] at this
  exact this
theorem cutV_to (r : List Int) (k : Nat) (h : k ≤ r.length) : cutV (r.map V.int) none (some (k : Int)) = (r.take k).map V.int := by
  unfold cutV
  rw [HT.sIx_nat, HT.sIx_none, List.length_map, List.drop_zero, Nat.min_eq_left h, Nat.sub_zero, List.map_take]
theorem cutV_from (r : List Int) (k : Nat) (h : k ≤ r.length) : cutV (r.map V.int) (some (k : Int)) none = (r.drop k).map V.int := by
  unfold cutV
  rw [HT.sIx_nat, HT.sIx_none, List.length_map, Nat.min_eq_left h, List.map_drop]
  exact List.take_of_length_le (by rw [List.length_drop, List.length_map]; exact Nat.le_refl _)
section
variable {P : Program} {w : World} {K : PySem.W.Frag} {mg : Str → Option Value} {base : Heap}
abbrev st_without : Stmt := top 24
def sp_without : Sp := fun vs H Q _ => ∃ v M, ∃ a k n : Nat, vs = [v, .int a, .int k] ∧ Mx H v M ∧ M.length ≤ 100 ∧ n ≤ 100 ∧ k < n ∧ (∀ r ∈ M, r.length = n) ∧ ∀ v' H', Same H H' → Mx H' v' (outM M a k) → Q v' H'
abbrev N_without : List Str := ["rows", "at", "place", "index", "row"]
theorem sc_without : FnScope N_without ["rows", "at", "place"] (defScope st_without) := ⟨rfl, rfl, rfl, by decide +kernel, rfl, by decide +kernel, by decide +kernel⟩
theorem ok_without {f : Addr} {fd : FuncData} (F : Fun K "without" "without" st_without f fd) (T : Txt mg) : FnOk P w K mg base CX0 1 f fd ["rows", "at", "place"] sp_without := by
  refine F.ok sc_without (fun vs H Q E h => ?_) (fun cdv A outer s H vs Q E hr h => ?_)
  · obtain ⟨v, M, a, k, n, rfl, _⟩ := h
    rfl
  · obtain ⟨v, M, at_, k, n, rfl, ⟨a, vx, rfl, ha, hR⟩, hM, hn, hk, hMr, q⟩ := h
    refine ⟨_, pss_one (ps_ret (pe_callTy (r := rTup K) c_tup (by rfl) T.tuple PyProof.Rows.boot_tuple (pa_cons (pe_lc (own := [("index", 3), ("row", 4)]) (g := gTup K 2 (gCons (gName 3) (gCons (gName 4) gNil))) rfl sc_without.nd (pi_enumS (by rfl) T.enum (pa_cons (pv 0) pa_nil))
        (blkOk_by (N := N_without) (sc := defScope st_without) (by decide +kernel))
        (fun _ _ _ _ _ => pg_tup rfl (pgs_cons (pg_name (i := 3) sc_without.nd rfl (Or.inl rfl) (Or.inr rfl)) (pgs_cons (pg_name (i := 4) sc_without.nd rfl (Or.inl rfl) (Or.inr rfl)) pgs_nil)))
        (fun _ _ _ _ _ => pts_one (pt_cmpR op_ne (pv 3) (pv 1) (nomark _)))
        (fun _ _ _ _ _ => pe_op (r := Ct.rCat) op_cat3 (pe_slice (r := rSlT K) sl_tup (pv 4) po_none (po_some (pv 2))) (pe_slice (r := rSlT K) sl_tup (pv 4) (po_some (pe_op op_add (pv 2) pe_int)) po_none))) pa_nil))), ?_⟩
    have hvl : vx.length = M.length := hR.len
    have qx : ∀ H', Same H H' → SqV K H' true a vx := fun H' s => .inl (.inl (s _ _ ha))
    refine r_ret (r_cb (r_cons ?_))
    refine tlc_of (Ite2 K true a) (H1 := H) (fun R hR => ⟨_, rfl, true, a, vx, rfl, qx H (Same.refl H), hR⟩) ?_
    refine lc_rows (p := none) M.length (outW M at_ k) has_none (by omega) rfl (fun i _ => outW_len M at_ k i) (fun i H2 hi s2 => ?_) (fun H2 s2 => ?_) (fun i x H2 H3 C C0 hi s2 _ hy hC hC0 => ?_) fun Da H2 rs nD s2 hD hE => ?_
    · exact ⟨vx, vx[i]'(by omega), qx H2 s2.same, List.getElem?_eq_getElem (by omega)⟩
    · exact ⟨vx, qx H2 s2.same, by omega⟩
    · obtain ⟨T2, y, rfl, nT, rfl, hu⟩ := hy
      have ey := hu vx (qx H2 s2.same)
      obtain ⟨r, er, b, eb, hb⟩ := hR.get ey
      subst eb
      have lr := hMr r (List.mem_of_getElem? er)
      have hb2 := s2.same _ _ hb
      have eo : M.getD i [] = r := by rw [List.getD_eq_getElem?_getD, er]; rfl
      refine ⟨T2, _, rfl, .inl (.inl upd_same), rfl, _, _, rfl, _, _, rfl, rfl, rfl, ?_⟩
      have sTT : Same H2 (upd H2 T2 (.tup [V.int (i : Nat), .ref b])) := same_new nT
      refine ⟨_, rfl, _, rfl, rfl, _, rfl, ?_⟩
      by_cases hia : i = at_
      · rw [show (!decide (V.int ((i : Nat) : Int) = V.int (at_ : Int))) = false by simp [hia]]
        refine iteF ?_
        exact hC0 _ (RX.new nT) (by rw [outW_succ, if_pos hia, List.append_nil])
      · rw [show (!decide (V.int ((i : Nat) : Int) = V.int (at_ : Int))) = true by simp; omega]
        refine iteT ?_
        have hw : outW M at_ k (i + 1) = outW M at_ k i ++ [cutAt k r] := by rw [outW_succ, if_neg hia, eo]
        have kr : k < r.length := by omega
        have hb3 := sTT _ _ hb2
        refine r_op ?_
        refine ⟨_, rfl, _, rfl, _, rfl, b, _, rfl, .inl (.inl hb3), ?_, fun p1 np1 => ?_⟩
        · rintro ⟨_, z⟩
          rw [HT.sIx_nat, List.length_map] at z
          omega
        · rw [cutV_to r k (by omega)]
          have s1 := same_new (o := .tup ((r.take k).map V.int)) np1
          refine ⟨_, rfl, _, rfl, _, _, rfl, rfl, _, rfl, b, _, rfl, .inl (.inl (s1 _ _ hb3)), ?_, fun p2 np2 => ?_⟩
          · rintro ⟨z, _⟩
            have e : ((k : Int) + 1) = ((k + 1 : Nat) : Int) := by omega
            rw [e, HT.sIx_nat, List.length_map] at z
            omega
          · have e : ((k : Int) + 1) = ((k + 1 : Nat) : Int) := by omega
            rw [e, cutV_from r (k + 1) (by omega)]
            have s2' := same_new (o := .tup ((r.drop (k + 1)).map V.int)) np2
            refine ⟨p1, p2, _, _, rfl, rfl, s2' _ _ upd_same, upd_same, ?_, fun c H5 s5 hc => ?_⟩
            · rw [List.length_map, List.length_map, List.length_take, List.length_drop]
              omega
            · refine hC _ (cutAt k r) _ (RX.of (sTT.trans (s1.trans (s2'.trans s5)))) hw ⟨c, rfl, ?_⟩
              rw [hc]
              unfold cutAt
              rw [List.map_append]
    · refine ⟨Da, rs, rfl, .inl ⟨.inl (.inl hD), fun l nl => ?_⟩⟩
      have k : Same H2 (upd H2 l (.tup rs)) := same_new nl
      refine q _ _ (s2.same.trans k) ⟨l, rs, rfl, upd_same, ?_⟩
      exact hE.mono (KS.of k)
end
end T34
set_option Elab.async false
set_option linter.all false
set_option maxRecDepth 100000
set_option maxHeartbeats 1000000
namespace T34
open PySem PySem.Spec PyProof.Rows L2 Gd Zn Rp Dn Tb Gn En Zs Ct
mutual
def detM : Nat → List (List Int) → Int
  | 0, _ => 1
  | n + 1, M => ((List.range (n + 1)).map fun k => (M.getD 0 []).getD k 0 * cofM n M 0 k).sum
def cofM : Nat → List (List Int) → Nat → Nat → Int
  | n, M, a, k => if (a + k) % 2 = 0 then detM n (outM M a k) else -detM n (outM M a k)
end
structure Sq (n : Nat) (M : List (List Int)) : Prop where
  len : M.length = n
  row : ∀ r ∈ M, r.length = n
  small : ∀ r ∈ M, ∀ x ∈ r, Small x
theorem cutAt_len {r : List Int} {n k : Nat} (h : r.length = n + 1) (hk : k ≤ n) : (cutAt k r).length = n := by
  unfold cutAt
  rw [List.length_append, List.length_take, List.length_drop]
  omega
theorem cutAt_mem {r : List Int} {k : Nat} {x : Int} (h : x ∈ cutAt k r) : x ∈ r := by
  unfold cutAt at h
  rcases List.mem_append.mp h with h | h
  · exact List.mem_of_mem_take h
  · exact List.mem_of_mem_drop h
theorem out_count (n a : Nat) (h : a < n) : ((List.range n).filter fun j => !decide (j = a)).length = n - 1 := by
  have h1 : ((List.range n).filter fun j => !decide (j = a)).length + ((List.range n).filter fun j => decide (j = a)).length = n := by
    have := List.length_eq_countP_add_countP (p := fun j => decide (j = a)) (l := List.range n)
    rw [List.length_range, List.countP_eq_length_filter, List.countP_eq_length_filter] at this
    have e : (fun j => !decide (j = a)) = fun j => decide ¬ decide (j = a) = true := by
      funext j
      by_cases h : j = a <;> simp [h]
    rw [e]
    omega
  have h2 : ((List.range n).filter fun j => decide (j = a)).length = 1 := by
    have : ((List.range n).filter fun j => decide (j = a)) = [a] := by
      clear h1
      induction n with
      | zero => omega
      | succ n ih =>
        rw [List.range_succ, List.filter_append]
        by_cases z : n = a
        · subst z
          have : (List.range n).filter (fun j => decide (j = n)) = [] := by
            rw [List.filter_eq_nil_iff]
            intro x hx
            have := List.mem_range.mp hx
            simp
            omega
          rw [this]
          simp
        · rw [ih (by omega)]
          simp [z]
    rw [this]
    rfl
  omega
theorem Sq.out {n a k : Nat} {M : List (List Int)} (h : Sq (n + 1) M) (ha : a ≤ n) (hk : k ≤ n) : Sq n (outM M a k) := by
  have g : ∀ c ∈ outM M a k, ∃ r ∈ M, c = cutAt k r := fun c hc => by
    unfold outM outW at hc
    rw [List.mem_map] at hc
    obtain ⟨j, hj, e⟩ := hc
    rw [List.mem_filter] at hj
    have hj := List.mem_range.mp hj.1
    refine ⟨M[j], List.getElem_mem hj, ?_⟩
    rw [← e, List.getD_eq_getElem?_getD, List.getElem?_eq_getElem hj]
    rfl
  refine ⟨?_, fun c hc => ?_, fun c hc x hx => ?_⟩
  · unfold outM outW
    rw [List.length_map, h.len, out_count (n + 1) a (by omega)]
    rfl
  · obtain ⟨r, hr, rfl⟩ := g c hc
    exact cutAt_len (h.row r hr) hk
  · obtain ⟨r, hr, rfl⟩ := g c hc
    exact h.small r hr x (cutAt_mem hx)
theorem det_bd : ∀ (n : Nat) {M : List (List Int)}, Sq n M → n ≤ 4 → (detM n M).natAbs < 2 ^ (n * 20010 + 1)
  | 0, M, _, _ => by unfold detM; decide
  | n + 1, M, hS, hn => by
    unfold detM
    have h : ∀ x ∈ (List.range (n + 1)).map (fun k => (M.getD 0 []).getD k 0 * cofM n M 0 k), x.natAbs ≤ 2 ^ (20000 + (n * 20010 + 1)) := fun x hx => by
      obtain ⟨k, hk, rfl⟩ := List.mem_map.mp hx
      have hk := List.mem_range.mp hk
      have ih := det_bd n (hS.out (Nat.zero_le n) (show k ≤ n by omega)) (by omega)
      have c : (cofM n M 0 k).natAbs < 2 ^ (n * 20010 + 1) := by
        unfold cofM
        split
        · exact ih
        · rw [Int.natAbs_neg]; exact ih
      have l0 : 0 < M.length := by rw [hS.len]; omega
      have m0 : M.getD 0 [] ∈ M := by rw [List.getD_eq_getElem?_getD, List.getElem?_eq_getElem l0]; exact List.getElem_mem l0
      have lr := hS.row _ m0
      have m1 : (M.getD 0 []).getD k 0 ∈ M.getD 0 [] := by
        generalize M.getD 0 [] = r at lr
        rw [List.getD_eq_getElem?_getD, List.getElem?_eq_getElem (by omega)]
        exact List.getElem_mem _
      obtain ⟨e, e1, e2⟩ := hS.small _ m0 _ m1
      exact Nat.le_of_lt (Wd.abs_mul (Wd.abs_mono e2 e1) c)
    have s := Wd.abs_sum h
    rw [List.length_map, List.length_range] at s
    have g : (n + 1) * 2 ^ (20000 + (n * 20010 + 1)) < 2 ^ ((n + 1) * 20010 + 1) := by
      have e : (n + 1) * 20010 + 1 = 10 + (20000 + (n * 20010 + 1)) := by omega
      rw [e, Nat.pow_add 2 10]
      exact Nat.mul_lt_mul_of_pos_right (by omega) (Nat.pow_pos (by decide))
    exact Nat.lt_of_le_of_lt s g
theorem det_wid {n : Nat} {M : List (List Int)} (hn : n ≤ 4) (hS : Sq n M) : Wd.Wid (detM n M) := ⟨_, by omega, det_bd n hS hn⟩
theorem cof_wid {n a k : Nat} {M : List (List Int)} (hn : n ≤ 3) (hS : Sq (n + 1) M) (ha : a ≤ n) (hk : k ≤ n) : Wd.Wid (cofM n M a k) := by
  have ih := det_bd n (hS.out ha hk) (by omega)
  refine ⟨n * 20010 + 1, by omega, ?_⟩
  unfold cofM
  split
  · exact ih
  · rw [Int.natAbs_neg]; exact ih
section
variable {P : Program} {w : World} {K : PySem.W.Frag} {mg : Str → Option Value} {base : Heap}
abbrev st_cofactor : Stmt := top 26
def sp_cof (n : Nat) : Sp := fun vs H Q _ => ∃ v M, ∃ a k : Nat, vs = [v, .int a, .int k] ∧ Mx H v M ∧ n ≤ 3 ∧ Sq (n + 1) M ∧ a ≤ n ∧ k ≤ n ∧ ∀ H', Same H H' → Q (.int (cofM n M a k)) H'
def sp_det (n : Nat) : Sp := fun vs H Q _ => ∃ v M, vs = [v] ∧ Mx H v M ∧ n ≤ 4 ∧ Sq n M ∧ ∀ H', Same H H' → Q (.int (detM n M)) H'
abbrev N_cof : List Str := ["rows", "at", "place", "left"]
theorem sc_cofactor : FnScope N_cof ["rows", "at", "place"] (defScope st_cofactor) := ⟨rfl, rfl, rfl, by decide +kernel, rfl, by decide +kernel, by decide +kernel⟩
theorem ok_cofactor {f : Addr} {fd : FuncData} (n : Nat) (F : Fun K "cofactor" "cofactor" st_cofactor f fd) (T : Txt mg) (D1 : Def P w K mg base "without" 1 ["rows", "at", "place"] sp_without) (D2 : Def P w K mg base "determinant_of" (2 * n + 1) ["rows"] (sp_det n)) :
    FnOk P w K mg base CX0 (2 * n + 2) f fd ["rows", "at", "place"] (sp_cof n) := by
  refine F.ok sc_cofactor (fun vs H Q E h => ?_) (fun cdv A outer s H vs Q E hr h => ?_)
  · obtain ⟨v, M, a, k, rfl, _⟩ := h
    rfl
  · obtain ⟨v, M, a, k, rfl, hM, hn, hS, ha, hk, q⟩ := h
    refine ⟨_, pss_cons (ps_set (i := 3) sc_cofactor.nd rfl (Or.inl rfl) (pe_def D2 hr (pa_cons (pe_def D1 hr (pa_cons (pv 0) (pa_cons (pv 1) (pa_cons (pv 2) pa_nil))) (by omega)) pa_nil) (by omega)))
      (pss_one (ps_ret (pe_ifExp (pt_cmpR op_eq (pe_op op_mod (pe_op op_add (pv 1) (pv 2)) pe_int) pe_int (nomark _)) (pv 3) (pe_un un_neg (pv 3))))), ?_⟩
    refine ⟨_, rfl, _, rfl, _, rfl, v, M, a, k, n + 1, rfl, hM, by rw [hS.len]; omega, by omega, by omega, hS.row, fun v1 H1 s1 h1 => ?_⟩
    refine ⟨v1, outM M a k, rfl, h1, by omega, hS.out ha hk, fun H2 s2 => ?_⟩
    have ec : ((a : Int) + (k : Int)) % 2 = 0 ↔ (a + k) % 2 = 0 := by omega
    have q2 := q H2 (s1.trans s2)
    refine ⟨_, rfl, _, rfl, _, _, rfl, rfl, _, _, rfl, rfl, (show (0 : Int) < 2 by decide), rfl, _, rfl, ?_⟩
    by_cases z : (a + k) % 2 = 0
    · rw [decide_eq_true (congrArg V.int (ec.mpr z))]
      refine iteT ⟨_, rfl, ?_⟩
      have : cofM n M a k = detM n (outM M a k) := by unfold cofM; rw [if_pos z]
      rw [this] at q2
      exact q2
    · rw [decide_eq_false (fun e => z (ec.mp (V.int.inj e)))]
      refine iteF ⟨_, rfl, _, rfl, ?_⟩
      have : cofM n M a k = -detM n (outM M a k) := by unfold cofM; rw [if_neg z]
      rw [this] at q2
      exact q2
abbrev st_det : Stmt := top 25
abbrev N_det : List Str := ["rows", "place", "number"]
theorem sc_det : FnScope N_det ["rows"] (defScope st_det) := ⟨rfl, rfl, rfl, by decide +kernel, rfl, by decide +kernel, by decide +kernel⟩
theorem ok_det0 {f : Addr} {fd : FuncData} (F : Fun K "determinant_of" "determinant_of" st_det f fd) (T : Txt mg) : FnOk P w K mg base CX0 1 f fd ["rows"] (sp_det 0) := by
  refine F.ok sc_det (fun vs H Q E h => ?_) (fun cdv A outer s H vs Q E hr h => ?_)
  · obtain ⟨v, M, rfl, _⟩ := h
    rfl
  · obtain ⟨v, M, rfl, ⟨a, vx, rfl, ha, hR⟩, hn, hS, q⟩ := h
    refine ⟨_, pss_cons (ps_if (pt_cmpR op_eq (pe_callB (r := Dn.rLen K) c_len (by rfl) T.len PySem.boot_len (pa_cons (pv 0) pa_nil)) pe_int (nomark _)) (pss_one (ps_ret pe_int)) pss_nil)
      pss_dead, ?_⟩
    have hvl : vx.length = 0 := by rw [hR.len]; exact hS.len
    refine ⟨_, rfl, a, vx, rfl, .inr (.inl (.inl ha)), rfl, _, rfl, ?_⟩
    rw [decide_eq_true (show V.int (vx.length : Int) = V.int 0 by rw [hvl]; rfl)]
    refine iteT ?_
    have := q H (Same.refl H)
    unfold detM at this
    exact this
theorem len2 {α : Type} {l : List α} (h : l.length = 2) : ∃ a b, l = [a, b] := by
  match l, h with
  | [a, b], _ => exact ⟨a, b, rfl⟩
theorem det2 (a b c d : Int) : detM 2 [[a, b], [c, d]] = a * d - b * c := by
  simp [detM, cofM, outM, outW, cutAt, List.range_succ, List.getD]
  grind
theorem ok_det2 {f : Addr} {fd : FuncData} (F : Fun K "determinant_of" "determinant_of" st_det f fd) (T : Txt mg) : FnOk P w K mg base CX0 5 f fd ["rows"] (sp_det 2) := by
  refine F.ok sc_det (fun vs H Q E h => ?_) (fun cdv A outer s H vs Q E hr h => ?_)
  · obtain ⟨v, M, rfl, _⟩ := h
    rfl
  · obtain ⟨v, M, rfl, ⟨a, vx, rfl, ha, hR⟩, hn, hS, q⟩ := h
    refine ⟨_, pss_cons (ps_if (pt_cmpR op_eq (pe_callB (r := Dn.rLen K) c_len (by rfl) T.len PySem.boot_len (pa_cons (pv 0) pa_nil)) pe_int (nomark _)) pss_dead pss_nil)
      (pss_cons (ps_if (pt_cmpR op_eq (pe_callB (r := Dn.rLen K) c_len (by rfl) T.len PySem.boot_len (pa_cons (pv 0) pa_nil)) pe_int (nomark _)) (pss_one (ps_ret (pe_op op_sub (pe_op op_mulX (pe_ix ix_sq (pe_ix ix_sq (pv 0) pe_int (fun _ _ => rfl)) pe_int (fun _ _ => rfl)) (pe_ix ix_sq (pe_ix ix_sq (pv 0) pe_int (fun _ _ => rfl)) pe_int (fun _ _ => rfl))) (pe_op op_mulX (pe_ix ix_sq (pe_ix ix_sq (pv 0) pe_int (fun _ _ => rfl)) pe_int (fun _ _ => rfl)) (pe_ix ix_sq (pe_ix ix_sq (pv 0) pe_int (fun _ _ => rfl)) pe_int (fun _ _ => rfl)))))) pss_nil) pss_dead), ?_⟩
    obtain ⟨r1, r2, rfl⟩ := len2 hS.len
    obtain ⟨a1, b1, rfl⟩ := len2 (hS.row r1 (by simp))
    obtain ⟨c1, d1, rfl⟩ := len2 (hS.row r2 (by simp))
    have sa : Small a1 := hS.small [a1, b1] (by simp) a1 (by simp)
    have sb : Small b1 := hS.small [a1, b1] (by simp) b1 (by simp)
    have sc : Small c1 := hS.small [c1, d1] (by simp) c1 (by simp)
    have sd : Small d1 := hS.small [c1, d1] (by simp) d1 (by simp)
    have hvl : vx.length = 2 := by rw [hR.len]; rfl
    obtain ⟨x1, x2, rfl⟩ := len2 hvl
    obtain ⟨_, e1, p1, rfl, h1⟩ := hR.get (i := 0) rfl
    obtain ⟨_, e2, p2, rfl, h2⟩ := hR.get (i := 1) rfl
    cases e1
    cases e2
    have hA : SqV K H true a [V.ref p1, V.ref p2] := .inl (.inl ha)
    have hP : SqV K H true p1 [V.int a1, V.int b1] := .inl (.inl h1)
    have hQ : SqV K H true p2 [V.int c1, V.int d1] := .inl (.inl h2)
    refine ⟨_, rfl, a, _, rfl, .inr (.inl (.inl ha)), rfl, _, rfl, ?_⟩
    refine iteF ?_
    refine ⟨_, rfl, a, _, rfl, .inr (.inl (.inl ha)), rfl, _, rfl, ?_⟩
    refine iteT ?_
    have q2 := q H (Same.refl H)
    rw [det2] at q2
    refine ⟨_, rfl, true, a, _, (0 : Int), _, rfl, rfl, hA, atI_nat (j := 0) rfl, true, p1, _, (0 : Int), _, rfl, rfl, hP, atI_nat (j := 0) rfl, _, rfl, true, a, _, (1 : Int), _, rfl, rfl, hA, atI_nat (j := 1) rfl, true, p2, _, (1 : Int), _, rfl, rfl, hQ, atI_nat (j := 1) rfl, _, _, rfl, rfl, Wd.mul sa sd, _, rfl, true, a, _, (0 : Int), _, rfl, rfl, hA, atI_nat (j := 0) rfl, true, p1, _, (1 : Int), _, rfl, rfl, hP, atI_nat (j := 1) rfl, _, rfl, true, a, _, (1 : Int), _, rfl, rfl, hA, atI_nat (j := 1) rfl, true, p2, _, (0 : Int), _, rfl, rfl, hQ, atI_nat (j := 0) rfl, _, _, rfl, rfl, Wd.mul sb sc, _, _, rfl, rfl, q2⟩
theorem ok_detS {f : Addr} {fd : FuncData} (n : Nat) (n1 : n ≠ 1) (F : Fun K "determinant_of" "determinant_of" st_det f fd) (T : Txt mg) (D1 : Def P w K mg base "cofactor" (2 * n + 2) ["rows", "at", "place"] (sp_cof n)) :
    FnOk P w K mg base CX0 (2 * n + 3) f fd ["rows"] (sp_det (n + 1)) := by
  refine F.ok sc_det (fun vs H Q E h => ?_) (fun cdv A outer s H vs Q E hr h => ?_)
  · obtain ⟨v, M, rfl, _⟩ := h
    rfl
  · obtain ⟨v, M, rfl, ⟨a, vx, rfl, ha, hR⟩, hn, hS, q⟩ := h
    refine ⟨_, pss_cons (ps_if (pt_cmpR op_eq (pe_callB (r := Dn.rLen K) c_len (by rfl) T.len PySem.boot_len (pa_cons (pv 0) pa_nil)) pe_int (nomark _)) pss_dead pss_nil)
      (pss_cons (ps_if (pt_cmpR op_eq (pe_callB (r := Dn.rLen K) c_len (by rfl) T.len PySem.boot_len (pa_cons (pv 0) pa_nil)) pe_int (nomark _)) pss_dead pss_nil)
      (pss_one (ps_ret (pe_callB (cr_sum rfl) (by rfl) T.sum boot_sum (pa_cons (pe_lc (own := [("place", 1), ("number", 2)]) (g := gTup K 2 (gCons (gName 1) (gCons (gName 2) gNil))) (tt := tYes) rfl sc_det.nd (pi_enumS (by rfl) T.enum (pa_cons (pe_ix ix_sq (pv 0) pe_int (fun _ _ => rfl)) pa_nil))
        (blkOk_by (N := N_det) (sc := defScope st_det) (by decide +kernel))
        (fun _ _ _ _ _ => pg_tup rfl (pgs_cons (pg_name (i := 1) sc_det.nd rfl (Or.inl rfl) (Or.inr rfl)) (pgs_cons (pg_name (i := 2) sc_det.nd rfl (Or.inl rfl) (Or.inr rfl)) pgs_nil)))
        (fun _ _ _ _ _ => pts_nil)
        (fun _ _ _ _ _ => pe_op op_mulX (pv 2) (pe_def (X := Cx.blk _ _ _ _ _ _) D1 hr (pa_cons (pv 0) (pa_cons pe_int (pa_cons (pv 1) pa_nil))) (by omega)))) pa_nil))))), ?_⟩
    have hvl : vx.length = n + 1 := by rw [hR.len]; exact hS.len
    refine ⟨_, rfl, a, vx, rfl, .inr (.inl (.inl ha)), rfl, _, rfl, ?_⟩
    rw [decide_eq_false (show ¬ V.int (vx.length : Int) = V.int 0 from fun e => by have := V.int.inj e; omega)]
    refine iteF ?_
    refine ⟨_, rfl, a, vx, rfl, .inr (.inl (.inl ha)), rfl, _, rfl, ?_⟩
    rw [decide_eq_false (show ¬ V.int (vx.length : Int) = V.int 2 from fun e => by have := V.int.inj e; omega)]
    refine iteF ?_
    have e0 : vx[0]? = some vx[0] := List.getElem?_eq_getElem (by omega)
    obtain ⟨r, er, b, eb, hb⟩ := hR.get e0
    have lr := hS.row r (List.mem_of_getElem? er)
    have sr := hS.small r (List.mem_of_getElem? er)
    have e1 : M.getD 0 [] = r := by rw [List.getD_eq_getElem?_getD, er]; rfl
    rw [eb] at e0
    have qb : ∀ H', Same H H' → SqV K H' true b (r.map V.int) := fun H' s => .inl (.inl (s _ _ hb))
    refine r_nret (r_cb (r_cons ?_))
    refine tlc_of (Ite2 K true b) (H1 := H) (fun R hR' => ⟨_, rfl, true, a, vx, (0 : Int), _, rfl, rfl, .inl (.inl ha), atI_nat e0, true, b, r.map V.int, rfl, qb H (Same.refl H), hR'⟩) ?_
    refine lc_el (p := none) (n + 1) (fun i v => v = .int (r.getD i 0 * cofM n M 0 i)) has_none (by omega) (fun i H2 hi s2 => ?_) (fun H2 s2 => ?_) (fun i x H2 H3 C hi s2 _ hy hC => ?_) fun Da H2 rs nD s2 hD hrl hE => ?_
    · exact ⟨_, _, qb H2 s2.same, List.getElem?_eq_getElem (by rw [List.length_map]; omega)⟩
    · exact ⟨_, qb H2 s2.same, by rw [List.length_map]; omega⟩
    · obtain ⟨T2, y, rfl, nT, rfl, hu⟩ := hy
      have ey := hu _ (qb H2 s2.same)
      have hi' : i < r.length := by omega
      rw [List.getElem?_map, List.getElem?_eq_getElem hi'] at ey
      cases ey
      have eg : r.getD i 0 = r[i] := by rw [List.getD_eq_getElem?_getD, List.getElem?_eq_getElem hi']; rfl
      have sT : Same H2 (upd H2 T2 (.tup [V.int (i : Nat), V.int r[i]])) := same_new nT
      refine ⟨T2, _, rfl, .inl (.inl upd_same), rfl, _, _, rfl, _, _, rfl, rfl, rfl, ?_⟩
      refine ⟨_, rfl, _, rfl, _, rfl, _, M, 0, i, rfl, ?_, by omega, hS, Nat.zero_le _, by omega, fun H4 s4 => ?_⟩
      · exact Mx.mono (KS.of (s2.same.trans sT)) ⟨a, vx, rfl, ha, hR⟩
      · refine ⟨_, _, rfl, rfl, Wd.mulW (sr _ (List.getElem_mem hi')).w (cof_wid (by omega) hS (Nat.zero_le _) (by omega)), hC _ _ (RX.of (sT.trans s4)) ?_⟩
        rw [eg]
    · have er' : rs = (List.range (n + 1)).map fun k => V.int (r.getD k 0 * cofM n M 0 k) := map_of_get (n := 0) _ (by rw [hrl, List.length_range]) fun i v e => by
        have hi : i < n + 1 := by rw [← hrl]; exact (List.getElem?_eq_some_iff.mp e).1
        exact ⟨i, List.getElem?_range hi, hE i v e⟩
      refine ⟨Da, (List.range (n + 1)).map fun k => r.getD k 0 * cofM n M 0 k, rfl, .inl (.inl ?_), ?_⟩
      · rw [hD, er', List.map_map]
        rfl
      · have := q H2 s2.same
        unfold detM at this
        rw [e1] at this
        exact this
/-- both, by the size -/
theorem ok_dets {f g : Addr} {fd gd : FuncData} (F : Fun K "determinant_of" "determinant_of" st_det f fd) (G : Fun K "cofactor" "cofactor" st_cofactor g gd) (T : Txt mg) (D1 : Def P w K mg base "without" 1 ["rows", "at", "place"] sp_without)
    (mf : mg "determinant_of" = some (.ref f)) (kf : PySem.W.keepIn K (.ref f) = true) (bf : Binds K fd ["rows"] []) (mg' : mg "cofactor" = some (.ref g)) (kg : PySem.W.keepIn K (.ref g) = true) (bg : Binds K gd ["rows", "at", "place"] []) :
    ∀ n, Def P w K mg base "determinant_of" (2 * n + 1) ["rows"] (sp_det n) ∧ Def P w K mg base "cofactor" (2 * n + 2) ["rows", "at", "place"] (sp_cof n)
  | 0 => ⟨⟨f, fd, ok_det0 F T, mf, kf, bf⟩, ⟨g, gd, ok_cofactor 0 G T D1 ⟨f, fd, ok_det0 F T, mf, kf, bf⟩, mg', kg, bg⟩⟩
  | n + 1 => by
    have d : Def P w K mg base "determinant_of" (2 * (n + 1) + 1) ["rows"] (sp_det (n + 1)) := by
      by_cases z : n = 1
      · subst z
        exact ⟨f, fd, ok_det2 F T, mf, kf, bf⟩
      · exact ⟨f, fd, ok_detS n z F T (ok_dets F G T D1 mf kf bf mg' kg bg n).2, mf, kf, bf⟩
    exact ⟨d, ⟨g, gd, ok_cofactor (n + 1) G T D1 d, mg', kg, bg⟩⟩
end
end T34
set_option Elab.async false
set_option linter.all false
set_option maxRecDepth 100000
set_option maxHeartbeats 1000000
namespace Op
open PySem PySem.Spec PyProof.Rows L2
def rOwnB (C : Addr) (sp : Sp) (E : XK) (x y : V) (H : Hp) (Q : VK) : Prop :=
  ∃ a dx fs b dy gs, x = .ref a ∧ y = .ref b ∧ H a = some (.ins C dx fs) ∧ H b = some (.ins C dy gs) ∧ sp [x, y] H (fun v H' => (∃ c, v = .ref c) ∧ Q v H') E
theorem op_mulOwn {X : Cx} {CX : CXT} {C g : Addr} {n : Nat} {sp : Sp} {E : XK} {cd : ClassData} {rest : List Value} (hc : W.clsIn X.K C = some cd) (hm : cd.mro = Value.ref C :: rest)
    (hf : W.findIn X.K (.ref C) (dunder "mul") = some (some (.ref g))) (hfn : W.isFn X.K (.ref g) = true) (G : FnR X.prog X.w X.K X.mg X.base CX n g sp) (room : Room n X.A) (ps : Passes CX X E) : OpR X (binaryOp .Mult) (rOwnB C sp E) := by
  intro pins s σ H x y v u Q I rx ry h
  obtain ⟨a, dx, fs, b, dy, gs, rfl, rfl, ha, hb, q⟩ := h
  cases (show v = Value.ref a from rx)
  cases (show u = Value.ref b from ry)
  have oa : s.heap.get? a = some (W.instObj C dx) := by have := I.hok a _ ha; unfold ObjOk at this; exact this.2.2.2.1
  have ob : s.heap.get? b = some (W.instObj C dy) := by have := I.hok b _ hb; unfold ObjOk at this; exact this.2.2.2.1
  have kin := I.kIn
  unfold binaryOp
  refine wpAny_holding ?_
  show wpAny _ _ (binaryOp1 "mul" (.ref a) (.ref b) >>= _) _ _ _
  refine wpAny_bind ?_
  unfold binaryOp1
  refine wpAny_bind (wpAny_typeOf_ref oa ?_)
  refine wpAny_bind (wpAny_typeOf_ref ob ?_)
  refine wpAny_bind (W.fills_K (M := model X.prog X.w) kin hc hm hf X.A _ _ s (fun _ _ e => e) ?_)
  have e1 : ((W.instObj C dx).cls == (W.instObj C dy).cls) = true := by
    show (Value.ref C == Value.ref C) = true
    simp
  dsimp only
  rw [if_pos e1]
  refine wpAny_bind (wpAny_pure ?_)
  simp only [Bool.and_false, Bool.false_and, Bool.false_eq_true, if_false, if_true]
  refine wpAny_bind (wpAny_pure ?_)
  simp only [Bool.false_eq_true, if_false]
  refine wpAny_bind ?_
  unfold tryMethod
  refine wpAny_bind ?_
  unfold callSpecial?
  refine wpAny_bind ?_
  unfold specialOf
  refine wpAny_bind (wpAny_typeOf_ref oa ?_)
  refine W.looks_findIn (M := model X.prog X.w) kin hf X.A _ _ s (fun _ _ e => e) ?_
  dsimp only
  refine wpAny_holding ?_
  refine wpAny_bind ?_
  unfold bindSpecial
  have hfn' : W.typeIn X.K (.ref g) = some (.type "function") := by
    unfold W.isFn at hfn
    simpa using hfn
  refine wpAny_bind (W.looks_typeIn (M := model X.prog X.w) kin hfn' X.A _ _ s (fun _ _ e => e) ?_)
  rw [if_pos (by decide)]
  refine wpAny_pure ?_
  dsimp only
  refine wpAny_bind (wpAny_call ?_)
  refine codeAny_mono (run_fnR G room ps I (.cons rx (.cons ry .nil)) q) fun r s2 hq => ?_
  cases r with
  | error er => exact hq
  | ok fl =>
    cases fl with
    | ret u =>
      obtain ⟨v, H', I', rv, ⟨c, rfl⟩, hQ⟩ := hq
      have eu : u = Value.ref c := rv
      subst eu
      exact wpAny_pure (wpAny_pure (wpAny_pure (wpAny_pure ⟨_, H', I', rv, hQ⟩)))
    | next => exact (show False from hq).elim
    | brk => exact (show False from hq).elim
    | cont => exact (show False from hq).elim
end Op
set_option Elab.async false
set_option linter.all false
set_option maxRecDepth 100000
set_option maxHeartbeats 1000000
namespace T34
open PySem PySem.Spec PyProof.Rows L2 Gd Zn Rp Dn Tb Gn En Zs Ct Op
abbrev st_T (i : Nat) : Stmt := inClass (top 28) i
def fldsT (r : V) : List (Str × V) := putF "_rows" r []
theorem fldsT_rows (r : V) : (fldsT r).lookup ("_rows" : Str) = some r := by
  unfold fldsT
  rw [lookup_putF, if_pos rfl]
def Tab (C : Addr) (H : Hp) (v : V) (M : List (List Int)) : Prop := ∃ p dx r, v = .ref p ∧ H p = some (.ins C dx (fldsT r)) ∧ Mx H r M
theorem Tab.mono {C : Addr} {H H' : Hp} {v : V} {M : List (List Int)} (s : KS H H') (h : Tab C H v M) : Tab C H' v M := by
  obtain ⟨p, dx, r, e, h, m⟩ := h
  exact ⟨p, dx, r, e, s p _ (fun _ z => by cases z) h, m.mono s⟩
theorem RowsV.tup_mono {H H' : Hp} {vs : List V} {M : List (List Int)} (s : ∀ c xs, H c = some (.tup xs) → H' c = some (.tup xs)) (h : RowsV H vs M) : RowsV H' vs M := by
  induction h with
  | nil => exact .nil
  | cons p _ ih =>
    obtain ⟨b, e, h⟩ := p
    exact .cons ⟨b, e, s _ _ h⟩ ih
theorem Mx.tup_mono {H H' : Hp} {v : V} {M : List (List Int)} (s : ∀ c xs, H c = some (.tup xs) → H' c = some (.tup xs)) (h : Mx H v M) : Mx H' v M := by
  obtain ⟨a, vs, e, h, r⟩ := h
  exact ⟨a, vs, e, s _ _ h, T34.RowsV.tup_mono s r⟩
structure Tcl (K : PySem.W.Frag) (mg : Str → Option Value) (C : Addr) : Prop where
  cl : Cls K C
  nR : NoAttr K C "_rows"
  mgC : mg "Table" = some (.ref C)
  cc : PySem.W.findIn K (.ref C) "__class__" = some (some (.builtin "object.__class__"))
  cg : PySem.W.specialIn K (.builtin "object.__class__") "__get__" = some (some (.builtin "getset_descriptor.__get__"))
  ct : PySem.W.takesIn K (.builtin "object.__class__") = some true
  cm : PySem.W.mroIn K C (.type "object") = some true
theorem Tcl.ty {K : PySem.W.Frag} {mg : Str → Option Value} {C : Addr} (T : Tcl K mg C) {H : Hp} {p dx : Addr} {fs : List (Str × V)} (h : H p = some (.ins C dx fs)) : TyX K H (.ref p) (.ref C) := .base (.ins h T.cl T.cc T.cg T.ct T.cm)
theorem kit_own (K : PySem.W.Frag) (C : Addr) : PySem.W.kitOne K (.ref C) (.ref C) = some true := by
  unfold PySem.W.kitOne
  rw [if_pos (by simp)]
theorem row_true {n : Nat} {r : List Int} {d : PyData} (hd : d = .list (iD r) ∨ d = .tuple (iD r)) (h1 : 1 ≤ n) (h3 : n ≤ 3) (hl : r.length = n) : rowOfB n d = true := by
  have e1 : isSeq d = true := by rcases hd with rfl | rfl <;> rfl
  have e2 : items d = iD r := by rcases hd with rfl | rfl <;> rfl
  have e3 : (iD r).length = n := by unfold iD; rw [List.length_map]; exact hl
  have e4 : (iD r).all isIntD = true := by
    unfold iD
    rw [List.all_map]
    simp [isIntD, Function.comp_def]
  unfold rowOfB rowB
  rw [e1, e2, e3, e4, decide_eq_true h1, decide_eq_true h3, decide_eq_true rfl]
  rfl
theorem grid_true {n : Nat} {d : PyData} {M : List (List Int)} (g : GridD d M) (h1 : 1 ≤ n) (h3 : n ≤ 3) (hS : Sq n M) : gridB d = true ∧ ∀ r ∈ items d, (items r).length = n := by
  obtain ⟨g1, g2, g3⟩ := g
  have hl : (items d).length = n := by rw [g2]; exact hS.len
  have hr : ∀ d' ∈ items d, ∃ r, r.length = n ∧ (d' = .list (iD r) ∨ d' = .tuple (iD r)) := fun d' hd => by
    obtain ⟨i, hi, e⟩ := List.getElem_of_mem hd
    obtain ⟨r, er, h⟩ := g3 i d' (by rw [List.getElem?_eq_getElem hi, e])
    exact ⟨r, hS.row r (List.mem_of_getElem? er), h⟩
  refine ⟨?_, fun d' hd => ?_⟩
  · unfold gridB
    rw [g1, hl, decide_eq_true (show 0 < n by omega), Bool.and_true, Bool.true_and, List.all_eq_true]
    intro d' hd
    obtain ⟨r, l, h⟩ := hr d' hd
    exact row_true h h1 h3 l
  · obtain ⟨r, l, h⟩ := hr d' hd
    rcases h with rfl | rfl
    · show (iD r).length = n
      unfold iD
      rw [List.length_map]; exact l
    · show (iD r).length = n
      unfold iD
      rw [List.length_map]; exact l
section
variable {P : Program} {w : World} {K : PySem.W.Frag} {mg : Str → Option Value} {base : Heap} {C : Addr}
def sp_init (C : Addr) : Sp := fun vs H Q _ => ∃ p dx v d M n, vs = [.ref p, v] ∧ H p = some (.ins C dx []) ∧ AnyV H v d ∧ GridD d M ∧ Sq n M ∧ 1 ≤ n ∧ n ≤ 3 ∧ (detM n M = 1 ∨ detM n M = -1) ∧
  ∀ H', (∀ c o, c ≠ p → H c = some o → H' c = some o) → Tab C H' (.ref p) M → Q .non H'
theorem sc_init : FnScope ["self", "rows", "kept"] ["self", "rows"] (defScope (st_T 0)) := ⟨rfl, rfl, rfl, by decide +kernel, rfl, by decide +kernel, by decide +kernel⟩
theorem ok_init {f : Addr} {fd : FuncData} (F : Fun K "__init__" "Table.__init__" (st_T 0) f fd) (T : Txt mg) (Tc : Tcl K mg C) (D1 : Def P w K mg base "is_grid" 4 ["value"] sp_is_grid) (D2 : Def P w K mg base "copied" 1 ["rows"] sp_copied)
    (D3 : ∀ n, Def P w K mg base "determinant_of" (2 * n + 1) ["rows"] (sp_det n)) : FnOk P w K mg base CX0 8 f fd ["self", "rows"] (sp_init C) := by
  refine F.ok sc_init (fun vs H Q E h => ?_) (fun cdv A outer s H vs Q E hr h => ?_)
  · obtain ⟨p, dx, v, d, M, n, rfl, _⟩ := h
    rfl
  · obtain ⟨p, dx, v, d, M, n, rfl, hp, av, g, hS, h1, h3, hdet, q⟩ := h
    obtain ⟨gt, gl⟩ := grid_true g h1 h3 hS
    refine ⟨_, pss_cons (ps_if (pt_not (pt_val (pe_def D1 hr (pa_cons (pv 1) pa_nil)))) pss_dead pss_nil)
      (pss_cons (ps_set (i := 2) sc_init.nd rfl (Or.inl rfl) (pe_def D2 hr (pa_cons (pv 1) pa_nil)))
      (pss_cons (ps_if (pt_cmpR op_notIn_seq (pe_def (D3 n) hr (pa_cons (pv 2) pa_nil) (by omega)) (pe_tup (pa_cons pe_int (pa_cons (pe_un un_neg pe_int) pa_nil))) (by rfl)) pss_dead pss_nil)
      (pss_one (ps_fld (pv 0) (pv 2) rfl)))), ?_⟩
    have hl : (items d).length = n := by rw [g.2.1]; exact hS.len
    refine ⟨_, rfl, v, d, rfl, av, by omega, fun r hr => by rw [gl r hr]; omega, fun H1 s1 => ⟨_, rfl, ?_⟩⟩
    rw [gt]
    refine iteF ?_
    refine ⟨_, rfl, v, d, M, rfl, av.mono s1, g, by rw [hS.len]; omega, fun v' H2 s2 hM => ?_⟩
    refine ⟨_, rfl, v', M, rfl, hM, by omega, hS, fun H3 s3 => ?_⟩
    refine ⟨_, rfl, (by show 2 ≤ sizeLine; decide), fun t nt => ?_⟩
    refine ⟨t, _, rfl, .inr (.inl (.inl upd_same)), rfl, rfl, _, rfl, ?_⟩
    have hin : (if true = true then !inV (V.int (detM n M)) [V.int 1, V.int (-1)] else inV (V.int (detM n M)) [V.int 1, V.int (-1)]) = false := by
      rcases hdet with e | e <;> rw [e] <;> decide +kernel
    rw [hin]
    refine iteF ?_
    have sT : Same H3 (upd H3 t (.tup [V.int 1, V.int (-1)])) := same_new nt
    have sA : Same H (upd H3 t (.tup [V.int 1, V.int (-1)])) := s1.trans (s2.trans (s3.trans sT))
    refine ⟨_, rfl, _, rfl, p, C, dx, [], rfl, sA _ _ hp, Tc.cl, Tc.nR, (by show 0 < 1000; decide), ?_⟩
    refine q _ (fun c o hc e => ?_) ?_
    · rw [upd_ne hc]
      exact sA _ _ e
    · refine ⟨p, dx, v', rfl, upd_same, T34.Mx.tup_mono (fun c xs e => ?_) hM⟩
      have e2 := (s3.trans sT) _ _ e
      have nc : c ≠ p := fun z => by
        subst z
        have := sA _ _ hp
        rw [e2] at this
        cases this
      rw [upd_ne nc]
      exact e2
end
end T34
set_option Elab.async false
set_option linter.all false
set_option maxRecDepth 100000
set_option maxHeartbeats 1000000
namespace T34
open PySem PySem.Spec PyProof.Rows L2 Gd Zn Rp Dn Tb Gn En Zs Ct Op
structure Prp (P : Program) (w : World) (K : PySem.W.Frag) (mg : Str → Option Value) (base : Heap) (C : Addr) (nm : Str) (k : Nat) (sp : Sp) : Prop where
  ex : ∃ (p g : Addr) (fd : FuncData), PropOf K C nm p g ∧ FnOk P w K mg base CX0 k g fd ["self"] sp ∧ Binds K fd ["self"] []
theorem pe_prp {X : Cx} {C : Addr} {nm : Str} {k j : Nat} {sp : Sp} {e : Expr} {ta : TE} {pos : Pos} (D : Prp X.prog X.w X.K X.mg X.base C nm k sp) (cl : Cls X.K C) (room : Room j X.A) (he : PE X e ta) (hkj : k + 1 ≤ j := by decide)
    (ha : PySem.attributeBase e nm X.env (PySem.eval e X.env) = PySem.eval e X.env := by rfl) : PE X (.Attribute e nm pos) (tProp C sp [] E0 ta) := by
  obtain ⟨p, g, fd, pr, G, b⟩ := D.ex
  exact pe_prop he cl pr G (room.mono hkj) b .nil pass0 ha
section
variable {P : Program} {w : World} {K : PySem.W.Frag} {mg : Str → Option Value} {base : Heap} {C : Addr}
def sp_rows (C : Addr) : Sp := fun vs H Q _ => ∃ v M, vs = [v] ∧ Tab C H v M ∧ ∀ r, Mx H r M → Q r H
theorem sc_rows : FnScope ["self"] ["self"] (defScope (st_T 1)) := ⟨rfl, rfl, rfl, by decide +kernel, rfl, by decide +kernel, by decide +kernel⟩
theorem ok_rows {f : Addr} {fd : FuncData} (F : Fun K "rows" "Table.rows" (st_T 1) f fd) (Tc : Tcl K mg C) : FnOk P w K mg base CX0 1 f fd ["self"] (sp_rows C) := by
  refine F.ok sc_rows (fun vs H Q E h => ?_) (fun cdv A outer s H vs Q E hr h => ?_)
  · obtain ⟨v, M, rfl, _⟩ := h
    rfl
  · obtain ⟨v, M, rfl, ⟨p, dx, r, rfl, hp, hM⟩, q⟩ := h
    refine ⟨_, pss_one (ps_ret (pe_fld (pv 0) rfl)), ?_⟩
    exact ⟨_, rfl, p, C, dx, _, _, rfl, hp, Tc.cl, Tc.nR, fldsT_rows _, q r hM⟩
def sp_size (C : Addr) : Sp := fun vs H Q _ => ∃ v M, vs = [v] ∧ Tab C H v M ∧ Q (.int M.length) H
theorem sc_size : FnScope ["self"] ["self"] (defScope (st_T 2)) := ⟨rfl, rfl, rfl, by decide +kernel, rfl, by decide +kernel, by decide +kernel⟩
theorem ok_size {f : Addr} {fd : FuncData} (F : Fun K "size" "Table.size" (st_T 2) f fd) (T : Txt mg) (Tc : Tcl K mg C) : FnOk P w K mg base CX0 1 f fd ["self"] (sp_size C) := by
  refine F.ok sc_size (fun vs H Q E h => ?_) (fun cdv A outer s H vs Q E hr h => ?_)
  · obtain ⟨v, M, rfl, _⟩ := h
    rfl
  · obtain ⟨v, M, rfl, ⟨p, dx, r, rfl, hp, a, vx, rfl, ha, hR⟩, q⟩ := h
    refine ⟨_, pss_one (ps_ret (pe_callB (r := Dn.rLen K) c_len (by rfl) T.len PySem.boot_len (pa_cons (pe_fld (pv 0) rfl) pa_nil))), ?_⟩
    refine ⟨_, rfl, p, C, dx, _, _, rfl, hp, Tc.cl, Tc.nR, fldsT_rows _, a, vx, rfl, .inr (.inl (.inl ha)), ?_⟩
    rw [hR.len]
    exact q
abbrev st_check_table : Stmt := top 29
def sp_check_table (C : Addr) : Sp := fun vs H Q _ => ∃ v M, vs = [v] ∧ Tab C H v M ∧ Q .non H
theorem sc_check_table : FnScope ["table"] ["table"] (defScope st_check_table) := ⟨rfl, rfl, rfl, by decide +kernel, rfl, by decide +kernel, by decide +kernel⟩
theorem ok_check_table {f : Addr} {fd : FuncData} (F : Fun K "check_table" "check_table" st_check_table f fd) (T : Txt mg) (Tc : Tcl K mg C) :
    FnOk P w K mg base CX0 1 f fd ["table"] (sp_check_table C) := by
  refine F.ok sc_check_table (fun vs H Q E h => ?_) (fun cdv A outer s H vs Q E hr h => ?_)
  · obtain ⟨v, M, rfl, _⟩ := h
    rfl
  · obtain ⟨v, M, rfl, ⟨p, dx, r, rfl, hp, hM⟩, q⟩ := h
    refine ⟨_, pss_one (ps_if (pt_not (pt_val (pe_callB (r := rIsi K) call_isi (by rfl) T.isi boot_isinstance (pa_cons (pv 0) (pa_cons (pe_glob (v := .ref C) (by rfl) Tc.mgC rfl) pa_nil))))) pss_dead pss_nil), ?_⟩
    refine ⟨_, rfl, .ref p, .ref C, _, _, _, rfl, .own C, Tc.ty hp, kit_own K C, _, rfl, ?_⟩
    exact iteF q
abbrev st_check_alike : Stmt := top 30
def sp_check_alike (C : Addr) : Sp := fun vs H Q _ => ∃ v o M N, vs = [v, o] ∧ Tab C H v M ∧ Tab C H o N ∧ M.length = N.length ∧ Q .non H
theorem sc_check_alike : FnScope ["one", "other"] ["one", "other"] (defScope st_check_alike) := ⟨rfl, rfl, rfl, by decide +kernel, rfl, by decide +kernel, by decide +kernel⟩
theorem ok_check_alike {f : Addr} {fd : FuncData} (F : Fun K "check_alike" "check_alike" st_check_alike f fd) (Tc : Tcl K mg C) (D1 : Prp P w K mg base C "size" 1 (sp_size C)) : FnOk P w K mg base CX0 3 f fd ["one", "other"] (sp_check_alike C) := by
  refine F.ok sc_check_alike (fun vs H Q E h => ?_) (fun cdv A outer s H vs Q E hr h => ?_)
  · obtain ⟨v, o, M, N, rfl, _⟩ := h
    rfl
  · obtain ⟨v, o, M, N, rfl, hv, ho, e, q⟩ := h
    refine ⟨_, pss_one (ps_if (pt_cmpR op_ne (pe_prp D1 Tc.cl hr (pv 0)) (pe_prp D1 Tc.cl hr (pv 1)) (nomark _)) pss_dead pss_nil), ?_⟩
    obtain ⟨p, dx, r, rfl, hp, hM⟩ := id hv
    obtain ⟨p2, dx2, r2, rfl, hp2, hM2⟩ := id ho
    refine ⟨_, rfl, p, dx, _, rfl, hp, _, M, rfl, hv, ?_⟩
    refine ⟨_, rfl, p2, dx2, _, rfl, hp2, _, N, rfl, ho, ?_⟩
    refine ⟨rfl, _, rfl, ?_⟩
    rw [show (!decide (V.int (M.length : Int) = V.int (N.length : Int))) = false by rw [e]; simp]
    exact iteF q
end
end T34
set_option Elab.async false
set_option linter.all false
set_option maxRecDepth 100000
set_option maxHeartbeats 1000000
namespace T34
open PySem PySem.Spec PyProof.Rows L2 Gd Zn Rp Dn Tb Gn En Zs Ct Op
structure Mkr (P : Program) (w : World) (K : PySem.W.Frag) (mg : Str → Option Value) (base : Heap) (C : Addr) : Prop where
  ex : ∃ (f : Addr) (fd : FuncData), Mk K C f ∧ FnOk P w K mg base CX0 8 f fd ["self", "rows"] (sp_init C) ∧ Binds K fd ["self", "rows"] []
theorem pe_mkr {X : Cx} {C : Addr} {j : Nat} {e : Expr} {t : TA} {p pos : Pos} (D : Mkr X.prog X.w X.K X.mg X.base C) (Tc : Tcl X.K X.mg C) (room : Room j X.A) (ha : PA X [e] t) (hkj : 9 ≤ j := by decide) (hg : Gl X "Table" := by rfl)
    (he : starEach [e] X.env = (false, eval e X.env) :: starEach [] X.env := by rfl) (hpl : (backTo pos (starEach [] X.env)).any (·.1) = false := by rfl) :
    PE X (.Call (.Name "Table" p) [e] [] pos) (tMake C (sp_init C) [] E0 t) := by
  obtain ⟨f, fd, m, G, b⟩ := D.ex
  exact pe_make m G (room.mono hkj) hg Tc.mgC b .nil pass0 ha (by decide +kernel) he hpl
theorem make_tab {C : Addr} {H : Hp} {v : V} {M : List (List Int)} {n : Nat} {Q : VK} {E : XK} (hM : Mx H v M) (hS : Sq n M) (h1 : 1 ≤ n) (h3 : n ≤ 3) (hd : detM n M = 1 ∨ detM n M = -1)
    (k : ∀ c H', Same H H' → Tab C H' (.ref c) M → Q (.ref c) H') : ∀ x dx : Addr, H x = none → H dx = none → dx ≠ x → sp_init C (V.ref x :: ([v] ++ [])) (upd (upd H dx (.own x)) x (.ins C dx [])) (fun u H2 => u = V.non ∧ Q (.ref x) H2) E := by
  intro x dx nx nd ne
  have s : Same H (upd (upd H dx (.own x)) x (.ins C dx [])) := fun c o e => by
    rw [upd_ne (ne_of_none e nx), upd_ne (ne_of_none e nd)]
    exact e
  refine ⟨x, dx, v, mxD M, M, n, rfl, upd_same, .inl (hM.mono (KS.of s)).py, grid_mx M, hS, h1, h3, hd, fun H' kp ht => ⟨rfl, k x H' (fun c o e => ?_) ht⟩⟩
  exact kp c o (ne_of_none e nx) (s c o e)
section
variable {P : Program} {w : World} {K : PySem.W.Frag} {mg : Str → Option Value} {base : Heap} {C : Addr}
def sp_mul (C : Addr) : Sp := fun vs H Q _ => ∃ v o M N, ∃ n : Nat, vs = [v, o] ∧ Tab C H v M ∧ Tab C H o N ∧ 1 ≤ n ∧ n ≤ 3 ∧ Sq n M ∧ Sq n N ∧ Sq n (mulM n M N) ∧ (detM n (mulM n M N) = 1 ∨ detM n (mulM n M N) = -1) ∧
  ∀ c H', Same H H' → Tab C H' (.ref c) (mulM n M N) → Q (.ref c) H'
theorem sc_mul : FnScope ["self", "other"] ["self", "other"] (defScope (st_T 7)) := ⟨rfl, rfl, rfl, by decide +kernel, rfl, by decide +kernel, by decide +kernel⟩
theorem ok_mul {f : Addr} {fd : FuncData} (F : Fun K "__mul__" "Table.__mul__" (st_T 7) f fd) (Tc : Tcl K mg C) (D1 : Def P w K mg base "check_table" 1 ["table"] (sp_check_table C)) (D2 : Def P w K mg base "check_alike" 3 ["one", "other"] (sp_check_alike C))
    (D3 : Def P w K mg base "multiplied" 3 ["rows", "others"] sp_multiplied) (D4 : Mkr P w K mg base C) (D5 : Prp P w K mg base C "rows" 1 (sp_rows C)) : FnOk P w K mg base CX0 10 f fd ["self", "other"] (sp_mul C) := by
  refine F.ok sc_mul (fun vs H Q E h => ?_) (fun cdv A outer s H vs Q E hr h => ?_)
  · obtain ⟨v, o, M, N, n, rfl, _⟩ := h
    rfl
  · obtain ⟨v, o, M, N, n, rfl, hv, ho, h1, h3, sM, sN, sMN, hd, q⟩ := h
    refine ⟨_, pss_cons (ps_expr (pe_def D1 hr (pa_cons (pv 1) pa_nil)))
      (pss_cons (ps_expr (pe_def D2 hr (pa_cons (pv 0) (pa_cons (pv 1) pa_nil))))
      (pss_one (ps_ret (pe_mkr D4 Tc hr (pa_cons (pe_def D3 hr (pa_cons (pe_fld (pv 0) rfl) (pa_cons (pe_prp D5 Tc.cl hr (pv 1)) pa_nil))) pa_nil))))), ?_⟩
    refine ⟨_, rfl, o, N, rfl, ho, ?_⟩
    refine ⟨_, rfl, _, rfl, v, o, M, N, rfl, hv, ho, by rw [sM.len, sN.len], ?_⟩
    obtain ⟨p, dx, r, rfl, hp, hM⟩ := id hv
    obtain ⟨p2, dx2, r2, rfl, hp2, hN⟩ := id ho
    refine ⟨_, rfl, p, C, dx, _, _, rfl, hp, Tc.cl, Tc.nR, fldsT_rows _, ?_⟩
    refine ⟨_, rfl, p2, dx2, _, rfl, hp2, _, N, rfl, ho, fun r3 hN3 => ?_⟩
    refine ⟨r, r3, M, N, n, rfl, hM, hN3, by rw [sM.len]; omega, by rw [sN.len]; omega, by rw [sN.len]; omega, by omega, fun c hc => ⟨by rw [sM.row c hc, sN.len], sM.small c hc⟩, fun c hc => ⟨sN.row c hc, sN.small c hc⟩, fun v' H' s' hMN => ?_⟩
    exact make_tab hMN sMN h1 h3 hd fun c H2 s2 ht => q c H2 (s'.trans s2) ht
end
end T34
set_option Elab.async false
set_option linter.all false
set_option maxRecDepth 100000
set_option maxHeartbeats 1000000
set_option Elab.async false
set_option linter.all false
set_option maxRecDepth 100000
set_option maxHeartbeats 1000000
namespace T34
open PySem PySem.Spec PyProof.Rows L2 Gd Zn Rp Dn Tb Gn En Zs Ct Op
def unitM (n : Nat) : List (List Int) := (List.range n).map fun i => (List.range n).map fun j => if j = i then 1 else 0
theorem unit_sq (n : Nat) : Sq n (unitM n) := by
  refine ⟨by unfold unitM; simp, fun r hr => ?_, fun r hr x hx => ?_⟩
  · unfold unitM at hr
    rw [List.mem_map] at hr
    obtain ⟨i, _, rfl⟩ := hr
    simp
  · unfold unitM at hr
    rw [List.mem_map] at hr
    obtain ⟨i, _, rfl⟩ := hr
    rw [List.mem_map] at hx
    obtain ⟨j, _, rfl⟩ := hx
    show Small (if j = i then 1 else 0)
    by_cases h : j = i
    · rw [if_pos h]; exact Wd.lit ⟨by decide, by decide⟩
    · rw [if_neg h]; exact Wd.lit ⟨by decide, by decide⟩
section
variable {P : Program} {w : World} {K : PySem.W.Frag} {mg : Str → Option Value} {base : Heap} {C : Addr}
theorem det_unit (n : Nat) (h : n ≤ 3) : detM n (unitM n) = 1 := by
  have : n = 0 ∨ n = 1 ∨ n = 2 ∨ n = 3 := by omega
  rcases this with rfl | rfl | rfl | rfl <;> simp [detM, cofM, unitM, outM, outW, cutAt, List.range_succ, List.getD]
end
end T34
set_option Elab.async false
set_option linter.all false
set_option maxRecDepth 100000
set_option maxHeartbeats 1000000
namespace T34
open PySem PySem.Spec PyProof.Rows L2 Gd Zn Rp Dn Tb Gn En Zs Ct Op
theorem eqv_row : ∀ (r t : List Int), PyData.eqvAll (r.map PyData.int) (t.map PyData.int) = decide (r = t)
  | [], [] => by simp [PyData.eqvAll]
  | [], _ :: _ => by simp [PyData.eqvAll]
  | _ :: _, [] => by simp [PyData.eqvAll]
  | x :: r, y :: t => by
    rw [List.map_cons, List.map_cons, PyData.eqvAll, eqv_row r t, PyData.eqv]
    by_cases h : x = y <;> by_cases h2 : r = t <;> simp [h, h2]
theorem eqv_rows : ∀ (M N : List (List Int)), PyData.eqvAll (M.map fun r => .tuple (r.map PyData.int)) (N.map fun r => .tuple (r.map PyData.int)) = decide (M = N)
  | [], [] => by simp [PyData.eqvAll]
  | [], _ :: _ => by simp [PyData.eqvAll]
  | _ :: _, [] => by simp [PyData.eqvAll]
  | x :: r, y :: t => by
    rw [List.map_cons, List.map_cons, PyData.eqvAll, eqv_rows r t, PyData.eqv, eqv_row]
    by_cases h : x = y <;> by_cases h2 : r = t <;> simp [h, h2]
theorem eqv_mx (M N : List (List Int)) : (mxD M).eqv (mxD N) = decide (M = N) := by
  unfold mxD
  rw [PyData.eqv, eqv_rows]
theorem dp_ints {K : PySem.W.Frag} {H : Hp} : ∀ r : List Int, DpAll K H (r.map V.int) (r.map PyData.int)
  | [] => .nil
  | x :: r => .cons (.int x) (dp_ints r)
theorem dp_rows {K : PySem.W.Frag} {H : Hp} {vs : List V} {M : List (List Int)} (h : RowsV H vs M) : DpAll K H vs (M.map fun r => .tuple (r.map PyData.int)) := by
  induction h with
  | nil => exact .nil
  | cons p _ ih =>
    obtain ⟨b, rfl, hb⟩ := p
    exact .cons (.tup (.inl (.inl hb)) (dp_ints _)) ih
theorem dp_mx {K : PySem.W.Frag} {H : Hp} {v : V} {M : List (List Int)} (h : Mx H v M) : Dp K H v (mxD M) := by
  obtain ⟨a, vs, rfl, ha, hR⟩ := h
  exact .tup (.inl (.inl ha)) (dp_rows hR)
theorem depth_row (r : List Int) : PyData.depthAll (r.map PyData.int) = 0 := by
  induction r with
  | nil => simp [PyData.depthAll]
  | cons x r ih => rw [List.map_cons, PyData.depthAll, ih, PyData.depth]; rfl
theorem depth_rows (M : List (List Int)) : PyData.depthAll (M.map fun r => .tuple (r.map PyData.int)) ≤ 1 := by
  induction M with
  | nil => simp [PyData.depthAll]
  | cons x r ih =>
    rw [List.map_cons, PyData.depthAll, PyData.depth, depth_row]
    omega
theorem lay_row (r : List Int) : PyData.canLayAll0 (r.map PyData.int) = true := by
  induction r with
  | nil => simp [PyData.canLayAll0]
  | cons x r ih => rw [List.map_cons, PyData.canLayAll0, ih, PyData.canLay0]; rfl
theorem lay_rows (M : List (List Int)) : PyData.canLayAll0 (M.map fun r => .tuple (r.map PyData.int)) = true := by
  induction M with
  | nil => simp [PyData.canLayAll0]
  | cons x r ih => rw [List.map_cons, PyData.canLayAll0, ih, PyData.canLay0, lay_row]; rfl
theorem shaped_mx (M : List (List Int)) : SeqAt.shaped (mxD M) = true := by
  unfold SeqAt.shaped mxD
  rw [PyData.canLay0, lay_rows, PyData.depth]
  have := depth_rows M
  simp
  omega
/-- two tables of tuples are compared -/
theorem r_eqMx {K : PySem.W.Frag} {H : Hp} {x y : V} {M N : List (List Int)} {Q : VK} (hx : Mx H x M) (hy : Mx H y N) (q : Q (.bl (decide (M = N))) H) : rEqD K x y H Q := by
  refine ⟨mxD M, mxD N, dp_mx hx, dp_mx hy, shaped_mx M, shaped_mx N, ?_⟩
  rw [eqv_mx]
  exact q
structure Mtd (P : Program) (w : World) (K : PySem.W.Frag) (mg : Str → Option Value) (base : Heap) (C : Addr) (nm : Str) (k : Nat) (ps : List Str) (sp : Sp) : Prop where
  ex : ∃ (f : Addr) (fd : FuncData), Meth K C nm f ∧ FnOk P w K mg base CX0 k f fd ps sp ∧ Binds K fd ps []
section
variable {P : Program} {w : World} {K : PySem.W.Frag} {mg : Str → Option Value} {base : Heap} {C : Addr}
theorem Tab.same {H H' : Hp} {v : V} {M : List (List Int)} (s : Same H H') (h : Tab C H v M) : Tab C H' v M := T34.Tab.mono (KS.of s) h
end
end T34
set_option Elab.async false
set_option linter.all false
set_option maxRecDepth 100000
set_option maxHeartbeats 1000000
namespace T34
open PySem PySem.Spec PyProof.Rows L2 Gd Zn Rp Dn Tb Gn En Zs Ct Op
theorem atI_of {α : Type} {xs : List α} {r : Int} {x : α} (h : 0 ≤ r) (e : xs[r.toNat]? = some x) : atI xs r = some x := by
  have := atI_nat e
  rw [show ((r.toNat : Nat) : Int) = r by omega] at this
  exact this
theorem set_pot {p : Addr} {H H1 : Hp} {a b : Int} (s : Same H H1) (ha : 0 ≤ a) (hb : 0 ≤ b) (hb2 : b < 2 ^ 32) : RX (some p) H (upd H1 p (.lst [.int a, .int b])) := by
  refine ⟨fun c o n e => ?_, fun q e _ => ?_⟩
  · have nc : c ≠ p := fun z => n (by rw [z])
    rw [upd_ne nc]
    exact s _ _ e
  · cases e
    exact ⟨a, b, upd_same, ha, hb, hb2⟩
section
variable {P : Program} {w : World} {K : PySem.W.Frag} {mg : Str → Option Value} {base : Heap} {C : Addr}
def sp_draw : Sp := fun vs H Q _ => ∃ (p : Addr) (m : Int), vs = [.ref p, .int m] ∧ PotOk H p ∧ 0 < m ∧ m < 1000 ∧ ∀ (r : Int) H', 0 ≤ r → r < m → RX (some p) H H' → Q (.int r) H'
abbrev st_pick : Stmt := top 39
def sp_pick : Sp := fun vs H Q _ => ∃ (p a : Addr) (xs : List V), vs = [.ref p, .ref a] ∧ PotOk H p ∧ H a = some (.lst xs) ∧ a ≠ p ∧ 0 < xs.length ∧ xs.length < 1000 ∧ ∀ (i : Nat) (x : V) H', xs[i]? = some x → RX (some p) H H' → Q x H'
theorem sc_pick : FnScope ["_law_pot_here", "_law_some"] ["_law_pot_here", "_law_some"] (defScope st_pick) := ⟨rfl, rfl, rfl, by decide +kernel, rfl, by decide +kernel, by decide +kernel⟩
end
end T34
set_option Elab.async false
set_option linter.all false
set_option maxRecDepth 100000
set_option maxHeartbeats 1000000
namespace T34
open PySem PySem.Spec PyProof.Rows L2 Gd Zn Rp Dn Tb Gn En Zs Ct Op
section
variable {P : Program} {w : World} {K : PySem.W.Frag} {mg : Str → Option Value} {base : Heap} {C : Addr}
def sp_pot (K : PySem.W.Frag) : Sp := fun vs H Q _ => ∃ (a : Addr) (ns : List Int) (k : Int), vs = [.ref a, .int k] ∧ SqL K H a (ns.map V.int) ∧ ns.length ≤ 63 ∧ 0 ≤ k ∧ k ≤ 2 ∧ ∀ p H', H p = none → Same H H' → PotOk H' p → Q (.ref p) H'
end
end T34
set_option Elab.async false
set_option linter.all false
set_option maxRecDepth 100000
set_option maxHeartbeats 1000000
set_option Elab.async false
set_option linter.all false
set_option maxRecDepth 100000
set_option maxHeartbeats 1000000
namespace Tb
open PySem PySem.Spec PyProof.Rows L2 Gd Zn Rp Dn
/-- a comprehension whose elements are new objects -/
theorem lc_fresh {p : Option Addr} {J : It} {g : TG} {te : TE} {vs : List Nat} {σ : L2.St} {H1 : Hp} {Q : VK} (n : Nat) (O : Nat → HO) (hp : Has p H1) (hn : n ≤ 1000)
    (hgo : ∀ i H, i < n → RX p H1 H → J.go i H) (hst : ∀ H, RX p H1 H → J.stop n H)
    (hs : ∀ i x H H' (C : VK), i < n → RX p H1 H → Has p H → J.yld i H x H' → (∀ q H4, RX p H H4 → H q = none → H4 q = some (O i) → C (.ref q) H4) → g x (wipe σ vs) H' fun σ2 H2 => wipe σ2 vs = wipe σ vs ∧ te σ2 H2 C)
    (hd : ∀ D H xs, H1 D = none → RX p H1 H → H D = some (.lst xs) → xs.length = n → (∀ i v, xs[i]? = some v → ∃ q, v = .ref q ∧ H q = some (O i)) → Q (.ref D) H) : LcB g tYes te vs σ Q J H1 := by
  intro D nD
  have nP : p ≠ some D := hp.ne nD
  refine ⟨fun i m H => i ≤ n ∧ m = n - i ∧ RX p H1 H ∧ ∃ xs, H D = some (.lst xs) ∧ xs.length = i ∧ ∀ j v, xs[j]? = some v → ∃ q, v = .ref q ∧ H q = some (O j) ∧ q ≠ D ∧ p ≠ some q, ⟨n, Nat.zero_le _, rfl, RX.new nD, [], upd_same, rfl, fun j v e => by simp at e⟩, ?_⟩
  rintro i m H ⟨hi, rfl, s1, xs, hD, hl, hE⟩
  by_cases hlt : i < n
  · refine .inr ⟨hgo i H hlt s1, fun H' => i + 1 ≤ n ∧ RX p H1 H' ∧ ∃ xs, H' D = some (.lst xs) ∧ xs.length = i + 1 ∧ ∀ j v, xs[j]? = some v → ∃ q, v = .ref q ∧ H' q = some (O j) ∧ q ≠ D ∧ p ≠ some q, fun H' h => ⟨n - (i + 1), by omega, h.1, rfl, h.2⟩, fun x H' hy => ?_⟩
    have hpH := hp.to s1
    refine hs i x H H' _ hlt s1 hpH hy fun q H4 s4 nq e4 => ?_
    have hD4 := s4.keep D _ nP hD
    have s5 : RX p H1 (upd H4 D (.lst (xs ++ [.ref q]))) := (s1.trans s4).mut nD hp
    refine ⟨xs, hD4, Nat.lt_of_lt_of_le (by omega : xs.length < 1001) (by decide), hlt, s5, xs ++ [.ref q], upd_same, by simp [hl], fun j v e => ?_⟩
    by_cases hj : j < xs.length
    · rw [List.getElem?_append_left hj] at e
      obtain ⟨q', e1, e2, e3, e5⟩ := hE j v e
      exact ⟨q', e1, by rw [upd_ne e3]; exact s4.keep q' _ e5 e2, e3, e5⟩
    · rw [List.getElem?_append_right (by omega)] at e
      have z : j - xs.length = 0 := by
        by_cases w : j - xs.length = 0
        · exact w
        · rw [List.getElem?_eq_none (by simp; omega)] at e; cases e
      rw [z] at e
      cases e
      have : j = i := by omega
      subst this
      have qD : q ≠ D := (ne_of_none hD nq).symm
      exact ⟨q, rfl, by rw [upd_ne qD]; exact e4, qD, hpH.ne nq⟩
  · have e : i = n := by omega
    subst e
    exact .inl ⟨hst H s1, hd D H xs nD s1 hD hl fun j v e => let ⟨q, e1, e2, _⟩ := hE j v e; ⟨q, e1, e2⟩⟩
def Lo (z : Int) : Prop := z.natAbs < 10 ^ 30
end Tb
set_option Elab.async false
set_option linter.all false
set_option maxRecDepth 100000
set_option maxHeartbeats 1000000
set_option Elab.async false
set_option linter.all false
set_option maxRecDepth 100000
set_option maxHeartbeats 1000000
namespace T34
open PySem PySem.Spec PyProof.Rows L2 Gd Zn Rp Dn Tb Gn En Zs Ct Op
theorem dot_comm : ∀ xs ys : List Int, dot xs ys = dot ys xs
  | [], ys => by unfold dot; simp
  | x :: xs, [] => by unfold dot; simp
  | x :: xs, y :: ys => by
    have := dot_comm xs ys
    unfold dot at this ⊢
    simp only [List.zip_cons_cons, List.map_cons, List.sum_cons]
    rw [this, Int.mul_comm]
theorem len3 {α : Type} {l : List α} (h : l.length = 3) : ∃ a b c, l = [a, b, c] := by
  match l, h with
  | [a, b, c], _ => exact ⟨a, b, c, rfl⟩
theorem len1 {α : Type} {l : List α} (h : l.length = 1) : ∃ a, l = [a] := by
  match l, h with
  | [a], _ => exact ⟨a, rfl⟩
theorem det1 (a : Int) : detM 1 [[a]] = a := by
  simp [detM, cofM, outM, outW, cutAt, List.range_succ, List.getD]
theorem det3 (a b c d e f g h i : Int) : detM 3 [[a, b, c], [d, e, f], [g, h, i]] = a * (e * i - f * h) - b * (d * i - f * g) + c * (d * h - e * g) := by
  simp [detM, cofM, outM, outW, cutAt, List.range_succ, List.getD]
  grind
end T34
set_option Elab.async false
set_option linter.all false
set_option maxRecDepth 100000
set_option maxHeartbeats 2000000
namespace T34
open PySem PySem.Spec PyProof.Rows L2 Gd Zn Rp Dn Tb Gn En Zs Ct Op
structure SqB (n : Nat) (B : Int) (M : List (List Int)) : Prop where
  len : M.length = n
  row : ∀ r ∈ M, r.length = n
  bd : ∀ r ∈ M, ∀ x ∈ r, -B ≤ x ∧ x ≤ B
theorem SqB.mono {n : Nat} {B B' : Int} {M : List (List Int)} (h : SqB n B M) (k : B ≤ B') : SqB n B' M := ⟨h.len, h.row, fun r hr x hx => by have := h.bd r hr x hx; omega⟩
theorem SqB.sq {n : Nat} {B : Int} {M : List (List Int)} (h : SqB n B M) (k : B < 2 ^ 64) : Sq n M := ⟨h.len, h.row, fun r hr x hx => by
  have := h.bd r hr x hx
  exact Wd.lit ⟨by omega, by omega⟩⟩
def addR (c : Int) (r s : List Int) : List Int := (List.zip r s).map fun q => q.1 + c * q.2
def stepA (M : List (List Int)) (i j : Nat) (c : Int) : List (List Int) := M.set i (addR c (M.getD i []) (M.getD j []))
theorem getD_mem {M : List (List Int)} {i : Nat} (h : i < M.length) : M.getD i [] ∈ M := by
  rw [List.getD_eq_getElem?_getD, List.getElem?_eq_getElem h]
  exact List.getElem_mem h
theorem SqB.set {n : Nat} {B : Int} {M : List (List Int)} (h : SqB n B M) (i : Nat) {r : List Int} (hl : r.length = n) (hb : ∀ x ∈ r, -B ≤ x ∧ x ≤ B) : SqB n B (M.set i r) := by
  refine ⟨by rw [List.length_set]; exact h.len, fun s hs => ?_, fun s hs => ?_⟩
  · rcases List.mem_or_eq_of_mem_set hs with hs | rfl
    · exact h.row s hs
    · exact hl
  · rcases List.mem_or_eq_of_mem_set hs with hs | rfl
    · exact h.bd s hs
    · exact hb
theorem SqB.add {n : Nat} {B : Int} {M : List (List Int)} (h : SqB n B M) {i j : Nat} {c : Int} (hi : i < n) (hj : j < n) (hB : 0 ≤ B) (hc : c = 1 ∨ c = -1 ∨ c = 2) : SqB n (3 * B) (stepA M i j c) := by
  have mi := getD_mem (M := M) (i := i) (by rw [h.len]; exact hi)
  have mj := getD_mem (M := M) (i := j) (by rw [h.len]; exact hj)
  refine (h.mono (by omega : B ≤ 3 * B)).set i ?_ fun x hx => ?_
  · unfold addR
    rw [List.length_map, List.length_zip, h.row _ mi, h.row _ mj]
    omega
  · unfold addR at hx
    obtain ⟨⟨y, z⟩, hq, rfl⟩ := List.mem_map.mp hx
    have h1 := h.bd _ mi y (List.of_mem_zip hq).1
    have h2 := h.bd _ mj z (List.of_mem_zip hq).2
    rcases hc with rfl | rfl | rfl <;> constructor <;> show _ ≤ _ <;> simp only [] <;> omega
theorem unit_sqB (n : Nat) : SqB n 1 (unitM n) := ⟨(unit_sq n).len, (unit_sq n).row, fun r hr x hx => by
  unfold unitM at hr
  rw [List.mem_map] at hr
  obtain ⟨i, _, rfl⟩ := hr
  rw [List.mem_map] at hx
  obtain ⟨j, _, rfl⟩ := hx
  by_cases h : j = i
  · rw [if_pos h]; exact ⟨by decide, by decide⟩
  · rw [if_neg h]; exact ⟨by decide, by decide⟩⟩
theorem tlc_call {wi : TI} {g : TG} {tt : TT} {te : TE} {vs : List Nat} {σ : L2.St} {H : Hp} {Q : VK} (h : wi σ H fun J H1 => LcB g tt te vs σ Q J H1) : tLc wi g tt te vs σ H Q := h
theorem lc_fresh2 {p : Option Addr} {J : It} {g : TG} {te : TE} {vs : List Nat} {σ : L2.St} {H1 : Hp} {Q : VK} (n : Nat) (O : Nat → HO) (hp : Has p H1) (hn : n ≤ 1000)
    (hgo : ∀ i H, i < n → RX p H1 H → J.go i H) (hst : ∀ H, RX p H1 H → J.stop n H)
    (hs : ∀ i x H H' (C : VK), i < n → RX p H1 H → Has p H → J.yld i H x H' → (∀ q H4, RX p H H4 → H q = none → H4 q = some (O i) → C (.ref q) H4) → g x (wipe σ vs) H' fun σ2 H2 => wipe σ2 vs = wipe σ vs ∧ te σ2 H2 C)
    (hd : ∀ D H xs, H1 D = none → RX p H1 H → H D = some (.lst xs) → xs.length = n → (∀ i v, xs[i]? = some v → ∃ q, v = .ref q ∧ H q = some (O i) ∧ q ≠ D ∧ p ≠ some q ∧ H1 q = none) → Q (.ref D) H) : LcB g tYes te vs σ Q J H1 := by
  intro D nD
  have nP : p ≠ some D := hp.ne nD
  refine ⟨fun i m H => i ≤ n ∧ m = n - i ∧ RX p H1 H ∧ ∃ xs, H D = some (.lst xs) ∧ xs.length = i ∧ ∀ j v, xs[j]? = some v → ∃ q, v = .ref q ∧ H q = some (O j) ∧ q ≠ D ∧ p ≠ some q ∧ H1 q = none, ⟨n, Nat.zero_le _, rfl, RX.new nD, [], upd_same, rfl, fun j v e => by simp at e⟩, ?_⟩
  rintro i m H ⟨hi, rfl, s1, xs, hD, hl, hE⟩
  by_cases hlt : i < n
  · refine .inr ⟨hgo i H hlt s1, fun H' => i + 1 ≤ n ∧ RX p H1 H' ∧ ∃ xs, H' D = some (.lst xs) ∧ xs.length = i + 1 ∧ ∀ j v, xs[j]? = some v → ∃ q, v = .ref q ∧ H' q = some (O j) ∧ q ≠ D ∧ p ≠ some q ∧ H1 q = none, fun H' h => ⟨n - (i + 1), by omega, h.1, rfl, h.2⟩, fun x H' hy => ?_⟩
    have hpH := hp.to s1
    refine hs i x H H' _ hlt s1 hpH hy fun q H4 s4 nq e4 => ?_
    have hD4 := s4.keep D _ nP hD
    have s5 : RX p H1 (upd H4 D (.lst (xs ++ [.ref q]))) := (s1.trans s4).mut nD hp
    refine ⟨xs, hD4, Nat.lt_of_lt_of_le (by omega : xs.length < 1001) (by decide), hlt, s5, xs ++ [.ref q], upd_same, by simp [hl], fun j v e => ?_⟩
    by_cases hj : j < xs.length
    · rw [List.getElem?_append_left hj] at e
      obtain ⟨q', e1, e2, e3, e5, e6⟩ := hE j v e
      exact ⟨q', e1, by rw [upd_ne e3]; exact s4.keep q' _ e5 e2, e3, e5, e6⟩
    · rw [List.getElem?_append_right (by omega)] at e
      have z : j - xs.length = 0 := by
        by_cases w : j - xs.length = 0
        · exact w
        · rw [List.getElem?_eq_none (by simp; omega)] at e; cases e
      rw [z] at e
      cases e
      have : j = i := by omega
      subst this
      have qD : q ≠ D := (ne_of_none hD nq).symm
      exact ⟨q, rfl, by rw [upd_ne qD]; exact e4, qD, hpH.ne nq, by
        cases e9 : H1 q with
        | none => rfl
        | some o =>
          have := s1.keep q o (hpH.ne nq) e9
          rw [nq] at this
          cases this⟩
  · have e : i = n := by omega
    subst e
    exact .inl ⟨hst H s1, hd D H xs nD s1 hD hl hE⟩
/-- a list of lists of ints at a, apart from the pot p -/
structure LM (H : Hp) (p a : Addr) (M : List (List Int)) (vs : List V) : Prop where
  at_ : H a = some (.lst vs)
  len : vs.length = M.length
  get : ∀ (i : Nat) (v : V), vs[i]? = some v → ∃ b, v = .ref b ∧ H b = some (.lst ((M.getD i []).map V.int)) ∧ b ≠ a ∧ b ≠ p
theorem LM.mono {H H' : Hp} {p a : Addr} {M : List (List Int)} {vs : List V} (h : LM H p a M vs) (s : RX (some p) H H') (hap : a ≠ p) : LM H' p a M vs := by
  refine ⟨s.keep a _ (fun z => hap (by cases z; rfl)) h.at_, h.len, fun i v e => ?_⟩
  obtain ⟨b, e1, e2, e3, e4⟩ := h.get i v e
  exact ⟨b, e1, s.keep b _ (fun z => e4 (by cases z; rfl)) e2, e3, e4⟩
/-- a row is put there -/
theorem LM.put {H : Hp} {p a : Addr} {M : List (List Int)} {vs : List V} (h : LM H p a M vs) {i : Nat} {b : Addr} {r : List Int} (hb : H b = some (.lst (r.map V.int))) (ba : b ≠ a) (bp : b ≠ p) :
    LM (upd H a (.lst (vs.set i (.ref b)))) p a (M.set i r) (vs.set i (.ref b)) := by
  refine ⟨upd_same, by rw [List.length_set, List.length_set]; exact h.len, fun j v e => ?_⟩
  by_cases hj : i = j
  · subst hj
    have hi : i < vs.length := by
      have := (List.getElem?_eq_some_iff.mp e).1
      rw [List.length_set] at this
      exact this
    rw [List.getElem?_set_self hi] at e
    cases e
    refine ⟨b, rfl, ?_, ba, bp⟩
    rw [upd_ne ba, List.getD_eq_getElem?_getD, List.getElem?_set_self (by rw [← h.len]; exact hi)]
    exact hb
  · rw [List.getElem?_set_ne hj] at e
    obtain ⟨c, e1, e2, e3, e4⟩ := h.get j v e
    refine ⟨c, e1, ?_, e3, e4⟩
    rw [upd_ne e3, List.getD_eq_getElem?_getD, List.getElem?_set_ne hj, ← List.getD_eq_getElem?_getD]
    exact e2
theorem LM.row {H : Hp} {p a : Addr} {M : List (List Int)} {vs : List V} (h : LM H p a M vs) {i : Nat} (hi : i < M.length) : ∃ b, vs[i]? = some (.ref b) ∧ H b = some (.lst ((M.getD i []).map V.int)) ∧ b ≠ a ∧ b ≠ p := by
  have hi' : i < vs.length := by rw [h.len]; exact hi
  obtain ⟨b, e1, e2⟩ := h.get i vs[i] (List.getElem?_eq_getElem hi')
  exact ⟨b, by rw [List.getElem?_eq_getElem hi', e1], e2⟩
end T34
set_option Elab.async false
set_option linter.all false
set_option maxRecDepth 100000
set_option maxHeartbeats 2000000
namespace T34
open PySem PySem.Spec PyProof.Rows L2 Gd Zn Rp Dn Tb Gn En Zs Ct Op
/-- list(..) -/
def rLst (K : PySem.W.Frag) : List V → Hp → VK → Prop := fun xs H Q => ∃ p ys, xs = [V.ref p] ∧ (SqL K H p ys ∨ SqT K H p ys) ∧ ∀ (l : Addr), H l = none → Q (V.ref l) (upd H l (HO.lst ys))
theorem c_lst {X : Cx} : CallR X (.type "list") (rLst X.K) := call_list_of
theorem ixN_at {n j : Nat} (hj : j < n) : ixN n (j : Int) = some j := by
  unfold ixN
  rw [if_pos (by omega), if_pos (by omega)]
  rfl
end T34
set_option Elab.async false
set_option linter.all false
set_option maxRecDepth 100000
set_option maxHeartbeats 2000000
set_option Elab.async false
set_option linter.all false
set_option maxRecDepth 100000
set_option maxHeartbeats 2000000
namespace T34
open PySem PySem.Spec PyProof.Rows L2 Gd Zn Rp Dn Tb Gn En Zs Ct Op
theorem mul_bd {x y B B' : Int} (hx : -B ≤ x ∧ x ≤ B) (hy : -B' ≤ y ∧ y ≤ B') : -(B * B') ≤ x * y ∧ x * y ≤ B * B' := by
  have h1 : x.natAbs ≤ B.natAbs := by omega
  have h2 : y.natAbs ≤ B'.natAbs := by omega
  have h := Nat.mul_le_mul h1 h2
  have e1 := Int.natAbs_mul x y
  have e2 := Int.natAbs_mul B B'
  have hp : 0 ≤ B * B' := Int.mul_nonneg (by omega) (by omega)
  omega
theorem dot_bd {B B' : Int} (hB : 0 ≤ B) (hB' : 0 ≤ B') : ∀ (k : Nat) (xs ys : List Int), xs.length ≤ k → (∀ x ∈ xs, -B ≤ x ∧ x ≤ B) → (∀ y ∈ ys, -B' ≤ y ∧ y ≤ B') → -(k * (B * B')) ≤ dot xs ys ∧ dot xs ys ≤ k * (B * B')
  | k, [], ys, _, _, _ => by
    have : 0 ≤ (k : Int) * (B * B') := Int.mul_nonneg (by omega) (Int.mul_nonneg hB hB')
    simp only [dot, List.zip_nil_left, List.map_nil, List.sum_nil]
    omega
  | k, x :: xs, [], _, _, _ => by
    have : 0 ≤ (k : Int) * (B * B') := Int.mul_nonneg (by omega) (Int.mul_nonneg hB hB')
    simp only [dot, List.zip_nil_right, List.map_nil, List.sum_nil]
    omega
  | 0, x :: xs, y :: ys, h, _, _ => by simp at h
  | k + 1, x :: xs, y :: ys, h, hx, hy => by
    have ih := dot_bd hB hB' k xs ys (by simpa using h) (fun z hz => hx z (List.mem_cons_of_mem _ hz)) (fun z hz => hy z (List.mem_cons_of_mem _ hz))
    have h1 := mul_bd (hx x List.mem_cons_self) (hy y List.mem_cons_self)
    have e : ((k + 1 : Nat) : Int) * (B * B') = (k : Int) * (B * B') + B * B' := by
      rw [show ((k + 1 : Nat) : Int) = (k : Int) + 1 by omega, Int.add_mul, Int.one_mul]
    rw [e]
    unfold dot at ih ⊢
    simp only [List.zip_cons_cons, List.map_cons, List.sum_cons]
    omega
theorem mulM_len (n : Nat) (M N : List (List Int)) : (mulM n M N).length = M.length := by
  unfold mulM
  rw [List.length_map]
theorem mulM_row {n : Nat} {M N : List (List Int)} : ∀ r ∈ mulM n M N, r.length = n := fun r hr => by
  unfold mulM ledM transp at hr
  obtain ⟨s, _, rfl⟩ := List.mem_map.mp hr
  simp
theorem SqB.mul {n : Nat} {B B' : Int} {M N : List (List Int)} (hM : SqB n B M) (hN : SqB n B' N) (h3 : n ≤ 3) (hB : 0 ≤ B) (hB' : 0 ≤ B') : SqB n (3 * (B' * B)) (mulM n M N) := by
  refine ⟨by rw [mulM_len]; exact hM.len, mulM_row, fun r hr x hx => ?_⟩
  unfold mulM ledM transp at hr
  obtain ⟨s, hs, rfl⟩ := List.mem_map.mp hr
  rw [List.map_map] at hx
  obtain ⟨j, hj, rfl⟩ := List.mem_map.mp hx
  have := dot_bd hB' hB 3 (N.map fun r => r.getD j 0) s (by rw [List.length_map, hN.len]; exact h3) (fun y hy => ?_) (hM.bd s hs)
  · simpa using this
  · obtain ⟨t, ht, rfl⟩ := List.mem_map.mp hy
    rw [List.getD_eq_getElem?_getD]
    cases e : t[j]? with
    | none => simp only [Option.getD_none]; omega
    | some z => exact hN.bd t ht z (List.mem_of_getElem? e)
end T34
set_option Elab.async false
set_option linter.all false
set_option maxRecDepth 100000
set_option maxHeartbeats 2000000
set_option Elab.async false
set_option linter.all false
set_option maxRecDepth 100000
set_option maxHeartbeats 2000000
namespace T34
open PySem PySem.Spec PyProof.Rows L2 Gd Zn Rp Dn Tb Gn En Zs Ct Op
section
variable {X : Cx} {CX : CXT} {k : Nat} {f : Addr} {fd : FuncData} {ps ks : List Str} {sp : Sp} {E : XK} {x m : Str} {p pos apos : Pos} {kws : List Keyword} {tk : TA} {g : List Value → List Value → List Value} {gV : List V → List V → List V} {C : Addr} {o : Expr} {ta : TE}
theorem pe_names (F : FnOk X.prog X.w X.K X.mg X.base CX k f fd ps sp) (room : Room k X.A) (hg : Gl X x) (hm : X.mg x = some (.ref f)) (hk : PySem.W.keepIn X.K (.ref f) = true) (hb : KBinds X.K fd ps ks g gV) (hx : Passes CX X E) (hkw : PK X kws tk)
    (hall : (backToKw pos (keywordEach kws X.env)).all (·.1.isSome) = true := by rfl) (hks : (backToKw pos (keywordEach kws X.env)).filterMap (·.1) = ks := by rfl) (hdb : (x == ("__debug__" : Str)) = false := by decide)
    (hpl : ((backTo pos (starEach [] X.env)).any (·.1) || (backToKw pos (keywordEach kws X.env)).any (·.1.isNone)) = false := by rfl) :
    PE X (.Call (.Name x p) [] kws pos) (fun σ H Q => tk σ H fun zs H2 => sp (gV [] zs) H2 Q E) := by
  refine ⟨fun pins s σ H Q I h => wpAny_Call_Name_kw (ld_glob I hg hm ?_ hdb)⟩
  refine PySem.W.callWith_KW0 (h₀ := X.base) I.ok.mod.kin hk hall ?_ hpl
  refine thn (hkw.run pos pins s σ H _ I h) fun ws s2 ⟨zs, H2, I2, rz, q2⟩ => ⟨I2.kIn, ?_⟩
  rw [hks]
  exact run_fnk F room hb hx I2 .nil rz q2
end
structure MulP (P : Program) (w : World) (K : PySem.W.Frag) (mg : Str → Option Value) (base : Heap) (C : Addr) : Prop where
  ex : ∃ (g : Addr) (gd : FuncData) (cd : ClassData) (rest : List Value), W.clsIn K C = some cd ∧ cd.mro = Value.ref C :: rest ∧ W.findIn K (.ref C) (dunder "mul") = some (some (.ref g)) ∧ W.isFn K (.ref g) = true ∧
    FnOk P w K mg base CX0 10 g gd ["self", "other"] (sp_mul C) ∧ Binds K gd ["self", "other"] []
theorem pe_mulT {X : Cx} {C : Addr} {j : Nat} {a b : Expr} {ta tb : TE} {pos : Pos} (D : MulP X.prog X.w X.K X.mg X.base C) (room : Room j X.A) (ha : PE X a ta) (hb : PE X b tb) (hkj : 10 ≤ j := by decide) :
    PE X (.BinOp a .Mult b pos) (tOp (rOwnB C (fun vs H Q E => sp_mul C (vs ++ []) H Q E) E0) ta tb) := by
  obtain ⟨g, gd, cd, rest, h1, h2, h3, h4, G, bi⟩ := D.ex
  exact pe_op (op_mulOwn h1 h2 h3 h4 (G.raw bi .nil) (room.mono hkj) pass0) ha hb
theorem fit_of {d : PyData} (h1 : d.showable = true) (h2 : d.depth ≤ 20) (h3 : d.leavesShort 40 = true) (h4 : d.bulk ≤ 1000) : Fit d := by
  refine ⟨h1, h2, Nat.le_trans (PyData.shown_le_bulk 40 (by decide) d h3) ?_⟩
  show (40 + 2) * d.bulk + 40 ≤ 2 ^ 24
  omega
structure SmN (a b : Nat) (d : PyData) : Prop where
  sh : d.showable = true
  dp : d.depth ≤ a
  ls : d.leavesShort 40 = true
  bk : d.bulk ≤ b
theorem smN_bool (b : Bool) : SmN 0 0 (.bool b) := ⟨by simp only [PyData.showable], by simp only [PyData.depth]; omega, by simp only [PyData.leavesShort], by simp only [PyData.bulk]; omega⟩
theorem all_smN {a b : Nat} {ds : List PyData} (h : ∀ d ∈ ds, SmN a b d) : PyData.showableAll ds = true ∧ PyData.depthAll ds ≤ a ∧ PyData.leavesShortAll 40 ds = true ∧ PyData.bulkAll ds ≤ (b + 1) * ds.length := by
  induction ds with
  | nil => exact ⟨by simp only [PyData.showableAll], by simp only [PyData.depthAll]; omega, by simp only [PyData.leavesShortAll], by simp only [PyData.bulkAll]; omega⟩
  | cons d r ih =>
    obtain ⟨a, b, c, e⟩ := ih fun x hx => h x (List.mem_cons_of_mem _ hx)
    have z := h d List.mem_cons_self
    refine ⟨?_, ?_, ?_, ?_⟩
    · simp only [PyData.showableAll, z.sh, a, Bool.and_self]
    · simp only [PyData.depthAll]
      exact Nat.max_le.mpr ⟨z.dp, b⟩
    · simp only [PyData.leavesShortAll, z.ls, c, Bool.and_self]
    · have := z.bk
      simp only [PyData.bulkAll, List.length_cons]
      rw [Nat.mul_add]
      omega
theorem smN_list {a b n : Nat} {ds : List PyData} (h : ∀ d ∈ ds, SmN a b d) (hl : ds.length ≤ n) : SmN (a + 1) ((b + 1) * n) (.list ds) := by
  obtain ⟨s1, s2, s3, s4⟩ := all_smN h
  have := Nat.mul_le_mul_left (b + 1) hl
  refine ⟨?_, ?_, ?_, ?_⟩
  · simp only [PyData.showable, s1]
  · simp only [PyData.depth]; omega
  · simp only [PyData.leavesShort, s3]
  · simp only [PyData.bulk]; omega
theorem fit_bools (b c : Bool) : Fit (.list [.bool b, .bool c]) := by
  have := smN_list (a := 0) (b := 0) (n := 2) (ds := [.bool b, .bool c]) (fun d hd => by
    rcases List.mem_cons.mp hd with rfl | hd
    · exact smN_bool _
    · rw [List.mem_singleton.mp hd]
      exact smN_bool _) (Nat.le_refl 2)
  exact fit_of this.sh (by have := this.dp; omega) this.ls (by have := this.bk; omega)
end T34
set_option Elab.async false
set_option linter.all false
set_option maxRecDepth 100000
set_option maxHeartbeats 4000000
namespace T34
open PySem PySem.Spec PyProof.Rows L2 Gd Zn Rp Dn Tb Gn En Zs Ct Op
structure Sh (n : Nat) (M : List (List Int)) : Prop where
  len : M.length = n
  row : ∀ r ∈ M, r.length = n
theorem Sq.sh {n : Nat} {M : List (List Int)} (h : Sq n M) : Sh n M := ⟨h.len, h.row⟩
theorem SqB.sh {n : Nat} {B : Int} {M : List (List Int)} (h : SqB n B M) : Sh n M := ⟨h.len, h.row⟩
theorem sh1 {n : Nat} {M : List (List Int)} (h : Sh n M) (e : n = 1) : ∃ a, M = [[a]] := by
  subst e
  obtain ⟨r, rfl⟩ := len1 h.len
  obtain ⟨a, rfl⟩ := len1 (h.row r (by simp))
  exact ⟨a, rfl⟩
theorem sh2 {n : Nat} {M : List (List Int)} (h : Sh n M) (e : n = 2) : ∃ a b c d, M = [[a, b], [c, d]] := by
  subst e
  obtain ⟨r1, r2, rfl⟩ := len2 h.len
  obtain ⟨a, b, rfl⟩ := len2 (h.row r1 (by simp))
  obtain ⟨c, d, rfl⟩ := len2 (h.row r2 (by simp))
  exact ⟨a, b, c, d, rfl⟩
theorem sh3 {n : Nat} {M : List (List Int)} (h : Sh n M) (e : n = 3) : ∃ a b c d e f g h i, M = [[a, b, c], [d, e, f], [g, h, i]] := by
  subst e
  obtain ⟨r1, r2, r3, rfl⟩ := len3 h.len
  obtain ⟨a, b, c, rfl⟩ := len3 (h.row r1 (by simp))
  obtain ⟨d, e, f, rfl⟩ := len3 (h.row r2 (by simp))
  obtain ⟨g, i, j, rfl⟩ := len3 (h.row r3 (by simp))
  exact ⟨a, b, c, d, e, f, g, i, j, rfl⟩
theorem mulE1 (a b : Int) : mulM 1 [[a]] [[b]] = [[a * b]] := by simp [mulM, ledM, transp, dot, List.range_succ, List.getD, Int.mul_comm]
theorem mulE2 (a b c d e f g h : Int) : mulM 2 [[a, b], [c, d]] [[e, f], [g, h]] = [[a * e + b * g, a * f + b * h], [c * e + d * g, c * f + d * h]] := by simp [mulM, ledM, transp, dot, List.range_succ, List.getD, Int.mul_comm]
theorem mulE3 (a b c d e f g h i j k l m n o p q r : Int) : mulM 3 [[a, b, c], [d, e, f], [g, h, i]] [[j, k, l], [m, n, o], [p, q, r]] =
    [[a * j + (b * m + c * p), a * k + (b * n + c * q), a * l + (b * o + c * r)], [d * j + (e * m + f * p), d * k + (e * n + f * q), d * l + (e * o + f * r)], [g * j + (h * m + i * p), g * k + (h * n + i * q), g * l + (h * o + i * r)]] := by
  simp [mulM, ledM, transp, dot, List.range_succ, List.getD, Int.mul_comm]
def undM (n : Nat) (M : List (List Int)) : List (List Int) := (List.range n).map fun p => (List.range n).map fun a => detM n M * cofM (n - 1) M a p
theorem undE1 (a : Int) : undM 1 [[a]] = [[a]] := by simp [undM, detM, cofM, outM, outW, cutAt, List.range_succ, List.getD]
theorem undE2 (a b c d : Int) : undM 2 [[a, b], [c, d]] = [[(a * d - b * c) * d, -((a * d - b * c) * b)], [-((a * d - b * c) * c), (a * d - b * c) * a]] := by
  unfold undM
  rw [det2]
  simp [cofM, detM, outM, outW, cutAt, List.range_succ, List.getD, Int.mul_neg]
theorem undE3 (a b c d e f g h i : Int) : undM 3 [[a, b, c], [d, e, f], [g, h, i]] =
    let w := a * (e * i - f * h) - b * (d * i - f * g) + c * (d * h - e * g)
    [[w * (e * i - f * h), -(w * (b * i - c * h)), w * (b * f - c * e)], [-(w * (d * i - f * g)), w * (a * i - c * g), -(w * (a * f - c * d))], [w * (d * h - e * g), -(w * (a * h - b * g)), w * (a * e - b * d)]] := by
  unfold undM
  rw [det3]
  have c2 : ∀ M : List (List Int), cofM 2 M = fun a k => if (a + k) % 2 = 0 then detM 2 (outM M a k) else -detM 2 (outM M a k) := fun M => by
    funext a k
    rw [cofM]
  simp only [c2]
  simp [outM, outW, cutAt, List.range_succ, List.getD, det2, Int.mul_neg]
theorem unitE1 : unitM 1 = [[1]] := rfl
theorem unitE2 : unitM 2 = [[1, 0], [0, 1]] := rfl
theorem unitE3 : unitM 3 = [[1, 0, 0], [0, 1, 0], [0, 0, 1]] := rfl
structure Gr (n : Nat) (M : List (List Int)) : Prop where
  h1 : 1 ≤ n
  h3 : n ≤ 3
  sh : Sh n M
  d : detM n M = 1 ∨ detM n M = -1
theorem Gr.cases {n : Nat} {M : List (List Int)} (h : Gr n M) : n = 1 ∨ n = 2 ∨ n = 3 := by have := h.h1; have := h.h3; omega
theorem sh_mk1 (a : Int) : Sh 1 [[a]] := ⟨rfl, by simp⟩
theorem sh_mk2 (a b c d : Int) : Sh 2 [[a, b], [c, d]] := ⟨rfl, by simp⟩
theorem sh_mk3 (a b c d e f g h i : Int) : Sh 3 [[a, b, c], [d, e, f], [g, h, i]] := ⟨rfl, by simp⟩
theorem mul_sh {n : Nat} {M N : List (List Int)} (h1 : 1 ≤ n) (h3 : n ≤ 3) (hM : Sh n M) (hN : Sh n N) : Sh n (mulM n M N) := by
  have : n = 1 ∨ n = 2 ∨ n = 3 := by omega
  rcases this with rfl | rfl | rfl
  · obtain ⟨a, rfl⟩ := sh1 hM rfl
    obtain ⟨b, rfl⟩ := sh1 hN rfl
    rw [mulE1]; exact sh_mk1 _
  · obtain ⟨a, b, c, d, rfl⟩ := sh2 hM rfl
    obtain ⟨e, f, g, h, rfl⟩ := sh2 hN rfl
    rw [mulE2]; exact sh_mk2 _ _ _ _
  · obtain ⟨a, b, c, d, e, f, g, h, i, rfl⟩ := sh3 hM rfl
    obtain ⟨j, k, l, m, n, o, p, q, r, rfl⟩ := sh3 hN rfl
    rw [mulE3]; exact sh_mk3 _ _ _ _ _ _ _ _ _
theorem mul_detS {n : Nat} {M N : List (List Int)} (h1 : 1 ≤ n) (h3 : n ≤ 3) (hM : Sh n M) (hN : Sh n N) : detM n (mulM n M N) = detM n M * detM n N := by
  have : n = 1 ∨ n = 2 ∨ n = 3 := by omega
  rcases this with rfl | rfl | rfl
  · obtain ⟨a, rfl⟩ := sh1 hM rfl
    obtain ⟨b, rfl⟩ := sh1 hN rfl
    rw [mulE1, det1, det1, det1]
  · obtain ⟨a, b, c, d, rfl⟩ := sh2 hM rfl
    obtain ⟨e, f, g, h, rfl⟩ := sh2 hN rfl
    rw [mulE2, det2, det2, det2]; grind
  · obtain ⟨a, b, c, d, e, f, g, h, i, rfl⟩ := sh3 hM rfl
    obtain ⟨j, k, l, m, n, o, p, q, r, rfl⟩ := sh3 hN rfl
    rw [mulE3, det3, det3, det3]; grind
theorem mul_assocS {n : Nat} {M N L : List (List Int)} (h1 : 1 ≤ n) (h3 : n ≤ 3) (hM : Sh n M) (hN : Sh n N) (hL : Sh n L) : mulM n (mulM n M N) L = mulM n M (mulM n N L) := by
  have : n = 1 ∨ n = 2 ∨ n = 3 := by omega
  rcases this with rfl | rfl | rfl
  · obtain ⟨a, rfl⟩ := sh1 hM rfl
    obtain ⟨b, rfl⟩ := sh1 hN rfl
    obtain ⟨c, rfl⟩ := sh1 hL rfl
    rw [mulE1, mulE1, mulE1, mulE1, Int.mul_assoc]
  · obtain ⟨a, b, c, d, rfl⟩ := sh2 hM rfl
    obtain ⟨e, f, g, h, rfl⟩ := sh2 hN rfl
    obtain ⟨i, j, k, l, rfl⟩ := sh2 hL rfl
    rw [mulE2, mulE2, mulE2, mulE2]
    congr 2 <;> grind
  · obtain ⟨a, b, c, d, e, f, g, h, i, rfl⟩ := sh3 hM rfl
    obtain ⟨j, k, l, m, n, o, p, q, r, rfl⟩ := sh3 hN rfl
    obtain ⟨a', b', c', d', e', f', g', h', i', rfl⟩ := sh3 hL rfl
    rw [mulE3, mulE3, mulE3, mulE3]
    congr 2 <;> grind
theorem unit_sh {n : Nat} : Sh n (unitM n) := (unit_sq n).sh
theorem und_sh {n : Nat} {M : List (List Int)} : Sh n (undM n M) := ⟨by simp [undM], fun r hr => by
  unfold undM at hr
  obtain ⟨i, _, rfl⟩ := List.mem_map.mp hr
  simp⟩
theorem mul_und {n : Nat} {M : List (List Int)} (G : Gr n M) : mulM n M (undM n M) = unitM n := by
  have hd := G.d
  rcases G.cases with rfl | rfl | rfl
  · obtain ⟨a, rfl⟩ := sh1 G.sh rfl
    rw [undE1, mulE1, unitE1]
    rw [det1] at hd
    rcases hd with rfl | rfl <;> rfl
  · obtain ⟨a, b, c, d, rfl⟩ := sh2 G.sh rfl
    rw [det2] at hd
    rw [undE2, mulE2, unitE2]
    generalize hw : a * d - b * c = w at hd
    have e1 : w * w = 1 := by rcases hd with rfl | rfl <;> rfl
    congr 2
    · grind
    · congr 1; grind
    · congr 1
      · grind
      · congr 1; grind
  · obtain ⟨a, b, c, d, e, f, g, h, i, rfl⟩ := sh3 G.sh rfl
    rw [det3] at hd
    rw [undE3, mulE3, unitE3]
    generalize hw : a * (e * i - f * h) - b * (d * i - f * g) + c * (d * h - e * g) = w at hd
    have e1 : w * w = 1 := by rcases hd with rfl | rfl <;> rfl
    have k1 : ∀ x y z : Int, x = 1 → y = 0 → z = 0 → [x, y, z] = [1, 0, 0] := by rintro _ _ _ rfl rfl rfl; rfl
    have k2 : ∀ x y z : Int, x = 0 → y = 1 → z = 0 → [x, y, z] = [0, 1, 0] := by rintro _ _ _ rfl rfl rfl; rfl
    have k3 : ∀ x y z : Int, x = 0 → y = 0 → z = 1 → [x, y, z] = [0, 0, 1] := by rintro _ _ _ rfl rfl rfl; rfl
    have k4 : ∀ x y z : List Int, x = [1, 0, 0] → y = [0, 1, 0] → z = [0, 0, 1] → [x, y, z] = [[1, 0, 0], [0, 1, 0], [0, 0, 1]] := by rintro _ _ _ rfl rfl rfl; rfl
    refine k4 _ _ _ (k1 _ _ _ ?_ ?_ ?_) (k2 _ _ _ ?_ ?_ ?_) (k3 _ _ _ ?_ ?_ ?_) <;> grind
theorem und_mul {n : Nat} {M : List (List Int)} (G : Gr n M) : mulM n (undM n M) M = unitM n := by
  have hd := G.d
  rcases G.cases with rfl | rfl | rfl
  · obtain ⟨a, rfl⟩ := sh1 G.sh rfl
    rw [undE1, mulE1, unitE1]
    rw [det1] at hd
    rcases hd with rfl | rfl <;> rfl
  · obtain ⟨a, b, c, d, rfl⟩ := sh2 G.sh rfl
    rw [det2] at hd
    rw [undE2, mulE2, unitE2]
    generalize hw : a * d - b * c = w at hd
    have e1 : w * w = 1 := by rcases hd with rfl | rfl <;> rfl
    congr 2
    · grind
    · congr 1; grind
    · congr 1
      · grind
      · congr 1; grind
  · obtain ⟨a, b, c, d, e, f, g, h, i, rfl⟩ := sh3 G.sh rfl
    rw [det3] at hd
    rw [undE3, mulE3, unitE3]
    generalize hw : a * (e * i - f * h) - b * (d * i - f * g) + c * (d * h - e * g) = w at hd
    have e1 : w * w = 1 := by rcases hd with rfl | rfl <;> rfl
    have k1 : ∀ x y z : Int, x = 1 → y = 0 → z = 0 → [x, y, z] = [1, 0, 0] := by rintro _ _ _ rfl rfl rfl; rfl
    have k2 : ∀ x y z : Int, x = 0 → y = 1 → z = 0 → [x, y, z] = [0, 1, 0] := by rintro _ _ _ rfl rfl rfl; rfl
    have k3 : ∀ x y z : Int, x = 0 → y = 0 → z = 1 → [x, y, z] = [0, 0, 1] := by rintro _ _ _ rfl rfl rfl; rfl
    have k4 : ∀ x y z : List Int, x = [1, 0, 0] → y = [0, 1, 0] → z = [0, 0, 1] → [x, y, z] = [[1, 0, 0], [0, 1, 0], [0, 0, 1]] := by rintro _ _ _ rfl rfl rfl; rfl
    refine k4 _ _ _ (k1 _ _ _ ?_ ?_ ?_) (k2 _ _ _ ?_ ?_ ?_) (k3 _ _ _ ?_ ?_ ?_) <;> grind
theorem unit_mulS {n : Nat} {M : List (List Int)} (h1 : 1 ≤ n) (h3 : n ≤ 3) (h : Sh n M) : mulM n (unitM n) M = M := by
  have : n = 1 ∨ n = 2 ∨ n = 3 := by omega
  rcases this with rfl | rfl | rfl
  · obtain ⟨a, rfl⟩ := sh1 h rfl
    rw [unitE1, mulE1]; simp
  · obtain ⟨a, b, c, d, rfl⟩ := sh2 h rfl
    rw [unitE2, mulE2]; simp
  · obtain ⟨a, b, c, d, e, f, g, h, i, rfl⟩ := sh3 h rfl
    rw [unitE3, mulE3]; simp
theorem pm_mul {a b : Int} (ha : a = 1 ∨ a = -1) (hb : b = 1 ∨ b = -1) : a * b = 1 ∨ a * b = -1 := by
  rcases ha with rfl | rfl <;> rcases hb with rfl | rfl <;> decide
theorem Gr.mul {n : Nat} {M N : List (List Int)} (hM : Gr n M) (hN : Gr n N) : Gr n (mulM n M N) := ⟨hM.h1, hM.h3, mul_sh hM.h1 hM.h3 hM.sh hN.sh, by rw [mul_detS hM.h1 hM.h3 hM.sh hN.sh]; exact pm_mul hM.d hN.d⟩
theorem gr_unit {n : Nat} (h1 : 1 ≤ n) (h3 : n ≤ 3) : Gr n (unitM n) := ⟨h1, h3, unit_sh, .inl (det_unit n h3)⟩
theorem und_det {n : Nat} {M : List (List Int)} (h : Gr n M) : detM n (undM n M) = detM n M := by
  have := mul_detS h.h1 h.h3 h.sh (und_sh (n := n) (M := M))
  rw [mul_und h, det_unit n h.h3] at this
  rcases h.d with e | e <;> rw [e] at this ⊢ <;> omega
theorem Gr.und {n : Nat} {M : List (List Int)} (h : Gr n M) : Gr n (undM n M) := ⟨h.h1, h.h3, und_sh, by rw [und_det h]; exact h.d⟩
/-- the group of the tables of one size -/
def GL (n : Nat) : Type := { M : List (List Int) // Gr n M }
namespace GL
variable {n : Nat}
def mk (M : List (List Int)) (h : Gr n M) : GL n := ⟨M, h⟩
instance : Mul (GL n) := ⟨fun a b => ⟨mulM n a.val b.val, a.property.mul b.property⟩⟩
def one (h1 : 1 ≤ n) (h3 : n ≤ 3) : GL n := ⟨unitM n, gr_unit h1 h3⟩
theorem mul_assoc (a b c : GL n) : a * b * c = a * (b * c) := Subtype.ext (mul_assocS a.property.h1 a.property.h3 a.property.sh b.property.sh c.property.sh)
theorem one_mul {h1 : 1 ≤ n} {h3 : n ≤ 3} (a : GL n) : one h1 h3 * a = a := Subtype.ext (unit_mulS h1 h3 a.property.sh)
end GL
end T34
set_option Elab.async false
set_option linter.all false
set_option maxRecDepth 100000
set_option maxHeartbeats 1000000
namespace Oc
open PySem PySem.Spec PyProof.Rows L2
end Oc
set_option Elab.async false
set_option linter.all false
set_option maxRecDepth 100000
set_option maxHeartbeats 1000000
namespace Oc
open PySem PySem.Spec PyProof.Rows L2
def rEqO (C : Addr) (sp : Sp) (E : XK) : R2 := fun x y H Q => ∃ a dx fs b dy gs, x = .ref a ∧ y = .ref b ∧ H a = some (.ins C dx fs) ∧ H b = some (.ins C dy gs) ∧ sp [x, y] H Q E
theorem notFirst_self (K : PySem.W.Frag) (C : Addr) : PySem.W.notFirst K C (.ref C) = true := by
  unfold PySem.W.notFirst
  simp
section
variable {X : Cx} {CX : CXT} {C g : Addr} {n : Nat} {sp : Sp} {E : XK}
theorem op_eqO (hs : PySem.W.findIn X.K (.ref C) "__eq__" = some (some (.ref g))) (hf : PySem.W.isFn X.K (.ref g) = true) (G : FnR X.prog X.w X.K X.mg X.base CX n g sp) (hr : Room n X.A) (hx : Passes CX X E) : OpR X (compareOp .Eq) (rEqO C sp E) := by
  intro pins s σ H x y v u Q I rx ry h
  obtain ⟨a, dx, fs, b, dy, gs, rfl, rfl, ha, hb, q⟩ := h
  cases (show v = Value.ref a from rx)
  cases (show u = Value.ref b from ry)
  obtain ⟨mA, O, _⟩ := ins_get I.hok ha
  obtain ⟨od, J, _⟩ := O.look
  obtain ⟨mB, O', _⟩ := ins_get I.hok hb
  obtain ⟨od', J', _⟩ := O'.look
  obtain ⟨m, hF⟩ := I.fr
  show wpAny _ _ (richCompare .Eq _ _) _ _ _
  refine PySem.W.cmp_K (op := .Eq) (tb := .ref C) hr.units0 hF I.ok.mod.kin J J'.type (notFirst_self _ _) hs hf ?_
  refine wpAny_mono (wpAny_call (run_fnR (us := [.ref a, .ref b]) (vs := [.ref a, .ref b]) G hr hx I (.cons rfl (.cons rfl .nil)) q)) (fun w s' z => ?_) fun _ _ x => x
  obtain ⟨z', H', I', rz, qz⟩ := z
  exact SlX.cmpback rz ⟨z', H', I', rz, qz⟩
end
end Oc
set_option Elab.async false
set_option linter.all false
set_option maxRecDepth 100000
set_option maxHeartbeats 1000000
namespace Rg
open PySem PySem.Spec PyProof.Rows L2
section
variable {X : Cx}
def rRng1 : List V → Hp → VK → Prop := fun vs H Q => ∃ j, vs = [V.int j] ∧ ∀ p, H p = none → Q (.ref p) (upd H p (.rng 0 j))
theorem cr_range1 : CallR X (.type "range") rRng1 := by
  intro pins s σ H vs us Q I r h
  obtain ⟨j, rfl, q⟩ := h
  obtain ⟨u1, rfl, rj⟩ := r.one
  obtain ⟨u, rfl⟩ := rj
  refine call_range_1 ⟨.ref s.heap.objs.size, upd H s.heap.objs.size (.rng 0 j), I.laid (t' := s.toks + 1 + 1) (fun b o e => Heap.get?_push_of_some _ e) (Nat.le_refl _) ?_, rfl, q _ (I.hok.fresh (Nat.le_refl _))⟩
  exact ⟨s.toks, u, s.toks + 1, Heap.get?_push_size _ rfl⟩
def iRngV (tl : TE) : TI := fun σ H R => tl σ H fun x H1 => ∃ (p : Addr) (lo hi : Int), x = .ref p ∧ H1 p = some (.rng lo hi) ∧ (-(2 ^ 62) ≤ lo ∧ lo < 2 ^ 62 ∧ -(2 ^ 62) ≤ hi ∧ hi < 2 ^ 62) ∧ R (Itr lo (hi - lo).toNat) H1
theorem pi_rng {tg e : Expr} {tl : TE} (he : PE X e tl) : PI X tg e (iRngV tl) := by
  refine ⟨fun pins s σ H R I h => ?_⟩
  refine thn (he.run pins s σ H _ I h) fun v s1 ⟨x, H1, I1, rx, p, lo, hi, ex, hp, ⟨h1, h2, h3, h4⟩, q⟩ => ?_
  subst ex
  obtain rfl : v = Value.ref p := rx
  obtain ⟨t, u, w, ho⟩ := I1.hok p _ hp
  refine wpAny_pyIter_range ho (small_one h1 h2 h3 h4) ?_
  refine ⟨s1.heap.objs.size, [s1.heap.objs.size], _, _, H1, rfl, I1.kept (t' := s1.toks) fun b o e => Heap.get?_push_of_some _ e, turn_range _ lo (hi - lo).toNat, ?_, fun b hb => ?_, q⟩
  · have e1 : lo + ((0 : Nat) : Int) * 1 = lo := by simp
    have e2 : (((hi - lo).toNat : Nat) : Int) - ((0 : Nat) : Int) = Builtin.Range.rangeSize lo hi 1 := by rw [rangeSize_one]; split <;> omega
    show IsRangeIter _ _ (lo + ((0 : Nat) : Int) * 1) ((((hi - lo).toNat : Nat) : Int) - ((0 : Nat) : Int)) 1
    rw [e1, e2]
    exact Heap.get?_push_size _ rfl
  · have e : b = s1.heap.objs.size := by simpa using hb
    subst e
    exact I1.fpOk (Nat.le_refl _) (I1.hok.fresh (Nat.le_refl _))
end
end Rg
set_option Elab.async false
set_option linter.all false
set_option maxRecDepth 100000
set_option maxHeartbeats 2000000
namespace T34
open PySem PySem.Spec PyProof.Rows L2 Gd Zn Rp Dn Tb Gn En Zs Ct Op Oc Rg
section
variable {P : Program} {w : World} {K : PySem.W.Frag} {mg : Str → Option Value} {base : Heap} {C : Addr}
def sp_detP (C : Addr) : Sp := fun vs H Q _ => ∃ v M n, vs = [v] ∧ Tab C H v M ∧ Sq n M ∧ n ≤ 3 ∧ ∀ H', Same H H' → Q (.int (detM n M)) H'
def sp_eqT (C : Addr) : Sp := fun vs H Q _ => ∃ v o M N, vs = [v, o] ∧ Tab C H v M ∧ Tab C H o N ∧ Q (.bl (decide (M = N))) H
def sp_lead (C : Addr) : Sp := fun vs H Q _ => ∃ v o M xs n, vs = [v, o] ∧ Tab C H v M ∧ SeqV H o (iD xs) ∧ Sq n M ∧ 1 ≤ n ∧ n ≤ 3 ∧ xs.length = n ∧ (∀ x ∈ xs, Small x) ∧ ∀ v' H', Same H H' → RowV H' v' (ledM M xs) → Q v' H'
theorem SeqV.any {H : Hp} {v : V} {xs : List Int} (h : SeqV H v (iD xs)) : ∃ d, AnyV H v d ∧ items d = iD xs ∧ (d = .list (iD xs) ∨ d = .tuple (iD xs)) := by
  rcases h with h | h
  · exact ⟨_, .inl h, rfl, .inl rfl⟩
  · exact ⟨_, .inl h, rfl, .inr rfl⟩
def sp_check_row : Sp := fun vs H Q _ => ∃ v d, ∃ n : Nat, vs = [.int n, v] ∧ AnyV H v d ∧ (items d).length ≤ 200 ∧ rowOfB n d = true ∧ ∀ H', Same H H' → Q .non H'
abbrev st_check_row : Stmt := top 16
theorem sc_check_row : FnScope ["size", "row"] ["size", "row"] (defScope st_check_row) := ⟨rfl, rfl, rfl, by decide +kernel, rfl, by decide +kernel, by decide +kernel⟩
theorem ok_check_row {f : Addr} {fd : FuncData} (F : Fun K "check_row" "check_row" st_check_row f fd) (D1 : Def P w K mg base "is_row_of" 3 ["size", "value"] sp_is_row_of) : FnOk P w K mg base CX0 4 f fd ["size", "row"] sp_check_row := by
  refine F.ok sc_check_row (fun vs H Q E h => ?_) (fun cdv A outer s H vs Q E hr h => ?_)
  · obtain ⟨v, d, n, rfl, _⟩ := h
    rfl
  · obtain ⟨v, d, n, rfl, av, hb, e, q⟩ := h
    refine ⟨_, pss_one (ps_if (pt_not (pt_val (pe_def D1 hr (pa_cons (pv 0) (pa_cons (pv 1) pa_nil))))) pss_dead pss_nil), ?_⟩
    refine ⟨_, rfl, _, rfl, v, d, n, rfl, av, hb, fun H1 s1 => ⟨_, rfl, ?_⟩⟩
    rw [e]
    exact iteF (q H1 s1)
theorem sc_detP : FnScope ["self"] ["self"] (defScope (st_T 3)) := ⟨rfl, rfl, rfl, by decide +kernel, rfl, by decide +kernel, by decide +kernel⟩
theorem ok_detP {f : Addr} {fd : FuncData} (F : Fun K "determinant" "Table.determinant" (st_T 3) f fd) (Tc : Tcl K mg C) (D1 : ∀ n, Def P w K mg base "determinant_of" (2 * n + 1) ["rows"] (sp_det n)) : FnOk P w K mg base CX0 8 f fd ["self"] (sp_detP C) := by
  refine F.ok sc_detP (fun vs H Q E h => ?_) (fun cdv A outer s H vs Q E hr h => ?_)
  · obtain ⟨v, M, n, rfl, _⟩ := h
    rfl
  · obtain ⟨v, M, n, rfl, ⟨p, dx, r, rfl, hp, hM⟩, hS, h3, q⟩ := h
    refine ⟨_, pss_one (ps_ret (pe_def (D1 n) hr (pa_cons (pe_fld (pv 0) rfl) pa_nil) (by omega))), ?_⟩
    exact ⟨_, rfl, p, C, dx, _, _, rfl, hp, Tc.cl, Tc.nR, fldsT_rows _, r, M, rfl, hM, by omega, hS, q⟩
theorem sc_lead : FnScope ["self", "row"] ["self", "row"] (defScope (st_T 8)) := ⟨rfl, rfl, rfl, by decide +kernel, rfl, by decide +kernel, by decide +kernel⟩
theorem ok_lead {f : Addr} {fd : FuncData} (F : Fun K "lead" "Table.lead" (st_T 8) f fd) (Tc : Tcl K mg C) (D1 : Def P w K mg base "check_row" 4 ["size", "row"] sp_check_row) (D2 : Prp P w K mg base C "size" 1 (sp_size C)) (D3 : Def P w K mg base "led_row" 2 ["rows", "row"] sp_led_row) :
    FnOk P w K mg base CX0 5 f fd ["self", "row"] (sp_lead C) := by
  refine F.ok sc_lead (fun vs H Q E h => ?_) (fun cdv A outer s H vs Q E hr h => ?_)
  · obtain ⟨v, o, M, xs, n, rfl, _⟩ := h
    rfl
  · obtain ⟨v, o, M, xs, n, rfl, hv, ho, hS, h1, h3, hx, hsx, q⟩ := h
    refine ⟨_, pss_cons (ps_expr (pe_def D1 hr (pa_cons (pe_prp D2 Tc.cl hr (pv 0)) (pa_cons (pv 1) pa_nil))))
      (pss_one (ps_ret (pe_def D3 hr (pa_cons (pe_fld (pv 0) rfl) (pa_cons (pv 1) pa_nil))))), ?_⟩
    obtain ⟨p, dx, r, rfl, hp, hM⟩ := id hv
    obtain ⟨d, av, ei, hd⟩ := T34.SeqV.any ho
    refine ⟨_, rfl, p, dx, _, rfl, hp, .ref p, M, rfl, hv, ?_⟩
    refine ⟨_, rfl, o, d, M.length, rfl, av, by rw [ei]; unfold iD; rw [List.length_map]; omega, ?_, fun H1 s1 => ?_⟩
    · rw [hS.len]
      exact row_true hd h1 h3 hx
    · refine ⟨_, rfl, p, C, dx, _, _, rfl, s1 _ _ hp, Tc.cl, Tc.nR, fldsT_rows _, ?_⟩
      refine ⟨_, rfl, r, o, M, xs, rfl, hM.mono (KS.of s1), ho.mono s1, by rw [hS.len]; omega, by omega, hsx, fun c hc => ⟨by rw [hS.row c hc, hx], hS.small c hc⟩, fun v' H' s' hv' => q v' H' (s1.trans s') hv'⟩
end
end T34
set_option Elab.async false
set_option linter.all false
set_option maxRecDepth 100000
set_option maxHeartbeats 2000000
namespace T34
open PySem PySem.Spec PyProof.Rows L2 Gd Zn Rp Dn Tb Gn En Zs Ct Op Oc Rg
/-- Table(..) of anything that tells the rows -/
theorem make_any {C : Addr} {H : Hp} {v : V} {d : PyData} {M : List (List Int)} {n : Nat} {Q : VK} {E : XK} (av : AnyV H v d) (g : GridD d M) (hS : Sq n M) (h1 : 1 ≤ n) (h3 : n ≤ 3) (hd : detM n M = 1 ∨ detM n M = -1)
    (k : ∀ c H', Same H H' → Tab C H' (.ref c) M → Q (.ref c) H') : ∀ x dx : Addr, H x = none → H dx = none → dx ≠ x → sp_init C (V.ref x :: ([v] ++ [])) (upd (upd H dx (.own x)) x (.ins C dx [])) (fun u H2 => u = V.non ∧ Q (.ref x) H2) E := by
  intro x dx nx nd ne
  have s : Same H (upd (upd H dx (.own x)) x (.ins C dx [])) := fun c o e => by
    rw [upd_ne (ne_of_none e nx), upd_ne (ne_of_none e nd)]
    exact e
  refine ⟨x, dx, v, d, M, n, rfl, upd_same, av.mono s, g, hS, h1, h3, hd, fun H' kp ht => ⟨rfl, k x H' (fun c o e => ?_) ht⟩⟩
  exact kp c o (ne_of_none e nx) (s c o e)
def lmD (M : List (List Int)) : PyData := .list (M.map fun r => .list (r.map PyData.int))
theorem grid_lm (M : List (List Int)) : GridD (lmD M) M := by
  refine ⟨rfl, ?_, fun i d' e => ?_⟩
  · show (M.map _).length = _
    rw [List.length_map]
  · have e : (M.map fun r => PyData.list (r.map PyData.int))[i]? = some d' := e
    rw [List.getElem?_map] at e
    cases h : M[i]? with
    | none => rw [h] at e; cases e
    | some r =>
      rw [h] at e
      cases e
      exact ⟨r, rfl, .inl rfl⟩
theorem py_ints {H : Hp} : ∀ xs : List Int, PyVs H (xs.map V.int) (xs.map PyData.int)
  | [] => .nil
  | x :: xs => .cons (.int x) (py_ints xs)
theorem pys_lm {H : Hp} : ∀ {vs : List V} {M : List (List Int)}, vs.length = M.length → (∀ (i : Nat) (v : V), vs[i]? = some v → ∃ q, v = .ref q ∧ H q = some (.lst ((M.getD i []).map V.int))) → PyVs H vs (M.map fun r => .list (r.map PyData.int))
  | [], [], _, _ => .nil
  | v :: vs, r :: M, hl, h => by
    obtain ⟨q, rfl, hq⟩ := h 0 v rfl
    exact .cons (.lst hq (py_ints _)) (pys_lm (Nat.succ.inj hl) fun i w e => h (i + 1) w e)
theorem py_lm {H : Hp} {D : Addr} {vs : List V} {M : List (List Int)} (hD : H D = some (.lst vs)) (hl : vs.length = M.length) (h : ∀ (i : Nat) (v : V), vs[i]? = some v → ∃ q, v = .ref q ∧ H q = some (.lst ((M.getD i []).map V.int))) : PyV H (.ref D) (lmD M) := .lst hD (pys_lm hl h)
theorem und_get {n p : Nat} {M : List (List Int)} (h : p < n) : (undM n M).getD p [] = (List.range n).map fun a => detM n M * cofM (n - 1) M a p := by
  unfold undM
  rw [List.getD_eq_getElem?_getD, List.getElem?_map, List.getElem?_range h]
  rfl
section
variable {P : Program} {w : World} {K : PySem.W.Frag} {mg : Str → Option Value} {base : Heap} {C : Addr}
def sp_undone (C : Addr) : Sp := fun vs H Q _ => ∃ v M n, vs = [v] ∧ Tab C H v M ∧ Gr n M ∧ Sq n M ∧ Sq n (undM n M) ∧ ∀ c H', Same H H' → Tab C H' (.ref c) (undM n M) → Q (.ref c) H'
abbrev N_undone : List Str := ["self", "whole", "places", "place", "at"]
theorem sc_undone : FnScope N_undone ["self"] (defScope (st_T 9)) := ⟨rfl, rfl, rfl, by decide +kernel, rfl, by decide +kernel, by decide +kernel⟩
theorem ok_undone {f : Addr} {fd : FuncData} (F : Fun K "undone" "Table.undone" (st_T 9) f fd) (T : Txt mg) (Tc : Tcl K mg C) (D1 : Prp P w K mg base C "determinant" 8 (sp_detP C)) (D2 : Prp P w K mg base C "size" 1 (sp_size C))
    (D3 : ∀ n, Def P w K mg base "cofactor" (2 * n + 2) ["rows", "at", "place"] (sp_cof n)) (D4 : Mkr P w K mg base C) : FnOk P w K mg base CX0 10 f fd ["self"] (sp_undone C) := by
  refine F.ok sc_undone (fun vs H Q E h => ?_) (fun cdv A outer s H vs Q E hr h => ?_)
  · obtain ⟨v, M, n, rfl, _⟩ := h
    rfl
  · obtain ⟨v, M, n, rfl, hv, G, hS, hU, q⟩ := h
    obtain ⟨m, rfl⟩ : ∃ m, n = m + 1 := ⟨n - 1, by have := G.h1; omega⟩
    have h3 := G.h3
    refine ⟨_, pss_cons (ps_set (i := 1) sc_undone.nd rfl (Or.inr rfl) (pe_prp D1 Tc.cl hr (pv 0)))
      (pss_cons (ps_set (i := 2) sc_undone.nd rfl (Or.inr rfl) (pe_callTy (r := rRng1) cr_range1 (by rfl) T.range PyProof.Rows.boot_range (pa_cons (pe_prp D2 Tc.cl hr (pv 0)) pa_nil)))
      (pss_one (ps_ret (pe_mkr D4 Tc hr (pa_cons (pe_lc (own := [("place", 3)]) (g := gName 3) (tt := tYes) rfl sc_undone.nd (pi_rng (pv 2))
        (blkOk_by (N := N_undone) (sc := defScope (st_T 9)) (by decide +kernel))
        (fun _ _ _ _ _ => pg_name (i := 3) sc_undone.nd rfl (Or.inr rfl) (Or.inl rfl)) (fun _ _ _ _ _ => pts_nil)
        (fun s' H' C' cl' fp' => by
          refine pe_lc (own := [("at", 4)]) (wi := iRngV (tVar 2)) (g := gName 4) (tt := tYes) (te := tOp (rI CMul fun i j => .int (i * j)) (tVar 1) (tCall (sp_cof m) [] E0 (tCons (tFld K (tVar 0) "_rows") (tCons (tVar 4) (tCons (tVar 3) tNil))))) rfl sc_undone.nd ?p1 ?p2 ?p3 ?p4 ?p5
          case p1 => exact pi_rng (pv 2)
          case p2 => exact blkOk_by (N := N_undone) (by rfl)
          case p3 => exact (fun _ _ _ _ _ => pg_name (i := 4) sc_undone.nd rfl (Or.inl rfl) (Or.inr rfl))
          case p4 => exact (fun _ _ _ _ _ => pts_nil)
          case p5 => exact (fun _ _ _ _ _ => pe_op op_mul (pv 1) (pe_def (X := Cx.blk _ _ _ _ _ _) (D3 m) hr (pa_cons (pe_fld (pv 0) rfl) (pa_cons (pv 4) (pa_cons (pv 3) pa_nil))) (by omega))))) pa_nil))))), ?_⟩
    obtain ⟨p, dx, r, rfl, hp, hM⟩ := id hv
    refine ⟨_, rfl, p, dx, _, rfl, hp, .ref p, M, m + 1, rfl, hv, hS, h3, fun H1 s1 => ?_⟩
    refine ⟨_, rfl, p, dx, _, rfl, s1 _ _ hp, .ref p, M, rfl, T34.Tab.same s1 hv, _, rfl, fun pl np => ?_⟩
    have s2 : Same H (upd H1 pl (.rng 0 (M.length : Int))) := s1.trans (same_new np)
    have hpl : upd H1 pl (.rng 0 (M.length : Int)) pl = some (.rng 0 (M.length : Int)) := upd_same
    have hlen : (M.length : Int) = ((m + 1 : Nat) : Int) := by rw [hS.len]
    rw [hlen] at hpl s2 ⊢
    generalize upd H1 pl (.rng 0 ((m + 1 : Nat) : Int)) = H2 at hpl s2
    have hb : -(2 ^ 62) ≤ (0 : Int) ∧ (0 : Int) < 2 ^ 62 ∧ -(2 ^ 62) ≤ ((m + 1 : Nat) : Int) ∧ ((m + 1 : Nat) : Int) < 2 ^ 62 := ⟨by decide, by decide, by omega, by omega⟩
    have hn : (((m + 1 : Nat) : Int) - 0).toNat = m + 1 := by omega
    have hw : -(2 ^ 64) < detM (m + 1) M ∧ detM (m + 1) M < 2 ^ 64 := by rcases G.d with e | e <;> rw [e] <;> exact ⟨by decide, by decide⟩
    refine r_nret (r_cons (tlc_call ?_))
    refine ⟨_, rfl, pl, 0, ((m + 1 : Nat) : Int), rfl, hpl, hb, ?_⟩
    rw [hn]
    refine lc_fresh (p := none) (m + 1) (fun i => .lst (((undM (m + 1) M).getD i []).map V.int)) has_none (by omega) (fun i H3 hi s3 => hi) (fun H3 s3 => Nat.le_refl _) (fun i x H3 H4 C' hi s3 _ hy hC => ?_) fun Da H3 rs nD s3 hD hrl hE => ?_
    · obtain ⟨rfl, rfl⟩ := hy
      refine ⟨rfl, ?_⟩
      refine tlc_call ?_
      refine ⟨_, rfl, pl, 0, ((m + 1 : Nat) : Int), rfl, s3.same _ _ hpl, hb, ?_⟩
      rw [hn]
      refine lc_el (p := none) (m + 1) (fun j v => v = .int (detM (m + 1) M * cofM m M j i)) has_none (by omega) (fun j H5 hj s5 => hj) (fun H5 s5 => Nat.le_refl _) (fun j x H5 H6 C2 hj s5 _ hy2 hC2 => ?_) fun Db H5 ys nDb s5 hDb hyl hyE => ?_
      · obtain ⟨rfl, rfl⟩ := hy2
        refine ⟨rfl, ?_⟩
        have sz := s2.trans (s3.same.trans s5.same)
        refine ⟨_, rfl, _, rfl, p, C, dx, _, _, rfl, sz _ _ hp, Tc.cl, Tc.nR, fldsT_rows _, _, rfl, _, rfl, ?_⟩
        refine ⟨r, M, j, i, by simp, hM.mono (KS.of sz), by omega, hS, by omega, by omega, fun H7 s7 => ?_⟩
        exact ⟨_, _, rfl, rfl, .inl hw, hC2 _ _ (RX.of s7) rfl⟩
      · refine hC Db H5 s5 nDb ?_
        have ey : ys = (List.range (m + 1)).map fun j => V.int (detM (m + 1) M * cofM m M j i) := map_of_get (n := 0) _ (by rw [hyl, List.length_range]) fun j v e => by
          have hj : j < m + 1 := by rw [← hyl]; exact (List.getElem?_eq_some_iff.mp e).1
          exact ⟨j, List.getElem?_range hj, hyE j v e⟩
        rw [hDb, ey, und_get hi, List.map_map]
        rfl
    · have S := s2.trans s3.same
      have hpy : PyV H3 (.ref Da) (lmD (undM (m + 1) M)) := py_lm hD (by rw [hrl, (und_sh (n := m + 1) (M := M)).len]) hE
      exact make_any (.inl hpy) (grid_lm _) hU G.h1 h3 G.und.d fun c H4 s4 ht => q c H4 (S.trans s4) ht
end
end T34
set_option Elab.async false
set_option linter.all false
set_option maxRecDepth 100000
set_option maxHeartbeats 4000000
namespace Rt
open PySem PySem.Spec PyProof.Rows L2 Dn
end Rt
set_option Elab.async false
set_option linter.all false
set_option maxRecDepth 100000
set_option maxHeartbeats 2000000
namespace T34
open PySem PySem.Spec PyProof.Rows L2 Gd Zn Rp Dn Tb Gn En Zs Ct Op Oc Rg Rt
structure EqP (P : Program) (w : World) (K : PySem.W.Frag) (mg : Str → Option Value) (base : Heap) (C : Addr) : Prop where
  ex : ∃ (g : Addr) (gd : FuncData), PySem.W.findIn K (.ref C) "__eq__" = some (some (.ref g)) ∧ PySem.W.isFn K (.ref g) = true ∧ FnOk P w K mg base CX0 1 g gd ["self", "other"] (sp_eqT C) ∧ Binds K gd ["self", "other"] [] ∧
    PySem.W.findIn K (.ref C) "__ne__" = some (some (.builtin "object.__ne__")) ∧ PySem.W.mroIn K C (.type "object") = some true
abbrev eqSp (C : Addr) : Sp := fun vs H Q E => sp_eqT C (vs ++ []) H Q E
theorem opEq {X : Cx} {C : Addr} {j : Nat} (D : EqP X.prog X.w X.K X.mg X.base C) (room : Room j X.A) (hkj : 2 ≤ j := by decide) : OpR X (compareOp .Eq) (rEqO C (eqSp C) E0) := by
  obtain ⟨g, gd, h1, h2, G, b, _, _⟩ := D.ex
  exact op_eqO h1 h2 (G.raw b .nil) (room.mono (by omega)) pass0
theorem rd_eq {C : Addr} {H : Hp} {x y : V} {M N : List (List Int)} {Q : VK} (hx : Tab C H x M) (hy : Tab C H y N) (q : Q (.bl (decide (M = N))) H) : rEqO C (eqSp C) E0 x y H Q := by
  obtain ⟨a, dx, r, rfl, ha, hm⟩ := id hx
  obtain ⟨b, dy, s, rfl, hb, hn⟩ := id hy
  exact ⟨a, dx, _, b, dy, _, rfl, rfl, ha, hb, .ref a, .ref b, M, N, rfl, hx, hy, q⟩
abbrev mulR (C : Addr) : R2 := rOwnB C (fun vs H Q E => sp_mul C (vs ++ []) H Q E) E0
theorem rd_mul {C : Addr} {H : Hp} {Q : VK} {n : Nat} {M N : List (List Int)} {x y : V} (hx : Tab C H x M) (hy : Tab C H y N) (gM : Gr n M) (gN : Gr n N) (sM : Sq n M) (sN : Sq n N) (sP : Sq n (mulM n M N)) (q : ∀ c H', Same H H' → Tab C H' (.ref c) (mulM n M N) → Q (.ref c) H') : mulR C x y H Q := by
  obtain ⟨a, dx, r, rfl, ha, hm⟩ := id hx
  obtain ⟨b, dy, s, rfl, hb, hn⟩ := id hy
  exact ⟨a, dx, _, b, dy, _, rfl, rfl, ha, hb, .ref a, .ref b, M, N, n, rfl, hx, hy, gM.h1, gM.h3, sM, sN, sP, (gM.mul gN).d, fun c H' s ht => ⟨⟨c, rfl⟩, q c H' s ht⟩⟩
theorem noU {r : V} {m : Str} (e : ¬ m = ("_rows" : Str) := by decide +kernel) : (fldsT r).lookup m = none := by
  unfold fldsT; rw [lookup_putF, if_neg e]; rfl
def besM (n m : Nat) (M N : List (List Int)) : List (List Int) := (M.map fun r => r ++ List.replicate m 0) ++ (N.map fun r => List.replicate n 0 ++ r)
theorem bes_sh {n m : Nat} {M N : List (List Int)} (hM : Sh n M) (hN : Sh m N) : Sh (n + m) (besM n m M N) := by
  refine ⟨?_, fun r hr => ?_⟩
  · unfold besM
    rw [List.length_append, List.length_map, List.length_map, hM.len, hN.len]
  · unfold besM at hr
    rcases List.mem_append.mp hr with h | h
    · obtain ⟨s, hs, rfl⟩ := List.mem_map.mp h
      rw [List.length_append, List.length_replicate, hM.row s hs]
    · obtain ⟨s, hs, rfl⟩ := List.mem_map.mp h
      rw [List.length_append, List.length_replicate, hN.row s hs]
section
variable {P : Program} {w : World} {K : PySem.W.Frag} {mg : Str → Option Value} {base : Heap} {C : Addr}
structure OkB (n m : Nat) (M N : List (List Int)) : Prop where
  gM : Gr n M
  gN : Gr m N
  sM : Sq n M
  sN : Sq m N
  h3 : n + m ≤ 3
theorem OkB.sq {n m : Nat} {M N : List (List Int)} (h : OkB n m M N) : Sq (n + m) (besM n m M N) := by
  refine ⟨(bes_sh h.gM.sh h.gN.sh).len, (bes_sh h.gM.sh h.gN.sh).row, fun r hr x hx => ?_⟩
  unfold besM at hr
  have z : Small 0 := Wd.lit ⟨by decide, by decide⟩
  rcases List.mem_append.mp hr with h' | h'
  · obtain ⟨s, hs, rfl⟩ := List.mem_map.mp h'
    rcases List.mem_append.mp hx with h' | h'
    · exact h.sM.small s hs x h'
    · rw [(List.mem_replicate.mp h').2]; exact z
  · obtain ⟨s, hs, rfl⟩ := List.mem_map.mp h'
    rcases List.mem_append.mp hx with h' | h'
    · rw [(List.mem_replicate.mp h').2]; exact z
    · exact h.sN.small s hs x h'
theorem _root_.Tb.RowsV.append {H : Hp} {vs ws : List V} {M N : List (List Int)} (h : RowsV H vs M) (k : RowsV H ws N) : RowsV H (vs ++ ws) (M ++ N) := by
  induction h with
  | nil => exact k
  | cons p _ ih => exact .cons p ih
end
end T34
set_option Elab.async false
set_option linter.all false
set_option maxRecDepth 100000
set_option maxHeartbeats 2000000
namespace T34
open PySem PySem.Spec PyProof.Rows L2 Gd Zn Rp Dn Tb Gn En Zs Ct Op Oc Rg Rt
/-- any iterator, walked by an invariant -/
theorem for_by {J : It} {g : TG} {tb : TS} {D : Ends} {σ : L2.St} {H : Hp} (n : Nat) (Pv : Nat → L2.St → Hp → Prop) (h0 : Pv 0 σ H) (hgo : ∀ i σ H, i < n → Pv i σ H → J.go i H) (hst : ∀ σ H, Pv n σ H → J.stop n H)
    (hs : ∀ i x σ H H', i < n → Pv i σ H → J.yld i H x H' → g x σ H' fun σ2 H2 => tb { D with nx := Pv (i + 1), ct := Pv (i + 1), bk := D.nx } σ2 H2) (hd : ∀ σ H, Pv n σ H → D.nx σ H) :
    ∃ W : Nat → Nat → L2.St → Hp → Prop, (∃ m, W 0 m σ H) ∧ ∀ i m σ H, W i m σ H →
      (J.stop i H ∧ D.nx σ H) ∨ (J.go i H ∧ ∃ N : L2.St → Hp → Prop, (∀ σ' H', N σ' H' → ∃ m', m' < m ∧ W (i + 1) m' σ' H') ∧ ∀ x H', J.yld i H x H' → g x σ H' fun σ2 H2 => tb { D with nx := N, ct := N, bk := D.nx } σ2 H2) := by
  refine ⟨fun i m σ H => m = n - i ∧ i ≤ n ∧ Pv i σ H, ⟨n, by simp, Nat.zero_le _, h0⟩, ?_⟩
  rintro i m σ H ⟨rfl, hi, p⟩
  by_cases hlt : i < n
  · exact .inr ⟨hgo i σ H hlt p, Pv (i + 1), fun σ' H' p' => ⟨n - (i + 1), by omega, rfl, hlt, p'⟩, fun x H' y => hs i x σ H H' hlt p y⟩
  · have e : i = n := by omega
    subst e
    exact .inl ⟨hst σ H p, hd σ H p⟩
/-- rows as tuples, in a tuple or a list -/
def MxS (H : Hp) (v : V) (M : List (List Int)) : Prop := ∃ (t : Bool) (a : Addr) (vs : List V), v = .ref a ∧ H a = some (if t = true then .tup vs else .lst vs) ∧ RowsV H vs M
theorem Mx.s {H : Hp} {v : V} {M : List (List Int)} (h : Mx H v M) : MxS H v M := by
  obtain ⟨a, vs, rfl, h, r⟩ := h
  exact ⟨true, a, vs, rfl, h, r⟩
theorem MxS.same {H H' : Hp} {v : V} {M : List (List Int)} (s : Same H H') (h : MxS H v M) : MxS H' v M := by
  obtain ⟨t, a, vs, rfl, h, r⟩ := h
  exact ⟨t, a, vs, rfl, s _ _ h, r.mono (KS.of s)⟩
theorem out0 (M : List (List Int)) (k : Nat) : outM M 0 k = (M.drop 1).map (cutAt k) := by
  cases M with
  | nil => simp [outM, outW]
  | cons r M =>
    unfold outM outW
    rw [List.length_cons, List.range_succ_eq_map]
    simp only [List.drop_one, List.tail_cons]
    rw [List.filter_cons]
    simp only [decide_true, Bool.not_true, Bool.false_eq_true, if_false]
    rw [List.filter_eq_self.mpr (by intro a ha; obtain ⟨b, _, rfl⟩ := List.mem_map.mp ha; simp), List.map_map]
    apply List.ext_getElem
    · simp
    · intro i h1 h2
      have hi : i < M.length := by simpa using h2
      simp [hi]
theorem cutV_drop (vs : List V) (h : 1 ≤ vs.length) : cutV vs (some 1) none = vs.drop 1 := by
  unfold cutV
  rw [show (1 : Int) = ((1 : Nat) : Int) by rfl, HT.sIx_nat, HT.sIx_none, Nat.min_eq_left h]
  exact List.take_of_length_le (by rw [List.length_drop]; exact Nat.le_refl _)
end T34
set_option Elab.async false
set_option linter.all false
set_option maxRecDepth 100000
set_option maxHeartbeats 2000000
set_option Elab.async false
set_option linter.all false
set_option maxRecDepth 100000
set_option maxHeartbeats 2000000
set_option Elab.async false
set_option linter.all false
set_option maxRecDepth 100000
set_option maxHeartbeats 2000000
namespace T34
open PySem PySem.Spec PyProof.Rows L2 Gd Zn Rp Dn Tb Gn En Zs Ct Op Oc Rg Rt
/-- bounds by bits -/
structure SqE (n k : Nat) (M : List (List Int)) : Prop where
  len : M.length = n
  row : ∀ r ∈ M, r.length = n
  bd : ∀ r ∈ M, ∀ x ∈ r, x.natAbs < 2 ^ k
theorem SqE.sh {n k : Nat} {M : List (List Int)} (h : SqE n k M) : Sh n M := ⟨h.len, h.row⟩
theorem SqE.mono {n k l : Nat} {M : List (List Int)} (h : SqE n k M) (e : k ≤ l) : SqE n l M := ⟨h.len, h.row, fun r hr x hx => Wd.abs_mono (h.bd r hr x hx) e⟩
theorem SqE.sq {n k : Nat} {M : List (List Int)} (h : SqE n k M) (e : k ≤ 20000) : Sq n M := ⟨h.len, h.row, fun r hr x hx => ⟨k, e, h.bd r hr x hx⟩⟩
theorem SqB.e {n k : Nat} {B : Int} {M : List (List Int)} (h : SqB n B M) (e : B.toNat < 2 ^ k) : SqE n k M := ⟨h.len, h.row, fun r hr x hx => by
  have := h.bd r hr x hx
  omega⟩
theorem ae1 {a b : Int} {k l : Nat} (ha : a.natAbs < 2 ^ k) (hb : b.natAbs < 2 ^ l) : (a * b).natAbs < 2 ^ (k + l + 2) := Wd.abs_mono (Wd.abs_mul ha hb) (by omega)
theorem ae2 {a b c d : Int} {k l : Nat} (ha : a.natAbs < 2 ^ k) (hb : b.natAbs < 2 ^ l) (hc : c.natAbs < 2 ^ k) (hd : d.natAbs < 2 ^ l) : (a * b + c * d).natAbs < 2 ^ (k + l + 2) :=
  Wd.abs_mono (Wd.abs_add (Wd.abs_mul ha hb) (Wd.abs_mul hc hd)) (by omega)
theorem ae3 {a b c d e f : Int} {k l : Nat} (ha : a.natAbs < 2 ^ k) (hb : b.natAbs < 2 ^ l) (hc : c.natAbs < 2 ^ k) (hd : d.natAbs < 2 ^ l) (he : e.natAbs < 2 ^ k) (hf : f.natAbs < 2 ^ l) : (a * b + (c * d + e * f)).natAbs < 2 ^ (k + l + 2) :=
  Wd.abs_add (Wd.abs_mono (Wd.abs_mul ha hb) (by omega)) (Wd.abs_add (Wd.abs_mul hc hd) (Wd.abs_mul he hf))
theorem SqE.mul {n k l : Nat} {M N : List (List Int)} (hM : SqE n k M) (hN : SqE n l N) (h1 : 1 ≤ n) (h3 : n ≤ 3) : SqE n (k + l + 2) (mulM n M N) := by
  refine ⟨(mul_sh h1 h3 hM.sh hN.sh).len, (mul_sh h1 h3 hM.sh hN.sh).row, ?_⟩
  have : n = 1 ∨ n = 2 ∨ n = 3 := by omega
  rcases this with rfl | rfl | rfl
  · obtain ⟨a, rfl⟩ := sh1 hM.sh rfl
    obtain ⟨b, rfl⟩ := sh1 hN.sh rfl
    have x := hM.bd
    have y := hN.bd
    rw [mulE1]
    simp only [List.mem_cons, List.not_mem_nil, or_false, forall_eq] at x y ⊢
    exact ae1 x y
  · obtain ⟨a, b, c, d, rfl⟩ := sh2 hM.sh rfl
    obtain ⟨e, f, g, h, rfl⟩ := sh2 hN.sh rfl
    have x := hM.bd
    have y := hN.bd
    rw [mulE2]
    simp only [List.mem_cons, List.not_mem_nil, or_false, forall_eq_or_imp, forall_eq] at x y ⊢
    obtain ⟨⟨x1, x2⟩, x3, x4⟩ := x
    obtain ⟨⟨y1, y2⟩, y3, y4⟩ := y
    exact ⟨⟨ae2 x1 y1 x2 y3, ae2 x1 y2 x2 y4⟩, ae2 x3 y1 x4 y3, ae2 x3 y2 x4 y4⟩
  · obtain ⟨a, b, c, d, e, f, g, h, i, rfl⟩ := sh3 hM.sh rfl
    obtain ⟨j, k', l', m, n, o, p, q, r, rfl⟩ := sh3 hN.sh rfl
    have x := hM.bd
    have y := hN.bd
    rw [mulE3]
    simp only [List.mem_cons, List.not_mem_nil, or_false, forall_eq_or_imp, forall_eq] at x y ⊢
    obtain ⟨⟨x1, x2, x3⟩, ⟨x4, x5, x6⟩, x7, x8, x9⟩ := x
    obtain ⟨⟨y1, y2, y3⟩, ⟨y4, y5, y6⟩, y7, y8, y9⟩ := y
    exact ⟨⟨ae3 x1 y1 x2 y4 x3 y7, ae3 x1 y2 x2 y5 x3 y8, ae3 x1 y3 x2 y6 x3 y9⟩, ⟨ae3 x4 y1 x5 y4 x6 y7, ae3 x4 y2 x5 y5 x6 y8, ae3 x4 y3 x5 y6 x6 y9⟩, ae3 x7 y1 x8 y4 x9 y7, ae3 x7 y2 x8 y5 x9 y8, ae3 x7 y3 x8 y6 x9 y9⟩
theorem pmE {d x : Int} {k : Nat} (hd : d = 1 ∨ d = -1) (hx : x.natAbs < 2 ^ k) : (d * x).natAbs < 2 ^ k ∧ (-(d * x)).natAbs < 2 ^ k := by
  rcases hd with rfl | rfl <;> omega
theorem dfE {a b c d : Int} {k : Nat} (ha : a.natAbs < 2 ^ k) (hb : b.natAbs < 2 ^ k) (hc : c.natAbs < 2 ^ k) (hd : d.natAbs < 2 ^ k) : (a * b - c * d).natAbs < 2 ^ (2 * k + 1) := by
  have h1 := Wd.abs_mul ha hb
  have h2 := Wd.abs_mul hc hd
  have e : 2 * k + 1 = (k + k) + 1 := by omega
  rw [e, Nat.pow_succ]
  omega
theorem SqE.und {n k : Nat} {M : List (List Int)} (h : SqE n k M) (g : Gr n M) : SqE n (2 * k + 1) (undM n M) := by
  refine ⟨und_sh.len, und_sh.row, ?_⟩
  have hd := g.d
  have kk : k ≤ 2 * k + 1 := by omega
  rcases g.cases with rfl | rfl | rfl
  · obtain ⟨x, rfl⟩ := sh1 h.sh rfl
    have b := h.bd
    rw [undE1]
    simp only [List.mem_cons, List.not_mem_nil, or_false, forall_eq] at b ⊢
    exact Wd.abs_mono b kk
  · obtain ⟨x, y, z, w, rfl⟩ := sh2 h.sh rfl
    have b := h.bd
    rw [undE2]
    rw [det2] at hd
    generalize x * w - y * z = d at hd
    simp only [List.mem_cons, List.not_mem_nil, or_false, forall_eq_or_imp, forall_eq] at b ⊢
    obtain ⟨⟨b1, b2⟩, b3, b4⟩ := b
    exact ⟨⟨(pmE hd (Wd.abs_mono b4 kk)).1, (pmE hd (Wd.abs_mono b2 kk)).2⟩, (pmE hd (Wd.abs_mono b3 kk)).2, (pmE hd (Wd.abs_mono b1 kk)).1⟩
  · obtain ⟨x, y, z, u, v, w, r, s, t, rfl⟩ := sh3 h.sh rfl
    have b := h.bd
    rw [undE3]
    rw [det3] at hd
    dsimp only
    generalize x * (v * t - w * s) - y * (u * t - w * r) + z * (u * s - v * r) = d at hd
    simp only [List.mem_cons, List.not_mem_nil, or_false, forall_eq_or_imp, forall_eq] at b ⊢
    obtain ⟨⟨b1, b2, b3⟩, ⟨b4, b5, b6⟩, b7, b8, b9⟩ := b
    exact ⟨⟨(pmE hd (dfE b5 b9 b6 b8)).1, (pmE hd (dfE b2 b9 b3 b8)).2, (pmE hd (dfE b2 b6 b3 b5)).1⟩, ⟨(pmE hd (dfE b4 b9 b6 b7)).2, (pmE hd (dfE b1 b9 b3 b7)).1, (pmE hd (dfE b1 b6 b3 b4)).2⟩, (pmE hd (dfE b4 b8 b5 b7)).1, (pmE hd (dfE b1 b8 b2 b7)).2, (pmE hd (dfE b1 b5 b2 b4)).1⟩
/-- a Table in the heap, with the bits of its numbers -/
structure Tv (C : Addr) (H : Hp) (x : V) (n : Nat) (b : Nat) (M : List (List Int)) : Prop where
  tab : Tab C H x M
  gr : Gr n M
  bd : SqE n b M
theorem Tv.same {C : Addr} {H H' : Hp} {x : V} {n : Nat} {b : Nat} {M : List (List Int)} (h : Tv C H x n b M) (s : Same H H') : Tv C H' x n b M := ⟨T34.Tab.same s h.tab, h.gr, h.bd⟩
section
variable {C : Addr} {H : Hp} {Q : VK} {E : XK} {n m : Nat} {b c : Nat} {M N : List (List Int)} {x y : V}
theorem o_mul (hx : Tv C H x n b M) (hy : Tv C H y n c N) (q : ∀ d H', Same H H' → Tv C H' (.ref d) n (b + c + 2) (mulM n M N) → Q (.ref d) H') (h : b + c ≤ 19000 := by decide) : mulR C x y H Q := by
  have p := hx.bd.mul hy.bd hx.gr.h1 hx.gr.h3
  exact rd_mul hx.tab hy.tab hx.gr hy.gr (hx.bd.sq (by omega)) (hy.bd.sq (by omega)) (p.sq (by omega)) fun d H' s t => q d H' s ⟨t, hx.gr.mul hy.gr, p⟩
end
structure DefK (P : Program) (w : World) (K : PySem.W.Frag) (mg : Str → Option Value) (base : Heap) (nm : Str) (k : Nat) (ps ks : List Str) (sp : Sp) (g : List Value → List Value → List Value) (gV : List V → List V → List V) : Prop where
  ex : ∃ (f : Addr) (fd : FuncData), FnOk P w K mg base CX0 k f fd ps sp ∧ mg nm = some (.ref f) ∧ PySem.W.keepIn K (.ref f) = true ∧ Binds K fd ps [] ∧ KBinds K fd ps ks g gV
theorem DefK.d {P : Program} {w : World} {K : PySem.W.Frag} {mg : Str → Option Value} {base : Heap} {nm : Str} {k : Nat} {ps ks : List Str} {sp : Sp} {g gV} (D : DefK P w K mg base nm k ps ks sp g gV) : Def P w K mg base nm k ps sp :=
  let ⟨f, fd, G, m, kp, b, _⟩ := D.ex
  ⟨f, fd, G, m, kp, b⟩
theorem pe_defN {X : Cx} {nm : Str} {k j : Nat} {ps ks : List Str} {sp : Sp} {g gV} {kws : List Keyword} {tk : TA} {p pos : Pos} (D : DefK X.prog X.w X.K X.mg X.base nm k ps ks sp g gV) (room : Room j X.A) (hkw : PK X kws tk) (hkj : k ≤ j := by decide) (hg : Gl X nm := by rfl) (hdb : (nm == ("__debug__" : Str)) = false := by decide)
    (hall : (backToKw pos (keywordEach kws X.env)).all (·.1.isSome) = true := by rfl) (hks : (backToKw pos (keywordEach kws X.env)).filterMap (·.1) = ks := by rfl)
    (hpl : ((backTo pos (starEach [] X.env)).any (·.1) || (backToKw pos (keywordEach kws X.env)).any (·.1.isNone)) = false := by rfl) :
    PE X (.Call (.Name nm p) [] kws pos) (fun σ H Q => tk σ H fun zs H2 => sp (gV [] zs) H2 Q E0) := by
  obtain ⟨f, fd, G, m, kp, b, kb⟩ := D.ex
  exact pe_names G (room.mono hkj) hg m kp kb pass0 hkw hall hks hdb hpl
abbrev gV2 : List V → List V → List V := fun us ws => match us, ws with | [], [a, b] => [b, a] | _, _ => []
abbrev gU2 : List Value → List Value → List Value := fun us ws => match us, ws with | [], [a, b] => [b, a] | _, _ => []
abbrev gV1 : List V → List V → List V := fun us ws => match us, ws with | [], [a] => [a] | _, _ => []
end T34
set_option Elab.async false
set_option linter.all false
set_option maxRecDepth 100000
set_option maxHeartbeats 4000000
namespace T34
open PySem PySem.Spec PyProof.Rows L2 Gd Zn Rp Dn Tb Gn En Zs Ct Op Oc Rg Rt
theorem r_neMx {K : PySem.W.Frag} {H : Hp} {x y : V} {M N : List (List Int)} {Q : VK} (hx : Mx H x M) (hy : Mx H y N) (q : Q (.bl (!decide (M = N))) H) : rNeD K x y H Q := by
  refine ⟨mxD M, mxD N, dp_mx hx, dp_mx hy, shaped_mx M, shaped_mx N, ?_⟩
  rw [eqv_mx]
  exact q
theorem ne_no {M N : List (List Int)} (e : M = N) : (!decide (M = N)) = false := by rw [decide_eq_true e]; rfl
theorem r_or {t u : TT} {σ : L2.St} {H : Hp} {Q : Bool → Hp → Prop} (h : t σ H fun c H1 => if c = true then Q true H1 else u σ H1 Q) : tOr t u σ H Q := h
theorem r_tt {te : TE} {σ : L2.St} {H : Hp} {Q : Bool → Hp → Prop} (h : te σ H fun x H1 => ∃ k, x = .bl k ∧ Q k H1) : tTest te σ H Q := h
theorem r_andV {ta tb : TE} {σ : L2.St} {H : Hp} {Q : VK} (h : ta σ H fun x H1 => ∃ c, x = .bl c ∧ if c = true then tb σ H1 Q else Q (.bl false) H1) : tAndV ta tb σ H Q := h
theorem a1 {sp : Sp} {E : XK} {ta : TE} {σ : L2.St} {H : Hp} {Q : VK} (h : ta σ H fun x H1 => sp [x] H1 Q E) : tCall sp [] E (tCons ta tNil) σ H Q := h
theorem a2 {sp : Sp} {E : XK} {ta tb : TE} {σ : L2.St} {H : Hp} {Q : VK} (h : ta σ H fun x H1 => tb σ H1 fun y H2 => sp [x, y] H2 Q E) : tCall sp [] E (tCons ta (tCons tb tNil)) σ H Q := h
theorem r_meth0 {C : Addr} {m : Str} {sp : Sp} {E : XK} {ta : TE} {σ : L2.St} {H : Hp} {Q : VK} (h : ta σ H fun x H1 => ∃ a dx fs, x = .ref a ∧ H1 a = some (.ins C dx fs) ∧ fs.lookup m = none ∧ sp (x :: ([] ++ [])) H1 Q E) : tMeth C m sp [] E ta tNil σ H Q := h
def sp_right : Sp := fun vs H Q _ => ∃ p, vs = [.ref p] ∧ PotOk H p ∧ ∀ H', RX (some p) H H' → Q (.bl true) H'
theorem r_tup {t : TA} {σ : L2.St} {H : Hp} {Q : VK} (h : t σ H fun xs H1 => xs.length ≤ sizeLine ∧ ∀ p, H1 p = none → Q (.ref p) (upd H1 p (.tup xs))) : tTup t σ H Q := h
theorem n2 {sp : Sp} {ta tb : TE} {σ : L2.St} {H : Hp} {Q : VK} (h : ta σ H fun x H1 => tb σ H1 fun y H2 => sp [y, x] H2 Q E0) : tCons ta (tCons tb tNil) σ H (fun zs H2 => sp (gV2 [] zs) H2 Q E0) := h
theorem r_par2 {i j : Nat} {ta : TA} {D : Ends} {σ : L2.St} {H : Hp} (h : ta σ H fun vs H1 => ∃ v w, vs = [v, w] ∧ D.nx ((σ.set i (some v)).set j (some w)) H1) : tPar i j ta D σ H := h
theorem r_meth1 {C : Addr} {m : Str} {sp : Sp} {E : XK} {ta tb : TE} {σ : L2.St} {H : Hp} {Q : VK} (h : ta σ H fun x H1 => ∃ a dx fs, x = .ref a ∧ H1 a = some (.ins C dx fs) ∧ fs.lookup m = none ∧ tb σ H1 fun y H2 => sp [x, y] H2 Q E) : tMeth C m sp [] E ta (tCons tb tNil) σ H Q := h
theorem c_lead {C : Addr} {E : XK} {H : Hp} {n : Nat} {b : Nat} {M : List (List Int)} {x y : V} {xs : List Int} {Q : VK} (hx : Tv C H x n b M) (hy : SeqV H y (iD xs)) (l : xs.length = n) (hsx : ∀ x ∈ xs, Small x) (lb : b ≤ 20000) (q : ∀ v' H', Same H H' → RowV H' v' (ledM M xs) → Q v' H') : sp_lead C [x, y] H Q E :=
  ⟨x, y, M, xs, n, rfl, hx.tab, hy, hx.bd.sq lb, hx.gr.h1, hx.gr.h3, l, hsx, q⟩
def sp_law (K : PySem.W.Frag) : Sp := fun vs H Q _ => ∃ (a : Addr) (ns : List Int), vs = [.ref a] ∧ SqL K H a (ns.map V.int) ∧ ns.length ≤ 63 ∧ ∀ H', Q (.bl true) H'
theorem count_of (l c : Nat) (hc : 1 ≤ c) : ∃ m : Nat, (if (if (l : Int) < (c : Int) then (l : Int) else (c : Int)) > 1 then (if (l : Int) < (c : Int) then (l : Int) else (c : Int)) else 1) = (m : Int) ∧ m ≤ c := by
  refine ⟨(if (if (l : Int) < (c : Int) then (l : Int) else (c : Int)) > 1 then (if (l : Int) < (c : Int) then (l : Int) else (c : Int)) else 1).toNat, ?_, ?_⟩
  · split <;> split <;> omega
  · split <;> split <;> omega
structure DefG (P : Program) (w : World) (K : PySem.W.Frag) (mg : Str → Option Value) (base : Heap) (nm : Str) (k : Nat) (ps : List Str) (sp : Sp) : Prop where
  ex : ∃ (f : Addr) (fd : FuncData), FnG P w K mg base CX0 k f fd ps sp ∧ mg nm = some (.ref f) ∧ PySem.W.keepIn K (.ref f) = true ∧ Binds K fd ps []
theorem pe_defG {X : Cx} {nm : Str} {k j : Nat} {ps : List Str} {sp : Sp} {e : Expr} {es : List Expr} {t : TA} {p pos : Pos} (D : DefG X.prog X.w X.K X.mg X.base nm k ps sp) (hst : Still X.A) (room : Room j X.A) (ha : PA X (e :: es) t) (hkj : k ≤ j := by decide) (hg : Gl X nm := by rfl)
    (hdb : (nm == ("__debug__" : Str)) = false := by decide) (he : starEach (e :: es) X.env = (false, eval e X.env) :: starEach es X.env := by rfl) (hpl : (backTo pos (starEach es X.env)).any (·.1) = false := by rfl) :
    PE X (.Call (.Name nm p) (e :: es) [] pos) (tCall sp [] E0 t) := by
  obtain ⟨f, fd, G, m, kp, b⟩ := D.ex
  exact pe_callG G hst (room.mono hkj) hg m kp b .nil pass0 ha hdb he hpl
theorem cb1 {r : List V → Hp → VK → Prop} {ta : TE} {σ : L2.St} {H : Hp} {Q : VK} (h : ta σ H fun x H1 => r [x] H1 Q) : tCB r (tCons ta tNil) σ H Q := h
theorem r_lst {t : TA} {σ : L2.St} {H : Hp} {Q : VK} (h : t σ H fun xs H1 => xs.length ≤ sizeLine ∧ ∀ p, H1 p = none → Q (.ref p) (upd H1 p (.lst xs))) : tLst t σ H Q := h
def MkA (C : Addr) (H : Hp) (x : V) (Q : VK) : Prop := ∀ z dx : Addr, H z = none → H dx = none → dx ≠ z → sp_init C (V.ref z :: ([x] ++ [])) (upd (upd H dx (.own z)) z (.ins C dx [])) (fun u H2 => u = V.non ∧ Q (.ref z) H2) E0
theorem mkA {C : Addr} {ta : TE} {σ : L2.St} {H : Hp} {Q : VK} (h : ta σ H fun x H1 => MkA C H1 x Q) : tMake C (sp_init C) [] E0 (tCons ta tNil) σ H Q := h
theorem MkA.of {C : Addr} {H : Hp} {v : V} {d : PyData} {M : List (List Int)} {n : Nat} {b : Nat} {Q : VK} (av : AnyV H v d) (g : GridD d M) (gr : Gr n M) (bd : SqE n b M) (lb : b ≤ 20000) (k : ∀ c H', Same H H' → Tv C H' (.ref c) n b M → Q (.ref c) H') : MkA C H v Q :=
  fun z dx nz nd ne => make_any (Q := Q) av g (bd.sq lb) gr.h1 gr.h3 gr.d (fun c H' s t => k c H' s ⟨t, gr, bd⟩) z dx nz nd ne
theorem r_par3 {i j l : Nat} {ta : TA} {D : Ends} {σ : L2.St} {H : Hp} (h : ta σ H fun vs H1 => ∃ u v w, vs = [u, v, w] ∧ D.nx (((σ.set i (some u)).set j (some v)).set l (some w)) H1) : tPar3 i j l ta D σ H := h
theorem n1 {sp : Sp} {ta : TE} {σ : L2.St} {H : Hp} {Q : VK} (h : ta σ H fun x H1 => sp [x] H1 Q E0) : tCons ta tNil σ H (fun zs H2 => sp (gV1 [] zs) H2 Q E0) := h
end T34
set_option Elab.async false
set_option linter.all false
set_option maxRecDepth 100000
set_option maxHeartbeats 1000000
namespace Ro
open PySem PySem.Spec PyProof.Rows L2 Gd Rp
end Ro
set_option Elab.async false
set_option linter.all false
set_option maxRecDepth 100000
set_option maxHeartbeats 4000000
namespace T34
open PySem PySem.Spec PyProof.Rows L2 Gd Zn Rp Dn Tb Gn En Zs Ct Op Oc Rg Rt Ro
section
variable {P : Program} {w : World} {K : PySem.W.Frag} {mg : Str → Option Value} {base : Heap} {C : Addr}
theorem sc_repr : FnScope ["self"] ["self"] (defScope (st_T 6)) := ⟨rfl, rfl, rfl, by decide +kernel, rfl, by decide +kernel, by decide +kernel⟩
theorem len_app (a b : Str) : (a ++ b).length = a.length + b.length := by
  show (a.append b).length = _
  simp [Str.append, Str.length]
end
end T34
set_option Elab.async false
set_option linter.all false
set_option maxRecDepth 100000
set_option maxHeartbeats 2000000
namespace T34
open PySem PySem.Spec PyProof.Rows L2 Gd Zn Rp Dn Tb Gn En Zs Ct Op Oc Rg Rt Ro
inductive GRows (H : Hp) : List (Bool × Addr) → List (List Int) → Prop
  | nil : GRows H [] []
  | lst {a : Addr} {r : List Int} {src : List (Bool × Addr)} {M : List (List Int)} : H a = some (.lst (r.map V.int)) → GRows H src M → GRows H ((false, a) :: src) (r :: M)
  | tup {a : Addr} {r : List Int} {src : List (Bool × Addr)} {M : List (List Int)} : H a = some (.tup (r.map V.int)) → GRows H src M → GRows H ((true, a) :: src) (r :: M)
theorem GRows.mono {H H' : Hp} {src : List (Bool × Addr)} {M : List (List Int)} (s : Same H H') (h : GRows H src M) : GRows H' src M := by
  induction h with
  | nil => exact .nil
  | lst e _ ih => exact .lst (s _ _ e) ih
  | tup e _ ih => exact .tup (s _ _ e) ih
theorem GRows.len {H : Hp} {src : List (Bool × Addr)} {M : List (List Int)} (h : GRows H src M) : src.length = M.length := by
  induction h with
  | nil => rfl
  | lst _ _ ih => rw [List.length_cons, List.length_cons, ih]
  | tup _ _ ih => rw [List.length_cons, List.length_cons, ih]
theorem grid_src {H : Hp} : ∀ {vx : List V} {ds : List PyData} {M : List (List Int)}, PyVs H vx ds → ds.length = M.length → (∀ (i : Nat) (d' : PyData), ds[i]? = some d' → ∃ r, M[i]? = some r ∧ (d' = .list (iD r) ∨ d' = .tuple (iD r))) → ∃ src, vx = kRefs src ∧ GRows H src M
  | _, _, [], .nil, _, _ => ⟨[], rfl, .nil⟩
  | _, _, _ :: _, .nil, l, _ => by simp at l
  | _, _, [], .cons _ _, l, _ => by simp at l
  | v :: vx, d :: ds, r :: M, .cons p q, l, h => by
    obtain ⟨src, e, g⟩ := grid_src q (Nat.succ.inj l) fun i d' e => h (i + 1) d' e
    obtain ⟨r', er, hd⟩ := h 0 d rfl
    cases er
    subst e
    rcases hd with rfl | rfl
    · cases p with
      | lst e z =>
        have ez := pyVs_ints z
        subst ez
        exact ⟨(false, _) :: src, rfl, .lst e g⟩
    · cases p with
      | tup e z =>
        have ez := pyVs_ints z
        subst ez
        exact ⟨(true, _) :: src, rfl, .tup e g⟩
theorem grow_all {K : PySem.W.Frag} {H : Hp} {j m : Nat} (hj : j < m) {src : List (Bool × Addr)} {M : List (List Int)} (h : GRows H src M) (hm : ∀ r ∈ M, r.length = m) : RowAt K H j src (M.map fun r => .int (r.getD j 0)) := by
  induction h with
  | nil => trivial
  | @lst a r src M e _ ih =>
    have hr : j < r.length := by rw [hm r List.mem_cons_self]; exact hj
    refine ⟨⟨r.map V.int, .inl (.inl e), ?_⟩, ih fun r hr => hm r (List.mem_cons_of_mem _ hr)⟩
    show _ = some (V.int (r.getD j 0))
    rw [List.getElem?_map, List.getElem?_eq_getElem hr, List.getD_eq_getElem?_getD, List.getElem?_eq_getElem hr]
    rfl
  | @tup a r src M e _ ih =>
    have hr : j < r.length := by rw [hm r List.mem_cons_self]; exact hj
    refine ⟨⟨r.map V.int, .inl (.inl e), ?_⟩, ih fun r hr => hm r (List.mem_cons_of_mem _ hr)⟩
    show _ = some (V.int (r.getD j 0))
    rw [List.getElem?_map, List.getElem?_eq_getElem hr, List.getD_eq_getElem?_getD, List.getElem?_eq_getElem hr]
    rfl
theorem gall_sq {K : PySem.W.Frag} {H : Hp} {src : List (Bool × Addr)} {M : List (List Int)} (h : GRows H src M) : AllSq K H src := by
  induction h with
  | nil => exact fun q hq => by cases hq
  | lst e _ ih =>
    intro z hz
    rcases List.mem_cons.mp hz with rfl | hz
    · exact ⟨_, .inl (.inl e)⟩
    · exact ih z hz
  | tup e _ ih =>
    intro z hz
    rcases List.mem_cons.mp hz with rfl | hz
    · exact ⟨_, .inl (.inl e)⟩
    · exact ih z hz
section
variable {P : Program} {w : World} {K : PySem.W.Frag} {mg : Str → Option Value} {base : Heap}
def sp_acrossG : Sp := fun vs H Q _ => ∃ v d M m, vs = [v] ∧ AnyV H v d ∧ GridD d M ∧ 0 < M.length ∧ M.length ≤ 3 ∧ m ≤ 100 ∧ (∀ r ∈ M, r.length = m) ∧ ∀ v' H', Same H H' → Mx H' v' (transp m M) → Q v' H'
theorem sc_acrossG : FnScope ["rows", "column"] ["rows"] (defScope st_across) := ⟨rfl, rfl, rfl, by decide +kernel, rfl, by decide +kernel, by decide +kernel⟩
theorem ok_acrossG {f : Addr} {fd : FuncData} (F : Fun K "across" "across" st_across f fd) (T : Txt mg) : FnOk P w K mg base CX0 1 f fd ["rows"] sp_acrossG := by
  refine F.ok sc_acrossG (fun vs H Q E h => ?_) (fun cdv A outer s H vs Q E hr h => ?_)
  · obtain ⟨v, d, M, m, rfl, _⟩ := h
    rfl
  · obtain ⟨v, d, M, m, rfl, av, ⟨g1, g2, g3⟩, h0, h3, hm, hM, q⟩ := h
    refine ⟨_, pss_one (ps_ret (pe_callTy (r := rTup K) c_tup (by rfl) T.tuple PyProof.Rows.boot_tuple (pa_cons (pe_lc (own := [("column", 1)]) (g := gName 1) (tt := tYes) rfl sc_acrossG.nd (pi_zipStar (by rfl) T.zip (pv 0))
        (blkOk_by (N := ["rows", "column"]) (sc := defScope st_across) (by decide +kernel))
        (fun _ _ _ _ _ => pg_name (i := 1) sc_acrossG.nd rfl (Or.inl rfl) (Or.inr rfl)) (fun _ _ _ _ _ => pts_nil)
        (fun _ _ _ _ _ => pe_callTy (r := rTup K) c_tup (by rfl) T.tuple PyProof.Rows.boot_tuple (pa_cons (pv 1) pa_nil))) pa_nil))), ?_⟩
    obtain ⟨t, a, vx, rfl, qx, px⟩ := (seq_of av g1).at K
    obtain ⟨src, rfl, hR⟩ := grid_src px g2 g3
    have hsl := hR.len
    refine r_ret (r_cb (r_cons ?_))
    refine tlc_of (Itn K src) (H1 := H) (fun R hR' => ⟨_, rfl, a, src, rfl, (sq_or (qx H (Same.refl H))).symm, by omega, by omega, gall_sq hR, hR'⟩) ?_
    refine lc_ks (p := none) m (fun i v H => ∃ r, (transp m M)[i]? = some r ∧ RowV H v r) (fun i v H H' k h => ?_) has_none (by omega) (fun i H2 hi s2 => ?_) (fun H2 s2 => ?_) (fun i x H2 H3 C hi s2 _ hy hC => ?_) fun Da H2 rs nD s2 hD hrl hE => ?_
    · obtain ⟨r, e, h⟩ := h
      exact ⟨r, e, h.mono k⟩
    · exact ⟨_, grow_all hi (hR.mono s2.same) hM⟩
    · refine ⟨gall_sq (hR.mono s2.same), ?_⟩
      cases hR with
      | nil => simp at h0
      | @lst b r src M e _ => exact ⟨_, List.mem_cons_self, _, .inl (.inl (s2.same _ _ e)), by rw [List.length_map, hM r List.mem_cons_self]; exact Nat.le_refl _⟩
      | @tup b r src M e _ => exact ⟨_, List.mem_cons_self, _, .inl (.inl (s2.same _ _ e)), by rw [List.length_map, hM r List.mem_cons_self]; exact Nat.le_refl _⟩
    · obtain ⟨T2, ys, rfl, nT, rfl, hu⟩ := hy
      have ey := (hu _ (grow_all hi (hR.mono s2.same) hM)).symm
      subst ey
      refine ⟨rfl, ?_⟩
      refine r_cb (r_cons ?_)
      refine ⟨_, rfl, ?_⟩
      refine ⟨T2, _, rfl, .inr ⟨.inl (.inl upd_same), hC _ _ (RX.new nT) ⟨_, transp_get hi, T2, rfl, ?_⟩⟩⟩
      rw [upd_same, List.map_map]
      rfl
    · refine ⟨Da, rs, rfl, .inl ⟨.inl (.inl hD), fun l nl => ?_⟩⟩
      have k : Same H2 (upd H2 l (.tup rs)) := same_new nl
      refine q _ _ (s2.same.trans k) ⟨l, rs, rfl, upd_same, ?_⟩
      exact (rows_of (by rw [hrl, transp_len]) hE).mono (KS.of k)
end
abbrev st_F (i : Nat) : Stmt := inClass (top 32) i
structure Fcl (K : PySem.W.Frag) (mg : Str → Option Value) (C : Addr) : Prop where
  cl : Cls K C
  nR : NoAttr K C "_rows"
  mgC : mg "Form" = some (.ref C)
  cc : PySem.W.findIn K (.ref C) "__class__" = some (some (.builtin "object.__class__"))
  cg : PySem.W.specialIn K (.builtin "object.__class__") "__get__" = some (some (.builtin "getset_descriptor.__get__"))
  ct : PySem.W.takesIn K (.builtin "object.__class__") = some true
  cm : PySem.W.mroIn K C (.type "object") = some true
theorem Fcl.ty {K : PySem.W.Frag} {mg : Str → Option Value} {C : Addr} (T : Fcl K mg C) {H : Hp} {p dx : Addr} {fs : List (Str × V)} (h : H p = some (.ins C dx fs)) : TyX K H (.ref p) (.ref C) := .base (.ins h T.cl T.cc T.cg T.ct T.cm)
/-- rows that are the same across -/
structure Sy (n : Nat) (M : List (List Int)) : Prop where
  sq : Sq n M
  h1 : 1 ≤ n
  h3 : n ≤ 3
  eq : transp n M = M
section
variable {P : Program} {w : World} {K : PySem.W.Frag} {mg : Str → Option Value} {base : Heap} {C D : Addr}
def sp_initF (C : Addr) : Sp := fun vs H Q _ => ∃ p dx v d M n, vs = [.ref p, v] ∧ H p = some (.ins C dx []) ∧ AnyV H v d ∧ GridD d M ∧ Sy n M ∧
  ∀ H', (∀ c o, c ≠ p → H c = some o → H' c = some o) → Tab C H' (.ref p) M → Q .non H'
theorem sc_initF : FnScope ["self", "rows"] ["self", "rows"] (defScope (st_F 0)) := ⟨rfl, rfl, rfl, by decide +kernel, rfl, by decide +kernel, by decide +kernel⟩
theorem ok_initF {f : Addr} {fd : FuncData} (F : Fun K "__init__" "Form.__init__" (st_F 0) f fd) (T : Txt mg) (Fc : Fcl K mg C) (D1 : Def P w K mg base "is_grid" 4 ["value"] sp_is_grid) (D2 : Def P w K mg base "copied" 1 ["rows"] sp_copied)
    (D3 : Def P w K mg base "across" 1 ["rows"] sp_acrossG) : FnOk P w K mg base CX0 8 f fd ["self", "rows"] (sp_initF C) := by
  refine F.ok sc_initF (fun vs H Q E h => ?_) (fun cdv A outer s H vs Q E hr h => ?_)
  · obtain ⟨p, dx, v, d, M, n, rfl, _⟩ := h
    rfl
  · obtain ⟨p, dx, v, d, M, n, rfl, hp, av, g, ⟨hS, h1, h3, he⟩, q⟩ := h
    obtain ⟨gt, gl⟩ := grid_true g h1 h3 hS
    refine ⟨_, pss_cons (ps_if (PW.pt (pw_or (pt_not (pt_val (pe_def D1 hr (pa_cons (pv 1) pa_nil)))) (pw_or1 (pt_cmpR (op_neD hr.units) (pe_def D2 hr (pa_cons (pv 1) pa_nil)) (pe_def D3 hr (pa_cons (pv 1) pa_nil)) (nomark _))))) pss_dead pss_nil)
      (pss_one (ps_fld (pv 0) (pe_def D2 hr (pa_cons (pv 1) pa_nil)) rfl)), ?_⟩
    have hl : (items d).length = n := by rw [g.2.1]; exact hS.len
    refine r_seq (r_if (r_or (r_not (r_tt (a1 ⟨_, rfl, v, d, rfl, av, by omega, fun r hr => by rw [gl r hr]; omega, fun H1 s1 => ⟨_, rfl, ?_⟩⟩)))))
    rw [gt]
    refine iteF ?_
    refine r_tt (r_op (a1 ⟨_, rfl, v, d, M, rfl, av.mono s1, g, by rw [hS.len]; omega, fun v2 H2 s2 hM => ?_⟩))
    refine a1 ⟨_, rfl, v, d, M, n, rfl, (av.mono s1).mono s2, g, by rw [hS.len]; omega, by rw [hS.len]; omega, by omega, hS.row, fun v3 H3 s3 hM3 => ?_⟩
    rw [he] at hM3
    refine r_neMx (hM.mono (KS.of s3)) hM3 ⟨_, rfl, ?_⟩
    rw [ne_no rfl]
    refine iteF ?_
    have S3 := s1.trans (s2.trans s3)
    refine ⟨_, rfl, v, d, M, rfl, av.mono S3, g, by rw [hS.len]; omega, fun v4 H4 s4 hM4 => ?_⟩
    have S4 := S3.trans s4
    refine ⟨_, rfl, p, C, dx, [], rfl, S4 _ _ hp, Fc.cl, Fc.nR, (by show 0 < 1000; decide), ?_⟩
    refine q _ (fun c o hc e => ?_) ?_
    · rw [upd_ne hc]
      exact S4 _ _ e
    · refine ⟨p, dx, v4, rfl, upd_same, T34.Mx.tup_mono (fun c xs e => ?_) hM4⟩
      have nc : c ≠ p := fun z => by
        subst z
        have := S4 _ _ hp
        rw [e] at this
        cases this
      rw [upd_ne nc]
      exact e
end
end T34
set_option Elab.async false
set_option linter.all false
set_option maxRecDepth 100000
set_option maxHeartbeats 4000000
namespace T34
open PySem PySem.Spec PyProof.Rows L2 Gd Zn Rp Dn Tb Gn En Zs Ct Op Oc Rg Rt Ro
def btwM (M : List (List Int)) (x y : List Int) : Int := dot x (ledM M y)
def addM (M N : List (List Int)) : List (List Int) := (M.zip N).map fun q => (q.1.zip q.2).map fun p => p.1 + p.2
def ldM (n : Nat) (G P : List (List Int)) : List (List Int) := mulM n (mulM n (transp n P) G) P
theorem trE1 (a : Int) : transp 1 [[a]] = [[a]] := rfl
theorem trE2 (a b c d : Int) : transp 2 [[a, b], [c, d]] = [[a, c], [b, d]] := rfl
theorem trE3 (a b c d e f g h i : Int) : transp 3 [[a, b, c], [d, e, f], [g, h, i]] = [[a, d, g], [b, e, h], [c, f, i]] := rfl
theorem tr_sh {n : Nat} {M : List (List Int)} (h : Sh n M) (h1 : 1 ≤ n) (h3 : n ≤ 3) : Sh n (transp n M) := by
  have : n = 1 ∨ n = 2 ∨ n = 3 := by omega
  rcases this with rfl | rfl | rfl
  · obtain ⟨a, rfl⟩ := sh1 h rfl
    exact sh_mk1 _
  · obtain ⟨a, b, c, d, rfl⟩ := sh2 h rfl
    exact sh_mk2 _ _ _ _
  · obtain ⟨a, b, c, d, e, f, g, h', i, rfl⟩ := sh3 h rfl
    exact sh_mk3 _ _ _ _ _ _ _ _ _
theorem sy2 {M : List (List Int)} (h : Sh 2 M) (e : transp 2 M = M) : ∃ a b c, M = [[a, b], [b, c]] := by
  obtain ⟨a, b, c, d, rfl⟩ := sh2 h rfl
  rw [trE2] at e
  simp only [List.cons.injEq, and_true, true_and] at e
  obtain ⟨e, _⟩ := e
  subst e
  exact ⟨a, c, d, rfl⟩
theorem sy3 {M : List (List Int)} (h : Sh 3 M) (e : transp 3 M = M) : ∃ a b c d e f, M = [[a, b, c], [b, d, e], [c, e, f]] := by
  obtain ⟨a, b, c, d, e', f, g, h', i, rfl⟩ := sh3 h rfl
  rw [trE3] at e
  simp only [List.cons.injEq, and_true, true_and] at e
  obtain ⟨⟨e1, e2⟩, ⟨_, e3⟩, _⟩ := e
  subst e1 e2 e3
  exact ⟨a, d, g, e', h', i, rfl⟩
theorem ld_sh {n : Nat} {G P : List (List Int)} (h1 : 1 ≤ n) (h3 : n ≤ 3) (hG : Sh n G) (hP : Sh n P) : Sh n (ldM n G P) := mul_sh h1 h3 (mul_sh h1 h3 (tr_sh hP h1 h3) hG) hP
theorem ld_sy {n : Nat} {G P : List (List Int)} (h1 : 1 ≤ n) (h3 : n ≤ 3) (hG : Sh n G) (hP : Sh n P) (e : transp n G = G) : transp n (ldM n G P) = ldM n G P := by
  have : n = 1 ∨ n = 2 ∨ n = 3 := by omega
  unfold ldM
  rcases this with rfl | rfl | rfl
  · obtain ⟨a, rfl⟩ := sh1 hG rfl
    obtain ⟨b, rfl⟩ := sh1 hP rfl
    rfl
  · obtain ⟨a, b, c, rfl⟩ := sy2 hG e
    obtain ⟨p, q, r, s, rfl⟩ := sh2 hP rfl
    rw [trE2, mulE2, mulE2, trE2]
    simp only [List.cons.injEq, and_true, true_and]
    constructor <;> grind
  · obtain ⟨a, b, c, d, e, f, rfl⟩ := sy3 hG e
    obtain ⟨p, q, r, s, t, u, v, w, x, rfl⟩ := sh3 hP rfl
    rw [trE3, mulE3, mulE3, trE3]
    simp only [List.cons.injEq, and_true, true_and]
    refine ⟨⟨?_, ?_⟩, ⟨?_, ?_⟩, ?_, ?_⟩ <;> grind
theorem SqE.tr {n k : Nat} {M : List (List Int)} (h : SqE n k M) (h1 : 1 ≤ n) (h3 : n ≤ 3) : SqE n k (transp n M) := by
  have s := tr_sh h.sh h1 h3
  refine ⟨s.len, s.row, fun r hr x hx => ?_⟩
  unfold transp at hr
  obtain ⟨j, hj, rfl⟩ := List.mem_map.mp hr
  have hj : j < n := by simpa using hj
  obtain ⟨r', hr', rfl⟩ := List.mem_map.mp hx
  have l := h.row r' hr'
  refine h.bd r' hr' _ ?_
  rw [List.getD_eq_getElem?_getD, List.getElem?_eq_getElem (by omega : j < r'.length)]
  exact List.getElem_mem _
theorem SqE.ld {n k l : Nat} {G P : List (List Int)} (hG : SqE n k G) (hP : SqE n l P) (h1 : 1 ≤ n) (h3 : n ≤ 3) : SqE n ((l + k + 2) + l + 2) (ldM n G P) := ((hP.tr h1 h3).mul hG h1 h3).mul hP h1 h3
/-- rows with bits -/
def Rb (k : Nat) (xs : List Int) : Prop := ∀ x ∈ xs, x.natAbs < 2 ^ k
theorem Rb.mono {k l : Nat} {xs : List Int} (h : Rb k xs) (e : k ≤ l) : Rb l xs := fun x hx => Wd.abs_mono (h x hx) e
theorem Rb.small {k : Nat} {xs : List Int} (h : Rb k xs) (e : k ≤ 20000) : ∀ x ∈ xs, Small x := fun x hx => ⟨k, e, h x hx⟩
theorem dot_rb {k l : Nat} {xs ys : List Int} (hx : Rb k xs) (hy : Rb l ys) (lx : xs.length ≤ 3) (e : xs.length = ys.length) : (dot xs ys).natAbs < 2 ^ (k + l + 2) := by
  have p : ∀ a ∈ xs, ∀ b ∈ ys, (a * b).natAbs < 2 ^ (k + l) := fun a ha b hb => Wd.abs_mul (hx a ha) (hy b hb)
  have z : 2 ^ (k + l + 2) = 4 * 2 ^ (k + l) := by rw [Nat.pow_add]; omega
  have z0 : 0 < 2 ^ (k + l) := Nat.pow_pos (by decide)
  rw [z]
  rcases xs with _ | ⟨a, _ | ⟨b, _ | ⟨c, _ | ⟨d, t⟩⟩⟩⟩
  · simp [dot]; omega
  · obtain ⟨x, rfl⟩ := len1 e.symm
    have := p a (by simp) x (by simp)
    simp [dot]; omega
  · obtain ⟨x, y, rfl⟩ := len2 e.symm
    have k1 := p a (by simp) x (by simp)
    have k2 := p b (by simp) y (by simp)
    simp [dot]; omega
  · obtain ⟨x, y, w, rfl⟩ := len3 e.symm
    have k1 := p a (by simp) x (by simp)
    have k2 := p b (by simp) y (by simp)
    have k3 := p c (by simp) w (by simp)
    simp [dot]; omega
  · simp at lx
theorem led_rb {n k l : Nat} {M : List (List Int)} {xs : List Int} (h : SqE n k M) (hx : Rb l xs) (e : xs.length = n) (h3 : n ≤ 3) : Rb (k + l + 2) (ledM M xs) := fun y hy => by
  unfold ledM at hy
  obtain ⟨r, hr, rfl⟩ := List.mem_map.mp hy
  exact dot_rb (fun x hx => h.bd r hr x hx) hx (by rw [h.row r hr]; exact h3) (by rw [h.row r hr, e])
theorem led_len {M : List (List Int)} {xs : List Int} : (ledM M xs).length = M.length := by unfold ledM; rw [List.length_map]
/-- a Form in the heap, with the bits of its numbers -/
structure Fv (C : Addr) (H : Hp) (x : V) (n : Nat) (b : Nat) (M : List (List Int)) : Prop where
  tab : Tab C H x M
  h1 : 1 ≤ n
  h3 : n ≤ 3
  eq : transp n M = M
  bd : SqE n b M
theorem Fv.same {C : Addr} {H H' : Hp} {x : V} {n : Nat} {b : Nat} {M : List (List Int)} (h : Fv C H x n b M) (s : Same H H') : Fv C H' x n b M := ⟨T34.Tab.same s h.tab, h.h1, h.h3, h.eq, h.bd⟩
theorem Fv.len {C : Addr} {H : Hp} {x : V} {n b : Nat} {M : List (List Int)} (h : Fv C H x n b M) : M.length = n := h.bd.len
theorem make_frm {C : Addr} {H : Hp} {v : V} {d : PyData} {M : List (List Int)} {n : Nat} {Q : VK} {E : XK} (av : AnyV H v d) (g : GridD d M) (hS : Sy n M)
    (k : ∀ c H', Same H H' → Tab C H' (.ref c) M → Q (.ref c) H') : ∀ x dx : Addr, H x = none → H dx = none → dx ≠ x → sp_initF C (V.ref x :: ([v] ++ [])) (upd (upd H dx (.own x)) x (.ins C dx [])) (fun u H2 => u = V.non ∧ Q (.ref x) H2) E := by
  intro x dx nx nd ne
  have s : Same H (upd (upd H dx (.own x)) x (.ins C dx [])) := fun c o e => by
    rw [upd_ne (ne_of_none e nx), upd_ne (ne_of_none e nd)]
    exact e
  refine ⟨x, dx, v, d, M, n, rfl, upd_same, av.mono s, g, hS, fun H' kp ht => ⟨rfl, k x H' (fun c o e => ?_) ht⟩⟩
  exact kp c o (ne_of_none e nx) (s c o e)
structure MkrF (P : Program) (w : World) (K : PySem.W.Frag) (mg : Str → Option Value) (base : Heap) (C : Addr) : Prop where
  ex : ∃ (f : Addr) (fd : FuncData), Mk K C f ∧ FnOk P w K mg base CX0 8 f fd ["self", "rows"] (sp_initF C) ∧ Binds K fd ["self", "rows"] []
theorem pe_mkrF {X : Cx} {C : Addr} {j : Nat} {e : Expr} {t : TA} {p pos : Pos} (D : MkrF X.prog X.w X.K X.mg X.base C) (Fc : Fcl X.K X.mg C) (room : Room j X.A) (ha : PA X [e] t) (hkj : 9 ≤ j := by decide) (hg : Gl X "Form" := by rfl)
    (he : starEach [e] X.env = (false, eval e X.env) :: starEach [] X.env := by rfl) (hpl : (backTo pos (starEach [] X.env)).any (·.1) = false := by rfl) :
    PE X (.Call (.Name "Form" p) [e] [] pos) (tMake C (sp_initF C) [] E0 t) := by
  obtain ⟨f, fd, m, G, b⟩ := D.ex
  exact pe_make m G (room.mono hkj) hg Fc.mgC b .nil pass0 ha (by decide +kernel) he hpl
def MkF (C : Addr) (H : Hp) (x : V) (Q : VK) : Prop := ∀ z dx : Addr, H z = none → H dx = none → dx ≠ z → sp_initF C (V.ref z :: ([x] ++ [])) (upd (upd H dx (.own z)) z (.ins C dx [])) (fun u H2 => u = V.non ∧ Q (.ref z) H2) E0
theorem mkF {C : Addr} {ta : TE} {σ : L2.St} {H : Hp} {Q : VK} (h : ta σ H fun x H1 => MkF C H1 x Q) : tMake C (sp_initF C) [] E0 (tCons ta tNil) σ H Q := h
theorem MkF.of {C : Addr} {H : Hp} {v : V} {d : PyData} {M : List (List Int)} {n : Nat} {b : Nat} {Q : VK} (av : AnyV H v d) (g : GridD d M) (h1 : 1 ≤ n) (h3 : n ≤ 3) (e : transp n M = M) (bd : SqE n b M) (lb : b ≤ 20000) (k : ∀ c H', Same H H' → Fv C H' (.ref c) n b M → Q (.ref c) H') : MkF C H v Q :=
  fun z dx nz nd ne => make_frm (Q := Q) av g ⟨bd.sq lb, h1, h3, e⟩ (fun c H' s t => k c H' s ⟨t, h1, h3, e, bd⟩) z dx nz nd ne
section
variable {P : Program} {w : World} {K : PySem.W.Frag} {mg : Str → Option Value} {base : Heap} {C D : Addr}
theorem sc_rowsF : FnScope ["self"] ["self"] (defScope (st_F 1)) := ⟨rfl, rfl, rfl, by decide +kernel, rfl, by decide +kernel, by decide +kernel⟩
theorem ok_rowsF {f : Addr} {fd : FuncData} (F : Fun K "rows" "Form.rows" (st_F 1) f fd) (Fc : Fcl K mg C) : FnOk P w K mg base CX0 1 f fd ["self"] (sp_rows C) := by
  refine F.ok sc_rowsF (fun vs H Q E h => ?_) (fun cdv A outer s H vs Q E hr h => ?_)
  · obtain ⟨v, M, rfl, _⟩ := h
    rfl
  · obtain ⟨v, M, rfl, ⟨p, dx, r, rfl, hp, hM⟩, q⟩ := h
    refine ⟨_, pss_one (ps_ret (pe_fld (pv 0) rfl)), ?_⟩
    exact ⟨_, rfl, p, C, dx, _, _, rfl, hp, Fc.cl, Fc.nR, fldsT_rows _, q r hM⟩
theorem sc_sizeF : FnScope ["self"] ["self"] (defScope (st_F 2)) := ⟨rfl, rfl, rfl, by decide +kernel, rfl, by decide +kernel, by decide +kernel⟩
theorem ok_sizeF {f : Addr} {fd : FuncData} (F : Fun K "size" "Form.size" (st_F 2) f fd) (T : Txt mg) (Fc : Fcl K mg C) : FnOk P w K mg base CX0 1 f fd ["self"] (sp_size C) := by
  refine F.ok sc_sizeF (fun vs H Q E h => ?_) (fun cdv A outer s H vs Q E hr h => ?_)
  · obtain ⟨v, M, rfl, _⟩ := h
    rfl
  · obtain ⟨v, M, rfl, ⟨p, dx, r, rfl, hp, a, vx, rfl, ha, hR⟩, q⟩ := h
    refine ⟨_, pss_one (ps_ret (pe_callB (r := Dn.rLen K) c_len (by rfl) T.len PySem.boot_len (pa_cons (pe_fld (pv 0) rfl) pa_nil))), ?_⟩
    refine ⟨_, rfl, p, C, dx, _, _, rfl, hp, Fc.cl, Fc.nR, fldsT_rows _, a, vx, rfl, .inr (.inl (.inl ha)), ?_⟩
    rw [hR.len]
    exact q
theorem sc_eqF : FnScope ["self", "other"] ["self", "other"] (defScope (st_F 4)) := ⟨rfl, rfl, rfl, by decide +kernel, rfl, by decide +kernel, by decide +kernel⟩
theorem ok_eqF {f : Addr} {fd : FuncData} (F : Fun K "__eq__" "Form.__eq__" (st_F 4) f fd) (T : Txt mg) (Fc : Fcl K mg C) : FnOk P w K mg base CX0 1 f fd ["self", "other"] (sp_eqT C) := by
  refine F.ok sc_eqF (fun vs H Q E h => ?_) (fun cdv A outer s H vs Q E hr h => ?_)
  · obtain ⟨v, o, M, N, rfl, _⟩ := h
    rfl
  · obtain ⟨v, o, M, N, rfl, hv, ho, q⟩ := h
    refine ⟨_, pss_one (ps_ret (pe_and (pe_callB (r := rIsi K) call_isi (by rfl) T.isi boot_isinstance (pa_cons (pv 1) (pa_cons (pe_glob (v := .ref C) (by rfl) Fc.mgC rfl) pa_nil)))
      (pe_one (pe_cmpR (op_eqD hr.units) (pe_fld (pv 0) rfl) (pe_fld (pv 1) rfl) (nomark _))))), ?_⟩
    obtain ⟨p, dx, r, rfl, hp, hM⟩ := id hv
    obtain ⟨p2, dx2, r2, rfl, hp2, hN⟩ := id ho
    refine ⟨_, rfl, .ref p2, .ref C, _, _, _, rfl, .own C, Fc.ty hp2, kit_own K C, _, rfl, ?_⟩
    refine iteT ?_
    refine ⟨_, rfl, p, C, dx, _, _, rfl, hp, Fc.cl, Fc.nR, fldsT_rows _, ?_⟩
    refine ⟨_, rfl, p2, C, dx2, _, _, rfl, hp2, Fc.cl, Fc.nR, fldsT_rows _, ?_⟩
    exact r_eqMx hM hN q
theorem sc_reprF : FnScope ["self"] ["self"] (defScope (st_F 5)) := ⟨rfl, rfl, rfl, by decide +kernel, rfl, by decide +kernel, by decide +kernel⟩
abbrev st_check_form : Stmt := top 33
def sp_check_form (C : Addr) : Sp := fun vs H Q _ => ∃ v M, vs = [v] ∧ Tab C H v M ∧ Q .non H
theorem sc_check_form : FnScope ["form"] ["form"] (defScope st_check_form) := ⟨rfl, rfl, rfl, by decide +kernel, rfl, by decide +kernel, by decide +kernel⟩
theorem ok_check_form {f : Addr} {fd : FuncData} (F : Fun K "check_form" "check_form" st_check_form f fd) (T : Txt mg) (Fc : Fcl K mg C) :
    FnOk P w K mg base CX0 1 f fd ["form"] (sp_check_form C) := by
  refine F.ok sc_check_form (fun vs H Q E h => ?_) (fun cdv A outer s H vs Q E hr h => ?_)
  · obtain ⟨v, M, rfl, _⟩ := h
    rfl
  · obtain ⟨v, M, rfl, ⟨p, dx, r, rfl, hp, hM⟩, q⟩ := h
    refine ⟨_, pss_one (ps_if (pt_not (pt_val (pe_callB (r := rIsi K) call_isi (by rfl) T.isi boot_isinstance (pa_cons (pv 0) (pa_cons (pe_glob (v := .ref C) (by rfl) Fc.mgC rfl) pa_nil))))) pss_dead pss_nil), ?_⟩
    refine ⟨_, rfl, .ref p, .ref C, _, _, _, rfl, .own C, Fc.ty hp, kit_own K C, _, rfl, ?_⟩
    exact iteF q
def sp_check_alike2 (C D : Addr) : Sp := fun vs H Q _ => ∃ v o M N, vs = [v, o] ∧ Tab C H v M ∧ Tab D H o N ∧ M.length = N.length ∧ Q .non H
theorem ok_check_alike2 {f : Addr} {fd : FuncData} (F : Fun K "check_alike" "check_alike" st_check_alike f fd) (cC : Cls K C) (cD : Cls K D) (D1 : Prp P w K mg base C "size" 1 (sp_size C)) (D2 : Prp P w K mg base D "size" 1 (sp_size D)) : FnOk P w K mg base CX0 3 f fd ["one", "other"] (sp_check_alike2 C D) := by
  refine F.ok sc_check_alike (fun vs H Q E h => ?_) (fun cdv A outer s H vs Q E hr h => ?_)
  · obtain ⟨v, o, M, N, rfl, _⟩ := h
    rfl
  · obtain ⟨v, o, M, N, rfl, hv, ho, e, q⟩ := h
    refine ⟨_, pss_one (ps_if (pt_cmpR op_ne (pe_prp D1 cC hr (pv 0)) (pe_prp D2 cD hr (pv 1)) (nomark _)) pss_dead pss_nil), ?_⟩
    obtain ⟨p, dx, r, rfl, hp, hM⟩ := id hv
    obtain ⟨p2, dx2, r2, rfl, hp2, hM2⟩ := id ho
    refine ⟨_, rfl, p, dx, _, rfl, hp, _, M, rfl, hv, ?_⟩
    refine ⟨_, rfl, p2, dx2, _, rfl, hp2, _, N, rfl, ho, ?_⟩
    refine ⟨rfl, _, rfl, ?_⟩
    rw [show (!decide (V.int (M.length : Int) = V.int (N.length : Int))) = false by rw [e]; simp]
    exact iteF q
def sp_btw (C : Addr) : Sp := fun vs H Q _ => ∃ v o p M xs ys n, vs = [v, o, p] ∧ Tab C H v M ∧ SeqV H o (iD xs) ∧ SeqV H p (iD ys) ∧ Sq n M ∧ 1 ≤ n ∧ n ≤ 3 ∧ xs.length = n ∧ ys.length = n ∧ (∀ x ∈ xs, Small x) ∧ (∀ y ∈ ys, Small y) ∧ (∀ y ∈ ledM M ys, Small y) ∧ ∀ H', Same H H' → Q (.int (btwM M xs ys)) H'
theorem sc_btw : FnScope ["self", "row", "other"] ["self", "row", "other"] (defScope (st_F 8)) := ⟨rfl, rfl, rfl, by decide +kernel, rfl, by decide +kernel, by decide +kernel⟩
theorem ok_btw {f : Addr} {fd : FuncData} (F : Fun K "between" "Form.between" (st_F 8) f fd) (Fc : Fcl K mg C) (D1 : Def P w K mg base "check_row" 4 ["size", "row"] sp_check_row) (D2 : Prp P w K mg base C "size" 1 (sp_size C)) (D3 : Def P w K mg base "led_row" 2 ["rows", "row"] sp_led_row)
    (D4 : Def P w K mg base "scalar" 1 ["row", "other"] sp_scalar) : FnOk P w K mg base CX0 5 f fd ["self", "row", "other"] (sp_btw C) := by
  refine F.ok sc_btw (fun vs H Q E h => ?_) (fun cdv A outer s H vs Q E hr h => ?_)
  · obtain ⟨v, o, p, M, xs, ys, n, rfl, _⟩ := h
    rfl
  · obtain ⟨v, o, p', M, xs, ys, n, rfl, hv, ho, hp', hS, h1, h3, hx, hy, hsx, hsy, hsl, q⟩ := h
    refine ⟨_, pss_cons (ps_expr (pe_def D1 hr (pa_cons (pe_prp D2 Fc.cl hr (pv 0)) (pa_cons (pv 1) pa_nil))))
      (pss_cons (ps_expr (pe_def D1 hr (pa_cons (pe_prp D2 Fc.cl hr (pv 0)) (pa_cons (pv 2) pa_nil))))
      (pss_one (ps_ret (pe_def D4 hr (pa_cons (pv 1) (pa_cons (pe_def D3 hr (pa_cons (pe_fld (pv 0) rfl) (pa_cons (pv 2) pa_nil))) pa_nil)))))), ?_⟩
    obtain ⟨p, dx, r, rfl, hp, hM⟩ := id hv
    obtain ⟨d, av, ei, hd⟩ := T34.SeqV.any ho
    obtain ⟨d', av', ei', hd'⟩ := T34.SeqV.any hp'
    refine ⟨_, rfl, p, dx, _, rfl, hp, .ref p, M, rfl, hv, ?_⟩
    refine ⟨_, rfl, o, d, M.length, rfl, av, by rw [ei]; unfold iD; rw [List.length_map]; omega, ?_, fun H1 s1 => ?_⟩
    · rw [hS.len]
      exact row_true hd h1 h3 hx
    refine ⟨_, rfl, p, dx, _, rfl, s1 _ _ hp, .ref p, M, rfl, T34.Tab.same s1 hv, ?_⟩
    refine ⟨_, rfl, p', d', M.length, rfl, av'.mono s1, by rw [ei']; unfold iD; rw [List.length_map]; omega, ?_, fun H2 s2 => ?_⟩
    · rw [hS.len]
      exact row_true hd' h1 h3 hy
    have S2 := s1.trans s2
    refine ⟨_, rfl, _, rfl, p, C, dx, _, _, rfl, S2 _ _ hp, Fc.cl, Fc.nR, fldsT_rows _, ?_⟩
    refine ⟨_, rfl, r, p', M, ys, rfl, hM.mono (KS.of S2), hp'.mono S2, by rw [hS.len]; omega, by omega, hsy, fun c hc => ⟨by rw [hS.row c hc, hy], hS.small c hc⟩, fun v' H3 s3 hv' => ?_⟩
    have S3 := S2.trans s3
    exact ⟨o, v', xs, ledM M ys, rfl, ho.mono S3, T34.RowV.seq hv', by rw [led_len, hS.len, hx], by omega, hsx, hsl, fun H4 s4 => q H4 (S3.trans s4)⟩
def sp_worth (C : Addr) : Sp := fun vs H Q _ => ∃ v o M xs n, vs = [v, o] ∧ Tab C H v M ∧ SeqV H o (iD xs) ∧ Sq n M ∧ 1 ≤ n ∧ n ≤ 3 ∧ xs.length = n ∧ (∀ x ∈ xs, Small x) ∧ (∀ y ∈ ledM M xs, Small y) ∧ ∀ H', Same H H' → Q (.int (btwM M xs xs)) H'
theorem sc_worth : FnScope ["self", "row"] ["self", "row"] (defScope (st_F 7)) := ⟨rfl, rfl, rfl, by decide +kernel, rfl, by decide +kernel, by decide +kernel⟩
theorem ok_worth {f : Addr} {fd : FuncData} (F : Fun K "worth" "Form.worth" (st_F 7) f fd) (Fc : Fcl K mg C) (D1 : Mtd P w K mg base C "between" 5 ["self", "row", "other"] (sp_btw C)) : FnOk P w K mg base CX0 6 f fd ["self", "row"] (sp_worth C) := by
  refine F.ok sc_worth (fun vs H Q E h => ?_) (fun cdv A outer s H vs Q E hr h => ?_)
  · obtain ⟨v, o, M, xs, n, rfl, _⟩ := h
    rfl
  · obtain ⟨v, o, M, xs, n, rfl, hv, ho, hS, h1, h3, hx, hsx, hsl, q⟩ := h
    obtain ⟨g, gd, mt, G, b⟩ := D1.ex
    have hr5 : Room 5 _ := hr
    refine ⟨_, pss_one (ps_ret (pe_meth (pv 0) Fc.cl mt G hr5 b .nil pass0 (pa_cons (pv 1) (pa_cons (pv 1) pa_nil)))), ?_⟩
    obtain ⟨p, dx, r, rfl, hp, hM⟩ := id hv
    exact ⟨_, rfl, p, dx, _, rfl, hp, rfl, _, rfl, _, rfl, .ref p, o, o, M, xs, xs, n, rfl, hv, ho, ho, hS, h1, h3, hx, hx, hsx, hsx, hsl, q⟩
def sp_led (C D : Addr) : Sp := fun vs H Q _ => ∃ v o G M, ∃ n b c : Nat, vs = [v, o] ∧ Fv C H v n b G ∧ Tv D H o n c M ∧ b ≤ 2000 ∧ c ≤ 2000 ∧ ∀ d H', Same H H' → Fv C H' (.ref d) n ((c + b + 2) + c + 2) (ldM n G M) → Q (.ref d) H'
theorem sc_led : FnScope ["self", "table"] ["self", "table"] (defScope (st_F 10)) := ⟨rfl, rfl, rfl, by decide +kernel, rfl, by decide +kernel, by decide +kernel⟩
theorem ok_led {f : Addr} {fd : FuncData} (F : Fun K "led" "Form.led" (st_F 10) f fd) (Fc : Fcl K mg C) (Tc : Tcl K mg D) (D1 : Def P w K mg base "check_table" 1 ["table"] (sp_check_table D)) (D2 : Def P w K mg base "check_alike" 3 ["one", "other"] (sp_check_alike2 C D))
    (D3 : Def P w K mg base "multiplied" 3 ["rows", "others"] sp_multiplied) (D4 : Def P w K mg base "across" 1 ["rows"] sp_across) (D5 : MkrF P w K mg base C) (D6 : Prp P w K mg base D "rows" 1 (sp_rows D)) : FnOk P w K mg base CX0 10 f fd ["self", "table"] (sp_led C D) := by
  refine F.ok sc_led (fun vs H Q E h => ?_) (fun cdv A outer s H vs Q E hr h => ?_)
  · obtain ⟨v, o, G, M, n, b, c, rfl, _⟩ := h
    rfl
  · obtain ⟨v, o, G, M, n, b, c, rfl, hv, ho, lb, lc, q⟩ := h
    refine ⟨_, pss_cons (ps_expr (pe_def D1 hr (pa_cons (pv 1) pa_nil)))
      (pss_cons (ps_expr (pe_def D2 hr (pa_cons (pv 0) (pa_cons (pv 1) pa_nil))))
      (pss_one (ps_ret (pe_mkrF D5 Fc hr (pa_cons (pe_def D3 hr (pa_cons (pe_def D3 hr (pa_cons (pe_def D4 hr (pa_cons (pe_prp D6 Tc.cl hr (pv 1)) pa_nil)) (pa_cons (pe_fld (pv 0) rfl) pa_nil))) (pa_cons (pe_prp D6 Tc.cl hr (pv 1)) pa_nil))) pa_nil))))), ?_⟩
    have h1 := hv.h1
    have h3 := hv.h3
    have sG := hv.bd
    have sM := ho.bd
    have sT := sM.tr h1 h3
    have sTG := sT.mul sG h1 h3
    refine ⟨_, rfl, o, M, rfl, ho.tab, ?_⟩
    refine ⟨_, rfl, _, rfl, v, o, G, M, rfl, hv.tab, ho.tab, by rw [sG.len, sM.len], ?_⟩
    obtain ⟨p, dx, r, rfl, hp, hG⟩ := id hv.tab
    obtain ⟨p2, dx2, r2, rfl, hp2, hM⟩ := id ho.tab
    have q1 := sM.sq (by omega)
    have q2 := sG.sq (by omega)
    have q3 := sT.sq (by omega)
    have q4 := sTG.sq (by omega)
    refine r_nret (mkF (a2 (a2 (a1 ?_))))
    refine ⟨_, rfl, p2, dx2, _, rfl, hp2, _, M, rfl, ho.tab, fun r3 m3 => ?_⟩
    refine ⟨r3, M, n, rfl, m3, by rw [sM.len]; omega, by rw [sM.len]; omega, by omega, sM.row, fun v4 H4 s4 m4 => ?_⟩
    refine ⟨_, rfl, p, C, dx, _, _, rfl, s4 _ _ hp, Fc.cl, Fc.nR, fldsT_rows _, ?_⟩
    refine ⟨v4, r, transp n M, G, n, rfl, m4, hG.mono (KS.of s4), by rw [sT.len]; omega, by rw [sG.len]; omega, by rw [sG.len]; omega, by omega, fun c hc => ⟨by rw [q3.row c hc, sG.len], q3.small c hc⟩, fun c hc => ⟨q2.row c hc, q2.small c hc⟩, fun v5 H5 s5 m5 => ?_⟩
    have S5 := s4.trans s5
    refine ⟨_, rfl, p2, dx2, _, rfl, S5 _ _ hp2, _, M, rfl, T34.Tab.same S5 ho.tab, fun r6 m6 => ?_⟩
    refine ⟨v5, r6, mulM n (transp n M) G, M, n, rfl, m5, m6, by rw [sTG.len]; omega, by rw [sM.len]; omega, by rw [sM.len]; omega, by omega, fun c hc => ⟨by rw [q4.row c hc, sM.len], q4.small c hc⟩, fun c hc => ⟨q1.row c hc, q1.small c hc⟩, fun v7 H7 s7 m7 => ?_⟩
    exact MkF.of (.inl m7.py) (grid_mx _) h1 h3 (ld_sy h1 h3 sG.sh sM.sh hv.eq) (sG.ld sM h1 h3) (by omega) fun d H8 s8 f8 => q d H8 (S5.trans (s7.trans s8)) f8
end
end T34
set_option Elab.async false
set_option linter.all false
set_option maxRecDepth 100000
set_option maxHeartbeats 1000000
namespace Oa
open PySem PySem.Spec PyProof.Rows L2 Op
end Oa
set_option Elab.async false
set_option linter.all false
set_option maxRecDepth 100000
set_option maxHeartbeats 4000000
namespace T34
open PySem PySem.Spec PyProof.Rows L2 Gd Zn Rp Dn Tb Gn En Zs Ct Op Oc Rg Rt Ro Oa
theorem addE1 (a b : Int) : addM [[a]] [[b]] = [[a + b]] := rfl
theorem addE2 (a b c d e f g h : Int) : addM [[a, b], [c, d]] [[e, f], [g, h]] = [[a + e, b + f], [c + g, d + h]] := rfl
theorem addE3 (a b c d e f g h i j k l m n o p q r : Int) : addM [[a, b, c], [d, e, f], [g, h, i]] [[j, k, l], [m, n, o], [p, q, r]] = [[a + j, b + k, c + l], [d + m, e + n, f + o], [g + p, h + q, i + r]] := rfl
theorem add_get {M N : List (List Int)} {i : Nat} {r s : List Int} (h1 : M[i]? = some r) (h2 : N[i]? = some s) : (addM M N)[i]? = some ((r.zip s).map fun p => p.1 + p.2) := by
  unfold addM
  rw [List.getElem?_map]
  have : (M.zip N)[i]? = some (r, s) := by rw [List.getElem?_zip_eq_some]; exact ⟨h1, h2⟩
  rw [this]
  rfl
theorem add_sh {n : Nat} {M N : List (List Int)} (hM : Sh n M) (hN : Sh n N) : Sh n (addM M N) := by
  refine ⟨?_, fun r hr => ?_⟩
  · unfold addM
    rw [List.length_map, List.length_zip, hM.len, hN.len]
    omega
  · unfold addM at hr
    obtain ⟨⟨a, b⟩, h, rfl⟩ := List.mem_map.mp hr
    have k := List.of_mem_zip h
    rw [List.length_map, List.length_zip, hM.row a k.1, hN.row b k.2]
    omega
theorem SqE.add {n k : Nat} {M N : List (List Int)} (hM : SqE n k M) (hN : SqE n k N) : SqE n (k + 1) (addM M N) := by
  have s := add_sh hM.sh hN.sh
  refine ⟨s.len, s.row, fun r hr x hx => ?_⟩
  unfold addM at hr
  obtain ⟨⟨a, b⟩, h, rfl⟩ := List.mem_map.mp hr
  have q := List.of_mem_zip h
  obtain ⟨⟨c, d⟩, h2, rfl⟩ := List.mem_map.mp hx
  have q2 := List.of_mem_zip h2
  exact Wd.abs_add (hM.bd a q.1 c q2.1) (hN.bd b q.2 d q2.2)
theorem add_sy {n : Nat} {M N : List (List Int)} (h1 : 1 ≤ n) (h3 : n ≤ 3) (hM : Sh n M) (hN : Sh n N) (e : transp n M = M) (e' : transp n N = N) : transp n (addM M N) = addM M N := by
  have : n = 1 ∨ n = 2 ∨ n = 3 := by omega
  rcases this with rfl | rfl | rfl
  · obtain ⟨a, rfl⟩ := sh1 hM rfl
    obtain ⟨b, rfl⟩ := sh1 hN rfl
    rfl
  · obtain ⟨a, b, c, rfl⟩ := sy2 hM e
    obtain ⟨p, q, r, rfl⟩ := sy2 hN e'
    rfl
  · obtain ⟨a, b, c, d, e, f, rfl⟩ := sy3 hM e
    obtain ⟨p, q, r, s, t, u, rfl⟩ := sy3 hN e'
    rfl
theorem unit_sy {n : Nat} (h1 : 1 ≤ n) (h3 : n ≤ 3) : transp n (unitM n) = unitM n := by
  have : n = 1 ∨ n = 2 ∨ n = 3 := by omega
  rcases this with rfl | rfl | rfl <;> rfl
end T34
set_option Elab.async false
set_option linter.all false
set_option maxRecDepth 100000
set_option maxHeartbeats 4000000
namespace T34
open PySem PySem.Spec PyProof.Rows L2 Gd Zn Rp Dn Tb Gn En Zs Ct Op Oc Rg Rt Ro Oa
theorem lm_at {H : Hp} {v : V} {M : List (List Int)} (h : PyV H v (lmD M)) : ∃ (a : Addr) (bs : List Addr), v = .ref a ∧ H a = some (.lst (bs.map V.ref)) ∧ bs.length = M.length ∧ ∀ (i : Nat) (b : Addr), bs[i]? = some b → H b = some (.lst ((M.getD i []).map V.int)) := by
  unfold lmD at h
  cases h with
  | @lst a vs _ e q =>
    have : ∃ bs : List Addr, vs = bs.map V.ref ∧ bs.length = M.length ∧ ∀ (i : Nat) (b : Addr), bs[i]? = some b → H b = some (.lst ((M.getD i []).map V.int)) := by
      clear e
      induction M generalizing vs with
      | nil =>
        cases q
        exact ⟨[], rfl, rfl, fun i b e => by simp at e⟩
      | cons r M ih =>
        cases q with
        | cons p q =>
          obtain ⟨bs, rfl, l, hb⟩ := ih q
          cases p with
          | @lst b ws _ e z =>
            have ez := pyVs_ints z
            subst ez
            refine ⟨b :: bs, rfl, by rw [List.length_cons, List.length_cons, l], fun i c ec => ?_⟩
            cases i with
            | zero => cases ec; exact e
            | succ i => exact hb i c ec
    obtain ⟨bs, rfl, l, hb⟩ := this
    exact ⟨a, bs, rfl, e, l, hb⟩
theorem lm_of {H : Hp} {a : Addr} {bs : List Addr} {M : List (List Int)} (e : H a = some (.lst (bs.map V.ref))) (l : bs.length = M.length) (h : ∀ (i : Nat) (b : Addr), bs[i]? = some b → H b = some (.lst ((M.getD i []).map V.int))) : PyV H (.ref a) (lmD M) :=
  py_lm e (by rw [List.length_map, l]) fun i v ev => by
    rw [List.getElem?_map] at ev
    cases hb : bs[i]? with
    | none => rw [hb] at ev; cases ev
    | some b => rw [hb] at ev; cases ev; exact ⟨b, rfl, h i b hb⟩
theorem li_at {H : Hp} {v : V} {xs : List Int} (h : PyV H v (.list (iD xs))) : ∃ a, v = .ref a ∧ H a = some (.lst (xs.map V.int)) := by
  cases h with
  | @lst a vs _ e q =>
    have ez := pyVs_ints q
    subst ez
    exact ⟨a, rfl, e⟩
theorem li_of {H : Hp} {a : Addr} {xs : List Int} (h : H a = some (.lst (xs.map V.int))) : PyV H (.ref a) (.list (iD xs)) := .lst h (py_ints xs)
theorem getD_row {n : Nat} {M : List (List Int)} (h : Sh n M) {i : Nat} (hi : i < n) : (M.getD i []).length = n := h.row _ (getD_mem (by rw [h.len]; exact hi))
theorem ixL {xs : List Int} {j : Nat} (h : j < xs.length) : atI (xs.map V.int) (j : Int) = some (.int (xs.getD j 0)) := atI_nat (by
  rw [List.getElem?_map, List.getElem?_eq_getElem h, List.getD_eq_getElem?_getD, List.getElem?_eq_getElem h]
  rfl)
theorem ixR {bs : List Addr} {j : Nat} {b : Addr} (h : bs[j]? = some b) : atI (bs.map V.ref) (j : Int) = some (.ref b) := atI_nat (by rw [List.getElem?_map, h]; rfl)
theorem rb_get {k : Nat} {xs : List Int} (h : Rb k xs) {j : Nat} (hj : j < xs.length) : (xs.getD j 0).natAbs < 2 ^ k := by
  rw [List.getD_eq_getElem?_getD, List.getElem?_eq_getElem hj]
  exact h _ (List.getElem_mem hj)
theorem sqe_row {n k : Nat} {M : List (List Int)} (h : SqE n k M) {i : Nat} (hi : i < n) : Rb k (M.getD i []) := fun x hx => h.bd _ (getD_mem (by rw [h.len]; exact hi)) x hx
end T34
set_option Elab.async false
set_option linter.all false
set_option maxRecDepth 100000
set_option maxHeartbeats 4000000
namespace T34
open PySem PySem.Spec PyProof.Rows L2 Gd Zn Rp Dn Tb Gn En Zs Ct Op Oc Rg Rt Ro Oa
theorem rx_none {p : Option Addr} {H H' : Hp} {q : Addr} (s : RX p H H') (hp : Has p H) (n : H' q = none) : H q = none := by
  cases e : H q with
  | none => rfl
  | some o =>
    by_cases z : p = some q
    · obtain ⟨x, y, e1, _⟩ := s.pot q z (hp q z)
      rw [n] at e1
      cases e1
    · have := s.keep q o z e
      rw [n] at this
      cases this
/-- new objects, one for each turn -/
theorem lc_new {p : Option Addr} {J : It} {g : TG} {te : TE} {vs : List Nat} {σ : L2.St} {H1 : Hp} {Q : VK} (n : Nat) (Ok : Nat → HO → Prop) (hp : Has p H1) (hn : n ≤ 1000)
    (hgo : ∀ i H, i < n → RX p H1 H → J.go i H) (hst : ∀ H, RX p H1 H → J.stop n H)
    (hs : ∀ i x H H' (C : VK), i < n → RX p H1 H → Has p H → J.yld i H x H' → (∀ q H4 o, RX p H H4 → H q = none → H4 q = some o → Ok i o → C (.ref q) H4) → g x (wipe σ vs) H' fun σ2 H2 => wipe σ2 vs = wipe σ vs ∧ te σ2 H2 C)
    (hd : ∀ D H (bs : List Addr), H1 D = none → RX p H1 H → H D = some (.lst (bs.map V.ref)) → bs.length = n → bs.Nodup → D ∉ bs → (∀ b ∈ bs, H1 b = none) → (∀ i b, bs[i]? = some b → ∃ o, H b = some o ∧ Ok i o) → Q (.ref D) H) : LcB g tYes te vs σ Q J H1 := by
  intro D nD
  have nP : p ≠ some D := hp.ne nD
  refine ⟨fun i m H => i ≤ n ∧ m = n - i ∧ RX p H1 H ∧ ∃ bs : List Addr, H D = some (.lst (bs.map V.ref)) ∧ bs.length = i ∧ bs.Nodup ∧ D ∉ bs ∧ (∀ b ∈ bs, H1 b = none) ∧ (∀ j b, bs[j]? = some b → ∃ o, H b = some o ∧ Ok j o),
    ⟨n, Nat.zero_le _, rfl, RX.new nD, [], upd_same, rfl, .nil, by simp, by simp, fun j v e => by simp at e⟩, ?_⟩
  rintro i m H ⟨hi, rfl, s1, bs, hD, hl, nd, nDb, fr, hE⟩
  by_cases hlt : i < n
  · refine .inr ⟨hgo i H hlt s1, fun H' => i + 1 ≤ n ∧ RX p H1 H' ∧ ∃ bs : List Addr, H' D = some (.lst (bs.map V.ref)) ∧ bs.length = i + 1 ∧ bs.Nodup ∧ D ∉ bs ∧ (∀ b ∈ bs, H1 b = none) ∧ (∀ j b, bs[j]? = some b → ∃ o, H' b = some o ∧ Ok j o), fun H' h => ⟨n - (i + 1), by omega, h.1, rfl, h.2⟩, fun x H' hy => ?_⟩
    have hpH := hp.to s1
    refine hs i x H H' _ hlt s1 hpH hy fun q H4 o s4 nq e4 ok => ?_
    have hD4 := s4.keep D _ nP hD
    have qD : q ≠ D := (ne_of_none hD nq).symm
    have nq1 : H1 q = none := rx_none s1 hp nq
    have qb : q ∉ bs := fun z => by
      obtain ⟨j, hj, ej⟩ := List.getElem_of_mem z
      obtain ⟨o', e', _⟩ := hE j q (by rw [List.getElem?_eq_getElem hj, ej])
      rw [nq] at e'
      cases e'
    refine ⟨bs.map V.ref, hD4, by rw [List.length_map]; exact Nat.lt_of_lt_of_le (by omega : bs.length < 1001) (by decide), hlt, (s1.trans s4).mut nD hp, bs ++ [q], by rw [upd_same, List.map_append]; rfl, by simp [hl], ?_, ?_, ?_, fun j b e => ?_⟩
    · rw [List.nodup_append]
      exact ⟨nd, by simp, fun a ha b hb => by rw [List.mem_singleton.mp hb]; exact fun z => qb (z ▸ ha)⟩
    · rw [List.mem_append, List.mem_singleton]
      rintro (z | z)
      · exact nDb z
      · exact qD z.symm
    · intro b hb
      rcases List.mem_append.mp hb with hb | hb
      · exact fr b hb
      · rw [List.mem_singleton.mp hb]; exact nq1
    · by_cases hj : j < bs.length
      · rw [List.getElem?_append_left hj] at e
        obtain ⟨o', e1, e2⟩ := hE j b e
        have hb : b ∈ bs := List.mem_of_getElem? e
        have bD : b ≠ D := fun z => nDb (z ▸ hb)
        have bp : p ≠ some b := fun z => by
          have := fr b hb
          obtain ⟨x, y, e9, _⟩ := hp b z
          rw [this] at e9
          cases e9
        exact ⟨o', by rw [upd_ne bD]; exact s4.keep b _ bp e1, e2⟩
      · rw [List.getElem?_append_right (by omega)] at e
        have z : j - bs.length = 0 := by
          by_cases w : j - bs.length = 0
          · exact w
          · rw [List.getElem?_eq_none (by simp; omega)] at e; cases e
        rw [z] at e
        cases e
        have : j = i := by omega
        subst this
        exact ⟨o, by rw [upd_ne qD]; exact e4, ok⟩
  · have e : i = n := by omega
    subst e
    exact .inl ⟨hst H s1, hd D H bs nD s1 hD hl nd nDb fr hE⟩
def ent (M : List (List Int)) (i j : Nat) : Int := (M.getD i []).getD j 0
def setIJ (M : List (List Int)) (i j : Nat) (x : Int) : List (List Int) := M.set i ((M.getD i []).set j x)
theorem ent_set {n : Nat} {M : List (List Int)} (h : Sh n M) {i j : Nat} (hi : i < n) (hj : j < n) (x : Int) (k l : Nat) : ent (setIJ M i j x) k l = if k = i ∧ l = j then x else ent M k l := by
  have hi' : i < M.length := by rw [h.len]; exact hi
  have hr : (M.getD i []).length = n := getD_row h hi
  unfold ent setIJ
  by_cases e : k = i
  · subst e
    have z : (M.set k ((M.getD k []).set j x)).getD k [] = (M.getD k []).set j x := by
      rw [List.getD_eq_getElem?_getD, List.getElem?_set_self hi']
      rfl
    rw [z]
    by_cases e2 : l = j
    · subst e2
      rw [if_pos ⟨rfl, rfl⟩, List.getD_eq_getElem?_getD, List.getElem?_set_self (by rw [hr]; exact hj)]
      rfl
    · rw [if_neg (fun q => e2 q.2), List.getD_eq_getElem?_getD, List.getElem?_set_ne (fun q => e2 q.symm), ← List.getD_eq_getElem?_getD]
  · rw [if_neg (fun q => e q.1)]
    have z : (M.set i ((M.getD i []).set j x)).getD k [] = M.getD k [] := by
      rw [List.getD_eq_getElem?_getD, List.getElem?_set_ne (fun q => e q.symm), ← List.getD_eq_getElem?_getD]
    rw [z]
theorem SqB.setIJ {n : Nat} {B : Int} {M : List (List Int)} (h : SqB n B M) {i j : Nat} (hi : i < n) {x : Int} (hx : -B ≤ x ∧ x ≤ B) : SqB n B (setIJ M i j x) := by
  have hm := getD_mem (M := M) (i := i) (by rw [h.len]; exact hi)
  refine h.set i (by rw [List.length_set]; exact h.row _ hm) fun y hy => ?_
  rcases List.mem_or_eq_of_mem_set hy with hy | rfl
  · exact h.bd _ hm y hy
  · exact hx
def Sym (n : Nat) (M : List (List Int)) : Prop := ∀ i j, i < n → j < n → ent M i j = ent M j i
theorem Sym.tr {n : Nat} {M : List (List Int)} (h : Sym n M) (s : Sh n M) (h1 : 1 ≤ n) (h3 : n ≤ 3) : transp n M = M := by
  have : n = 1 ∨ n = 2 ∨ n = 3 := by omega
  rcases this with rfl | rfl | rfl
  · obtain ⟨a, rfl⟩ := sh1 s rfl
    rfl
  · obtain ⟨a, b, c, d, rfl⟩ := sh2 s rfl
    have e : b = c := h 0 1 (by decide) (by decide)
    subst e
    rfl
  · obtain ⟨a, b, c, d, e, f, g, h', i, rfl⟩ := sh3 s rfl
    have e1 : b = d := h 0 1 (by decide) (by decide)
    have e2 : c = g := h 0 2 (by decide) (by decide)
    have e3 : f = h' := h 1 2 (by decide) (by decide)
    subst e1 e2 e3
    rfl
theorem nodup_inj {α : Type} : ∀ {bs : List α} {i j : Nat} {c : α}, bs.Nodup → bs[i]? = some c → bs[j]? = some c → i = j
  | [], i, _, _, _, e, _ => by simp at e
  | b :: bs, 0, 0, _, _, _, _ => rfl
  | b :: bs, 0, j + 1, c, nd, e, e' => by
    cases e
    exact absurd (List.mem_of_getElem? (show bs[j]? = some b from e')) (List.nodup_cons.mp nd).1
  | b :: bs, i + 1, 0, c, nd, e, e' => by
    cases e'
    exact absurd (List.mem_of_getElem? (show bs[i]? = some b from e)) (List.nodup_cons.mp nd).1
  | b :: bs, i + 1, j + 1, c, nd, e, e' => congrArg (· + 1) (nodup_inj (List.nodup_cons.mp nd).2 (show bs[i]? = some c from e) (show bs[j]? = some c from e'))
structure LL (H : Hp) (a : Addr) (bs : List Addr) (M : List (List Int)) : Prop where
  top : H a = some (.lst (bs.map V.ref))
  len : bs.length = M.length
  row : ∀ (i : Nat) (b : Addr), bs[i]? = some b → H b = some (.lst ((M.getD i []).map V.int))
  nd : bs.Nodup
  ne : a ∉ bs
theorem LL.rx {p : Addr} {H H' : Hp} {a : Addr} {bs : List Addr} {M : List (List Int)} (h : LL H a bs M) (s : RX (some p) H H') (hp : p ∉ a :: bs) : LL H' a bs M := by
  rw [List.mem_cons, not_or] at hp
  refine ⟨s.keep a _ (fun z => hp.1 (by cases z; rfl)) h.top, h.len, fun i b e => s.keep b _ (fun z => hp.2 (by cases z; exact List.mem_of_getElem? e)) (h.row i b e), h.nd, h.ne⟩
theorem LL.put {H : Hp} {a : Addr} {bs : List Addr} {M : List (List Int)} (h : LL H a bs M) {i j : Nat} {b : Addr} (eb : bs[i]? = some b) (x : Int) :
    LL (upd H b (.lst (((M.getD i []).map V.int).set j (.int x)))) a bs (setIJ M i j x) := by
  have hb := List.mem_of_getElem? eb
  have hi : i < bs.length := (List.getElem?_eq_some_iff.mp eb).1
  have nab : a ≠ b := fun z => h.ne (by rw [z]; exact hb)
  refine ⟨by rw [upd_ne nab]; exact h.top, by unfold setIJ; rw [List.length_set]; exact h.len, fun k c ec => ?_, h.nd, h.ne⟩
  by_cases e : k = i
  · subst e
    rw [eb] at ec
    cases ec
    rw [upd_same]
    unfold setIJ
    rw [List.getD_eq_getElem?_getD (l := M.set _ _), List.getElem?_set_self (by rw [← h.len]; exact hi)]
    show some (HO.lst _) = some (HO.lst (List.map V.int ((M.getD k []).set j x)))
    rw [List.map_set]
  · have nc : c ≠ b := fun z => by
      subst z
      exact e (nodup_inj h.nd ec eb)
    rw [upd_ne nc, h.row k c ec]
    unfold setIJ
    rw [List.getD_eq_getElem?_getD (l := M.set _ _), List.getElem?_set_ne (fun z => e z.symm), ← List.getD_eq_getElem?_getD]
theorem LL.py {p : Addr} {H : Hp} {a : Addr} {bs : List Addr} {M : List (List Int)} (h : LL H a bs M) (hp : p ∉ a :: bs) : PyV (hid (some p) H) (.ref a) (lmD M) := by
  rw [List.mem_cons, not_or] at hp
  refine lm_of (by rw [hid_at (fun z => hp.1 (by cases z; rfl))]; exact h.top) h.len fun i b e => ?_
  rw [hid_at (fun z => hp.2 (by cases z; exact List.mem_of_getElem? e))]
  exact h.row i b e
theorem py_rx {p : Option Addr} {H H' : Hp} {v : V} {d : PyData} (h : PyV (hid p H) v d) (s : RX p H H') : PyV (hid p H') v d := PyV.mono s.hid h
theorem py_un {p : Option Addr} {H : Hp} {v : V} {d : PyData} (h : PyV (hid p H) v d) : PyV H v d := PyV.mono hid_le h
def zeroM (n : Nat) : List (List Int) := List.replicate n (List.replicate n 0)
theorem zero_sqB (n : Nat) (B : Int) (h : 0 ≤ B) : SqB n B (zeroM n) := ⟨by simp [zeroM], fun r hr => by
  unfold zeroM at hr
  rw [(List.mem_replicate.mp hr).2]
  simp, fun r hr x hx => by
  unfold zeroM at hr
  rw [(List.mem_replicate.mp hr).2] at hx
  rw [(List.mem_replicate.mp hx).2]
  omega⟩
theorem zero_getD {n i : Nat} (h : i < n) : (zeroM n).getD i [] = List.replicate n 0 := by
  unfold zeroM
  rw [List.getD_eq_getElem?_getD, List.getElem?_replicate, if_pos h]
  rfl
theorem zero_sym (n : Nat) : Sym n (zeroM n) := fun i j hi hj => by
  unfold ent
  rw [zero_getD hi, zero_getD hj, List.getD_eq_getElem?_getD, List.getD_eq_getElem?_getD, List.getElem?_replicate, List.getElem?_replicate, if_pos hj, if_pos hi]
theorem Sym.put {n : Nat} {M : List (List Int)} (h : Sym n M) (s : Sh n M) {i j : Nat} (hi : i < n) (hj : j < n) (x : Int) : Sym n (setIJ (setIJ M i j x) j i x) := fun k l hk hl => by
  have s2 : Sh n (setIJ M i j x) := by
    refine ⟨by unfold setIJ; rw [List.length_set, s.len], fun r hr => ?_⟩
    unfold setIJ at hr
    rcases List.mem_or_eq_of_mem_set hr with hr | rfl
    · exact s.row r hr
    · rw [List.length_set]; exact getD_row s hi
  rw [ent_set s2 hj hi, ent_set s2 hj hi, ent_set s hi hj, ent_set s hi hj]
  have := h k l hk hl
  by_cases a : k = j <;> by_cases b : l = i <;> by_cases c : k = i <;> by_cases d : l = j <;> simp [a, b, c, d] <;> grind
theorem n_asg {te : TE} {g : TG} {D : Ends} {rt : VK} {bk ct : L2.St → Hp → Prop} {σ : L2.St} {H : Hp} (h : te σ H fun x H1 => g x σ H1 D.nx) : Ends.nx ⟨tAsg te g D, rt, bk, ct⟩ σ H := h
theorem rep_flat (m : Nat) (x : V) : (List.replicate m [x]).flatten = List.replicate m x := by
  induction m with
  | zero => rfl
  | succ m ih => rw [List.replicate_succ, List.replicate_succ, List.flatten_cons, ih]; rfl
end T34
set_option Elab.async false
set_option linter.all false
set_option maxRecDepth 100000
set_option maxHeartbeats 4000000
namespace T34
open PySem PySem.Spec PyProof.Rows L2 Gd Zn Rp Dn Tb Gn En Zs Ct Op Oc Rg Rt Ro Oa
theorem d_bm {K : PySem.W.Frag} {T : String} {r : V → List V → Hp → VK → Prop} {to : TE} {t : TA} {D : Ends} {σ : L2.St} {H : Hp} (h : to σ H fun x H1 => tyV K T x H1 ∧ t σ H1 fun xs H2 => r x xs H2 fun _ H3 => D.nx σ H3) : tDrop (tBM K T r to t) D σ H := h
theorem lt_cases {n i : Nat} (h3 : n ≤ 3) (hi : i < n) : (n = 1 ∧ i = 0) ∨ (n = 2 ∧ (i = 0 ∨ i = 1)) ∨ (n = 3 ∧ (i = 0 ∨ i = 1 ∨ i = 2)) := by omega
end T34
set_option Elab.async false
set_option linter.all false
set_option maxRecDepth 100000
set_option maxHeartbeats 4000000
set_option Elab.async false
set_option linter.all false
set_option maxRecDepth 100000
set_option maxHeartbeats 4000000
namespace T34
open PySem PySem.Spec PyProof.Rows L2 Gd Zn Rp Dn Tb Gn En Zs Ct Op Oc Rg Rt Ro Oa
theorem mth {C : Addr} {H : Hp} {M : List (List Int)} {x : V} {m : Str} {R : Prop} (hx : Tab C H x M) (k : R) (e : ¬ m = ("_rows" : Str) := by decide +kernel) : ∃ a dx fs, x = .ref a ∧ H a = some (.ins C dx fs) ∧ fs.lookup m = none ∧ R := by
  obtain ⟨a, dx, r, rfl, ha, hm⟩ := id hx
  exact ⟨a, dx, _, rfl, ha, noU e, k⟩
theorem c_worth {F : Addr} {E : XK} {H : Hp} {n b k : Nat} {M : List (List Int)} {x y : V} {xs : List Int} {Q : VK} (hx : Fv F H x n b M) (hy : SeqV H y (iD xs)) (l : xs.length = n) (hb : Rb k xs)
    (q : ∀ H', Same H H' → Q (.int (btwM M xs xs)) H') (lb : b ≤ 5000 ∧ k ≤ 5000 := by decide) : sp_worth F [x, y] H Q E := by
  have h3 := hx.h3
  exact ⟨x, y, M, xs, n, rfl, hx.tab, hy, hx.bd.sq (by omega), hx.h1, h3, l, hb.small (by omega), (led_rb hx.bd hb l h3).small (by omega), q⟩
theorem shaped_intsL (r : List Int) : SeqAt.shaped (.list (r.map PyData.int)) = true := by
  unfold SeqAt.shaped
  rw [PyData.canLay0, lay_row, PyData.depth, depth_row]
  rfl
theorem dp_listL {K : PySem.W.Frag} {H : Hp} {a : Addr} {xs : List Int} (h : H a = some (.lst (xs.map V.int))) : Dp K H (.ref a) (.list (xs.map PyData.int)) := .lst (.inl (.inl h)) (dp_ints xs)
theorem if_then {c : Bool} {t : TS} {D : Ends} {σ : L2.St} {H : Hp} (R : Hp → Prop) (hrest : ∀ H', R H' → D.nx σ H') (h : c = true → (∀ H', R H' → D.nx σ H') → t D σ H) (h2 : c = false → R H) : if c = true then t D σ H else tNext D σ H := by
  cases c with
  | true => rw [if_pos rfl]; exact h rfl hrest
  | false => rw [if_neg (by decide)]; exact hrest H (h2 rfl)
theorem SeqV.un {p : Option Addr} {H : Hp} {v : V} {ds : List PyData} (h : SeqV (hid p H) v ds) : SeqV H v ds := h.mono hid_le
theorem SeqV.rx {p : Option Addr} {H H' : Hp} {v : V} {ds : List PyData} (h : SeqV (hid p H) v ds) (s : RX p H H') : SeqV (hid p H') v ds := h.mono s.hid
def addL (xs ys : List Int) : List Int := (xs.zip ys).map fun p => p.1 + p.2
end T34
set_option Elab.async false
set_option linter.all false
set_option maxRecDepth 100000
set_option maxHeartbeats 4000000
namespace T34
open PySem PySem.Spec PyProof.Rows L2 Gd Zn Rp Dn Tb Gn En Zs Ct Op Oc Rg Rt Ro Oa
section
variable {P : Program} {w : World} {K : PySem.W.Frag} {mg : Str → Option Value} {base : Heap} {C F : Addr}
abbrev st_keeps : Stmt := top 35
def sp_keeps (F C : Addr) : Sp := fun vs H Q _ => ∃ o v M S, ∃ n b c : Nat, vs = [o, v] ∧ Tv C H o n c S ∧ Fv F H v n b M ∧ b ≤ 2000 ∧ c ≤ 2000 ∧ ∀ H', Same H H' → Q (.bl (decide (ldM n M S = M))) H'
theorem sc_keeps : FnScope ["table", "form"] ["table", "form"] (defScope st_keeps) := ⟨rfl, rfl, rfl, by decide +kernel, rfl, by decide +kernel, by decide +kernel⟩
theorem ok_keeps {f : Addr} {fd : FuncData} (F' : Fun K "keeps" "keeps" st_keeps f fd) (Fc : Fcl K mg F) (D1 : Def P w K mg base "check_table" 1 ["table"] (sp_check_table C)) (D2 : Def P w K mg base "check_form" 1 ["form"] (sp_check_form F)) (D3 : Mtd P w K mg base F "led" 10 ["self", "table"] (sp_led F C)) (D4 : EqP P w K mg base F) :
    FnOk P w K mg base CX0 11 f fd ["table", "form"] (sp_keeps F C) := by
  refine F'.ok sc_keeps (fun vs H Q E h => ?_) (fun cdv A outer s H vs Q E hr h => ?_)
  · obtain ⟨o, v, M, S, n, b, c, rfl, _⟩ := h
    rfl
  · obtain ⟨o, v, M, S, n, b, c, rfl, ho, hv, lb, lc, q⟩ := h
    obtain ⟨g, gd, mt, G, bd⟩ := D3.ex
    have hr10 : Room 10 _ := hr
    refine ⟨_, pss_cons (ps_expr (pe_def D1 hr (pa_cons (pv 0) pa_nil))) (pss_cons (ps_expr (pe_def D2 hr (pa_cons (pv 1) pa_nil)))
      (pss_one (ps_ret (pe_cmpR (opEq D4 hr) (pe_meth (pv 1) Fc.cl mt G hr10 bd .nil pass0 (pa_cons (pv 0) pa_nil)) (pv 1) (nomark _))))), ?_⟩
    refine ⟨_, rfl, o, S, rfl, ho.tab, _, rfl, v, M, rfl, hv.tab, ?_⟩
    refine r_nret (r_op (r_meth1 ⟨_, rfl, mth hv.tab ⟨_, rfl, v, o, M, S, n, b, c, rfl, hv, ho, lb, lc, fun d H' s f => ⟨_, rfl, rd_eq f.tab (hv.same s).tab (q H' s)⟩⟩⟩))
abbrev st_draw : Stmt := top 38
theorem sc_draw : FnScope ["_law_pot_here", "_law_many", "_law_digit"] ["_law_pot_here", "_law_many"] (defScope st_draw) := ⟨rfl, rfl, rfl, by decide +kernel, rfl, by decide +kernel, by decide +kernel⟩
theorem ok_draw {f : Addr} {fd : FuncData} (F : Fun K "_law_draw" "_law_draw" st_draw f fd) (T : Txt mg) : FnOk P w K mg base CX0 1 f fd ["_law_pot_here", "_law_many"] sp_draw := by
  refine F.ok sc_draw (fun vs H Q E h => ?_) (fun cdv A outer s H vs Q E hr h => ?_)
  · obtain ⟨p, m, rfl, _⟩ := h
    rfl
  · obtain ⟨p, m, rfl, ⟨a, b, hp, ha, hb, hb2⟩, m0, m1, q⟩ := h
    refine ⟨_, pss_cons (ps_if (pt_cmpR op_gt (pe_ix ix_list (pv 0) pe_int (fun _ _ => rfl)) pe_int (nomark _))
        (pss_cons (ps_asg (pe_callB call_divmod (by rfl) T.divmod boot_divmod (pa_cons (pe_ix ix_list (pv 0) pe_int (fun _ _ => rfl)) (pa_cons (pv 1) pa_nil)))
          (pg_tup rfl (pgs_cons (pg_sub (pv 0) pe_int set_list) (pgs_cons (pg_name (i := 2) sc_draw.nd rfl (Or.inl rfl)) pgs_nil)))) (pss_one (ps_ret (pv 2)))) pss_nil)
      (pss_cons (ps_asg (pe_op op_mod (pe_op op_add (pe_op op_mul (pe_ix ix_list (pv 0) pe_int (fun _ _ => rfl)) pe_int) pe_int) pe_int) (pg_sub (pv 0) pe_int set_list))
      (pss_one (ps_ret (pe_op op_mod (pe_op op_fdiv (pe_op op_mod (pe_op op_mul (pe_ix ix_list (pv 0) pe_int (fun _ _ => rfl)) (pe_ix ix_list (pv 0) pe_int (fun _ _ => rfl))) pe_int) pe_int) (pv 1))))), ?_⟩
    have i0 : ∀ x y : V, atI [x, y] 0 = some x := fun x y => atI_nat (j := 0) rfl
    have i1 : ∀ x y : V, atI [x, y] 1 = some y := fun x y => atI_nat (j := 1) rfl
    refine ⟨_, rfl, p, _, (0 : Int), _, rfl, rfl, .inl (.inl hp), i0 _ _, _, _, rfl, rfl, _, rfl, ?_⟩
    by_cases c : 0 < a
    · rw [decide_eq_true c]
      refine iteT ?_
      refine ⟨_, rfl, p, _, (0 : Int), _, rfl, rfl, .inl (.inl hp), i0 _ _, _, rfl, _, _, rfl, ⟨m0, by omega⟩, fun t nt => ?_⟩
      have ne : p ≠ t := ne_of_none hp nt
      refine ⟨t, _, rfl, .inl (.inl upd_same), rfl, _, _, rfl, _, rfl, p, _, 0, 0, rfl, rfl, (by rw [upd_ne ne]; exact hp), rfl, _, _, rfl, rfl, ?_⟩
      refine ⟨_, rfl, ?_⟩
      refine q _ _ (Int.emod_nonneg _ (by omega)) (Int.emod_lt_of_pos _ m0) ?_
      exact set_pot (same_new nt) (Int.ediv_nonneg ha (by omega)) hb hb2
    · rw [decide_eq_false c]
      refine iteF ?_
      have hb' : (b * 48271 + 18119) % 2147483587 < 2147483587 := Int.emod_lt_of_pos _ (by decide)
      have hb0 : 0 ≤ (b * 48271 + 18119) % 2147483587 := Int.emod_nonneg _ (by decide)
      refine ⟨_, rfl, p, _, (1 : Int), _, rfl, rfl, .inl (.inl hp), i1 _ _, _, _, rfl, rfl, .inr ⟨by decide, by decide⟩, _, _, rfl, rfl, _, _, rfl, rfl, (show (0 : Int) < 2147483587 by decide), _, rfl, p, _, 1, 1, rfl, rfl, hp, rfl, ?_⟩
      have h2 : upd H p (.lst [V.int a, V.int ((b * 48271 + 18119) % 2147483587)]) p = some (.lst [V.int a, V.int ((b * 48271 + 18119) % 2147483587)]) := upd_same
      refine ⟨_, rfl, p, _, (1 : Int), _, rfl, rfl, .inl (.inl h2), i1 _ _, _, rfl, p, _, (1 : Int), _, rfl, rfl, .inl (.inl h2), i1 _ _, _, _, rfl, rfl, .inl ⟨by omega, by omega⟩, _, _, rfl, rfl, (show (0 : Int) < 2147483549 by decide), _, _, rfl, rfl, ⟨by decide, by decide⟩, _, rfl, _, _, rfl, rfl, m0, ?_⟩
      exact q _ _ (Int.emod_nonneg _ (by omega)) (Int.emod_lt_of_pos _ m0) (set_pot (Same.refl H) ha hb0 (by omega))
theorem ok_pickM {f : Addr} {fd : FuncData} (F : Fun K "_law_pick" "_law_pick" st_pick f fd) (T : Txt mg) (D1 : Def P w K mg base "_law_draw" 1 ["_law_pot_here", "_law_many"] sp_draw) : FnOk P w K mg base CX0 2 f fd ["_law_pot_here", "_law_some"] sp_pick := by
  refine F.ok sc_pick (fun vs H Q E h => ?_) (fun cdv A outer s H vs Q E hr h => ?_)
  · obtain ⟨p, a, xs, rfl, _⟩ := h
    rfl
  · obtain ⟨p, a, xs, rfl, hp, ha, nap, l0, l1, q⟩ := h
    refine ⟨_, pss_one (ps_ret (pe_ix ix_list (pv 1) (pe_def D1 hr (pa_cons (pv 0) (pa_cons (pe_callB (r := Dn.rLen K) c_len (by rfl) T.len PySem.boot_len (pa_cons (pv 1) pa_nil)) pa_nil))) (fun _ _ => rfl))), ?_⟩
    refine ⟨_, rfl, _, rfl, _, rfl, a, xs, rfl, .inl (.inl (.inl ha)), p, _, rfl, hp, by omega, by omega, fun r H' r0 r1 s => ?_⟩
    have hk : H' a = some (.lst xs) := s.keep a _ (by intro z; cases z; exact nap rfl) ha
    have hr' : r.toNat < xs.length := by omega
    have er : r = (r.toNat : Int) := by omega
    have e1 : xs[r.toNat]? = some xs[r.toNat] := List.getElem?_eq_getElem hr'
    refine ⟨a, xs, r, _, rfl, rfl, .inl (.inl hk), atI_of r0 e1, q _ _ _ e1 s⟩
abbrev st_pot : Stmt := top 37
theorem sc_pot : FnScope ["_law_script", "_law_k", "_law_cell"] ["_law_script", "_law_k"] (defScope st_pot) := ⟨rfl, rfl, rfl, by decide +kernel, rfl, by decide +kernel, by decide +kernel⟩
theorem cut_pre (xs : List V) (n : Nat) : cutV xs none (some n) = xs.take n := by
  unfold cutV
  rw [show HT.sIx xs.length xs.length (some (n : Int)) = min n xs.length from HT.sIx_nat _ _ _, HT.sIx_none]
  simp
theorem ok_pot {f : Addr} {fd : FuncData} (F : Fun K "_law_pot" "_law_pot" st_pot f fd) (T : Txt mg) : FnOk P w K mg base CX0 1 f fd ["_law_script", "_law_k"] (sp_pot K) := by
  refine F.ok sc_pot (fun vs H Q E h => ?_) (fun cdv A outer s H vs Q E hr h => ?_)
  · obtain ⟨a, ns, k, rfl, _⟩ := h
    rfl
  · obtain ⟨a, ns, k, rfl, hS, hl, k0, k1, q⟩ := h
    refine ⟨_, pss_cons (ps_set (i := 2) sc_pot.nd rfl (Or.inl rfl) (pe_op op_add (pe_op op_add (pe_op op_mul pe_int (pv 1)) pe_int) (pe_op op_mod (pe_callB (cr_sum rfl) (by rfl) T.sum boot_sum (pa_cons (pe_slice sl_list (pv 0) po_none (po_some pe_int)) pa_nil)) pe_int)))
      (pss_cons (ps_if (pt_cmpR op_lt (pv 1) (pe_callB (r := Dn.rLen K) c_len (by rfl) T.len PySem.boot_len (pa_cons (pv 0) pa_nil)) (nomark _)) (pss_one (ps_set (i := 2) sc_pot.nd rfl (Or.inl rfl) (pe_callB call_abs (by rfl) T.abs boot_abs (pa_cons (pe_ix ix_list (pv 0) (pv 1) (fun _ _ => rfl)) pa_nil)))) pss_nil)
      (pss_one (ps_ret (pe_lst (pa_cons (pe_callB (call_max2 rfl) (by rfl) T.max boot_max (pa_cons pe_int (pa_cons (pe_op op_sub (pv 2) (pe_op op_pow pe_int pe_int)) pa_nil)))
        (pa_cons (pe_op op_add (pe_op op_mod (pe_op op_mul (pe_op op_add (pe_op op_mod (pv 2) pe_int) pe_int) (pe_op op_pow (pe_op op_add (pe_op op_mul pe_int (pv 1)) pe_int) pe_int)) pe_int) pe_int) pa_nil)))))), ?_⟩
    have fin : ∀ (c : Int) (H1 : Hp), Same H H1 → ∀ p, H1 p = none → Q (.ref p) (upd H1 p (.lst [.int (if c - 10 ^ 18 > 0 then c - 10 ^ 18 else 0), .int ((c % 2147483549 + 18119) * (2 * k + 9) ^ 3 % 2147483477 + 1)])) := fun c H1 s1 p np => by
      refine q p _ (Same.free s1 np) (s1.trans (same_new np)) ⟨_, _, upd_same, ?_, ?_, ?_⟩
      · split <;> omega
      · have := Int.emod_nonneg ((c % 2147483549 + 18119) * (2 * k + 9) ^ 3) (show (2147483477 : Int) ≠ 0 by decide)
        omega
      · have := Int.emod_lt_of_pos ((c % 2147483549 + 18119) * (2 * k + 9) ^ 3) (show (0 : Int) < 2147483477 by decide)
        omega
    have tail : ∀ (c : Int) (H1 : Hp), Same H H1 → tRet (tLst (tCons (tCB (fun xs H Q => ∃ i j, xs = [.int i, .int j] ∧ Q (.int (if j > i then j else i)) H) (tCons (tC (.int 0)) (tCons (tOp (rI0 fun i j => .int (i - j)) (tVar 2) (tOp (rI CPow fun i j => .int (i ^ j.toNat)) (tC (.int 10)) (tC (.int 18)))) tNil)))
        (tCons (tOp (rI0 fun i j => .int (i + j)) (tOp (rI (fun _ j => 0 < j) fun i j => .int (i % j)) (tOp (rI CMul fun i j => .int (i * j)) (tOp (rI0 fun i j => .int (i + j)) (tOp (rI (fun _ j => 0 < j) fun i j => .int (i % j)) (tVar 2) (tC (.int 2147483549))) (tC (.int 18119)))
          (tOp (rI CPow fun i j => .int (i ^ j.toNat)) (tOp (rI0 fun i j => .int (i + j)) (tOp (rI CMul fun i j => .int (i * j)) (tC (.int 2)) (tVar 1)) (tC (.int 9))) (tC (.int 3)))) (tC (.int 2147483477))) (tC (.int 1))) tNil))) { nx := fun _ H' => Q .non H', rt := Q } [some (.ref a), some (.int k), some (.int c)] H1 := fun c H1 s1 => by
      have m1 := Int.emod_nonneg c (show (2147483549 : Int) ≠ 0 by decide)
      have m2 := Int.emod_lt_of_pos c (show (0 : Int) < 2147483549 by decide)
      refine ⟨_, rfl, _, _, rfl, rfl, ⟨by decide, by decide, by decide⟩, _, _, rfl, rfl, _, _, rfl, ?_⟩
      refine ⟨_, rfl, _, _, rfl, rfl, (show (0 : Int) < 2147483549 by decide), _, _, rfl, rfl, _, rfl, _, _, rfl, rfl, .inl ⟨by decide, by decide⟩, _, _, rfl, rfl, _, _, rfl, rfl, ⟨by decide, by decide, by show (2 * k + 9).natAbs < 2 ^ 64; omega⟩, _, _, rfl, rfl, .inl ⟨by omega, by omega⟩, _, _, rfl, rfl, (show (0 : Int) < 2147483477 by decide), _, _, rfl, rfl, ?_⟩
      exact ⟨(by show 2 ≤ sizeLine; decide), fun p np => fin c H1 s1 p np⟩
    refine ⟨_, rfl, _, _, rfl, rfl, .inl ⟨by decide, by decide⟩, _, _, rfl, rfl, _, rfl, 1, rfl, a, _, rfl, hS, fun c nc => ?_⟩
    have s1 : Same H (upd H c (.lst (cutV (ns.map V.int) none (some 1)))) := same_new nc
    refine ⟨c, ns.take 1, rfl, .inl (.inl (by rw [upd_same, show (1 : Int) = ((1 : Nat) : Int) from rfl, cut_pre, List.map_take])), _, _, rfl, rfl, (show (0 : Int) < 1000003 by decide), _, _, rfl, rfl, ?_⟩
    refine ⟨_, rfl, _, rfl, a, _, rfl, .inl (s1.seq hS), _, _, rfl, rfl, _, rfl, ?_⟩
    rw [List.length_map]
    by_cases c : k < (ns.length : Int)
    · rw [decide_eq_true c]
      refine iteT ?_
      have hk : k.toNat < ns.length := by omega
      have e1 : (ns.map V.int)[k.toNat]? = some (.int ns[k.toNat]) := by simp [hk]
      refine ⟨_, rfl, _, rfl, a, _, _, _, rfl, rfl, s1.seq hS, atI_of k0 e1, _, rfl, ?_⟩
      exact tail _ _ s1
    · rw [decide_eq_false c]
      refine iteF ?_
      exact tail _ _ s1
end
end T34
set_option Elab.async false
set_option linter.all false
set_option maxRecDepth 100000
set_option maxHeartbeats 4000000
namespace T34
open PySem PySem.Spec PyProof.Rows L2 Gd Zn Rp Dn Tb Gn En Zs Ct Op Oc Rg Rt Ro Oa
structure NewM (H H' : Hp) (D : Addr) (M : List (List Int)) : Prop where
  py : PyV H' (.ref D) (lmD M)
  hid : ∀ p, H p ≠ none → PyV (Dn.hid (some p) H') (.ref D) (lmD M)
theorem newM {H H' : Hp} {D : Addr} {M : List (List Int)} {ws : List V} (nD : H D = none) (hD : H' D = some (.lst ws)) (l : ws.length = M.length) (h : ∀ (i : Nat) v, ws[i]? = some v → ∃ q, v = V.ref q ∧ H' q = some (.lst ((M.getD i []).map V.int)) ∧ H q = none) : NewM H H' D M := by
  refine ⟨py_lm hD l fun i v e => ?_, fun p hp => ?_⟩
  · obtain ⟨q, e1, e2, _⟩ := h i v e
    exact ⟨q, e1, e2⟩
  · have nn : ∀ q, H q = none → (some p : Option Addr) ≠ some q := fun q hq z => by cases z; exact hp hq
    refine py_lm (by rw [hid_at (nn D nD)]; exact hD) l fun i v e => ?_
    obtain ⟨q, e1, e2, e3⟩ := h i v e
    exact ⟨q, e1, by rw [hid_at (nn q e3)]; exact e2⟩
theorem NewM.from {H0 H H' : Hp} {D : Addr} {M : List (List Int)} (h : NewM H H' D M) (s : ∀ p, H0 p ≠ none → H p ≠ none) : NewM H0 H' D M := ⟨h.py, fun p hp => h.hid p (s p hp)⟩
theorem NewM.to {H H' H2 : Hp} {D : Addr} {M : List (List Int)} (h : NewM H H' D M) (s : Same H' H2) : NewM H H2 D M := ⟨h.py.mono s, fun p hp => PyV.mono (RX.of (p := some p) s).hid (h.hid p hp)⟩
theorem Same.some_ {H H' : Hp} (s : Same H H') : ∀ p, H p ≠ none → H' p ≠ none := fun p hp e => by
  cases h : H p with
  | none => exact hp h
  | some o => rw [s p o h] at e; cases e
section
variable {P : Program} {w : World} {K : PySem.W.Frag} {mg : Str → Option Value} {base : Heap} {C F : Addr}
abbrev st_tm : Stmt := top 42
abbrev N_tm : List Str := ["_law_one", "_law_other", "_law_size", "_law_near", "_law_far", "_law_at"]
theorem sc_tm : FnScope N_tm ["_law_one", "_law_other"] (defScope st_tm) := ⟨rfl, rfl, rfl, by decide +kernel, rfl, by decide +kernel, by decide +kernel⟩
def sp_tm : Sp := fun vs H Q _ => ∃ v o A B, ∃ n a b : Nat, vs = [v, o] ∧ PyV H v (lmD A) ∧ PyV H o (lmD B) ∧ 1 ≤ n ∧ n ≤ 3 ∧ SqE n a A ∧ SqE n b B ∧ a ≤ 5000 ∧ b ≤ 5000 ∧ ∀ D H', Same H H' → NewM H H' D (mulM n A B) → Q (.ref D) H'
theorem ok_tm {f : Addr} {fd : FuncData} (F' : Fun K "_law_times" "_law_times" st_tm f fd) (T : Txt mg) : FnOk P w K mg base CX0 1 f fd ["_law_one", "_law_other"] sp_tm := by
  refine F'.ok sc_tm (fun vs H Q E h => ?_) (fun cdv A outer s H vs Q E hr h => ?_)
  · obtain ⟨v, o, A, B, n, a, b, rfl, _⟩ := h
    rfl
  · obtain ⟨v, o, A, B, n, a, b, rfl, hv, ho, h1, h3, eA, eB, la, lb, q⟩ := h
    refine ⟨_, pss_cons (ps_set (i := 2) sc_tm.nd rfl (Or.inr rfl) (pe_callB (r := Dn.rLen K) c_len (by rfl) T.len PySem.boot_len (pa_cons (pv 0) pa_nil)))
      (pss_one (ps_ret (pe_lc (own := [("_law_near", 3)]) (g := gName 3) (tt := tYes) rfl sc_tm.nd (pi_range1 (by rfl) T.range (pa_cons (pv 2) pa_nil))
        (blkOk_by (N := N_tm) (sc := defScope st_tm) (by decide +kernel)) (fun _ _ _ _ _ => pg_name (i := 3) sc_tm.nd rfl (Or.inr rfl) (Or.inl rfl)) (fun _ _ _ _ _ => pts_nil)
        (fun s' H' C' cl' fp' => by
          refine pe_lc (own := [("_law_far", 4)]) (wi := iRng1 (tCons (tVar 2) tNil)) (g := gName 4) (tt := tYes) (te := tCB (rSum K) (tCons (tLc (iRng1 (tCons (tVar 2) tNil)) (gName 5) tYes (tOp (rI CMulX fun i j => .int (i * j)) (tOp (rIxS2 K) (tOp (rIxS2 K) (tVar 0) (tVar 3)) (tVar 5)) (tOp (rIxS2 K) (tOp (rIxS2 K) (tVar 1) (tVar 5)) (tVar 4))) [5]) tNil)) rfl sc_tm.nd ?p1 ?p2 ?p3 ?p4 ?p5
          case p1 => exact pi_range1 (by rfl) T.range (pa_cons (pv 2) pa_nil)
          case p2 => exact blkOk_by (N := N_tm) (by rfl)
          case p3 => exact (fun _ _ _ _ _ => pg_name (i := 4) sc_tm.nd rfl (Or.inr rfl) (Or.inl rfl))
          case p4 => exact (fun _ _ _ _ _ => pts_nil)
          case p5 =>
            intro s2 H2 C2 cl2 fp2
            refine pe_callB (r := rSum K) (cr_sum rfl) (by rfl) T.sum boot_sum (pa_cons (pe_lc (own := [("_law_at", 5)]) (wi := iRng1 (tCons (tVar 2) tNil)) (g := gName 5) (tt := tYes) (te := tOp (rI CMulX fun i j => .int (i * j)) (tOp (rIxS2 K) (tOp (rIxS2 K) (tVar 0) (tVar 3)) (tVar 5)) (tOp (rIxS2 K) (tOp (rIxS2 K) (tVar 1) (tVar 5)) (tVar 4))) rfl sc_tm.nd ?q1 ?q2 ?q3 ?q4 ?q5) pa_nil)
            case q1 => exact pi_range1 (by rfl) T.range (pa_cons (pv 2) pa_nil)
            case q2 => exact blkOk_by (N := N_tm) (by rfl)
            case q3 => exact (fun _ _ _ _ _ => pg_name (i := 5) sc_tm.nd rfl (Or.inl rfl) (Or.inr rfl))
            case q4 => exact (fun _ _ _ _ _ => pts_nil)
            case q5 => exact (fun _ _ _ _ _ => pe_op op_mulX (pe_ix ix_sq (pe_ix ix_sq (pv 0) (pv 3) (fun _ _ => rfl)) (pv 5) (fun _ _ => rfl)) (pe_ix ix_sq (pe_ix ix_sq (pv 1) (pv 5) (fun _ _ => rfl)) (pv 4) (fun _ _ => rfl))))))), ?_⟩
    have hA := eA.sh
    have hB := eB.sh
    obtain ⟨a0, as, rfl, ha, hal, hae⟩ := lm_at hv
    obtain ⟨b0, bs, rfl, hb, hbl, hbe⟩ := lm_at ho
    have al : as.length = n := by rw [hal, eA.len]
    have bl : bs.length = n := by rw [hbl, eB.len]
    have rowA : ∀ i, i < n → (A.getD i []).length = n := fun i hi => getD_row hA hi
    have rowB : ∀ i, i < n → (B.getD i []).length = n := fun i hi => getD_row hB hi
    have colL : ∀ j, (B.map fun r => r.getD j 0).length = n := fun j => by rw [List.length_map, hB.len]
    refine r_seq (r_asg (cb1 ⟨_, rfl, a0, _, rfl, .inl (.inl (.inl ha)), ?_⟩))
    rw [List.length_map, al]
    refine r_next (r_nret (tlc_call ⟨_, rfl, (n : Int), rfl, by omega, by omega, ?_⟩))
    rw [Int.toNat_natCast]
    have mrow : ∀ i, i < n → (mulM n A B).getD i [] = (List.range n).map fun j => dot (A.getD i []) (B.map fun r => r.getD j 0) := fun i hi => by
      have hi' : i < A.length := by rw [hA.len]; exact hi
      unfold mulM
      rw [List.getD_eq_getElem?_getD, List.getElem?_map, List.getElem?_eq_getElem hi']
      show ledM (transp n B) A[i] = _
      unfold ledM transp
      rw [List.map_map, List.getD_eq_getElem?_getD, List.getElem?_eq_getElem hi']
      refine List.map_congr_left fun j _ => ?_
      exact dot_comm _ _
    refine lc_fresh2 (p := none) n (fun i => .lst (((mulM n A B).getD i []).map V.int)) has_none (by omega) (fun i H2 hi s2 => hi) (fun H2 s2 => Nat.le_refl _) (fun i x H2 H3 C' hi s2 _ hy hC => ?_) fun D H2 ws nD s2 hD hwl hwE => ?_
    · obtain ⟨rfl, rfl⟩ := hy
      rw [show (0 : Int) + (i : Int) = (i : Int) by omega]
      refine ⟨rfl, tlc_call ⟨_, rfl, (n : Int), rfl, by omega, by omega, ?_⟩⟩
      rw [Int.toNat_natCast]
      refine lc_el (p := none) n (fun j v => v = .int (dot (A.getD i []) (B.map fun r => r.getD j 0))) has_none (by omega) (fun j H4 hj s4 => hj) (fun H4 s4 => Nat.le_refl _) (fun j x H4 H5 C2 hj s4 _ hy2 hC2 => ?_) fun De H4 ys nDe s4 hDe hyl hyE => ?_
      · obtain ⟨rfl, rfl⟩ := hy2
        rw [show (0 : Int) + (j : Int) = (j : Int) by omega]
        refine ⟨rfl, cb1 (tlc_call ⟨_, rfl, (n : Int), rfl, by omega, by omega, ?_⟩)⟩
        rw [Int.toNat_natCast]
        refine lc_el (p := none) n (fun l v => ∃ x y, (A.getD i [])[l]? = some x ∧ (B.map fun r => r.getD j 0)[l]? = some y ∧ v = .int (x * y)) has_none (by omega) (fun l H6 hl s6 => hl) (fun H6 s6 => Nat.le_refl _) (fun l x H6 H7 C3 hl s6 _ hy3 hC3 => ?_) fun Db H6 zs nDb s6 hDb hzl hzE => ?_
        · obtain ⟨rfl, rfl⟩ := hy3
          rw [show (0 : Int) + (l : Int) = (l : Int) by omega]
          have S6 := s2.same.trans (s4.same.trans s6.same)
          have ea : as[i]? = some (as[i]'(by omega)) := List.getElem?_eq_getElem _
          have eb : bs[l]? = some (bs[l]'(by omega)) := List.getElem?_eq_getElem _
          have l1 : l < (A.getD i []).length := by rw [rowA i hi]; exact hl
          have l2 : j < (B.getD l []).length := by rw [rowB l hl]; exact hj
          have bA := rb_get (sqe_row eA hi) l1
          have bB := rb_get (sqe_row eB hl) l2
          have ey : (B.map fun r => r.getD j 0)[l]? = some (B.getD l [])[j] := by
            have lB : l < B.length := by rw [hB.len]; exact hl
            rw [List.getElem?_map, List.getElem?_eq_getElem lB]
            show some (B[l].getD j 0) = _
            have : B.getD l [] = B[l] := by rw [List.getD_eq_getElem?_getD, List.getElem?_eq_getElem lB]; rfl
            congr 1
            rw [← this, List.getD_eq_getElem?_getD, List.getElem?_eq_getElem l2]
            rfl
          refine ⟨rfl, ?_⟩
          refine ⟨_, rfl, _, rfl, false, a0, _, _, _, rfl, rfl, .inl (.inl (S6 _ _ ha)), ixR ea, _, rfl, false, _, _, _, _, rfl, rfl, .inl (.inl (S6 _ _ (hae i _ ea))), ixL l1, _, rfl, _, rfl, false, b0, _, _, _, rfl, rfl, .inl (.inl (S6 _ _ hb)), ixR eb, _, rfl, false, _, _, _, _, rfl, rfl, .inl (.inl (S6 _ _ (hbe l _ eb))), ixL l2, _, _, rfl, rfl, Wd.mul ⟨a, by omega, bA⟩ ⟨b, by omega, bB⟩, ?_⟩
          refine hC3 _ _ (RX.refl _) ⟨_, _, List.getElem?_eq_getElem l1, ey, ?_⟩
          show V.int ((A.getD i []).getD l 0 * (B.getD l []).getD j 0) = _
          rw [List.getD_eq_getElem?_getD (l := A.getD i []), List.getD_eq_getElem?_getD (l := B.getD l []), List.getElem?_eq_getElem l1, List.getElem?_eq_getElem l2]
          rfl
        · have ez : zs = ((A.getD i []).zip (B.map fun r => r.getD j 0)).map fun (p : Int × Int) => V.int (p.1 * p.2) := map_of_get (n := 0) _ (by simp only [hzl, List.length_zip, rowA i hi, colL]; omega) fun l v e => by
            obtain ⟨x, y, e1, e2, e3⟩ := hzE l v e
            exact ⟨(x, y), by rw [List.getElem?_zip_eq_some]; exact ⟨e1, e2⟩, e3⟩
          refine ⟨Db, ((A.getD i []).zip (B.map fun r => r.getD j 0)).map (fun (p : Int × Int) => p.1 * p.2), rfl, .inl (.inl ?_), hC2 _ _ s6 rfl⟩
          rw [hDb, ez, List.map_map]
          rfl
      · have ey : ys = (List.range n).map fun j => V.int (dot (A.getD i []) (B.map fun r => r.getD j 0)) := map_of_get (n := 0) _ (by rw [hyl, List.length_range]) fun j v e => by
          have hj : j < n := by rw [← hyl]; exact (List.getElem?_eq_some_iff.mp e).1
          exact ⟨j, List.getElem?_range hj, hyE j v e⟩
        refine hC De _ s4 nDe ?_
        rw [hDe, ey, mrow i hi, List.map_map]
        rfl
    · have lM : (mulM n A B).length = n := by unfold mulM; rw [List.length_map, hA.len]
      exact q D H2 s2.same (newM nD hD (by rw [hwl, lM]) fun i v e => by
        obtain ⟨q, e1, e2, _, _, e5⟩ := hwE i v e
        exact ⟨q, e1, e2, e5⟩)
end
end T34
set_option Elab.async false
set_option linter.all false
set_option maxRecDepth 100000
set_option maxHeartbeats 4000000
namespace T34
open PySem PySem.Spec PyProof.Rows L2 Gd Zn Rp Dn Tb Gn En Zs Ct Op Oc Rg Rt Ro Oa
section
variable {P : Program} {w : World} {K : PySem.W.Frag} {mg : Str → Option Value} {base : Heap} {C F : Addr}
abbrev st_ld : Stmt := top 45
abbrev N_ld : List Str := ["_law_form_here", "_law_rows", "_law_size", "_law_turned", "_law_at", "_law_row"]
theorem sc_ld : FnScope N_ld ["_law_form_here", "_law_rows"] (defScope st_ld) := ⟨rfl, rfl, rfl, by decide +kernel, rfl, by decide +kernel, by decide +kernel⟩
def sp_ld : Sp := fun vs H Q _ => ∃ v o G S, ∃ n b c : Nat, vs = [v, o] ∧ PyV H v (lmD G) ∧ PyV H o (lmD S) ∧ 1 ≤ n ∧ n ≤ 3 ∧ SqE n b G ∧ SqE n c S ∧ b ≤ 2000 ∧ c ≤ 1000 ∧ ∀ D H', Same H H' → NewM H H' D (ldM n G S) → Q (.ref D) H'
theorem ok_ld {f : Addr} {fd : FuncData} (F' : Fun K "_law_led" "_law_led" st_ld f fd) (T : Txt mg) (D1 : Def P w K mg base "_law_times" 1 ["_law_one", "_law_other"] sp_tm) : FnOk P w K mg base CX0 2 f fd ["_law_form_here", "_law_rows"] sp_ld := by
  refine F'.ok sc_ld (fun vs H Q E h => ?_) (fun cdv A outer s H vs Q E hr h => ?_)
  · obtain ⟨v, o, G, S, n, b, c, rfl, _⟩ := h
    rfl
  · obtain ⟨v, o, G, S, n, b, c, rfl, hv, ho, h1, h3, eG, eS, lb, lc, q⟩ := h
    refine ⟨_, pss_cons (ps_par (i := 2) (j := 3) rfl sc_ld.nd rfl rfl (by decide) rfl rfl (pa_cons (pe_callB (r := Dn.rLen K) c_len (by rfl) T.len PySem.boot_len (pa_cons (pv 1) pa_nil)) (pa_cons (pe_lc (own := [("_law_at", 4)]) (g := gName 4) (tt := tYes) rfl sc_ld.nd (pi_range1 (by rfl) T.range (pa_cons (pe_callB (r := Dn.rLen K) c_len (by rfl) T.len PySem.boot_len (pa_cons (pv 1) pa_nil)) pa_nil))
        (blkOk_by (N := N_ld) (sc := defScope st_ld) (by decide +kernel)) (fun _ _ _ _ _ => pg_name (i := 4) sc_ld.nd rfl (Or.inr rfl) (Or.inl rfl)) (fun _ _ _ _ _ => pts_nil)
        (fun s' H' C' cl' fp' => by
          refine pe_lc (own := [("_law_row", 5)]) (wi := iSeq K (tVar 1)) (g := gName 5) (tt := tYes) (te := tOp (rIxS2 K) (tVar 5) (tVar 4)) rfl sc_ld.nd ?p1 ?p2 ?p3 ?p4 ?p5
          case p1 => exact pi_seq (pv 1)
          case p2 => exact blkOk_by (N := N_ld) (by rfl)
          case p3 => exact (fun _ _ _ _ _ => pg_name (i := 5) sc_ld.nd rfl (Or.inl rfl) (Or.inr rfl))
          case p4 => exact (fun _ _ _ _ _ => pts_nil)
          case p5 => exact (fun _ _ _ _ _ => pe_ix ix_sq (pv 5) (pv 4) (fun _ _ => rfl)))) pa_nil)) (by rfl))
      (pss_one (ps_ret (pe_def D1 hr (pa_cons (pe_def D1 hr (pa_cons (pv 3) (pa_cons (pv 0) pa_nil))) (pa_cons (pv 1) pa_nil))))), ?_⟩
    have hS := eS.sh
    obtain ⟨b0, bs, rfl, hb, hbl, hbe⟩ := lm_at ho
    have bl : bs.length = n := by rw [hbl, eS.len]
    have rowS : ∀ i, i < n → (S.getD i []).length = n := fun i hi => getD_row hS hi
    refine r_seq (r_par2 (r_cons (cb1 ⟨_, rfl, b0, _, rfl, .inl (.inl (.inl hb)), ?_⟩)))
    refine r_cons (tlc_call (cb1 ⟨_, rfl, b0, _, rfl, .inl (.inl (.inl hb)), (n : Int), by rw [List.length_map, bl], by omega, by omega, ?_⟩))
    rw [Int.toNat_natCast]
    have tg : ∀ i, i < n → (transp n S).getD i [] = S.map fun r => r.getD i 0 := fun i hi => by
      rw [List.getD_eq_getElem?_getD, transp_get hi]
      rfl
    refine lc_fresh (p := none) n (fun i => .lst (((transp n S).getD i []).map V.int)) has_none (by omega) (fun i H2 hi s2 => hi) (fun H2 s2 => Nat.le_refl _) (fun i x H2 H3 C' hi s2 _ hy hC => ?_) fun D H2 ws nD s2 hD hwl hwE => ?_
    · obtain ⟨rfl, rfl⟩ := hy
      rw [show (0 : Int) + (i : Int) = (i : Int) by omega]
      have qb : ∀ H', Same H3 H' → SqV K H' false b0 (bs.map V.ref) := fun H' s => .inl (.inl (s _ _ (s2.same _ _ hb)))
      refine ⟨rfl, tlc_call ⟨_, rfl, false, b0, _, rfl, qb H3 (Same.refl _), ?_⟩⟩
      refine lc_el (p := none) n (fun j v => ∃ r, S[j]? = some r ∧ v = .int (r.getD i 0)) has_none (by omega) (fun j H4 hj s4 => its_go (qb H4 s4.same) (List.getElem?_eq_getElem (by rw [List.length_map]; omega))) (fun H4 s4 => its_stop (qb H4 s4.same) (by rw [List.length_map]; omega)) (fun j x H4 H5 C2 hj s4 _ hy2 hC2 => ?_) fun De H4 ys nDe s4 hDe hyl hyE => ?_
      · obtain ⟨rfl, ex⟩ := its_yld hy2 (qb H4 s4.same)
        have lj : j < bs.length := by omega
        have ebj : bs[j]? = some bs[j] := List.getElem?_eq_getElem lj
        rw [List.getElem?_map, ebj] at ex
        cases ex
        have lS : j < S.length := by rw [hS.len]; exact hj
        have l2 : i < (S.getD j []).length := by rw [rowS j hj]; exact hi
        have eSj : S.getD j [] = S[j] := by rw [List.getD_eq_getElem?_getD, List.getElem?_eq_getElem lS]; rfl
        refine ⟨rfl, _, rfl, _, rfl, false, _, _, _, _, rfl, rfl, .inl (.inl (s4.same _ _ (s2.same _ _ (hbe j _ ebj)))), ixL l2, ?_⟩
        exact hC2 _ _ (RX.refl _) ⟨S[j], List.getElem?_eq_getElem lS, by rw [eSj]⟩
      · refine hC De _ s4 nDe ?_
        have ey : ys = S.map fun r => V.int (r.getD i 0) := map_of_get (n := 0) _ (by rw [hyl, hS.len]) hyE
        rw [hDe, ey, tg i hi, List.map_map]
        rfl
    have pT : PyV H2 (.ref D) (lmD (transp n S)) := py_lm hD (by rw [hwl]; simp [transp]) hwE
    have eT := eS.tr h1 h3
    refine ⟨_, _, rfl, r_next (r_nret (a2 (a2 ⟨_, rfl, _, rfl, .ref D, v, transp n S, G, n, c, b, rfl, pT, hv.mono s2.same, h1, h3, eT, eG, by omega, by omega, fun D1 H4 s4 p4 => ?_⟩)))⟩
    exact ⟨_, rfl, .ref D1, .ref b0, mulM n (transp n S) G, S, n, c + b + 2, c, rfl, p4.py, (ho.mono s2.same).mono s4, h1, h3, eT.mul eG h1 h3, eS, by omega, by omega, fun D2 H5 s5 p5 => q D2 H5 (s2.same.trans (s4.trans s5)) (p5.from (Same.some_ (s2.same.trans s4)))⟩
end
end T34
set_option Elab.async false
set_option linter.all false
set_option maxRecDepth 100000
set_option maxHeartbeats 4000000
namespace T34
open PySem PySem.Spec PyProof.Rows L2 Gd Zn Rp Dn Tb Gn En Zs Ct Op Oc Rg Rt Ro Oa
section
variable {P : Program} {w : World} {K : PySem.W.Frag} {mg : Str → Option Value} {base : Heap} {C F : Addr}
theorem r_ifR {c : TT} {t : TS} {D : Ends} {σ : L2.St} {H : Hp} (R : L2.St → Hp → Prop) (P : Bool → Hp → Prop) (test : ∀ Q : Bool → Hp → Prop, (∀ b H1, P b H1 → Q b H1) → c σ H Q) (htrue : ∀ H1, P true H1 → (∀ σ' H', R σ' H' → D.nx σ' H') → t D σ H1) (hfalse : ∀ H1, P false H1 → R σ H1)
    (rest : ∀ σ' H', R σ' H' → D.nx σ' H') : tIfS c t tNext D σ H := test _ fun b H1 h => by
  cases b with
  | true => rw [if_pos rfl]; exact htrue H1 h rest
  | false => rw [if_neg (by decide)]; exact rest _ _ (hfalse H1 h)
def totM (n : Nat) (M : List (List Int)) (r : List Int) (i : Nat) : Int := ((List.range i).map fun k => r.getD k 0 * cofM n M 0 k).sum
def sgM (i : Nat) : Int := if i % 2 = 0 then 1 else -1
theorem tot_succ (n : Nat) (M : List (List Int)) (r : List Int) (i : Nat) : totM n M r (i + 1) = totM n M r i + r.getD i 0 * cofM n M 0 i := by
  unfold totM
  rw [List.range_succ, List.map_append, List.sum_append]
  simp
theorem sg_succ (i : Nat) : 0 - sgM i = sgM (i + 1) := by
  unfold sgM
  have : i % 2 = 0 ∨ i % 2 = 1 := by omega
  rcases this with h | h
  · rw [if_pos h, if_neg (by omega)]; rfl
  · rw [if_neg (by omega), if_pos (by omega)]; rfl
theorem sg_cof (n : Nat) (M : List (List Int)) (x : Int) (i : Nat) : sgM i * x * detM n (outM M 0 i) = x * cofM n M 0 i := by
  unfold sgM cofM
  rw [Nat.zero_add]
  split <;> grind
theorem sg_wid (i : Nat) {x : Int} (h : Small x) : Wd.Wid (sgM i * x) := by
  unfold sgM
  split
  · rw [Int.one_mul]; exact h.w
  · obtain ⟨k, h1, h2⟩ := h.w
    exact ⟨k, h1, by rw [Int.neg_mul, Int.one_mul, Int.natAbs_neg]; exact h2⟩
theorem sg_big (i : Nat) : Small (sgM i) := by
  unfold sgM
  split
  · exact ⟨1, by decide, by decide⟩
  · exact ⟨1, by decide, by decide⟩
abbrev st_dt : Stmt := top 40
abbrev N_dt : List Str := ["_law_rows", "_law_total", "_law_sign", "_law_at", "_law_number", "_law_row"]
theorem sc_dt : FnScope N_dt ["_law_rows"] (defScope st_dt) := ⟨rfl, rfl, rfl, by decide +kernel, rfl, by decide +kernel, by decide +kernel⟩
def sp_dt (n : Nat) : Sp := fun vs H Q _ => ∃ v M, vs = [v] ∧ PyV H v (lmD M) ∧ n ≤ 3 ∧ Sq n M ∧ ∀ H', Same H H' → Q (.int (detM n M)) H'
theorem ok_dt0 {f : Addr} {fd : FuncData} (F' : Fun K "_law_det" "_law_det" st_dt f fd) (T : Txt mg) : FnOk P w K mg base CX0 1 f fd ["_law_rows"] (sp_dt 0) := by
  refine F'.ok sc_dt (fun vs H Q E h => ?_) (fun cdv A outer s H vs Q E hr h => ?_)
  · obtain ⟨v, M, rfl, _⟩ := h
    rfl
  · obtain ⟨v, M, rfl, hv, hn, hS, q⟩ := h
    obtain ⟨a, as, rfl, ha, hal, hae⟩ := lm_at hv
    refine ⟨_, pss_cons (ps_if (pt_cmpR op_eq (pe_callB (r := Dn.rLen K) c_len (by rfl) T.len PySem.boot_len (pa_cons (pv 0) pa_nil)) pe_int (nomark _)) (pss_one (ps_ret pe_int)) pss_nil)
      pss_dead, ?_⟩
    have hvl : (as.map V.ref).length = 0 := by rw [List.length_map, hal]; exact hS.len
    refine r_seq (r_if (r_tt (r_op (cb1 ⟨_, rfl, a, _, rfl, .inl (.inl (.inl ha)), rfl, _, rfl, ?_⟩))))
    rw [decide_eq_true (show V.int ((as.map V.ref).length : Int) = V.int 0 by rw [hvl]; rfl)]
    refine iteT ?_
    have := q H (Same.refl H)
    unfold detM at this
    exact this
theorem ok_dtS {f : Addr} {fd : FuncData} (n : Nat) (F' : Fun K "_law_det" "_law_det" st_dt f fd) (T : Txt mg) (D1 : Def P w K mg base "_law_det" (n + 1) ["_law_rows"] (sp_dt n)) : FnOk P w K mg base CX0 (n + 2) f fd ["_law_rows"] (sp_dt (n + 1)) := by
  refine F'.ok sc_dt (fun vs H Q E h => ?_) (fun cdv A outer s H vs Q E hr h => ?_)
  · obtain ⟨v, M, rfl, _⟩ := h
    rfl
  · obtain ⟨v, M, rfl, hv, hn, hS, q⟩ := h
    obtain ⟨a, as, rfl, ha, hal, hae⟩ := lm_at hv
    refine ⟨_, pss_cons (ps_if (pt_cmpR op_eq (pe_callB (r := Dn.rLen K) c_len (by rfl) T.len PySem.boot_len (pa_cons (pv 0) pa_nil)) pe_int (nomark _)) pss_dead pss_nil)
      (pss_cons (ps_asg (pe_tup (pa_cons pe_int (pa_cons pe_int pa_nil))) (pg_tup rfl (pgs_cons (pg_name (i := 1) sc_dt.nd rfl (Or.inl rfl)) (pgs_cons (pg_name (i := 2) sc_dt.nd rfl (Or.inl rfl)) pgs_nil))))
      (pss_cons (ps_for PassesOwn.never rfl (pi_enumS (by rfl) T.enum (pa_cons (pe_ix ix_sq (pv 0) pe_int (fun _ _ => rfl)) pa_nil)) (pg_tup rfl (pgs_cons (pg_name (i := 3) sc_dt.nd rfl (Or.inr rfl)) (pgs_cons (pg_name (i := 4) sc_dt.nd rfl (Or.inl rfl)) pgs_nil)))
        (pss_cons (ps_if (pt_cmpR op_ne (pv 4) pe_int (nomark _)) (pss_one (ps_set (i := 1) sc_dt.nd rfl (Or.inl rfl) (pe_op op_add (pv 1) (pe_op op_mulX (pe_op op_mulX (pv 2) (pv 4)) (pe_def D1 hr (pa_cons (pe_lc (own := [("_law_row", 5)]) (wi := iSeq K (tSl (rSlL K) (tVar 0) (tPart (tC (.int 1))) tNoPart)) (g := gName 5) (tt := tYes)
            (te := tOp L2.rCat (tCB (rLst K) (tCons (tSl (rSlL K) (tVar 5) tNoPart (tPart (tVar 3))) tNil)) (tCB (rLst K) (tCons (tSl (rSlL K) (tVar 5) (tPart (tOp (rI0 fun i j => .int (i + j)) (tVar 3) (tC (.int 1)))) tNoPart) tNil))) rfl sc_dt.nd
            (pi_seq (pe_slice sl_list (pv 0) (po_some pe_int) po_none)) (blkOk_by (N := N_dt) (sc := defScope st_dt) (by decide +kernel)) (fun _ _ _ _ _ => pg_name (i := 5) sc_dt.nd rfl (Or.inl rfl) (Or.inr rfl)) (fun _ _ _ _ _ => pts_nil)
            (fun _ _ _ _ _ => pe_op op_cat (pe_callTy (r := rLst K) c_lst (by rfl) T.list PyProof.Rows.boot_list (pa_cons (pe_slice sl_list (pv 5) po_none (po_some (pv 3))) pa_nil)) (pe_callTy (r := rLst K) c_lst (by rfl) T.list PyProof.Rows.boot_list (pa_cons (pe_slice sl_list (pv 5) (po_some (pe_op op_add (pv 3) pe_int)) po_none) pa_nil)))) pa_nil) (by omega)))))) pss_nil)
        (pss_one (ps_set (i := 2) sc_dt.nd rfl (Or.inl rfl) (pe_op op_sub pe_int (pv 2))))))
      (pss_one (ps_ret (pv 1))))), ?_⟩
    have as1 : as.length = n + 1 := by rw [hal]; exact hS.len
    have hvl : (as.map V.ref).length = n + 1 := by rw [List.length_map, as1]
    refine r_seq (r_if (r_tt (r_op (cb1 ⟨_, rfl, a, _, rfl, .inl (.inl (.inl ha)), rfl, _, rfl, ?_⟩))))
    rw [decide_eq_false (show ¬ V.int ((as.map V.ref).length : Int) = V.int 0 from fun e => by have := V.int.inj e; omega)]
    refine iteF ?_
    refine r_next (r_nseq (r_asg (r_tup ⟨(by show 2 ≤ sizeLine; decide), fun t nt => ⟨t, _, rfl, .inl (.inl upd_same), rfl, _, _, rfl, _, _, rfl, rfl, ?_⟩⟩)))
    have s1 : Same H (upd H t (.tup [V.int 0, V.int 1])) := same_new nt
    generalize upd H t (.tup [V.int 0, V.int 1]) = H1 at s1
    have e0 : as[0]? = some (as[0]'(by omega)) := List.getElem?_eq_getElem (by omega)
    have hb := hae 0 _ e0
    generalize as[0]'(by omega) = b at e0 hb
    have er : M[0]? = some (M.getD 0 []) := by
      have : 0 < M.length := by rw [hS.len]; omega
      rw [List.getD_eq_getElem?_getD, List.getElem?_eq_getElem this]; rfl
    have lr := hS.row _ (List.mem_of_getElem? er)
    have sr := hS.small _ (List.mem_of_getElem? er)
    generalize hr0 : M.getD 0 [] = r at hb lr sr er
    have qb : ∀ H', Same H H' → SqV K H' false b (r.map V.int) := fun H' s => .inl (.inl (s _ _ hb))
    refine r_next (r_nseq ⟨_, rfl, false, a, _, (0 : Int), _, rfl, rfl, .inl (.inl (s1 _ _ ha)), ixR e0, false, b, r.map V.int, rfl, qb _ s1, ?_⟩)
    refine for_by (n + 1) (fun i σ H' => ∃ x3 x4 x5, σ = [some (.ref a), some (.int (totM n M r i)), some (.int (sgM i)), x3, x4, x5] ∧ Same H H') ⟨_, _, _, rfl, s1⟩ (fun i σ H' hi hP => ?_) (fun σ H' hP => ?_) (fun i x σ Hb Ha hi hP hy => ?_) (fun σ H' hP => ?_)
    · obtain ⟨_, _, _, rfl, s2⟩ := hP
      exact ⟨_, _, qb H' s2, List.getElem?_eq_getElem (by rw [List.length_map]; omega)⟩
    · obtain ⟨_, _, _, rfl, s2⟩ := hP
      exact ⟨_, qb H' s2, by rw [List.length_map]; omega⟩
    · obtain ⟨x3, x4, x5, rfl, s2⟩ := hP
      obtain ⟨T2, y, rfl, nT, rfl, hu⟩ := hy
      have ey := hu _ (qb Hb s2)
      have hi' : i < r.length := by omega
      rw [List.getElem?_map, List.getElem?_eq_getElem hi'] at ey
      cases ey
      have eg : r.getD i 0 = r[i] := by rw [List.getD_eq_getElem?_getD, List.getElem?_eq_getElem hi']; rfl
      have sT : Same Hb (upd Hb T2 (.tup [V.int (i : Nat), V.int r[i]])) := same_new nT
      refine ⟨T2, _, rfl, .inl (.inl upd_same), rfl, _, _, rfl, _, _, rfl, rfl, ?_⟩
      generalize upd Hb T2 (.tup [V.int (i : Nat), V.int r[i]]) = Hc at sT
      have s3 := s2.trans sT
      refine r_seq (r_ifR (fun σ' H' => σ' = [some (.ref a), some (.int (totM n M r (i + 1))), some (.int (sgM i)), some (.int (i : Nat)), some (.int r[i]), x5] ∧ Same H H') (fun b H' => H' = Hc ∧ b = decide (r[i] ≠ 0)) (fun Q' hQ => ?_) (fun H' hP hrest => ?_) (fun H' hP => ?_) (fun σ' H' hR => ?_))
      · refine r_tt (r_op ⟨_, rfl, rfl, _, rfl, hQ _ _ ⟨rfl, ?_⟩⟩)
        by_cases z : r[i] = 0
        · rw [z]; rfl
        · rw [decide_eq_true z, decide_eq_false (fun e => z (V.int.inj e))]; rfl
      · obtain ⟨rfl, hz⟩ := hP
        refine r_asg (r_op ⟨_, rfl, r_op (r_op ⟨_, rfl, _, rfl, _, _, rfl, rfl, Wd.mul (sg_big i) (sr _ (List.getElem_mem hi')), ?_⟩)⟩)
        refine a1 (tlc_call ⟨_, rfl, _, rfl, a, _, rfl, .inl (.inl (s3 _ _ ha)), fun c nc => ?_⟩)
        have sc : Same H' (upd H' c (.lst (cutV (as.map V.ref) (some 1) none))) := same_new nc
        have hc : upd H' c (.lst (cutV (as.map V.ref) (some 1) none)) c = some (.lst ((as.map V.ref).drop 1)) := by rw [upd_same, cutV_drop _ (by omega)]
        generalize upd H' c (.lst (cutV (as.map V.ref) (some 1) none)) = Hd at sc hc
        have s4 := s3.trans sc
        have dl : ((as.map V.ref).drop 1).length = n := by rw [List.length_drop, hvl]; omega
        have qc : ∀ H9, Same Hd H9 → SqV K H9 false c ((as.map V.ref).drop 1) := fun H9 s => .inl (.inl (s _ _ hc))
        have og : ∀ j, j < n → (outM M 0 i).getD j [] = cutAt i (M.getD (1 + j) []) := fun j hj => by
          have : 1 + j < M.length := by rw [hS.len]; omega
          rw [out0, List.getD_eq_getElem?_getD, List.getElem?_map, List.getElem?_drop, List.getElem?_eq_getElem this, List.getD_eq_getElem?_getD, List.getElem?_eq_getElem this]
          rfl
        refine ⟨false, c, (as.map V.ref).drop 1, rfl, qc _ (Same.refl _), ?_⟩
        refine lc_fresh (p := none) n (fun j => .lst (((outM M 0 i).getD j []).map V.int)) has_none (by omega) (fun j H5 hj s5 => its_go (qc H5 s5.same) (List.getElem?_eq_getElem (by omega))) (fun H5 s5 => its_stop (qc H5 s5.same) (by omega)) (fun j x H5 H6 C' hj s5 _ hy hC => ?_) fun Dl H9 ws nD s9 hD hwl hwE => ?_
        · obtain ⟨rfl, ex⟩ := its_yld hy (qc H5 s5.same)
          have lj : 1 + j < as.length := by omega
          have ea : as[1 + j]? = some as[1 + j] := List.getElem?_eq_getElem lj
          rw [List.getElem?_drop, List.getElem?_map, ea] at ex
          cases ex
          have hrow := hae _ _ ea
          have S5 := s4.trans s5.same
          have lrow : (M.getD (1 + j) []).length = n + 1 := by
            have : 1 + j < M.length := by rw [hS.len]; omega
            rw [List.getD_eq_getElem?_getD, List.getElem?_eq_getElem this]
            exact hS.row _ (List.getElem_mem this)
          generalize as[1 + j] = ra at hrow
          generalize hrw : M.getD (1 + j) [] = rw0 at hrow lrow
          refine ⟨rfl, _, rfl, _, rfl, _, rfl, ra, _, rfl, .inl (.inl (S5 _ _ hrow)), fun p1 np1 => ⟨p1, _, rfl, .inl (.inl (.inl upd_same)), fun l1 nl1 => ?_⟩⟩
          rw [cutV_to rw0 i (by omega)] at nl1 ⊢
          have u1 := (same_new (o := .lst ((rw0.take i).map V.int)) np1).trans (same_new (o := .lst ((rw0.take i).map V.int)) nl1)
          have y1 : upd (upd H6 p1 (.lst ((rw0.take i).map V.int))) l1 (.lst ((rw0.take i).map V.int)) l1 = some (.lst ((rw0.take i).map V.int)) := upd_same
          generalize upd (upd H6 p1 (.lst ((rw0.take i).map V.int))) l1 (.lst ((rw0.take i).map V.int)) = Hu at u1 y1
          refine ⟨_, rfl, _, rfl, _, _, rfl, rfl, _, rfl, ra, _, rfl, .inl (.inl (u1 _ _ (S5 _ _ hrow))), fun p2 np2 => ⟨p2, _, rfl, .inl (.inl (.inl upd_same)), fun l2 nl2 => ?_⟩⟩
          rw [show ((i : Nat) : Int) + 1 = ((i + 1 : Nat) : Int) by omega, cutV_from rw0 (i + 1) (by omega)] at nl2 ⊢
          have u2 := (same_new (o := .lst ((rw0.drop (i + 1)).map V.int)) np2).trans (same_new (o := .lst ((rw0.drop (i + 1)).map V.int)) nl2)
          refine ⟨l1, l2, _, _, rfl, rfl, u2 _ _ y1, upd_same, ?_, fun c2 nc2 => ?_⟩
          · refine Nat.le_trans ?_ (by decide : 1000 ≤ sizeLine)
            rw [List.length_map, List.length_map, List.length_take, List.length_drop]
            omega
          · refine hC c2 _ (RX.of (u1.trans (u2.trans (same_new nc2)))) (Same.free (u1.trans u2) nc2) ?_
            rw [upd_same, og j hj, hrw]
            unfold cutAt
            rw [List.map_append]
        · have pL : PyV H9 (.ref Dl) (lmD (outM M 0 i)) := py_lm hD (by rw [hwl, out0, List.length_map, List.length_drop, hS.len]; omega) hwE
          have hO := hS.out (Nat.zero_le n) (by omega : i ≤ n)
          refine ⟨.ref Dl, outM M 0 i, rfl, pL, by omega, hO, fun H10 s10 => ⟨_, _, rfl, rfl, Wd.mulW (sg_wid i (sr _ (List.getElem_mem hi'))) (det_wid (by omega) hO), _, _, rfl, rfl, hrest _ _ ⟨?_, s4.trans (s9.same.trans s10)⟩⟩⟩
          rw [tot_succ, eg, ← sg_cof]
          rfl
      · obtain ⟨rfl, hz⟩ := hP
        refine ⟨?_, s3⟩
        rw [tot_succ, eg, of_decide_eq_false hz.symm |> Decidable.not_not.mp]
        simp
      · obtain ⟨rfl, s4⟩ := hR
        refine n_asg (r_op ⟨_, rfl, _, _, rfl, rfl, ?_⟩)
        exact ⟨_, _, _, by rw [← sg_succ]; rfl, s4⟩
    · obtain ⟨x3, x4, x5, rfl, s2⟩ := hP
      refine r_nret ⟨_, rfl, ?_⟩
      have := q H' s2
      unfold detM at this
      rw [hr0] at this
      exact this
end
end T34
set_option Elab.async false
set_option linter.all false
set_option maxRecDepth 100000
set_option maxHeartbeats 4000000
namespace T34
open PySem PySem.Spec PyProof.Rows L2 Gd Zn Rp Dn Tb Gn En Zs Ct Op Oc Rg Rt Ro Oa
def YL (p : Option Addr) (σ : L2.St) (ta : TE) (d : PyData) : Prop := ∀ H Q, Has p H → (∀ x H1, Same H H1 → PyV (hid p H1) x d → Q x H1) → ta σ H Q
def YLs (p : Option Addr) (σ : L2.St) (ta : TA) (ds : List PyData) : Prop := ∀ (H : Hp) (Q : List V → Hp → Prop), Has p H → (∀ xs H1, Same H H1 → PyVs (hid p H1) xs ds → Q xs H1) → ta σ H Q
section
variable {p : Option Addr} {σ : L2.St}
theorem yl_int (i : Int) : YL p σ (tC (.int i)) (.int i) := fun H Q _ q => q _ _ (Same.refl H) (.int i)
theorem yl_neg (i : Int) : YL p σ (tUn (rU fun i => V.int (-i)) (tC (.int i))) (.int (-i)) := fun H Q _ q => ⟨_, rfl, q _ _ (Same.refl H) (.int _)⟩
theorem yls_nil : YLs p σ tNil [] := fun H Q _ q => q _ _ (Same.refl H) .nil
theorem yls_cons {ta : TE} {t : TA} {d : PyData} {ds : List PyData} (a : YL p σ ta d) (b : YLs p σ t ds) : YLs p σ (tCons ta t) (d :: ds) := fun H Q hp q => a H _ hp fun x H1 s1 p1 => b H1 _ (hp.to (RX.of s1)) fun xs H2 s2 p2 => q _ _ (s1.trans s2) (.cons (PyV.mono (RX.of (p := p) s2).hid p1) p2)
theorem yl_lst {t : TA} {ds : List PyData} (a : YLs p σ t ds) (l : ds.length ≤ 1000) : YL p σ (tLst t) (.list ds) := fun H Q hp q => r_lst (a H _ hp fun xs H1 s1 p1 => ⟨Nat.le_trans (by rw [pyVs_len p1]; exact l) (by decide), fun b nb => by
  have n : p ≠ some b := (hp.to (RX.of (p := p) s1)).ne nb
  refine q _ _ (s1.trans (same_new nb)) (.lst (by rw [hid_at n, upd_same]) (PyVs.mono (RX.new (p := p) nb).hid p1))⟩)
end
theorem pyVs_app {H : Hp} : ∀ {xs ys : List V} {ds es : List PyData}, PyVs H xs ds → PyVs H ys es → PyVs H (xs ++ ys) (ds ++ es)
  | [], _, [], _, .nil, b => b
  | _ :: _, _, _ :: _, _, .cons a r, b => .cons a (pyVs_app r b)
def told1 : List (List (List Int)) := [[[1]], [[-1]]]
def told2 : List (List (List Int)) := [[[0, -1], [1, 1]], [[0, 1], [1, 0]], [[1, 1], [0, 1]], [[0, -1], [1, 0]], [[-1, 0], [0, 1]], [[-1, 0], [0, -1]], [[1, 0], [0, 1]]]
def told3 : List (List (List Int)) := [[[0, 1, 0], [0, 0, 1], [1, 0, 0]], [[0, -1, 0], [1, 0, 0], [0, 0, 1]], [[-1, 0, 0], [0, 1, 0], [0, 0, 1]]] ++ [[[0, -1, 0], [1, 1, 0], [0, 0, -1]], [[1, 0, 1], [0, 1, 0], [0, 0, 1]], [[0, 1, 0], [1, 0, 0], [0, 0, -1]]] ++ [[[1, 0, 0], [0, 1, 0], [0, 0, 1]], [[-1, 0, 0], [0, -1, 0], [0, 0, -1]]]
def toldM (n : Nat) : List (List (List Int)) := if n = 1 then told1 else if n = 2 then told2 else told3
section
variable {P : Program} {w : World} {K : PySem.W.Frag} {mg : Str → Option Value} {base : Heap} {C F : Addr}
abbrev st_to : Stmt := top 41
abbrev N_to : List Str := ["_law_size", "_law_found"]
theorem sc_to : FnScope N_to ["_law_size"] (defScope st_to) := ⟨rfl, rfl, rfl, by decide +kernel, rfl, by decide +kernel, by decide +kernel⟩
def sp_to : Sp := fun vs H Q _ => ∃ (n : Nat) (p : Option Addr), vs = [.int n] ∧ Has p H ∧ 1 ≤ n ∧ n ≤ 3 ∧ ∀ D H' xs, Same H H' → H D = none → H' D = some (.lst xs) → PyVs (hid p H') xs ((toldM n).map lmD) → Q (.ref D) H'
theorem ok_to {f : Addr} {fd : FuncData} (F' : Fun K "_law_told" "_law_told" st_to f fd) (T : Txt mg) : FnOk P w K mg base CX0 1 f fd ["_law_size"] sp_to := by
  refine F'.ok sc_to (fun vs H Q E h => ?_) (fun cdv A outer s H vs Q E hr h => ?_)
  · obtain ⟨n, p, rfl, _⟩ := h
    rfl
  · obtain ⟨n, p, rfl, hp, h1, h3, q⟩ := h
    refine ⟨_, pss_cons (ps_if (pt_cmpR op_eq (pv 0) pe_int (nomark _)) (pss_one (ps_ret (pe_lst (pa_cons (pe_lst (pa_cons (pe_lst (pa_cons pe_int pa_nil)) pa_nil)) (pa_cons (pe_lst (pa_cons (pe_lst (pa_cons (pe_un un_neg pe_int) pa_nil)) pa_nil)) pa_nil))))) pss_nil)
      (pss_cons (ps_if (pt_cmpR op_eq (pv 0) pe_int (nomark _)) (pss_one (ps_ret (pe_lst (pa_cons (pe_lst (pa_cons (pe_lst (pa_cons pe_int (pa_cons (pe_un un_neg pe_int) pa_nil))) (pa_cons (pe_lst (pa_cons pe_int (pa_cons pe_int pa_nil))) pa_nil))) (pa_cons (pe_lst (pa_cons (pe_lst (pa_cons pe_int (pa_cons pe_int pa_nil))) (pa_cons (pe_lst (pa_cons pe_int (pa_cons pe_int pa_nil))) pa_nil))) (pa_cons (pe_lst (pa_cons (pe_lst (pa_cons pe_int (pa_cons pe_int pa_nil))) (pa_cons (pe_lst (pa_cons pe_int (pa_cons pe_int pa_nil))) pa_nil))) (pa_cons (pe_lst (pa_cons (pe_lst (pa_cons pe_int (pa_cons (pe_un un_neg pe_int) pa_nil))) (pa_cons (pe_lst (pa_cons pe_int (pa_cons pe_int pa_nil))) pa_nil))) (pa_cons (pe_lst (pa_cons (pe_lst (pa_cons (pe_un un_neg pe_int) (pa_cons pe_int pa_nil))) (pa_cons (pe_lst (pa_cons pe_int (pa_cons pe_int pa_nil))) pa_nil))) (pa_cons (pe_lst (pa_cons (pe_lst (pa_cons (pe_un un_neg pe_int) (pa_cons pe_int pa_nil))) (pa_cons (pe_lst (pa_cons pe_int (pa_cons (pe_un un_neg pe_int) pa_nil))) pa_nil))) (pa_cons (pe_lst (pa_cons (pe_lst (pa_cons pe_int (pa_cons pe_int pa_nil))) (pa_cons (pe_lst (pa_cons pe_int (pa_cons pe_int pa_nil))) pa_nil))) pa_nil)))))))))) pss_nil)
      (pss_cons (ps_set (i := 1) sc_to.nd rfl (Or.inl rfl) (pe_lst (pa_cons (pe_lst (pa_cons (pe_lst (pa_cons pe_int (pa_cons pe_int (pa_cons pe_int pa_nil)))) (pa_cons (pe_lst (pa_cons pe_int (pa_cons pe_int (pa_cons pe_int pa_nil)))) (pa_cons (pe_lst (pa_cons pe_int (pa_cons pe_int (pa_cons pe_int pa_nil)))) pa_nil)))) (pa_cons (pe_lst (pa_cons (pe_lst (pa_cons pe_int (pa_cons (pe_un un_neg pe_int) (pa_cons pe_int pa_nil)))) (pa_cons (pe_lst (pa_cons pe_int (pa_cons pe_int (pa_cons pe_int pa_nil)))) (pa_cons (pe_lst (pa_cons pe_int (pa_cons pe_int (pa_cons pe_int pa_nil)))) pa_nil)))) (pa_cons (pe_lst (pa_cons (pe_lst (pa_cons (pe_un un_neg pe_int) (pa_cons pe_int (pa_cons pe_int pa_nil)))) (pa_cons (pe_lst (pa_cons pe_int (pa_cons pe_int (pa_cons pe_int pa_nil)))) (pa_cons (pe_lst (pa_cons pe_int (pa_cons pe_int (pa_cons pe_int pa_nil)))) pa_nil)))) pa_nil)))))
      (pss_cons (ps_set (i := 1) sc_to.nd rfl (Or.inl rfl) (pe_op op_cat (pv 1) (pe_lst (pa_cons (pe_lst (pa_cons (pe_lst (pa_cons pe_int (pa_cons (pe_un un_neg pe_int) (pa_cons pe_int pa_nil)))) (pa_cons (pe_lst (pa_cons pe_int (pa_cons pe_int (pa_cons pe_int pa_nil)))) (pa_cons (pe_lst (pa_cons pe_int (pa_cons pe_int (pa_cons (pe_un un_neg pe_int) pa_nil)))) pa_nil)))) (pa_cons (pe_lst (pa_cons (pe_lst (pa_cons pe_int (pa_cons pe_int (pa_cons pe_int pa_nil)))) (pa_cons (pe_lst (pa_cons pe_int (pa_cons pe_int (pa_cons pe_int pa_nil)))) (pa_cons (pe_lst (pa_cons pe_int (pa_cons pe_int (pa_cons pe_int pa_nil)))) pa_nil)))) (pa_cons (pe_lst (pa_cons (pe_lst (pa_cons pe_int (pa_cons pe_int (pa_cons pe_int pa_nil)))) (pa_cons (pe_lst (pa_cons pe_int (pa_cons pe_int (pa_cons pe_int pa_nil)))) (pa_cons (pe_lst (pa_cons pe_int (pa_cons pe_int (pa_cons (pe_un un_neg pe_int) pa_nil)))) pa_nil)))) pa_nil))))))
      (pss_one (ps_ret (pe_op op_cat (pv 1) (pe_lst (pa_cons (pe_lst (pa_cons (pe_lst (pa_cons pe_int (pa_cons pe_int (pa_cons pe_int pa_nil)))) (pa_cons (pe_lst (pa_cons pe_int (pa_cons pe_int (pa_cons pe_int pa_nil)))) (pa_cons (pe_lst (pa_cons pe_int (pa_cons pe_int (pa_cons pe_int pa_nil)))) pa_nil)))) (pa_cons (pe_lst (pa_cons (pe_lst (pa_cons (pe_un un_neg pe_int) (pa_cons pe_int (pa_cons pe_int pa_nil)))) (pa_cons (pe_lst (pa_cons pe_int (pa_cons (pe_un un_neg pe_int) (pa_cons pe_int pa_nil)))) (pa_cons (pe_lst (pa_cons pe_int (pa_cons pe_int (pa_cons (pe_un un_neg pe_int) pa_nil)))) pa_nil)))) pa_nil))))))))), ?_⟩
    have y1 : ∀ σ, YLs p σ _ (told1.map lmD) := fun σ => (yls_cons (yl_lst (yls_cons (yl_lst (yls_cons (yl_int _) yls_nil) (by decide)) yls_nil) (by decide)) (yls_cons (yl_lst (yls_cons (yl_lst (yls_cons (yl_neg _) yls_nil) (by decide)) yls_nil) (by decide)) yls_nil))
    have y2 : ∀ σ, YLs p σ _ (told2.map lmD) := fun σ => (yls_cons (yl_lst (yls_cons (yl_lst (yls_cons (yl_int _) (yls_cons (yl_neg _) yls_nil)) (by decide)) (yls_cons (yl_lst (yls_cons (yl_int _) (yls_cons (yl_int _) yls_nil)) (by decide)) yls_nil)) (by decide)) (yls_cons (yl_lst (yls_cons (yl_lst (yls_cons (yl_int _) (yls_cons (yl_int _) yls_nil)) (by decide)) (yls_cons (yl_lst (yls_cons (yl_int _) (yls_cons (yl_int _) yls_nil)) (by decide)) yls_nil)) (by decide)) (yls_cons (yl_lst (yls_cons (yl_lst (yls_cons (yl_int _) (yls_cons (yl_int _) yls_nil)) (by decide)) (yls_cons (yl_lst (yls_cons (yl_int _) (yls_cons (yl_int _) yls_nil)) (by decide)) yls_nil)) (by decide)) (yls_cons (yl_lst (yls_cons (yl_lst (yls_cons (yl_int _) (yls_cons (yl_neg _) yls_nil)) (by decide)) (yls_cons (yl_lst (yls_cons (yl_int _) (yls_cons (yl_int _) yls_nil)) (by decide)) yls_nil)) (by decide)) (yls_cons (yl_lst (yls_cons (yl_lst (yls_cons (yl_neg _) (yls_cons (yl_int _) yls_nil)) (by decide)) (yls_cons (yl_lst (yls_cons (yl_int _) (yls_cons (yl_int _) yls_nil)) (by decide)) yls_nil)) (by decide)) (yls_cons (yl_lst (yls_cons (yl_lst (yls_cons (yl_neg _) (yls_cons (yl_int _) yls_nil)) (by decide)) (yls_cons (yl_lst (yls_cons (yl_int _) (yls_cons (yl_neg _) yls_nil)) (by decide)) yls_nil)) (by decide)) (yls_cons (yl_lst (yls_cons (yl_lst (yls_cons (yl_int _) (yls_cons (yl_int _) yls_nil)) (by decide)) (yls_cons (yl_lst (yls_cons (yl_int _) (yls_cons (yl_int _) yls_nil)) (by decide)) yls_nil)) (by decide)) yls_nil)))))))
    have y3 : ∀ σ, YLs p σ _ (([[[0, 1, 0], [0, 0, 1], [1, 0, 0]], [[0, -1, 0], [1, 0, 0], [0, 0, 1]], [[-1, 0, 0], [0, 1, 0], [0, 0, 1]]] : List (List (List Int))).map lmD) := fun σ => (yls_cons (yl_lst (yls_cons (yl_lst (yls_cons (yl_int _) (yls_cons (yl_int _) (yls_cons (yl_int _) yls_nil))) (by decide)) (yls_cons (yl_lst (yls_cons (yl_int _) (yls_cons (yl_int _) (yls_cons (yl_int _) yls_nil))) (by decide)) (yls_cons (yl_lst (yls_cons (yl_int _) (yls_cons (yl_int _) (yls_cons (yl_int _) yls_nil))) (by decide)) yls_nil))) (by decide)) (yls_cons (yl_lst (yls_cons (yl_lst (yls_cons (yl_int _) (yls_cons (yl_neg _) (yls_cons (yl_int _) yls_nil))) (by decide)) (yls_cons (yl_lst (yls_cons (yl_int _) (yls_cons (yl_int _) (yls_cons (yl_int _) yls_nil))) (by decide)) (yls_cons (yl_lst (yls_cons (yl_int _) (yls_cons (yl_int _) (yls_cons (yl_int _) yls_nil))) (by decide)) yls_nil))) (by decide)) (yls_cons (yl_lst (yls_cons (yl_lst (yls_cons (yl_neg _) (yls_cons (yl_int _) (yls_cons (yl_int _) yls_nil))) (by decide)) (yls_cons (yl_lst (yls_cons (yl_int _) (yls_cons (yl_int _) (yls_cons (yl_int _) yls_nil))) (by decide)) (yls_cons (yl_lst (yls_cons (yl_int _) (yls_cons (yl_int _) (yls_cons (yl_int _) yls_nil))) (by decide)) yls_nil))) (by decide)) yls_nil)))
    have y4 : ∀ σ, YLs p σ _ (([[[0, -1, 0], [1, 1, 0], [0, 0, -1]], [[1, 0, 1], [0, 1, 0], [0, 0, 1]], [[0, 1, 0], [1, 0, 0], [0, 0, -1]]] : List (List (List Int))).map lmD) := fun σ => (yls_cons (yl_lst (yls_cons (yl_lst (yls_cons (yl_int _) (yls_cons (yl_neg _) (yls_cons (yl_int _) yls_nil))) (by decide)) (yls_cons (yl_lst (yls_cons (yl_int _) (yls_cons (yl_int _) (yls_cons (yl_int _) yls_nil))) (by decide)) (yls_cons (yl_lst (yls_cons (yl_int _) (yls_cons (yl_int _) (yls_cons (yl_neg _) yls_nil))) (by decide)) yls_nil))) (by decide)) (yls_cons (yl_lst (yls_cons (yl_lst (yls_cons (yl_int _) (yls_cons (yl_int _) (yls_cons (yl_int _) yls_nil))) (by decide)) (yls_cons (yl_lst (yls_cons (yl_int _) (yls_cons (yl_int _) (yls_cons (yl_int _) yls_nil))) (by decide)) (yls_cons (yl_lst (yls_cons (yl_int _) (yls_cons (yl_int _) (yls_cons (yl_int _) yls_nil))) (by decide)) yls_nil))) (by decide)) (yls_cons (yl_lst (yls_cons (yl_lst (yls_cons (yl_int _) (yls_cons (yl_int _) (yls_cons (yl_int _) yls_nil))) (by decide)) (yls_cons (yl_lst (yls_cons (yl_int _) (yls_cons (yl_int _) (yls_cons (yl_int _) yls_nil))) (by decide)) (yls_cons (yl_lst (yls_cons (yl_int _) (yls_cons (yl_int _) (yls_cons (yl_neg _) yls_nil))) (by decide)) yls_nil))) (by decide)) yls_nil)))
    have y5 : ∀ σ, YLs p σ _ (([[[1, 0, 0], [0, 1, 0], [0, 0, 1]], [[-1, 0, 0], [0, -1, 0], [0, 0, -1]]] : List (List (List Int))).map lmD) := fun σ => (yls_cons (yl_lst (yls_cons (yl_lst (yls_cons (yl_int _) (yls_cons (yl_int _) (yls_cons (yl_int _) yls_nil))) (by decide)) (yls_cons (yl_lst (yls_cons (yl_int _) (yls_cons (yl_int _) (yls_cons (yl_int _) yls_nil))) (by decide)) (yls_cons (yl_lst (yls_cons (yl_int _) (yls_cons (yl_int _) (yls_cons (yl_int _) yls_nil))) (by decide)) yls_nil))) (by decide)) (yls_cons (yl_lst (yls_cons (yl_lst (yls_cons (yl_neg _) (yls_cons (yl_int _) (yls_cons (yl_int _) yls_nil))) (by decide)) (yls_cons (yl_lst (yls_cons (yl_int _) (yls_cons (yl_neg _) (yls_cons (yl_int _) yls_nil))) (by decide)) (yls_cons (yl_lst (yls_cons (yl_int _) (yls_cons (yl_int _) (yls_cons (yl_neg _) yls_nil))) (by decide)) yls_nil))) (by decide)) yls_nil))
    have sz : ∀ k : Nat, k ≤ 1000 → k ≤ sizeLine := fun k h => Nat.le_trans h (by decide)
    have : n = 1 ∨ n = 2 ∨ n = 3 := by omega
    rcases this with rfl | rfl | rfl
    · refine r_seq (r_if (r_tt (r_op ⟨_, rfl, rfl, _, rfl, iteT (r_ret (r_lst (y1 _ H _ hp fun xs H1 s1 p1 => ⟨sz _ (by rw [pyVs_len p1]; decide), fun b nb => ?_⟩)))⟩)))
      exact q b _ xs (s1.trans (same_new nb)) (Same.free s1 nb) upd_same (PyVs.mono (RX.new (p := p) nb).hid p1)
    · refine r_seq (r_if (r_tt (r_op ⟨_, rfl, rfl, _, rfl, iteF (r_next (r_nseq (r_if (r_tt (r_op ⟨_, rfl, rfl, _, rfl, iteT (r_ret (r_lst (y2 _ H _ hp fun xs H1 s1 p1 => ⟨sz _ (by rw [pyVs_len p1]; decide), fun b nb => ?_⟩)))⟩)))))⟩)))
      exact q b _ xs (s1.trans (same_new nb)) (Same.free s1 nb) upd_same (PyVs.mono (RX.new (p := p) nb).hid p1)
    · refine r_seq (r_if (r_tt (r_op ⟨_, rfl, rfl, _, rfl, iteF (r_next (r_nseq (r_if (r_tt (r_op ⟨_, rfl, rfl, _, rfl, iteF ?_⟩)))))⟩)))
      refine r_next (r_nseq (r_asg (r_lst (y3 _ H _ hp fun xs H1 s1 p1 => ⟨sz _ (by rw [pyVs_len p1]; decide), fun b nb => ?_⟩))))
      have s2 := s1.trans (same_new (o := .lst xs) nb)
      have hb : upd H1 b (.lst xs) b = some (.lst xs) := upd_same
      have p2 := PyVs.mono (RX.new (p := p) (o := .lst xs) nb).hid p1
      generalize upd H1 b (.lst xs) = H2 at s2 hb p2
      refine r_next (r_nseq (r_asg (r_op ⟨_, rfl, r_lst (y4 _ H2 _ (hp.to (RX.of s2)) fun ys H3 s3 p3 => ⟨sz _ (by rw [pyVs_len p3]; decide), fun c nc => ?_⟩)⟩)))
      have s4 := s3.trans (same_new (o := .lst ys) nc)
      have hc : upd H3 c (.lst ys) c = some (.lst ys) := upd_same
      have p4 := PyVs.mono (RX.new (p := p) (o := .lst ys) nc).hid p3
      generalize upd H3 c (.lst ys) = H4 at s4 hc p4
      refine ⟨b, c, xs, ys, rfl, rfl, s4 _ _ hb, hc, sz _ (by rw [pyVs_len p1, pyVs_len p3]; decide), fun d nd => ?_⟩
      have s5 : Same H4 (upd H4 d (.lst (xs ++ ys))) := same_new nd
      have hd : upd H4 d (.lst (xs ++ ys)) d = some (.lst (xs ++ ys)) := upd_same
      have p5 := PyVs.mono (RX.of (p := p) s5).hid (pyVs_app (PyVs.mono (RX.of (p := p) s4).hid p2) p4)
      generalize upd H4 d (.lst (xs ++ ys)) = H5 at s5 hd p5
      have S5 := s2.trans (s4.trans s5)
      refine r_next (r_nret (r_op ⟨_, rfl, r_lst (y5 _ H5 _ (hp.to (RX.of S5)) fun zs H6 s6 p6 => ⟨sz _ (by rw [pyVs_len p6]; decide), fun e ne => ?_⟩)⟩))
      have s7 := s6.trans (same_new (o := .lst zs) ne)
      have he : upd H6 e (.lst zs) e = some (.lst zs) := upd_same
      have p7 := PyVs.mono (RX.new (p := p) (o := .lst zs) ne).hid p6
      generalize upd H6 e (.lst zs) = H7 at s7 he p7
      refine ⟨d, e, xs ++ ys, zs, rfl, rfl, s7 _ _ hd, he, sz _ (by rw [List.length_append, pyVs_len p1, pyVs_len p3, pyVs_len p6]; decide), fun g ng => ?_⟩
      exact q g _ _ (S5.trans (s7.trans (same_new ng))) (Same.free (S5.trans s7) ng) upd_same (PyVs.mono (RX.new (p := p) ng).hid (pyVs_app (PyVs.mono (RX.of (p := p) s7).hid p5) p7))
end
end T34
set_option Elab.async false
set_option linter.all false
set_option maxRecDepth 100000
set_option maxHeartbeats 4000000
namespace T34
open PySem PySem.Spec PyProof.Rows L2 Gd Zn Rp Dn Tb Gn En Zs Ct Op Oc Rg Rt Ro Oa
theorem told_ok {n : Nat} (h1 : 1 ≤ n) (h3 : n ≤ 3) : ∀ S ∈ toldM n, Gr n S ∧ SqE n 1 S := by
  have k : ∀ S ∈ toldM n, (S.length = n ∧ (∀ r ∈ S, r.length = n)) ∧ (∀ r ∈ S, ∀ x ∈ r, x.natAbs < 2 ^ 1) := by
    have : n = 1 ∨ n = 2 ∨ n = 3 := by omega
    rcases this with rfl | rfl | rfl <;> decide +kernel
  have d : ∀ S ∈ toldM n, detM n S = 1 ∨ detM n S = -1 := by
    have : n = 1 ∨ n = 2 ∨ n = 3 := by omega
    rcases this with rfl | rfl | rfl
    · intro S hS
      simp only [toldM, told1, if_pos, List.mem_cons, List.not_mem_nil, or_false] at hS
      rcases hS with rfl | rfl <;> rw [det1] <;> decide
    · intro S hS
      have hS : S ∈ told2 := hS
      simp only [told2, List.mem_cons, List.not_mem_nil, or_false] at hS
      rcases hS with rfl | rfl | rfl | rfl | rfl | rfl | rfl <;> rw [det2] <;> decide
    · intro S hS
      have hS : S ∈ told3 := hS
      simp only [told3, List.cons_append, List.nil_append, List.mem_cons, List.not_mem_nil, or_false] at hS
      rcases hS with rfl | rfl | rfl | rfl | rfl | rfl | rfl | rfl <;> rw [det3] <;> decide
  intro S hS
  obtain ⟨⟨a, b⟩, c⟩ := k S hS
  exact ⟨⟨h1, h3, ⟨a, b⟩, d S hS⟩, ⟨a, b, c⟩⟩
theorem told_len {n : Nat} (h1 : 1 ≤ n) (h3 : n ≤ 3) : 0 < (toldM n).length ∧ (toldM n).length < 1000 := by
  have : n = 1 ∨ n = 2 ∨ n = 3 := by omega
  rcases this with rfl | rfl | rfl <;> decide
section
variable {P : Program} {w : World} {K : PySem.W.Frag} {mg : Str → Option Value} {base : Heap} {C F : Addr}
abbrev st_tb : Stmt := top 44
abbrev N_tb : List Str := ["_law_pot_here", "_law_size", "_law_one"]
theorem sc_tb : FnScope N_tb ["_law_pot_here", "_law_size"] (defScope st_tb) := ⟨rfl, rfl, rfl, by decide +kernel, rfl, by decide +kernel, by decide +kernel⟩
def sp_tb : Sp := fun vs H Q _ => ∃ (p : Addr) (n : Nat), vs = [.ref p, .int n] ∧ PotOk H p ∧ 1 ≤ n ∧ n ≤ 3 ∧ ∀ x H' S, RX (some p) H H' → PyV (hid (some p) H') x (lmD S) → Gr n S → SqE n 4 S → Q x H'
theorem pick_told {H : Hp} {p : Addr} {n : Nat} {σ : L2.St} {Q : VK} {i j : Nat} (e0 : σ[i]? = some (some (.ref p))) (e1 : σ[j]? = some (some (.int (n : Int)))) (hp : PotOk H p) (h1 : 1 ≤ n) (h3 : n ≤ 3) (q : ∀ x H' S, RX (some p) H H' → PyV (hid (some p) H') x (lmD S) → Gr n S → SqE n 1 S → Q x H') :
    tCall sp_pick [] E0 (tCons (tVar i) (tCons (tCall sp_to [] E0 (tCons (tVar j) tNil)) tNil)) σ H Q := by
  have hh : Has (some p) H := fun q e => by cases e; exact hp
  refine a2 ⟨_, e0, a1 ⟨_, e1, n, some p, rfl, hh, h1, h3, fun D H1 xs s1 nD hD pD => ?_⟩⟩
  have tl := told_len h1 h3
  have lx : xs.length = (toldM n).length := by rw [pyVs_len pD, List.length_map]
  refine ⟨p, D, xs, rfl, (RX.of (p := some p) s1).pot p rfl hp, hD, fun z => by subst z; exact hp.some_ nD, by omega, by omega, fun k x H2 ex s2 => ?_⟩
  obtain ⟨d, ed, pd⟩ := pyVs_get pD ex
  rw [List.getElem?_map] at ed
  obtain ⟨S, eS, rfl⟩ := Option.map_eq_some_iff.mp ed
  have ok := told_ok h1 h3 S (List.mem_of_getElem? eS)
  exact q x H2 S ((RX.of s1).trans s2) (py_rx pd s2) ok.1 ok.2
theorem ok_tb {f : Addr} {fd : FuncData} (F' : Fun K "_law_table" "_law_table" st_tb f fd) (T : Txt mg) (D1 : Def P w K mg base "_law_draw" 1 ["_law_pot_here", "_law_many"] sp_draw) (D2 : Def P w K mg base "_law_pick" 2 ["_law_pot_here", "_law_some"] sp_pick) (D3 : Def P w K mg base "_law_told" 1 ["_law_size"] sp_to)
    (D4 : Def P w K mg base "_law_times" 1 ["_law_one", "_law_other"] sp_tm) : FnOk P w K mg base CX0 3 f fd ["_law_pot_here", "_law_size"] sp_tb := by
  refine F'.ok sc_tb (fun vs H Q E h => ?_) (fun cdv A outer s H vs Q E hr h => ?_)
  · obtain ⟨p, n, rfl, _⟩ := h
    rfl
  · obtain ⟨p, n, rfl, hp, h1, h3, q⟩ := h
    refine ⟨_, pss_cons (ps_set (i := 2) sc_tb.nd rfl (Or.inl rfl) (pe_def D2 hr (pa_cons (pv 0) (pa_cons (pe_def D3 hr (pa_cons (pv 1) pa_nil)) pa_nil))))
      (pss_one (ps_ret (pe_ifExp (pt_cmpR op_eq (pe_def D1 hr (pa_cons (pv 0) (pa_cons pe_int pa_nil))) pe_int (nomark _)) (pv 2) (pe_def D4 hr (pa_cons (pv 2) (pa_cons (pe_def D2 hr (pa_cons (pv 0) (pa_cons (pe_def D3 hr (pa_cons (pv 1) pa_nil)) pa_nil))) pa_nil)))))), ?_⟩
    refine r_seq (r_asg (pick_told rfl rfl hp h1 h3 fun x H1 S s1 pS gS eS => ?_))
    have hp1 := s1.pot p rfl hp
    refine r_next (r_nret ⟨_, rfl, p, 2, rfl, hp1, by decide, by decide, fun r H2 r0 r1 s2 => ⟨rfl, _, rfl, ?_⟩⟩)
    have pS2 := py_rx pS s2
    have s02 := s1.trans s2
    have hp2 := s02.pot p rfl hp
    by_cases z : r = 0
    · rw [decide_eq_true (congrArg V.int z)]
      exact iteT ⟨_, rfl, q x H2 S s02 pS2 gS (eS.mono (by decide))⟩
    · rw [decide_eq_false (fun e => z (V.int.inj e))]
      refine iteF (a2 ⟨_, rfl, pick_told rfl rfl hp2 h1 h3 fun y H3 U s3 pU gU eU => ?_⟩)
      have hp3 := s3.pot p rfl hp2
      exact ⟨x, y, S, U, n, 1, 1, rfl, py_un (py_rx pS2 s3), py_un pU, h1, h3, eS, eU, by decide, by decide, fun D H4 s4 nM => q (.ref D) H4 _ (s02.trans (s3.trans (RX.of s4))) (nM.hid p hp3.some_) (gS.mul gU) (eS.mul eU h1 h3)⟩
abbrev st_pl : Stmt := top 47
theorem sc_pl : FnScope ["_law_size"] ["_law_size"] (defScope st_pl) := ⟨rfl, rfl, rfl, by decide +kernel, rfl, by decide +kernel, by decide +kernel⟩
def plN (n : Nat) : Nat := if n = 1 then 1 else if n = 2 then 3 else 6
def sp_pl : Sp := fun vs H Q _ => ∃ n : Nat, vs = [.int n] ∧ 1 ≤ n ∧ n ≤ 3 ∧ Q (.int (plN n : Nat)) H
theorem ok_pl {f : Addr} {fd : FuncData} (F' : Fun K "_law_places" "_law_places" st_pl f fd) : FnOk P w K mg base CX0 1 f fd ["_law_size"] sp_pl := by
  refine F'.ok sc_pl (fun vs H Q E h => ?_) (fun cdv A outer s H vs Q E hr h => ?_)
  · obtain ⟨n, rfl, _⟩ := h
    rfl
  · obtain ⟨n, rfl, h1, h3, q⟩ := h
    refine ⟨_, pss_one (ps_ret (pe_op op_fdiv (pe_op op_mul (pv 0) (pe_op op_add (pv 0) pe_int)) pe_int)), ?_⟩
    refine r_ret (r_op (r_op ⟨_, rfl, _, rfl, _, _, rfl, rfl, _, _, rfl, rfl, .inl ⟨by omega, by omega⟩, _, _, rfl, rfl, ⟨by decide, by decide⟩, ?_⟩))
    have : n = 1 ∨ n = 2 ∨ n = 3 := by omega
    rcases this with rfl | rfl | rfl <;> exact q
end
end T34
set_option Elab.async false
set_option linter.all false
set_option maxRecDepth 100000
set_option maxHeartbeats 4000000
namespace T34
open PySem PySem.Spec PyProof.Rows L2 Gd Zn Rp Dn Tb Gn En Zs Ct Op Oc Rg Rt Ro Oa
def offs (n i : Nat) : Nat := if i = 0 then 0 else if i = 1 then n else 2 * n - 1
theorem offs_lt {n i j : Nat} (h1 : 1 ≤ n) (h3 : n ≤ 3) (hi : i < n) (hj : j < n - i) : offs n i + j < plN n := by
  unfold offs plN
  split <;> (try split) <;> (try split) <;> (try split) <;> omega
theorem offs_succ {n i : Nat} (h3 : n ≤ 3) (hi : i + 1 < n) : offs n i + (n - i) = offs n (i + 1) := by
  unfold offs
  have : i = 0 ∨ i = 1 := by omega
  rcases this with rfl | rfl
  · rw [if_pos rfl, if_neg (by decide), if_pos rfl]; omega
  · rw [if_neg (by decide), if_pos rfl, if_neg (by decide), if_neg (by decide)]; omega
section
variable {P : Program} {w : World} {K : PySem.W.Frag} {mg : Str → Option Value} {base : Heap} {C F : Addr}
abbrev st_fm : Stmt := top 46
abbrev N_fm : List Str := ["_law_numbers", "_law_size", "_law_found", "_law_at", "_law_near", "_law_far"]
theorem sc_fm : FnScope N_fm ["_law_numbers", "_law_size"] (defScope st_fm) := ⟨rfl, rfl, rfl, by decide +kernel, rfl, by decide +kernel, by decide +kernel⟩
def sp_fm : Sp := fun vs H Q _ => ∃ (c : Addr) (n m : Nat) (ns : List Int), vs = [.ref c, .int n] ∧ H c = some (.lst (ns.map V.int)) ∧ 1 ≤ n ∧ n ≤ 3 ∧ ns.length = plN n ∧ (∀ x ∈ ns, -(m : Int) ≤ x ∧ x ≤ m) ∧ ∀ D H' M, Same H H' → NewM H H' D M → SqB n m M → transp n M = M → Q (.ref D) H'
theorem ok_fm {f : Addr} {fd : FuncData} (F' : Fun K "_law_form" "_law_form" st_fm f fd) (T : Txt mg) : FnOk P w K mg base CX0 1 f fd ["_law_numbers", "_law_size"] sp_fm := by
  refine F'.ok sc_fm (fun vs H Q E h => ?_) (fun cdv A outer s H vs Q E hr h => ?_)
  · obtain ⟨c, n, m, ns, rfl, _⟩ := h
    rfl
  · obtain ⟨c, n, m, ns, rfl, hc, h1, h3, ln, bn, q⟩ := h
    refine ⟨_, pss_cons (ps_par (i := 2) (j := 3) rfl sc_fm.nd rfl rfl (by decide) rfl rfl (pa_cons (pe_lc (own := [("_law_near", 4)]) (g := gName 4) (tt := tYes) rfl sc_fm.nd (pi_range1 (by rfl) T.range (pa_cons (pv 1) pa_nil))
        (blkOk_by (N := N_fm) (sc := defScope st_fm) (by decide +kernel)) (fun _ _ _ _ _ => pg_name (i := 4) sc_fm.nd rfl (Or.inl rfl) (Or.inr rfl)) (fun _ _ _ _ _ => pts_nil)
        (fun _ _ _ _ _ => pe_op op_rep (pe_lst (pa_cons pe_int pa_nil)) (pv 1))) (pa_cons pe_int pa_nil)) (by rfl))
      (pss_cons (ps_for PassesOwn.never rfl (pi_range1 (by rfl) T.range (pa_cons (pv 1) pa_nil)) (pg_name (i := 4) sc_fm.nd rfl (Or.inl rfl))
        (pss_one (ps_for PassesOwn.never rfl (pi_range2 (by rfl) T.range (pa_cons (pv 4) (pa_cons (pv 1) pa_nil))) (pg_name (i := 5) sc_fm.nd rfl (Or.inl rfl))
          (pss_cons (ps_asg (pe_ix ix_sq (pv 0) (pv 3) (fun _ _ => rfl)) (pg_sub (pe_ix ix_sq (pv 2) (pv 4) (fun _ _ => rfl)) (pv 5) set_list))
          (pss_cons (ps_asg (pe_ix ix_sq (pv 0) (pv 3) (fun _ _ => rfl)) (pg_sub (pe_ix ix_sq (pv 2) (pv 5) (fun _ _ => rfl)) (pv 4) set_list))
          (pss_one (ps_set (i := 3) sc_fm.nd rfl (Or.inl rfl) (pe_op op_add (pv 3) pe_int))))))))
      (pss_one (ps_ret (pv 2)))), ?_⟩
    refine r_seq (r_par2 (r_cons (tlc_call ?_)))
    refine ⟨_, rfl, (n : Int), rfl, by omega, by omega, ?_⟩
    rw [Int.toNat_natCast]
    refine lc_new (p := none) n (fun i o => o = .lst ((List.replicate n (0 : Int)).map V.int)) has_none (by omega) (fun i H2 hi s2 => hi) (fun H2 s2 => Nat.le_refl _) (fun i x H2 H3 C' hi s2 hp2 hy hC => ?_) fun Da H2 bs nD s2 hD hl nd nDb fr hE => ?_
    · obtain ⟨rfl, rfl⟩ := hy
      refine ⟨rfl, r_op (r_lst ⟨(by show 1 ≤ sizeLine; decide), fun l nl => ?_⟩)⟩
      have s5 : Same H3 (upd H3 l (.lst [V.int 0])) := same_new nl
      refine ⟨_, rfl, l, _, [V.int 0], rfl, rfl, upd_same, by omega, by omega, ?_, fun c nc => ?_⟩
      · rw [Int.toNat_natCast]
        exact Nat.le_trans (by simp; omega : _ ≤ 100) (by decide)
      · have nc2 := Same.free s5 nc
        refine hC c _ _ ((RX.of s5).trans (RX.new nc)) nc2 upd_same ?_
        rw [Int.toNat_natCast]
        show HO.lst (List.replicate n [V.int 0]).flatten = _
        rw [rep_flat, List.map_replicate]
    · have hL : LL H2 Da bs (zeroM n) := ⟨hD, by rw [hl]; exact (zero_sqB n 0 (by decide)).len.symm, fun i b e => by
        obtain ⟨o, e1, e2⟩ := hE i b e
        have hi : i < n := by rw [← hl]; exact (List.getElem?_eq_some_iff.mp e).1
        rw [e1, e2, zero_getD hi], nd, nDb⟩
      have frA : ∀ b ∈ Da :: bs, H b = none := fun b hb => by
        rcases List.mem_cons.mp hb with rfl | hb
        · exact nD
        · exact fr b hb
      refine r_cons ⟨_, _, rfl, ?_⟩
      refine r_next (r_nseq ?_)
      refine ⟨_, rfl, (n : Int), rfl, by omega, by omega, ?_⟩
      rw [Int.toNat_natCast]
      refine for_range (lo := 0) (n := n) (fun i σ H' => ∃ x3 x4 x5 M, σ = [some (.ref c), some (.int n), some (.ref Da), some (.int x3), x4, x5] ∧ (i < n → x3 = (offs n i : Nat)) ∧ RX none H H' ∧ LL H' Da bs M ∧ SqB n m M ∧ Sym n M) ⟨_, _, _, _, rfl, fun _ => rfl, s2, hL, zero_sqB n m (by omega), zero_sym n⟩ (fun i σ H' hi hP => ?_) (fun σ H' hP => ?_)
      · obtain ⟨x3, x4, x5, M, rfl, h3', s3, hM, hB, hS⟩ := hP
        have e3 := h3' hi
        subst e3
        rw [show (0 : Int) + (i : Int) = (i : Int) by omega]
        refine ⟨_, rfl, _, rfl, (i : Int), (n : Int), rfl, ⟨by omega, by omega, by omega, by omega⟩, ?_⟩
        refine for_range (lo := (i : Int)) (n := ((n : Int) - (i : Int)).toNat) (fun j σ H' => ∃ x5 M, σ = [some (.ref c), some (.int n), some (.ref Da), some (.int ((offs n i + j : Nat) : Int)), some (.int (i : Nat)), x5] ∧ RX none H H' ∧ LL H' Da bs M ∧ SqB n m M ∧ Sym n M) ⟨x5, M, rfl, s3, hM, hB, hS⟩ (fun j σ H' hj hP => ?_) (fun σ H' hP => ?_)
        · obtain ⟨x5, M, rfl, s4, hM5, hB4, hS4⟩ := hP
          obtain ⟨k, ek, hk⟩ : ∃ k : Nat, (i : Int) + (j : Int) = (k : Int) ∧ k < n := ⟨i + j, by omega, by omega⟩
          rw [ek]
          have bi : bs[i]? = some (bs[i]'(by omega)) := List.getElem?_eq_getElem _
          have bk : bs[k]? = some (bs[k]'(by omega)) := List.getElem?_eq_getElem _
          have lo := offs_lt h1 h3 hi (by omega : j < n - i)
          have lo' : offs n i + j < ns.length := by rw [ln]; exact lo
          have nb := bn _ (List.getElem_mem lo')
          have gx : ns.getD (offs n i + j) 0 = ns[offs n i + j] := by rw [List.getD_eq_getElem?_getD, List.getElem?_eq_getElem lo']; rfl
          have lr : (M.getD i []).length = n := getD_row hB4.sh hi
          have hri := hM5.row i _ bi
          refine r_seq (r_asg ⟨_, rfl, _, rfl, false, c, _, _, _, rfl, rfl, .inl (.inl (s4.same _ _ hc)), ixL lo', ?_⟩)
          rw [gx]
          refine ⟨_, rfl, _, rfl, false, Da, _, _, _, rfl, rfl, .inl (.inl hM5.top), ixR bi, _, rfl, _, _, _, k, rfl, rfl, hri, ixN_at (by rw [List.length_map]; omega), ?_⟩
          have hM6 := hM5.put (j := k) bi (ns[offs n i + j])
          have hB6 : SqB n m (setIJ M i k (ns[offs n i + j])) := hB4.setIJ hi nb
          have s6 : RX none H (upd H' (bs[i]'(by omega)) (.lst (((M.getD i []).map V.int).set k (.int (ns[offs n i + j]))))) := s4.mut (frA _ (List.mem_cons_of_mem _ (List.getElem_mem _))) has_none
          generalize upd H' (bs[i]'(by omega)) (.lst (((M.getD i []).map V.int).set k (.int (ns[offs n i + j])))) = H6 at hM6 s6
          have hrk6 := hM6.row k _ bk
          have lk6 : ((setIJ M i k (ns[offs n i + j])).getD k []).length = n := getD_row hB6.sh hk
          refine r_next (r_nseq (r_asg ⟨_, rfl, _, rfl, false, c, _, _, _, rfl, rfl, .inl (.inl (s6.same _ _ hc)), ixL lo', ?_⟩))
          rw [gx]
          refine ⟨_, rfl, _, rfl, false, Da, _, _, _, rfl, rfl, .inl (.inl hM6.top), ixR bk, _, rfl, _, _, _, i, rfl, rfl, hrk6, ixN_at (by rw [List.length_map]; omega), ?_⟩
          have hM7 := hM6.put (j := i) bk (ns[offs n i + j])
          have s7 := s6.mut (o := .lst ((((setIJ M i k (ns[offs n i + j])).getD k []).map V.int).set i (.int (ns[offs n i + j])))) (frA _ (List.mem_cons_of_mem _ (List.getElem_mem (by omega : k < bs.length)))) has_none
          refine r_next (n_asg (r_op ⟨_, rfl, _, _, rfl, rfl, ?_⟩))
          exact ⟨_, _, rfl, s7, hM7, hB6.setIJ hk nb, hS4.put hB4.sh hi hk _⟩
        · obtain ⟨x5, M, rfl, s4, hM4, hB4, hS4⟩ := hP
          refine ⟨_, _, _, M, rfl, fun hi' => ?_, s4, hM4, hB4, hS4⟩
          have := offs_succ h3 hi'
          omega
      · obtain ⟨x3, x4, x5, M, rfl, _, s3, hM, hB, hS⟩ := hP
        refine ⟨_, rfl, q Da H' M s3.same (newM nD hM.top (by rw [List.length_map]; exact hM.len) fun i v e => ?_) hB (hS.tr hB.sh h1 h3)⟩
        rw [List.getElem?_map] at e
        obtain ⟨b, eb, rfl⟩ := Option.map_eq_some_iff.mp e
        exact ⟨b, rfl, hM.row i b eb, fr b (List.mem_of_getElem? eb)⟩
end
end T34
set_option Elab.async false
set_option linter.all false
set_option maxRecDepth 100000
set_option maxHeartbeats 4000000
namespace T34
open PySem PySem.Spec PyProof.Rows L2 Gd Zn Rp Dn Tb Gn En Zs Ct Op Oc Rg Rt Ro Oa
theorem ints_El {xs : List V} {R : Int → Prop} (h : ∀ (i : Nat) v, xs[i]? = some v → ∃ x : Int, v = .int x ∧ R x) : ∃ zs : List Int, xs = zs.map V.int ∧ ∀ x ∈ zs, R x := by
  induction xs with
  | nil => exact ⟨[], rfl, fun x hx => by cases hx⟩
  | cons r rs ih =>
    obtain ⟨x, rfl, hb⟩ := h 0 r rfl
    obtain ⟨zs, rfl, hbs⟩ := ih fun i v e => h (i + 1) v e
    refine ⟨x :: zs, rfl, fun y hy => ?_⟩
    rcases List.mem_cons.mp hy with rfl | hy
    · exact hb
    · exact hbs y hy
theorem pl_le {n : Nat} : 1 ≤ plN n ∧ plN n ≤ 6 := by
  unfold plN
  split <;> (try split) <;> omega
theorem eqv_rowsL : ∀ (M N : List (List Int)), PyData.eqvAll (M.map fun r => .list (iD r)) (N.map fun r => .list (iD r)) = decide (M = N)
  | [], [] => by simp [PyData.eqvAll]
  | [], _ :: _ => by simp [PyData.eqvAll]
  | _ :: _, [] => by simp [PyData.eqvAll]
  | x :: r, y :: t => by
    rw [List.map_cons, List.map_cons, PyData.eqvAll, eqv_rowsL r t, PyData.eqv]
    unfold iD
    rw [eqv_row]
    by_cases h : x = y <;> by_cases h2 : r = t <;> simp [h, h2]
theorem eqv_lm (M N : List (List Int)) : (lmD M).eqv (lmD N) = decide (M = N) := by
  show (PyData.list (M.map fun r => .list (iD r))).eqv (PyData.list (N.map fun r => .list (iD r))) = _
  rw [PyData.eqv, eqv_rowsL]
theorem dp_pys {K : PySem.W.Frag} {H : Hp} : ∀ {M : List (List Int)} {vs : List V}, PyVs H vs (M.map fun r => .list (iD r)) → DpAll K H vs (M.map fun r => .list (iD r))
  | [], _, .nil => .nil
  | r :: M, _, .cons h t => by
    obtain ⟨a, rfl, ha⟩ := li_at h
    exact .cons (.lst (.inl (.inl ha)) (dp_ints r)) (dp_pys t)
theorem dp_lm {K : PySem.W.Frag} {H : Hp} {v : V} {M : List (List Int)} (h : PyV H v (lmD M)) : Dp K H v (lmD M) := by
  unfold lmD at h ⊢
  cases h with
  | lst e q => exact .lst (.inl (.inl e)) (dp_pys q)
theorem depth_rowsL (M : List (List Int)) : PyData.depthAll (M.map fun r => .list (iD r)) ≤ 1 := by
  induction M with
  | nil => simp [PyData.depthAll]
  | cons x r ih =>
    rw [List.map_cons, PyData.depthAll, PyData.depth]
    unfold iD at ih ⊢
    rw [depth_row]
    omega
theorem lay_rowsL (M : List (List Int)) : PyData.canLayAll0 (M.map fun r => .list (iD r)) = true := by
  induction M with
  | nil => simp [PyData.canLayAll0]
  | cons x r ih =>
    rw [List.map_cons, PyData.canLayAll0, ih, PyData.canLay0]
    unfold iD
    rw [lay_row]
    rfl
theorem shaped_lm (M : List (List Int)) : SeqAt.shaped (lmD M) = true := by
  show SeqAt.shaped (PyData.list (M.map fun r => .list (iD r))) = true
  unfold SeqAt.shaped
  rw [PyData.canLay0, lay_rowsL, PyData.depth]
  have := depth_rowsL M
  simp
  omega
theorem r_eqLm {K : PySem.W.Frag} {H : Hp} {x y : V} {M N : List (List Int)} {Q : VK} (hx : PyV H x (lmD M)) (hy : PyV H y (lmD N)) (q : Q (.bl (decide (M = N))) H) : rEqD K x y H Q := by
  refine ⟨lmD M, lmD N, dp_lm hx, dp_lm hy, shaped_lm M, shaped_lm N, ?_⟩
  rw [eqv_lm]
  exact q
theorem ld_add {n : Nat} {A B S : List (List Int)} (h1 : 1 ≤ n) (h3 : n ≤ 3) (hA : Sh n A) (hB : Sh n B) (hS : Sh n S) : ldM n (addM A B) S = addM (ldM n A S) (ldM n B S) := by
  have : n = 1 ∨ n = 2 ∨ n = 3 := by omega
  unfold ldM
  rcases this with rfl | rfl | rfl
  · obtain ⟨a, rfl⟩ := sh1 hA rfl
    obtain ⟨b, rfl⟩ := sh1 hB rfl
    obtain ⟨c, rfl⟩ := sh1 hS rfl
    simp [addM, mulM, ledM, transp, dot]
    grind
  · obtain ⟨a, b, c, d, rfl⟩ := sh2 hA rfl
    obtain ⟨a', b', c', d', rfl⟩ := sh2 hB rfl
    obtain ⟨p, q, r, s, rfl⟩ := sh2 hS rfl
    simp only [addE2, trE2, mulE2]
    simp only [List.cons.injEq, and_true, true_and]
    refine ⟨⟨?_, ?_⟩, ?_, ?_⟩ <;> grind
  · obtain ⟨a, b, c, d, e, f, g, h, i, rfl⟩ := sh3 hA rfl
    obtain ⟨a', b', c', d', e', f', g', h', i', rfl⟩ := sh3 hB rfl
    obtain ⟨p, q, r, s, t, u, v, w, x, rfl⟩ := sh3 hS rfl
    simp only [addE3, trE3, mulE3]
    simp only [List.cons.injEq, and_true, true_and]
    refine ⟨⟨?_, ?_, ?_⟩, ⟨?_, ?_, ?_⟩, ?_, ?_, ?_⟩ <;> grind
theorem sum_step {n : Nat} {A G B L L' : List (List Int)} (h1 : 1 ≤ n) (h3 : n ≤ 3) (hA : Sh n A) (hG : Sh n G) (hB : Sh n B) (hL : Sh n L) (hL' : Sh n L') (e : addM A G = addM B L) : addM (addM A L') G = addM (addM B L) L' := by
  rw [← e]
  have : n = 1 ∨ n = 2 ∨ n = 3 := by omega
  rcases this with rfl | rfl | rfl
  · obtain ⟨a, rfl⟩ := sh1 hA rfl
    obtain ⟨b, rfl⟩ := sh1 hG rfl
    obtain ⟨c, rfl⟩ := sh1 hL' rfl
    simp only [addE1, List.cons.injEq, and_true]
    omega
  · obtain ⟨a, b, c, d, rfl⟩ := sh2 hA rfl
    obtain ⟨a', b', c', d', rfl⟩ := sh2 hG rfl
    obtain ⟨p, q, r, s, rfl⟩ := sh2 hL' rfl
    simp only [addE2, List.cons.injEq, and_true]
    omega
  · obtain ⟨a, b, c, d, e, f, g, h, i, rfl⟩ := sh3 hA rfl
    obtain ⟨a', b', c', d', e', f', g', h', i', rfl⟩ := sh3 hG rfl
    obtain ⟨p, q, r, s, t, u, v, w, x, rfl⟩ := sh3 hL' rfl
    simp only [addE3, List.cons.injEq, and_true]
    omega
theorem sum_end {n : Nat} {A G B : List (List Int)} (h1 : 1 ≤ n) (h3 : n ≤ 3) (hA : Sh n A) (hG : Sh n G) (hB : Sh n B) (e : addM A G = addM B G) : A = B := by
  have : n = 1 ∨ n = 2 ∨ n = 3 := by omega
  rcases this with rfl | rfl | rfl
  · obtain ⟨a, rfl⟩ := sh1 hA rfl
    obtain ⟨b, rfl⟩ := sh1 hG rfl
    obtain ⟨c, rfl⟩ := sh1 hB rfl
    simp only [addE1, List.cons.injEq, and_true] at e ⊢
    omega
  · obtain ⟨a, b, c, d, rfl⟩ := sh2 hA rfl
    obtain ⟨a', b', c', d', rfl⟩ := sh2 hG rfl
    obtain ⟨p, q, r, s, rfl⟩ := sh2 hB rfl
    simp only [addE2, List.cons.injEq, and_true] at e ⊢
    omega
  · obtain ⟨a, b, c, d, e1, f, g, h, i, rfl⟩ := sh3 hA rfl
    obtain ⟨a', b', c', d', e', f', g', h', i', rfl⟩ := sh3 hG rfl
    obtain ⟨p, q, r, s, t, u, v, w, x, rfl⟩ := sh3 hB rfl
    simp only [addE3, List.cons.injEq, and_true] at e ⊢
    omega
section
variable {P : Program} {w : World} {K : PySem.W.Frag} {mg : Str → Option Value} {base : Heap} {C F : Addr}
abbrev st_an : Stmt := top 48
abbrev N_an : List Str := ["_law_pot_here", "_law_size", "_law_at"]
theorem sc_an : FnScope N_an ["_law_pot_here", "_law_size"] (defScope st_an) := ⟨rfl, rfl, rfl, by decide +kernel, rfl, by decide +kernel, by decide +kernel⟩
def sp_an : Sp := fun vs H Q _ => ∃ (p : Addr) (n : Nat), vs = [.ref p, .int n] ∧ PotOk H p ∧ 1 ≤ n ∧ n ≤ 3 ∧ ∀ D H' M, RX (some p) H H' → PyV (hid (some p) H') (.ref D) (lmD M) → SqE n 3 M → transp n M = M → Q (.ref D) H'
theorem ok_an {f : Addr} {fd : FuncData} (F' : Fun K "_law_any" "_law_any" st_an f fd) (T : Txt mg) (D1 : Def P w K mg base "_law_draw" 1 ["_law_pot_here", "_law_many"] sp_draw) (D2 : Def P w K mg base "_law_places" 1 ["_law_size"] sp_pl) (D3 : Def P w K mg base "_law_form" 1 ["_law_numbers", "_law_size"] sp_fm) :
    FnOk P w K mg base CX0 2 f fd ["_law_pot_here", "_law_size"] sp_an := by
  refine F'.ok sc_an (fun vs H Q E h => ?_) (fun cdv A outer s H vs Q E hr h => ?_)
  · obtain ⟨p, n, rfl, _⟩ := h
    rfl
  · obtain ⟨p, n, rfl, hp, h1, h3, q⟩ := h
    refine ⟨_, pss_one (ps_ret (pe_def D3 hr (pa_cons (pe_lc (own := [("_law_at", 2)]) (g := gName 2) (tt := tYes) rfl sc_an.nd (pi_range1 (by rfl) T.range (pa_cons (pe_def D2 hr (pa_cons (pv 1) pa_nil)) pa_nil))
        (blkOk_by (N := N_an) (sc := defScope st_an) (by decide +kernel)) (fun _ _ _ _ _ => pg_name (i := 2) sc_an.nd rfl (Or.inl rfl) (Or.inr rfl)) (fun _ _ _ _ _ => pts_nil)
        (fun _ _ _ _ _ => pe_op op_sub (pe_def (X := Cx.blk _ _ _ _ _ _) D1 hr (pa_cons (pv 0) (pa_cons pe_int pa_nil))) pe_int)) (pa_cons (pv 1) pa_nil)))), ?_⟩
    have hh : Has (some p) H := fun q e => by cases e; exact hp
    have pl := pl_le (n := n)
    refine r_ret (a2 (tlc_call (a1 ⟨_, rfl, n, rfl, h1, h3, ((plN n : Nat) : Int), rfl, by omega, by omega, ?_⟩)))
    rw [Int.toNat_natCast]
    refine lc_el (p := some p) (plN n) (fun i v => ∃ x : Int, v = .int x ∧ (-((5 : Nat) : Int) ≤ x ∧ x ≤ ((5 : Nat) : Int))) hh (by omega) (fun i H2 hi s2 => hi) (fun H2 s2 => Nat.le_refl _) (fun i x H4 H5 C' hi s4 hp4 hy hC => ?_) fun Dh H4 xs nDh s4 hDh hxl hE => ?_
    · obtain ⟨rfl, rfl⟩ := hy
      refine ⟨rfl, r_op (a2 ⟨_, rfl, p, 11, rfl, hp4 p rfl, by decide, by decide, fun r H6 r0 r1 s6 => ⟨_, _, rfl, rfl, hC _ _ s6 ⟨_, rfl, by omega, by omega⟩⟩⟩)⟩
    · obtain ⟨zs, rfl, bz⟩ := ints_El hE
      rw [List.length_map] at hxl
      have hp4 := s4.pot p rfl hp
      exact ⟨_, rfl, Dh, n, 5, zs, rfl, hDh, h1, h3, hxl, bz, fun D H5 M s5 nM bM tM => q D H5 M (s4.trans (RX.of s5)) (nM.hid p hp4.some_) (bM.e (by decide)) tM⟩
end
end T34
set_option Elab.async false
set_option linter.all false
set_option maxRecDepth 100000
set_option maxHeartbeats 4000000
namespace T34
open PySem PySem.Spec PyProof.Rows L2 Gd Zn Rp Dn Tb Gn En Zs Ct Op Oc Rg Rt Ro Oa
section
variable {P : Program} {w : World} {K : PySem.W.Frag} {mg : Str → Option Value} {base : Heap} {C F : Addr}
abbrev st_su : Stmt := top 49
abbrev N_su : List Str := ["_law_form_here", "_law_rows", "_law_found", "_law_led_here", "_law_turn", "_law_near", "_law_far"]
theorem sc_su : FnScope N_su ["_law_form_here", "_law_rows"] (defScope st_su) := ⟨rfl, rfl, rfl, by decide +kernel, rfl, by decide +kernel, by decide +kernel⟩
def sp_su : Sp := fun vs H Q _ => ∃ (v o : V) (G S : List (List Int)) (n : Nat) (p : Addr), vs = [v, o] ∧ H p ≠ none ∧ PyV (hid (some p) H) v (lmD G) ∧ PyV H o (lmD S) ∧ 1 ≤ n ∧ n ≤ 3 ∧ SqE n 3 G ∧ SqE n 4 S ∧ transp n G = G ∧ (∀ H', Same H H' → Q .non H') ∧ ∀ x H' M, Same H H' → PyV (hid (some p) H') x (lmD M) → SqE n 200 M → transp n M = M → ldM n M S = M → Q x H'
theorem addM_comm {n : Nat} {A B : List (List Int)} (h1 : 1 ≤ n) (h3 : n ≤ 3) (hA : Sh n A) (hB : Sh n B) : addM A B = addM B A := by
  have : n = 1 ∨ n = 2 ∨ n = 3 := by omega
  rcases this with rfl | rfl | rfl
  · obtain ⟨a, rfl⟩ := sh1 hA rfl
    obtain ⟨b, rfl⟩ := sh1 hB rfl
    simp only [addE1, List.cons.injEq, and_true]
    omega
  · obtain ⟨a, b, c, d, rfl⟩ := sh2 hA rfl
    obtain ⟨a', b', c', d', rfl⟩ := sh2 hB rfl
    simp only [addE2, List.cons.injEq, and_true]
    omega
  · obtain ⟨a, b, c, d, e, f, g, h, i, rfl⟩ := sh3 hA rfl
    obtain ⟨a', b', c', d', e', f', g', h', i', rfl⟩ := sh3 hB rfl
    simp only [addE3, List.cons.injEq, and_true]
    omega
theorem ok_su {f : Addr} {fd : FuncData} (F' : Fun K "_law_summed" "_law_summed" st_su f fd) (T : Txt mg) (D1 : Def P w K mg base "_law_led" 2 ["_law_form_here", "_law_rows"] sp_ld) : FnOk P w K mg base CX0 3 f fd ["_law_form_here", "_law_rows"] sp_su := by
  refine F'.ok sc_su (fun vs H Q E h => ?_) (fun cdv A outer s H vs Q E hr h => ?_)
  · obtain ⟨v, o, G, S, n, p, rfl, _⟩ := h
    rfl
  · obtain ⟨v, o, G, S, n, p, rfl, hp, hv, ho, h1, h3, eG, eS, tG, q0, q1⟩ := h
    refine ⟨_, pss_cons (ps_asg (pe_tup (pa_cons (pv 0) (pa_cons (pe_def D1 hr (pa_cons (pv 0) (pa_cons (pv 1) pa_nil))) pa_nil))) (pg_tup rfl (pgs_cons (pg_name (i := 2) sc_su.nd rfl (Or.inr rfl)) (pgs_cons (pg_name (i := 3) sc_su.nd rfl (Or.inr rfl)) pgs_nil))))
      (pss_cons (ps_for PassesOwn.never rfl (pi_range1 (by rfl) T.range (pa_cons pe_int pa_nil)) (pg_name (i := 4) sc_su.nd rfl (Or.inl rfl))
        (pss_cons (ps_if (pt_cmpR (op_eqD hr.units) (pv 3) (pv 0) (nomark _)) (pss_one (ps_ret (pv 2))) pss_nil)
        (pss_cons (ps_set (i := 2) sc_su.nd rfl (Or.inr rfl) (pe_lc (own := [("_law_near", 5)]) (g := gName 5) (tt := tYes) rfl sc_su.nd (pi_range1 (by rfl) T.range (pa_cons (pe_callB (r := Dn.rLen K) c_len (by rfl) T.len PySem.boot_len (pa_cons (pv 1) pa_nil)) pa_nil))
          (blkOk_by (N := N_su) (sc := defScope st_su) (by decide +kernel)) (fun _ _ _ _ _ => pg_name (i := 5) sc_su.nd rfl (Or.inr rfl) (Or.inl rfl)) (fun _ _ _ _ _ => pts_nil)
          (fun s' H' C' cl' fp' => by
            refine pe_lc (own := [("_law_far", 6)]) (wi := iRng1 (tCons (tCB (Dn.rLen K) (tCons (tVar 1) tNil)) tNil)) (g := gName 6) (tt := tYes) (te := tOp (rI0 fun i j => .int (i + j)) (tOp (rIxS2 K) (tOp (rIxS2 K) (tVar 2) (tVar 5)) (tVar 6)) (tOp (rIxS2 K) (tOp (rIxS2 K) (tVar 3) (tVar 5)) (tVar 6))) rfl sc_su.nd ?p1 ?p2 ?p3 ?p4 ?p5
            case p1 => exact pi_range1 (by rfl) T.range (pa_cons (pe_callB (r := Dn.rLen K) c_len (by rfl) T.len PySem.boot_len (pa_cons (pv 1) pa_nil)) pa_nil)
            case p2 => exact blkOk_by (N := N_su) (by rfl)
            case p3 => exact (fun _ _ _ _ _ => pg_name (i := 6) sc_su.nd rfl (Or.inl rfl) (Or.inr rfl))
            case p4 => exact (fun _ _ _ _ _ => pts_nil)
            case p5 => exact (fun _ _ _ _ _ => pe_op op_add (pe_ix ix_sq (pe_ix ix_sq (pv 2) (pv 5) (fun _ _ => rfl)) (pv 6) (fun _ _ => rfl)) (pe_ix ix_sq (pe_ix ix_sq (pv 3) (pv 5) (fun _ _ => rfl)) (pv 6) (fun _ _ => rfl))))))
        (pss_one (ps_set (i := 3) sc_su.nd rfl (Or.inr rfl) (pe_def D1 hr (pa_cons (pv 3) (pa_cons (pv 1) pa_nil))))))))
      (pss_one (ps_ret pe_non))), ?_⟩
    obtain ⟨b0, bs, rfl, hb, hbl, hbe⟩ := lm_at ho
    have bl : bs.length = n := by rw [hbl, eS.len]
    refine r_seq (r_asg (r_tup (r_cons ⟨_, rfl, r_cons (a2 ⟨_, rfl, _, rfl, v, .ref b0, G, S, n, 3, 4, rfl, py_un hv, ho, h1, h3, eG, eS, by decide, by decide, fun Dl H1 s1 nL => ⟨(by show 2 ≤ sizeLine; decide), fun t nt => ?_⟩⟩)⟩)))
    refine ⟨t, _, rfl, .inl (.inl upd_same), rfl, _, _, rfl, _, _, rfl, rfl, ?_⟩
    have sT : Same H1 (upd H1 t (.tup [v, V.ref Dl])) := same_new nt
    generalize upd H1 t (.tup [v, V.ref Dl]) = H2 at sT
    have s2 := s1.trans sT
    have rxp : ∀ {H' H'' : Hp}, Same H' H'' → RX (some p) H' H'' := fun s => RX.of s
    refine r_next (r_nseq ⟨12, rfl, by decide, by decide, ?_⟩)
    refine for_range (lo := 0) (n := 12) (fun i σ H' => ∃ xf dl x4 x5 x6 Fd Ld, σ = [some v, some (.ref b0), some xf, some (.ref dl), x4, x5, x6] ∧ Same H H' ∧ PyV (hid (some p) H') xf (lmD Fd) ∧ PyV (hid (some p) H') (.ref dl) (lmD Ld) ∧ SqE n (15 + 12 * i) Fd ∧ SqE n (15 + 12 * i) Ld ∧ transp n Fd = Fd ∧ transp n Ld = Ld ∧ addM (ldM n Fd S) G = addM Fd Ld)
      ⟨v, Dl, _, _, _, G, ldM n G S, rfl, s2, py_rx hv (rxp s2), py_rx (nL.hid p hp) (rxp sT), eG.mono (by omega), (eG.ld eS h1 h3).mono (by omega), tG, ld_sy h1 h3 eG.sh eS.sh tG, addM_comm h1 h3 (ld_sh h1 h3 eG.sh eS.sh) eG.sh⟩ (fun i σ H' hi hP => ?_) (fun σ H' hP => ?_)
    · obtain ⟨xf, dl, x4, x5, x6, Fd, Ld, rfl, s3, pF, pL, eF, eL, tF, tL, inv⟩ := hP
      have hp3 : H' p ≠ none := Same.some_ s3 p hp
      have pG := py_un (py_rx hv (rxp s3))
      refine r_seq (r_if (r_tt (r_op ⟨_, rfl, _, rfl, r_eqLm (py_un pL) pG ⟨_, rfl, ?_⟩⟩)))
      by_cases z : Ld = G
      · rw [decide_eq_true z]
        refine iteT (r_ret ⟨_, rfl, q1 xf H' Fd s3 pF (eF.mono (by omega)) tF ?_⟩)
        rw [z] at inv
        exact sum_end h1 h3 (ld_sh h1 h3 eF.sh eS.sh) eG.sh eF.sh inv
      · rw [decide_eq_false z]
        refine iteF ?_
        obtain ⟨a1', as1, rfl, ha1, hal1, hae1⟩ := lm_at (py_un pF)
        obtain ⟨a2', as2, e2, ha2, hal2, hae2⟩ := lm_at (py_un pL)
        cases e2
        have l1 : as1.length = n := by rw [hal1, eF.len]
        have l2 : as2.length = n := by rw [hal2, eL.len]
        have hb3 := s3 _ _ hb
        refine r_next (r_nseq (r_asg (tlc_call (cb1 ⟨_, rfl, b0, _, rfl, .inl (.inl (.inl hb3)), (n : Int), by rw [List.length_map, bl], by omega, by omega, ?_⟩))))
        rw [Int.toNat_natCast]
        refine lc_fresh2 (p := none) n (fun k => .lst (((addM Fd Ld).getD k []).map V.int)) has_none (by omega) (fun i H2 hi s2 => hi) (fun H2 s2 => Nat.le_refl _) (fun k x H4 H5 C' hk s4 _ hy hC => ?_) fun D H4 ws nD s4 hD hwl hwE => ?_
        · obtain ⟨rfl, rfl⟩ := hy
          rw [show (0 : Int) + (k : Int) = (k : Int) by omega]
          refine ⟨rfl, tlc_call (cb1 ⟨_, rfl, b0, _, rfl, .inl (.inl (.inl (s4.same _ _ hb3))), (n : Int), by rw [List.length_map, bl], by omega, by omega, ?_⟩)⟩
          rw [Int.toNat_natCast]
          have lF : (Fd.getD k []).length = n := getD_row eF.sh hk
          have lL : (Ld.getD k []).length = n := getD_row eL.sh hk
          refine lc_el (p := none) n (fun j v => ∃ x y, (Fd.getD k [])[j]? = some x ∧ (Ld.getD k [])[j]? = some y ∧ v = .int (x + y)) has_none (by omega) (fun j H6 hj s6 => hj) (fun H6 s6 => Nat.le_refl _) (fun j x H6 H7 C2 hj s6 _ hy2 hC2 => ?_) fun De H6 ys nDe s6 hDe hyl hyE => ?_
          · obtain ⟨rfl, rfl⟩ := hy2
            rw [show (0 : Int) + (j : Int) = (j : Int) by omega]
            have S6 := s4.same.trans s6.same
            have e1 : as1[k]? = some (as1[k]'(by omega)) := List.getElem?_eq_getElem _
            have e2 : as2[k]? = some (as2[k]'(by omega)) := List.getElem?_eq_getElem _
            have j1 : j < (Fd.getD k []).length := by omega
            have j2 : j < (Ld.getD k []).length := by omega
            refine ⟨rfl, ?_⟩
            refine ⟨_, rfl, _, rfl, false, a1', _, _, _, rfl, rfl, .inl (.inl (S6 _ _ ha1)), ixR e1, _, rfl, false, _, _, _, _, rfl, rfl, .inl (.inl (S6 _ _ (hae1 k _ e1))), ixL j1, _, rfl, _, rfl, false, dl, _, _, _, rfl, rfl, .inl (.inl (S6 _ _ ha2)), ixR e2, _, rfl, false, _, _, _, _, rfl, rfl, .inl (.inl (S6 _ _ (hae2 k _ e2))), ixL j2, _, _, rfl, rfl, ?_⟩
            refine hC2 _ _ (RX.refl _) ⟨_, _, List.getElem?_eq_getElem j1, List.getElem?_eq_getElem j2, ?_⟩
            show V.int ((Fd.getD k []).getD j 0 + (Ld.getD k []).getD j 0) = _
            rw [List.getD_eq_getElem?_getD (l := Fd.getD k []), List.getD_eq_getElem?_getD (l := Ld.getD k []), List.getElem?_eq_getElem j1, List.getElem?_eq_getElem j2]
            rfl
          · have ey : ys = ((Fd.getD k []).zip (Ld.getD k [])).map fun (p : Int × Int) => V.int (p.1 + p.2) := map_of_get (n := 0) _ (by simp only [hyl, List.length_zip, lF, lL]; omega) fun l v e => by
              obtain ⟨x, y, e1, e2, e3⟩ := hyE l v e
              exact ⟨(x, y), by rw [List.getElem?_zip_eq_some]; exact ⟨e1, e2⟩, e3⟩
            refine hC De _ s6 nDe ?_
            have eF' : Fd[k]? = some (Fd.getD k []) := by
              have : k < Fd.length := by rw [eF.len]; exact hk
              rw [List.getD_eq_getElem?_getD, List.getElem?_eq_getElem this]; rfl
            have eL' : Ld[k]? = some (Ld.getD k []) := by
              have : k < Ld.length := by rw [eL.len]; exact hk
              rw [List.getD_eq_getElem?_getD, List.getElem?_eq_getElem this]; rfl
            have eR : (addM Fd Ld).getD k [] = ((Fd.getD k []).zip (Ld.getD k [])).map fun p => p.1 + p.2 := by
              rw [List.getD_eq_getElem?_getD (l := addM Fd Ld), add_get eF' eL']
              rfl
            rw [hDe, ey, eR, List.map_map]
            rfl
        · have sA := add_sh eF.sh eL.sh
          have nA : NewM H' H4 D (addM Fd Ld) := newM nD hD (by rw [hwl, sA.len]) fun i v e => by
            obtain ⟨q, e1, e2, _, _, e5⟩ := hwE i v e
            exact ⟨q, e1, e2, e5⟩
          have S4 := s4.same
          have ho4 := ho.mono (s3.trans S4)
          refine r_next (n_asg (a2 ⟨_, rfl, _, rfl, .ref dl, .ref b0, Ld, S, n, 15 + 12 * i, 4, rfl, py_un (py_rx pL (rxp S4)), ho4, h1, h3, eL, eS, by omega, by decide, fun D2 H5 s5 nN => ?_⟩))
          have eA := eF.add eL
          have eN := eL.ld eS h1 h3
          refine ⟨.ref D, D2, _, _, _, addM Fd Ld, ldM n Ld S, rfl, s3.trans (S4.trans s5), py_rx (nA.hid p hp3) (rxp s5), nN.hid p (Same.some_ S4 p hp3), eA.mono (by omega), eN.mono (by omega), add_sy h1 h3 eF.sh eL.sh tF tL, ld_sy h1 h3 eL.sh eS.sh tL, ?_⟩
          rw [ld_add h1 h3 eF.sh eL.sh eS.sh]
          exact sum_step h1 h3 (ld_sh h1 h3 eF.sh eS.sh) eG.sh eF.sh eL.sh (ld_sh h1 h3 eL.sh eS.sh) inv
    · obtain ⟨xf, dl, x4, x5, x6, Fd, Ld, rfl, s3, _⟩ := hP
      exact q0 _ s3
end
end T34
set_option Elab.async false
set_option linter.all false
set_option maxRecDepth 100000
set_option maxHeartbeats 4000000
namespace T34
open PySem PySem.Spec PyProof.Rows L2 Gd Zn Rp Dn Tb Gn En Zs Ct Op Oc Rg Rt Ro Oa
/-- rows as new lists, some left out -/
theorem lc_rowsL {J : It} {g : TG} {tt : TT} {te : TE} {vs : List Nat} {σ : L2.St} {H1 : Hp} {Q : VK} (n : Nat) (W : Nat → List (List Int)) (hn : n ≤ 1000) (w0 : W 0 = []) (wl : ∀ i, i ≤ n → (W i).length ≤ i)
    (hgo : ∀ i H, i < n → Same H1 H → J.go i H) (hst : ∀ H, Same H1 H → J.stop n H)
    (hs : ∀ i x H H' (C : V → Hp → Prop) (C0 : Hp → Prop), i < n → Same H1 H → J.yld i H x H' → (∀ q r H4, Same H H4 → H q = none → W (i + 1) = W i ++ [r] → H4 q = some (.lst (r.map V.int)) → C (.ref q) H4) → (∀ H4, Same H H4 → W (i + 1) = W i → C0 H4) →
      g x (wipe σ vs) H' fun σ2 H2 => wipe σ2 vs = wipe σ vs ∧ tt σ2 H2 fun b H3 => if b = true then te σ2 H3 C else C0 H3)
    (hd : ∀ D H, Same H1 H → NewM H1 H D (W n) → Q (.ref D) H) : LcB g tt te vs σ Q J H1 := by
  intro D nD
  refine ⟨fun i m H => i ≤ n ∧ m = n - i ∧ Same H1 H ∧ ∃ bs : List Addr, H D = some (.lst (bs.map V.ref)) ∧ bs.length = (W i).length ∧ D ∉ bs ∧ (∀ b ∈ bs, H1 b = none) ∧ ∀ j b, bs[j]? = some b → H b = some (.lst (((W i).getD j []).map V.int)),
    ⟨n, Nat.zero_le _, rfl, same_new nD, [], upd_same, by rw [w0]; rfl, by simp, fun b hb => absurd hb (by simp), fun j b e => absurd e (by simp)⟩, ?_⟩
  rintro i m H ⟨hi, rfl, s1, bs, hD, hl, nb, fr, hR⟩
  by_cases hlt : i < n
  · refine .inr ⟨hgo i H hlt s1, fun H' => i + 1 ≤ n ∧ Same H1 H' ∧ ∃ bs : List Addr, H' D = some (.lst (bs.map V.ref)) ∧ bs.length = (W (i + 1)).length ∧ D ∉ bs ∧ (∀ b ∈ bs, H1 b = none) ∧ ∀ j b, bs[j]? = some b → H' b = some (.lst (((W (i + 1)).getD j []).map V.int)), fun H' h => ⟨n - (i + 1), by omega, h.1, rfl, h.2⟩, fun x H' hy => ?_⟩
    refine hs i x H H' _ _ hlt s1 hy (fun q r H4 s4 nq e4 hq => ?_) fun H4 s4 e4 => ?_
    · have hD4 := s4 _ _ hD
      have qD : q ≠ D := fun z => by rw [z, hD] at nq; cases nq
      have wl' := wl i hi
      refine ⟨bs.map V.ref, hD4, ?_, hlt, ?_, bs ++ [q], ?_, ?_, ?_, ?_, ?_⟩
      · rw [List.length_map, hl]
        exact Nat.lt_of_lt_of_le (by omega : (W i).length < 1001) (by decide)
      · exact (RX.mut (p := none) (RX.of (s1.trans s4)) nD has_none).same
      · rw [upd_same, List.map_append]; rfl
      · rw [e4, List.length_append, List.length_append, hl]; rfl
      · intro z
        rcases List.mem_append.mp z with z | z
        · exact nb z
        · exact qD (List.mem_singleton.mp z).symm
      · intro b hb
        rcases List.mem_append.mp hb with z | z
        · exact fr b z
        · rw [List.mem_singleton.mp z]
          exact Same.free s1 nq
      · intro j b e
        have bD : b ≠ D := fun z => by
          subst z
          rcases List.mem_append.mp (List.mem_of_getElem? e) with z | z
          · exact nb z
          · exact qD (List.mem_singleton.mp z).symm
        rw [upd_ne bD, e4]
        by_cases hj : j < bs.length
        · rw [List.getElem?_append_left hj] at e
          have : j < (W i).length := by omega
          rw [List.getD_eq_getElem?_getD, List.getElem?_append_left this, ← List.getD_eq_getElem?_getD]
          exact s4 _ _ (hR j b e)
        · have hj2 : j = bs.length := by
            have := (List.getElem?_eq_some_iff.mp e).1
            rw [List.length_append] at this
            have : j < bs.length + 1 := this
            omega
          subst hj2
          rw [List.getElem?_append_right (Nat.le_refl _), Nat.sub_self] at e
          cases e
          rw [List.getD_eq_getElem?_getD, hl, List.getElem?_append_right (Nat.le_refl _), Nat.sub_self]
          exact hq
    · refine ⟨hlt, s1.trans s4, bs, s4 _ _ hD, by rw [e4]; exact hl, nb, fr, fun j b e => ?_⟩
      rw [e4]
      exact s4 _ _ (hR j b e)
  · have e : i = n := by omega
    subst e
    refine .inl ⟨hst H s1, hd D H s1 (newM nD hD (by rw [List.length_map]; exact hl) fun j v e => ?_)⟩
    rw [List.getElem?_map] at e
    obtain ⟨b, eb, rfl⟩ := Option.map_eq_some_iff.mp e
    exact ⟨b, rfl, hR j b eb, fr b (List.mem_of_getElem? eb)⟩
section
variable {P : Program} {w : World} {K : PySem.W.Frag} {mg : Str → Option Value} {base : Heap} {C F : Addr}
abbrev st_un : Stmt := top 43
abbrev N_un : List Str := ["_law_rows", "_law_size", "_law_share", "_law_found", "_law_near", "_law_line", "_law_far", "_law_rest", "_law_at", "_law_row"]
theorem sc_un : FnScope N_un ["_law_rows"] (defScope st_un) := ⟨rfl, rfl, rfl, by decide +kernel, rfl, by decide +kernel, by decide +kernel⟩
def sp_un : Sp := fun vs H Q _ => ∃ (v : V) (S : List (List Int)) (n : Nat), vs = [v] ∧ PyV H v (lmD S) ∧ Gr n S ∧ SqE n 4 S ∧ ∀ D H', Same H H' → NewM H H' D (undM n S) → Q (.ref D) H'
end
end T34
set_option Elab.async false
set_option linter.all false
set_option maxRecDepth 100000
set_option maxHeartbeats 4000000
namespace T34
open PySem PySem.Spec PyProof.Rows L2 Gd Zn Rp Dn Tb Gn En Zs Ct Op Oc Rg Rt Ro Oa
theorem n_bm {K : PySem.W.Frag} {T : String} {r : V → List V → Hp → VK → Prop} {to : TE} {t : TA} {D : Ends} {rt : VK} {bk ct : L2.St → Hp → Prop} {σ : L2.St} {H : Hp} (h : to σ H fun x H1 => tyV K T x H1 ∧ t σ H1 fun xs H2 => r x xs H2 fun _ H3 => D.nx σ H3) : Ends.nx ⟨tDrop (tBM K T r to t) D, rt, bk, ct⟩ σ H := h
structure Fnd (H0 H : Hp) (D : Addr) (cs : List Addr) (M : List (List Int)) : Prop where
  top : H D = some (.lst (cs.map V.ref))
  ne : D ∉ cs
  nD : H0 D = none
  fr : ∀ b ∈ cs, H0 b = none
  row : ∀ (j : Nat) b, cs[j]? = some b → H b = some (.lst ((M.getD j []).map V.int))
theorem Fnd.same {H0 H H' : Hp} {D : Addr} {cs : List Addr} {M : List (List Int)} (h : Fnd H0 H D cs M) (s : Same H H') : Fnd H0 H' D cs M := ⟨s _ _ h.top, h.ne, h.nD, h.fr, fun j b e => s _ _ (h.row j b e)⟩
theorem Fnd.mut {H0 H : Hp} {D l : Addr} {cs : List Addr} {M : List (List Int)} {o : HO} (h : Fnd H0 H D cs M) (n1 : l ∉ cs) (n2 : l ≠ D) : Fnd H0 (upd H l o) D cs M :=
  ⟨by rw [upd_ne (fun z => n2 z.symm)]; exact h.top, h.ne, h.nD, h.fr, fun j b e => by rw [upd_ne (fun z => n1 (by rw [← z]; exact List.mem_of_getElem? e))]; exact h.row j b e⟩
theorem Fnd.push {H0 H : Hp} {D l : Addr} {cs : List Addr} {M : List (List Int)} (h : Fnd H0 H D cs M) (n2 : l ≠ D) (f : H0 l = none) (hl : H l = some (.lst ((M.getD cs.length []).map V.int))) : Fnd H0 (upd H D (.lst (cs.map V.ref ++ [V.ref l]))) D (cs ++ [l]) M := by
  refine ⟨by rw [upd_same, List.map_append]; rfl, fun z => ?_, h.nD, fun b hb => ?_, fun j b e => ?_⟩
  · rcases List.mem_append.mp z with z | z
    · exact h.ne z
    · exact n2 (List.mem_singleton.mp z).symm
  · rcases List.mem_append.mp hb with z | z
    · exact h.fr b z
    · rw [List.mem_singleton.mp z]; exact f
  · have bD : b ≠ D := fun z => by
      subst z
      rcases List.mem_append.mp (List.mem_of_getElem? e) with z | z
      · exact h.ne z
      · exact n2 (List.mem_singleton.mp z).symm
    rw [upd_ne bD]
    by_cases hj : j < cs.length
    · rw [List.getElem?_append_left hj] at e
      exact h.row j b e
    · have hj2 : j = cs.length := by
        have := (List.getElem?_eq_some_iff.mp e).1
        rw [List.length_append] at this
        have : j < cs.length + 1 := this
        omega
      subst hj2
      rw [List.getElem?_append_right (Nat.le_refl _), Nat.sub_self] at e
      cases e
      exact hl
theorem und_row {n i : Nat} {S : List (List Int)} (hi : i < n) : (undM n S).getD i [] = (List.range n).map fun a => detM n S * cofM (n - 1) S a i := by
  unfold undM
  rw [List.getD_eq_getElem?_getD, List.getElem?_map, List.getElem?_range hi]
  rfl
theorem und_take {n i j : Nat} {S : List (List Int)} (hi : i < n) (hj : j < n) : ((undM n S).getD i []).take (j + 1) = ((undM n S).getD i []).take j ++ [detM n S * cofM (n - 1) S j i] := by
  rw [und_row hi, List.take_add_one]
  congr 1
  rw [List.getElem?_map, List.getElem?_range hj]
  rfl
section
variable {P : Program} {w : World} {K : PySem.W.Frag} {mg : Str → Option Value} {base : Heap} {C F : Addr}
theorem ok_un {f : Addr} {fd : FuncData} (F' : Fun K "_law_undone" "_law_undone" st_un f fd) (T : Txt mg) (DD : ∀ n, Def P w K mg base "_law_det" (n + 1) ["_law_rows"] (sp_dt n)) : FnOk P w K mg base CX0 5 f fd ["_law_rows"] sp_un := by
  refine F'.ok sc_un (fun vs H Q E h => ?_) (fun cdv A outer s H vs Q E hr h => ?_)
  · obtain ⟨v, S, n, rfl, _⟩ := h
    rfl
  · obtain ⟨v, S, n, rfl, hv, gS, eS, q⟩ := h
    have h1 := gS.h1
    have h3 := gS.h3
    refine ⟨_, pss_cons (ps_par (i := 1) (j := 2) rfl sc_un.nd rfl rfl (by decide) rfl rfl (pa_cons (pe_callB (r := Dn.rLen K) c_len (by rfl) T.len PySem.boot_len (pa_cons (pv 0) pa_nil)) (pa_cons (pe_def (DD n) hr (pa_cons (pv 0) pa_nil) (by omega)) pa_nil)) (by rfl))
      (pss_cons (ps_set (i := 3) sc_un.nd rfl (Or.inl rfl) (pe_lst pa_nil))
      (pss_cons (ps_for PassesOwn.never rfl (pi_range1 (by rfl) T.range (pa_cons (pv 1) pa_nil)) (pg_name (i := 4) sc_un.nd rfl (Or.inr rfl))
        (pss_cons (ps_set (i := 5) sc_un.nd rfl (Or.inl rfl) (pe_lst pa_nil))
        (pss_cons (ps_for PassesOwn.never rfl (pi_range1 (by rfl) T.range (pa_cons (pv 1) pa_nil)) (pg_name (i := 6) sc_un.nd rfl (Or.inr rfl))
          (pss_cons (ps_setLc (i := 7) (own := [("_law_at", 8), ("_law_row", 9)]) (g := gTup K 2 (gCons (gName 8) (gCons (gName 9) gNil))) rfl sc_un.nd rfl rfl (sw_true rfl rfl rfl (by decide +kernel)) (pi_enumS (by rfl) T.enum (pa_cons (pv 0) pa_nil))
            (blkOk_by (N := N_un) (sc := defScope st_un) (by decide +kernel)) (fun _ _ _ _ _ => pg_tup rfl (pgs_cons (pg_name (i := 8) sc_un.nd rfl (Or.inl rfl) (Or.inr rfl)) (pgs_cons (pg_name (i := 9) sc_un.nd rfl (Or.inl rfl) (Or.inr rfl)) pgs_nil)))
            (fun _ _ _ _ _ => pts_one (pt_cmpR op_ne (pv 8) (pv 6) (nomark _)))
            (fun _ _ _ _ _ => pe_op (r := L2.rCat) op_cat (pe_slice (r := rSlL K) sl_list (pv 9) po_none (po_some (pv 4))) (pe_slice (r := rSlL K) sl_list (pv 9) (po_some (pe_op op_add (pv 4) pe_int)) po_none)))
          (pss_one (ps_expr (pe_bm PySem.F.plainAttrs_list PySem.F.slot_list_append PySem.F.type_list_append mt_append (pv 5) (pa_cons (pe_ifExp (pt_cmpR op_eq (pe_op op_mul (pe_op op_fdiv (pe_op op_add (pv 4) (pv 6)) pe_int) pe_int) (pe_op op_add (pv 4) (pv 6)) (nomark _))
            (pe_op op_mulX (pv 2) (pe_def (DD (n - 1)) hr (pa_cons (pv 7) pa_nil) (by omega))) (pe_op op_sub pe_int (pe_op op_mulX (pv 2) (pe_def (DD (n - 1)) hr (pa_cons (pv 7) pa_nil) (by omega))))) pa_nil))))))
        (pss_one (ps_expr (pe_bm PySem.F.plainAttrs_list PySem.F.slot_list_append PySem.F.type_list_append mt_append (pv 3) (pa_cons (pv 5) pa_nil)))))))
      (pss_one (ps_ret (pv 3))))), ?_⟩
    have hS := eS.sh
    have qS : Sq n S := eS.sq (by decide)
    obtain ⟨b0, bs, rfl, hb, hbl, hbe⟩ := lm_at hv
    have bl : bs.length = n := by rw [hbl, eS.len]
    obtain ⟨n', rfl⟩ : ∃ k, n = k + 1 := ⟨n - 1, by omega⟩
    refine r_seq (r_par2 (r_cons (cb1 ⟨_, rfl, b0, _, rfl, .inl (.inl (.inl hb)), ?_⟩)))
    rw [List.length_map, bl]
    refine r_cons (a1 ⟨_, rfl, .ref b0, S, rfl, hv, h3, qS, fun H1 s1 => ⟨_, _, rfl, ?_⟩⟩)
    refine r_next (r_nseq (r_asg (r_lst ⟨Nat.zero_le _, fun Df nDf => ?_⟩)))
    have nDfH := Same.free s1 nDf
    have F0 : Fnd H (upd H1 Df (.lst [])) Df [] (undM (n' + 1) S) := ⟨upd_same, by simp, nDfH, fun b hb => absurd hb (by simp), fun j b e => absurd e (by simp)⟩
    have s2 : Same H (upd H1 Df (.lst [])) := s1.trans (same_new nDf)
    generalize upd H1 Df (.lst []) = H2 at F0 s2
    refine r_next (r_nseq ⟨_, rfl, ((n' + 1 : Nat) : Int), rfl, by omega, by omega, ?_⟩)
    rw [Int.toNat_natCast]
    refine for_range (lo := 0) (n := n' + 1) (fun i σ H' => ∃ x4 x5 x6 x7 x8 x9 cs, σ = [some (.ref b0), some (.int ((n' + 1 : Nat) : Int)), some (.int (detM (n' + 1) S)), some (.ref Df), x4, x5, x6, x7, x8, x9] ∧ Same H H' ∧ Fnd H H' Df cs (undM (n' + 1) S) ∧ cs.length = i)
      ⟨_, _, _, _, _, _, [], rfl, s2, F0, rfl⟩ (fun i σ H' hi hP => ?_) (fun σ H' hP => ?_)
    · obtain ⟨x4, x5, x6, x7, x8, x9, cs, rfl, s3, F3, lc⟩ := hP
      rw [show (0 : Int) + (i : Int) = (i : Int) by omega]
      refine r_seq (r_asg (r_lst ⟨Nat.zero_le _, fun l nl => ?_⟩))
      have nlH := Same.free s3 nl
      have lD : l ≠ Df := fun z => by rw [z, F3.top] at nl; cases nl
      have lcs : l ∉ cs := fun z => by
        obtain ⟨j, hj⟩ := List.mem_iff_getElem?.mp z
        rw [F3.row j l hj] at nl
        cases nl
      have F4 := F3.mut (o := .lst []) lcs lD
      have s4 : Same H (upd H' l (.lst [])) := s3.trans (same_new nl)
      have hl4 : upd H' l (.lst []) l = some (.lst ((((undM (n' + 1) S).getD i []).take 0).map V.int)) := upd_same
      generalize upd H' l (.lst []) = H4 at F4 s4 hl4
      refine r_next (r_nseq ⟨_, rfl, ((n' + 1 : Nat) : Int), rfl, by omega, by omega, ?_⟩)
      rw [Int.toNat_natCast]
      refine for_range (lo := 0) (n := n' + 1) (fun j σ H' => ∃ x6 x7 x8 x9, σ = [some (.ref b0), some (.int ((n' + 1 : Nat) : Int)), some (.int (detM (n' + 1) S)), some (.ref Df), some (.int (i : Nat)), some (.ref l), x6, x7, x8, x9] ∧ Same H H' ∧ Fnd H H' Df cs (undM (n' + 1) S) ∧ H' l = some (.lst ((((undM (n' + 1) S).getD i []).take j).map V.int)))
        ⟨_, _, _, _, rfl, s4, F4, hl4⟩ (fun j σ H' hj hP => ?_) (fun σ H' hP => ?_)
      · obtain ⟨x6, x7, x8, x9, rfl, s5, F5, hl5⟩ := hP
        rw [show (0 : Int) + (j : Int) = (j : Int) by omega]
        have hb5 := s5 _ _ hb
        have qb : ∀ H9, Same H' H9 → SqV K H9 false b0 (bs.map V.ref) := fun H9 s => .inl (.inl (s _ _ hb5))
        refine r_seq (r_asg (tlc_call ⟨_, rfl, false, b0, _, rfl, qb _ (Same.refl _), ?_⟩))
        refine lc_rowsL (n' + 1) (outW S j i) (by omega) rfl (fun k _ => outW_len S j i k) (fun k H6 hk s6 => ⟨_, _, qb H6 s6, List.getElem?_eq_getElem (by rw [List.length_map]; omega)⟩) (fun H6 s6 => ⟨_, qb H6 s6, by rw [List.length_map]; omega⟩) (fun k x H6 H7 C' C0 hk s6 hy hC hC0 => ?_) fun Dr H6 s6 nR => ?_
        · obtain ⟨T2, y, rfl, nT, rfl, hu⟩ := hy
          have ey := hu _ (qb H6 s6)
          have lk : k < bs.length := by omega
          have ebk : bs[k]? = some bs[k] := List.getElem?_eq_getElem lk
          rw [List.getElem?_map, ebk] at ey
          cases ey
          have hrow := s6 _ _ (s5 _ _ (hbe k _ ebk))
          have lrow : (S.getD k []).length = n' + 1 := getD_row hS hk
          generalize bs[k] = rb at hrow
          have sTT : Same H6 (upd H6 T2 (.tup [V.int (k : Nat), .ref rb])) := same_new nT
          refine ⟨T2, _, rfl, .inl (.inl upd_same), rfl, _, _, rfl, _, _, rfl, rfl, rfl, ?_⟩
          generalize upd H6 T2 (.tup [V.int (k : Nat), .ref rb]) = H8 at sTT
          refine ⟨_, rfl, _, rfl, rfl, _, rfl, ?_⟩
          by_cases hkj : k = j
          · rw [show (!decide (V.int ((k : Nat) : Int) = V.int (j : Int))) = false by simp [hkj]]
            refine iteF ?_
            exact hC0 _ sTT (by rw [outW_succ, if_pos hkj, List.append_nil])
          · rw [show (!decide (V.int ((k : Nat) : Int) = V.int (j : Int))) = true by simp; omega]
            refine iteT ?_
            have hw : outW S j i (k + 1) = outW S j i k ++ [cutAt i (S.getD k [])] := by rw [outW_succ, if_neg hkj]
            have hrow8 := sTT _ _ hrow
            refine r_op ⟨_, rfl, _, rfl, _, rfl, rb, _, rfl, .inl (.inl hrow8), fun p1 np1 => ?_⟩
            rw [cutV_to (S.getD k []) i (by omega)] at *
            have u1 : Same H8 (upd H8 p1 (.lst (((S.getD k []).take i).map V.int))) := same_new np1
            refine ⟨_, rfl, _, rfl, _, _, rfl, rfl, _, rfl, rb, _, rfl, .inl (.inl (u1 _ _ hrow8)), fun p2 np2 => ?_⟩
            rw [show ((i : Nat) : Int) + 1 = ((i + 1 : Nat) : Int) by omega, cutV_from (S.getD k []) (i + 1) (by omega)]
            have u2 := u1.trans (same_new (o := .lst (((S.getD k []).drop (i + 1)).map V.int)) np2)
            refine ⟨p1, p2, _, _, rfl, rfl, same_new np2 _ _ upd_same, upd_same, ?_, fun c2 nc2 => ?_⟩
            · refine Nat.le_trans ?_ (by decide : 1000 ≤ sizeLine)
              rw [List.length_map, List.length_map, List.length_take, List.length_drop]
              omega
            · refine hC c2 (cutAt i (S.getD k [])) _ (sTT.trans (u2.trans (same_new nc2))) (Same.free (sTT.trans u2) nc2) hw ?_
              rw [upd_same]
              unfold cutAt
              rw [List.map_append]
        · skip
          have lS : S.length = n' + 1 := hS.len
          have eO : outW S j i (n' + 1) = outM S j i := by unfold outM; rw [lS]
          rw [eO] at nR
          have qO : Sq n' (outM S j i) := qS.out (by omega) (by omega)
          have S6 := s5.trans s6
          have F6 := F5.same s6
          have hl6 := s6 _ _ hl5
          have tl : ((((undM (n' + 1) S).getD i []).take j).map V.int).length < sizeLine := by
            rw [List.length_map, List.length_take]
            exact Nat.lt_of_le_of_lt (Nat.min_le_left _ _) (Nat.lt_of_lt_of_le (by omega : j < 10) (by decide))
          have fin : ∀ H8 (x : Int), Same H6 H8 → x = detM (n' + 1) S * cofM n' S j i → ∃ y6 y7 y8 y9, [some (V.ref b0), some (.int ((n' + 1 : Nat) : Int)), some (.int (detM (n' + 1) S)), some (.ref Df), some (.int (i : Nat)), some (.ref l), some (.int (j : Nat)), some (.ref Dr), x8, x9] = [some (V.ref b0), some (.int ((n' + 1 : Nat) : Int)), some (.int (detM (n' + 1) S)), some (.ref Df), some (.int (i : Nat)), some (.ref l), y6, y7, y8, y9] ∧ Same H (upd H8 l (.lst ((((undM (n' + 1) S).getD i []).take j).map V.int ++ [V.int x]))) ∧ Fnd H (upd H8 l (.lst ((((undM (n' + 1) S).getD i []).take j).map V.int ++ [V.int x]))) Df cs (undM (n' + 1) S) ∧ (upd H8 l (.lst ((((undM (n' + 1) S).getD i []).take j).map V.int ++ [V.int x]))) l = some (.lst ((((undM (n' + 1) S).getD i []).take (j + 1)).map V.int)) := fun H8 x s8 ex => by
            refine ⟨_, _, _, _, rfl, (RX.mut (p := none) (RX.of (S6.trans s8)) nlH has_none).same, (F6.same s8).mut lcs lD, ?_⟩
            rw [upd_same, und_take hi hj, List.map_append, ex]
            rfl
          refine r_next (n_bm ⟨_, rfl, .inl ⟨rfl, _, .inl (.inl hl6)⟩, r_cons (r_tt (r_op (r_op (r_op (r_op ⟨_, rfl, _, rfl, _, _, rfl, rfl, _, _, rfl, rfl, ⟨by decide, by decide⟩, _, _, rfl, rfl, .inr ⟨by decide, by decide⟩, _, rfl, _, rfl, _, _, rfl, rfl, rfl, _, rfl, ?_⟩)))))⟩)
          have cO : cofM n' S j i = if (j + i) % 2 = 0 then detM n' (outM S j i) else -detM n' (outM S j i) := by unfold cofM; rfl
          by_cases z : (j + i) % 2 = 0
          · have e : (((i : Nat) : Int) + ((j : Nat) : Int)) / 2 * 2 = ((i : Nat) : Int) + ((j : Nat) : Int) := by omega
            rw [show decide ((fun i j : Int => V.int (i * j)) ((((i : Nat) : Int) + ((j : Nat) : Int)) / 2) 2 = (fun i j : Int => V.int (i + j)) ((i : Nat) : Int) ((j : Nat) : Int)) = true from decide_eq_true (congrArg V.int e)]
            refine iteT ⟨_, rfl, a1 ⟨_, rfl, .ref Dr, outM S j i, rfl, nR.py, by omega, qO, fun H8 s8 => ⟨_, _, rfl, rfl, Wd.mulW (det_wid (by omega) qS) (det_wid (by omega) qO), l, _, _, rfl, rfl, s8 _ _ hl6, tl, fin H8 _ s8 ?_⟩⟩⟩
            rw [cO, if_pos z]
            rfl
          · have e : ¬ (((i : Nat) : Int) + ((j : Nat) : Int)) / 2 * 2 = ((i : Nat) : Int) + ((j : Nat) : Int) := by omega
            rw [show decide ((fun i j : Int => V.int (i * j)) ((((i : Nat) : Int) + ((j : Nat) : Int)) / 2) 2 = (fun i j : Int => V.int (i + j)) ((i : Nat) : Int) ((j : Nat) : Int)) = false from decide_eq_false (fun k => e (V.int.inj k))]
            refine iteF ⟨_, rfl, a1 ⟨_, rfl, .ref Dr, outM S j i, rfl, nR.py, by omega, qO, fun H8 s8 => ⟨_, _, rfl, rfl, Wd.mulW (det_wid (by omega) qS) (det_wid (by omega) qO), _, _, rfl, rfl, l, _, _, rfl, rfl, s8 _ _ hl6, tl, fin H8 _ s8 ?_⟩⟩⟩
            rw [cO, if_neg z]
            show 0 - detM (n' + 1) S * detM n' (outM S j i) = _
            grind
      · obtain ⟨x6, x7, x8, x9, rfl, s5, F5, hl5⟩ := hP
        refine n_bm ⟨_, rfl, .inl ⟨rfl, _, .inl (.inl F5.top)⟩, r_cons ⟨_, rfl, Df, _, _, rfl, rfl, F5.top, ?_, ?_⟩⟩
        · rw [List.length_map, lc]
          exact Nat.lt_of_lt_of_le (by omega : i < 10) (by decide)
        · have lrow : ((undM (n' + 1) S).getD i []).length = n' + 1 := by rw [und_row hi]; simp
          rw [List.take_of_length_le (by omega)] at hl5
          refine ⟨_, _, _, _, _, _, cs ++ [l], rfl, (RX.mut (p := none) (RX.of s5) nDfH has_none).same, F5.push lD nlH (by rw [lc]; exact hl5), by rw [List.length_append, lc]; rfl⟩
    · obtain ⟨x4, x5, x6, x7, x8, x9, cs, rfl, s3, F3, lc⟩ := hP
      refine r_nret ⟨_, rfl, q Df H' s3 (newM nDfH F3.top (by rw [List.length_map, lc, und_sh.len]) fun i v e => ?_)⟩
      rw [List.getElem?_map] at e
      obtain ⟨b, eb, rfl⟩ := Option.map_eq_some_iff.mp e
      exact ⟨b, rfl, F3.row i b eb, F3.fr b (List.mem_of_getElem? eb)⟩
end
end T34
set_option Elab.async false
set_option linter.all false
set_option maxRecDepth 100000
set_option maxHeartbeats 4000000
namespace T34
open PySem PySem.Spec PyProof.Rows L2 Gd Zn Rp Dn Tb Gn En Zs Ct Op Oc Rg Rt Ro Oa
def rowsU (n : Nat) : List (List Int) := if n = 1 then [[1]] else if n = 2 then [[1, 0], [0, 1], [1, 1]] else [[1, 0, 0], [0, 1, 0], [0, 0, 1], [1, 1, 0], [1, 0, 1], [0, 1, 1]]
theorem worths_tell {n : Nat} {L G : List (List Int)} (h1 : 1 ≤ n) (h3 : n ≤ 3) (hL : Sh n L) (hG : Sh n G) (sL : transp n L = L) (sG : transp n G = G) : (∀ r ∈ rowsU n, btwM L r r = btwM G r r) ↔ L = G := by
  refine ⟨fun h => ?_, fun e r _ => by rw [e]⟩
  have : n = 1 ∨ n = 2 ∨ n = 3 := by omega
  rcases this with rfl | rfl | rfl
  · obtain ⟨a, rfl⟩ := sh1 hL rfl
    obtain ⟨b, rfl⟩ := sh1 hG rfl
    have k := h [1] (by decide)
    simp [btwM, ledM, dot] at k
    rw [k]
  · obtain ⟨a, b, c, rfl⟩ := sy2 hL sL
    obtain ⟨a', b', c', rfl⟩ := sy2 hG sG
    have k1 := h [1, 0] (by decide)
    have k2 := h [0, 1] (by decide)
    have k3 := h [1, 1] (by decide)
    simp [btwM, ledM, dot] at k1 k2 k3
    simp only [List.cons.injEq, and_true]
    omega
  · obtain ⟨a, b, c, d, e, f, rfl⟩ := sy3 hL sL
    obtain ⟨a', b', c', d', e', f', rfl⟩ := sy3 hG sG
    have k1 := h [1, 0, 0] (by decide)
    have k2 := h [0, 1, 0] (by decide)
    have k3 := h [0, 0, 1] (by decide)
    have k4 := h [1, 1, 0] (by decide)
    have k5 := h [1, 0, 1] (by decide)
    have k6 := h [0, 1, 1] (by decide)
    simp [btwM, ledM, dot] at k1 k2 k3 k4 k5 k6
    simp only [List.cons.injEq, and_true]
    omega
theorem rowsU_len {n : Nat} (h1 : 1 ≤ n) (h3 : n ≤ 3) : ∀ r ∈ rowsU n, r.length = n ∧ Rb 1 r := by
  have : n = 1 ∨ n = 2 ∨ n = 3 := by omega
  have k : ∀ r ∈ rowsU n, r.length = n ∧ ∀ x ∈ r, x.natAbs < 2 ^ 1 := by rcases this with rfl | rfl | rfl <;> decide
  exact k
theorem tr_mul {n : Nat} {M N : List (List Int)} (h1 : 1 ≤ n) (h3 : n ≤ 3) (hM : Sh n M) (hN : Sh n N) : transp n (mulM n M N) = mulM n (transp n N) (transp n M) := by
  have : n = 1 ∨ n = 2 ∨ n = 3 := by omega
  rcases this with rfl | rfl | rfl
  · obtain ⟨a, rfl⟩ := sh1 hM rfl
    obtain ⟨b, rfl⟩ := sh1 hN rfl
    simp only [trE1, mulE1, Int.mul_comm]
  · obtain ⟨a, b, c, d, rfl⟩ := sh2 hM rfl
    obtain ⟨p, q, r, s, rfl⟩ := sh2 hN rfl
    simp only [trE2, mulE2, Int.mul_comm]
  · obtain ⟨a, b, c, d, e, f, g, h, i, rfl⟩ := sh3 hM rfl
    obtain ⟨p, q, r, s, t, u, v, w, x, rfl⟩ := sh3 hN rfl
    simp only [trE3, mulE3, Int.mul_comm]
theorem ld_mul {n : Nat} {G S U : List (List Int)} (h1 : 1 ≤ n) (h3 : n ≤ 3) (hG : Sh n G) (hS : Sh n S) (hU : Sh n U) : ldM n G (mulM n S U) = ldM n (ldM n G S) U := by
  have tS := tr_sh hS h1 h3
  have tU := tr_sh hU h1 h3
  have a1 := mul_sh h1 h3 tS hG
  have a2 := mul_sh h1 h3 hS hU
  unfold ldM
  rw [tr_mul h1 h3 hS hU, mul_assocS h1 h3 tU tS hG, mul_assocS h1 h3 tU a1 a2, ← mul_assocS h1 h3 a1 hS hU, ← mul_assocS h1 h3 tU (mul_sh h1 h3 a1 hS) hU]
theorem ld_unit {n : Nat} {G : List (List Int)} (h1 : 1 ≤ n) (h3 : n ≤ 3) (hG : Sh n G) : ldM n G (unitM n) = G := by
  have : n = 1 ∨ n = 2 ∨ n = 3 := by omega
  unfold ldM
  rw [unit_sy h1 h3]
  rcases this with rfl | rfl | rfl
  · obtain ⟨a, rfl⟩ := sh1 hG rfl
    rw [unitE1, mulE1, mulE1]; simp
  · obtain ⟨a, b, c, d, rfl⟩ := sh2 hG rfl
    rw [unitE2, mulE2, mulE2]; simp
  · obtain ⟨a, b, c, d, e, f, g, h, i, rfl⟩ := sh3 hG rfl
    rw [unitE3, mulE3, mulE3]; simp
theorem btw_led {n : Nat} {G S : List (List Int)} {x y : List Int} (h1 : 1 ≤ n) (h3 : n ≤ 3) (hG : Sh n G) (hS : Sh n S) (hx : x.length = n) (hy : y.length = n) : btwM (ldM n G S) x y = btwM G (ledM S x) (ledM S y) := by
  have : n = 1 ∨ n = 2 ∨ n = 3 := by omega
  unfold ldM
  rcases this with rfl | rfl | rfl
  · obtain ⟨a, rfl⟩ := sh1 hG rfl
    obtain ⟨b, rfl⟩ := sh1 hS rfl
    obtain ⟨x, rfl⟩ := len1 hx
    obtain ⟨y, rfl⟩ := len1 hy
    rw [trE1, mulE1, mulE1]
    simp [btwM, ledM, dot]
    grind
  · obtain ⟨a, b, c, d, rfl⟩ := sh2 hG rfl
    obtain ⟨p, q, r, s, rfl⟩ := sh2 hS rfl
    obtain ⟨x, x', rfl⟩ := len2 hx
    obtain ⟨y, y', rfl⟩ := len2 hy
    rw [trE2, mulE2, mulE2]
    simp [btwM, ledM, dot]
    grind
  · obtain ⟨a, b, c, d, e, f, g, h, i, rfl⟩ := sh3 hG rfl
    obtain ⟨p, q, r, s, t, u, v, w, z, rfl⟩ := sh3 hS rfl
    obtain ⟨x, x', x'', rfl⟩ := len3 hx
    obtain ⟨y, y', y'', rfl⟩ := len3 hy
    rw [trE3, mulE3, mulE3]
    simp [btwM, ledM, dot]
    grind
/-- kept by a table, kept by the undone one -/
theorem keeps_und {n : Nat} {G S : List (List Int)} (gS : Gr n S) (hG : Sh n G) : ldM n G (undM n S) = G ↔ ldM n G S = G := by
  have h1 := gS.h1
  have h3 := gS.h3
  constructor
  · intro e
    have k : ldM n (ldM n G (undM n S)) S = G := by rw [← ld_mul h1 h3 hG und_sh gS.sh, und_mul gS, ld_unit h1 h3 hG]
    rw [e] at k
    exact k
  · intro e
    have k : ldM n (ldM n G S) (undM n S) = G := by rw [← ld_mul h1 h3 hG gS.sh und_sh, mul_und gS, ld_unit h1 h3 hG]
    rw [e] at k
    exact k
end T34
set_option Elab.async false
set_option linter.all false
set_option maxRecDepth 100000
set_option maxHeartbeats 4000000
namespace T34
open PySem PySem.Spec PyProof.Rows L2 Gd Zn Rp Dn Tb Gn En Zs Ct Op Oc Rg Rt Ro Oa
def nrW (i : Nat) : Nat := if i = 2 then 1 else 0
def frW (i : Nat) : Nat := if i = 0 then 1 else 2
def cntW (n i : Nat) : Nat := if n = 1 then 1 else if n = 2 then (if i = 0 then 2 else 3) else 3 + i
theorem cnt_step {n i : Nat} (h1 : 1 ≤ n) (h3 : n ≤ 3) (hi : i < 3) (hf : frW i < n) : nrW i < cntW n i ∧ frW i < cntW n i ∧ cntW n (i + 1) = cntW n i + 1 ∧ cntW n i < (rowsU n).length ∧ (rowsU n).getD (cntW n i) [] = addL ((rowsU n).getD (nrW i) []) ((rowsU n).getD (frW i) []) := by
  have hn : n = 1 ∨ n = 2 ∨ n = 3 := by omega
  have : i = 0 ∨ i = 1 ∨ i = 2 := by omega
  rcases hn with rfl | rfl | rfl <;> rcases this with rfl | rfl | rfl <;> first | (exact absurd hf (by decide)) | decide
theorem cnt_skip {n i : Nat} (h1 : 1 ≤ n) (h3 : n ≤ 3) (hi : i < 3) (hf : ¬ frW i < n) : cntW n (i + 1) = cntW n i := by
  have hn : n = 1 ∨ n = 2 ∨ n = 3 := by omega
  have : i = 0 ∨ i = 1 ∨ i = 2 := by omega
  rcases hn with rfl | rfl | rfl <;> rcases this with rfl | rfl | rfl <;> first | rfl | (exact absurd (by decide) hf)
theorem cnt_end {n : Nat} (h1 : 1 ≤ n) (h3 : n ≤ 3) : cntW n 3 = (rowsU n).length ∧ cntW n 0 = n ∧ cntW n 3 ≤ 6 := by
  have : n = 1 ∨ n = 2 ∨ n = 3 := by omega
  rcases this with rfl | rfl | rfl <;> decide
theorem cnt_le {n i : Nat} (h1 : 1 ≤ n) (h3 : n ≤ 3) (hi : i ≤ 3) : cntW n i ≤ 6 := by
  unfold cntW
  split <;> (try split) <;> (try split) <;> omega
theorem unit_row {n i : Nat} (h1 : 1 ≤ n) (h3 : n ≤ 3) (hi : i < n) : (rowsU n).getD i [] = (List.range n).map fun j => if j = i then 1 else 0 := by
  rcases lt_cases h3 hi with ⟨rfl, rfl⟩ | ⟨rfl, rfl | rfl⟩ | ⟨rfl, rfl | rfl | rfl⟩ <;> decide
theorem yl_tup {p : Option Addr} {σ : L2.St} {t : TA} {ds : List PyData} (a : YLs p σ t ds) (l : ds.length ≤ 1000) : YL p σ (tTup t) (.tuple ds) := fun H Q hp q => r_tup (a H _ hp fun xs H1 s1 p1 => ⟨Nat.le_trans (by rw [pyVs_len p1]; exact l) (by decide), fun b nb => by
  have n : p ≠ some b := (hp.to (RX.of (p := p) s1)).ne nb
  refine q _ _ (s1.trans (same_new nb)) (.tup (by rw [hid_at n, upd_same]) (PyVs.mono (RX.new (p := p) nb).hid p1))⟩)
def pairD (i : Nat) : PyData := .tuple [.int (nrW i), .int (frW i)]
theorem pair_at {H : Hp} {xs : List V} (h : PyVs H xs [pairD 0, pairD 1, pairD 2]) {i : Nat} (hi : i < 3) : ∃ t : Addr, xs[i]? = some (.ref t) ∧ H t = some (.tup [.int (nrW i), .int (frW i)]) := by
  have k : ∀ {v : V} {a b : Int}, PyV H v (.tuple [.int a, .int b]) → ∃ t : Addr, v = .ref t ∧ H t = some (.tup [.int a, .int b]) := fun h => by
    cases h with
    | tup e q =>
      cases q with
      | cons q1 q =>
        cases q with
        | cons q2 q =>
          cases q
          cases q1
          cases q2
          exact ⟨_, rfl, e⟩
  cases h with
  | cons a h =>
    cases h with
    | cons b h =>
      cases h with
      | cons c h =>
        cases h
        have : i = 0 ∨ i = 1 ∨ i = 2 := by omega
        rcases this with rfl | rfl | rfl
        · obtain ⟨t, rfl, e⟩ := k a; exact ⟨t, rfl, e⟩
        · obtain ⟨t, rfl, e⟩ := k b; exact ⟨t, rfl, e⟩
        · obtain ⟨t, rfl, e⟩ := k c; exact ⟨t, rfl, e⟩
theorem r_forS {K : PySem.W.Frag} {tl : TE} {g : TG} {tb : TS} {D : Ends} {σ : L2.St} {H : Hp} (h : tl σ H fun x H1 => ∃ t a xs, x = .ref a ∧ SqV K H1 t a xs ∧ tFor (fun _ H R => R (Its t K a) H) g tb D σ H1) : tFor (iSeq K tl) g tb D σ H := h
theorem yl_pairs {σ : L2.St} : YL none σ (tLst (tCons (tTup (tCons (tC (V.int 0)) (tCons (tC (V.int 1)) tNil))) (tCons (tTup (tCons (tC (V.int 0)) (tCons (tC (V.int 2)) tNil))) (tCons (tTup (tCons (tC (V.int 1)) (tCons (tC (V.int 2)) tNil))) tNil)))) (.list [pairD 0, pairD 1, pairD 2]) :=
  yl_lst (yls_cons (yl_tup (yls_cons (yl_int 0) (yls_cons (yl_int 1) yls_nil)) (by decide)) (yls_cons (yl_tup (yls_cons (yl_int 0) (yls_cons (yl_int 2) yls_nil)) (by decide)) (yls_cons (yl_tup (yls_cons (yl_int 1) (yls_cons (yl_int 2) yls_nil)) (by decide)) yls_nil))) (by decide)
theorem Fnd.ext0 {H0 H : Hp} {D : Addr} {cs : List Addr} {M : List (List Int)} (h : Fnd H0 H D cs M) : upd H D (.lst (cs.map V.ref ++ [])) = H := by
  funext a
  by_cases e : a = D
  · subst e
    rw [upd_same, h.top, List.append_nil]
  · rw [upd_ne e]
theorem r_eqLi {K : PySem.W.Frag} {H : Hp} {a b : Addr} {xs ys : List Int} {Q : VK} (ha : H a = some (.lst (xs.map V.int))) (hb : H b = some (.lst (ys.map V.int))) (q : Q (.bl (decide (xs = ys))) H) : rEqD K (.ref a) (.ref b) H Q := by
  refine ⟨.list (xs.map PyData.int), .list (ys.map PyData.int), dp_listL ha, dp_listL hb, shaped_intsL xs, shaped_intsL ys, ?_⟩
  rw [PyData.eqv, eqv_row]
  exact q
section
variable {P : Program} {w : World} {K : PySem.W.Frag} {mg : Str → Option Value} {base : Heap} {C F : Addr}
abbrev st_wk : Stmt := top 50
abbrev N_wk : List Str := ["_law_form_here", "_law_table_here", "_law_size", "_law_rows", "_law_place", "_law_at", "_law_near", "_law_far", "_law_one", "_law_other", "_law_row"]
theorem sc_wk : FnScope N_wk ["_law_form_here", "_law_table_here"] (defScope st_wk) := ⟨rfl, rfl, rfl, by decide +kernel, rfl, by decide +kernel, by decide +kernel⟩
def sp_wk (C F : Addr) : Sp := fun vs H Q _ => ∃ (v o : V) (G S : List (List Int)) (n b c : Nat), vs = [v, o] ∧ Fv F H v n b G ∧ Tv C H o n c S ∧ b ≤ 1000 ∧ c ≤ 1000 ∧ ∀ H', Same H H' → Q (.bl (decide (ldM n G S = G))) H'
theorem ok_wk {f : Addr} {fd : FuncData} (F' : Fun K "_law_worths_kept" "_law_worths_kept" st_wk f fd) (T : Txt mg) (Fc : Fcl K mg F) (Tc : Tcl K mg C) (D1 : Prp P w K mg base F "size" 1 (sp_size F)) (D2 : Mtd P w K mg base F "worth" 6 ["self", "row"] (sp_worth F)) (D3 : Mtd P w K mg base C "lead" 5 ["self", "row"] (sp_lead C)) :
    FnOk P w K mg base CX0 7 f fd ["_law_form_here", "_law_table_here"] (sp_wk C F) := by
  refine F'.ok sc_wk (fun vs H Q E h => ?_) (fun cdv A outer s H vs Q E hr h => ?_)
  · obtain ⟨v, o, G, S, n, b, c, rfl, _⟩ := h
    rfl
  · obtain ⟨v, o, G, S, n, b, c, rfl, hv, ho, lb, lc, q⟩ := h
    obtain ⟨g2, gd2, mt2, G2, b2⟩ := D2.ex
    obtain ⟨g3, gd3, mt3, G3, b3⟩ := D3.ex
    have hr6 : Room 6 _ := hr
    have hr5 : Room 5 (A.deeper (envOfC "_law_worths_kept" (defScope st_wk) s.heap.objs.size f cdv)) := hr6.mono (by decide)
    refine ⟨_, pss_cons (ps_set (i := 2) sc_wk.nd rfl (Or.inr rfl) (pe_prp D1 Fc.cl hr (pv 0)))
      (pss_cons (ps_setLc (i := 3) (own := [("_law_place", 4)]) (g := gName 4) (tt := tYes) rfl sc_wk.nd rfl rfl (sw_true rfl rfl rfl (by decide +kernel)) (pi_range1 (by rfl) T.range (pa_cons (pv 2) pa_nil))
        (blkOk_by (N := N_wk) (sc := defScope st_wk) (by decide +kernel)) (fun _ _ _ _ _ => pg_name (i := 4) sc_wk.nd rfl (Or.inr rfl) (Or.inl rfl)) (fun _ _ _ _ _ => pts_nil)
        (fun s' H' C' cl' fp' => by
          refine pe_lc (own := [("_law_at", 5)]) (wi := iRng1 (tCons (tVar 2) tNil)) (g := gName 5) (tt := tYes) (te := tIf (tTest (tOp rEq (tVar 5) (tVar 4))) (tC (.int 1)) (tC (.int 0))) rfl sc_wk.nd ?p1 ?p2 ?p3 ?p4 ?p5
          case p1 => exact pi_range1 (by rfl) T.range (pa_cons (pv 2) pa_nil)
          case p2 => exact blkOk_by (N := N_wk) (by rfl)
          case p3 => exact (fun _ _ _ _ _ => pg_name (i := 5) sc_wk.nd rfl (Or.inl rfl) (Or.inr rfl))
          case p4 => exact (fun _ _ _ _ _ => pts_nil)
          case p5 => exact (fun _ _ _ _ _ => pe_ifExp (pt_cmpR op_eq (pv 5) (pv 4) (nomark _)) pe_int pe_int)))
      (pss_cons (ps_for PassesOwn.never rfl (pi_seq (pe_lst (pa_cons (pe_tup (pa_cons pe_int (pa_cons pe_int pa_nil))) (pa_cons (pe_tup (pa_cons pe_int (pa_cons pe_int pa_nil))) (pa_cons (pe_tup (pa_cons pe_int (pa_cons pe_int pa_nil))) pa_nil)))))
          (pg_tup rfl (pgs_cons (pg_name (i := 6) sc_wk.nd rfl (Or.inl rfl)) (pgs_cons (pg_name (i := 7) sc_wk.nd rfl (Or.inl rfl)) pgs_nil)))
        (pss_one (ps_expr (pe_bm PySem.F.plainAttrs_list PySem.F.slot_list_extend PySem.F.type_list_extend mt_extend (pv 3) (pa_cons (pe_ifExp (pt_cmpR op_lt (pv 7) (pv 2) (nomark _))
          (pe_lst (pa_cons (pe_lc (own := [("_law_one", 8), ("_law_other", 9)]) (g := gTup K 2 (gCons (gName 8) (gCons (gName 9) gNil))) (tt := tYes) rfl sc_wk.nd (pi_zipn (by rfl) T.zip (pa_cons (pe_ix ix_sq (pv 3) (pv 6) (fun _ _ => rfl)) (pa_cons (pe_ix ix_sq (pv 3) (pv 7) (fun _ _ => rfl)) pa_nil)))
            (blkOk_by (N := N_wk) (sc := defScope st_wk) (by decide +kernel)) (fun _ _ _ _ _ => pg_tup rfl (pgs_cons (pg_name (i := 8) sc_wk.nd rfl (Or.inl rfl) (Or.inr rfl)) (pgs_cons (pg_name (i := 9) sc_wk.nd rfl (Or.inl rfl) (Or.inr rfl)) pgs_nil))) (fun _ _ _ _ _ => pts_nil)
            (fun _ _ _ _ _ => pe_op op_add (pv 8) (pv 9))) pa_nil)) (pe_lst pa_nil)) pa_nil)))))
      (pss_one (ps_ret (pe_cmpR (op_eqD hr.units) (pe_lc (own := [("_law_row", 10)]) (g := gName 10) rfl sc_wk.nd (pi_seq (pv 3))
        (blkOk_by (N := N_wk) (sc := defScope st_wk) (by decide +kernel)) (fun _ _ _ _ _ => pg_name (i := 10) sc_wk.nd rfl (Or.inl rfl) (Or.inr rfl))
        (fun _ _ _ _ _ => pts_one (pt_cmpR op_ne (pe_meth (X := Cx.blk _ _ _ _ _ _) (pv 0) Fc.cl mt2 G2 hr6 b2 .nil pass0 (pa_cons (pe_meth (X := Cx.blk _ _ _ _ _ _) (pv 1) Tc.cl mt3 G3 hr5 b3 .nil pass0 (pa_cons (pv 10) pa_nil)) pa_nil)) (pe_meth (X := Cx.blk _ _ _ _ _ _) (pv 0) Fc.cl mt2 G2 hr6 b2 .nil pass0 (pa_cons (pv 10) pa_nil)) (nomark _)))
        (fun _ _ _ _ _ => pe_int)) (pe_lst pa_nil) (nomark _)))))), ?_⟩
    have h1 := hv.h1
    have h3 := hv.h3
    obtain ⟨p0, dx0, r0, rfl, hp0, hM0⟩ := id hv.tab
    refine r_seq (r_asg ⟨_, rfl, p0, dx0, _, rfl, hp0, .ref p0, G, rfl, hv.tab, ?_⟩)
    rw [hv.len]
    refine r_next (r_nseq (r_asg (tlc_call ⟨_, rfl, (n : Int), rfl, by omega, by omega, ?_⟩)))
    rw [Int.toNat_natCast]
    refine lc_new (p := none) n (fun i u => u = .lst (((rowsU n).getD i []).map V.int)) has_none (by omega) (fun i H2 hi s2 => hi) (fun H2 s2 => Nat.le_refl _) (fun i x H2 H3 C' hi s2 hp2 hy hC => ?_) fun Dr H2 cs nD s2 hD hl nd nDb fr hE => ?_
    · obtain ⟨rfl, rfl⟩ := hy
      rw [show (0 : Int) + (i : Int) = (i : Int) by omega]
      refine ⟨rfl, tlc_call ⟨_, rfl, (n : Int), rfl, by omega, by omega, ?_⟩⟩
      rw [Int.toNat_natCast]
      refine lc_el (p := none) n (fun j v => v = .int (if j = i then 1 else 0)) has_none (by omega) (fun j H4 hj s4 => hj) (fun H4 s4 => Nat.le_refl _) (fun j x H4 H5 C2 hj s4 _ hy2 hC2 => ?_) fun De H4 ys nDe s4 hDe hyl hyE => ?_
      · obtain ⟨rfl, rfl⟩ := hy2
        rw [show (0 : Int) + (j : Int) = (j : Int) by omega]
        refine ⟨rfl, _, rfl, _, rfl, rfl, _, rfl, ?_⟩
        by_cases z : j = i
        · rw [show decide (V.int ((j : Nat) : Int) = V.int (i : Int)) = true by simp [z]]
          exact iteT (hC2 _ _ (RX.refl _) (by rw [if_pos z]))
        · rw [show decide (V.int ((j : Nat) : Int) = V.int (i : Int)) = false by simp; omega]
          exact iteF (hC2 _ _ (RX.refl _) (by rw [if_neg z]))
      · refine hC De H4 _ s4 nDe hDe ?_
        have ey : ys = (List.range n).map fun j => V.int (if j = i then 1 else 0) := map_of_get (n := 0) _ (by rw [hyl, List.length_range]) fun j v e => by
          have hj : j < n := by rw [← hyl]; exact (List.getElem?_eq_some_iff.mp e).1
          exact ⟨j, List.getElem?_range hj, hyE j v e⟩
        rw [ey, unit_row h1 h3 hi, List.map_map]
        rfl
    · have F0 : Fnd H H2 Dr cs (rowsU n) := ⟨hD, nDb, nD, fr, fun j b e => by
        obtain ⟨u, e1, e2⟩ := hE j b e
        rw [e1, e2]⟩
      refine r_next (r_nseq (r_forS (yl_pairs H2 _ has_none fun x H4 s4 p4 => ?_)))
      obtain ⟨La, xs, rfl, hLa4', q4⟩ : ∃ (La : Addr) (xs : List V), x = .ref La ∧ hid none H4 La = some (.lst xs) ∧ PyVs (hid none H4) xs [pairD 0, pairD 1, pairD 2] := by
        cases p4 with
        | lst e q => exact ⟨_, _, rfl, e, q⟩
      have hLa4 := hid_le _ _ hLa4'
      have lx : xs.length = 3 := by rw [pyVs_len q4]; rfl
      have pr4 : ∀ i, i < 3 → ∃ t : Addr, xs[i]? = some (.ref t) ∧ H4 t = some (.tup [.int (nrW i), .int (frW i)]) := fun i hi => pair_at (PyVs.mono hid_le q4) hi
      have neL : La ≠ Dr := fun z => by
        subst z
        rw [s4 _ _ hD] at hLa4
        cases hLa4
        cases cs with
        | nil => simp at lx
        | cons c cs =>
          obtain ⟨t, e1, e2⟩ := pr4 0 (by decide)
          obtain ⟨u, e3, e4⟩ := hE 0 c rfl
          cases e1
          rw [s4 _ _ e3, e4] at e2
          cases e2
      refine ⟨false, La, xs, rfl, .inl (.inl hLa4), ?_⟩
      have S4 := s2.same.trans s4
      refine for_by 3 (fun i σ H' => ∃ (x4 x5 x6 x7 x8 x9 x10 : Option V) (cs : List Addr), σ = [some (.ref p0), some o, some (.int n), some (.ref Dr), x4, x5, x6, x7, x8, x9, x10] ∧ Same H H' ∧ H' La = some (.lst xs) ∧ (∀ i, i < 3 → ∃ t : Addr, xs[i]? = some (.ref t) ∧ H' t = some (.tup [.int (nrW i), .int (frW i)])) ∧ Fnd H H' Dr cs (rowsU n) ∧ cs.length = cntW n i)
        ⟨_, _, _, _, _, _, _, cs, rfl, S4, hLa4, pr4, F0.same s4, by rw [hl, (cnt_end h1 h3).2.1]⟩ (fun i σ H' hi hP => ?_) (fun σ H' hP => ?_) (fun i x σ H5 H6 hi hP hy => ?_) (fun σ H' hP => ?_)
      · obtain ⟨_, _, _, _, _, _, _, _, _, _, k, _⟩ := hP
        exact its_go (t := false) (.inl (.inl k)) (List.getElem?_eq_getElem (by omega : i < xs.length))
      · obtain ⟨_, _, _, _, _, _, _, _, _, _, k, _⟩ := hP
        exact its_stop (t := false) (.inl (.inl k)) (by omega)
      · obtain ⟨x4, x5, x6, x7, x8, x9, x10, cs, rfl, s5, hLa5, pr5, F5, lc5⟩ := hP
        obtain ⟨e6, ex⟩ := its_yld (t := false) hy (.inl (.inl hLa5))
        subst e6
        obtain ⟨t, et, ht⟩ := pr5 i hi
        rw [et] at ex
        cases ex
        refine ⟨t, _, rfl, .inl (.inl ht), rfl, _, _, rfl, _, _, rfl, rfl, ?_⟩
        refine d_bm ⟨_, rfl, .inl ⟨rfl, _, .inl (.inl F5.top)⟩, r_cons (r_tt (r_op ⟨_, rfl, _, rfl, _, _, rfl, rfl, _, rfl, ?_⟩))⟩
        have lcn : cs.length ≤ 6 := by rw [lc5]; exact cnt_le h1 h3 (by omega)
        by_cases z : frW i < n
        · rw [show decide (((frW i : Nat) : Int) < ((n : Nat) : Int)) = true by simp; omega]
          obtain ⟨k1, k2, k3, k4, k5⟩ := cnt_step h1 h3 hi z
          have e1 : cs[nrW i]? = some (cs[nrW i]'(by omega)) := List.getElem?_eq_getElem _
          have e2 : cs[frW i]? = some (cs[frW i]'(by omega)) := List.getElem?_eq_getElem _
          have ha := F5.row _ _ e1
          have hb := F5.row _ _ e2
          have rl : ∀ k, k < (rowsU n).length → ((rowsU n).getD k []).length = n := fun k hk => (rowsU_len h1 h3 _ (getD_mem hk)).1
          have la := rl (nrW i) (by omega)
          have lb' := rl (frW i) (by omega)
          generalize (rowsU n).getD (nrW i) [] = X at ha la k5
          generalize (rowsU n).getD (frW i) [] = Y at hb lb' k5
          have qa : ∀ H', Same H6 H' → SqV K H' false cs[nrW i] (X.map V.int) := fun H' u => .inl (.inl (u _ _ ha))
          have qb : ∀ H', Same H6 H' → SqV K H' false cs[frW i] (Y.map V.int) := fun H' u => .inl (.inl (u _ _ hb))
          have sq2 : ∀ H', Same H6 H' → AllSq K H' [(false, cs[nrW i]), (false, cs[frW i])] := fun H' u x hx => by
            rcases List.mem_cons.mp hx with rfl | hx
            · exact ⟨_, qa H' u⟩
            · rw [List.mem_singleton.mp hx]
              exact ⟨_, qb H' u⟩
          refine iteT (r_lst (r_cons (tlc_call ⟨_, rfl, _, rfl, false, Dr, _, _, _, rfl, rfl, .inl (.inl F5.top), ixR e1, _, rfl, _, rfl, false, Dr, _, _, _, rfl, rfl, .inl (.inl F5.top), ixR e2, [(false, cs[nrW i]), (false, cs[frW i])], rfl, Nat.zero_lt_succ _, (by show 2 ≤ 3; decide), sq2 H6 (Same.refl H6), ?_⟩)))
          refine lc_el (p := none) n (fun l v => ∃ x y, X[l]? = some x ∧ Y[l]? = some y ∧ v = .int (x + y)) has_none (by omega) (fun l H7 hl s7 => ?_) (fun H7 s7 => ?_) (fun l x H7 H8 C3 hl s7 _ hy3 hC3 => ?_) fun Dd H7 zs nDd s7 hDd hzl hzE => ?_
          · exact ⟨[.int (X[l]'(by omega)), .int (Y[l]'(by omega))], row2 (qa H7 s7.same) (by simp [(by omega : l < X.length)]) (qb H7 s7.same) (by simp [(by omega : l < Y.length)])⟩
          · exact ⟨sq2 H7 s7.same, (false, cs[nrW i]), List.mem_cons_self, _, qa H7 s7.same, by simp; omega⟩
          · have l1 : l < X.length := by omega
            have l2 : l < Y.length := by omega
            obtain ⟨T2, ws, rfl, nT, rfl, hu⟩ := hy3
            have ez : ws = [.int X[l], .int Y[l]] := (hu _ (row2 (qa H7 s7.same) (by simp [l1]) (qb H7 s7.same) (by simp [l2]))).symm
            subst ez
            refine ⟨T2, _, rfl, .inl (.inl upd_same), rfl, _, _, rfl, _, _, rfl, rfl, rfl, ?_⟩
            exact ⟨_, rfl, _, rfl, _, _, rfl, rfl, hC3 _ _ (RX.new nT) ⟨_, _, List.getElem?_eq_getElem l1, List.getElem?_eq_getElem l2, rfl⟩⟩
          · have ez : zs = (addL X Y).map V.int := by
              unfold addL
              rw [List.map_map]
              exact map_of_get (n := 0) _ (by simp [hzl, la, lb']) fun i v e => by
                obtain ⟨x, y, e1, e2, e3⟩ := hzE i v e
                exact ⟨(x, y), by rw [List.getElem?_zip_eq_some]; exact ⟨e1, e2⟩, e3⟩
            have s67 := s7.same
            have F7 := F5.same s67
            have nDdH : H Dd = none := Same.free s5 nDd
            have DdD : Dd ≠ Dr := fun u => by rw [u, F5.top] at nDd; cases nDd
            have DdL : Dd ≠ La := fun u => by rw [u, hLa5] at nDd; cases nDd
            refine ⟨(by show 1 ≤ sizeLine; decide), fun l8 n8 => ?_⟩
            have s8 : Same H7 (upd H7 l8 (.lst [V.ref Dd])) := same_new n8
            have h8 : upd H7 l8 (.lst [V.ref Dd]) l8 = some (.lst [V.ref Dd]) := upd_same
            generalize upd H7 l8 (.lst [V.ref Dd]) = H8 at s8 h8
            have F8 := F7.same s8
            have s68 := s67.trans s8
            refine ⟨Dr, l8, _, _, rfl, rfl, F8.top, h8, ?_, ?_⟩
            · refine Nat.le_trans ?_ (by decide : 1000 ≤ sizeLine)
              rw [List.length_map]
              show cs.length + 1 ≤ 1000
              omega
            · have hd8 : H8 Dd = some (.lst (((rowsU n).getD cs.length []).map V.int)) := by
                rw [s8 _ _ hDd, ez, lc5, k5]
              have F9 := F8.push DdD nDdH hd8
              refine ⟨_, _, _, _, _, _, _, cs ++ [Dd], rfl, (RX.mut (p := none) (RX.of (s5.trans s68)) nD has_none).same, ?_, fun j hj => ?_, F9, by rw [List.length_append, lc5, k3]; rfl⟩
              · rw [upd_ne neL]
                exact s68 _ _ hLa5
              · obtain ⟨t', e1', e2'⟩ := pr5 j hj
                have e3' := s68 _ _ e2'
                refine ⟨t', e1', ?_⟩
                have tD : t' ≠ Dr := fun u => by
                  rw [u, F8.top] at e3'
                  cases e3'
                rw [upd_ne tD]
                exact e3'
        · rw [show decide (((frW i : Nat) : Int) < ((n : Nat) : Int)) = false by simp; omega]
          refine iteF (r_lst ⟨Nat.zero_le _, fun l8 n8 => ?_⟩)
          have s8 : Same H6 (upd H6 l8 (.lst [])) := same_new n8
          have h8 : upd H6 l8 (.lst []) l8 = some (.lst []) := upd_same
          generalize upd H6 l8 (.lst []) = H8 at s8 h8
          have F8 := F5.same s8
          refine ⟨Dr, l8, _, _, rfl, rfl, F8.top, h8, ?_, ?_⟩
          · refine Nat.le_trans ?_ (by decide : 1000 ≤ sizeLine)
            rw [List.length_map]
            show cs.length + 0 ≤ 1000
            omega
          · rw [F8.ext0]
            refine ⟨_, _, _, _, _, _, _, cs, rfl, s5.trans s8, s8 _ _ hLa5, fun j hj => ?_, F8, by rw [cnt_skip h1 h3 hi z]; exact lc5⟩
            obtain ⟨t', e1', e2'⟩ := pr5 j hj
            exact ⟨t', e1', s8 _ _ e2'⟩
      · obtain ⟨x4, x5, x6, x7, x8, x9, x10, cs, rfl, s5, hLa5, pr5, F5, lc5⟩ := hP
        have ce := cnt_end h1 h3
        have lcn : cs.length = (rowsU n).length := by rw [lc5]; exact ce.1
        have l6 : cs.length ≤ 6 := by rw [lc5]; exact ce.2.2
        have qD : ∀ H9, Same H' H9 → SqV K H9 false Dr (cs.map V.ref) := fun H9 u => .inl (.inl (u _ _ F5.top))
        have hv5 := hv.same s5
        have ho5 := ho.same s5
        refine r_nret (r_op (tlc_call ⟨_, rfl, false, Dr, _, rfl, qD _ (Same.refl _), ?_⟩))
        refine lc_if (p := none) cs.length (fun i => !decide (btwM G (ledM S ((rowsU n).getD i [])) (ledM S ((rowsU n).getD i [])) = btwM G ((rowsU n).getD i []) ((rowsU n).getD i []))) (fun _ => .int 1) has_none (by omega)
          (fun i H6 hi s6 => its_go (t := false) (qD _ s6.same) (List.getElem?_eq_getElem (by rw [List.length_map]; exact hi))) (fun H6 s6 => its_stop (t := false) (qD _ s6.same) (by rw [List.length_map]; exact Nat.le_refl _)) (fun i x H6 H7 C1 C0 hi s6 _ hy hC hC0 => ?_) fun Dz H6 nDz s6 hDz => ?_
        · obtain ⟨e7, ex⟩ := its_yld (t := false) hy (qD _ s6.same)
          subst e7
          have ec : cs[i]? = some cs[i] := List.getElem?_eq_getElem hi
          rw [List.getElem?_map, ec] at ex
          cases ex
          have hr7 := s6.same _ _ (F5.row i _ ec)
          have rU := rowsU_len h1 h3 _ (getD_mem (by omega : i < (rowsU n).length))
          generalize (rowsU n).getD i [] = X at hr7 rU hC hC0
          generalize cs[i] = ra at hr7
          obtain ⟨lX, bX⟩ := rU
          have hv7 := hv5.same s6.same
          have ho7 := ho5.same s6.same
          refine ⟨rfl, r_tt (r_op (r_meth1 ⟨_, rfl, mth hv7.tab (r_meth1 ⟨_, rfl, mth ho7.tab ⟨_, rfl, c_lead ho7 (.inl (li_of hr7)) lX (bX.small (by decide)) (by omega) fun v8 H8 s8 m8 => ?_⟩⟩)⟩))⟩
          have lS : (ledM S X).length = n := by rw [led_len, ho.bd.len]
          refine c_worth (hv7.same s8) (T34.RowV.seq m8) lS (led_rb ho.bd bX lX h3) (fun H9 s9 => ?_) ⟨by omega, by omega⟩
          have s89 := s8.trans s9
          refine r_meth1 ⟨_, rfl, mth (hv7.same s89).tab ⟨_, rfl, c_worth (hv7.same s89) (.inl (li_of (s89 _ _ hr7))) lX bX (fun H10 s10 => ?_) ⟨by omega, by omega⟩⟩⟩
          have s810 := s89.trans s10
          refine ⟨rfl, _, rfl, ?_⟩
          by_cases z : btwM G (ledM S X) (ledM S X) = btwM G X X
          · rw [show (!decide (V.int (btwM G (ledM S X) (ledM S X)) = V.int (btwM G X X))) = false by rw [z]; simp]
            exact iteF (hC0 _ (RX.of s810) (by simp [z]))
          · rw [show (!decide (V.int (btwM G (ledM S X) (ledM S X)) = V.int (btwM G X X))) = true by simp [z]]
            exact iteT (hC _ (RX.of s810) (by simp [z]))
        · refine r_lst ⟨Nat.zero_le _, fun l8 n8 => ?_⟩
          have s8 : Same H6 (upd H6 l8 (.lst [])) := same_new n8
          have h8 : upd H6 l8 (.lst []) l8 = some (.lst (([] : List Int).map V.int)) := upd_same
          have hz := s8 _ _ hDz
          rw [show (fun _ : Nat => V.int 1) = V.int ∘ (fun _ : Nat => (1 : Int)) from rfl, ← List.map_map] at hz
          refine r_eqLi hz h8 ?_
          have ee : decide ((((List.range cs.length).filter fun i => !decide (btwM G (ledM S ((rowsU n).getD i [])) (ledM S ((rowsU n).getD i [])) = btwM G ((rowsU n).getD i []) ((rowsU n).getD i []))).map fun _ : Nat => (1 : Int)) = []) = decide (ldM n G S = G) := by
            refine decide_eq_decide.mpr ?_
            rw [List.map_eq_nil_iff, List.filter_eq_nil_iff, ← worths_tell h1 h3 (ld_sh h1 h3 hv.bd.sh ho.bd.sh) hv.bd.sh (ld_sy h1 h3 hv.bd.sh ho.bd.sh hv.eq) hv.eq]
            constructor
            · intro hh r hr'
              obtain ⟨i, hi, rfl⟩ := List.getElem_of_mem hr'
              have := hh i (by rw [List.mem_range]; omega)
              have eg : (rowsU n).getD i [] = (rowsU n)[i] := by rw [List.getD_eq_getElem?_getD, List.getElem?_eq_getElem hi]; rfl
              rw [eg] at this
              have lr := (rowsU_len h1 h3 _ hr').1
              rw [btw_led h1 h3 hv.bd.sh ho.bd.sh lr lr]
              simpa using this
            · intro hh i hi
              rw [List.mem_range] at hi
              have hm := getD_mem (by omega : i < (rowsU n).length)
              have lr := (rowsU_len h1 h3 _ hm).1
              have := hh _ hm
              rw [btw_led h1 h3 hv.bd.sh ho.bd.sh lr lr] at this
              intro hc
              have hc2 := of_decide_eq_false (Bool.not_eq_true' _ |>.mp hc)
              exact hc2 this
          rw [ee]
          exact q _ (s5.trans (s6.same.trans s8))
end
end T34
set_option Elab.async false
set_option linter.all false
set_option maxRecDepth 100000
set_option maxHeartbeats 2000000
namespace Rq
open PySem PySem.Spec PyProof.Rows L2 Gd Rp
mutual
inductive PyQ (H : Hp) : V → PyData → Prop
  | non : PyQ H .non .none
  | bl (b : Bool) : PyQ H (.bl b) (.bool b)
  | int (i : Int) : PyQ H (.int i) (.int i)
  | str (x : Str) : PyQ H (.str x) (.str x)
  | lst {a : Addr} {xs : List V} {ds : List PyData} : H a = some (.lst xs) → PyQs H xs ds → PyQ H (.ref a) (.list ds)
  | tup {a : Addr} {xs : List V} {ds : List PyData} : H a = some (.tup xs) → PyQs H xs ds → PyQ H (.ref a) (.tuple ds)
  | dct {a : Addr} {kvs : List (Key × V)} {ds : List PyData} : H a = some (.dK kvs) → PyQs H (kvs.map Prod.snd) ds → PyQ H (.ref a) (.dict ((kvs.map fun p => keyD p.1).zip ds))
inductive PyQs (H : Hp) : List V → List PyData → Prop
  | nil : PyQs H [] []
  | cons {x : V} {xs : List V} {d : PyData} {ds : List PyData} : PyQ H x d → PyQs H xs ds → PyQs H (x :: xs) (d :: ds)
end
theorem PyQs.len {H : Hp} : ∀ {vs : List V} {ds : List PyData}, PyQs H vs ds → vs.length = ds.length
  | _, _, .nil => rfl
  | _, _, .cons _ q => by rw [List.length_cons, List.length_cons, q.len]
end Rq
set_option Elab.async false
set_option linter.all false
set_option maxRecDepth 100000
set_option maxHeartbeats 2000000
namespace Rs
open PySem PySem.Spec PyProof.Rows L2 Gd Rp Rq
/-- room, whatever is handled -/
structure RoomS (k : Nat) (A : Around) : Prop where
  dp : A.depth + 3 * k + 5 < recursionLimit
  un : A.units + 16 * k + 200 < cLine
theorem roomS {k : Nat} {A : Around} (r : Room k A) : RoomS k A := ⟨r.dp, r.un⟩
theorem RoomS.mono {j k : Nat} {A : Around} (r : RoomS k A) (h : j ≤ k) : RoomS j A := ⟨by have := r.dp; omega, by have := r.un; omega⟩
/-- the body's context -/
abbrev cxS (P : Program) (w : World) (K : PySem.W.Frag) (mg : Str → Option Value) (base : Heap) (N : List Str) (qual : Str) (scope : Scope) (f : Addr) (cd : Value) (A : Around) (outer : List Env) (s : Shared) (H : Hp) : Cx := { cxOf CX0 P w K mg base N qual scope f cd A outer s H E0 with calm := false }
theorem RoomS.in1 {k : Nat} {A : Around} (r : RoomS (k + 1) A) : RoomS k A.in1 := ⟨by have := r.dp; show A.depth + 3 * k + 5 < _; omega, by have := r.un; show A.units + 1 + 16 * k + 200 < _; omega⟩
theorem empty_app (s : Str) : Str.empty ++ s = s := by
  cases s with
  | mk c =>
    show Str.mk (#[] ++ c) = _
    simp
end Rs
set_option Elab.async false
set_option linter.all false
set_option maxRecDepth 100000
set_option maxHeartbeats 2000000
namespace PySem
open Sem (wp)
open Builtin
open Builtin.List
end PySem
set_option Elab.async false
set_option linter.all false
set_option maxRecDepth 100000
set_option maxHeartbeats 4000000
namespace Rh
open PySem PySem.W PySem.Spec PySem.Calls PyProof.Rows L2 Gd Rp Rq Rs
open PySem.Builtin PySem.Builtin.List
section
variable {prog : Program} {w : World} {A : Around} {E : Value → Shared → Prop} {s : Shared} {K : Frag} {x C f : Addr} {ox : Obj} {od : Option Obj}
/-- an item that is an instance with an own __repr__ -/
theorem under_K {n : Nat} {Q : Str → Shared → Prop} (X : K.In s.heap) (I : InstAt s.heap x ox C od) (hs : findIn K (.ref C) "__repr__" = some (some (.ref f))) (hf : isFn K (.ref f) = true) (hb : n ≤ sizeLine) (hu : A.units < cLine)
    (h : wpAny (model prog w) A (call (.ref f) [.ref x]) (fun v s' => ∃ t u, v = .str t u ∧ Q t s') E s) : wpAny (model prog w) A (pyReprUnder n (.ref x)) Q E s := by
  refine wpAny_pyReprUnder_ref hb ?_
  unfold pyReprObjUnder pyReprObjBy
  refine wpAny_bind (wpAny_cRoomFor hu (wpAny_bind (wpAny_bind (I.type.here ((looks_findIn X hs).here ?_)))))
  show wpAny _ _ (if (some (Value.ref f)).isNone = true then _ else _) _ _ _
  rw [if_neg (by simp)]
  refine wpAny_bind ?_
  simp only [callSpecialIfBoundBy?, bindSpecialIfBound?]
  refine wpAny_holding (wpAny_bind (wpAny_bind (wpAny_bind (I.type.here ((looks_findIn X hs).here (wpAny_bind (wpAny_askSetting (wpAny_ite ?_))))))))
  have go : ∀ {Q2 : Option Value → Shared → Prop}, wpAny (model prog w) A (call (.ref f) [.ref x]) (fun v => Q2 (some v)) E s → wpAny (model prog w) A (call (.ref f) ([.ref x] ++ []) >>= fun v => pure (some v)) Q2 E s := fun z => wpAny_bind (wpAny_mono z (fun v s' k => wpAny_pure k) fun _ _ k => k)
  have end_ : wpAny (model prog w) A (call (.ref f) [.ref x]) (fun v s' => wpAny (model prog w) A (match (some v : Option Value) with
      | some r => do if ← isInstance r (.type "str") then pure r else raiseError "TypeError" s!"__repr__ returned non-string (type {← typeNameOf r})"
      | none => unsupported "repr:special-get-raises") (fun v s' => ∃ t u, v = .str t u ∧ Q t s') E s') E s := wpAny_mono h (fun v s' ⟨t, u, e, q⟩ => by
    subst e
    exact wpAny_bind (wpAny_isInstance (T := "str") (b := true) rfl isSubtype_str_str (wpAny_pure ⟨t, u, rfl, q⟩))) fun _ _ k => k
  split
  · exact wpAny_bind ((bind_fn X _ (beq_iff_eq.mp hf)).here (wpAny_pure (by exact go end_)))
  · exact wpAny_tryCatch (wpAny_bind ((bind_fn X _ (beq_iff_eq.mp hf)).here (wpAny_pure (by exact go end_))))
end
/-- a list that no data may hold: an instance is in it -/
def Odd (H : Hp) (a0 : Addr) : Prop := ∃ us c C dx fs, H a0 = some (.lst us) ∧ V.ref c ∈ us ∧ H c = some (.ins C dx fs)
theorem odd_no {P : Program} {w : World} {H : Hp} {h h2 : Heap} {a0 : Addr} (ok : HOk P w H h) (k : ∀ b o, h.get? b = some o → h2.get? b = some o) (o : Odd H a0) : ∀ d as, ¬ Reads h2 (.ref a0) d as := fun d as r => by
  obtain ⟨us, c, C, dx, fs, e, hm, ec⟩ := o
  obtain ⟨_, its, n, rv, eo⟩ := ok a0 _ e
  obtain ⟨mA, O, _⟩ := ins_get ok ec
  obtain ⟨od, I, _⟩ := O.look
  have eo := k _ _ eo
  have ei := k _ _ I.at_
  have key : ∀ {us : List V} {its : List Value} {ds : List PyData} {as : List Addr}, Vals us its → V.ref c ∈ us → ¬ ReadsAll h2 its ds as := by
    intro us its ds as rv
    induction rv generalizing ds as with
    | nil => intro hm; cases hm
    | cons r1 rs ih =>
      intro hm q
      cases q with
      | cons q1 q2 =>
        rcases List.mem_cons.mp hm with z | z
        · subst z
          cases (show _ = Value.ref c from r1)
          cases q1 with
          | list y1 y2 _ _ => rw [ei] at y1; cases y1; cases y2
          | tuple y1 y2 _ _ => rw [ei] at y1; cases y1; cases y2
          | dict y1 y2 _ _ _ => rw [ei] at y1; cases y1; cases y2
        · exact ih z q2
  cases r with
  | list y1 y2 y3 y4 =>
    rw [eo] at y1; cases y1
    have y3 : Data.seq its.toArray n = Data.seq _ _ := y3
    cases y3
    exact key rv hm (by simpa using y4)
  | tuple y1 y2 _ _ =>
    rw [eo] at y1; cases y1
    exact absurd (Value.type.inj y2) (by decide)
  | dict y1 y2 _ _ _ =>
    rw [eo] at y1; cases y1
    exact absurd (Value.type.inj y2) (by decide)
/-- the guard of a list that is being told -/
def Hot (a0 : Addr) (A : Around) : Prop := ∃ rest kw, A.guards = some [Code.builtin "list.__repr__.loop" ⟨.ref a0 :: rest, kw⟩]
structure FnH (a0 : Addr) (P : Program) (w : World) (K : PySem.W.Frag) (mg : Str → Option Value) (base : Heap) (k : Nat) (f : Addr) (fd : FuncData) (ps : List Str) (sp : Sp) : Prop where
  len : ∀ vs H Q E, sp vs H Q E → vs.length = ps.length
  run : ∀ (A : Around) (outer : List Env) (s : Shared) (H : Hp) (ar : Args) (us : List Value) (vs : List V) (Q : VK), Hot a0 A → RoomS k A → Env0 P w K mg base A outer s H → BindsTo s fd ar (ps.zip us) → Vals vs us → sp vs H Q E0 →
    codeAny (model P w) A (.call (.ref f) ar) (CR CX0 outer P w H s Q E0) s
section
variable {a0 : Addr} {P : Program} {w : World} {K : PySem.W.Frag} {mg : Str → Option Value} {base : Heap}
theorem fnH_of {k : Nat} {x qual : Str} {st : Stmt} {f : Addr} {fd : FuncData} {N ps : List Str} {sp : Sp} (F : Fun K x qual st f fd) (S : FnScope N ps (defScope st)) (len : ∀ vs H Q E, sp vs H Q E → vs.length = ps.length)
    (hb : ∀ (cdv : Value) (A : Around) (outer : List Env) (s : Shared) (H : Hp) (vs : List V) (Q : VK), Hot a0 A → RoomS k A → sp vs H Q E0 →
      ∃ t, PSs (cxS P w K mg base N qual (defScope st) f cdv A outer s H) (defBody st) t ∧ t { nx := fun _ H2 => Q .non H2, rt := Q } (start N vs) H) : FnH a0 P w K mg base (k + 1) f fd ps sp := by
  obtain ⟨oc, od, kV, doc, pm, an, cdv, ct, osl, rfl, hlk, hco⟩ := F.ex
  refine ⟨len, fun A outer s H ar us vs Q hst room e0 bind rv hsp => ?_⟩
  have hlen := len vs H Q E0 hsp
  have inK : K.In s.heap := e0.mod.kin.keeps fun b o e => (e0.bs b o e).1
  have noLim : s.heap.NoLimit := e0.mod.nolimit.keeps fun b o e => (e0.bs b o e).1
  have kinds : ∀ y ∈ ps.zip us, (defScope st).names.lookup y.1 = some .local ∨ ((defScope st).names.lookup y.1 = some .cell ∧ ((cellsFrom (s.heap.objs.size + 1) (defScope st).names []).lookup y.1).isSome = true) := by
    rintro ⟨n, v⟩ hy
    rcases S.par n (List.of_mem_zip hy).1 with q | q
    · exact .inl q
    · exact .inr ⟨q, PySem.W.cellsFrom_some _ _ _ (.inl q)⟩
  refine codeAny_call_function (by have := room.dp; omega) (inK f _ hlk) rfl S.co S.gen rfl (PySem.W.codeRec_of inK hco) (bind _ _ _ _ ?_)
  refine wpAny_newFunctionEnv_cells S.kind kinds fun env henv s2 inc => ?_
  subst henv
  refine ⟨noLim.keeps inc.toInCall.keep, codeAny_func ?_⟩
  obtain ⟨t, der, rd⟩ := hb cdv A outer s H vs Q hst ⟨by have := room.dp; omega, by have := room.un; omega⟩ hsp
  have e1 : Env0 P w K mg base { A with handled := none } outer s H := ⟨e0.frames, e0.mod, e0.bs, e0.bsz, e0.funs, e0.frf, e0.hok, e0.bare⟩
  have J := inv_start (CX := CX0) (E := E0) (f := f) (cd := cdv) (qual := qual) S rfl e1 hlen rv inc
  have J2 : Inv (cxS P w K mg base N qual (defScope st) f cdv A outer s H) [] (start N vs) H s2 :=
    ⟨⟨J.ok.mod, J.ok.kind, J.ok.glob, J.ok.blt, J.ok.above, J.ok.inj, J.ok.has, J.ok.cab, (fun z => Bool.noConfusion (show false = true from z)), Around.frames_deeper e0.frames, J.ok.stk, J.ok.exf, J.ok.bs, J.ok.bsz, J.ok.noex, J.ok.exfs, J.ok.funs, J.ok.frf⟩,
      J.os, J.bare, J.base, J.loc, J.cell, J.free, J.freeC, J.pin, J.hok, J.len⟩
  refine wpAny_mono (der.run [] s2 (start N vs) H _ J2 rd) (fun fl s3 hfl => ?_) fun e s3 he => he
  have out : ∀ {σ2 : L2.St} {H2 : Hp} {v : V} {u : Value}, Inv (cxS P w K mg base N qual (defScope st) f cdv A outer s H) [] σ2 H2 s3 → RelV v u → Q v H2 → CE outer P w H s Q u s3 := fun {σ2 H2 v u} J r q => ⟨v, H2, J.os, J.bare, J.base, J.hok, r, q⟩
  cases fl with
  | ret u => obtain ⟨v, σ2, H2, J, r, q⟩ := hfl; exact out J r q
  | next => obtain ⟨σ2, H2, J, q⟩ := hfl; exact out (v := V.non) (u := Value.none) J rfl q
  | brk => obtain ⟨_, _, _, no⟩ := hfl; exact no.elim
  | cont => obtain ⟨_, _, _, no⟩ := hfl; exact no.elim
end
/-- f'{e!r}', e a tuple of data, while a list is being told -/
def tFmtH (a0 : Addr) (te : TE) : TE := fun σ H Q => te σ H fun x H1 => ∃ a xs ds, x = .ref a ∧ H1 a = some (.tup xs) ∧ PyVs H1 xs ds ∧ Odd H1 a0 ∧ Fit (.tuple ds) ∧ Q (.str (PyData.shown (.tuple ds))) H1
section
variable {X : Cx}
theorem pe_fmtH {a0 : Addr} {e : Expr} {te : TE} {pos : Pos} (hst : Hot a0 X.A) (un : X.A.units + 100 < cLine) (he : PE X e te) : PE X (.FormattedValue e 114 none pos) (tFmtH a0 te) := by
  refine ⟨fun pins s σ H Q I h => ?_⟩
  refine wpAny_FormattedValue_repr (thn (he.run pins s σ H _ I h) fun v s1 hv => ?_)
  obtain ⟨x, H1, I1, r1, a, xs, ds, rfl, ea, pvs, odd, ⟨sh, dp, sz⟩, q⟩ := hv
  cases (show v = Value.ref a from r1)
  obtain ⟨rest, kw, hg⟩ := hst
  obtain ⟨_, its, rv, o, y1, y2, n, y3⟩ := I1.hok a _ ea
  obtain ⟨as, ra⟩ := PyVs.reads I1.hok pvs rv
  have nod : PyData.hasDict (.tuple ds) = false := PyV.noDict (.tup ea pvs)
  have hz : (tupleText (PyData.shownAll ds)).length ≤ sizeLine := by simpa only [PyData.shown] using sz
  obtain ⟨bs, hb, hk⟩ := ReprAllK.of_readsAll (prog := X.prog) (w := X.w) ra (by simpa [PyData.showable] using sh) (fun z => by simp only [PyData.hasDict] at nod; rw [nod] at z; cases z) (fun t ht => Nat.le_trans (tupleText_mem_le ht) hz)
  have rr : Reads s1.heap (.ref a) (.tuple ds) as := .tuple y1 y2 y3 (by simpa using ra)
  have no := odd_no I1.hok (fun _ _ e => e) odd
  have hcl : ∀ b ∈ a :: bs, Clear [Code.builtin "list.__repr__.loop" ⟨.ref a0 :: rest, kw⟩] b := fun b hm => (Clear.nil b).cons fun z => by
    subst z
    rcases List.mem_cons.mp hm with z | z
    · subst z; exact no _ _ rr
    · obtain ⟨d, as', q, _⟩ := hb _ z; exact no _ _ q
  have hd : PyData.depthAll ds ≤ 20 := by simp only [PyData.depth] at dp; omega
  refine wpAny_pyReprObj_slot (by omega) ⟨o, y1, y2⟩ F.slot_tuple_repr (call_tuple_reprK y1 y2 y3 (not_mem_of_deeper rr (by simp only [PyData.depth]; omega) hb) hk hg hcl (by omega) (fun _ _ e => e) (fun h' u tk kp => ⟨_, _, rfl, ?_⟩) hz)
  refine wpAny_formatField_str ⟨.str _, H1, I1.kept (t' := tk) kp, ⟨_, rfl⟩, ?_⟩ ⟨.str _, H1, (I1.kept (t' := tk) kp).tok _, ⟨_, rfl⟩, ?_⟩ hz
  · simpa only [PyData.shown] using q
  · simpa only [PyData.shown] using q
end
/-- f'name({self.f!r})' of an instance in the list at a0 -/
def sp_repH (a0 C : Addr) (fld n1 n2 : Str) : Sp := fun vs H Q _ => ∃ a dx fs b xs ds, vs = [V.ref a] ∧ H a = some (.ins C dx fs) ∧ fs.lookup fld = some (.ref b) ∧ H b = some (.tup xs) ∧ PyVs H xs ds ∧ Odd H a0 ∧ Fit (.tuple ds) ∧ (PyData.shown (.tuple ds)).length ≤ 1000000 ∧ Q (.str (n1 ++ PyData.shown (.tuple ds) ++ n2)) H
theorem ok_repH {a0 : Addr} {P : Program} {w : World} {K : PySem.W.Frag} {mg : Str → Option Value} {base : Heap} {qual : Str} {st : Stmt} {f C : Addr} {fd : FuncData} {fld n1 n2 : Str} {j1 j2 : _} {p1 p2 p3 p4 p5 p6 p7 : Pos} (F : Fun K "__repr__" qual st f fd) (S : FnScope ["self"] ["self"] (defScope st)) (hc : Cls K C) (hn : NoAttr K C fld) (h1 : n1.length ≤ 100) (h2 : n2.length ≤ 100)
    (hbody : defBody st = [.Return (some (.JoinedStr [.Constant (.str n1) j1 p1, .FormattedValue (.Attribute (.Name "self" p2) fld p3) 114 none p4, .Constant (.str n2) j2 p5] p6)) p7]) (hat : ∀ X : Cx, attributeBase (.Name "self" p2) fld X.env (eval (.Name "self" p2) X.env) = eval (.Name "self" p2) X.env) (hv : Vis (defScope st) "self") :
    FnH a0 P w K mg base 1 f fd ["self"] (sp_repH a0 C fld n1 n2) := by
  refine fnH_of F S (fun vs H Q E h => ?_) fun cdv A outer s H vs Q hst hr h => ?_
  · obtain ⟨a, dx, fs, b, xs, ds, rfl, _⟩ := h
    rfl
  · obtain ⟨a, dx, fs, b, xs, ds, rfl, ha, hl, eb, pv, odd, ft, hz, q⟩ := h
    rw [hbody]
    refine ⟨_, pss_one (ps_ret (pe_joined (.cons pe_str (.cons (pe_fmtH (a0 := a0) hst (by have := hr.un; show A.units + 3 + 100 < _; omega) (pe_fld (pe_var (i := 0) rfl hv (by decide) (by decide)) (hat _))) (.cons pe_str .nil))))), ?_⟩
    have z0 : (1000300 : Nat) ≤ sizeLine := by decide
    refine ⟨_, rfl, ?_, ⟨_, rfl, a, C, dx, _, _, rfl, ha, hc, hn, hl, b, xs, ds, rfl, eb, pv, odd, ft, _, rfl, ?_, _, rfl, ?_, ?_⟩⟩
    · rw [empty_app]; omega
    · rw [empty_app, strLen_append]; omega
    · rw [empty_app, strLen_append, strLen_append]; omega
    · rw [empty_app]; exact q
section
variable {X : Cx} {σ : L2.St} {H : Hp}
/-- what repr makes of an item while the list at a is told -/
def ItemI (X : Cx) (σ : L2.St) (H : Hp) (a : Addr) (A : Around) (x : Value) (t : Str) : Prop := ∀ (n : Nat), n + t.length ≤ sizeLine → ∀ (rest : List Value) (kw : List (Str × Value)) (pins : List (Addr × Obj)) (s : Shared) (E : Value → Shared → Prop) (Q : Str → Shared → Prop), Inv X pins σ H s →
  (∀ s2, Inv X pins σ H s2 → Q t s2) → wpAny (model X.prog X.w) (A.under (.builtin "list.__repr__.loop" ⟨.ref a :: rest, kw⟩)) (pyReprUnder n x) Q E s
theorem lrep_loopI {A : Around} {R : Result → Shared → Prop} {pins : List (Addr × Obj)} {a P : Addr} {us : List V} {xs : Array Value} {ts : List Str} {n0 : Nat} (ha : H a = some (.lst us)) (rv : ∀ {its : List Value}, Vals us its → its = xs.toList) (same : ts.length = xs.size)
    (each : ∀ (j : Nat) (x : Value), xs[j]? = some x → ∃ t, ts[j]? = some t ∧ ItemI X σ H a A x t) (room : n0 + (listText ts).length ≤ sizeLine) :
    ∀ (left j : Nat) (s : Shared) (acc : Array Value) (cap : Nat) (done : List (Str × Tok)), xs.size - j = left → j ≤ xs.size → Inv X pins σ H s → FpOk X pins H P → s.heap.get? P = some { cls := .type "list", dict := none, data := .seq acc cap, slots := #[] } → acc.toList = strValues done → done.map (·.1) = ts.take j →
      (∀ s2 u, Inv X pins σ H s2 → R (.ok (.ret (.str (listText ts) u))) s2) → codeAny (model X.prog X.w) A (.builtin "list.__repr__.loop" ⟨[.ref a, rawInt j, .ref P, rawInt ((n0 + piled (ts.take j) : Nat) : Int)], []⟩) R s := by
  have len1 : (listText ts).length = (textFrom 0 "[" ts).length + 1 := by
    show Str.length (textFrom 0 "[" ts ++ "]") = _
    rw [strLen_append]
    rfl
  have len2 := textFrom_len ts 0 "["
  have one : ∀ t ∈ ts, t.length ≤ sizeLine := fun t ht => by
    have q := len2.2.1 t ht
    omega
  have whole : (listText ts).length ≤ sizeLine := by omega
  have pile := piled_le_listText ts
  have fits : xs.size ≤ sizeLine := by
    have q := len2.1
    rw [if_neg (Nat.lt_irrefl 0)] at q
    omega
  have self : ∀ {s : Shared}, Inv X pins σ H s → ∃ o n, s.heap.get? a = some o ∧ o.data = .seq xs n := fun {s} I => by
    obtain ⟨_, its, n, r, e⟩ := I.hok a _ ha
    have := rv r
    subst this
    exact ⟨_, n, e, by simp⟩
  intro left
  induction left with
  | zero =>
    intro j s acc cap done hl hj I fP eP hacc hdone fin
    have je : j = xs.size := by omega
    obtain ⟨oa, na, ea, da⟩ := self I
    refine codeAny_builtin F.entry_list_repr_loop ?_
    show wpAny _ _ («list.__repr__.loop» ⟨[.ref a, .int j 0, .ref P, .int ((n0 + piled (ts.take j) : Nat) : Int) 0], []⟩) _ _ _
    rw [repr_loop_tree]
    refine wpAny_bind (wpAny_listItems ea da ?_)
    have none_ : xs[(j : Int).toNat]? = none := by simp [je]
    simp only [none_]
    unfold reprEnd
    refine wpAny_bind (wpAny_listItems eP rfl ?_)
    rw [hacc, repr_fold]
    refine wpAny_bind (wpAny_pure ?_)
    have all : done.map (·.1) = ts := by rw [hdone, je, ← same, List.take_length]
    rw [all]
    exact wpAny_bind (wpAny_mkStr (wpAny_pure (fin _ _ (I.kept (t' := _) fun _ _ e => e))) whole)
  | succ left ih =>
    intro j s acc cap done hl hj I fP eP hacc hdone fin
    have lt : j < xs.size := by omega
    obtain ⟨t, et, it⟩ := each j xs[j] (by simp [lt])
    have p1 := piled_take_succ et
    have p2 := piled_take_le ts (j + 1)
    obtain ⟨oa, na, ea, da⟩ := self I
    refine codeAny_builtin F.entry_list_repr_loop ?_
    show wpAny _ _ («list.__repr__.loop» ⟨[.ref a, .int j 0, .ref P, .int ((n0 + piled (ts.take j) : Nat) : Int) 0], []⟩) _ _ _
    rw [repr_loop_tree]
    refine wpAny_bind (wpAny_listItems ea da ?_)
    have some_ : xs[(j : Int).toNat]? = some xs[j] := by simp [lt]
    simp only [some_]
    rw [Int.toNat_natCast]
    have Ip := I.pinned (fp := [P]) (fun b hb => by rw [List.mem_singleton.mp hb]; exact fP) (fun b hb => by rw [List.mem_singleton.mp hb]; exact ⟨_, eP, fun v z => by cases z⟩)
    refine wpAny_bind (wpAny_holding (it (n0 + piled (ts.take j) + 1) (by omega) _ _ _ s _ _ Ip fun s2 I2 => ?_))
    have eP2 : s2.heap.get? P = some { cls := .type "list", dict := none, data := .seq acc cap, slots := #[] } := (I2.pin (P, _) (List.mem_append_right _ (List.mem_append_right _ (mem_pinsAt (List.mem_singleton.mpr rfl) eP)))).1
    have I2 := I2.unpinned
    refine wpAny_bind (wpAny_mkStr (wpAny_bind ?_) (one t (List.mem_of_getElem? et)))
    show wpAny _ _ (updateSeq P _) _ _ _
    have small : acc.size ≤ sizeLine := by
      have q1 : acc.toList.length = acc.size := by simp
      have q2 : (strValues done).length = done.length := by simp [strValues]
      have q3 : done.length = (ts.take j).length := by rw [← hdone, List.length_map]
      have q4 : (ts.take j).length ≤ j := by rw [List.length_take]; omega
      rw [hacc] at q1
      omega
    refine wpAny_updateSeq eP2 rfl (wpAny_pure ⟨F.quiet_list_repr_loop _, ?_⟩) small
    rw [show ((j : Int) + 1) = ((j + 1 : Nat) : Int) by omega, show n0 + piled (ts.take j) + (t.length + 2) = n0 + piled (ts.take (j + 1)) by omega]
    obtain ⟨f0, f1, f2, f3, f4, f5⟩ := fP
    have J := I2.turned (t' := s2.toks + 1) (it := P) (h' := s2.heap.update P (Obj.mapSeq fun x => x.push (.str t s2.toks))) (fun b o nb e => (Heap.get?_update_other _ _ (fun z => nb z.symm)).trans e) f0 f1 f3 f4 f5
    refine ih (j + 1) _ (acc.push (.str t s2.toks)) _ (done ++ [(t, s2.toks)]) (by omega) lt J ⟨f0, f1, f2, f3, f4, f5⟩ (Heap.get?_update_self _ eP2 rfl) (by simp [hacc, strValues]) (by simp [List.take_add_one, et, hdone]) fin
end
section
variable {X : Cx} {σ : L2.St} {H : Hp}
theorem item_inst {A : Around} {a c C g dx b : Addr} {gd : FuncData} {fs : List (Str × V)} {fld n1 n2 : Str} {ys : List V} {ds : List PyData} (hs : PySem.W.findIn X.K (.ref C) "__repr__" = some (some (.ref g))) (hf : PySem.W.isFn X.K (.ref g) = true) (G : FnH a X.prog X.w X.K X.mg X.base 1 g gd ["self"] (sp_repH a C fld n1 n2)) (bd : Binds X.K gd ["self"] [])
    (hst : Still A) (hr : RoomS 2 A) (hfr : A.frames = X.A.frames) (hc : H c = some (.ins C dx fs)) (hl : fs.lookup fld = some (.ref b)) (hb : H b = some (.tup ys)) (pv : PyVs H ys ds) (odd : Odd H a) (ft : Fit (.tuple ds)) (hz : (PyData.shown (.tuple ds)).length ≤ 1000000) : ItemI X σ H a A (.ref c) (n1 ++ PyData.shown (.tuple ds) ++ n2) := by
  intro n hn rest kw pins s E Q I q
  obtain ⟨mA, O, _⟩ := ins_get I.hok hc
  obtain ⟨od, J, _⟩ := O.look
  have un : (A.under (.builtin "list.__repr__.loop" ⟨.ref a :: rest, kw⟩)).units = A.units + 1 := units_under_list_loop _ _
  have dp : (A.under (.builtin "list.__repr__.loop" ⟨.ref a :: rest, kw⟩)).depth ≤ A.depth + 1 := Nat.le_of_eq rfl
  have room : RoomS 1 (A.under (.builtin "list.__repr__.loop" ⟨.ref a :: rest, kw⟩)) := ⟨by have := hr.dp; omega, by have := hr.un; omega⟩
  have e0 := I.env0
  have e1 : Env0 X.prog X.w X.K X.mg X.base (A.under (.builtin "list.__repr__.loop" ⟨.ref a :: rest, kw⟩)) X.stack s H :=
    ⟨by have z : A.frames = some X.stack := hfr.trans e0.frames
        first | exact z | (simpa [Around.under, Code.envs, Code.isFrame, pushEnvs] using z), e0.mod, e0.bs, e0.bsz, e0.funs, e0.frf, e0.hok, e0.bare⟩
  refine under_K I.kIn J hs hf (by omega) (by have := hr.un; omega) ?_
  refine wpAny_call (codeAny_mono (G.run _ X.stack s H ⟨[.ref c], []⟩ [.ref c] [.ref c] (fun v H2 => v = .str (n1 ++ PyData.shown (.tuple ds) ++ n2) ∧ H2 = H) ⟨rest, kw, guards_under_guard (isGuard_list_loop _) hst⟩ room e1 (bd s [.ref c] I.kIn rfl) (.cons rfl .nil)
    ⟨c, dx, fs, b, ys, ds, rfl, hc, hl, hb, pv, odd, ft, hz, rfl, rfl⟩) fun r s' hq => ?_)
  cases r with
  | error e => exact (show False from hq).elim
  | ok fl =>
    cases fl with
    | ret u =>
      obtain ⟨v, H', I', rv, ev, eH⟩ := I.after hq
      subst ev eH
      obtain ⟨tk, rfl⟩ := rv
      exact ⟨_, tk, rfl, q s' I'⟩
    | next => exact False.elim hq
    | brk => exact False.elim hq
    | cont => exact False.elim hq
/-- repr of a list of instances; spec: which classes, their field, the text around it -/
def rRepL (spec : Addr → Str → Str → Str → Prop) : List V → Hp → VK → Prop := fun xs H Q => ∃ a us ts, xs = [.ref a] ∧ H a = some (.lst us) ∧ us ≠ [] ∧ us.length = ts.length ∧
  (∀ (j : Nat) (v : V), us[j]? = some v → ∃ c C dx fs fld b ys ds n1 n2, spec C fld n1 n2 ∧ v = .ref c ∧ H c = some (.ins C dx fs) ∧ fs.lookup fld = some (.ref b) ∧ H b = some (.tup ys) ∧ PyVs H ys ds ∧ Fit (.tuple ds) ∧ (PyData.shown (.tuple ds)).length ≤ 1000000 ∧ ts[j]? = some (n1 ++ PyData.shown (.tuple ds) ++ n2)) ∧
  (listText ts).length ≤ sizeLine ∧ Q (.str (listText ts)) H
theorem refs_of {us : List V} (h : ∀ v ∈ us, ∃ c, v = V.ref c) : ∀ {i1 i2 : List Value}, Vals us i1 → Vals us i2 → i1 = i2 := by
  induction us with
  | nil => intro i1 i2 r1 r2; cases r1; cases r2; rfl
  | cons v us ih =>
    intro i1 i2 r1 r2
    cases r1 with
    | cons p1 q1 =>
      cases r2 with
      | cons p2 q2 =>
        obtain ⟨c, rfl⟩ := h v List.mem_cons_self
        cases (show _ = Value.ref c from p1)
        cases (show _ = Value.ref c from p2)
        rw [ih (fun z hz => h z (List.mem_cons_of_mem _ hz)) q1 q2]
theorem vals_at {us : List V} {its : List Value} (r : Vals us its) : ∀ {j : Nat} {x : Value}, its[j]? = some x → ∃ v, us[j]? = some v ∧ RelV v x := by
  induction r with
  | nil => intro j x h; simp at h
  | cons p q ih =>
    intro j x h
    cases j with
    | zero => simp at h; subst h; exact ⟨_, rfl, p⟩
    | succ j => exact ih (by simpa using h)
theorem call_repL {spec : Addr → Str → Str → Str → Prop} (h : ∀ C fld n1 n2, spec C fld n1 n2 → ∃ g gd, PySem.W.findIn X.K (.ref C) "__repr__" = some (some (.ref g)) ∧ PySem.W.isFn X.K (.ref g) = true ∧ (∀ a0, FnH a0 X.prog X.w X.K X.mg X.base 1 g gd ["self"] (sp_repH a0 C fld n1 n2)) ∧ Binds X.K gd ["self"] [])
    (hst : Still X.A) (hr : RoomS 3 X.A) : CallR X (.builtin "repr") (rRepL spec) := by
  intro pins s σ H xs us Q I r q
  obtain ⟨a, us, ts, rfl, ha, ne, len, each, room, q⟩ := q
  obtain ⟨u, rfl, rv⟩ := vals1 r
  cases (show u = Value.ref a from rv)
  obtain ⟨_, its, n, rl, eo⟩ := I.hok a _ ha
  have isR : ∀ v ∈ us, ∃ c, v = V.ref c := fun v hv => by
    obtain ⟨j, hj⟩ := List.mem_iff_getElem?.mp hv
    obtain ⟨c, _, _, _, _, _, _, _, _, _, _, e, _⟩ := each j v hj
    exact ⟨c, e⟩
  have odd : Odd H a := by
    cases us with
    | nil => exact absurd rfl ne
    | cons v us =>
      obtain ⟨c, C, dx, fs, _, _, _, _, _, _, _, e, ec, _⟩ := each 0 v rfl
      exact ⟨_, c, C, dx, fs, ha, by rw [e]; exact List.mem_cons_self, ec⟩
  have ln : its.length = us.length := (Paired.length rl).symm
  obtain ⟨x, l, el⟩ : ∃ x l, its = x :: l := by
    cases its with
    | nil =>
      cases us with
      | nil => exact absurd rfl ne
      | cons _ _ => simp at ln
    | cons x l => exact ⟨x, l, rfl⟩
  subst el
  refine call_repr_slot (by have := hr.un; omega) ⟨_, eo, rfl⟩ F.slot_list_repr.toG ?_
  refine wpAny_call (codeAny_call_builtin F.slot_list_repr.plain F.entry_list_repr (F.slot_list_repr.check _ _ _ _ _ _ _ _ ⟨_, eo, rfl⟩ (F.args_list_repr_1 _) ?_))
  show wpAny (model X.prog X.w) X.A.in1.in1 (Builtin.listReprAt 0 ⟨[.ref a], []⟩) _ _ s
  refine wpAny_list_repr_head (A := X.A.in1.in1) hst (fun v rest kw hm => nomatch hm) eo rfl ?_
  refine wpAny_bind (m := newList []) (wpAny_newObj_type (wpAny_pure ⟨F.quiet_list_repr_loop _, ?_⟩))
  have fr : FpOk X pins H s.heap.objs.size := I.fpOk (Nat.le_refl _) (I.hok.fresh (Nat.le_refl _))
  have J : Inv X pins σ H { s with heap := s.heap.push { cls := .type "list", data := .seq ([] : List Value).toArray }, toks := s.toks } := I.kept fun b o e => Heap.get?_push_of_some _ e
  refine lrep_loopI (A := X.A.in1) (n0 := 0) ha (xs := (x :: l).toArray) (fun r2 => by rw [refs_of isR r2 rl]) (by rw [← len, ← ln]; simp) (fun j y hj => ?_) (by omega) _ 0 _ #[] _ [] rfl (Nat.zero_le _) J fr (Heap.get?_push_size _ rfl) rfl (by simp) fun s2 u I2 => ?_
  · obtain ⟨v, hv, ry⟩ := vals_at rl (j := j) (x := y) (by simpa using hj)
    obtain ⟨c, C, dx, fs, fld, b, ys, ds, n1, n2, sp, rfl, ec, hl, eb, pv, ft, hz, et⟩ := each j v hv
    cases (show y = Value.ref c from ry)
    obtain ⟨g, gd, e1, e2, F, bd⟩ := h C fld n1 n2 sp
    exact ⟨_, et, item_inst e1 e2 (F a) bd hst ⟨by have := hr.dp; show X.A.depth + 3 * 2 + 5 < _; omega, by have := hr.un; show X.A.units + 1 + 16 * 2 + 200 < _; omega⟩ rfl ec hl eb pv odd ft hz⟩
  · exact ⟨_, _, rfl, ⟨.str _, H, I2, ⟨_, rfl⟩, q⟩⟩
end
end Rh
set_option Elab.async false
set_option linter.all false
set_option maxRecDepth 100000
set_option maxHeartbeats 4000000
namespace T34
open PySem PySem.Spec PyProof.Rows L2 Gd Zn Rp Dn Tb Gn En Zs Ct Op Oc Rg Rt Ro Oa
structure SmW (a b : Nat) (d : PyData) : Prop where
  sh : d.showable = true
  dp : d.depth ≤ a
  ls : d.leavesShort 90 = true
  bk : d.bulk ≤ b
theorem smW_int {i : Int} (h : i.natAbs < 10 ^ 80) : SmW 0 0 (.int i) := by
  refine ⟨?_, by simp only [PyData.depth]; omega, ?_, by simp only [PyData.bulk]; omega⟩
  · simp only [PyData.showable, decide_eq_true_eq]
    by_cases z : i.natAbs = 0
    · rw [z]; decide
    · rw [Nat.log2_lt z]
      exact Nat.lt_trans h (by decide)
  · have e : (PyData.int i).shown.length ≤ 90 := by
      simp only [PyData.shown]
      show (Str.ofString (toString i)).length ≤ 90
      rw [PySem.ofString_length]
      exact Nat.le_trans (int_text_length_le10 (by decide) h) (by decide)
    simp only [PyData.leavesShort]
    exact decide_eq_true e
theorem all_smW {a b : Nat} {ds : List PyData} (h : ∀ d ∈ ds, SmW a b d) : PyData.showableAll ds = true ∧ PyData.depthAll ds ≤ a ∧ PyData.leavesShortAll 90 ds = true ∧ PyData.bulkAll ds ≤ (b + 1) * ds.length := by
  induction ds with
  | nil => exact ⟨by simp only [PyData.showableAll], by simp only [PyData.depthAll]; omega, by simp only [PyData.leavesShortAll], by simp only [PyData.bulkAll]; omega⟩
  | cons d r ih =>
    obtain ⟨a, b, c, e⟩ := ih fun x hx => h x (List.mem_cons_of_mem _ hx)
    have z := h d List.mem_cons_self
    refine ⟨?_, ?_, ?_, ?_⟩
    · simp only [PyData.showableAll, z.sh, a, Bool.and_self]
    · simp only [PyData.depthAll]
      exact Nat.max_le.mpr ⟨z.dp, b⟩
    · simp only [PyData.leavesShortAll, z.ls, c, Bool.and_self]
    · have := z.bk
      simp only [PyData.bulkAll, List.length_cons]
      rw [Nat.mul_add]
      omega
theorem smW_tuple {a b n : Nat} {ds : List PyData} (h : ∀ d ∈ ds, SmW a b d) (hl : ds.length ≤ n) : SmW (a + 1) ((b + 1) * n) (.tuple ds) := by
  obtain ⟨s1, s2, s3, s4⟩ := all_smW h
  have := Nat.mul_le_mul_left (b + 1) hl
  refine ⟨?_, ?_, ?_, ?_⟩
  · simp only [PyData.showable, s1]
  · simp only [PyData.depth]; omega
  · simp only [PyData.leavesShort, s3]
  · simp only [PyData.bulk]; omega
theorem smW_mx {n b : Nat} {M : List (List Int)} (h : SqE n b M) (h3 : n ≤ 3) (hb : b ≤ 200) : SmW 2 12 (mxD M) := by
  refine smW_tuple (a := 1) (b := 3) (n := 3) (fun d hd => ?_) (by rw [List.length_map, h.len]; exact h3)
  obtain ⟨r, hr, rfl⟩ := List.mem_map.mp hd
  refine smW_tuple (a := 0) (b := 0) (n := 3) (fun d hd => ?_) (by rw [List.length_map, h.row r hr]; exact h3)
  obtain ⟨x, hx, rfl⟩ := List.mem_map.mp hd
  exact smW_int (Nat.lt_trans (Wd.abs_mono (h.bd r hr x hx) hb) (by decide))
theorem fitW {n b : Nat} {M : List (List Int)} (h : SqE n b M) (h3 : n ≤ 3) (hb : b ≤ 200) : Fit (mxD M) ∧ (mxD M).shown.length ≤ 2000 := by
  have := smW_mx h h3 hb
  have l : (mxD M).shown.length ≤ (90 + 2) * (mxD M).bulk + 90 := PyData.shown_le_bulk 90 (by decide) _ this.ls
  have k := this.bk
  exact ⟨⟨this.sh, by have := this.dp; omega, Nat.le_trans (by omega : (mxD M).shown.length ≤ 2000) (by decide)⟩, by omega⟩
def specTF (C F : Addr) : Addr → Str → Str → Str → Prop := fun D fld n1 n2 => fld = "_rows" ∧ n2 = ")" ∧ ((D = C ∧ n1 = "Table(") ∨ (D = F ∧ n1 = "Form("))
structure RpTF (P : Program) (w : World) (K : PySem.W.Frag) (mg : Str → Option Value) (base : Heap) (C F : Addr) : Prop where
  ex : ∀ D fld n1 n2, specTF C F D fld n1 n2 → ∃ g gd, PySem.W.findIn K (.ref D) "__repr__" = some (some (.ref g)) ∧ PySem.W.isFn K (.ref g) = true ∧ (∀ a0, Rh.FnH a0 P w K mg base 1 g gd ["self"] (Rh.sp_repH a0 D fld n1 n2)) ∧ Binds K gd ["self"] []
def textFT (G S : List (List Int)) : Str := listText [("Form(" : Str) ++ (mxD G).shown ++ (")" : Str), ("Table(" : Str) ++ (mxD S).shown ++ (")" : Str)]
theorem rep_FT {C F l : Addr} {H : Hp} {x y : V} {n b c : Nat} {G S : List (List Int)} {Q : VK} (hl : H l = some (.lst [x, y])) (hx : Fv F H x n b G) (hy : Tv C H y n c S) (lb : b ≤ 200) (lc : c ≤ 200) (q : Q (.str (textFT G S)) H) : Rh.rRepL (specTF C F) [.ref l] H Q := by
  have h3 := hx.h3
  obtain ⟨p, dx, r, rfl, hp, a, vx, rfl, ha, hR⟩ := id hx.tab
  obtain ⟨p2, dx2, r2, rfl, hp2, a2, vx2, rfl, ha2, hR2⟩ := id hy.tab
  obtain ⟨f1, l1⟩ := fitW hx.bd h3 lb
  obtain ⟨f2, l2⟩ := fitW hy.bd h3 lc
  refine ⟨l, _, [("Form(" : Str) ++ (mxD G).shown ++ (")" : Str), ("Table(" : Str) ++ (mxD S).shown ++ (")" : Str)], rfl, hl, by simp, rfl, fun j v e => ?_, ?_, q⟩
  · match j, e with
    | 0, e => cases e; exact ⟨p, F, dx, _, "_rows", a, vx, _, "Form(", ")", ⟨rfl, rfl, .inr ⟨rfl, rfl⟩⟩, rfl, hp, fldsT_rows _, ha, hR.py, f1, Nat.le_trans l1 (by decide), rfl⟩
    | 1, e => cases e; exact ⟨p2, C, dx2, _, "_rows", a2, vx2, _, "Table(", ")", ⟨rfl, rfl, .inl ⟨rfl, rfl⟩⟩, rfl, hp2, fldsT_rows _, ha2, hR2.py, f2, Nat.le_trans l2 (by decide), rfl⟩
    | j + 2, e => simp at e
  · refine Nat.le_trans (listText_len_le _) ?_
    have e1 : (("Form(" : Str)).length = 5 := by decide +kernel
    have e2 : (("Table(" : Str)).length = 6 := by decide +kernel
    have e3 : ((")" : Str)).length = 1 := by decide +kernel
    simp only [List.map_cons, List.map_nil, List.sum_cons, List.sum_nil, List.length_cons, List.length_nil, len_app, e1, e2, e3]
    exact Nat.le_trans (by omega : _ ≤ 10000) (by decide)
theorem py_bls {H : Hp} {a : Addr} {b c : Bool} (h : H a = some (.lst [.bl b, .bl c])) : PyV H (.ref a) (.list [.bool b, .bool c]) := .lst h (.cons (.bl b) (.cons (.bl c) .nil))
section
variable {P : Program} {w : World} {K : PySem.W.Frag} {mg : Str → Option Value} {base : Heap} {C F : Addr}
abbrev st_or : Stmt := top 51
abbrev N_or : List Str := ["_law_form_here", "_law_rows", "_law_told_here", "_law_table_here", "_law_due", "_law_shown"]
theorem sc_or : FnScope N_or ["_law_form_here", "_law_rows"] (defScope st_or) := ⟨rfl, rfl, rfl, by decide +kernel, rfl, by decide +kernel, by decide +kernel⟩
def sp_or : Sp := fun vs H Q _ => ∃ (v o : V) (G S : List (List Int)) (n : Nat), vs = [v, o] ∧ PyV H v (lmD G) ∧ PyV H o (lmD S) ∧ Gr n S ∧ SqE n 200 G ∧ SqE n 10 S ∧ transp n G = G ∧ ∀ H', Same H H' → Q (.bl true) H'
theorem ok_or {f : Addr} {fd : FuncData} (F' : Fun K "_law_one_right" "_law_one_right" st_or f fd) (T : Txt mg) (Fc : Fcl K mg F) (Tc : Tcl K mg C) (D1 : MkrF P w K mg base F) (D2 : Mkr P w K mg base C) (D3 : Def P w K mg base "_law_led" 2 ["_law_form_here", "_law_rows"] sp_ld) (DR : RpTF P w K mg base C F)
    (DK : DefK P w K mg base "keeps" 11 ["table", "form"] ["form", "table"] (sp_keeps F C) gU2 gV2) (DW : Def P w K mg base "_law_worths_kept" 7 ["_law_form_here", "_law_table_here"] (sp_wk C F)) (DU : Mtd P w K mg base C "undone" 10 ["self"] (sp_undone C)) :
    FnG P w K mg base CX0 12 f fd ["_law_form_here", "_law_rows"] sp_or := by
  refine okG F' sc_or (fun vs H Q E h => ?_) (fun cdv A outer s H vs Q E hst hr h => ?_)
  · obtain ⟨v, o, G, S, n, rfl, _⟩ := h
    rfl
  · obtain ⟨v, o, G, S, n, rfl, hv, ho, gS, eG, eS, tG, q⟩ := h
    obtain ⟨gu, gdu, mtu, Gu, bu⟩ := DU.ex
    have hr10 : Room 10 (A.deeper (envOfC "_law_one_right" (defScope st_or) s.heap.objs.size f cdv)) := hr.mono (by decide)
    have hrs : Rs.RoomS 3 (A.deeper (envOfC "_law_one_right" (defScope st_or) s.heap.objs.size f cdv)) := (Rs.roomS hr).mono (by decide)
    refine ⟨_, pss_cons (ps_par3 (i := 2) (j := 3) (l := 4) rfl sc_or.nd rfl rfl rfl (by decide) (by decide) (by decide) rfl rfl rfl (pa_cons (pe_mkrF D1 Fc hr (pa_cons (pv 0) pa_nil)) (pa_cons (pe_mkr D2 Tc hr (pa_cons (pv 1) pa_nil)) (pa_cons (pe_cmpR (op_eqD hr.units) (pe_def D3 hr (pa_cons (pv 0) (pa_cons (pv 1) pa_nil))) (pv 0) (nomark _)) pa_nil))) (by rfl))
      (pss_cons (ps_set (i := 5) sc_or.nd rfl (Or.inl rfl) (pe_callB (r := Rh.rRepL (specTF C F)) (Rh.call_repL DR.ex hst hrs) (by rfl) T.repr boot_repr (pa_cons (pe_lst (pa_cons (pv 2) (pa_cons (pv 3) pa_nil))) pa_nil)))
      (pss_cons (ps_if (pt_cmpR op_ne (pe_callB (call_repA hst hr) (by rfl) T.repr boot_repr (pa_cons (pe_lst (pa_cons (pe_def DK.d hr (pa_cons (pv 3) (pa_cons (pv 2) pa_nil))) (pa_cons (pe_defN DK hr (pk_cons (pv 2) (pk_cons (pv 3) pk_nil))) pa_nil))) pa_nil))
          (pe_callB (call_repA hst hr) (by rfl) T.repr boot_repr (pa_cons (pe_lst (pa_cons (pv 4) (pa_cons (pv 4) pa_nil))) pa_nil)) (nomark _)) (pss_one (ps_ret pe_bl)) pss_nil)
      (pss_cons (ps_if (pt_cmpR op_ne (pe_def DW hr (pa_cons (pv 2) (pa_cons (pv 3) pa_nil))) (pv 4) (nomark _)) (pss_one (ps_ret pe_bl)) pss_nil)
      (pss_one (ps_ret (pe_and (pe_cmpR op_eq (pe_def DK.d hr (pa_cons (pe_meth0 (pv 3) Tc.cl mtu Gu hr10 bu .nil pass0) (pa_cons (pv 2) pa_nil))) (pv 4) (nomark _))
        (pe_one (pe_cmpR op_eq (pe_callB (r := Rh.rRepL (specTF C F)) (Rh.call_repL DR.ex hst hrs) (by rfl) T.repr boot_repr (pa_cons (pe_lst (pa_cons (pv 2) (pa_cons (pv 3) pa_nil))) pa_nil)) (pv 5) (nomark _))))))))), ?_⟩
    have h1 := gS.h1
    have h3 := gS.h3
    refine r_seq (r_par3 (r_cons (mkF ⟨_, rfl, MkF.of (.inl hv) (grid_lm _) h1 h3 tG eG (by decide) fun c1 H1 s1 f1 => r_cons (mkA ⟨_, rfl, MkA.of (.inl (PyV.mono s1 ho)) (grid_lm _) gS eS (by decide) fun c2 H2 s2 t2 => r_cons (r_op ?_)⟩)⟩)))
    have S2 := s1.trans s2
    refine a2 ⟨_, rfl, _, rfl, v, o, G, S, n, 200, 10, rfl, PyV.mono S2 hv, PyV.mono S2 ho, h1, h3, eG, eS, by decide, by decide, fun D3 H3 s3 n3 => ⟨_, rfl, r_eqLm n3.py (PyV.mono (S2.trans s3) hv) ⟨_, _, _, rfl, ?_⟩⟩⟩
    have S3 := S2.trans s3
    have f3 := f1.same (s2.trans s3)
    have t3 := t2.same s3
    refine r_next (r_nseq (r_asg (cb1 (r_lst ⟨_, rfl, _, rfl, (by show 2 ≤ sizeLine; decide), fun l nl => ?_⟩))))
    have s4 : Same H3 (upd H3 l (.lst [V.ref c1, V.ref c2])) := same_new nl
    have hl : upd H3 l (.lst [V.ref c1, V.ref c2]) l = some (.lst [V.ref c1, V.ref c2]) := upd_same
    generalize upd H3 l (.lst [V.ref c1, V.ref c2]) = H4 at s4 hl
    have S4 := S3.trans s4
    have f4 := f3.same s4
    have t4 := t3.same s4
    refine rep_FT hl f4 t4 (by decide) (by decide) ?_
    refine r_next (r_nseq (r_if (r_tt (r_op (cb1 (r_lst (r_cons (a2 ⟨_, rfl, _, rfl, .ref c2, .ref c1, G, S, n, 200, 10, rfl, t4, f4, by decide, by decide, fun H5 s5 => ?_⟩))))))))
    refine r_cons (n2 ⟨_, rfl, _, rfl, .ref c2, .ref c1, G, S, n, 200, 10, rfl, t4.same s5, f4.same s5, by decide, by decide, fun H6 s6 => ⟨(by show 2 ≤ sizeLine; decide), fun l1 nl1 => ?_⟩⟩)
    refine .inl ⟨_, _, rfl, py_bls upd_same, fit_bools _ _, cb1 (r_lst ⟨_, rfl, _, rfl, (by show 2 ≤ sizeLine; decide), fun l2 nl2 => .inl ⟨_, _, rfl, py_bls upd_same, fit_bools _ _, rfl, _, rfl, ?_⟩⟩)⟩
    generalize ed : decide (ldM n G S = G) = d at *
    have sc : Same H4 (upd (upd H6 l1 (.lst [.bl d, .bl d])) l2 (.lst [.bl d, .bl d])) := s5.trans (s6.trans ((same_new nl1).trans (same_new nl2)))
    rw [show ∀ t : Str, (!decide (V.str t = V.str t)) = false from fun t => by simp]
    refine iteF ?_
    generalize upd (upd H6 l1 (.lst [.bl d, .bl d])) l2 (.lst [.bl d, .bl d]) = H7 at sc
    have S7 := S4.trans sc
    have f7 := f4.same sc
    have t7 := t4.same sc
    refine r_next (r_nseq (r_if (r_tt (r_op (a2 ⟨_, rfl, _, rfl, .ref c1, .ref c2, G, S, n, 200, 10, rfl, f7, t7, by decide, by decide, fun H8 s8 => ⟨_, rfl, rfl, _, rfl, ?_⟩⟩)))))
    rw [ed, show (!decide (V.bl d = V.bl d)) = false by simp]
    refine iteF ?_
    have S8 := S7.trans s8
    have f8 := f7.same s8
    have t8 := t7.same s8
    have eU := eS.und gS
    refine r_next (r_nret (r_andV (r_op (a2 (r_meth0 ⟨_, rfl, mth t8.tab ⟨_, S, n, rfl, t8.tab, gS, eS.sq (by decide), eU.sq (by decide), fun c3 H9 s9 u9 => ?_⟩⟩)))))
    refine ⟨_, rfl, .ref c3, .ref c1, G, undM n S, n, 200, 21, rfl, ⟨u9, gS.und, eU⟩, f8.same s9, by decide, by decide, fun H10 s10 => ⟨_, rfl, rfl, _, rfl, ?_⟩⟩
    have S10 := S8.trans (s9.trans s10)
    have f10 := f8.same (s9.trans s10)
    have t10 := t8.same (s9.trans s10)
    have ek : decide (ldM n G (undM n S) = G) = decide (ldM n G S = G) := decide_eq_decide.mpr (keeps_und gS eG.sh)
    rw [ek, ed, show decide (V.bl d = V.bl d) = true by simp]
    refine iteT (r_op (cb1 (r_lst ⟨_, rfl, _, rfl, (by show 2 ≤ sizeLine; decide), fun l5 nl5 => ?_⟩)))
    have s11 : Same H10 (upd H10 l5 (.lst [V.ref c1, V.ref c2])) := same_new nl5
    have hl5 : upd H10 l5 (.lst [V.ref c1, V.ref c2]) l5 = some (.lst [V.ref c1, V.ref c2]) := upd_same
    generalize upd H10 l5 (.lst [V.ref c1, V.ref c2]) = H11 at s11 hl5
    refine rep_FT hl5 (f10.same s11) (t10.same s11) (by decide) (by decide) ⟨_, rfl, rfl, ?_⟩
    rw [show ∀ t : Str, decide (V.str t = V.str t) = true from fun t => by simp]
    exact q _ (S10.trans s11)
end
end T34
set_option Elab.async false
set_option linter.all false
set_option maxRecDepth 100000
set_option maxHeartbeats 4000000
namespace T34
open PySem PySem.Spec PyProof.Rows L2 Gd Zn Rp Dn Tb Gn En Zs Ct Op Oc Rg Rt Ro Oa
abbrev rNN : R2 := fun x y H Q => y = .non ∧ Q (.bl (!decide (x = .non))) H
theorem r_and {t u : TT} {σ : L2.St} {H : Hp} {Q : Bool → Hp → Prop} (h : t σ H fun c H1 => if c = true then u σ H1 Q else Q false H1) : tAnd t u σ H Q := h
def minM (n : Nat) : List (List Int) := (List.range n).map fun i => (List.range n).map fun j => if j = i then -1 else 0
theorem minE1 : minM 1 = [[-1]] := by decide
theorem minE2 : minM 2 = [[-1, 0], [0, -1]] := by decide
theorem minE3 : minM 3 = [[-1, 0, 0], [0, -1, 0], [0, 0, -1]] := by decide
theorem min_ok {n : Nat} (h1 : 1 ≤ n) (h3 : n ≤ 3) : Gr n (minM n) ∧ SqE n 1 (minM n) ∧ mulM n (minM n) (minM n) = unitM n := by
  have : n = 1 ∨ n = 2 ∨ n = 3 := by omega
  rcases this with rfl | rfl | rfl
  · refine ⟨⟨h1, h3, by rw [minE1]; exact sh_mk1 _, .inr (by rw [minE1, det1])⟩, ⟨by decide, by decide, by decide⟩, by decide⟩
  · refine ⟨⟨h1, h3, by rw [minE2]; exact sh_mk2 _ _ _ _, .inl (by rw [minE2, det2]; decide)⟩, ⟨by decide, by decide, by decide⟩, by decide⟩
  · refine ⟨⟨h1, h3, by rw [minE3]; exact sh_mk3 _ _ _ _ _ _ _ _ _, .inr (by rw [minE3, det3]; decide)⟩, ⟨by decide, by decide, by decide⟩, by decide⟩
theorem ld_min {n : Nat} {G : List (List Int)} (h1 : 1 ≤ n) (h3 : n ≤ 3) (hG : Sh n G) : ldM n G (minM n) = G := by
  have : n = 1 ∨ n = 2 ∨ n = 3 := by omega
  unfold ldM
  rcases this with rfl | rfl | rfl
  · obtain ⟨a, rfl⟩ := sh1 hG rfl
    rw [minE1, trE1, mulE1, mulE1]; simp
  · obtain ⟨a, b, c, d, rfl⟩ := sh2 hG rfl
    rw [minE2, trE2, mulE2, mulE2]; simp
  · obtain ⟨a, b, c, d, e, f, g, h, i, rfl⟩ := sh3 hG rfl
    rw [minE3, trE3, mulE3, mulE3]; simp
theorem min_row {n i : Nat} (hi : i < n) : (minM n).getD i [] = (List.range n).map fun j => if j = i then -1 else 0 := by
  unfold minM
  rw [List.getD_eq_getElem?_getD, List.getElem?_map, List.getElem?_range hi]
  rfl
def SumV (n : Nat) (p : Addr) (S : List (List Int)) (x : V) (H : Hp) : Prop := x = V.non ∨ ∃ M, PyV (hid (some p) H) x (lmD M) ∧ SqE n 200 M ∧ transp n M = M ∧ ldM n M S = M
theorem SumV.rx {n : Nat} {p : Addr} {S : List (List Int)} {x : V} {H H' : Hp} (h : SumV n p S x H) (s : RX (some p) H H') : SumV n p S x H' := by
  rcases h with h | ⟨M, a, b⟩
  · exact .inl h
  · exact .inr ⟨M, py_rx a s, b⟩
def FormV (n : Nat) (p : Addr) (H : Hp) (x : V) : Prop := ∃ G, PyV (hid (some p) H) x (lmD G) ∧ SqE n 200 G ∧ transp n G = G
theorem FormV.rx {n : Nat} {p : Addr} {x : V} {H H' : Hp} (h : FormV n p H x) (s : RX (some p) H H') : FormV n p H' x := by
  obtain ⟨G, a, b⟩ := h
  exact ⟨G, py_rx a s, b⟩
def RowsV (n : Nat) (H : Hp) (x : V) : Prop := ∃ S, PyV H x (lmD S) ∧ Gr n S ∧ SqE n 10 S
theorem RowsV.same {n : Nat} {x : V} {H H' : Hp} (h : RowsV n H x) (s : Same H H') : RowsV n H' x := by
  obtain ⟨S, a, b⟩ := h
  exact ⟨S, PyV.mono s a, b⟩
theorem c_su {H : Hp} {Q : VK} {E : XK} {v o : V} {G S : List (List Int)} {n : Nat} {p : Addr} (hp : H p ≠ none) (hv : PyV (hid (some p) H) v (lmD G)) (ho : PyV H o (lmD S)) (h1 : 1 ≤ n) (h3 : n ≤ 3) (eG : SqE n 3 G) (eS : SqE n 4 S) (tG : transp n G = G) (q : ∀ x H', Same H H' → SumV n p S x H' → Q x H') : sp_su [v, o] H Q E :=
  ⟨v, o, G, S, n, p, rfl, hp, hv, ho, h1, h3, eG, eS, tG, fun H' s => q _ _ s (.inl rfl), fun x H' M s a b c d => q _ _ s (.inr ⟨M, a, b, c, d⟩)⟩
theorem rd_some {σ : L2.St} {H : Hp} {Q : VK} {p D : Addr} {n : Nat} {S : List (List Int)} {x5 : V} (e0 : σ[0]? = some (some (.ref p))) (e1 : σ[1]? = some (some (.int n))) (e4 : σ[4]? = some (some (.ref D))) (e5 : σ[5]? = some (some x5)) (hp : PotOk H p) (h1 : 1 ≤ n) (h3 : n ≤ 3)
    (hD : FormV n p H (.ref D)) (h5 : SumV n p S x5 H) (q : ∀ c H' ws, RX (some p) H H' → H' c = some (.lst ws) → ws.length ≤ 3 → (∀ x ∈ ws, FormV n p H' x) → Q (.ref c) H') :
    tOp L2.rCat (tLst (tCons (tVar 4) (tCons (tCall sp_an [] E0 (tCons (tVar 0) (tCons (tVar 1) tNil))) tNil))) (tIf (tTest (tOp rNN (tVar 5) (tC .non))) (tLst (tCons (tVar 5) tNil)) (tLst tNil)) σ H Q := by
  refine r_op (r_lst ⟨_, e4, r_cons (a2 ⟨_, e0, _, e1, p, n, rfl, hp, h1, h3, fun D2 H1 M2 s1 p2 b2 t2 => ⟨(by show 2 ≤ sizeLine; decide), fun l nl => ?_⟩⟩)⟩)
  have hp1 := s1.pot p rfl hp
  have s2 : RX (some p) H1 (upd H1 l (.lst [V.ref D, V.ref D2])) := RX.new nl
  have hl : upd H1 l (.lst [V.ref D, V.ref D2]) l = some (.lst [V.ref D, V.ref D2]) := upd_same
  have lp : l ≠ p := fun z => by subst z; exact hp1.some_ nl
  generalize upd H1 l (.lst [V.ref D, V.ref D2]) = H2 at s2 hl
  have s02 := s1.trans s2
  have f1 : FormV n p H2 (.ref D) := hD.rx s02
  have f2 : FormV n p H2 (.ref D2) := ⟨M2, py_rx p2 s2, b2.mono (by decide), t2⟩
  have hp2 := s02.pot p rfl hp
  refine r_tt (r_op ⟨_, e5, rfl, _, rfl, ?_⟩)
  rcases h5.rx s02 with z | ⟨M, pM, bM, tM, _⟩
  · rw [show (!decide (x5 = V.non)) = false by rw [z]; simp]
    refine iteF (r_lst ⟨Nat.zero_le _, fun l3 nl3 => ?_⟩)
    have s3 : RX (some p) H2 (upd H2 l3 (.lst [])) := RX.new nl3
    refine ⟨l, l3, _, _, rfl, rfl, s3.keep _ _ (fun z => lp (by cases z; rfl)) hl, upd_same, (by show 2 + 0 ≤ sizeLine; decide), fun c nc => ?_⟩
    have s4 := s3.trans (RX.new (o := .lst ([V.ref D, V.ref D2] ++ [])) nc)
    refine q c _ _ (s02.trans s4) upd_same (by show 2 ≤ 3; decide) fun x hx => ?_
    rcases List.mem_cons.mp hx with rfl | hx
    · exact f1.rx s4
    · rw [List.mem_singleton.mp hx]; exact f2.rx s4
  · have nn : x5 ≠ V.non := fun z => by rw [z] at pM; cases pM
    rw [show (!decide (x5 = V.non)) = true by simp [nn]]
    refine iteT (r_lst ⟨_, e5, (by show 1 ≤ sizeLine; decide), fun l3 nl3 => ?_⟩)
    have s3 : RX (some p) H2 (upd H2 l3 (.lst [x5])) := RX.new nl3
    refine ⟨l, l3, _, _, rfl, rfl, s3.keep _ _ (fun z => lp (by cases z; rfl)) hl, upd_same, (by show 2 + 1 ≤ sizeLine; decide), fun c nc => ?_⟩
    have s4 := s3.trans (RX.new (o := .lst ([V.ref D, V.ref D2] ++ [x5])) nc)
    refine q c _ _ (s02.trans s4) upd_same (by show 3 ≤ 3; decide) fun x hx => ?_
    rcases List.mem_cons.mp hx with rfl | hx
    · exact f1.rx s4
    · rcases List.mem_cons.mp hx with rfl | hx
      · exact f2.rx s4
      · rw [List.mem_singleton.mp hx]; exact FormV.rx ⟨M, pM, bM, tM⟩ s4
theorem rd_rows {σ : L2.St} {H : Hp} {Q : VK} {n : Nat} {x y : V} {A B : List (List Int)} (e2 : σ[2]? = some (some x)) (e3 : σ[3]? = some (some y)) (hx : PyV H x (lmD A)) (hy : PyV H y (lmD B)) (gA : Gr n A) (gB : Gr n B) (eA : SqE n 4 A) (eB : SqE n 4 B)
    (q : ∀ c H' ws, Same H H' → H' c = some (.lst ws) → ws.length = 4 → (∀ x ∈ ws, RowsV n H' x) → Q (.ref c) H') :
    tLst (tCons (tVar 2) (tCons (tVar 3) (tCons (tCall sp_tm [] E0 (tCons (tVar 2) (tCons (tVar 3) tNil))) (tCons (tCall sp_un [] E0 (tCons (tVar 3) tNil)) tNil)))) σ H Q := by
  have h1 := gA.h1
  have h3 := gA.h3
  refine r_lst ⟨_, e2, _, e3, r_cons (a2 ⟨_, e2, _, e3, x, y, A, B, n, 4, 4, rfl, hx, hy, h1, h3, eA, eB, by decide, by decide, fun D1 H1 s1 n1 => r_cons (a1 ⟨_, e3, y, B, n, rfl, PyV.mono s1 hy, gB, eB, fun D2 H2 s2 n2 => ⟨(by show 4 ≤ sizeLine; decide), fun c nc => ?_⟩⟩)⟩)⟩
  have s3 : Same H2 (upd H2 c (.lst [x, y, V.ref D1, V.ref D2])) := same_new nc
  have S3 := s1.trans (s2.trans s3)
  refine q c _ _ S3 upd_same rfl fun z hz => ?_
  rcases List.mem_cons.mp hz with rfl | hz
  · exact ⟨A, PyV.mono S3 hx, gA, eA.mono (by decide)⟩
  · rcases List.mem_cons.mp hz with rfl | hz
    · exact ⟨B, PyV.mono S3 hy, gB, eB.mono (by decide)⟩
    · rcases List.mem_cons.mp hz with rfl | hz
      · exact ⟨_, PyV.mono (s2.trans s3) n1.py, gA.mul gB, (eA.mul eB h1 h3).mono (by decide)⟩
      · rw [List.mem_singleton.mp hz]
        exact ⟨_, PyV.mono s3 n2.py, gB.und, (eB.und gB).mono (by decide)⟩
theorem rd_kept {C F : Addr} {σ : L2.St} {H : Hp} {Q : Bool → Hp → Prop} {n : Nat} {p : Addr} {x2 x5 : V} {S : List (List Int)} (e2 : σ[2]? = some (some x2)) (e5 : σ[5]? = some (some x5)) (h5 : SumV n p S x5 H) (hx : PyV H x2 (lmD S)) (gS : Gr n S) (eS : SqE n 4 S) (k : ∀ H', Same H H' → Q false H') :
    tAnd (tTest (tOp rNN (tVar 5) (tC .non))) (tTest (tOp rNotB (tCall (sp_keeps F C) [] E0 (tCons (tMake C (sp_init C) [] E0 (tCons (tVar 2) tNil)) (tCons (tMake F (sp_initF F) [] E0 (tCons (tVar 5) tNil)) tNil))) (tC (.bl true)))) σ H Q := by
  have h1 := gS.h1
  have h3 := gS.h3
  refine r_and (r_tt (r_op ⟨_, e5, rfl, _, rfl, ?_⟩))
  rcases h5 with z | ⟨M, pM, bM, tM, kM⟩
  · rw [show (!decide (x5 = V.non)) = false by rw [z]; simp]
    exact iteF (k _ (Same.refl _))
  · have nn : x5 ≠ V.non := fun z => by rw [z] at pM; cases pM
    rw [show (!decide (x5 = V.non)) = true by simp [nn]]
    refine iteT (r_tt (r_op (a2 (mkA ⟨_, e2, MkA.of (.inl hx) (grid_lm _) gS eS (by decide) fun c1 H1 s1 u1 => mkF ⟨_, e5, MkF.of (.inl (PyV.mono s1 (py_un pM))) (grid_lm _) h1 h3 tM bM (by decide) fun c2 H2 s2 f2 => ?_⟩⟩))))
    refine ⟨_, _, M, S, n, 200, 4, rfl, u1.same s2, f2, by decide, by decide, fun H3 s3 => ⟨_, _, rfl, rfl, _, rfl, ?_⟩⟩
    rw [decide_eq_true kM]
    exact k _ (s1.trans (s2.trans s3))
theorem rd_kept2 {C F : Addr} {σ : L2.St} {H : Hp} {Q : Bool → Hp → Prop} {n : Nat} {p : Addr} {x3 x5 : V} {S U : List (List Int)} (e3 : σ[3]? = some (some x3)) (e5 : σ[5]? = some (some x5)) (h5 : SumV n p S x5 H) (hx : PyV H x3 (lmD U)) (gS : Gr n U) (eS : SqE n 4 U)
    (k : ∀ b H', Same H H' → (b = true → ∃ M, PyV H x5 (lmD M) ∧ SqE n 200 M ∧ transp n M = M ∧ ldM n M S = M ∧ ldM n M U = M) → Q b H') :
    tAnd (tTest (tOp rNN (tVar 5) (tC .non))) (tB (tCall (sp_keeps F C) [] E0 (tCons (tMake C (sp_init C) [] E0 (tCons (tVar 3) tNil)) (tCons (tMake F (sp_initF F) [] E0 (tCons (tVar 5) tNil)) tNil)))) σ H Q := by
  have h1 := gS.h1
  have h3 := gS.h3
  refine r_and (r_tt (r_op ⟨_, e5, rfl, _, rfl, ?_⟩))
  rcases h5 with z | ⟨M, pM, bM, tM, kM⟩
  · rw [show (!decide (x5 = V.non)) = false by rw [z]; simp]
    exact iteF (k _ _ (Same.refl _) (fun z => by cases z))
  · have nn : x5 ≠ V.non := fun z => by rw [z] at pM; cases pM
    rw [show (!decide (x5 = V.non)) = true by simp [nn]]
    refine iteT (r_b (a2 (mkA ⟨_, e3, MkA.of (.inl hx) (grid_lm _) gS eS (by decide) fun c1 H1 s1 u1 => mkF ⟨_, e5, MkF.of (.inl (PyV.mono s1 (py_un pM))) (grid_lm _) h1 h3 tM bM (by decide) fun c2 H2 s2 f2 => ?_⟩⟩)))
    refine ⟨_, _, M, U, n, 200, 4, rfl, u1.same s2, f2, by decide, by decide, fun H3 s3 => ⟨_, rfl, ?_⟩⟩
    exact k _ _ (s1.trans (s2.trans s3)) (fun z => ⟨M, py_un pM, bM, tM, kM, of_decide_eq_true z⟩)
section
variable {P : Program} {w : World} {K : PySem.W.Frag} {mg : Str → Option Value} {base : Heap} {C F : Addr}
abbrev st_ri : Stmt := top 52
abbrev N_ri : List Str := ["_law_pot_here", "_law_size", "_law_one", "_law_other", "_law_form_here", "_law_summed_here", "_law_some", "_law_rows", "_law_both", "_law_minus", "_law_place", "_law_at", "_law_same"]
theorem sc_ri : FnScope N_ri ["_law_pot_here"] (defScope st_ri) := ⟨rfl, rfl, rfl, by decide +kernel, rfl, by decide +kernel, by decide +kernel⟩
theorem ok_ri {f : Addr} {fd : FuncData} (F' : Fun K "_law_right" "_law_right" st_ri f fd) (T : Txt mg) (Fc : Fcl K mg F) (Tc : Tcl K mg C) (DF : MkrF P w K mg base F) (DT : Mkr P w K mg base C) (DM : MulP P w K mg base C) (D1 : Def P w K mg base "_law_draw" 1 ["_law_pot_here", "_law_many"] sp_draw) (D2 : Def P w K mg base "_law_table" 3 ["_law_pot_here", "_law_size"] sp_tb)
    (D3 : Def P w K mg base "_law_any" 2 ["_law_pot_here", "_law_size"] sp_an) (D4 : Def P w K mg base "_law_summed" 3 ["_law_form_here", "_law_rows"] sp_su) (D5 : Def P w K mg base "_law_times" 1 ["_law_one", "_law_other"] sp_tm) (D6 : Def P w K mg base "_law_undone" 5 ["_law_rows"] sp_un) (DO : DefG P w K mg base "_law_one_right" 12 ["_law_form_here", "_law_rows"] sp_or)
    (DK : Def P w K mg base "keeps" 11 ["table", "form"] (sp_keeps F C)) :
    FnG P w K mg base CX0 13 f fd ["_law_pot_here"] sp_right := by
  refine okG F' sc_ri (fun vs H Q E h => ?_) (fun cdv A outer s H vs Q E hst hr h => ?_)
  · obtain ⟨p, rfl, _⟩ := h
    rfl
  · obtain ⟨p, rfl, hp, q⟩ := h
    refine ⟨_, pss_cons (ps_set (i := 1) sc_ri.nd rfl (Or.inr rfl) (pe_op op_add pe_int (pe_def D1 hr (pa_cons (pv 0) (pa_cons pe_int pa_nil)))))
      (pss_cons (ps_par (i := 2) (j := 3) rfl sc_ri.nd rfl rfl (by decide) rfl rfl (pa_cons (pe_def D2 hr (pa_cons (pv 0) (pa_cons (pv 1) pa_nil))) (pa_cons (pe_def D2 hr (pa_cons (pv 0) (pa_cons (pv 1) pa_nil))) pa_nil)) (by rfl))
      (pss_cons (ps_set (i := 4) sc_ri.nd rfl (Or.inl rfl) (pe_def D3 hr (pa_cons (pv 0) (pa_cons (pv 1) pa_nil))))
      (pss_cons (ps_set (i := 5) sc_ri.nd rfl (Or.inl rfl) (pe_def D4 hr (pa_cons (pv 4) (pa_cons (pv 2) pa_nil))))
      (pss_cons (ps_for PassesOwn.never rfl (pi_seq (pe_op (r := L2.rCat) op_cat (pe_lst (pa_cons (pv 4) (pa_cons (pe_def D3 hr (pa_cons (pv 0) (pa_cons (pv 1) pa_nil))) pa_nil))) (pe_ifExp (pt_cmpR (r := rNN) op_notN (pv 5) pe_non (nomark _)) (pe_lst (pa_cons (pv 5) pa_nil)) (pe_lst pa_nil)))) (pg_name (i := 6) sc_ri.nd rfl (Or.inl rfl))
        (pss_one (ps_for PassesOwn.never rfl (pi_seq (pe_lst (pa_cons (pv 2) (pa_cons (pv 3) (pa_cons (pe_def D5 hr (pa_cons (pv 2) (pa_cons (pv 3) pa_nil))) (pa_cons (pe_def D6 hr (pa_cons (pv 3) pa_nil)) pa_nil)))))) (pg_name (i := 7) sc_ri.nd rfl (Or.inl rfl))
          (pss_one (ps_if (pt_not (pt_val (pe_defG DO hst hr (pa_cons (pv 6) (pa_cons (pv 7) pa_nil))))) (pss_one (ps_ret pe_bl)) pss_nil)))))
      (pss_cons (ps_if (PW.pt (pw_and (pt_cmpR (r := rNN) op_notN (pv 5) pe_non (nomark _)) (pw_and1 (pt_cmpR op_notBl (pe_def DK hr (pa_cons (pe_mkr DT Tc hr (pa_cons (pv 2) pa_nil)) (pa_cons (pe_mkrF DF Fc hr (pa_cons (pv 5) pa_nil)) pa_nil))) pe_bl (nomark _))))) (pss_one (ps_ret pe_bl)) pss_nil)
      (pss_cons (ps_set (i := 8) sc_ri.nd rfl (Or.inl rfl) (pe_mulT DM hr (pe_mkr DT Tc hr (pa_cons (pv 2) pa_nil)) (pe_mkr DT Tc hr (pa_cons (pv 3) pa_nil))))
      (pss_cons (ps_if (PW.pt (pw_and (pt_cmpR (r := rNN) op_notN (pv 5) pe_non (nomark _)) (pw_and1 (pt_val (pe_def DK hr (pa_cons (pe_mkr DT Tc hr (pa_cons (pv 3) pa_nil)) (pa_cons (pe_mkrF DF Fc hr (pa_cons (pv 5) pa_nil)) pa_nil)))))))
          (pss_one (ps_if (pt_cmpR op_notBl (pe_def DK hr (pa_cons (pv 8) (pa_cons (pe_mkrF DF Fc hr (pa_cons (pv 5) pa_nil)) pa_nil))) pe_bl (nomark _)) (pss_one (ps_ret pe_bl)) pss_nil)) pss_nil)
      (pss_cons (ps_setLc (i := 9) (own := [("_law_place", 10)]) (g := gName 10) (tt := tYes) rfl sc_ri.nd rfl rfl (sw_true rfl rfl rfl (by decide +kernel)) (pi_range1 (by rfl) T.range (pa_cons (pv 1) pa_nil))
        (blkOk_by (N := N_ri) (sc := defScope st_ri) (by decide +kernel)) (fun _ _ _ _ _ => pg_name (i := 10) sc_ri.nd rfl (Or.inr rfl) (Or.inl rfl)) (fun _ _ _ _ _ => pts_nil)
        (fun s' H' C' cl' fp' => by
          refine pe_lc (own := [("_law_at", 11)]) (wi := iRng1 (tCons (tVar 1) tNil)) (g := gName 11) (tt := tYes) (te := tIf (tTest (tOp rEq (tVar 11) (tVar 10))) (tUn (rU fun i => V.int (-i)) (tC (.int 1))) (tC (.int 0))) rfl sc_ri.nd ?p1 ?p2 ?p3 ?p4 ?p5
          case p1 => exact pi_range1 (by rfl) T.range (pa_cons (pv 1) pa_nil)
          case p2 => exact blkOk_by (N := N_ri) (by rfl)
          case p3 => exact (fun _ _ _ _ _ => pg_name (i := 11) sc_ri.nd rfl (Or.inl rfl) (Or.inr rfl))
          case p4 => exact (fun _ _ _ _ _ => pts_nil)
          case p5 => exact (fun _ _ _ _ _ => pe_ifExp (pt_cmpR op_eq (pv 11) (pv 10) (nomark _)) (pe_un un_neg pe_int) pe_int)))
      (pss_cons (ps_set (i := 12) sc_ri.nd rfl (Or.inl rfl) (pe_def D5 hr (pa_cons (pv 9) (pa_cons (pv 9) pa_nil))))
      (pss_one (ps_ret (pe_and (pe_cmpR op_isBl (pe_def DK hr (pa_cons (pe_mkr DT Tc hr (pa_cons (pv 9) pa_nil)) (pa_cons (pe_mkrF DF Fc hr (pa_cons (pv 4) pa_nil)) pa_nil))) pe_bl (nomark _))
        (pe_one (pe_cmpR op_isBl (pe_def DK hr (pa_cons (pe_mkr DT Tc hr (pa_cons (pv 12) pa_nil)) (pa_cons (pe_mkrF DF Fc hr (pa_cons (pv 4) pa_nil)) pa_nil))) pe_bl (nomark _))))))))))))))), ?_⟩
    refine r_seq (r_asg (r_op ?_))
    refine ⟨_, rfl, p, 3, rfl, hp, by decide, by decide, fun r H1 r0 r1 s1 => ⟨_, _, rfl, rfl, ?_⟩⟩
    obtain ⟨n, en⟩ : ∃ n : Nat, 1 + r = (n : Int) := ⟨(1 + r).toNat, by omega⟩
    have h1 : 1 ≤ n := by omega
    have h3 : n ≤ 3 := by omega
    have ev : (fun i j : Int => V.int (i + j)) 1 r = V.int (n : Int) := congrArg V.int en
    rw [ev]
    refine r_next (r_nseq (r_par2 (r_cons (a2 ⟨_, rfl, _, rfl, p, n, rfl, s1.pot p rfl hp, h1, h3, fun x2 H2 S1 s2 p2 g2 e2 => ?_⟩))))
    have S2 := s1.trans s2
    refine r_cons (a2 ⟨_, rfl, _, rfl, p, n, rfl, S2.pot p rfl hp, h1, h3, fun x3 H3 U s3 p3 g3 e3 => ⟨_, _, rfl, ?_⟩⟩)
    have S3 := S2.trans s3
    refine r_next (r_nseq (r_asg (a2 ⟨_, rfl, _, rfl, p, n, rfl, S3.pot p rfl hp, h1, h3, fun D4 H4 G s4 p4 e4 t4 => ?_⟩)))
    have S4 := S3.trans s4
    have y2 := py_rx p2 (s3.trans s4)
    have y3 := py_rx p3 s4
    refine r_next (r_nseq (r_asg (a2 ⟨_, rfl, _, rfl, c_su (S4.pot p rfl hp).some_ p4 (py_un y2) h1 h3 e4 e2 t4 fun x5 H5 s5 k5 => ?_⟩)))
    have r5 : RX (some p) H4 H5 := RX.of s5
    have S5 := S4.trans r5
    refine r_next (r_nseq (r_forS (rd_some (p := p) (D := D4) (n := n) (S := S1) (x5 := x5) rfl rfl rfl rfl (S5.pot p rfl hp) h1 h3 ⟨G, py_rx p4 r5, e4.mono (by decide), t4⟩ k5 fun Lo H6 ws s6 hLo lw fw => ⟨false, Lo, ws, rfl, .inl (.inl hLo), ?_⟩)))
    have S6 := S5.trans s6
    have z2 := py_un (py_rx y2 (r5.trans s6))
    have z3 := py_un (py_rx y3 (r5.trans s6))
    have z4 := py_un (py_rx p4 (r5.trans s6))
    have k6 := k5.rx s6
    refine for_by ws.length (fun i σ H' => ∃ (x6 x7 x8 x9 x10 x11 x12 : Option V), σ = [some (.ref p), some (.int n), some x2, some x3, some (.ref D4), some x5, x6, x7, x8, x9, x10, x11, x12] ∧ Same H6 H')
      ⟨_, _, _, _, _, _, _, rfl, Same.refl _⟩ (fun i σ H' hi hP => ?_) (fun σ H' hP => ?_) (fun i x σ Ha Hb hi hP hy => ?_) (fun σ H' hP => ?_)
    · obtain ⟨_, _, _, _, _, _, _, _, u⟩ := hP
      exact its_go (t := false) (.inl (.inl (u _ _ hLo))) (List.getElem?_eq_getElem hi)
    · obtain ⟨_, _, _, _, _, _, _, _, u⟩ := hP
      exact its_stop (t := false) (.inl (.inl (u _ _ hLo))) (Nat.le_refl _)
    · obtain ⟨x6, x7, x8, x9, x10, x11, x12, rfl, s7⟩ := hP
      obtain ⟨e7, ex⟩ := its_yld (t := false) hy (.inl (.inl (s7 _ _ hLo)))
      subst e7
      obtain ⟨Gx, px, bx, tx⟩ := fw x (List.mem_of_getElem? ex)
      refine r_forS (rd_rows (n := n) (x := x2) (y := x3) (A := S1) (B := U) rfl rfl (PyV.mono s7 z2) (PyV.mono s7 z3) g2 g3 e2 e3 fun Li H8 us s8 hLi lu ru => ⟨false, Li, us, rfl, .inl (.inl hLi), ?_⟩)
      refine for_by us.length (fun j σ H' => ∃ (x7 : Option V), σ = [some (.ref p), some (.int n), some x2, some x3, some (.ref D4), some x5, some x, x7, x8, x9, x10, x11, x12] ∧ Same H8 H')
        ⟨_, rfl, Same.refl _⟩ (fun j σ H' hj hP => ?_) (fun σ H' hP => ?_) (fun j y σ Hc Hd hj hP hy => ?_) (fun σ H' hP => ?_)
      · obtain ⟨_, _, u⟩ := hP
        exact its_go (t := false) (.inl (.inl (u _ _ hLi))) (List.getElem?_eq_getElem hj)
      · obtain ⟨_, _, u⟩ := hP
        exact its_stop (t := false) (.inl (.inl (u _ _ hLi))) (Nat.le_refl _)
      · obtain ⟨x7', rfl, s9⟩ := hP
        obtain ⟨e9, ey⟩ := its_yld (t := false) hy (.inl (.inl (s9 _ _ hLi)))
        subst e9
        obtain ⟨Sy, py, gy, by'⟩ := (ru y (List.mem_of_getElem? ey)).same s9
        refine r_if (r_not (r_b (a2 ⟨_, rfl, _, rfl, x, y, Gx, Sy, n, rfl, PyV.mono (s7.trans (s8.trans s9)) (py_un px), py, gy, bx, by', tx, fun He se => ⟨_, rfl, ?_⟩⟩)))
        refine iteF ?_
        exact ⟨_, rfl, s9.trans se⟩
      · obtain ⟨x7', rfl, s9⟩ := hP
        exact ⟨_, _, _, _, _, _, _, rfl, s7.trans (s8.trans s9)⟩
    · obtain ⟨x6, x7, x8, x9, x10, x11, x12, rfl, s7⟩ := hP
      have k7 := k6.rx (RX.of s7)
      have w2 := PyV.mono s7 z2
      have w3 := PyV.mono s7 z3
      have w4 := PyV.mono s7 z4
      refine r_nseq (r_if (rd_kept (n := n) (p := p) (S := S1) rfl rfl k7 w2 g2 e2 fun H8 s8 => iteF ?_))
      have v2 := PyV.mono s8 w2
      have v3 := PyV.mono s8 w3
      refine r_next (r_nseq (r_asg (r_op (mkA ⟨_, rfl, MkA.of (.inl v2) (grid_lm _) g2 e2 (by decide) fun c1 H9 s9 u9 => mkA ⟨_, rfl, MkA.of (.inl (PyV.mono s9 v3)) (grid_lm _) g3 e3 (by decide) fun c2 H10 s10 u10 => o_mul (u9.same s10) u10 fun c3 H11 s11 u11 => ?_⟩⟩))))
      have S11 := s8.trans (s9.trans (s10.trans s11))
      have k11 := k7.rx (RX.of S11)
      have S711 := s7.trans S11
      refine r_next (r_nseq (r_if (rd_kept2 (n := n) (p := p) (S := S1) (U := U) rfl rfl k11 (PyV.mono S11 w3) g3 e3 fun b H12 s12 hb => ?_)))
      refine if_then (Same H11) (fun H13 s13 => ?rest) (fun e k => ?a) (fun e => s12)
      case a =>
        obtain ⟨M, pM, bM, tM, kM, kU⟩ := hb e
        refine r_if (r_tt (r_op (a2 ⟨_, rfl, mkF ⟨_, rfl, MkF.of (.inl (PyV.mono s12 pM)) (grid_lm _) h1 h3 tM bM (by decide) fun c4 H13 s13 f13 => ?_⟩⟩)))
        refine ⟨_, _, M, mulM n S1 U, n, 200, 10, rfl, u11.same (s12.trans s13), f13, by decide, by decide, fun H14 s14 => ⟨_, _, rfl, rfl, _, rfl, ?_⟩⟩
        rw [decide_eq_true (show ldM n M (mulM n S1 U) = M by rw [ld_mul h1 h3 bM.sh g2.sh g3.sh, kM, kU])]
        exact iteF (k _ (s12.trans (s13.trans s14)))
      case rest =>
        obtain ⟨gm, em, mm⟩ := min_ok h1 h3
        refine r_nseq (r_asg (tlc_call ⟨_, rfl, (n : Int), rfl, by omega, by omega, ?_⟩))
        rw [Int.toNat_natCast]
        refine lc_fresh2 (p := none) n (fun i => .lst (((minM n).getD i []).map V.int)) has_none (by omega) (fun i H2 hi s2 => hi) (fun H2 s2 => Nat.le_refl _) (fun i x H2 H3 C' hi s2 _ hy hC => ?_) fun Dm H14 ms nDm s14 hDm hml hmE => ?_
        · obtain ⟨rfl, rfl⟩ := hy
          rw [show (0 : Int) + (i : Int) = (i : Int) by omega]
          refine ⟨rfl, tlc_call ⟨_, rfl, (n : Int), rfl, by omega, by omega, ?_⟩⟩
          rw [Int.toNat_natCast]
          refine lc_el (p := none) n (fun j v => v = .int (if j = i then -1 else 0)) has_none (by omega) (fun j H4 hj s4 => hj) (fun H4 s4 => Nat.le_refl _) (fun j x H4 H5 C2 hj s4 _ hy2 hC2 => ?_) fun De H4 ys nDe s4 hDe hyl hyE => ?_
          · obtain ⟨rfl, rfl⟩ := hy2
            rw [show (0 : Int) + (j : Int) = (j : Int) by omega]
            refine ⟨rfl, _, rfl, _, rfl, rfl, _, rfl, ?_⟩
            by_cases z : j = i
            · rw [show decide (V.int ((j : Nat) : Int) = V.int (i : Int)) = true by simp [z]]
              exact iteT ⟨_, rfl, hC2 _ _ (RX.refl _) (by rw [if_pos z])⟩
            · rw [show decide (V.int ((j : Nat) : Int) = V.int (i : Int)) = false by simp; omega]
              exact iteF (hC2 _ _ (RX.refl _) (by rw [if_neg z]))
          · refine hC De _ s4 nDe ?_
            have ey : ys = (List.range n).map fun j => V.int (if j = i then -1 else 0) := map_of_get (n := 0) _ (by rw [hyl, List.length_range]) fun j v e => by
              have hj : j < n := by rw [← hyl]; exact (List.getElem?_eq_some_iff.mp e).1
              exact ⟨j, List.getElem?_range hj, hyE j v e⟩
            rw [hDe, ey, min_row hi, List.map_map]
            rfl
        · have nm : NewM H13 H14 Dm (minM n) := newM nDm hDm (by rw [hml]; unfold minM; rw [List.length_map, List.length_range]) fun i v e => by
            obtain ⟨q, e1, e2, _, _, e5⟩ := hmE i v e
            exact ⟨q, e1, e2, e5⟩
          refine r_next (r_nseq (r_asg (a2 ⟨_, rfl, _, rfl, _, _, minM n, minM n, n, 1, 1, rfl, nm.py, nm.py, h1, h3, em, em, by decide, by decide, fun Ds H15 s15 ns => ?_⟩)))
          rw [mm] at ns
          have S15 := S711.trans (s13.trans (s14.same.trans s15))
          have f15 := PyV.mono S15 z4
          refine r_next (r_nret (r_andV (r_op (a2 (mkA ⟨_, rfl, MkA.of (.inl (PyV.mono s15 nm.py)) (grid_lm _) gm em (by decide) fun c5 H16 s16 u16 => mkF ⟨_, rfl, MkF.of (.inl (PyV.mono s16 f15)) (grid_lm _) h1 h3 t4 e4 (by decide) fun c6 H17 s17 f17 => ?_⟩⟩)))))
          refine ⟨_, _, G, minM n, n, 3, 1, rfl, u16.same s17, f17, by decide, by decide, fun H18 s18 => ⟨_, _, rfl, rfl, _, rfl, ?_⟩⟩
          rw [decide_eq_true (ld_min h1 h3 e4.sh)]
          have S18 := s16.trans (s17.trans s18)
          refine iteT (r_op (a2 (mkA ⟨_, rfl, MkA.of (.inl (PyV.mono S18 ns.py)) (grid_lm _) (gr_unit h1 h3) ((unit_sqB n).e (by decide) : SqE n 1 (unitM n)) (by decide) fun c7 H19 s19 u19 => mkF ⟨_, rfl, MkF.of (.inl (PyV.mono (S18.trans s19) f15)) (grid_lm _) h1 h3 t4 e4 (by decide) fun c8 H20 s20 f20 => ?_⟩⟩)))
          refine ⟨_, _, G, unitM n, n, 3, 1, rfl, u19.same s20, f20, by decide, by decide, fun H21 s21 => ⟨_, _, rfl, rfl, ?_⟩⟩
          rw [decide_eq_true (ld_unit h1 h3 e4.sh)]
          exact q _ (S6.trans (RX.of (S15.trans (S18.trans (s19.trans (s20.trans s21))))))
end
end T34
set_option Elab.async false
set_option linter.all false
set_option maxRecDepth 100000
set_option maxHeartbeats 4000000
namespace T34
open PySem PySem.Spec PyProof.Rows L2 Gd Zn Rp Dn Tb Gn En Zs Ct Op Oc Rg Rt Ro Oa
section
variable {P : Program} {w : World} {K : PySem.W.Frag} {mg : Str → Option Value} {base : Heap} {C F : Addr}
theorem rpTF_of {fT fF : Addr} {gT gF : FuncData} (FT : Fun K "__repr__" "Table.__repr__" (st_T 6) fT gT) (FF : Fun K "__repr__" "Form.__repr__" (st_F 5) fF gF) (Tc : Tcl K mg C) (Fc : Fcl K mg F) (aT : PySem.W.findIn K (.ref C) "__repr__" = some (some (.ref fT))) (iT : PySem.W.isFn K (.ref fT) = true) (bT : Binds K gT ["self"] [])
    (aF : PySem.W.findIn K (.ref F) "__repr__" = some (some (.ref fF))) (iF : PySem.W.isFn K (.ref fF) = true) (bF : Binds K gF ["self"] []) : RpTF P w K mg base C F := by
  refine ⟨fun D fld n1 n2 h => ?_⟩
  obtain ⟨rfl, rfl, ⟨rfl, rfl⟩ | ⟨rfl, rfl⟩⟩ := h
  · exact ⟨fT, gT, aT, iT, fun a0 => Rh.ok_repH FT sc_repr Tc.cl Tc.nR (by decide +kernel) (by decide +kernel) rfl (fun _ => rfl) (by first | exact Or.inl rfl | exact Or.inr rfl), bT⟩
  · exact ⟨fF, gF, aF, iF, fun a0 => Rh.ok_repH FF sc_reprF Fc.cl Fc.nR (by decide +kernel) (by decide +kernel) rfl (fun _ => rfl) (by first | exact Or.inl rfl | exact Or.inr rfl), bF⟩
abbrev st_law : Stmt := top 53
abbrev N_law : List Str := ["_law_script", "_law_k"]
theorem sc_law : FnScope N_law ["_law_script"] (defScope st_law) := ⟨rfl, rfl, rfl, by decide +kernel, rfl, by decide +kernel, by decide +kernel⟩
theorem ok_law {f : Addr} {fd : FuncData} (F : Fun K "law" "law" st_law f fd) (T : Txt mg) (hmin : mg "min" = none) (D1 : Def P w K mg base "_law_pot" 1 ["_law_script", "_law_k"] (sp_pot K)) (D2 : DefG P w K mg base "_law_right" 13 ["_law_pot_here"] sp_right) :
    FnG P w K mg base CX0 14 f fd ["_law_script"] (sp_law K) := by
  refine okG F sc_law (fun vs H Q E h => ?_) (fun cdv A outer s H vs Q E hst hr h => ?_)
  · obtain ⟨a, ns, rfl, _⟩ := h
    rfl
  · obtain ⟨a, ns, rfl, hS, hl, q⟩ := h
    refine ⟨_, pss_one (ps_ret (pe_callB (cr_all rfl) (by rfl) T.all boot_all (pa_cons (pe_lc (own := [("_law_k", 1)]) (g := gName 1) (tt := tYes) rfl sc_law.nd (pi_range1 (by rfl) T.range (pa_cons (pe_callB (call_max2 rfl) (by rfl) T.max boot_max (pa_cons pe_int (pa_cons (pe_callB (call_min2 rfl) (by rfl) hmin boot_min (pa_cons pe_int (pa_cons (pe_callB (r := Dn.rLen K) c_len (by rfl) T.len PySem.boot_len (pa_cons (pv 0) pa_nil)) pa_nil))) pa_nil))) pa_nil))
      (blkOk_by (N := N_law) (sc := defScope st_law) (by decide +kernel)) (fun _ _ _ _ _ => pg_name (i := 1) sc_law.nd rfl (Or.inl rfl) (Or.inr rfl)) (fun _ _ _ _ _ => pts_nil)
      (fun _ _ _ _ _ => pe_defG (X := Cx.blk _ _ _ _ _ _) D2 hst hr (pa_cons (pe_def (X := Cx.blk _ _ _ _ _ _) D1 hr (pa_cons (pv 0) (pa_cons (pv 1) pa_nil))) pa_nil))) pa_nil))), ?_⟩
    refine r_ret (cb1 (tlc_call ?_))
    obtain ⟨m, em, m2⟩ := count_of ((ns.map V.int).length) 2 (by decide)
    refine ⟨_, rfl, a, _, rfl, .inl hS, _, _, rfl, _, _, rfl, (m : Int), congrArg (fun x => [V.int x]) em, by omega, by omega, ?_⟩
    rw [Int.toNat_natCast]
    refine lc_el (p := none) m (fun i v => v = .bl true) has_none (by omega) (fun i H2 hi s2 => hi) (fun H2 s2 => Nat.le_refl _) (fun i x H2 H3 C hi s2 hp2 hy hC => ?_) fun D H2 rs nD s2 hD hrl hE => ?_
    · obtain ⟨rfl, rfl⟩ := hy
      refine ⟨rfl, ?_⟩
      refine ⟨_, rfl, _, rfl, a, ns, _, rfl, Same.seq s2.same hS, hl, by omega, by omega, fun p H4 np s4 hp4 => ?_⟩
      refine ⟨p, rfl, hp4, fun H5 s5 => hC _ _ ?_ rfl⟩
      refine RX.of fun c o e => ?_
      have nc : p ≠ c := fun z => by subst z; rw [e] at np; cases np
      exact s5.keep c o (by intro z; cases z; exact nc rfl) (s4 c o e)
    · have er : rs = (List.replicate m true).map V.bl := map_of_get (n := 0) _ (by simp [hrl]) fun i v e => by
        have hi : i < m := by rw [← hrl]; exact (List.getElem?_eq_some_iff.mp e).1
        exact ⟨true, by rw [List.getElem?_replicate, if_pos hi], hE i v e⟩
      refine ⟨D, List.replicate m true, rfl, .inl (.inl (by rw [hD, er])), ?_⟩
      rw [show (List.replicate m true).all id = true by simp]
      exact q H2
end
end T34
set_option Elab.async false
set_option linter.all false
set_option maxRecDepth 100000
set_option maxHeartbeats 4000000
namespace T34
open PySem PySem.Spec PyProof.Rows L2 Gd Zn Rp Dn Tb Gn En Zs Ct Op Oc Rg Rt Ro Oa
theorem all_mk {l : PySem.W.OpenLaw} {w : World} {K : PySem.W.Frag} {h : Heap} {mg : Str → Option Value} {fa : Addr} (X : K.In h) (G : h.Ns mainGlobals mg) (hfa : mg "law" = some (.ref fa))
    {C f_is_integer f_is_list f_is_row f_is_row_of f_check_row f_is_grid f_copied f_across f_scalar f_led_row f_multiplied f_without f_determinant_of f_cofactor f_check_table f_check_alike f_check_form f_keeps f__law_pot f__law_draw f__law_pick f__law_det f__law_told f__law_times f__law_undone f__law_table f__law_led f__law_form f__law_places f__law_any f__law_summed f__law_worths_kept f__law_one_right f__law_right f_law f_T___init__ f_T_rows f_T_size f_T_determinant f_T___repr__ f_T___mul__ f_T_lead f_T_undone f_Fm___init__ f_Fm_rows f_Fm_size f_Fm___eq__ f_Fm___repr__ f_Fm_worth f_Fm_between f_Fm_led : Addr}
    {od_is_integer an_is_integer od_is_list an_is_list od_is_row an_is_row od_is_row_of an_is_row_of od_check_row an_check_row od_is_grid an_is_grid od_copied an_copied od_across an_across od_scalar an_scalar od_led_row an_led_row od_multiplied an_multiplied od_without an_without od_determinant_of an_determinant_of od_cofactor an_cofactor od_check_table an_check_table od_check_alike an_check_alike od_check_form an_check_form od_keeps an_keeps od__law_pot an__law_pot od__law_draw an__law_draw od__law_pick an__law_pick od__law_det an__law_det od__law_told an__law_told od__law_times an__law_times od__law_undone an__law_undone od__law_table an__law_table od__law_led an__law_led od__law_form an__law_form od__law_places an__law_places od__law_any an__law_any od__law_summed an__law_summed od__law_worths_kept an__law_worths_kept od__law_one_right an__law_one_right od__law_right an__law_right od_law an_law od_T___init__ an_T___init__ od_T_rows an_T_rows od_T_size an_T_size od_T_determinant an_T_determinant od_T___repr__ an_T___repr__ od_T___mul__ an_T___mul__ od_T_lead an_T_lead od_T_undone an_T_undone od_Fm___init__ an_Fm___init__ od_Fm_rows an_Fm_rows od_Fm_size an_Fm_size od_Fm___eq__ an_Fm___eq__ od_Fm___repr__ an_Fm___repr__ od_Fm_worth an_Fm_worth od_Fm_between an_Fm_between od_Fm_led an_Fm_led : Option Addr}
    {sl_is_integer sl_is_list sl_is_row sl_is_row_of sl_check_row sl_is_grid sl_copied sl_across sl_scalar sl_led_row sl_multiplied sl_without sl_determinant_of sl_cofactor sl_check_table sl_check_alike sl_check_form sl_keeps sl__law_pot sl__law_draw sl__law_pick sl__law_det sl__law_told sl__law_times sl__law_undone sl__law_table sl__law_led sl__law_form sl__law_places sl__law_any sl__law_summed sl__law_worths_kept sl__law_one_right sl__law_right sl_law sl_T___init__ sl_T_rows sl_T_size sl_T_determinant sl_T___repr__ sl_T___mul__ sl_T_lead sl_T_undone sl_Fm___init__ sl_Fm_rows sl_Fm_size sl_Fm___eq__ sl_Fm___repr__ sl_Fm_worth sl_Fm_between sl_Fm_led : Array (Option Value)}
    {oc_is_integer kV_is_integer dc_is_integer pm_is_integer cd_is_integer ct_is_integer oc_is_list kV_is_list dc_is_list pm_is_list cd_is_list ct_is_list oc_is_row kV_is_row dc_is_row pm_is_row cd_is_row ct_is_row oc_is_row_of kV_is_row_of dc_is_row_of pm_is_row_of cd_is_row_of ct_is_row_of oc_check_row kV_check_row dc_check_row pm_check_row cd_check_row ct_check_row oc_is_grid kV_is_grid dc_is_grid pm_is_grid cd_is_grid ct_is_grid oc_copied kV_copied dc_copied pm_copied cd_copied ct_copied oc_across kV_across dc_across pm_across cd_across ct_across oc_scalar kV_scalar dc_scalar pm_scalar cd_scalar ct_scalar oc_led_row kV_led_row dc_led_row pm_led_row cd_led_row ct_led_row oc_multiplied kV_multiplied dc_multiplied pm_multiplied cd_multiplied ct_multiplied oc_without kV_without dc_without pm_without cd_without ct_without oc_determinant_of kV_determinant_of dc_determinant_of pm_determinant_of cd_determinant_of ct_determinant_of oc_cofactor kV_cofactor dc_cofactor pm_cofactor cd_cofactor ct_cofactor oc_check_table kV_check_table dc_check_table pm_check_table cd_check_table ct_check_table oc_check_alike kV_check_alike dc_check_alike pm_check_alike cd_check_alike ct_check_alike oc_check_form kV_check_form dc_check_form pm_check_form cd_check_form ct_check_form oc_keeps kV_keeps dc_keeps pm_keeps cd_keeps ct_keeps oc__law_pot kV__law_pot dc__law_pot pm__law_pot cd__law_pot ct__law_pot oc__law_draw kV__law_draw dc__law_draw pm__law_draw cd__law_draw ct__law_draw oc__law_pick kV__law_pick dc__law_pick pm__law_pick cd__law_pick ct__law_pick oc__law_det kV__law_det dc__law_det pm__law_det cd__law_det ct__law_det oc__law_told kV__law_told dc__law_told pm__law_told cd__law_told ct__law_told oc__law_times kV__law_times dc__law_times pm__law_times cd__law_times ct__law_times oc__law_undone kV__law_undone dc__law_undone pm__law_undone cd__law_undone ct__law_undone oc__law_table kV__law_table dc__law_table pm__law_table cd__law_table ct__law_table oc__law_led kV__law_led dc__law_led pm__law_led cd__law_led ct__law_led oc__law_form kV__law_form dc__law_form pm__law_form cd__law_form ct__law_form oc__law_places kV__law_places dc__law_places pm__law_places cd__law_places ct__law_places oc__law_any kV__law_any dc__law_any pm__law_any cd__law_any ct__law_any oc__law_summed kV__law_summed dc__law_summed pm__law_summed cd__law_summed ct__law_summed oc__law_worths_kept kV__law_worths_kept dc__law_worths_kept pm__law_worths_kept cd__law_worths_kept ct__law_worths_kept oc__law_one_right kV__law_one_right dc__law_one_right pm__law_one_right cd__law_one_right ct__law_one_right oc__law_right kV__law_right dc__law_right pm__law_right cd__law_right ct__law_right oc_law kV_law dc_law pm_law cd_law ct_law oc_T___init__ kV_T___init__ dc_T___init__ pm_T___init__ cd_T___init__ ct_T___init__ oc_T_rows kV_T_rows dc_T_rows pm_T_rows cd_T_rows ct_T_rows oc_T_size kV_T_size dc_T_size pm_T_size cd_T_size ct_T_size oc_T_determinant kV_T_determinant dc_T_determinant pm_T_determinant cd_T_determinant ct_T_determinant oc_T___repr__ kV_T___repr__ dc_T___repr__ pm_T___repr__ cd_T___repr__ ct_T___repr__ oc_T___mul__ kV_T___mul__ dc_T___mul__ pm_T___mul__ cd_T___mul__ ct_T___mul__ oc_T_lead kV_T_lead dc_T_lead pm_T_lead cd_T_lead ct_T_lead oc_T_undone kV_T_undone dc_T_undone pm_T_undone cd_T_undone ct_T_undone oc_Fm___init__ kV_Fm___init__ dc_Fm___init__ pm_Fm___init__ cd_Fm___init__ ct_Fm___init__ oc_Fm_rows kV_Fm_rows dc_Fm_rows pm_Fm_rows cd_Fm_rows ct_Fm_rows oc_Fm_size kV_Fm_size dc_Fm_size pm_Fm_size cd_Fm_size ct_Fm_size oc_Fm___eq__ kV_Fm___eq__ dc_Fm___eq__ pm_Fm___eq__ cd_Fm___eq__ ct_Fm___eq__ oc_Fm___repr__ kV_Fm___repr__ dc_Fm___repr__ pm_Fm___repr__ cd_Fm___repr__ ct_Fm___repr__ oc_Fm_worth kV_Fm_worth dc_Fm_worth pm_Fm_worth cd_Fm_worth ct_Fm_worth oc_Fm_between kV_Fm_between dc_Fm_between pm_Fm_between cd_Fm_between ct_Fm_between oc_Fm_led kV_Fm_led dc_Fm_led pm_Fm_led cd_Fm_led ct_Fm_led : Value}
    {pp_T_rows pp_T_size pp_T_determinant pp_Fm_rows pp_Fm_size : Addr} {rs_T_rows rs_T_size rs_T_determinant rs_Fm_rows rs_Fm_size : List Value}
    {cld : ClassData} {mrest : List Value}
    {CF : Addr} {cldF : ClassData} {mrestF : List Value}
    (aC : PySem.W.nsIn K mainGlobals "Table" = some (some (.ref C)))
    (aCF : PySem.W.nsIn K mainGlobals "Form" = some (some (.ref CF)))
    (a_is_integer : PySem.W.nsIn K mainGlobals "is_integer" = some (some (.ref f_is_integer)))
    (l_is_integer : K.lookup f_is_integer = some ⟨oc_is_integer, od_is_integer, .func (PySem.W.fnOf "is_integer" "is_integer" (defArgs st_is_integer) (defBody st_is_integer) (defScope st_is_integer) .none kV_is_integer dc_is_integer pm_is_integer an_is_integer cd_is_integer ct_is_integer), sl_is_integer⟩)
    (c_is_integer : PySem.W.codeIn K cd_is_integer "is_integer" = true)
    (k_is_integer : PySem.W.keepIn K (.ref f_is_integer) = true)
    (a_is_list : PySem.W.nsIn K mainGlobals "is_list" = some (some (.ref f_is_list)))
    (l_is_list : K.lookup f_is_list = some ⟨oc_is_list, od_is_list, .func (PySem.W.fnOf "is_list" "is_list" (defArgs st_is_list) (defBody st_is_list) (defScope st_is_list) .none kV_is_list dc_is_list pm_is_list an_is_list cd_is_list ct_is_list), sl_is_list⟩)
    (c_is_list : PySem.W.codeIn K cd_is_list "is_list" = true)
    (k_is_list : PySem.W.keepIn K (.ref f_is_list) = true)
    (a_is_row : PySem.W.nsIn K mainGlobals "is_row" = some (some (.ref f_is_row)))
    (l_is_row : K.lookup f_is_row = some ⟨oc_is_row, od_is_row, .func (PySem.W.fnOf "is_row" "is_row" (defArgs st_is_row) (defBody st_is_row) (defScope st_is_row) .none kV_is_row dc_is_row pm_is_row an_is_row cd_is_row ct_is_row), sl_is_row⟩)
    (c_is_row : PySem.W.codeIn K cd_is_row "is_row" = true)
    (k_is_row : PySem.W.keepIn K (.ref f_is_row) = true)
    (a_is_row_of : PySem.W.nsIn K mainGlobals "is_row_of" = some (some (.ref f_is_row_of)))
    (l_is_row_of : K.lookup f_is_row_of = some ⟨oc_is_row_of, od_is_row_of, .func (PySem.W.fnOf "is_row_of" "is_row_of" (defArgs st_is_row_of) (defBody st_is_row_of) (defScope st_is_row_of) .none kV_is_row_of dc_is_row_of pm_is_row_of an_is_row_of cd_is_row_of ct_is_row_of), sl_is_row_of⟩)
    (c_is_row_of : PySem.W.codeIn K cd_is_row_of "is_row_of" = true)
    (k_is_row_of : PySem.W.keepIn K (.ref f_is_row_of) = true)
    (a_check_row : PySem.W.nsIn K mainGlobals "check_row" = some (some (.ref f_check_row)))
    (l_check_row : K.lookup f_check_row = some ⟨oc_check_row, od_check_row, .func (PySem.W.fnOf "check_row" "check_row" (defArgs st_check_row) (defBody st_check_row) (defScope st_check_row) .none kV_check_row dc_check_row pm_check_row an_check_row cd_check_row ct_check_row), sl_check_row⟩)
    (c_check_row : PySem.W.codeIn K cd_check_row "check_row" = true)
    (k_check_row : PySem.W.keepIn K (.ref f_check_row) = true)
    (a_is_grid : PySem.W.nsIn K mainGlobals "is_grid" = some (some (.ref f_is_grid)))
    (l_is_grid : K.lookup f_is_grid = some ⟨oc_is_grid, od_is_grid, .func (PySem.W.fnOf "is_grid" "is_grid" (defArgs st_is_grid) (defBody st_is_grid) (defScope st_is_grid) .none kV_is_grid dc_is_grid pm_is_grid an_is_grid cd_is_grid ct_is_grid), sl_is_grid⟩)
    (c_is_grid : PySem.W.codeIn K cd_is_grid "is_grid" = true)
    (k_is_grid : PySem.W.keepIn K (.ref f_is_grid) = true)
    (a_copied : PySem.W.nsIn K mainGlobals "copied" = some (some (.ref f_copied)))
    (l_copied : K.lookup f_copied = some ⟨oc_copied, od_copied, .func (PySem.W.fnOf "copied" "copied" (defArgs st_copied) (defBody st_copied) (defScope st_copied) .none kV_copied dc_copied pm_copied an_copied cd_copied ct_copied), sl_copied⟩)
    (c_copied : PySem.W.codeIn K cd_copied "copied" = true)
    (k_copied : PySem.W.keepIn K (.ref f_copied) = true)
    (a_across : PySem.W.nsIn K mainGlobals "across" = some (some (.ref f_across)))
    (l_across : K.lookup f_across = some ⟨oc_across, od_across, .func (PySem.W.fnOf "across" "across" (defArgs st_across) (defBody st_across) (defScope st_across) .none kV_across dc_across pm_across an_across cd_across ct_across), sl_across⟩)
    (c_across : PySem.W.codeIn K cd_across "across" = true)
    (k_across : PySem.W.keepIn K (.ref f_across) = true)
    (a_scalar : PySem.W.nsIn K mainGlobals "scalar" = some (some (.ref f_scalar)))
    (l_scalar : K.lookup f_scalar = some ⟨oc_scalar, od_scalar, .func (PySem.W.fnOf "scalar" "scalar" (defArgs st_scalar) (defBody st_scalar) (defScope st_scalar) .none kV_scalar dc_scalar pm_scalar an_scalar cd_scalar ct_scalar), sl_scalar⟩)
    (c_scalar : PySem.W.codeIn K cd_scalar "scalar" = true)
    (k_scalar : PySem.W.keepIn K (.ref f_scalar) = true)
    (a_led_row : PySem.W.nsIn K mainGlobals "led_row" = some (some (.ref f_led_row)))
    (l_led_row : K.lookup f_led_row = some ⟨oc_led_row, od_led_row, .func (PySem.W.fnOf "led_row" "led_row" (defArgs st_led_row) (defBody st_led_row) (defScope st_led_row) .none kV_led_row dc_led_row pm_led_row an_led_row cd_led_row ct_led_row), sl_led_row⟩)
    (c_led_row : PySem.W.codeIn K cd_led_row "led_row" = true)
    (k_led_row : PySem.W.keepIn K (.ref f_led_row) = true)
    (a_multiplied : PySem.W.nsIn K mainGlobals "multiplied" = some (some (.ref f_multiplied)))
    (l_multiplied : K.lookup f_multiplied = some ⟨oc_multiplied, od_multiplied, .func (PySem.W.fnOf "multiplied" "multiplied" (defArgs st_multiplied) (defBody st_multiplied) (defScope st_multiplied) .none kV_multiplied dc_multiplied pm_multiplied an_multiplied cd_multiplied ct_multiplied), sl_multiplied⟩)
    (c_multiplied : PySem.W.codeIn K cd_multiplied "multiplied" = true)
    (k_multiplied : PySem.W.keepIn K (.ref f_multiplied) = true)
    (a_without : PySem.W.nsIn K mainGlobals "without" = some (some (.ref f_without)))
    (l_without : K.lookup f_without = some ⟨oc_without, od_without, .func (PySem.W.fnOf "without" "without" (defArgs st_without) (defBody st_without) (defScope st_without) .none kV_without dc_without pm_without an_without cd_without ct_without), sl_without⟩)
    (c_without : PySem.W.codeIn K cd_without "without" = true)
    (k_without : PySem.W.keepIn K (.ref f_without) = true)
    (a_determinant_of : PySem.W.nsIn K mainGlobals "determinant_of" = some (some (.ref f_determinant_of)))
    (l_determinant_of : K.lookup f_determinant_of = some ⟨oc_determinant_of, od_determinant_of, .func (PySem.W.fnOf "determinant_of" "determinant_of" (defArgs st_det) (defBody st_det) (defScope st_det) .none kV_determinant_of dc_determinant_of pm_determinant_of an_determinant_of cd_determinant_of ct_determinant_of), sl_determinant_of⟩)
    (c_determinant_of : PySem.W.codeIn K cd_determinant_of "determinant_of" = true)
    (k_determinant_of : PySem.W.keepIn K (.ref f_determinant_of) = true)
    (a_cofactor : PySem.W.nsIn K mainGlobals "cofactor" = some (some (.ref f_cofactor)))
    (l_cofactor : K.lookup f_cofactor = some ⟨oc_cofactor, od_cofactor, .func (PySem.W.fnOf "cofactor" "cofactor" (defArgs st_cofactor) (defBody st_cofactor) (defScope st_cofactor) .none kV_cofactor dc_cofactor pm_cofactor an_cofactor cd_cofactor ct_cofactor), sl_cofactor⟩)
    (c_cofactor : PySem.W.codeIn K cd_cofactor "cofactor" = true)
    (k_cofactor : PySem.W.keepIn K (.ref f_cofactor) = true)
    (a_check_table : PySem.W.nsIn K mainGlobals "check_table" = some (some (.ref f_check_table)))
    (l_check_table : K.lookup f_check_table = some ⟨oc_check_table, od_check_table, .func (PySem.W.fnOf "check_table" "check_table" (defArgs st_check_table) (defBody st_check_table) (defScope st_check_table) .none kV_check_table dc_check_table pm_check_table an_check_table cd_check_table ct_check_table), sl_check_table⟩)
    (c_check_table : PySem.W.codeIn K cd_check_table "check_table" = true)
    (k_check_table : PySem.W.keepIn K (.ref f_check_table) = true)
    (a_check_alike : PySem.W.nsIn K mainGlobals "check_alike" = some (some (.ref f_check_alike)))
    (l_check_alike : K.lookup f_check_alike = some ⟨oc_check_alike, od_check_alike, .func (PySem.W.fnOf "check_alike" "check_alike" (defArgs st_check_alike) (defBody st_check_alike) (defScope st_check_alike) .none kV_check_alike dc_check_alike pm_check_alike an_check_alike cd_check_alike ct_check_alike), sl_check_alike⟩)
    (c_check_alike : PySem.W.codeIn K cd_check_alike "check_alike" = true)
    (k_check_alike : PySem.W.keepIn K (.ref f_check_alike) = true)
    (a_check_form : PySem.W.nsIn K mainGlobals "check_form" = some (some (.ref f_check_form)))
    (l_check_form : K.lookup f_check_form = some ⟨oc_check_form, od_check_form, .func (PySem.W.fnOf "check_form" "check_form" (defArgs st_check_form) (defBody st_check_form) (defScope st_check_form) .none kV_check_form dc_check_form pm_check_form an_check_form cd_check_form ct_check_form), sl_check_form⟩)
    (c_check_form : PySem.W.codeIn K cd_check_form "check_form" = true)
    (k_check_form : PySem.W.keepIn K (.ref f_check_form) = true)
    (a_keeps : PySem.W.nsIn K mainGlobals "keeps" = some (some (.ref f_keeps)))
    (l_keeps : K.lookup f_keeps = some ⟨oc_keeps, od_keeps, .func (PySem.W.fnOf "keeps" "keeps" (defArgs st_keeps) (defBody st_keeps) (defScope st_keeps) .none kV_keeps dc_keeps pm_keeps an_keeps cd_keeps ct_keeps), sl_keeps⟩)
    (c_keeps : PySem.W.codeIn K cd_keeps "keeps" = true)
    (k_keeps : PySem.W.keepIn K (.ref f_keeps) = true)
    (a__law_pot : PySem.W.nsIn K mainGlobals "_law_pot" = some (some (.ref f__law_pot)))
    (l__law_pot : K.lookup f__law_pot = some ⟨oc__law_pot, od__law_pot, .func (PySem.W.fnOf "_law_pot" "_law_pot" (defArgs st_pot) (defBody st_pot) (defScope st_pot) .none kV__law_pot dc__law_pot pm__law_pot an__law_pot cd__law_pot ct__law_pot), sl__law_pot⟩)
    (c__law_pot : PySem.W.codeIn K cd__law_pot "_law_pot" = true)
    (k__law_pot : PySem.W.keepIn K (.ref f__law_pot) = true)
    (a__law_draw : PySem.W.nsIn K mainGlobals "_law_draw" = some (some (.ref f__law_draw)))
    (l__law_draw : K.lookup f__law_draw = some ⟨oc__law_draw, od__law_draw, .func (PySem.W.fnOf "_law_draw" "_law_draw" (defArgs st_draw) (defBody st_draw) (defScope st_draw) .none kV__law_draw dc__law_draw pm__law_draw an__law_draw cd__law_draw ct__law_draw), sl__law_draw⟩)
    (c__law_draw : PySem.W.codeIn K cd__law_draw "_law_draw" = true)
    (k__law_draw : PySem.W.keepIn K (.ref f__law_draw) = true)
    (a__law_pick : PySem.W.nsIn K mainGlobals "_law_pick" = some (some (.ref f__law_pick)))
    (l__law_pick : K.lookup f__law_pick = some ⟨oc__law_pick, od__law_pick, .func (PySem.W.fnOf "_law_pick" "_law_pick" (defArgs st_pick) (defBody st_pick) (defScope st_pick) .none kV__law_pick dc__law_pick pm__law_pick an__law_pick cd__law_pick ct__law_pick), sl__law_pick⟩)
    (c__law_pick : PySem.W.codeIn K cd__law_pick "_law_pick" = true)
    (k__law_pick : PySem.W.keepIn K (.ref f__law_pick) = true)
    (a__law_det : PySem.W.nsIn K mainGlobals "_law_det" = some (some (.ref f__law_det)))
    (l__law_det : K.lookup f__law_det = some ⟨oc__law_det, od__law_det, .func (PySem.W.fnOf "_law_det" "_law_det" (defArgs st_dt) (defBody st_dt) (defScope st_dt) .none kV__law_det dc__law_det pm__law_det an__law_det cd__law_det ct__law_det), sl__law_det⟩)
    (c__law_det : PySem.W.codeIn K cd__law_det "_law_det" = true)
    (k__law_det : PySem.W.keepIn K (.ref f__law_det) = true)
    (a__law_told : PySem.W.nsIn K mainGlobals "_law_told" = some (some (.ref f__law_told)))
    (l__law_told : K.lookup f__law_told = some ⟨oc__law_told, od__law_told, .func (PySem.W.fnOf "_law_told" "_law_told" (defArgs st_to) (defBody st_to) (defScope st_to) .none kV__law_told dc__law_told pm__law_told an__law_told cd__law_told ct__law_told), sl__law_told⟩)
    (c__law_told : PySem.W.codeIn K cd__law_told "_law_told" = true)
    (k__law_told : PySem.W.keepIn K (.ref f__law_told) = true)
    (a__law_times : PySem.W.nsIn K mainGlobals "_law_times" = some (some (.ref f__law_times)))
    (l__law_times : K.lookup f__law_times = some ⟨oc__law_times, od__law_times, .func (PySem.W.fnOf "_law_times" "_law_times" (defArgs st_tm) (defBody st_tm) (defScope st_tm) .none kV__law_times dc__law_times pm__law_times an__law_times cd__law_times ct__law_times), sl__law_times⟩)
    (c__law_times : PySem.W.codeIn K cd__law_times "_law_times" = true)
    (k__law_times : PySem.W.keepIn K (.ref f__law_times) = true)
    (a__law_undone : PySem.W.nsIn K mainGlobals "_law_undone" = some (some (.ref f__law_undone)))
    (l__law_undone : K.lookup f__law_undone = some ⟨oc__law_undone, od__law_undone, .func (PySem.W.fnOf "_law_undone" "_law_undone" (defArgs st_un) (defBody st_un) (defScope st_un) .none kV__law_undone dc__law_undone pm__law_undone an__law_undone cd__law_undone ct__law_undone), sl__law_undone⟩)
    (c__law_undone : PySem.W.codeIn K cd__law_undone "_law_undone" = true)
    (k__law_undone : PySem.W.keepIn K (.ref f__law_undone) = true)
    (a__law_table : PySem.W.nsIn K mainGlobals "_law_table" = some (some (.ref f__law_table)))
    (l__law_table : K.lookup f__law_table = some ⟨oc__law_table, od__law_table, .func (PySem.W.fnOf "_law_table" "_law_table" (defArgs st_tb) (defBody st_tb) (defScope st_tb) .none kV__law_table dc__law_table pm__law_table an__law_table cd__law_table ct__law_table), sl__law_table⟩)
    (c__law_table : PySem.W.codeIn K cd__law_table "_law_table" = true)
    (k__law_table : PySem.W.keepIn K (.ref f__law_table) = true)
    (a__law_led : PySem.W.nsIn K mainGlobals "_law_led" = some (some (.ref f__law_led)))
    (l__law_led : K.lookup f__law_led = some ⟨oc__law_led, od__law_led, .func (PySem.W.fnOf "_law_led" "_law_led" (defArgs st_ld) (defBody st_ld) (defScope st_ld) .none kV__law_led dc__law_led pm__law_led an__law_led cd__law_led ct__law_led), sl__law_led⟩)
    (c__law_led : PySem.W.codeIn K cd__law_led "_law_led" = true)
    (k__law_led : PySem.W.keepIn K (.ref f__law_led) = true)
    (a__law_form : PySem.W.nsIn K mainGlobals "_law_form" = some (some (.ref f__law_form)))
    (l__law_form : K.lookup f__law_form = some ⟨oc__law_form, od__law_form, .func (PySem.W.fnOf "_law_form" "_law_form" (defArgs st_fm) (defBody st_fm) (defScope st_fm) .none kV__law_form dc__law_form pm__law_form an__law_form cd__law_form ct__law_form), sl__law_form⟩)
    (c__law_form : PySem.W.codeIn K cd__law_form "_law_form" = true)
    (k__law_form : PySem.W.keepIn K (.ref f__law_form) = true)
    (a__law_places : PySem.W.nsIn K mainGlobals "_law_places" = some (some (.ref f__law_places)))
    (l__law_places : K.lookup f__law_places = some ⟨oc__law_places, od__law_places, .func (PySem.W.fnOf "_law_places" "_law_places" (defArgs st_pl) (defBody st_pl) (defScope st_pl) .none kV__law_places dc__law_places pm__law_places an__law_places cd__law_places ct__law_places), sl__law_places⟩)
    (c__law_places : PySem.W.codeIn K cd__law_places "_law_places" = true)
    (k__law_places : PySem.W.keepIn K (.ref f__law_places) = true)
    (a__law_any : PySem.W.nsIn K mainGlobals "_law_any" = some (some (.ref f__law_any)))
    (l__law_any : K.lookup f__law_any = some ⟨oc__law_any, od__law_any, .func (PySem.W.fnOf "_law_any" "_law_any" (defArgs st_an) (defBody st_an) (defScope st_an) .none kV__law_any dc__law_any pm__law_any an__law_any cd__law_any ct__law_any), sl__law_any⟩)
    (c__law_any : PySem.W.codeIn K cd__law_any "_law_any" = true)
    (k__law_any : PySem.W.keepIn K (.ref f__law_any) = true)
    (a__law_summed : PySem.W.nsIn K mainGlobals "_law_summed" = some (some (.ref f__law_summed)))
    (l__law_summed : K.lookup f__law_summed = some ⟨oc__law_summed, od__law_summed, .func (PySem.W.fnOf "_law_summed" "_law_summed" (defArgs st_su) (defBody st_su) (defScope st_su) .none kV__law_summed dc__law_summed pm__law_summed an__law_summed cd__law_summed ct__law_summed), sl__law_summed⟩)
    (c__law_summed : PySem.W.codeIn K cd__law_summed "_law_summed" = true)
    (k__law_summed : PySem.W.keepIn K (.ref f__law_summed) = true)
    (a__law_worths_kept : PySem.W.nsIn K mainGlobals "_law_worths_kept" = some (some (.ref f__law_worths_kept)))
    (l__law_worths_kept : K.lookup f__law_worths_kept = some ⟨oc__law_worths_kept, od__law_worths_kept, .func (PySem.W.fnOf "_law_worths_kept" "_law_worths_kept" (defArgs st_wk) (defBody st_wk) (defScope st_wk) .none kV__law_worths_kept dc__law_worths_kept pm__law_worths_kept an__law_worths_kept cd__law_worths_kept ct__law_worths_kept), sl__law_worths_kept⟩)
    (c__law_worths_kept : PySem.W.codeIn K cd__law_worths_kept "_law_worths_kept" = true)
    (k__law_worths_kept : PySem.W.keepIn K (.ref f__law_worths_kept) = true)
    (a__law_one_right : PySem.W.nsIn K mainGlobals "_law_one_right" = some (some (.ref f__law_one_right)))
    (l__law_one_right : K.lookup f__law_one_right = some ⟨oc__law_one_right, od__law_one_right, .func (PySem.W.fnOf "_law_one_right" "_law_one_right" (defArgs st_or) (defBody st_or) (defScope st_or) .none kV__law_one_right dc__law_one_right pm__law_one_right an__law_one_right cd__law_one_right ct__law_one_right), sl__law_one_right⟩)
    (c__law_one_right : PySem.W.codeIn K cd__law_one_right "_law_one_right" = true)
    (k__law_one_right : PySem.W.keepIn K (.ref f__law_one_right) = true)
    (a__law_right : PySem.W.nsIn K mainGlobals "_law_right" = some (some (.ref f__law_right)))
    (l__law_right : K.lookup f__law_right = some ⟨oc__law_right, od__law_right, .func (PySem.W.fnOf "_law_right" "_law_right" (defArgs st_ri) (defBody st_ri) (defScope st_ri) .none kV__law_right dc__law_right pm__law_right an__law_right cd__law_right ct__law_right), sl__law_right⟩)
    (c__law_right : PySem.W.codeIn K cd__law_right "_law_right" = true)
    (k__law_right : PySem.W.keepIn K (.ref f__law_right) = true)
    (a_law : PySem.W.nsIn K mainGlobals "law" = some (some (.ref f_law)))
    (l_law : K.lookup f_law = some ⟨oc_law, od_law, .func (PySem.W.fnOf "law" "law" (defArgs st_law) (defBody st_law) (defScope st_law) .none kV_law dc_law pm_law an_law cd_law ct_law), sl_law⟩)
    (c_law : PySem.W.codeIn K cd_law "law" = true)
    (k_law : PySem.W.keepIn K (.ref f_law) = true)
    (a_T___init__ : PySem.W.findIn K (.ref C) "__init__" = some (some (.ref f_T___init__)))
    (i_T___init__ : PySem.W.isFn K (.ref f_T___init__) = true)
    (l_T___init__ : K.lookup f_T___init__ = some ⟨oc_T___init__, od_T___init__, .func (PySem.W.fnOf "__init__" "Table.__init__" (defArgs (st_T 0)) (defBody (st_T 0)) (defScope (st_T 0)) .none kV_T___init__ dc_T___init__ pm_T___init__ an_T___init__ cd_T___init__ ct_T___init__), sl_T___init__⟩)
    (c_T___init__ : PySem.W.codeIn K cd_T___init__ "Table.__init__" = true)
    (k_T___init__ : PySem.W.keepIn K (.ref f_T___init__) = true)
    (p_T_rows : PySem.W.findIn K (.ref C) "rows" = some (some (.ref pp_T_rows)))
    (g_T_rows : PySem.W.specialIn K (.ref pp_T_rows) "__get__" = some (some (.builtin "property.__get__")))
    (t_T_rows : PySem.W.takesIn K (.ref pp_T_rows) = some true)
    (r_T_rows : PySem.W.recIn K pp_T_rows "property" = some (.ref f_T_rows :: rs_T_rows))
    (l_T_rows : K.lookup f_T_rows = some ⟨oc_T_rows, od_T_rows, .func (PySem.W.fnOf "rows" "Table.rows" (defArgs (st_T 1)) (defBody (st_T 1)) (defScope (st_T 1)) .none kV_T_rows dc_T_rows pm_T_rows an_T_rows cd_T_rows ct_T_rows), sl_T_rows⟩)
    (c_T_rows : PySem.W.codeIn K cd_T_rows "Table.rows" = true)
    (k_T_rows : PySem.W.keepIn K (.ref f_T_rows) = true)
    (p_T_size : PySem.W.findIn K (.ref C) "size" = some (some (.ref pp_T_size)))
    (g_T_size : PySem.W.specialIn K (.ref pp_T_size) "__get__" = some (some (.builtin "property.__get__")))
    (t_T_size : PySem.W.takesIn K (.ref pp_T_size) = some true)
    (r_T_size : PySem.W.recIn K pp_T_size "property" = some (.ref f_T_size :: rs_T_size))
    (l_T_size : K.lookup f_T_size = some ⟨oc_T_size, od_T_size, .func (PySem.W.fnOf "size" "Table.size" (defArgs (st_T 2)) (defBody (st_T 2)) (defScope (st_T 2)) .none kV_T_size dc_T_size pm_T_size an_T_size cd_T_size ct_T_size), sl_T_size⟩)
    (c_T_size : PySem.W.codeIn K cd_T_size "Table.size" = true)
    (k_T_size : PySem.W.keepIn K (.ref f_T_size) = true)
    (p_T_determinant : PySem.W.findIn K (.ref C) "determinant" = some (some (.ref pp_T_determinant)))
    (g_T_determinant : PySem.W.specialIn K (.ref pp_T_determinant) "__get__" = some (some (.builtin "property.__get__")))
    (t_T_determinant : PySem.W.takesIn K (.ref pp_T_determinant) = some true)
    (r_T_determinant : PySem.W.recIn K pp_T_determinant "property" = some (.ref f_T_determinant :: rs_T_determinant))
    (l_T_determinant : K.lookup f_T_determinant = some ⟨oc_T_determinant, od_T_determinant, .func (PySem.W.fnOf "determinant" "Table.determinant" (defArgs (st_T 3)) (defBody (st_T 3)) (defScope (st_T 3)) .none kV_T_determinant dc_T_determinant pm_T_determinant an_T_determinant cd_T_determinant ct_T_determinant), sl_T_determinant⟩)
    (c_T_determinant : PySem.W.codeIn K cd_T_determinant "Table.determinant" = true)
    (k_T_determinant : PySem.W.keepIn K (.ref f_T_determinant) = true)
    (a_T___repr__ : PySem.W.findIn K (.ref C) "__repr__" = some (some (.ref f_T___repr__)))
    (i_T___repr__ : PySem.W.isFn K (.ref f_T___repr__) = true)
    (l_T___repr__ : K.lookup f_T___repr__ = some ⟨oc_T___repr__, od_T___repr__, .func (PySem.W.fnOf "__repr__" "Table.__repr__" (defArgs (st_T 6)) (defBody (st_T 6)) (defScope (st_T 6)) .none kV_T___repr__ dc_T___repr__ pm_T___repr__ an_T___repr__ cd_T___repr__ ct_T___repr__), sl_T___repr__⟩)
    (c_T___repr__ : PySem.W.codeIn K cd_T___repr__ "Table.__repr__" = true)
    (k_T___repr__ : PySem.W.keepIn K (.ref f_T___repr__) = true)
    (a_T___mul__ : PySem.W.findIn K (.ref C) "__mul__" = some (some (.ref f_T___mul__)))
    (i_T___mul__ : PySem.W.isFn K (.ref f_T___mul__) = true)
    (l_T___mul__ : K.lookup f_T___mul__ = some ⟨oc_T___mul__, od_T___mul__, .func (PySem.W.fnOf "__mul__" "Table.__mul__" (defArgs (st_T 7)) (defBody (st_T 7)) (defScope (st_T 7)) .none kV_T___mul__ dc_T___mul__ pm_T___mul__ an_T___mul__ cd_T___mul__ ct_T___mul__), sl_T___mul__⟩)
    (c_T___mul__ : PySem.W.codeIn K cd_T___mul__ "Table.__mul__" = true)
    (k_T___mul__ : PySem.W.keepIn K (.ref f_T___mul__) = true)
    (a_T_lead : PySem.W.findIn K (.ref C) "lead" = some (some (.ref f_T_lead)))
    (i_T_lead : PySem.W.isFn K (.ref f_T_lead) = true)
    (l_T_lead : K.lookup f_T_lead = some ⟨oc_T_lead, od_T_lead, .func (PySem.W.fnOf "lead" "Table.lead" (defArgs (st_T 8)) (defBody (st_T 8)) (defScope (st_T 8)) .none kV_T_lead dc_T_lead pm_T_lead an_T_lead cd_T_lead ct_T_lead), sl_T_lead⟩)
    (c_T_lead : PySem.W.codeIn K cd_T_lead "Table.lead" = true)
    (k_T_lead : PySem.W.keepIn K (.ref f_T_lead) = true)
    (a_T_undone : PySem.W.findIn K (.ref C) "undone" = some (some (.ref f_T_undone)))
    (i_T_undone : PySem.W.isFn K (.ref f_T_undone) = true)
    (l_T_undone : K.lookup f_T_undone = some ⟨oc_T_undone, od_T_undone, .func (PySem.W.fnOf "undone" "Table.undone" (defArgs (st_T 9)) (defBody (st_T 9)) (defScope (st_T 9)) .none kV_T_undone dc_T_undone pm_T_undone an_T_undone cd_T_undone ct_T_undone), sl_T_undone⟩)
    (c_T_undone : PySem.W.codeIn K cd_T_undone "Table.undone" = true)
    (k_T_undone : PySem.W.keepIn K (.ref f_T_undone) = true)
    (a_Fm___init__ : PySem.W.findIn K (.ref CF) "__init__" = some (some (.ref f_Fm___init__)))
    (i_Fm___init__ : PySem.W.isFn K (.ref f_Fm___init__) = true)
    (l_Fm___init__ : K.lookup f_Fm___init__ = some ⟨oc_Fm___init__, od_Fm___init__, .func (PySem.W.fnOf "__init__" "Form.__init__" (defArgs (st_F 0)) (defBody (st_F 0)) (defScope (st_F 0)) .none kV_Fm___init__ dc_Fm___init__ pm_Fm___init__ an_Fm___init__ cd_Fm___init__ ct_Fm___init__), sl_Fm___init__⟩)
    (c_Fm___init__ : PySem.W.codeIn K cd_Fm___init__ "Form.__init__" = true)
    (k_Fm___init__ : PySem.W.keepIn K (.ref f_Fm___init__) = true)
    (p_Fm_rows : PySem.W.findIn K (.ref CF) "rows" = some (some (.ref pp_Fm_rows)))
    (g_Fm_rows : PySem.W.specialIn K (.ref pp_Fm_rows) "__get__" = some (some (.builtin "property.__get__")))
    (t_Fm_rows : PySem.W.takesIn K (.ref pp_Fm_rows) = some true)
    (r_Fm_rows : PySem.W.recIn K pp_Fm_rows "property" = some (.ref f_Fm_rows :: rs_Fm_rows))
    (l_Fm_rows : K.lookup f_Fm_rows = some ⟨oc_Fm_rows, od_Fm_rows, .func (PySem.W.fnOf "rows" "Form.rows" (defArgs (st_F 1)) (defBody (st_F 1)) (defScope (st_F 1)) .none kV_Fm_rows dc_Fm_rows pm_Fm_rows an_Fm_rows cd_Fm_rows ct_Fm_rows), sl_Fm_rows⟩)
    (c_Fm_rows : PySem.W.codeIn K cd_Fm_rows "Form.rows" = true)
    (k_Fm_rows : PySem.W.keepIn K (.ref f_Fm_rows) = true)
    (p_Fm_size : PySem.W.findIn K (.ref CF) "size" = some (some (.ref pp_Fm_size)))
    (g_Fm_size : PySem.W.specialIn K (.ref pp_Fm_size) "__get__" = some (some (.builtin "property.__get__")))
    (t_Fm_size : PySem.W.takesIn K (.ref pp_Fm_size) = some true)
    (r_Fm_size : PySem.W.recIn K pp_Fm_size "property" = some (.ref f_Fm_size :: rs_Fm_size))
    (l_Fm_size : K.lookup f_Fm_size = some ⟨oc_Fm_size, od_Fm_size, .func (PySem.W.fnOf "size" "Form.size" (defArgs (st_F 2)) (defBody (st_F 2)) (defScope (st_F 2)) .none kV_Fm_size dc_Fm_size pm_Fm_size an_Fm_size cd_Fm_size ct_Fm_size), sl_Fm_size⟩)
    (c_Fm_size : PySem.W.codeIn K cd_Fm_size "Form.size" = true)
    (k_Fm_size : PySem.W.keepIn K (.ref f_Fm_size) = true)
    (a_Fm___eq__ : PySem.W.findIn K (.ref CF) "__eq__" = some (some (.ref f_Fm___eq__)))
    (i_Fm___eq__ : PySem.W.isFn K (.ref f_Fm___eq__) = true)
    (l_Fm___eq__ : K.lookup f_Fm___eq__ = some ⟨oc_Fm___eq__, od_Fm___eq__, .func (PySem.W.fnOf "__eq__" "Form.__eq__" (defArgs (st_F 4)) (defBody (st_F 4)) (defScope (st_F 4)) .none kV_Fm___eq__ dc_Fm___eq__ pm_Fm___eq__ an_Fm___eq__ cd_Fm___eq__ ct_Fm___eq__), sl_Fm___eq__⟩)
    (c_Fm___eq__ : PySem.W.codeIn K cd_Fm___eq__ "Form.__eq__" = true)
    (k_Fm___eq__ : PySem.W.keepIn K (.ref f_Fm___eq__) = true)
    (a_Fm___repr__ : PySem.W.findIn K (.ref CF) "__repr__" = some (some (.ref f_Fm___repr__)))
    (i_Fm___repr__ : PySem.W.isFn K (.ref f_Fm___repr__) = true)
    (l_Fm___repr__ : K.lookup f_Fm___repr__ = some ⟨oc_Fm___repr__, od_Fm___repr__, .func (PySem.W.fnOf "__repr__" "Form.__repr__" (defArgs (st_F 5)) (defBody (st_F 5)) (defScope (st_F 5)) .none kV_Fm___repr__ dc_Fm___repr__ pm_Fm___repr__ an_Fm___repr__ cd_Fm___repr__ ct_Fm___repr__), sl_Fm___repr__⟩)
    (c_Fm___repr__ : PySem.W.codeIn K cd_Fm___repr__ "Form.__repr__" = true)
    (k_Fm___repr__ : PySem.W.keepIn K (.ref f_Fm___repr__) = true)
    (a_Fm_worth : PySem.W.findIn K (.ref CF) "worth" = some (some (.ref f_Fm_worth)))
    (i_Fm_worth : PySem.W.isFn K (.ref f_Fm_worth) = true)
    (l_Fm_worth : K.lookup f_Fm_worth = some ⟨oc_Fm_worth, od_Fm_worth, .func (PySem.W.fnOf "worth" "Form.worth" (defArgs (st_F 7)) (defBody (st_F 7)) (defScope (st_F 7)) .none kV_Fm_worth dc_Fm_worth pm_Fm_worth an_Fm_worth cd_Fm_worth ct_Fm_worth), sl_Fm_worth⟩)
    (c_Fm_worth : PySem.W.codeIn K cd_Fm_worth "Form.worth" = true)
    (k_Fm_worth : PySem.W.keepIn K (.ref f_Fm_worth) = true)
    (a_Fm_between : PySem.W.findIn K (.ref CF) "between" = some (some (.ref f_Fm_between)))
    (i_Fm_between : PySem.W.isFn K (.ref f_Fm_between) = true)
    (l_Fm_between : K.lookup f_Fm_between = some ⟨oc_Fm_between, od_Fm_between, .func (PySem.W.fnOf "between" "Form.between" (defArgs (st_F 8)) (defBody (st_F 8)) (defScope (st_F 8)) .none kV_Fm_between dc_Fm_between pm_Fm_between an_Fm_between cd_Fm_between ct_Fm_between), sl_Fm_between⟩)
    (c_Fm_between : PySem.W.codeIn K cd_Fm_between "Form.between" = true)
    (k_Fm_between : PySem.W.keepIn K (.ref f_Fm_between) = true)
    (a_Fm_led : PySem.W.findIn K (.ref CF) "led" = some (some (.ref f_Fm_led)))
    (i_Fm_led : PySem.W.isFn K (.ref f_Fm_led) = true)
    (l_Fm_led : K.lookup f_Fm_led = some ⟨oc_Fm_led, od_Fm_led, .func (PySem.W.fnOf "led" "Form.led" (defArgs (st_F 10)) (defBody (st_F 10)) (defScope (st_F 10)) .none kV_Fm_led dc_Fm_led pm_Fm_led an_Fm_led cd_Fm_led ct_Fm_led), sl_Fm_led⟩)
    (c_Fm_led : PySem.W.codeIn K cd_Fm_led "Form.led" = true)
    (k_Fm_led : PySem.W.keepIn K (.ref f_Fm_led) = true)
    (pg : PySem.W.plainGet K C Str.empty = true)
    (hd : PySem.W.hasDictIn K C = true)
    (po : PySem.W.plainOver K C = true)
    (sa : PySem.W.findIn K (.ref C) "__setattr__" = some (some (.builtin "object.__setattr__")))
    (mk : PySem.W.makesIn K C = true)
    (kc : PySem.W.keepIn K (.ref C) = true)
    (nR : PySem.W.findIn K (.ref C) "_rows" = some none)
    (cc : PySem.W.findIn K (.ref C) "__class__" = some (some (.builtin "object.__class__")))
    (cg : PySem.W.specialIn K (.builtin "object.__class__") "__get__" = some (some (.builtin "getset_descriptor.__get__")))
    (ct : PySem.W.takesIn K (.builtin "object.__class__") = some true)
    (cm : PySem.W.mroIn K C (.type "object") = some true)
    (hcl : PySem.W.clsIn K C = some cld)
    (hmr : cld.mro = Value.ref C :: mrest)
    (pgF : PySem.W.plainGet K CF Str.empty = true)
    (hdF : PySem.W.hasDictIn K CF = true)
    (poF : PySem.W.plainOver K CF = true)
    (saF : PySem.W.findIn K (.ref CF) "__setattr__" = some (some (.builtin "object.__setattr__")))
    (mkF : PySem.W.makesIn K CF = true)
    (kcF : PySem.W.keepIn K (.ref CF) = true)
    (nRF : PySem.W.findIn K (.ref CF) "_rows" = some none)
    (ccF : PySem.W.findIn K (.ref CF) "__class__" = some (some (.builtin "object.__class__")))
    (cmF : PySem.W.mroIn K CF (.type "object") = some true)
    (hclF : PySem.W.clsIn K CF = some cldF)
    (hmrF : cldF.mro = Value.ref CF :: mrestF)
    (hneF : PySem.W.findIn K (.ref CF) "__ne__" = some (some (.builtin "object.__ne__")))
    (z0 : PySem.W.nsIn K mainGlobals "isinstance" = some none)
    (z1 : PySem.W.nsIn K mainGlobals "int" = some none)
    (z2 : PySem.W.nsIn K mainGlobals "bool" = some none)
    (z3 : PySem.W.nsIn K mainGlobals "list" = some none)
    (z4 : PySem.W.nsIn K mainGlobals "tuple" = some none)
    (z5 : PySem.W.nsIn K mainGlobals "all" = some none)
    (z6 : PySem.W.nsIn K mainGlobals "sum" = some none)
    (z7 : PySem.W.nsIn K mainGlobals "zip" = some none)
    (z8 : PySem.W.nsIn K mainGlobals "len" = some none)
    (z9 : PySem.W.nsIn K mainGlobals "range" = some none)
    (z10 : PySem.W.nsIn K mainGlobals "repr" = some none)
    (z11 : PySem.W.nsIn K mainGlobals "abs" = some none)
    (z12 : PySem.W.nsIn K mainGlobals "max" = some none)
    (z13 : PySem.W.nsIn K mainGlobals "divmod" = some none)
    (z14 : PySem.W.nsIn K mainGlobals "dict" = some none)
    (z15 : PySem.W.nsIn K mainGlobals "enumerate" = some none)
    (zz_min : PySem.W.nsIn K mainGlobals "min" = some none)
    : ∃ fd : FuncData, (∀ (s : Shared) (v : Value), BindsTo s fd ⟨[v], []⟩ [("_law_script", v)]) ∧ ∀ base : Heap, K.In base → base.Ns mainGlobals mg → FnG l.prog w K mg base CX0 14 fa fd ["_law_script"] (sp_law K) := by
  have e := hfa.symm.trans (PySem.W.mg_of X G a_law)
  cases e
  have T : Txt mg := ⟨PySem.W.mg_none_of X G z0, PySem.W.mg_none_of X G z1, PySem.W.mg_none_of X G z2, PySem.W.mg_none_of X G z3, PySem.W.mg_none_of X G z4, PySem.W.mg_none_of X G z5, PySem.W.mg_none_of X G z6, PySem.W.mg_none_of X G z7, PySem.W.mg_none_of X G z8, PySem.W.mg_none_of X G z9, PySem.W.mg_none_of X G z10, PySem.W.mg_none_of X G z11, PySem.W.mg_none_of X G z12, PySem.W.mg_none_of X G z13, PySem.W.mg_none_of X G z14, PySem.W.mg_none_of X G z15⟩
  have Cl : Cls K C := ⟨pg, hd, po, sa⟩
  have Tc : Tcl K mg C := ⟨Cl, nR, PySem.W.mg_of X G aC, cc, cg, ct, cm⟩
  have ClF : Cls K CF := ⟨pgF, hdF, poF, saF⟩
  have Fc : Fcl K mg CF := ⟨ClF, nRF, PySem.W.mg_of X G aCF, ccF, cg, ct, cmF⟩
  have F_is_integer := fun_mk (st := st_is_integer) l_is_integer c_is_integer k_is_integer
  have b_is_integer := F_is_integer.binds (ps := ["value"]) fun _ _ _ _ _ _ us hl => match us, hl with | [_], _ => rfl
  have F_is_list := fun_mk (st := st_is_list) l_is_list c_is_list k_is_list
  have b_is_list := F_is_list.binds (ps := ["value"]) fun _ _ _ _ _ _ us hl => match us, hl with | [_], _ => rfl
  have F_is_row := fun_mk (st := st_is_row) l_is_row c_is_row k_is_row
  have b_is_row := F_is_row.binds (ps := ["value"]) fun _ _ _ _ _ _ us hl => match us, hl with | [_], _ => rfl
  have F_is_row_of := fun_mk (st := st_is_row_of) l_is_row_of c_is_row_of k_is_row_of
  have b_is_row_of := F_is_row_of.binds (ps := ["size", "value"]) fun _ _ _ _ _ _ us hl => match us, hl with | [_, _], _ => rfl
  have F_check_row := fun_mk (st := st_check_row) l_check_row c_check_row k_check_row
  have b_check_row := F_check_row.binds (ps := ["size", "row"]) fun _ _ _ _ _ _ us hl => match us, hl with | [_, _], _ => rfl
  have F_is_grid := fun_mk (st := st_is_grid) l_is_grid c_is_grid k_is_grid
  have b_is_grid := F_is_grid.binds (ps := ["value"]) fun _ _ _ _ _ _ us hl => match us, hl with | [_], _ => rfl
  have F_copied := fun_mk (st := st_copied) l_copied c_copied k_copied
  have b_copied := F_copied.binds (ps := ["rows"]) fun _ _ _ _ _ _ us hl => match us, hl with | [_], _ => rfl
  have F_across := fun_mk (st := st_across) l_across c_across k_across
  have b_across := F_across.binds (ps := ["rows"]) fun _ _ _ _ _ _ us hl => match us, hl with | [_], _ => rfl
  have F_scalar := fun_mk (st := st_scalar) l_scalar c_scalar k_scalar
  have b_scalar := F_scalar.binds (ps := ["row", "other"]) fun _ _ _ _ _ _ us hl => match us, hl with | [_, _], _ => rfl
  have F_led_row := fun_mk (st := st_led_row) l_led_row c_led_row k_led_row
  have b_led_row := F_led_row.binds (ps := ["rows", "row"]) fun _ _ _ _ _ _ us hl => match us, hl with | [_, _], _ => rfl
  have F_multiplied := fun_mk (st := st_multiplied) l_multiplied c_multiplied k_multiplied
  have b_multiplied := F_multiplied.binds (ps := ["rows", "others"]) fun _ _ _ _ _ _ us hl => match us, hl with | [_, _], _ => rfl
  have F_without := fun_mk (st := st_without) l_without c_without k_without
  have b_without := F_without.binds (ps := ["rows", "at", "place"]) fun _ _ _ _ _ _ us hl => match us, hl with | [_, _, _], _ => rfl
  have F_determinant_of := fun_mk (st := st_det) l_determinant_of c_determinant_of k_determinant_of
  have b_determinant_of := F_determinant_of.binds (ps := ["rows"]) fun _ _ _ _ _ _ us hl => match us, hl with | [_], _ => rfl
  have F_cofactor := fun_mk (st := st_cofactor) l_cofactor c_cofactor k_cofactor
  have b_cofactor := F_cofactor.binds (ps := ["rows", "at", "place"]) fun _ _ _ _ _ _ us hl => match us, hl with | [_, _, _], _ => rfl
  have F_check_table := fun_mk (st := st_check_table) l_check_table c_check_table k_check_table
  have b_check_table := F_check_table.binds (ps := ["table"]) fun _ _ _ _ _ _ us hl => match us, hl with | [_], _ => rfl
  have F_check_alike := fun_mk (st := st_check_alike) l_check_alike c_check_alike k_check_alike
  have b_check_alike := F_check_alike.binds (ps := ["one", "other"]) fun _ _ _ _ _ _ us hl => match us, hl with | [_, _], _ => rfl
  have F_check_form := fun_mk (st := st_check_form) l_check_form c_check_form k_check_form
  have b_check_form := F_check_form.binds (ps := ["form"]) fun _ _ _ _ _ _ us hl => match us, hl with | [_], _ => rfl
  have F_keeps := fun_mk (st := st_keeps) l_keeps c_keeps k_keeps
  have b_keeps := F_keeps.binds (ps := ["table", "form"]) fun _ _ _ _ _ _ us hl => match us, hl with | [_, _], _ => rfl
  have F__law_pot := fun_mk (st := st_pot) l__law_pot c__law_pot k__law_pot
  have b__law_pot := F__law_pot.binds (ps := ["_law_script", "_law_k"]) fun _ _ _ _ _ _ us hl => match us, hl with | [_, _], _ => rfl
  have F__law_draw := fun_mk (st := st_draw) l__law_draw c__law_draw k__law_draw
  have b__law_draw := F__law_draw.binds (ps := ["_law_pot_here", "_law_many"]) fun _ _ _ _ _ _ us hl => match us, hl with | [_, _], _ => rfl
  have F__law_pick := fun_mk (st := st_pick) l__law_pick c__law_pick k__law_pick
  have b__law_pick := F__law_pick.binds (ps := ["_law_pot_here", "_law_some"]) fun _ _ _ _ _ _ us hl => match us, hl with | [_, _], _ => rfl
  have F__law_det := fun_mk (st := st_dt) l__law_det c__law_det k__law_det
  have b__law_det := F__law_det.binds (ps := ["_law_rows"]) fun _ _ _ _ _ _ us hl => match us, hl with | [_], _ => rfl
  have F__law_told := fun_mk (st := st_to) l__law_told c__law_told k__law_told
  have b__law_told := F__law_told.binds (ps := ["_law_size"]) fun _ _ _ _ _ _ us hl => match us, hl with | [_], _ => rfl
  have F__law_times := fun_mk (st := st_tm) l__law_times c__law_times k__law_times
  have b__law_times := F__law_times.binds (ps := ["_law_one", "_law_other"]) fun _ _ _ _ _ _ us hl => match us, hl with | [_, _], _ => rfl
  have F__law_undone := fun_mk (st := st_un) l__law_undone c__law_undone k__law_undone
  have b__law_undone := F__law_undone.binds (ps := ["_law_rows"]) fun _ _ _ _ _ _ us hl => match us, hl with | [_], _ => rfl
  have F__law_table := fun_mk (st := st_tb) l__law_table c__law_table k__law_table
  have b__law_table := F__law_table.binds (ps := ["_law_pot_here", "_law_size"]) fun _ _ _ _ _ _ us hl => match us, hl with | [_, _], _ => rfl
  have F__law_led := fun_mk (st := st_ld) l__law_led c__law_led k__law_led
  have b__law_led := F__law_led.binds (ps := ["_law_form_here", "_law_rows"]) fun _ _ _ _ _ _ us hl => match us, hl with | [_, _], _ => rfl
  have F__law_form := fun_mk (st := st_fm) l__law_form c__law_form k__law_form
  have b__law_form := F__law_form.binds (ps := ["_law_numbers", "_law_size"]) fun _ _ _ _ _ _ us hl => match us, hl with | [_, _], _ => rfl
  have F__law_places := fun_mk (st := st_pl) l__law_places c__law_places k__law_places
  have b__law_places := F__law_places.binds (ps := ["_law_size"]) fun _ _ _ _ _ _ us hl => match us, hl with | [_], _ => rfl
  have F__law_any := fun_mk (st := st_an) l__law_any c__law_any k__law_any
  have b__law_any := F__law_any.binds (ps := ["_law_pot_here", "_law_size"]) fun _ _ _ _ _ _ us hl => match us, hl with | [_, _], _ => rfl
  have F__law_summed := fun_mk (st := st_su) l__law_summed c__law_summed k__law_summed
  have b__law_summed := F__law_summed.binds (ps := ["_law_form_here", "_law_rows"]) fun _ _ _ _ _ _ us hl => match us, hl with | [_, _], _ => rfl
  have F__law_worths_kept := fun_mk (st := st_wk) l__law_worths_kept c__law_worths_kept k__law_worths_kept
  have b__law_worths_kept := F__law_worths_kept.binds (ps := ["_law_form_here", "_law_table_here"]) fun _ _ _ _ _ _ us hl => match us, hl with | [_, _], _ => rfl
  have F__law_one_right := fun_mk (st := st_or) l__law_one_right c__law_one_right k__law_one_right
  have b__law_one_right := F__law_one_right.binds (ps := ["_law_form_here", "_law_rows"]) fun _ _ _ _ _ _ us hl => match us, hl with | [_, _], _ => rfl
  have F__law_right := fun_mk (st := st_ri) l__law_right c__law_right k__law_right
  have b__law_right := F__law_right.binds (ps := ["_law_pot_here"]) fun _ _ _ _ _ _ us hl => match us, hl with | [_], _ => rfl
  have F_law := fun_mk (st := st_law) l_law c_law k_law
  have b_law := F_law.binds (ps := ["_law_script"]) fun _ _ _ _ _ _ us hl => match us, hl with | [_], _ => rfl
  have F_T___init__ := fun_mk (st := (st_T 0)) l_T___init__ c_T___init__ k_T___init__
  have b_T___init__ := F_T___init__.binds (ps := ["self", "rows"]) fun _ _ _ _ _ _ us hl => match us, hl with | [_, _], _ => rfl
  have F_T_rows := fun_mk (st := (st_T 1)) l_T_rows c_T_rows k_T_rows
  have b_T_rows := F_T_rows.binds (ps := ["self"]) fun _ _ _ _ _ _ us hl => match us, hl with | [_], _ => rfl
  have F_T_size := fun_mk (st := (st_T 2)) l_T_size c_T_size k_T_size
  have b_T_size := F_T_size.binds (ps := ["self"]) fun _ _ _ _ _ _ us hl => match us, hl with | [_], _ => rfl
  have F_T_determinant := fun_mk (st := (st_T 3)) l_T_determinant c_T_determinant k_T_determinant
  have b_T_determinant := F_T_determinant.binds (ps := ["self"]) fun _ _ _ _ _ _ us hl => match us, hl with | [_], _ => rfl
  have F_T___repr__ := fun_mk (st := (st_T 6)) l_T___repr__ c_T___repr__ k_T___repr__
  have b_T___repr__ := F_T___repr__.binds (ps := ["self"]) fun _ _ _ _ _ _ us hl => match us, hl with | [_], _ => rfl
  have F_T___mul__ := fun_mk (st := (st_T 7)) l_T___mul__ c_T___mul__ k_T___mul__
  have b_T___mul__ := F_T___mul__.binds (ps := ["self", "other"]) fun _ _ _ _ _ _ us hl => match us, hl with | [_, _], _ => rfl
  have F_T_lead := fun_mk (st := (st_T 8)) l_T_lead c_T_lead k_T_lead
  have b_T_lead := F_T_lead.binds (ps := ["self", "row"]) fun _ _ _ _ _ _ us hl => match us, hl with | [_, _], _ => rfl
  have F_T_undone := fun_mk (st := (st_T 9)) l_T_undone c_T_undone k_T_undone
  have b_T_undone := F_T_undone.binds (ps := ["self"]) fun _ _ _ _ _ _ us hl => match us, hl with | [_], _ => rfl
  have F_Fm___init__ := fun_mk (st := (st_F 0)) l_Fm___init__ c_Fm___init__ k_Fm___init__
  have b_Fm___init__ := F_Fm___init__.binds (ps := ["self", "rows"]) fun _ _ _ _ _ _ us hl => match us, hl with | [_, _], _ => rfl
  have F_Fm_rows := fun_mk (st := (st_F 1)) l_Fm_rows c_Fm_rows k_Fm_rows
  have b_Fm_rows := F_Fm_rows.binds (ps := ["self"]) fun _ _ _ _ _ _ us hl => match us, hl with | [_], _ => rfl
  have F_Fm_size := fun_mk (st := (st_F 2)) l_Fm_size c_Fm_size k_Fm_size
  have b_Fm_size := F_Fm_size.binds (ps := ["self"]) fun _ _ _ _ _ _ us hl => match us, hl with | [_], _ => rfl
  have F_Fm___eq__ := fun_mk (st := (st_F 4)) l_Fm___eq__ c_Fm___eq__ k_Fm___eq__
  have b_Fm___eq__ := F_Fm___eq__.binds (ps := ["self", "other"]) fun _ _ _ _ _ _ us hl => match us, hl with | [_, _], _ => rfl
  have F_Fm___repr__ := fun_mk (st := (st_F 5)) l_Fm___repr__ c_Fm___repr__ k_Fm___repr__
  have b_Fm___repr__ := F_Fm___repr__.binds (ps := ["self"]) fun _ _ _ _ _ _ us hl => match us, hl with | [_], _ => rfl
  have F_Fm_worth := fun_mk (st := (st_F 7)) l_Fm_worth c_Fm_worth k_Fm_worth
  have b_Fm_worth := F_Fm_worth.binds (ps := ["self", "row"]) fun _ _ _ _ _ _ us hl => match us, hl with | [_, _], _ => rfl
  have F_Fm_between := fun_mk (st := (st_F 8)) l_Fm_between c_Fm_between k_Fm_between
  have b_Fm_between := F_Fm_between.binds (ps := ["self", "row", "other"]) fun _ _ _ _ _ _ us hl => match us, hl with | [_, _, _], _ => rfl
  have F_Fm_led := fun_mk (st := (st_F 10)) l_Fm_led c_Fm_led k_Fm_led
  have b_Fm_led := F_Fm_led.binds (ps := ["self", "table"]) fun _ _ _ _ _ _ us hl => match us, hl with | [_, _], _ => rfl
  refine ⟨PySem.W.fnOf "law" "law" (defArgs st_law) (defBody st_law) (defScope st_law) .none kV_law dc_law pm_law an_law cd_law ct_law, fun s v => .of_eq rfl, fun base _ _ => ?_⟩
  have D_is_integer : Def l.prog w K mg base "is_integer" 1 ["value"] sp_is_integer := ⟨f_is_integer, _, ok_is_integer F_is_integer T, PySem.W.mg_of X G a_is_integer, k_is_integer, b_is_integer⟩
  have D_is_list : Def l.prog w K mg base "is_list" 1 ["value"] sp_is_list := ⟨f_is_list, _, ok_is_list F_is_list T, PySem.W.mg_of X G a_is_list, k_is_list, b_is_list⟩
  have D_is_row : Def l.prog w K mg base "is_row" 2 ["value"] sp_is_row := ⟨f_is_row, _, ok_is_row F_is_row T D_is_list D_is_integer, PySem.W.mg_of X G a_is_row, k_is_row, b_is_row⟩
  have D_is_row_of : Def l.prog w K mg base "is_row_of" 3 ["size", "value"] sp_is_row_of := ⟨f_is_row_of, _, ok_is_row_of F_is_row_of T D_is_row, PySem.W.mg_of X G a_is_row_of, k_is_row_of, b_is_row_of⟩
  have D_check_row : Def l.prog w K mg base "check_row" 4 ["size", "row"] sp_check_row := ⟨f_check_row, _, ok_check_row F_check_row D_is_row_of, PySem.W.mg_of X G a_check_row, k_check_row, b_check_row⟩
  have D_is_grid : Def l.prog w K mg base "is_grid" 4 ["value"] sp_is_grid := ⟨f_is_grid, _, ok_is_grid F_is_grid T D_is_list D_is_row_of, PySem.W.mg_of X G a_is_grid, k_is_grid, b_is_grid⟩
  have D_copied : Def l.prog w K mg base "copied" 1 ["rows"] sp_copied := ⟨f_copied, _, ok_copied F_copied T, PySem.W.mg_of X G a_copied, k_copied, b_copied⟩
  have D_across : Def l.prog w K mg base "across" 1 ["rows"] sp_across := ⟨f_across, _, ok_across F_across T, PySem.W.mg_of X G a_across, k_across, b_across⟩
  have D_scalar : Def l.prog w K mg base "scalar" 1 ["row", "other"] sp_scalar := ⟨f_scalar, _, ok_scalar F_scalar T, PySem.W.mg_of X G a_scalar, k_scalar, b_scalar⟩
  have D_acrossG : Def l.prog w K mg base "across" 1 ["rows"] sp_acrossG := ⟨f_across, _, ok_acrossG F_across T, PySem.W.mg_of X G a_across, k_across, b_across⟩
  have D_led_row : Def l.prog w K mg base "led_row" 2 ["rows", "row"] sp_led_row := ⟨f_led_row, _, ok_led_row F_led_row T D_scalar, PySem.W.mg_of X G a_led_row, k_led_row, b_led_row⟩
  have D_multiplied : Def l.prog w K mg base "multiplied" 3 ["rows", "others"] sp_multiplied := ⟨f_multiplied, _, ok_multiplied F_multiplied T D_across D_led_row, PySem.W.mg_of X G a_multiplied, k_multiplied, b_multiplied⟩
  have D_without : Def l.prog w K mg base "without" 1 ["rows", "at", "place"] sp_without := ⟨f_without, _, ok_without F_without T, PySem.W.mg_of X G a_without, k_without, b_without⟩
  have DD := ok_dets (P := l.prog) (w := w) (base := base) F_determinant_of F_cofactor T D_without (PySem.W.mg_of X G a_determinant_of) k_determinant_of b_determinant_of (PySem.W.mg_of X G a_cofactor) k_cofactor b_cofactor
  have Dmk : Mkr l.prog w K mg base C := ⟨f_T___init__, _, ⟨mk, a_T___init__, i_T___init__, kc⟩, ok_init F_T___init__ T Tc D_is_grid D_copied (fun n => (DD n).1), b_T___init__⟩
  have P_rows : Prp l.prog w K mg base C "rows" 1 (sp_rows C) := ⟨pp_T_rows, f_T_rows, _, ⟨p_T_rows, g_T_rows, t_T_rows, ⟨_, r_T_rows⟩⟩, ok_rows F_T_rows Tc, b_T_rows⟩
  have P_size : Prp l.prog w K mg base C "size" 1 (sp_size C) := ⟨pp_T_size, f_T_size, _, ⟨p_T_size, g_T_size, t_T_size, ⟨_, r_T_size⟩⟩, ok_size F_T_size T Tc, b_T_size⟩
  have P_determinant : Prp l.prog w K mg base C "determinant" 8 (sp_detP C) := ⟨pp_T_determinant, f_T_determinant, _, ⟨p_T_determinant, g_T_determinant, t_T_determinant, ⟨_, r_T_determinant⟩⟩, ok_detP F_T_determinant Tc (fun n => (DD n).1), b_T_determinant⟩
  have D_check_table : Def l.prog w K mg base "check_table" 1 ["table"] (sp_check_table C) := ⟨f_check_table, _, ok_check_table F_check_table T Tc, PySem.W.mg_of X G a_check_table, k_check_table, b_check_table⟩
  have D_check_alike : Def l.prog w K mg base "check_alike" 3 ["one", "other"] (sp_check_alike C) := ⟨f_check_alike, _, ok_check_alike F_check_alike Tc P_size, PySem.W.mg_of X G a_check_alike, k_check_alike, b_check_alike⟩
  have Dmul : MulP l.prog w K mg base C := ⟨f_T___mul__, _, cld, mrest, hcl, hmr, a_T___mul__, i_T___mul__, ok_mul F_T___mul__ Tc D_check_table D_check_alike D_multiplied Dmk P_rows, b_T___mul__⟩
  have M_undone : Mtd l.prog w K mg base C "undone" 10 ["self"] (sp_undone C) := ⟨f_T_undone, _, ⟨a_T_undone, i_T_undone, k_T_undone⟩, ok_undone F_T_undone T Tc P_determinant P_size (fun n => (DD n).2) Dmk, b_T_undone⟩
  have M_lead : Mtd l.prog w K mg base C "lead" 5 ["self", "row"] (sp_lead C) := ⟨f_T_lead, _, ⟨a_T_lead, i_T_lead, k_T_lead⟩, ok_lead F_T_lead Tc D_check_row P_size D_led_row, b_T_lead⟩
  have Fmk : MkrF l.prog w K mg base CF := ⟨f_Fm___init__, _, ⟨mkF, a_Fm___init__, i_Fm___init__, kcF⟩, ok_initF F_Fm___init__ T Fc D_is_grid D_copied D_acrossG, b_Fm___init__⟩
  have FP_rows : Prp l.prog w K mg base CF "rows" 1 (sp_rows CF) := ⟨pp_Fm_rows, f_Fm_rows, _, ⟨p_Fm_rows, g_Fm_rows, t_Fm_rows, ⟨_, r_Fm_rows⟩⟩, ok_rowsF F_Fm_rows Fc, b_Fm_rows⟩
  have FP_size : Prp l.prog w K mg base CF "size" 1 (sp_size CF) := ⟨pp_Fm_size, f_Fm_size, _, ⟨p_Fm_size, g_Fm_size, t_Fm_size, ⟨_, r_Fm_size⟩⟩, ok_sizeF F_Fm_size T Fc, b_Fm_size⟩
  have Feq : EqP l.prog w K mg base CF := ⟨f_Fm___eq__, _, a_Fm___eq__, i_Fm___eq__, ok_eqF F_Fm___eq__ T Fc, b_Fm___eq__, hneF, cmF⟩
  have D_check_form : Def l.prog w K mg base "check_form" 1 ["form"] (sp_check_form CF) := ⟨f_check_form, _, ok_check_form F_check_form T Fc, PySem.W.mg_of X G a_check_form, k_check_form, b_check_form⟩
  have D_alFT : Def l.prog w K mg base "check_alike" 3 ["one", "other"] (sp_check_alike2 CF C) := ⟨f_check_alike, _, ok_check_alike2 F_check_alike Fc.cl Tc.cl FP_size P_size, PySem.W.mg_of X G a_check_alike, k_check_alike, b_check_alike⟩
  have FM_between : Mtd l.prog w K mg base CF "between" 5 ["self", "row", "other"] (sp_btw CF) := ⟨f_Fm_between, _, ⟨a_Fm_between, i_Fm_between, k_Fm_between⟩, ok_btw F_Fm_between Fc D_check_row FP_size D_led_row D_scalar, b_Fm_between⟩
  have FM_worth : Mtd l.prog w K mg base CF "worth" 6 ["self", "row"] (sp_worth CF) := ⟨f_Fm_worth, _, ⟨a_Fm_worth, i_Fm_worth, k_Fm_worth⟩, ok_worth F_Fm_worth Fc FM_between, b_Fm_worth⟩
  have FM_led : Mtd l.prog w K mg base CF "led" 10 ["self", "table"] (sp_led CF C) := ⟨f_Fm_led, _, ⟨a_Fm_led, i_Fm_led, k_Fm_led⟩, ok_led F_Fm_led Fc Tc D_check_table D_alFT D_multiplied D_across Fmk P_rows, b_Fm_led⟩
  have kb_keeps : KBinds K (PySem.W.fnOf "keeps" "keeps" (defArgs st_keeps) (defBody st_keeps) (defScope st_keeps) .none kV_keeps dc_keeps pm_keeps an_keeps cd_keeps ct_keeps) ["table", "form"] ["form", "table"] gU2 gV2 := by
    refine KBinds.mk (fun s us ws _ hl => ?_) (fun {vs us zs ws} r1 r2 => ?_)
    · match us, ws, hl with
      | [], [a0, a1], _ => exact .of_eq rfl
    · cases r1 with
      | cons _ _ =>
        cases r2 with
        | nil => exact .nil
        | cons _ _ => exact .nil
      | nil =>
        cases r2 with
        | nil => exact .nil
        | cons x0 u0 =>
          cases u0 with
          | nil => exact .nil
          | cons x1 u1 =>
            cases u1 with
            | cons _ _ => exact .nil
            | nil => exact .cons x1 (.cons x0 .nil)
  have K_keeps : DefK l.prog w K mg base "keeps" 11 ["table", "form"] ["form", "table"] (sp_keeps CF C) gU2 gV2 := ⟨f_keeps, _, ok_keeps F_keeps Fc D_check_table D_check_form FM_led Feq, PySem.W.mg_of X G a_keeps, k_keeps, b_keeps, kb_keeps⟩
  have D_keeps := K_keeps.d
  have Rtf : RpTF l.prog w K mg base C CF := rpTF_of F_T___repr__ F_Fm___repr__ Tc Fc a_T___repr__ i_T___repr__ b_T___repr__ a_Fm___repr__ i_Fm___repr__ b_Fm___repr__
  have D__law_pot : Def l.prog w K mg base "_law_pot" 1 ["_law_script", "_law_k"] (sp_pot K) := ⟨f__law_pot, _, ok_pot F__law_pot T, PySem.W.mg_of X G a__law_pot, k__law_pot, b__law_pot⟩
  have D__law_draw : Def l.prog w K mg base "_law_draw" 1 ["_law_pot_here", "_law_many"] sp_draw := ⟨f__law_draw, _, ok_draw F__law_draw T, PySem.W.mg_of X G a__law_draw, k__law_draw, b__law_draw⟩
  have D__law_pick : Def l.prog w K mg base "_law_pick" 2 ["_law_pot_here", "_law_some"] sp_pick := ⟨f__law_pick, _, ok_pickM F__law_pick T D__law_draw, PySem.W.mg_of X G a__law_pick, k__law_pick, b__law_pick⟩
  have DDT : ∀ n, Def l.prog w K mg base "_law_det" (n + 1) ["_law_rows"] (sp_dt n) := fun n => by
    induction n with
    | zero => exact ⟨f__law_det, _, ok_dt0 F__law_det T, PySem.W.mg_of X G a__law_det, k__law_det, b__law_det⟩
    | succ n ih => exact ⟨f__law_det, _, ok_dtS n F__law_det T ih, PySem.W.mg_of X G a__law_det, k__law_det, b__law_det⟩
  have D__law_told : Def l.prog w K mg base "_law_told" 1 ["_law_size"] sp_to := ⟨f__law_told, _, ok_to F__law_told T, PySem.W.mg_of X G a__law_told, k__law_told, b__law_told⟩
  have D__law_times : Def l.prog w K mg base "_law_times" 1 ["_law_one", "_law_other"] sp_tm := ⟨f__law_times, _, ok_tm F__law_times T, PySem.W.mg_of X G a__law_times, k__law_times, b__law_times⟩
  have D__law_undone : Def l.prog w K mg base "_law_undone" 5 ["_law_rows"] sp_un := ⟨f__law_undone, _, ok_un F__law_undone T DDT, PySem.W.mg_of X G a__law_undone, k__law_undone, b__law_undone⟩
  have D__law_table : Def l.prog w K mg base "_law_table" 3 ["_law_pot_here", "_law_size"] sp_tb := ⟨f__law_table, _, ok_tb F__law_table T D__law_draw D__law_pick D__law_told D__law_times, PySem.W.mg_of X G a__law_table, k__law_table, b__law_table⟩
  have D__law_led : Def l.prog w K mg base "_law_led" 2 ["_law_form_here", "_law_rows"] sp_ld := ⟨f__law_led, _, ok_ld F__law_led T D__law_times, PySem.W.mg_of X G a__law_led, k__law_led, b__law_led⟩
  have D__law_form : Def l.prog w K mg base "_law_form" 1 ["_law_numbers", "_law_size"] sp_fm := ⟨f__law_form, _, ok_fm F__law_form T, PySem.W.mg_of X G a__law_form, k__law_form, b__law_form⟩
  have D__law_places : Def l.prog w K mg base "_law_places" 1 ["_law_size"] sp_pl := ⟨f__law_places, _, ok_pl F__law_places , PySem.W.mg_of X G a__law_places, k__law_places, b__law_places⟩
  have D__law_any : Def l.prog w K mg base "_law_any" 2 ["_law_pot_here", "_law_size"] sp_an := ⟨f__law_any, _, ok_an F__law_any T D__law_draw D__law_places D__law_form, PySem.W.mg_of X G a__law_any, k__law_any, b__law_any⟩
  have D__law_summed : Def l.prog w K mg base "_law_summed" 3 ["_law_form_here", "_law_rows"] sp_su := ⟨f__law_summed, _, ok_su F__law_summed T D__law_led, PySem.W.mg_of X G a__law_summed, k__law_summed, b__law_summed⟩
  have D__law_worths_kept : Def l.prog w K mg base "_law_worths_kept" 7 ["_law_form_here", "_law_table_here"] (sp_wk C CF) := ⟨f__law_worths_kept, _, ok_wk F__law_worths_kept T Fc Tc FP_size FM_worth M_lead, PySem.W.mg_of X G a__law_worths_kept, k__law_worths_kept, b__law_worths_kept⟩
  have D__law_one_right : DefG l.prog w K mg base "_law_one_right" 12 ["_law_form_here", "_law_rows"] sp_or := ⟨f__law_one_right, _, ok_or F__law_one_right T Fc Tc Fmk Dmk D__law_led Rtf K_keeps D__law_worths_kept M_undone, PySem.W.mg_of X G a__law_one_right, k__law_one_right, b__law_one_right⟩
  have D__law_right : DefG l.prog w K mg base "_law_right" 13 ["_law_pot_here"] sp_right := ⟨f__law_right, _, ok_ri F__law_right T Fc Tc Fmk Dmk Dmul D__law_draw D__law_table D__law_any D__law_summed D__law_times D__law_undone D__law_one_right D_keeps, PySem.W.mg_of X G a__law_right, k__law_right, b__law_right⟩
  exact ok_law F_law T (PySem.W.mg_none_of X G zz_min) D__law_pot D__law_right
theorem walk {l : PySem.W.OpenLaw} {q : Program} {loose : List Str} {XP : (Str → Option Value) → Heap → Prop} {YP : World → Heap → Prop} {d : DefRec} {K : Params → PySem.W.Frag} (hn : l.most = some 63) (hdf : d.params.defaults = [])
    (hY : ∀ (w : World) (h : Heap), YP w h → (K w.params).In h)
    (F : ∀ (w : World) (mg : Str → Option Value) (fa : Addr) (h : Heap), (K w.params).In h → h.Ns mainGlobals mg → mg d.name = some (.ref fa) →
      ∃ fd : FuncData, (∀ (s : Shared) (u : Value), BindsTo s fd ⟨[u], []⟩ [("_law_script", u)]) ∧ ∀ base : Heap, (K w.params).In base → base.Ns mainGlobals mg → FnG l.prog w (K w.params) mg base CX0 14 fa fd ["_law_script"] (sp_law (K w.params))) :
    PySem.W.WalkO q loose XP YP l.row.toRowW d [] (fun f vs => PySem.call f vs) :=
  walkG (n := 63) (k := 14) (x := "_law_script") (sp := fun w => sp_law (K w.params)) hn (by decide) hdf ⟨rfl, by decide, by decide⟩ hY F (fun _ _ a ns hl _ hS => ⟨a, ns, rfl, hS, hl, fun _ => rfl⟩)
end T34
open PySem PySem.W PyProof.Rows
set_option maxRecDepth 100000 in
set_option maxHeartbeats 0 in
theorem PySem.Challenge.cw_keptbowls_k34_whole_keeping_holds : PySem.Challenge.rw_keptbowls_k34_whole_keeping.Holds := by
  w_on; o_law; k_head; (case hw => w_witness2)
  k_fill
  refine T34.walk (l := PySem.Challenge.rw_keptbowls_k34_whole_keeping) rfl rfl (fun w h Y => PySem.W.kIn_of Y) ?F
  case F =>
    intro w mg fa h KX G hmg
    refine' T34.all_mk KX G hmg ?aC ?aCF ?a_is_integer ?l_is_integer ?c_is_integer ?k_is_integer ?a_is_list ?l_is_list ?c_is_list ?k_is_list ?a_is_row ?l_is_row ?c_is_row ?k_is_row ?a_is_row_of ?l_is_row_of ?c_is_row_of ?k_is_row_of ?a_check_row ?l_check_row ?c_check_row ?k_check_row ?a_is_grid ?l_is_grid ?c_is_grid ?k_is_grid ?a_copied ?l_copied ?c_copied ?k_copied ?a_across ?l_across ?c_across ?k_across ?a_scalar ?l_scalar ?c_scalar ?k_scalar ?a_led_row ?l_led_row ?c_led_row ?k_led_row ?a_multiplied ?l_multiplied ?c_multiplied ?k_multiplied ?a_without ?l_without ?c_without ?k_without ?a_determinant_of ?l_determinant_of ?c_determinant_of ?k_determinant_of ?a_cofactor ?l_cofactor ?c_cofactor ?k_cofactor ?a_check_table ?l_check_table ?c_check_table ?k_check_table ?a_check_alike ?l_check_alike ?c_check_alike ?k_check_alike ?a_check_form ?l_check_form ?c_check_form ?k_check_form ?a_keeps ?l_keeps ?c_keeps ?k_keeps ?a__law_pot ?l__law_pot ?c__law_pot ?k__law_pot ?a__law_draw ?l__law_draw ?c__law_draw ?k__law_draw ?a__law_pick ?l__law_pick ?c__law_pick ?k__law_pick ?a__law_det ?l__law_det ?c__law_det ?k__law_det ?a__law_told ?l__law_told ?c__law_told ?k__law_told ?a__law_times ?l__law_times ?c__law_times ?k__law_times ?a__law_undone ?l__law_undone ?c__law_undone ?k__law_undone ?a__law_table ?l__law_table ?c__law_table ?k__law_table ?a__law_led ?l__law_led ?c__law_led ?k__law_led ?a__law_form ?l__law_form ?c__law_form ?k__law_form ?a__law_places ?l__law_places ?c__law_places ?k__law_places ?a__law_any ?l__law_any ?c__law_any ?k__law_any ?a__law_summed ?l__law_summed ?c__law_summed ?k__law_summed ?a__law_worths_kept ?l__law_worths_kept ?c__law_worths_kept ?k__law_worths_kept ?a__law_one_right ?l__law_one_right ?c__law_one_right ?k__law_one_right ?a__law_right ?l__law_right ?c__law_right ?k__law_right ?a_law ?l_law ?c_law ?k_law ?a_T___init__ ?i_T___init__ ?l_T___init__ ?c_T___init__ ?k_T___init__ ?p_T_rows ?g_T_rows ?t_T_rows ?r_T_rows ?l_T_rows ?c_T_rows ?k_T_rows ?p_T_size ?g_T_size ?t_T_size ?r_T_size ?l_T_size ?c_T_size ?k_T_size ?p_T_determinant ?g_T_determinant ?t_T_determinant ?r_T_determinant ?l_T_determinant ?c_T_determinant ?k_T_determinant ?a_T___repr__ ?i_T___repr__ ?l_T___repr__ ?c_T___repr__ ?k_T___repr__ ?a_T___mul__ ?i_T___mul__ ?l_T___mul__ ?c_T___mul__ ?k_T___mul__ ?a_T_lead ?i_T_lead ?l_T_lead ?c_T_lead ?k_T_lead ?a_T_undone ?i_T_undone ?l_T_undone ?c_T_undone ?k_T_undone ?a_Fm___init__ ?i_Fm___init__ ?l_Fm___init__ ?c_Fm___init__ ?k_Fm___init__ ?p_Fm_rows ?g_Fm_rows ?t_Fm_rows ?r_Fm_rows ?l_Fm_rows ?c_Fm_rows ?k_Fm_rows ?p_Fm_size ?g_Fm_size ?t_Fm_size ?r_Fm_size ?l_Fm_size ?c_Fm_size ?k_Fm_size ?a_Fm___eq__ ?i_Fm___eq__ ?l_Fm___eq__ ?c_Fm___eq__ ?k_Fm___eq__ ?a_Fm___repr__ ?i_Fm___repr__ ?l_Fm___repr__ ?c_Fm___repr__ ?k_Fm___repr__ ?a_Fm_worth ?i_Fm_worth ?l_Fm_worth ?c_Fm_worth ?k_Fm_worth ?a_Fm_between ?i_Fm_between ?l_Fm_between ?c_Fm_between ?k_Fm_between ?a_Fm_led ?i_Fm_led ?l_Fm_led ?c_Fm_led ?k_Fm_led ?pg ?hd ?po ?sa ?mk ?kc ?nR ?cc ?cg ?ct ?cm ?hcl ?hmr ?pgF ?hdF ?poF ?saF ?mkF ?kcF ?nRF ?ccF ?cmF ?hclF ?hmrF ?hneF ?z0 ?z1 ?z2 ?z3 ?z4 ?z5 ?z6 ?z7 ?z8 ?z9 ?z10 ?z11 ?z12 ?z13 ?z14 ?z15 ?zz_min
    (case aC => k_is)
    (case aCF => k_is)
    (case a_is_integer => k_is)
    (case l_is_integer => k_is)
    (case c_is_integer => k_is)
    (case k_is_integer => k_is)
    (case a_is_list => k_is)
    (case l_is_list => k_is)
    (case c_is_list => k_is)
    (case k_is_list => k_is)
    (case a_is_row => k_is)
    (case l_is_row => k_is)
    (case c_is_row => k_is)
    (case k_is_row => k_is)
    (case a_is_row_of => k_is)
    (case l_is_row_of => k_is)
    (case c_is_row_of => k_is)
    (case k_is_row_of => k_is)
    (case a_check_row => k_is)
    (case l_check_row => k_is)
    (case c_check_row => k_is)
    (case k_check_row => k_is)
    (case a_is_grid => k_is)
    (case l_is_grid => k_is)
    (case c_is_grid => k_is)
    (case k_is_grid => k_is)
    (case a_copied => k_is)
    (case l_copied => k_is)
    (case c_copied => k_is)
    (case k_copied => k_is)
    (case a_across => k_is)
    (case l_across => k_is)
    (case c_across => k_is)
    (case k_across => k_is)
    (case a_scalar => k_is)
    (case l_scalar => k_is)
    (case c_scalar => k_is)
    (case k_scalar => k_is)
    (case a_led_row => k_is)
    (case l_led_row => k_is)
    (case c_led_row => k_is)
    (case k_led_row => k_is)
    (case a_multiplied => k_is)
    (case l_multiplied => k_is)
    (case c_multiplied => k_is)
    (case k_multiplied => k_is)
    (case a_without => k_is)
    (case l_without => k_is)
    (case c_without => k_is)
    (case k_without => k_is)
    (case a_determinant_of => k_is)
    (case l_determinant_of => k_is)
    (case c_determinant_of => k_is)
    (case k_determinant_of => k_is)
    (case a_cofactor => k_is)
    (case l_cofactor => k_is)
    (case c_cofactor => k_is)
    (case k_cofactor => k_is)
    (case a_check_table => k_is)
    (case l_check_table => k_is)
    (case c_check_table => k_is)
    (case k_check_table => k_is)
    (case a_check_alike => k_is)
    (case l_check_alike => k_is)
    (case c_check_alike => k_is)
    (case k_check_alike => k_is)
    (case a_check_form => k_is)
    (case l_check_form => k_is)
    (case c_check_form => k_is)
    (case k_check_form => k_is)
    (case a_keeps => k_is)
    (case l_keeps => k_is)
    (case c_keeps => k_is)
    (case k_keeps => k_is)
    (case a__law_pot => k_is)
    (case l__law_pot => k_is)
    (case c__law_pot => k_is)
    (case k__law_pot => k_is)
    (case a__law_draw => k_is)
    (case l__law_draw => k_is)
    (case c__law_draw => k_is)
    (case k__law_draw => k_is)
    (case a__law_pick => k_is)
    (case l__law_pick => k_is)
    (case c__law_pick => k_is)
    (case k__law_pick => k_is)
    (case a__law_det => k_is)
    (case l__law_det => k_is)
    (case c__law_det => k_is)
    (case k__law_det => k_is)
    (case a__law_told => k_is)
    (case l__law_told => k_is)
    (case c__law_told => k_is)
    (case k__law_told => k_is)
    (case a__law_times => k_is)
    (case l__law_times => k_is)
    (case c__law_times => k_is)
    (case k__law_times => k_is)
    (case a__law_undone => k_is)
    (case l__law_undone => k_is)
    (case c__law_undone => k_is)
    (case k__law_undone => k_is)
    (case a__law_table => k_is)
    (case l__law_table => k_is)
    (case c__law_table => k_is)
    (case k__law_table => k_is)
    (case a__law_led => k_is)
    (case l__law_led => k_is)
    (case c__law_led => k_is)
    (case k__law_led => k_is)
    (case a__law_form => k_is)
    (case l__law_form => k_is)
    (case c__law_form => k_is)
    (case k__law_form => k_is)
    (case a__law_places => k_is)
    (case l__law_places => k_is)
    (case c__law_places => k_is)
    (case k__law_places => k_is)
    (case a__law_any => k_is)
    (case l__law_any => k_is)
    (case c__law_any => k_is)
    (case k__law_any => k_is)
    (case a__law_summed => k_is)
    (case l__law_summed => k_is)
    (case c__law_summed => k_is)
    (case k__law_summed => k_is)
    (case a__law_worths_kept => k_is)
    (case l__law_worths_kept => k_is)
    (case c__law_worths_kept => k_is)
    (case k__law_worths_kept => k_is)
    (case a__law_one_right => k_is)
    (case l__law_one_right => k_is)
    (case c__law_one_right => k_is)
    (case k__law_one_right => k_is)
    (case a__law_right => k_is)
    (case l__law_right => k_is)
    (case c__law_right => k_is)
    (case k__law_right => k_is)
    (case a_law => k_is)
    (case l_law => k_is)
    (case c_law => k_is)
    (case k_law => k_is)
    (case a_T___init__ => k_is)
    (case i_T___init__ => k_is)
    (case l_T___init__ => k_is)
    (case c_T___init__ => k_is)
    (case k_T___init__ => k_is)
    (case p_T_rows => k_is)
    (case g_T_rows => k_is)
    (case t_T_rows => k_is)
    (case r_T_rows => k_is)
    (case l_T_rows => k_is)
    (case c_T_rows => k_is)
    (case k_T_rows => k_is)
    (case p_T_size => k_is)
    (case g_T_size => k_is)
    (case t_T_size => k_is)
    (case r_T_size => k_is)
    (case l_T_size => k_is)
    (case c_T_size => k_is)
    (case k_T_size => k_is)
    (case p_T_determinant => k_is)
    (case g_T_determinant => k_is)
    (case t_T_determinant => k_is)
    (case r_T_determinant => k_is)
    (case l_T_determinant => k_is)
    (case c_T_determinant => k_is)
    (case k_T_determinant => k_is)
    (case a_T___repr__ => k_is)
    (case i_T___repr__ => k_is)
    (case l_T___repr__ => k_is)
    (case c_T___repr__ => k_is)
    (case k_T___repr__ => k_is)
    (case a_T___mul__ => k_is)
    (case i_T___mul__ => k_is)
    (case l_T___mul__ => k_is)
    (case c_T___mul__ => k_is)
    (case k_T___mul__ => k_is)
    (case a_T_lead => k_is)
    (case i_T_lead => k_is)
    (case l_T_lead => k_is)
    (case c_T_lead => k_is)
    (case k_T_lead => k_is)
    (case a_T_undone => k_is)
    (case i_T_undone => k_is)
    (case l_T_undone => k_is)
    (case c_T_undone => k_is)
    (case k_T_undone => k_is)
    (case a_Fm___init__ => k_is)
    (case i_Fm___init__ => k_is)
    (case l_Fm___init__ => k_is)
    (case c_Fm___init__ => k_is)
    (case k_Fm___init__ => k_is)
    (case p_Fm_rows => k_is)
    (case g_Fm_rows => k_is)
    (case t_Fm_rows => k_is)
    (case r_Fm_rows => k_is)
    (case l_Fm_rows => k_is)
    (case c_Fm_rows => k_is)
    (case k_Fm_rows => k_is)
    (case p_Fm_size => k_is)
    (case g_Fm_size => k_is)
    (case t_Fm_size => k_is)
    (case r_Fm_size => k_is)
    (case l_Fm_size => k_is)
    (case c_Fm_size => k_is)
    (case k_Fm_size => k_is)
    (case a_Fm___eq__ => k_is)
    (case i_Fm___eq__ => k_is)
    (case l_Fm___eq__ => k_is)
    (case c_Fm___eq__ => k_is)
    (case k_Fm___eq__ => k_is)
    (case a_Fm___repr__ => k_is)
    (case i_Fm___repr__ => k_is)
    (case l_Fm___repr__ => k_is)
    (case c_Fm___repr__ => k_is)
    (case k_Fm___repr__ => k_is)
    (case a_Fm_worth => k_is)
    (case i_Fm_worth => k_is)
    (case l_Fm_worth => k_is)
    (case c_Fm_worth => k_is)
    (case k_Fm_worth => k_is)
    (case a_Fm_between => k_is)
    (case i_Fm_between => k_is)
    (case l_Fm_between => k_is)
    (case c_Fm_between => k_is)
    (case k_Fm_between => k_is)
    (case a_Fm_led => k_is)
    (case i_Fm_led => k_is)
    (case l_Fm_led => k_is)
    (case c_Fm_led => k_is)
    (case k_Fm_led => k_is)
    (case pg => k_is)
    (case hd => k_is)
    (case po => k_is)
    (case sa => k_is)
    (case mk => k_is)
    (case kc => k_is)
    (case nR => k_is)
    (case cc => k_is)
    (case cg => k_is)
    (case ct => k_is)
    (case cm => k_is)
    (case hcl => k_is)
    (case hmr => rfl)
    (case pgF => k_is)
    (case hdF => k_is)
    (case poF => k_is)
    (case saF => k_is)
    (case mkF => k_is)
    (case kcF => k_is)
    (case nRF => k_is)
    (case ccF => k_is)
    (case cmF => k_is)
    (case hclF => k_is)
    (case hmrF => rfl)
    (case hneF => k_is)
    (case z0 => k_is)
    (case z1 => k_is)
    (case z2 => k_is)
    (case z3 => k_is)
    (case z4 => k_is)
    (case z5 => k_is)
    (case z6 => k_is)
    (case z7 => k_is)
    (case z8 => k_is)
    (case z9 => k_is)
    (case z10 => k_is)
    (case z11 => k_is)
    (case z12 => k_is)
    (case z13 => k_is)
    (case z14 => k_is)
    (case z15 => k_is)
    (case zz_min => k_is)
#print axioms PySem.Challenge.cw_keptbowls_k34_whole_keeping_holds
