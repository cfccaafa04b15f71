import PyProof.Rows.All
import Wide.All
import OpenK.AllK
import Wide.FinOn
import HandS.ForMost
import HandS.IsInst
import HandS.Zip
import HandS.Star
import KE.KStar
import HandS.Wide
import HandS.WideBits
import HandS.Property
import HandS.Style
import HandS.SlotsOwn
import HandS.More
import HandS.Sort
import HandS.TupMul
import HandS.TupAny
import HandS.TryOnly
import HandS.FStr
import HandS.MakeKwOnly
import HandS.Conv
import HandS.SortInts
import Flt.RightSqrt
import PyProof.StrOps2
import HandS.Gcd
import PySem.Challenge.RW_keptbowls_k22_whole_corners_signs_diviso
set_option Elab.async false
set_option linter.all false
set_option maxRecDepth 100000
set_option maxHeartbeats 1000000
namespace Zn
open PySem PySem.Spec PyProof.Rows L2
open PySem.Sem (wp)
/-- a sequence to be walked: a tuple or a list, where, its items -/
abbrev Src := Bool × Addr × Array Value
def ItK (t : Bool) (h : Heap) (i l : Addr) (k : Nat) : Prop := cond t (h.IsTupleIter i l k) (h.IsListIter i l k)
def SqK (t : Bool) (h : Heap) (l : Addr) (xs : Array Value) : Prop := cond t (h.IsTuple l xs) (h.IsList l xs)
abbrev TupAt (h : Heap) (T : Addr) (xs : List Value) : Prop := h.get? T = some { cls := .type "tuple", data := .seq xs.toArray }
theorem ItK.at {t : Bool} {h h' : Heap} {i l : Addr} {k : Nat} (x : ItK t h i l k) (e : ∀ o, h.get? i = some o → h'.get? i = some o) : ItK t h' i l k := by
  cases t with
  | true => exact Heap.IsTupleIter.at x e
  | false => exact Heap.IsListIter.at x e
theorem SqK.at {t : Bool} {h h' : Heap} {l : Addr} {xs : Array Value} (x : SqK t h l xs) (e : ∀ o, h.get? l = some o → h'.get? l = some o) : SqK t h' l xs := by
  cases t with
  | true => obtain ⟨o, ho, r⟩ := x; exact ⟨o, e _ ho, r⟩
  | false => obtain ⟨o, ho, r⟩ := x; exact ⟨o, e _ ho, r⟩
theorem ItK.lt {t : Bool} {h : Heap} {i l : Addr} {k : Nat} (x : ItK t h i l k) : i < h.objs.size := by
  cases t with
  | true => obtain ⟨o, ho, _⟩ := x; exact Heap.lt_size ho
  | false => obtain ⟨o, ho, _⟩ := x; exact Heap.lt_size ho
theorem SqK.lt {t : Bool} {h : Heap} {l : Addr} {xs : Array Value} (x : SqK t h l xs) : l < h.objs.size := by
  cases t with
  | true => obtain ⟨o, ho, _⟩ := x; exact Heap.lt_size ho
  | false => obtain ⟨o, ho, _⟩ := x; exact Heap.lt_size ho
theorem ItK.rec_ {t : Bool} {h : Heap} {i l : Addr} {k : Nat} (x : ItK t h i l k) : ∃ o, h.get? i = some o ∧ (o.cls = .type "tuple_iterator" ∨ o.cls = .type "list_iterator") ∧ o.data = .fields #[.ref l, .int k 0] := by
  cases t with
  | true => obtain ⟨o, ho, hc, hd⟩ := x; exact ⟨o, ho, .inl hc, hd⟩
  | false => obtain ⟨o, ho, hc, hd⟩ := x; exact ⟨o, ho, .inr hc, hd⟩
section
variable {prog : Program} {w : World} {A : Around} {E : Value → Shared → Prop} {s : Shared}
theorem nextOf_item {t : Bool} {i l : Addr} {k : Nat} {xs : Array Value} {x : Value} {Q : Value → Shared → Prop} (hi : ItK t s.heap i l k) (hl : SqK t s.heap l xs) (hx : xs[k]? = some x)
    (hQ : ∀ h', ItK t h' i l (k + 1) → Heap.SameBut i s.heap h' → Q x { s with heap := h' }) : wpAny (model prog w) A (Builtin.SmallTypes.nextOf (.ref i)) Q E s := by
  cases t with
  | true => exact RZ.nextOf_tuple_item hi hl hx hQ
  | false => exact wpAny_nextOf_list_item hi hl hx hQ
theorem nextOf_end {t : Bool} {i l : Addr} {k : Nat} {xs : Array Value} {Q : Value → Shared → Prop} (hh : A.handled = none) (hi : ItK t s.heap i l k) (hl : SqK t s.heap l xs) (hx : xs[k]? = none)
    (hE : ∀ h' e, Heap.ExtBut i s.heap h' → (∃ o, h'.get? e = some o ∧ o.cls = .type "StopIteration") → E (.ref e) { s with heap := h' }) : wpAny (model prog w) A (Builtin.SmallTypes.nextOf (.ref i)) Q E s := by
  cases t with
  | true => exact RZ.nextOf_tuple_end hh hi hl hx hE
  | false => exact wpAny_nextOf_list_end hh hi hl hx hE
theorem pyIter_K {t : Bool} {l : Addr} {xs : Array Value} {Q : Value → Shared → Prop} (hl : SqK t s.heap l xs)
    (hQ : ∀ h', ItK t h' s.heap.objs.size l 0 → h'.objs.size = s.heap.objs.size + 1 → (∀ c o, s.heap.get? c = some o → h'.get? c = some o) → Q (.ref s.heap.objs.size) { s with heap := h' }) :
    wpAny (model prog w) A (pyIter (.ref l)) Q E s := by
  cases t with
  | true => exact wpAny_pyIter_tuple hl (hQ _ ⟨_, Heap.get?_push_size _ rfl, rfl, rfl⟩ (Heap.size_push ..) fun c o e => Heap.get?_push_of_some _ e)
  | false => exact wpAny_pyIter_list hl (hQ _ ⟨_, Heap.get?_push_size _ rfl, rfl, rfl⟩ (Heap.size_push ..) fun c o e => Heap.get?_push_of_some _ e)
/-- the iterators at the k-th turn of their sequences -/
def AllAt (h : Heap) (k : Nat) : List Addr → List Src → Prop
  | [], [] => True
  | i :: is, (t, l, xs) :: r => ItK t h i l k ∧ SqK t h l xs ∧ AllAt h k is r
  | _, _ => False
theorem AllAt.at {h h' : Heap} {k : Nat} : ∀ {is : List Addr} {r : List Src}, AllAt h k is r → (∀ i ∈ is, ∀ o, h.get? i = some o → h'.get? i = some o) → (∀ q ∈ r, ∀ o, h.get? q.2.1 = some o → h'.get? q.2.1 = some o) → AllAt h' k is r
  | [], [], _, _, _ => trivial
  | i :: is, (t, l, xs) :: r, x, e1, e2 => ⟨x.1.at (e1 i List.mem_cons_self), x.2.1.at (e2 _ List.mem_cons_self), AllAt.at x.2.2 (fun j hj => e1 j (List.mem_cons_of_mem _ hj)) fun q hq => e2 q (List.mem_cons_of_mem _ hq)⟩
theorem AllAt.len {h : Heap} {k : Nat} : ∀ {is : List Addr} {r : List Src}, AllAt h k is r → is.length = r.length
  | [], [], _ => rfl
  | _ :: _, _ :: _, x => by rw [List.length_cons, List.length_cons, AllAt.len x.2.2]
theorem AllAt.lt {h : Heap} {k : Nat} : ∀ {is : List Addr} {r : List Src}, AllAt h k is r → ∀ i ∈ is, i < h.objs.size
  | i :: is, (t, l, xs) :: r, x, j, hj => by
    rcases List.mem_cons.mp hj with rfl | hj
    · exact x.1.lt
    · exact AllAt.lt x.2.2 j hj
theorem AllAt.ob {h : Heap} {k : Nat} : ∀ {is : List Addr} {r : List Src}, AllAt h k is r → ∀ i ∈ is, ∃ o l, h.get? i = some o ∧ o.data = .fields #[.ref l, .int k 0]
  | i :: is, (t, l, xs) :: r, x, j, hj => by
    rcases List.mem_cons.mp hj with rfl | hj
    · obtain ⟨o, ho, _, hd⟩ := x.1.rec_
      exact ⟨o, l, ho, hd⟩
    · exact AllAt.ob x.2.2 j hj
/-- the items at the k-th turn -/
def Items (k : Nat) : List Src → List Value → Prop
  | [], [] => True
  | (_, _, xs) :: r, y :: ys => xs[k]? = some y ∧ Items k r ys
  | _, _ => False
theorem Items.len {k : Nat} : ∀ {r : List Src} {ys : List Value}, Items k r ys → r.length = ys.length
  | [], [], _ => rfl
  | _ :: _, _ :: _, x => by rw [List.length_cons, List.length_cons, Items.len x.2]
/-- what a draw asks of the loop's body, and gives -/
def DrawOk (M : Model) (A : Around) {β : Type} (f : Value × Nat → β → Sem (ForInStep β)) (b0 : β) (TO : Addr) : Prop :=
  ∀ (s : Shared) (i l : Addr) (t : Bool) (k : Nat) (xs : Array Value) (x old : Value) (pre post : List Value) (Q : ForInStep β → Shared → Prop) (E : Value → Shared → Prop), ItK t s.heap i l k → SqK t s.heap l xs → xs[k]? = some x → i ≠ TO → l ≠ TO → l ≠ i →
    (pre ++ old :: post).length ≤ 1000 → TupAt s.heap TO (pre ++ old :: post) →
    (∀ h', ItK t h' i l (k + 1) → TupAt h' TO (pre ++ x :: post) → h'.objs.size = s.heap.objs.size → (∀ c o, c ≠ TO → c ≠ i → s.heap.get? c = some o → h'.get? c = some o) → Q (.yield b0) { s with heap := h' }) →
    wpAny M A (f (.ref i, pre.length) b0) Q E s
theorem draw_all {β : Type} {M : Model} {f : Value × Nat → β → Sem (ForInStep β)} {b0 : β} {TO : Addr} {Q : β → Shared → Prop} (hf : DrawOk M A f b0 TO) (k : Nat) (is : List Addr) :
    ∀ (r : List Src) (ys olds pre : List Value) (s : Shared), AllAt s.heap k is r → Items k r ys → ys.length = olds.length → (pre ++ olds).length ≤ 1000 → is.Nodup → TO ∉ is → (∀ q ∈ r, q.2.1 ≠ TO ∧ q.2.1 ∉ is) → TupAt s.heap TO (pre ++ olds) →
      (∀ h', AllAt h' (k + 1) is r → TupAt h' TO (pre ++ ys) → h'.objs.size = s.heap.objs.size → (∀ c o, c ≠ TO → c ∉ is → s.heap.get? c = some o → h'.get? c = some o) → Q b0 { s with heap := h' }) →
      wpAny M A (forIn ((is.map Value.ref).zipIdx pre.length) b0 f) Q E s := by
  induction is with
  | nil =>
    intro r ys olds pre s ha hy hl _ _ _ _ hT hQ
    cases r with
    | cons _ _ => exact ha.elim
    | nil =>
      cases ys with
      | cons _ _ => exact hy.elim
      | nil =>
        have e : olds = [] := List.length_eq_zero_iff.mp hl.symm
        subst e
        rw [List.map_nil, List.zipIdx_nil, List.forIn_nil]
        exact wpAny_pure (hQ s.heap trivial hT rfl fun _ _ _ _ e => e)
  | cons i is ih =>
    intro r ys olds pre s ha hy hl hbd hn hTO hs hT hQ
    cases r with
    | nil => exact ha.elim
    | cons q r =>
      obtain ⟨t, l, xs⟩ := q
      cases ys with
      | nil => exact hy.elim
      | cons y ys =>
        cases olds with
        | nil => cases hl
        | cons o olds =>
          have ha1 : ItK t s.heap i l k := ha.1
          have ha2 : SqK t s.heap l xs := ha.2.1
          have ha3 : AllAt s.heap k is r := ha.2.2
          have hy1 : xs[k]? = some y := hy.1
          have hy2 : Items k r ys := hy.2
          rw [List.map_cons, List.zipIdx_cons, List.forIn_cons]
          have hni : i ∉ is := (List.nodup_cons.mp hn).1
          have hiT : i ≠ TO := fun e => hTO (e ▸ List.mem_cons_self)
          have hq := hs _ List.mem_cons_self
          have hq1 : l ≠ TO := hq.1
          have hq2 : l ∉ i :: is := hq.2
          refine wpAny_bind (hf s i l t k xs y o pre olds _ E ha1 ha2 hy1 hiT hq1 (fun e => hq2 (e ▸ List.mem_cons_self)) hbd hT fun h1 hi1 hT1 hz1 hk1 => ?_)
          have e1 : pre.length + 1 = (pre ++ [y]).length := by simp
          have hT1' : TupAt h1 TO ((pre ++ [y]) ++ olds) := by
            rw [List.append_assoc]
            exact hT1
          have goal := ih r ys olds (pre ++ [y]) { s with heap := h1 } (ha3.at (fun j hj o e => hk1 j o (fun q => hTO (q ▸ List.mem_cons_of_mem _ hj)) (fun q => hni (q ▸ hj)) e)
            fun q hqm o e => hk1 _ o (hs q (List.mem_cons_of_mem _ hqm)).1 (fun z => (hs q (List.mem_cons_of_mem _ hqm)).2 (z ▸ List.mem_cons_self)) e) hy2 (Nat.succ.inj hl) (by simpa using hbd) (List.nodup_cons.mp hn).2 (fun z => hTO (List.mem_cons_of_mem _ z))
            (fun q hqm => ⟨(hs q (List.mem_cons_of_mem _ hqm)).1, fun z => (hs q (List.mem_cons_of_mem _ hqm)).2 (List.mem_cons_of_mem _ z)⟩) hT1' fun h2 ha2' hT2 hz2 hk2 => ?_
          · rw [← e1] at goal
            exact goal
          · refine hQ h2 ⟨hi1.at fun o e => hk2 i o hiT hni e, ha2.at fun o e => hk2 l o hq1 (fun z => hq2 (List.mem_cons_of_mem _ z)) (hk1 l o hq1 (fun z => hq2 (z ▸ List.mem_cons_self)) e), ha2'⟩ ?_ (hz2.trans hz1) fun c o c1 c2 e => ?_
            · rw [List.append_assoc] at hT2
              exact hT2
            · exact hk2 c o c1 (fun z => c2 (List.mem_cons_of_mem _ z)) (hk1 c o c1 (fun z => c2 (z ▸ List.mem_cons_self)) e)
end
end Zn
set_option Elab.async false
set_option linter.all false
set_option maxRecDepth 100000
set_option maxHeartbeats 1000000
namespace Zn
open PySem PySem.Spec PyProof.Rows L2
open PySem.Sem (wp)
section
variable {prog : Program} {w : World} {A : Around} {E : Value → Shared → Prop} {s : Shared}
/-- one turn of the loop within next -/
theorem next_item {z TI TO : Addr} {is : List Addr} {r : List Src} {k : Nat} {ys olds : List Value} {Q : Value → Shared → Prop} (hne : is ≠ [])
    (hz : IsZip s.heap z TI TO .none) (hTI : TupAt s.heap TI (is.map Value.ref)) (hTO : TupAt s.heap TO olds) (ha : AllAt s.heap k is r) (hy : Items k r ys) (hlo : olds.length = is.length) (hsm : is.length ≤ 1000)
    (hnd : is.Nodup) (hzi : z ∉ is) (hTOi : TO ∉ is) (hzT : z ≠ TO) (hs : ∀ q ∈ r, q.2.1 ≠ TO ∧ q.2.1 ≠ z ∧ q.2.1 ∉ is)
    (hQ : ∀ h', IsZip h' z TI TO (rawInt s.heap.objs.size) → TupAt h' TO ys → AllAt h' (k + 1) is r → TupAt h' s.heap.objs.size ys → h'.objs.size = s.heap.objs.size + 1 →
      (∀ c o, c ≠ z → c ≠ TO → c ∉ is → s.heap.get? c = some o → h'.get? c = some o) → Q (.ref s.heap.objs.size) { s with heap := h' }) :
    wpAny (model prog w) A (Builtin.«zip.__next__» ⟨[.ref z], []⟩) (fun fin s' => ∃ v, fin = .done (.ret v) ∧ Q v s') E s := by
  show wpAny _ _ (field (.ref z) 2 >>= _) _ _ _
  refine wpAny_bind (wpAny_field hz rfl (x := .bool false) rfl ?_)
  show wpAny _ _ (field (.ref z) 3 >>= _) _ _ _
  refine wpAny_bind (wpAny_field hz rfl (x := .ref TI) rfl ?_)
  refine wpAny_bind (wpAny_seqItems hTI rfl ?_)
  have hem : (is.map Value.ref).toArray.isEmpty = false := by
    cases is with
    | nil => exact absurd rfl hne
    | cons _ _ => simp
  simp only [hem, Bool.false_eq_true, if_false]
  refine wpAny_bind ?_
  unfold Builtin.SmallTypes.ownedTupleIsFree
  refine wpAny_bind (wpAny_field hz rfl (x := .none) rfl (wpAny_pure ?_))
  simp only [if_true]
  refine wpAny_bind (wpAny_rule ?_)
  refine wpAny_bind (wpAny_field hz rfl (x := .ref TO) rfl ?_)
  refine wpAny_bind (wpAny_setField_rec hz (by simp) fun g1 hz1 hs1 => ?_)
  replace hz1 : IsZip g1 z TI TO .ellipsis := hz1
  have up1 : ∀ c o, c ≠ z → s.heap.get? c = some o → g1.get? c = some o := fun c o c1 e => hs1.extBut _ _ c1 e
  have ha1 : AllAt g1 k is r := ha.at (fun i hi o e => up1 i o (fun q => hzi (q ▸ hi)) e) fun q hq o e => up1 _ o (hs q hq).2.1 e
  have hly : ys.length = olds.length := by rw [hlo, ha.len, ← hy.len]
  refine wpAny_bind ?_
  refine draw_all (M := model prog w) (A := A) (E := E) (b0 := (none, ())) (TO := TO) (Q := _) ?hf k is r ys olds [] { s with heap := g1 } ha1 hy hly (by simpa [hlo] using hsm) hnd hTOi (fun q hq => ⟨(hs q hq).1, (hs q hq).2.2⟩) (up1 TO _ hzT.symm hTO) ?hq
  case hf =>
    intro s2 i l t k2 xs x old pre post Q2 E2 hi hl hx hiT hlT hli hbd hT2 kq
    show wpAny _ _ (((Builtin.SmallTypes.nextOf (.ref i) >>= fun v => pure (some v)).onRaise _) >>= _) _ _ _
    refine wpAny_bind (wpAny_onRaise ?_)
    refine wpAny_bind (nextOf_item hi hl hx fun g2 hi2 hs2 => wpAny_pure ?_)
    have hT3 : TupAt g2 TO (pre ++ old :: post) := hs2.extBut _ _ hiT.symm hT2
    refine wpAny_bind (wpAny_seqItems hT3 rfl ?_)
    have hb2 : (pre ++ old :: post).length ≤ sizeLine := Nat.le_trans hbd (by decide)
    refine wpAny_bind (wpAny_updateSeq hT3 rfl ?_ (by rw [List.size_toArray]; exact hb2) (by rw [Array.size_setIfInBounds, List.size_toArray]; exact Nat.le_succ_of_le hb2))
    refine wpAny_bind (wpAny_letGo (wpAny_pure ?_))
    have hup : Heap.SameBut TO g2 (g2.update TO (Obj.mapSeq fun v => v.setIfInBounds pre.length x)) := Heap.SameBut.update ..
    refine kq _ (hi2.at fun o e => hup.extBut _ _ hiT e) ?_ (hup.1.trans hs2.1) fun c o c1 c2 e => hup.extBut _ _ c1 (hs2.extBut _ _ c2 e)
    show (g2.update TO _).get? TO = _
    rw [Heap.get?_update_self _ hT3 rfl]
    simp [Obj.mapSeq, List.set_append]
  case hq =>
    intro g2 ha2 hT2 hz2 hk2
    refine wpAny_bind (wpAny_seqItems hT2 rfl ?_)
    have hyl : ys.length ≤ sizeLine := Nat.le_trans (by rw [hly, hlo]; exact hsm) (by decide)
    refine wpAny_bind (wpAny_newTuple ?_ (by simpa using hyl))
    have hsz : g2.objs.size = s.heap.objs.size := hz2.trans hs1.1
    have hz3 : IsZip g2 z TI TO .ellipsis := hk2 z _ hzT hzi hz1
    have hzlt : z < g2.objs.size := Heap.lt_size hz3
    have hTlt : TO < g2.objs.size := Heap.lt_size hT2
    show wpAny _ _ (Builtin.SmallTypes.ownedTupleHandOut (.ref z) (.ref g2.objs.size) >>= _) _ _ _
    refine wpAny_bind ?_
    unfold Builtin.SmallTypes.ownedTupleHandOut
    have hz4 : IsZip (g2.push { cls := .type "tuple", data := .seq ([] ++ ys).toArray.toList.toArray }) z TI TO .ellipsis := Heap.get?_push_of_some _ hz3
    refine wpAny_bind (wpAny_setField_rec hz4 (by simp) fun g5 hz5 hs5 => ?_)
    replace hz5 : IsZip g5 z TI TO (rawInt g2.objs.size) := hz5
    refine wpAny_setField_rec hz5 (by simp) fun g6 hz6 hs6 => ?_
    replace hz6 : IsZip g6 z TI TO (rawInt g2.objs.size) := hz6
    have up : ∀ c o, c ≠ z → g2.get? c = some o → g6.get? c = some o := fun c o c1 e => hs6.extBut _ _ c1 (hs5.extBut _ _ c1 (Heap.get?_push_of_some _ e))
    have hnew : TupAt g6 g2.objs.size ys := by
      have e := hs6.extBut _ _ (Nat.ne_of_gt hzlt) (hs5.extBut _ _ (Nat.ne_of_gt hzlt) (Heap.get?_push_size g2 (o := { cls := .type "tuple", data := .seq ([] ++ ys).toArray.toList.toArray }) rfl))
      simpa using e
    have hs8 : g6.objs.size = g2.objs.size + 1 := by rw [hs6.1, hs5.1, Heap.size_push]
    have hT6 : TupAt g6 TO ys := up TO _ hzT.symm hT2
    rw [hsz] at hz6 hnew hs8
    refine wpAny_pure ⟨_, rfl, ?_⟩
    show Q (.ref g2.objs.size) _
    rw [hsz]
    exact hQ g6 hz6 hT6 (ha2.at (fun i hi o e => up i o (fun q => hzi (q ▸ hi)) e) fun q hq o e => up _ o (hs q hq).2.1 e) hnew hs8 fun c o c1 c2 c3 e => up c o c1 (hk2 c o c2 c3 (up1 c o c1 e))
end
end Zn
set_option Elab.async false
set_option linter.all false
set_option maxRecDepth 100000
set_option maxHeartbeats 1000000
namespace Zn
open PySem PySem.Spec PyProof.Rows L2
open PySem.Sem (wp)
def StopAt (h : Heap) (e : Addr) : Prop := ∃ o, h.get? e = some o ∧ o.cls = .type "StopIteration"
/-- an exhausted sequence ends the loop's body -/
def StopOk (M : Model) (A : Around) {β : Type} (f : Value × Nat → β → Sem (ForInStep β)) (b0 : β) (z TI TO : Addr) : Prop :=
  ∀ (s : Shared) (i l : Addr) (t : Bool) (k j : Nat) (xs : Array Value) (Q : ForInStep β → Shared → Prop) (E : Value → Shared → Prop), ItK t s.heap i l k → SqK t s.heap l xs → xs[k]? = none → i ≠ z → IsZip s.heap z TI TO .ellipsis →
    (∀ h' e, (∀ c o, c ≠ z → c ≠ i → s.heap.get? c = some o → h'.get? c = some o) → StopAt h' e → E (.ref e) { s with heap := h' }) → wpAny M A (f (.ref i, j) b0) Q E s
section
variable {prog : Program} {w : World} {A : Around} {E : Value → Shared → Prop} {s : Shared}
theorem stop_all {β : Type} {M : Model} {f : Value × Nat → β → Sem (ForInStep β)} {b0 : β} {z TI TO : Addr} {Q : β → Shared → Prop} (hf : DrawOk M A f b0 TO) (hg : StopOk M A f b0 z TI TO) (k : Nat) (is : List Addr) :
    ∀ (r : List Src) (olds pre : List Value) (s : Shared), AllAt s.heap k is r → (∃ q ∈ r, q.2.2[k]? = none) → r.length = olds.length → (pre ++ olds).length ≤ 1000 → is.Nodup → TO ∉ is → z ∉ is → z ≠ TO → (∀ q ∈ r, q.2.1 ≠ TO ∧ q.2.1 ∉ is) →
      IsZip s.heap z TI TO .ellipsis → TupAt s.heap TO (pre ++ olds) →
      (∀ h' e, (∀ c o, c ≠ z → c ≠ TO → c ∉ is → s.heap.get? c = some o → h'.get? c = some o) → StopAt h' e → E (.ref e) { s with heap := h' }) →
      wpAny M A (forIn ((is.map Value.ref).zipIdx pre.length) b0 f) Q E s := by
  induction is with
  | nil =>
    intro r olds pre s ha hy _ _ _ _ _ _ _ _ _ _
    cases r with
    | cons _ _ => exact ha.elim
    | nil => obtain ⟨q, hq, _⟩ := hy; cases hq
  | cons i is ih =>
    intro r olds pre s ha hy hl hbd hn hTO hzi hzT hs hz hT hE
    cases r with
    | nil => exact ha.elim
    | cons q r =>
      obtain ⟨t, l, xs⟩ := q
      cases olds with
      | nil => cases hl
      | cons o olds =>
        have ha1 : ItK t s.heap i l k := ha.1
        have ha2 : SqK t s.heap l xs := ha.2.1
        have ha3 : AllAt s.heap k is r := ha.2.2
        rw [List.map_cons, List.zipIdx_cons, List.forIn_cons]
        have hni : i ∉ is := (List.nodup_cons.mp hn).1
        have hiT : i ≠ TO := fun e => hTO (e ▸ List.mem_cons_self)
        have hiz : i ≠ z := fun e => hzi (e ▸ List.mem_cons_self)
        have hq := hs _ List.mem_cons_self
        have hq1 : l ≠ TO := hq.1
        have hq2 : l ∉ i :: is := hq.2
        cases hx : xs[k]? with
        | none =>
          exact wpAny_bind (hg s i l t k _ xs _ _ ha1 ha2 hx hiz hz fun h' e hk he => hE h' e (fun c o c1 c2 c3 x => hk c o c1 (fun q => c3 (q ▸ List.mem_cons_self)) x) he)
        | some y =>
          have hy2 : ∃ q ∈ r, q.2.2[k]? = none := by
            obtain ⟨q, hq, e⟩ := hy
            rcases List.mem_cons.mp hq with rfl | hq
            · rw [hx] at e; cases e
            · exact ⟨q, hq, e⟩
          refine wpAny_bind (hf s i l t k xs y o pre olds _ E ha1 ha2 hx hiT hq1 (fun e => hq2 (e ▸ List.mem_cons_self)) hbd hT fun h1 hi1 hT1 hz1 hk1 => ?_)
          have e1 : pre.length + 1 = (pre ++ [y]).length := by simp
          have hT1' : TupAt h1 TO ((pre ++ [y]) ++ olds) := by
            rw [List.append_assoc]
            exact hT1
          have goal := ih r olds (pre ++ [y]) { s with heap := h1 } (ha3.at (fun j hj o e => hk1 j o (fun q => hTO (q ▸ List.mem_cons_of_mem _ hj)) (fun q => hni (q ▸ hj)) e)
            fun q hqm o e => hk1 _ o (hs q (List.mem_cons_of_mem _ hqm)).1 (fun z => (hs q (List.mem_cons_of_mem _ hqm)).2 (z ▸ List.mem_cons_self)) e) hy2 (Nat.succ.inj hl) (by simpa using hbd) (List.nodup_cons.mp hn).2 (fun z => hTO (List.mem_cons_of_mem _ z))
            (fun q => hzi (List.mem_cons_of_mem _ q)) hzT (fun q hqm => ⟨(hs q (List.mem_cons_of_mem _ hqm)).1, fun z => (hs q (List.mem_cons_of_mem _ hqm)).2 (List.mem_cons_of_mem _ z)⟩) (hk1 z _ hzT hiz.symm hz) hT1' fun h2 e hk2 he =>
              hE h2 e (fun c o c1 c2 c3 x => hk2 c o c1 c2 (fun q => c3 (List.mem_cons_of_mem _ q)) (hk1 c o c2 (fun q => c3 (q ▸ List.mem_cons_self)) x)) he
          rw [← e1] at goal
          exact goal
/-- the turn at which some sequence has come to its end -/
theorem next_stop {z TI TO : Addr} {is : List Addr} {r : List Src} {k : Nat} {olds : List Value} {Q : Fin → Shared → Prop} (hh : A.handled = none) (hne : is ≠ [])
    (hz : IsZip s.heap z TI TO .none) (hTI : TupAt s.heap TI (is.map Value.ref)) (hTO : TupAt s.heap TO olds) (ha : AllAt s.heap k is r) (hy : ∃ q ∈ r, q.2.2[k]? = none) (hlo : olds.length = is.length) (hsm : is.length ≤ 1000)
    (hnd : is.Nodup) (hzi : z ∉ is) (hTOi : TO ∉ is) (hzT : z ≠ TO) (hs : ∀ q ∈ r, q.2.1 ≠ TO ∧ q.2.1 ≠ z ∧ q.2.1 ∉ is)
    (hE : ∀ h' e, (∀ c o, c ≠ z → c ≠ TO → c ∉ is → s.heap.get? c = some o → h'.get? c = some o) → StopAt h' e → E (.ref e) { s with heap := h' }) :
    wpAny (model prog w) A (Builtin.«zip.__next__» ⟨[.ref z], []⟩) Q E s := by
  show wpAny _ _ (field (.ref z) 2 >>= _) _ _ _
  refine wpAny_bind (wpAny_field hz rfl (x := .bool false) rfl ?_)
  show wpAny _ _ (field (.ref z) 3 >>= _) _ _ _
  refine wpAny_bind (wpAny_field hz rfl (x := .ref TI) rfl ?_)
  refine wpAny_bind (wpAny_seqItems hTI rfl ?_)
  have hem : (is.map Value.ref).toArray.isEmpty = false := by
    cases is with
    | nil => exact absurd rfl hne
    | cons _ _ => simp
  simp only [hem, Bool.false_eq_true, if_false]
  refine wpAny_bind ?_
  unfold Builtin.SmallTypes.ownedTupleIsFree
  refine wpAny_bind (wpAny_field hz rfl (x := .none) rfl (wpAny_pure ?_))
  simp only [if_true]
  refine wpAny_bind (wpAny_rule ?_)
  refine wpAny_bind (wpAny_field hz rfl (x := .ref TO) rfl ?_)
  refine wpAny_bind (wpAny_setField_rec hz (by simp) fun g1 hz1 hs1 => ?_)
  replace hz1 : IsZip g1 z TI TO .ellipsis := hz1
  have up1 : ∀ c o, c ≠ z → s.heap.get? c = some o → g1.get? c = some o := fun c o c1 e => hs1.extBut _ _ c1 e
  have ha1 : AllAt g1 k is r := ha.at (fun i hi o e => up1 i o (fun q => hzi (q ▸ hi)) e) fun q hq o e => up1 _ o (hs q hq).2.1 e
  refine wpAny_bind ?_
  refine stop_all (M := model prog w) (A := A) (E := E) (b0 := (none, ())) (z := z) (TI := TI) (TO := TO) (Q := _) ?hf ?hg k is r olds [] { s with heap := g1 } ha1 hy (by rw [hlo, ha.len]) (by simpa [hlo] using hsm) hnd hTOi hzi hzT (fun q hq => ⟨(hs q hq).1, (hs q hq).2.2⟩) hz1 (up1 TO _ hzT.symm hTO)
    fun h' e hk he => hE h' e (fun c o c1 c2 c3 x => hk c o c1 c2 c3 (up1 c o c1 x)) he
  case hf =>
    intro s2 i l t k2 xs x old pre post Q2 E2 hi hl hx hiT hlT hli hbd hT2 kq
    show wpAny _ _ (((Builtin.SmallTypes.nextOf (.ref i) >>= fun v => pure (some v)).onRaise _) >>= _) _ _ _
    refine wpAny_bind (wpAny_onRaise ?_)
    refine wpAny_bind (nextOf_item hi hl hx fun g2 hi2 hs2 => wpAny_pure ?_)
    have hT3 : TupAt g2 TO (pre ++ old :: post) := hs2.extBut _ _ hiT.symm hT2
    refine wpAny_bind (wpAny_seqItems hT3 rfl ?_)
    have hb2 : (pre ++ old :: post).length ≤ sizeLine := Nat.le_trans hbd (by decide)
    refine wpAny_bind (wpAny_updateSeq hT3 rfl ?_ (by rw [List.size_toArray]; exact hb2) (by rw [Array.size_setIfInBounds, List.size_toArray]; exact Nat.le_succ_of_le hb2))
    refine wpAny_bind (wpAny_letGo (wpAny_pure ?_))
    have hup : Heap.SameBut TO g2 (g2.update TO (Obj.mapSeq fun v => v.setIfInBounds pre.length x)) := Heap.SameBut.update ..
    refine kq _ (hi2.at fun o e => hup.extBut _ _ hiT e) ?_ (hup.1.trans hs2.1) fun c o c1 c2 e => hup.extBut _ _ c1 (hs2.extBut _ _ c2 e)
    show (g2.update TO _).get? TO = _
    rw [Heap.get?_update_self _ hT3 rfl]
    simp [Obj.mapSeq, List.set_append]
  case hg =>
    intro s2 i l t k2 j xs Q2 E2 hi hl hx hiz hz2 ke
    show wpAny _ _ (((Builtin.SmallTypes.nextOf (.ref i) >>= fun v => pure (some v)).onRaise _) >>= _) _ _ _
    refine wpAny_bind (wpAny_onRaise ?_)
    refine wpAny_bind (nextOf_end hh hi hl hx fun g2 e hs2 he => ?_)
    obtain ⟨oe, hoe, hce⟩ := he
    have hz3 : IsZip g2 z TI TO .ellipsis := hs2 _ _ hiz.symm hz2
    have hez : e ≠ z := fun x => by subst x; rw [hz3] at hoe; cases hoe; simp at hce
    exact wpAny_setField_rec hz3 (by simp) fun g3 _ hs3 => ke g3 e (fun c o c1 c2 x => hs3.extBut _ _ c1 (hs2 _ _ c2 x)) ⟨oe, hs3.extBut _ _ hez hoe, hce⟩
theorem pyNext_item {z TI TO : Addr} {is : List Addr} {r : List Src} {k : Nat} {ys olds : List Value} {Q : Option Value → Shared → Prop} (hne : is ≠ [])
    (hz : IsZip s.heap z TI TO .none) (hTI : TupAt s.heap TI (is.map Value.ref)) (hTO : TupAt s.heap TO olds) (ha : AllAt s.heap k is r) (hy : Items k r ys) (hlo : olds.length = is.length) (hsm : is.length ≤ 1000)
    (hnd : is.Nodup) (hzi : z ∉ is) (hTOi : TO ∉ is) (hzT : z ≠ TO) (hs : ∀ q ∈ r, q.2.1 ≠ TO ∧ q.2.1 ≠ z ∧ q.2.1 ∉ is)
    (hQ : ∀ h', IsZip h' z TI TO (rawInt s.heap.objs.size) → TupAt h' TO ys → AllAt h' (k + 1) is r → TupAt h' s.heap.objs.size ys → h'.objs.size = s.heap.objs.size + 1 →
      (∀ c o, c ≠ z → c ≠ TO → c ∉ is → s.heap.get? c = some o → h'.get? c = some o) → Q (some (.ref s.heap.objs.size)) { s with heap := h' }) : wpAny (model prog w) A (pyNext (.ref z)) Q E s := by
  have ty : s.TypeIs (.ref z) "zip" := ⟨_, hz, rfl⟩
  unfold pyNext
  refine wpAny_bind (wpAny_attempt (wpAny_callSpecial?_slot (name := Str.ofString "__next__") ty F.slot_zip_next ?_))
  exact wpAny_call_entry F.slot_zip_next ty F.entry_zip_next (next_item hne hz hTI hTO ha hy hlo hsm hnd hzi hTOi hzT hs fun h' b1 b2 b3 b4 b5 b6 => wpAny_pure (hQ h' b1 b2 b3 b4 b5 b6)) (F.args_zip_next_1 _)
theorem pyNext_stop {z TI TO : Addr} {is : List Addr} {r : List Src} {k : Nat} {olds : List Value} {Q : Option Value → Shared → Prop} (hh : A.handled = none) (hne : is ≠ [])
    (hz : IsZip s.heap z TI TO .none) (hTI : TupAt s.heap TI (is.map Value.ref)) (hTO : TupAt s.heap TO olds) (ha : AllAt s.heap k is r) (hy : ∃ q ∈ r, q.2.2[k]? = none) (hlo : olds.length = is.length) (hsm : is.length ≤ 1000)
    (hnd : is.Nodup) (hzi : z ∉ is) (hTOi : TO ∉ is) (hzT : z ≠ TO) (hs : ∀ q ∈ r, q.2.1 ≠ TO ∧ q.2.1 ≠ z ∧ q.2.1 ∉ is)
    (hQ : ∀ h', (∀ c o, c ≠ z → c ≠ TO → c ∉ is → s.heap.get? c = some o → h'.get? c = some o) → Q none { s with heap := h' }) : wpAny (model prog w) A (pyNext (.ref z)) Q E s := by
  have ty : s.TypeIs (.ref z) "zip" := ⟨_, hz, rfl⟩
  unfold pyNext
  refine wpAny_bind (wpAny_attempt (wpAny_callSpecial?_slot (name := Str.ofString "__next__") ty F.slot_zip_next ?_))
  refine wpAny_call_entry F.slot_zip_next ty F.entry_zip_next (next_stop hh hne hz hTI hTO ha hy hlo hsm hnd hzi hTOi hzT hs fun h' e hk he => ?_) (F.args_zip_next_1 _)
  obtain ⟨o, ho, hc⟩ := he
  exact wpAny_bind (wpAny_isInstance (T := "StopIteration") (b := true) ⟨o, ho, hc⟩ isSubtype_stop (wpAny_pure (hQ _ hk)))
end
end Zn
set_option Elab.async false
set_option linter.all false
set_option maxRecDepth 100000
set_option maxHeartbeats 1000000
namespace Zn
open PySem PySem.Spec PyProof.Rows L2
open PySem.Sem (wp)
/-- the sequences stand -/
def Srcs (h : Heap) : List Src → Prop
  | [] => True
  | (t, l, xs) :: r => SqK t h l xs ∧ Srcs h r
theorem Srcs.at {h h' : Heap} : ∀ {r : List Src}, Srcs h r → (∀ q ∈ r, ∀ o, h.get? q.2.1 = some o → h'.get? q.2.1 = some o) → Srcs h' r
  | [], _, _ => trivial
  | (t, l, xs) :: r, x, e => ⟨x.1.at (e _ List.mem_cons_self), Srcs.at x.2 fun q hq => e q (List.mem_cons_of_mem _ hq)⟩
/-- the new iterators -/
def news (n : Nat) : List Src → List Addr
  | [] => []
  | _ :: r => n :: news (n + 1) r
theorem news_len (n : Nat) (r : List Src) : (news n r).length = r.length := by
  induction r generalizing n with
  | nil => rfl
  | cons q r ih => show (news (n + 1) r).length + 1 = r.length + 1; rw [ih]
theorem news_mem {r : List Src} {n i : Nat} (h : i ∈ news n r) : n ≤ i ∧ i < n + r.length := by
  induction r generalizing n with
  | nil => cases h
  | cons q r ih =>
    rcases List.mem_cons.mp h with rfl | h
    · exact ⟨Nat.le_refl _, by simp⟩
    · have := ih h
      rw [List.length_cons]
      omega
theorem news_nodup (r : List Src) (n : Nat) : (news n r).Nodup := by
  induction r generalizing n with
  | nil => exact List.nodup_nil
  | cons q r ih => exact List.nodup_cons.mpr ⟨fun h => absurd (news_mem h).1 (by omega), ih _⟩
section
variable {prog : Program} {w : World} {A : Around} {E : Value → Shared → Prop}
theorem iters_all (f : Value → Array Value → Sem (ForInStep (Array Value))) (hf : ∀ v acc, f v acc = (do let i ← holding acc.toList (pyIter v); pure (.yield (acc.push i)))) (r : List Src) :
    ∀ (acc : Array Value) (s : Shared) (Q : Array Value → Shared → Prop), Srcs s.heap r →
      (∀ h', AllAt h' 0 (news s.heap.objs.size r) r → h'.objs.size = s.heap.objs.size + r.length → (∀ c o, s.heap.get? c = some o → h'.get? c = some o) → Q (acc ++ ((news s.heap.objs.size r).map Value.ref).toArray) { s with heap := h' }) →
      wpAny (model prog w) A (forIn (r.map fun q => Value.ref q.2.1) acc f) Q E s := by
  induction r with
  | nil =>
    intro acc s Q _ hQ
    rw [List.map_nil, List.forIn_nil]
    have := hQ s.heap trivial rfl fun _ _ e => e
    exact wpAny_pure (by simpa [news] using this)
  | cons q r ih =>
    intro acc s Q hs hQ
    obtain ⟨t, l, xs⟩ := q
    have h1 : SqK t s.heap l xs := hs.1
    have h2 : Srcs s.heap r := hs.2
    rw [List.map_cons, List.forIn_cons, hf]
    refine wpAny_bind (wpAny_bind (wpAny_holding (pyIter_K h1 fun g hi hz hk => wpAny_pure ?_)))
    refine ih (acc.push (.ref s.heap.objs.size)) { s with heap := g } Q (h2.at fun q _ o e => hk _ o e) fun g2 ha hz2 hk2 => ?_
    have hz2' : g2.objs.size = g.objs.size + r.length := hz2
    have ha' : AllAt g2 0 (news g.objs.size r) r := ha
    have e : g.objs.size = s.heap.objs.size + 1 := hz
    rw [e] at ha' hz2'
    have fin := hQ g2 ⟨hi.at fun o e => hk2 _ o e, (h1.at fun o e => hk _ o e).at fun o e => hk2 _ o e, ha'⟩ (by rw [hz2', List.length_cons]; omega) fun c o x => hk2 c o (hk c o x)
    show Q _ _
    have e3 : (acc.push (Value.ref s.heap.objs.size) ++ ((news g.objs.size r).map Value.ref).toArray) = (acc ++ ((news s.heap.objs.size ((t, l, xs) :: r)).map Value.ref).toArray) := by
      rw [e]
      simp [news, Array.append_assoc]
    rw [show (({ s with heap := g } : Shared).heap) = g from rfl, e3]
    exact fin
/-- what zip(..) leaves -/
structure Made (h h' : Heap) (r : List Src) : Prop where
  zr : IsZip h' (h.objs.size + r.length + 2) (h.objs.size + r.length) (h.objs.size + r.length + 1) .none
  ti : TupAt h' (h.objs.size + r.length) ((news h.objs.size r).map Value.ref)
  to : TupAt h' (h.objs.size + r.length + 1) (r.map fun _ => Value.none)
  all : AllAt h' 0 (news h.objs.size r) r
  sz : h'.objs.size = h.objs.size + r.length + 3
  kp : ∀ c o, h.get? c = some o → h'.get? c = some o
theorem made_of {h g : Heap} {r : List Src} (ha : AllAt g 0 (news h.objs.size r) r) (hz : g.objs.size = h.objs.size + r.length) (hk : ∀ c o, h.get? c = some o → g.get? c = some o) {o1 o2 o3 : Obj}
    (e1 : o1 = { cls := .type "tuple", data := .seq ((news h.objs.size r).map Value.ref).toArray }) (e2 : o2 = { cls := .type "tuple", data := .seq (r.map fun _ => Value.none).toArray })
    (e3 : o3 = { cls := .type "zip", data := .fields #[.none, .bool false, .bool false, .ref g.objs.size, .ref (g.push o1).objs.size] }) : Made h (((g.push o1).push o2).push o3) r := by
  have s1 : (g.push o1).objs.size = g.objs.size + 1 := Heap.size_push ..
  have s2 : ((g.push o1).push o2).objs.size = g.objs.size + 2 := by rw [Heap.size_push, s1]
  have s3 : (((g.push o1).push o2).push o3).objs.size = g.objs.size + 3 := by rw [Heap.size_push, s2]
  have g1 : (((g.push o1).push o2).push o3).get? g.objs.size = some o1 := Heap.get?_push_of_some _ (Heap.get?_push_of_some _ (Heap.get?_push_size _ (by rw [e1]; rfl)))
  have g2 : (((g.push o1).push o2).push o3).get? (g.push o1).objs.size = some o2 := Heap.get?_push_of_some _ (Heap.get?_push_size _ (by rw [e2]; rfl))
  have g3 : (((g.push o1).push o2).push o3).get? ((g.push o1).push o2).objs.size = some o3 := Heap.get?_push_size _ (by rw [e3]; rfl)
  have kp : ∀ c o, g.get? c = some o → (((g.push o1).push o2).push o3).get? c = some o := fun c o e => Heap.get?_push_of_some _ (Heap.get?_push_of_some _ (Heap.get?_push_of_some _ e))
  rw [s1, hz] at g2
  rw [hz] at g1
  have e3' : o3 = { cls := .type "zip", data := .fields #[.none, .bool false, .bool false, .ref (h.objs.size + r.length), .ref (h.objs.size + r.length + 1)] } := by rw [e3, s1, hz]
  rw [s2, hz] at g3
  rw [e3] at e3'
  exact ⟨g3.trans (congrArg some (e3.trans e3')), g1.trans (congrArg some e1), g2.trans (congrArg some e2), ha.at (fun i _ o e => kp i o e) fun q _ o e => kp _ o e, by rw [s3, hz], fun c o e => kp c o (hk c o e)⟩
theorem zip_new (r : List Src) (hsm : r.length ≤ 1000) : Meets (Builtin.«zip.__new__» ⟨.type "zip" :: r.map fun q => Value.ref q.2.1, []⟩) (fun _ R s => Srcs s.heap r ∧ ∀ h', Made s.heap h' r → R (.ok (.ret (.ref (s.heap.objs.size + r.length + 2)))) { s with heap := h' }) :=
  .of_wp fun prog w A R s h => by
    obtain ⟨hs, h⟩ := h
    have hsub := sub_zip
    unfold Builtin.«zip.__new__»
    have hc : Builtin.SmallTypes.newClass "zip" ⟨.type "zip" :: r.map fun q => Value.ref q.2.1, []⟩ = pure (Value.type "zip", r.map fun q => Value.ref q.2.1) := by
      unfold Builtin.SmallTypes.newClass
      simp only [isType, sub_zip]
      rfl
    rw [hc]
    refine wpAny_bind (wpAny_pure ?_)
    dsimp only
    refine wpAny_bind ?_
    unfold Builtin.SmallTypes.iterAll
    refine wpAny_bind (iters_all _ (fun v acc => rfl) r #[] s _ hs fun g ha hz hk => wpAny_pure ?_)
    have e0 : (#[] ++ ((news s.heap.objs.size r).map Value.ref).toArray).toList = (news s.heap.objs.size r).map Value.ref := by simp
    rw [e0]
    have lsz : r.length ≤ sizeLine := Nat.le_trans hsm (by decide)
    refine wpAny_bind (wpAny_newTuple ?_ (by rw [List.length_map, news_len]; exact lsz))
    refine wpAny_bind (wpAny_newTuple ?_ (by rw [List.length_map, List.length_map, news_len]; exact lsz))
    refine wpAny_bind ?_
    show wpAny _ _ (newObj (.type "zip") (.fields #[.none, .bool false, .bool false, _, _])) _ _ _
    refine wpAny_newObj_type ?_
    refine wpAny_pure ⟨_, rfl, ?_⟩
    have nn : ((news s.heap.objs.size r).map Value.ref).map (fun _ => Value.none) = r.map fun _ => Value.none := by
      rw [List.map_map]
      refine List.ext_getElem (by simp [news_len]) fun i _ _ => by simp
    have z1 : g.objs.size = s.heap.objs.size + r.length := hz
    have fin := h _ (made_of ha hz hk rfl rfl rfl)
    have zz : ∀ o1 o2 : Obj, ((g.push o1).push o2).objs.size = s.heap.objs.size + r.length + 2 := fun o1 o2 => by rw [Heap.size_push, Heap.size_push, z1]
    show R (.ok (.ret (.ref ((g.push _).push _).objs.size))) _
    rw [zz, nn]
    exact fin
end
end Zn
set_option Elab.async false
set_option linter.all false
set_option maxRecDepth 100000
set_option maxHeartbeats 1000000
namespace Zn
open PySem PySem.Spec PyProof.Rows L2
open PySem.Sem (wp)
/-- the iterators alone -/
def ItsAt (h : Heap) (k : Nat) : List Addr → List (Bool × Addr) → Prop
  | [], [] => True
  | i :: is, (t, l) :: r => ItK t h i l k ∧ ItsAt h k is r
  | _, _ => False
theorem ItsAt.at {h h' : Heap} {k : Nat} : ∀ {is : List Addr} {r : List (Bool × Addr)}, ItsAt h k is r → (∀ i ∈ is, ∀ o, h.get? i = some o → h'.get? i = some o) → ItsAt h' k is r
  | [], [], _, _ => trivial
  | i :: is, (t, l) :: r, x, e1 => ⟨x.1.at (e1 i List.mem_cons_self), ItsAt.at x.2 (fun j hj => e1 j (List.mem_cons_of_mem _ hj))⟩
theorem ItsAt.ob {h : Heap} {k : Nat} : ∀ {is : List Addr} {r : List (Bool × Addr)}, ItsAt h k is r → ∀ i ∈ is, ∃ o l, h.get? i = some o ∧ o.data = .fields #[.ref l, .int k 0]
  | i :: is, (t, l) :: r, x, j, hj => by
    rcases List.mem_cons.mp hj with rfl | hj
    · obtain ⟨o, ho, _, hd⟩ := x.1.rec_
      exact ⟨o, l, ho, hd⟩
    · exact ItsAt.ob x.2 j hj
theorem ItsAt.len {h : Heap} {k : Nat} : ∀ {is : List Addr} {r : List (Bool × Addr)}, ItsAt h k is r → is.length = r.length
  | [], [], _ => rfl
  | _ :: _, _ :: _, x => by rw [List.length_cons, List.length_cons, ItsAt.len x.2]
def bare (r : List Src) : List (Bool × Addr) := r.map fun q => (q.1, q.2.1)
theorem AllAt.its {h : Heap} {k : Nat} : ∀ {is : List Addr} {r : List Src}, AllAt h k is r → ItsAt h k is (bare r)
  | [], [], _ => trivial
  | _ :: _, (_, _, _) :: _, x => ⟨x.1, AllAt.its x.2.2⟩
theorem allAt_of {h : Heap} {k : Nat} : ∀ {is : List Addr} {r : List Src}, ItsAt h k is (bare r) → Srcs h r → AllAt h k is r
  | [], [], _, _ => trivial
  | _ :: _, (_, _, _) :: _, x, y => ⟨x.1, y.1, allAt_of x.2 y.2⟩
def SqV (K : PySem.W.Frag) (H : Hp) (t : Bool) (a : Addr) (xs : List V) : Prop := cond t (SqT K H a xs) (SqL K H a xs)
/-- what stands at the i-th places -/
def RowAt (K : PySem.W.Frag) (H : Hp) (i : Nat) : List (Bool × Addr) → List V → Prop
  | [], [] => True
  | (t, a) :: r, y :: ys => (∃ xs, SqV K H t a xs ∧ xs[i]? = some y) ∧ RowAt K H i r ys
  | _, _ => False
def AllSq (K : PySem.W.Frag) (H : Hp) (src : List (Bool × Addr)) : Prop := ∀ q ∈ src, ∃ xs, SqV K H q.1 q.2 xs
def Itn (K : PySem.W.Frag) (src : List (Bool × Addr)) : It :=
  ⟨fun i H => ∃ ys, RowAt K H i src ys, fun i H v H' => ∃ T ys, v = .ref T ∧ H T = none ∧ H' = upd H T (.tup ys) ∧ ∀ zs, RowAt K H i src zs → zs = ys,
    fun i H => AllSq K H src ∧ ∃ q ∈ src, ∃ xs, SqV K H q.1 q.2 xs ∧ xs.length ≤ i⟩
section
variable {X : Cx} {pins : List (Addr × Obj)} {σ : L2.St} {H : Hp} {s : Shared}
theorem sqv_ob (I : Inv X pins σ H s) {t : Bool} {a : Addr} {xs : List V} (h : SqV X.K H t a xs) : ∃ its : List Value, Vals xs its ∧ SqK t s.heap a its.toArray ∧ xs.length ≤ sizeLine := by
  cases t with
  | true =>
    obtain ⟨its, r, p, z⟩ := I.tuple h
    exact ⟨its, r, p, z⟩
  | false =>
    obtain ⟨its, r, p, z⟩ := I.list h
    exact ⟨its, r, p.isList, z⟩
theorem sqv_inj (I : Inv X pins σ H s) {t : Bool} {a : Addr} {xs ys : List V} (h : SqV X.K H t a xs) (h' : SqV X.K H t a ys) : xs = ys := by
  cases t with
  | true => exact I.tuple_inj h h'
  | false => exact I.list_inj h h'
theorem row_inj (I : Inv X pins σ H s) {i : Nat} : ∀ {src : List (Bool × Addr)} {ys zs : List V}, RowAt X.K H i src ys → RowAt X.K H i src zs → zs = ys
  | [], [], [], _, _ => rfl
  | (t, a) :: r, y :: ys, z :: zs, h1, h2 => by
    obtain ⟨⟨xs, q1, e1⟩, h1⟩ := h1
    obtain ⟨⟨xs', q2, e2⟩, h2⟩ := h2
    have e := sqv_inj I q1 q2
    subst e
    rw [e1] at e2
    cases e2
    rw [row_inj I h1 h2]
theorem row_ob (I : Inv X pins σ H s) {i : Nat} : ∀ {src : List (Bool × Addr)} {ys : List V}, RowAt X.K H i src ys → ∃ (r : List Src) (us : List Value), bare r = src ∧ Srcs s.heap r ∧ Items i r us ∧ Vals ys us
  | [], [], _ => ⟨[], [], rfl, trivial, trivial, .nil⟩
  | (t, a) :: src, y :: ys, h => by
    obtain ⟨⟨xs, q, e⟩, h⟩ := h
    obtain ⟨its, rv, p, _⟩ := sqv_ob I q
    obtain ⟨u, hu, ru⟩ := rv.get e
    obtain ⟨r, us, e1, e2, e3, e4⟩ := row_ob I h
    exact ⟨(t, a, its.toArray) :: r, u :: us, by unfold bare at e1 ⊢; rw [List.map_cons, e1], ⟨p, e2⟩, ⟨by simpa using hu, e3⟩, .cons ru e4⟩
theorem all_ob (I : Inv X pins σ H s) : ∀ {src : List (Bool × Addr)}, AllSq X.K H src → ∃ r : List Src, bare r = src ∧ Srcs s.heap r ∧ ∀ q ∈ src, ∀ xs, SqV X.K H q.1 q.2 xs → ∃ p ∈ r, p.2.2.size = xs.length
  | [], _ => ⟨[], rfl, trivial, fun q hq => by cases hq⟩
  | (t, a) :: src, h => by
    obtain ⟨xs, q⟩ := h _ List.mem_cons_self
    obtain ⟨its, rv, p, _⟩ := sqv_ob I q
    obtain ⟨r, e1, e2, e3⟩ := all_ob I (src := src) fun q hq => h q (List.mem_cons_of_mem _ hq)
    refine ⟨(t, a, its.toArray) :: r, by unfold bare at e1 ⊢; rw [List.map_cons, e1], ⟨p, e2⟩, fun q' hq' ys hy => ?_⟩
    rcases List.mem_cons.mp hq' with rfl | hq'
    · refine ⟨_, List.mem_cons_self, ?_⟩
      have e := sqv_inj I q hy
      subst e
      have := rv.length
      simp [this]
    · obtain ⟨p', hp', e'⟩ := e3 q' hq' ys hy
      exact ⟨p', List.mem_cons_of_mem _ hp', e'⟩
end
/-- the iterator's own objects are apart -/
structure Apart (z TI TO : Addr) (is : List Addr) (src : List (Bool × Addr)) : Prop where
  nd : is.Nodup
  zi : z ∉ is
  ti : TI ∉ is
  oi : TO ∉ is
  zT : z ≠ TO
  zI : z ≠ TI
  TT : TI ≠ TO
  sr : ∀ q ∈ src, q.2 ≠ TO ∧ q.2 ≠ z ∧ q.2 ≠ TI ∧ q.2 ∉ is
  ne : is ≠ []
  sm : is.length ≤ 1000
def ZTn (z TI TO : Addr) (is : List Addr) (src : List (Bool × Addr)) (i : Nat) (h : Heap) : Prop :=
  IsZip h z TI TO .none ∧ TupAt h TI (is.map Value.ref) ∧ (∃ olds : List Value, olds.length = is.length ∧ TupAt h TO olds) ∧ ItsAt h i is src
theorem bare_mem {r : List Src} {q : Src} (h : q ∈ r) : (q.1, q.2.1) ∈ bare r := List.mem_map.mpr ⟨q, h, rfl⟩
/-- zip over any number of sequences, unpacked at once -/
theorem turn_n {P : Program} {w : World} {K : PySem.W.Frag} {elts : List Expr} {kk : Nat} {tpos : Pos} {z TI TO : Addr} {is : List Addr} {src : List (Bool × Addr)} (D : Apart z TI TO is src) :
    Turn P w K (.Tuple elts kk tpos) (Itn K src) (z :: TI :: TO :: is) z (ZTn z TI TO is src) where
  mem := List.mem_cons_self
  obj := fun i h st c hc => by
    obtain ⟨hz, hTI, ⟨olds, _, hTO⟩, hi⟩ := st
    rcases List.mem_cons.mp hc with rfl | hc
    · exact ⟨_, hz, fun v q => nomatch q⟩
    rcases List.mem_cons.mp hc with rfl | hc
    · exact ⟨_, hTI, fun v q => nomatch q⟩
    rcases List.mem_cons.mp hc with rfl | hc
    · exact ⟨_, hTO, fun v q => nomatch q⟩
    obtain ⟨o, l, e, d⟩ := hi.ob c hc
    exact ⟨o, e, fun v q => by rw [d] at q; cases q⟩
  keep := fun i h h' st k => by
    obtain ⟨hz, hTI, ⟨olds, hl, hTO⟩, hi⟩ := st
    exact ⟨k z List.mem_cons_self _ hz, k TI (by simp) _ hTI, ⟨olds, hl, k TO (by simp) _ hTO⟩, hi.at fun j hj o e => k j (by simp [hj]) o e⟩
  item := by
    intro X hP hw hK hc i pins s σ H E I hf st hg
    subst hP hw hK
    obtain ⟨hz, hTI, ⟨olds, hol, hTO⟩, hi⟩ := st
    obtain ⟨ys, hrow⟩ := hg
    obtain ⟨r, us, e1, e2, e3, e4⟩ := row_ob I hrow
    subst e1
    have hzl : z < s.heap.objs.size := Heap.lt_size hz
    have ha := allAt_of hi e2
    have hys : ys.length ≤ 1000 := by rw [e4.length, ← e3.len, ← ha.len]; exact D.sm
    have hpart : ∀ c ∈ z :: TI :: TO :: is, c < s.heap.objs.size := fun c hcm => by
      rcases List.mem_cons.mp hcm with rfl | hcm
      · exact hzl
      rcases List.mem_cons.mp hcm with rfl | hcm
      · exact Heap.lt_size hTI
      rcases List.mem_cons.mp hcm with rfl | hcm
      · exact Heap.lt_size hTO
      exact ha.lt c hcm
    refine pyNext_item D.ne hz hTI hTO ha e3 hol D.sm D.nd D.zi D.oi D.zT (fun q hq => ⟨(D.sr _ (bare_mem hq)).1, (D.sr _ (bare_mem hq)).2.1, (D.sr _ (bare_mem hq)).2.2.2⟩) fun g z1 TO1 a1 T1 sz1 k1 => ?_
    refine ⟨_, rfl, wpAny_letOwnedTupleGo_zip (s := { s with heap := g }) z1 fun g2 z2 sb => ?_⟩
    have T2 : g2.get? s.heap.objs.size = some { cls := .type "tuple", data := .seq us.toArray } := (sb.2 _ (Nat.ne_of_gt hzl)).trans T1
    have new : ObjOk X.prog X.w (upd H s.heap.objs.size (.tup ys)) g2 s.heap.objs.size (.tup ys) := ⟨Nat.le_trans hys (by decide), us, e4, ⟨_, T2, rfl, _, rfl⟩⟩
    have I1 : Inv X pins σ (upd H s.heap.objs.size (.tup ys)) { s with heap := g2 } :=
      I.turnedNew (t' := s.toks) (ch := z :: TI :: TO :: is) (fun c o hb q => (sb.2 c (fun q' => hb (by simp [q']))).trans (k1 c o (fun q' => hb (by simp [q'])) (fun q' => hb (by simp [q'])) (fun q' => hb (by simp [q'])) q)) hf (Nat.le_refl _) new
    refine ⟨.ref s.heap.objs.size, _, I1, rfl, ⟨_, ys, rfl, I.hok.fresh (Nat.le_refl _), rfl, fun zs hzs => row_inj I hrow hzs⟩, ⟨z2, ?_, ⟨us, ?_, ?_⟩, ?_⟩, fun c hcm => ?_⟩
    · exact (sb.2 _ D.zI.symm).trans (k1 _ _ D.zI.symm D.TT D.ti hTI)
    · rw [ha.len, e3.len]
    · exact (sb.2 _ D.zT.symm).trans TO1
    · exact a1.its.at fun j hj o q => (sb.2 _ (fun e => D.zi (e ▸ hj))).trans q
    · rw [upd_ne (Nat.ne_of_lt (hpart c hcm))]
      exact (hf c hcm).1
  done := by
    intro X hP hw hK hc i pins s σ H E I hf st hg
    subst hP hw hK
    obtain ⟨hz, hTI, ⟨olds, hol, hTO⟩, hi⟩ := st
    obtain ⟨hall, q, hq, xs, hqx, hle⟩ := hg
    obtain ⟨r, e1, e2, e3⟩ := all_ob I hall
    subst e1
    have ha := allAt_of hi e2
    obtain ⟨p, hp, hps⟩ := e3 q hq xs hqx
    exact pyNext_stop (I.ok.hd hc) D.ne hz hTI hTO ha ⟨p, hp, by rw [Array.getElem?_eq_none_iff]; omega⟩ hol D.sm D.nd D.zi D.oi D.zT (fun q hq => ⟨(D.sr _ (bare_mem hq)).1, (D.sr _ (bare_mem hq)).2.1, (D.sr _ (bare_mem hq)).2.2.2⟩)
      fun g hk => ⟨rfl, I.turnedL (t' := s.toks) (ch := z :: TI :: TO :: is) (fun c o hb q => hk c o (fun q' => hb (by simp [q'])) (fun q' => hb (by simp [q'])) (fun q' => hb (by simp [q'])) q) hf⟩
  self := fun A i s Q E st h => wpAny_pyIter_zip st.1 h
end Zn
set_option Elab.async false
set_option linter.all false
set_option maxRecDepth 100000
set_option maxHeartbeats 1000000
namespace Zn
open PySem PySem.Spec PyProof.Rows L2
open PySem.Sem (wp)
theorem tc1 (a : Value) : checkTypeCall "zip" ⟨[a], []⟩ = pure () := by kernel_rfl
theorem tc3 (a b c : Value) : checkTypeCall "zip" ⟨[a, b, c], []⟩ = pure () := by kernel_rfl
theorem nc1 (a : Value) : checkBuiltinCall "zip.__new__" ⟨[.type "zip", a], []⟩ = pure () := by kernel_rfl
theorem nc3 (a b c : Value) : checkBuiltinCall "zip.__new__" ⟨[.type "zip", a, b, c], []⟩ = pure () := by kernel_rfl
theorem tcn : ∀ {l : List Value}, 0 < l.length → l.length ≤ 3 → checkTypeCall "zip" ⟨l, []⟩ = pure ()
  | [a], _, _ => tc1 a
  | [a, b], _, _ => F.typeCall_zip_2 a b
  | [a, b, c], _, _ => tc3 a b c
theorem ncn : ∀ {l : List Value}, 0 < l.length → l.length ≤ 3 → checkBuiltinCall "zip.__new__" ⟨.type "zip" :: l, []⟩ = pure ()
  | [a], _, _ => nc1 a
  | [a, b], _, _ => F.newCall_zip_2 a b
  | [a, b, c], _, _ => nc3 a b c
theorem oi1 (a b : Value) : argsOk "object.__init__" ⟨[a, b], []⟩ := by
  unfold argsOk; rw [signature?_of (id := "object.__init__") (n := ['_', '_', 't', 'i', 'n', 'i', '_', '_']) (o := ['t', 'c', 'e', 'j', 'b', 'o']) (by kernel_rfl) F.owner_object]; kernel_rfl
theorem oi3 (a b c d : Value) : argsOk "object.__init__" ⟨[a, b, c, d], []⟩ := by
  unfold argsOk; rw [signature?_of (id := "object.__init__") (n := ['_', '_', 't', 'i', 'n', 'i', '_', '_']) (o := ['t', 'c', 'e', 'j', 'b', 'o']) (by kernel_rfl) F.owner_object]; kernel_rfl
theorem oin : ∀ {l : List Value}, 0 < l.length → l.length ≤ 3 → ∀ obj, argsOk "object.__init__" ⟨obj :: l, []⟩
  | [a], _, _ => fun o => oi1 o a
  | [a, b], _, _ => fun o => F.args_object_init_3 o a b
  | [a, b, c], _, _ => fun o => oi3 o a b c
section
variable {prog : Program} {w : World} {A : Around} {E : Value → Shared → Prop} {s : Shared}
theorem call_zipN {r : List Src} {Q : Value → Shared → Prop} (h0 : 0 < r.length) (h3 : r.length ≤ 3) (hs : Srcs s.heap r) (h : ∀ h', Made s.heap h' r → Q (.ref (s.heap.objs.size + r.length + 2)) { s with heap := h' }) :
    wpAny (model prog w) A (call (.type "zip") (r.map fun q => Value.ref q.2.1)) Q E s :=
  callType_new F.called_zip (by decide) (tcn (by simpa using h0) (by simpa using h3)) (ncn (by simpa using h0) (by simpa using h3)) (oin (by simpa using h0) (by simpa using h3)) F.entry_zip_new
    (zip_new r (by omega)) ⟨hs, fun h' m => ⟨⟨_, m.zr, rfl⟩, h h' m⟩⟩
end
theorem srcs_lt {h : Heap} : ∀ {r : List Src}, Srcs h r → ∀ q ∈ r, q.2.1 < h.objs.size
  | (t, l, xs) :: r, x, q, hq => by
    rcases List.mem_cons.mp hq with rfl | hq
    · exact x.1.lt
    · exact srcs_lt x.2 q hq
theorem nA (n r : Nat) : n + r + 2 ≠ n + r + 1 := by omega
theorem nB (n r : Nat) : n + r + 2 ≠ n + r := by omega
theorem nC (n r : Nat) : n + r ≠ n + r + 1 := by omega
theorem nD {n r l : Nat} (k : Nat) (h : l < n) : l ≠ n + r + k := by omega
theorem nE {n r l : Nat} (h : l < n) : l ≠ n + r := by omega
theorem nF {n l : Nat} (h : l < n) (h2 : n ≤ l) : False := by omega
theorem nG {n r : Nat} (k : Nat) (h : n + r + k < n + r) : False := by omega
theorem nH {n r : Nat} (h : n + r < n + r) : False := by omega
theorem made_apart {h h' : Heap} {r : List Src} (m : Made h h' r) (hs : Srcs h r) (h0 : 0 < r.length) (h3 : r.length ≤ 1000) :
    Apart (h.objs.size + r.length + 2) (h.objs.size + r.length) (h.objs.size + r.length + 1) (news h.objs.size r) (bare r) where
  nd := news_nodup r _
  zi := fun q => nG 2 (news_mem q).2
  ti := fun q => nH (news_mem q).2
  oi := fun q => nG 1 (news_mem q).2
  zT := nA _ _
  zI := nB _ _
  TT := nC _ _
  sr := fun q hq => by
    obtain ⟨p, hp, rfl⟩ := List.mem_map.mp hq
    have hl := srcs_lt hs p hp
    exact ⟨nD 1 hl, nD 2 hl, nE hl, fun z => nF hl (news_mem z).1⟩
  ne := fun z => by
    have := news_len h.objs.size r
    rw [z] at this
    have : (0 : Nat) = r.length := this
    omega
  sm := by rw [news_len]; exact h3
section
variable {X : Cx}
def kRefs (src : List (Bool × Addr)) : List V := src.map fun q => V.ref q.2
/-- the sequences of the abstract heap, as they stand -/
theorem srcs_of {pins : List (Addr × Obj)} {σ : L2.St} {H : Hp} {s : Shared} (I : Inv X pins σ H s) {src : List (Bool × Addr)} (h : AllSq X.K H src) : ∃ r : List Src, bare r = src ∧ Srcs s.heap r :=
  let ⟨r, e1, e2, _⟩ := all_ob I h; ⟨r, e1, e2⟩
theorem vals_refs : ∀ {src : List (Bool × Addr)} {us : List Value}, Vals (kRefs src) us → us = src.map fun q => Value.ref q.2
  | [], [], .nil => rfl
  | (t, a) :: r, u :: us, .cons ru t' => by
    have e : u = Value.ref a := ru
    rw [e, vals_refs t', List.map_cons]
/-- an iterator over the zip of 1 to 3 sequences has come -/
theorem zip_come {pins : List (Addr × Obj)} {σ : L2.St} {H : Hp} {s : Shared} {us : List Value} {R : It → Hp → Prop} {elts : List Expr} {kk : Nat} {tpos : Pos} {E : Value → Shared → Prop} (I : Inv X pins σ H s) {src : List (Bool × Addr)} (rv : Vals (kRefs src) us)
    (h0 : 0 < src.length) (h3 : src.length ≤ 3) (ha : AllSq X.K H src) (q : R (Itn X.K src) H) :
    wpAny (model X.prog X.w) X.A (call (.type "zip") us) (fun v s1 => wpAny (model X.prog X.w) X.A (pyIter v) (PIE X pins σ (.Tuple elts kk tpos) R) E s1) E s := by
  obtain ⟨r, e1, e2⟩ := srcs_of I ha
  have e3 := vals_refs rv
  subst e1
  have hl : (bare r).length = r.length := List.length_map ..
  rw [hl] at h0 h3
  have e4 : us = r.map fun q => Value.ref q.2.1 := by rw [e3]; unfold bare; rw [List.map_map]; rfl
  rw [e4]
  refine call_zipN h0 h3 e2 fun g m => wpAny_pyIter_zip m.zr ?_
  have I2 : Inv X pins σ H { s with heap := g } := I.kept (t' := s.toks) m.kp
  refine ⟨_, _, _, _, H, rfl, I2, turn_n (made_apart m e2 h0 (by omega)), ⟨m.zr, m.ti, ⟨_, ?_, m.to⟩, m.all.its⟩, fun c hcm => ?_, q⟩
  · rw [List.length_map, news_len]
  · have hle : s.heap.objs.size ≤ c := by
      rcases List.mem_cons.mp hcm with rfl | hcm
      · exact Nat.le_add_right_of_le (Nat.le_add_right ..)
      rcases List.mem_cons.mp hcm with rfl | hcm
      · exact Nat.le_add_right ..
      rcases List.mem_cons.mp hcm with rfl | hcm
      · exact Nat.le_add_right_of_le (Nat.le_add_right ..)
      exact (news_mem hcm).1
    exact I.fpOk hle (I.hok.fresh hle)
def iZn (K : PySem.W.Frag) (ta : TA) : TI := fun σ H R => ta σ H fun vs H1 => ∃ src : List (Bool × Addr), vs = kRefs src ∧ 0 < src.length ∧ src.length ≤ 3 ∧ AllSq K H1 src ∧ R (Itn K src) H1
/-- for a, b in zip(x, y): lists and tuples, mixed -/
theorem pi_zipn {e : Expr} {es : List Expr} {ta : TA} {p pos tpos : Pos} {elts : List Expr} {kk : Nat} (hg : Gl X "zip") (hm : X.mg "zip" = none) (ha : PA X (e :: es) ta)
    (hs : starEach (e :: es) X.env = (false, eval e X.env) :: starEach es X.env := by rfl) (hpl : (backTo pos (starEach es X.env)).any (·.1) = false := by rfl) :
    PI X (.Tuple elts kk tpos) (.Call (.Name "zip" p) (e :: es) [] pos) (iZn X.K ta) := by
  refine ⟨fun pins s σ H R I h => ?_⟩
  refine Call_ (ld_blt I hg hm PyProof.Rows.boot_zip (PyProof.Rows.callWith_type1 (thn (ha.run pos pins s σ H _ I h) fun us s1 ⟨vs, H1, I1, r1, q1⟩ => ?_) hs hpl))
  obtain ⟨src, rfl, h0, h3, hq, q⟩ := q1
  exact zip_come I1 r1 h0 h3 hq q
end
end Zn
set_option Elab.async false
set_option linter.all false
set_option maxRecDepth 100000
set_option maxHeartbeats 1000000
namespace Zs
open PySem PySem.Spec PyProof.Rows L2 Zn
open PySem.Sem (wp)
abbrev ZipB (h : Heap) (z TI TO : Addr) (f0 : Value) (b : Bool) : Prop :=
  h.get? z = some { cls := .type "zip", dict := none, data := .fields #[f0, .bool b, .bool false, .ref TI, .ref TO], slots := #[] }
/-- none was handed out yet, or one was -/
def Own (f0 : Value) : Prop := f0 = .none ∨ ∃ T : Addr, f0 = rawInt T
/-- an exhausted sequence ends the loop's body -/
def StopOkB (M : Model) (A : Around) {β : Type} (f : Value × Nat → β → Sem (ForInStep β)) (b0 : β) (z TI TO : Addr) (b : Bool) : Prop :=
  ∀ (s : Shared) (i l : Addr) (t : Bool) (k j : Nat) (xs : Array Value) (Q : ForInStep β → Shared → Prop) (E : Value → Shared → Prop), ItK t s.heap i l k → SqK t s.heap l xs → xs[k]? = none → i ≠ z → ZipB s.heap z TI TO .ellipsis b →
    (∀ h' e, (∀ c o, c ≠ z → c ≠ i → s.heap.get? c = some o → h'.get? c = some o) → StopAt h' e → E (.ref e) { s with heap := h' }) → wpAny M A (f (.ref i, j) b0) Q E s
section
variable {prog : Program} {w : World} {A : Around} {E : Value → Shared → Prop} {s : Shared}
theorem stop_allB {β : Type} {M : Model} {f : Value × Nat → β → Sem (ForInStep β)} {b0 : β} {z TI TO : Addr} {b : Bool} {Q : β → Shared → Prop} (hf : DrawOk M A f b0 TO) (hg : StopOkB M A f b0 z TI TO b) (k : Nat) (is : List Addr) :
    ∀ (r : List Src) (olds pre : List Value) (s : Shared), AllAt s.heap k is r → (∃ q ∈ r, q.2.2[k]? = none) → r.length = olds.length → (pre ++ olds).length ≤ 1000 → is.Nodup → TO ∉ is → z ∉ is → z ≠ TO → (∀ q ∈ r, q.2.1 ≠ TO ∧ q.2.1 ∉ is) →
      ZipB s.heap z TI TO .ellipsis b → TupAt s.heap TO (pre ++ olds) →
      (∀ h' e, (∀ c o, c ≠ z → c ≠ TO → c ∉ is → s.heap.get? c = some o → h'.get? c = some o) → StopAt h' e → E (.ref e) { s with heap := h' }) →
      wpAny M A (forIn ((is.map Value.ref).zipIdx pre.length) b0 f) Q E s := by
  induction is with
  | nil =>
    intro r olds pre s ha hy _ _ _ _ _ _ _ _ _ _
    cases r with
    | cons _ _ => exact ha.elim
    | nil => obtain ⟨q, hq, _⟩ := hy; cases hq
  | cons i is ih =>
    intro r olds pre s ha hy hl hbd hn hTO hzi hzT hs hz hT hE
    cases r with
    | nil => exact ha.elim
    | cons q r =>
      obtain ⟨t, l, xs⟩ := q
      cases olds with
      | nil => cases hl
      | cons o olds =>
        have ha1 : ItK t s.heap i l k := ha.1
        have ha2 : SqK t s.heap l xs := ha.2.1
        have ha3 : AllAt s.heap k is r := ha.2.2
        rw [List.map_cons, List.zipIdx_cons, List.forIn_cons]
        have hni : i ∉ is := (List.nodup_cons.mp hn).1
        have hiT : i ≠ TO := fun e => hTO (e ▸ List.mem_cons_self)
        have hiz : i ≠ z := fun e => hzi (e ▸ List.mem_cons_self)
        have hq := hs _ List.mem_cons_self
        have hq1 : l ≠ TO := hq.1
        have hq2 : l ∉ i :: is := hq.2
        cases hx : xs[k]? with
        | none =>
          exact wpAny_bind (hg s i l t k _ xs _ _ ha1 ha2 hx hiz hz fun h' e hk he => hE h' e (fun c o c1 c2 c3 x => hk c o c1 (fun q => c3 (q ▸ List.mem_cons_self)) x) he)
        | some y =>
          have hy2 : ∃ q ∈ r, q.2.2[k]? = none := by
            obtain ⟨q, hq, e⟩ := hy
            rcases List.mem_cons.mp hq with rfl | hq
            · rw [hx] at e; cases e
            · exact ⟨q, hq, e⟩
          refine wpAny_bind (hf s i l t k xs y o pre olds _ E ha1 ha2 hx hiT hq1 (fun e => hq2 (e ▸ List.mem_cons_self)) hbd hT fun h1 hi1 hT1 hz1 hk1 => ?_)
          have e1 : pre.length + 1 = (pre ++ [y]).length := by simp
          have hT1' : TupAt h1 TO ((pre ++ [y]) ++ olds) := by
            rw [List.append_assoc]
            exact hT1
          have goal := ih r olds (pre ++ [y]) { s with heap := h1 } (ha3.at (fun j hj o e => hk1 j o (fun q => hTO (q ▸ List.mem_cons_of_mem _ hj)) (fun q => hni (q ▸ hj)) e)
            fun q hqm o e => hk1 _ o (hs q (List.mem_cons_of_mem _ hqm)).1 (fun z => (hs q (List.mem_cons_of_mem _ hqm)).2 (z ▸ List.mem_cons_self)) e) hy2 (Nat.succ.inj hl) (by simpa using hbd) (List.nodup_cons.mp hn).2 (fun z => hTO (List.mem_cons_of_mem _ z))
            (fun q => hzi (List.mem_cons_of_mem _ q)) hzT (fun q hqm => ⟨(hs q (List.mem_cons_of_mem _ hqm)).1, fun z => (hs q (List.mem_cons_of_mem _ hqm)).2 (List.mem_cons_of_mem _ z)⟩) (hk1 z _ hzT hiz.symm hz) hT1' fun h2 e hk2 he =>
              hE h2 e (fun c o c1 c2 c3 x => hk2 c o c1 c2 (fun q => c3 (List.mem_cons_of_mem _ q)) (hk1 c o c2 (fun q => c3 (q ▸ List.mem_cons_self)) x)) he
          rw [← e1] at goal
          exact goal
theorem alive {a : Addr} {Q : Option Obj → Shared → Prop} (h : Q (s.heap.get? a) s) : wpAny (model prog w) A (loadIfAlive a) Q E s := fun Γ p hΓ => by
  unfold loadIfAlive
  rw [Sem.wp_loadIfAlive]
  exact wpAny_pure h Γ p hΓ
/-- is it free: either answer, the record then with that mark -/
theorem is_free {z TI TO : Addr} {f0 : Value} {b : Bool} {Q : Bool → Shared → Prop} (ow : Own f0) (hz : ZipB s.heap z TI TO f0 b)
    (h1 : Q true s) (h2 : ∀ h', ZipB h' z TI TO f0 true → Heap.SameBut z s.heap h' → Q false { s with heap := h' }) :
    wpAny (model prog w) A (Builtin.SmallTypes.ownedTupleIsFree (.ref z)) Q E s := by
  unfold Builtin.SmallTypes.ownedTupleIsFree
  rcases ow with rfl | ⟨T, rfl⟩
  · exact wpAny_bind (wpAny_field hz rfl (x := .none) rfl (wpAny_pure h1))
  · refine wpAny_bind (wpAny_field hz rfl (x := rawInt T) rfl ?_)
    show wpAny _ _ (loadIfAlive _ >>= _) _ _ _
    refine wpAny_bind (alive ?_)
    cases e : s.heap.get? (Int.toNat (T : Int)) with
    | none => exact wpAny_pure h1
    | some o =>
      show wpAny _ _ (field (.ref z) 1 >>= _) _ _ _
      refine wpAny_bind (wpAny_field hz rfl (x := .bool b) rfl ?_)
      cases b with
      | true => exact wpAny_pure (h2 s.heap hz ⟨rfl, fun _ _ => rfl⟩)
      | false =>
        show wpAny _ _ (setField (.ref z) 1 (.bool true) >>= _) _ _ _
        exact wpAny_bind (wpAny_setField_rec hz (by simp) fun g hg hs => wpAny_pure (h2 g hg hs))
/-- drawing one after another into a new array -/
def Draw2 (M : Model) (A : Around) (f : Value → (Option Fin × Array Value) → Sem (ForInStep (Option Fin × Array Value))) : Prop :=
  ∀ (s : Shared) (i l : Addr) (t : Bool) (k : Nat) (xs : Array Value) (x : Value) (acc : Array Value) (Q : ForInStep (Option Fin × Array Value) → Shared → Prop) (E : Value → Shared → Prop), ItK t s.heap i l k → SqK t s.heap l xs → xs[k]? = some x →
    (∀ h', ItK t h' i l (k + 1) → h'.objs.size = s.heap.objs.size → (∀ c o, c ≠ i → s.heap.get? c = some o → h'.get? c = some o) → Q (.yield (none, acc.push x)) { s with heap := h' }) → wpAny M A (f (.ref i) (none, acc)) Q E s
def Stop2 (M : Model) (A : Around) (f : Value → (Option Fin × Array Value) → Sem (ForInStep (Option Fin × Array Value))) : Prop :=
  ∀ (s : Shared) (i l : Addr) (t : Bool) (k : Nat) (xs : Array Value) (acc : Array Value) (Q : ForInStep (Option Fin × Array Value) → Shared → Prop) (E : Value → Shared → Prop), ItK t s.heap i l k → SqK t s.heap l xs → xs[k]? = none →
    (∀ h' e, (∀ c o, c ≠ i → s.heap.get? c = some o → h'.get? c = some o) → StopAt h' e → E (.ref e) { s with heap := h' }) → wpAny M A (f (.ref i) (none, acc)) Q E s
theorem draws2 {M : Model} {f : Value → (Option Fin × Array Value) → Sem (ForInStep (Option Fin × Array Value))} {Q : (Option Fin × Array Value) → Shared → Prop} (hf : Draw2 M A f) (k : Nat) (is : List Addr) :
    ∀ (r : List Src) (ys : List Value) (acc : Array Value) (s : Shared), AllAt s.heap k is r → Items k r ys → is.Nodup → (∀ q ∈ r, q.2.1 ∉ is) →
      (∀ h', AllAt h' (k + 1) is r → h'.objs.size = s.heap.objs.size → (∀ c o, c ∉ is → s.heap.get? c = some o → h'.get? c = some o) → Q (none, acc ++ ys.toArray) { s with heap := h' }) →
      wpAny M A (forIn (is.map Value.ref) (none, acc) f) Q E s := by
  induction is with
  | nil =>
    intro r ys acc s ha hy _ _ hQ
    cases r with
    | cons _ _ => exact ha.elim
    | nil =>
      cases ys with
      | cons _ _ => exact hy.elim
      | nil =>
        rw [List.map_nil, List.forIn_nil]
        have := hQ s.heap trivial rfl fun _ _ _ e => e
        exact wpAny_pure (by simpa using this)
  | cons i is ih =>
    intro r ys acc s ha hy hn hs hQ
    cases r with
    | nil => exact ha.elim
    | cons q r =>
      obtain ⟨t, l, xs⟩ := q
      cases ys with
      | nil => exact hy.elim
      | cons y ys =>
        have ha1 : ItK t s.heap i l k := ha.1
        have ha2 : SqK t s.heap l xs := ha.2.1
        have ha3 : AllAt s.heap k is r := ha.2.2
        have hy1 : xs[k]? = some y := hy.1
        have hy2 : Items k r ys := hy.2
        rw [List.map_cons, List.forIn_cons]
        have hni : i ∉ is := (List.nodup_cons.mp hn).1
        have hq2 : l ∉ i :: is := hs _ List.mem_cons_self
        have hli : l ≠ i := fun e => hq2 (e ▸ List.mem_cons_self)
        refine wpAny_bind (hf s i l t k xs y acc _ E ha1 ha2 hy1 fun h1 hi1 hz1 hk1 => ?_)
        refine ih r ys (acc.push y) { s with heap := h1 } (ha3.at (fun j hj o e => hk1 j o (fun q => hni (q ▸ hj)) e) fun q hqm o e => hk1 _ o (fun z => hs q (List.mem_cons_of_mem _ hqm) (z ▸ List.mem_cons_self)) e) hy2 (List.nodup_cons.mp hn).2
          (fun q hqm z => hs q (List.mem_cons_of_mem _ hqm) (List.mem_cons_of_mem _ z)) fun h2 ha2' hz2 hk2 => ?_
        have e3 : acc.push y ++ ys.toArray = acc ++ (y :: ys).toArray := by simp
        rw [e3]
        exact hQ h2 ⟨hi1.at fun o e => hk2 i o hni e, ha2.at fun o e => hk2 l o (fun z => hq2 (List.mem_cons_of_mem _ z)) (hk1 l o hli e), ha2'⟩ (hz2.trans hz1) fun c o c2 e => hk2 c o (fun z => c2 (List.mem_cons_of_mem _ z)) (hk1 c o (fun z => c2 (z ▸ List.mem_cons_self)) e)
theorem stops2 {M : Model} {f : Value → (Option Fin × Array Value) → Sem (ForInStep (Option Fin × Array Value))} {Q : (Option Fin × Array Value) → Shared → Prop} (hf : Draw2 M A f) (hg : Stop2 M A f) (k : Nat) (is : List Addr) :
    ∀ (r : List Src) (acc : Array Value) (s : Shared), AllAt s.heap k is r → (∃ q ∈ r, q.2.2[k]? = none) → is.Nodup → (∀ q ∈ r, q.2.1 ∉ is) →
      (∀ h' e, (∀ c o, c ∉ is → s.heap.get? c = some o → h'.get? c = some o) → StopAt h' e → E (.ref e) { s with heap := h' }) →
      wpAny M A (forIn (is.map Value.ref) (none, acc) f) Q E s := by
  induction is with
  | nil =>
    intro r acc s ha hy _ _ _
    cases r with
    | cons _ _ => exact ha.elim
    | nil => obtain ⟨q, hq, _⟩ := hy; cases hq
  | cons i is ih =>
    intro r acc s ha hy hn hs hE
    cases r with
    | nil => exact ha.elim
    | cons q r =>
      obtain ⟨t, l, xs⟩ := q
      have ha1 : ItK t s.heap i l k := ha.1
      have ha2 : SqK t s.heap l xs := ha.2.1
      have ha3 : AllAt s.heap k is r := ha.2.2
      rw [List.map_cons, List.forIn_cons]
      have hni : i ∉ is := (List.nodup_cons.mp hn).1
      have hq2 : l ∉ i :: is := hs _ List.mem_cons_self
      cases hx : xs[k]? with
      | none => exact wpAny_bind (hg s i l t k xs acc _ _ ha1 ha2 hx fun h' e hk he => hE h' e (fun c o c3 x => hk c o (fun q => c3 (q ▸ List.mem_cons_self)) x) he)
      | some y =>
        have hy2 : ∃ q ∈ r, q.2.2[k]? = none := by
          obtain ⟨q, hq, e⟩ := hy
          rcases List.mem_cons.mp hq with rfl | hq
          · rw [hx] at e; cases e
          · exact ⟨q, hq, e⟩
        refine wpAny_bind (hf s i l t k xs y acc _ E ha1 ha2 hx fun h1 hi1 hz1 hk1 => ?_)
        exact ih r (acc.push y) { s with heap := h1 } (ha3.at (fun j hj o e => hk1 j o (fun q => hni (q ▸ hj)) e) fun q hqm o e => hk1 _ o (fun z => hs q (List.mem_cons_of_mem _ hqm) (z ▸ List.mem_cons_self)) e) hy2 (List.nodup_cons.mp hn).2
          (fun q hqm z => hs q (List.mem_cons_of_mem _ hqm) (List.mem_cons_of_mem _ z)) fun h2 e hk2 he => hE h2 e (fun c o c3 x => hk2 c o (fun q => c3 (List.mem_cons_of_mem _ q)) (hk1 c o (fun q => c3 (q ▸ List.mem_cons_self)) x)) he
/-- one turn: whichever way the tuple comes -/
theorem turn_item {z TI TO : Addr} {f0 : Value} {b : Bool} {is : List Addr} {r : List Src} {k : Nat} {ys olds : List Value} {Q : Value → Shared → Prop} (ow : Own f0) (hne : is ≠ [])
    (hz : ZipB s.heap z TI TO f0 b) (hTI : TupAt s.heap TI (is.map Value.ref)) (hTO : TupAt s.heap TO olds) (ha : AllAt s.heap k is r) (hy : Items k r ys) (hlo : olds.length = is.length) (hsm : is.length ≤ 1000)
    (hnd : is.Nodup) (hzi : z ∉ is) (hTOi : TO ∉ is) (hTIi : TI ∉ is) (hzT : z ≠ TO) (hzI : z ≠ TI) (hTT : TI ≠ TO) (hs : ∀ q ∈ r, q.2.1 ≠ TO ∧ q.2.1 ≠ z ∧ q.2.1 ∉ is)
    (hQ : ∀ h' f1 b1 olds', Own f1 → ZipB h' z TI TO f1 b1 → olds'.length = is.length → TupAt h' TO olds' → AllAt h' (k + 1) is r → TupAt h' s.heap.objs.size ys →
      (∀ c o, c ≠ z → c ≠ TO → c ∉ is → s.heap.get? c = some o → h'.get? c = some o) → Q (.ref s.heap.objs.size) { s with heap := h' }) :
    wpAny (model prog w) A (Builtin.«zip.__next__» ⟨[.ref z], []⟩) (fun fin s' => ∃ v, fin = .done (.ret v) ∧ Q v s') E s := by
  show wpAny _ _ (field (.ref z) 2 >>= _) _ _ _
  refine wpAny_bind (wpAny_field hz rfl (x := .bool false) rfl ?_)
  show wpAny _ _ (field (.ref z) 3 >>= _) _ _ _
  refine wpAny_bind (wpAny_field hz rfl (x := .ref TI) rfl ?_)
  refine wpAny_bind (wpAny_seqItems hTI rfl ?_)
  have hem : (is.map Value.ref).toArray.isEmpty = false := by
    cases is with
    | nil => exact absurd rfl hne
    | cons _ _ => simp
  simp only [hem, Bool.false_eq_true, if_false]
  have hly : ys.length = olds.length := by rw [hlo, ha.len, ← hy.len]
  have hyl : ys.length ≤ sizeLine := Nat.le_trans (by rw [hly, hlo]; exact hsm) (by decide)
  refine wpAny_bind (is_free ow hz ?one fun g0 hz0 hs0 => ?two)
  case two =>
    -- a new tuple
    simp only [Bool.false_eq_true, if_false]
    have up0 : ∀ c o, c ≠ z → s.heap.get? c = some o → g0.get? c = some o := fun c o c1 e => hs0.extBut _ _ c1 e
    have ha0 : AllAt g0 k is r := ha.at (fun i hi o e => up0 i o (fun q => hzi (q ▸ hi)) e) fun q hq o e => up0 _ o (hs q hq).2.1 e
    rw [List.forIn_toArray]
    refine wpAny_bind (draws2 (M := model prog w) (A := A) (E := E) (Q := _) ?hf k is r ys #[] { s with heap := g0 } ha0 hy hnd (fun q hq => (hs q hq).2.2) fun g2 ha2 hz2 hk2 => ?_)
    case hf =>
      intro s2 i l t k2 xs x acc Q2 E2 hi hl hx kq
      show wpAny _ _ (holding _ (Builtin.SmallTypes.nextOf (.ref i) >>= fun v => pure (some v)) >>= _) _ _ _
      refine wpAny_bind (wpAny_holding ?_)
      refine wpAny_bind (nextOf_item hi hl hx fun g2 hi2 hs2 => wpAny_pure (wpAny_pure ?_))
      exact kq g2 hi2 hs2.1 fun c o c1 e => hs2.extBut _ _ c1 e
    refine wpAny_bind (wpAny_newTuple ?_ (by simpa using hyl))
    have hsz : g2.objs.size = s.heap.objs.size := hz2.trans hs0.1
    refine wpAny_pure ⟨_, rfl, ?_⟩
    show Q (.ref g2.objs.size) _
    rw [hsz]
    have e5 : ((#[] ++ ys.toArray).toList.toArray : Array Value) = ys.toArray := by simp
    have upn : ∀ c o, g2.get? c = some o → (g2.push { cls := .type "tuple", data := .seq (#[] ++ ys.toArray).toList.toArray }).get? c = some o := fun c o e => Heap.get?_push_of_some _ e
    refine hQ _ f0 true olds ow (upn z _ (hk2 z _ hzi hz0)) hlo (upn TO _ (hk2 TO _ hTOi (up0 TO _ hzT.symm hTO))) (ha2.at (fun i _ o e => upn i o e) fun q _ o e => upn _ o e) ?_ fun c o c1 c2 c3 e => upn c o (hk2 c o c3 (up0 c o c1 e))
    have := Heap.get?_push_size g2 (o := { cls := .type "tuple", data := .seq (#[] ++ ys.toArray).toList.toArray }) rfl
    rw [hsz, e5] at this
    rw [e5]
    exact this
  case one =>
    simp only [if_true]
    refine wpAny_bind (wpAny_rule ?_)
    refine wpAny_bind (wpAny_field hz rfl (x := .ref TO) rfl ?_)
    refine wpAny_bind (wpAny_setField_rec hz (by simp) fun g1 hz1 hs1 => ?_)
    replace hz1 : ZipB g1 z TI TO .ellipsis b := hz1
    have up1 : ∀ c o, c ≠ z → s.heap.get? c = some o → g1.get? c = some o := fun c o c1 e => hs1.extBut _ _ c1 e
    have ha1 : AllAt g1 k is r := ha.at (fun i hi o e => up1 i o (fun q => hzi (q ▸ hi)) e) fun q hq o e => up1 _ o (hs q hq).2.1 e
    refine wpAny_bind ?_
    refine draw_all (M := model prog w) (A := A) (E := E) (b0 := (none, ())) (TO := TO) (Q := _) ?hf k is r ys olds [] { s with heap := g1 } ha1 hy hly (by simpa [hlo] using hsm) hnd hTOi (fun q hq => ⟨(hs q hq).1, (hs q hq).2.2⟩) (up1 TO _ hzT.symm hTO) ?hq
    case hf =>
      intro s2 i l t k2 xs x old pre post Q2 E2 hi hl hx hiT hlT hli hbd hT2 kq
      show wpAny _ _ (((Builtin.SmallTypes.nextOf (.ref i) >>= fun v => pure (some v)).onRaise _) >>= _) _ _ _
      refine wpAny_bind (wpAny_onRaise ?_)
      refine wpAny_bind (nextOf_item hi hl hx fun g2 hi2 hs2 => wpAny_pure ?_)
      have hT3 : TupAt g2 TO (pre ++ old :: post) := hs2.extBut _ _ hiT.symm hT2
      refine wpAny_bind (wpAny_seqItems hT3 rfl ?_)
      have hb2 : (pre ++ old :: post).length ≤ sizeLine := Nat.le_trans hbd (by decide)
      refine wpAny_bind (wpAny_updateSeq hT3 rfl ?_ (by rw [List.size_toArray]; exact hb2) (by rw [Array.size_setIfInBounds, List.size_toArray]; exact Nat.le_succ_of_le hb2))
      refine wpAny_bind (wpAny_letGo (wpAny_pure ?_))
      have hup : Heap.SameBut TO g2 (g2.update TO (Obj.mapSeq fun v => v.setIfInBounds pre.length x)) := Heap.SameBut.update ..
      refine kq _ (hi2.at fun o e => hup.extBut _ _ hiT e) ?_ (hup.1.trans hs2.1) fun c o c1 c2 e => hup.extBut _ _ c1 (hs2.extBut _ _ c2 e)
      show (g2.update TO _).get? TO = _
      rw [Heap.get?_update_self _ hT3 rfl]
      simp [Obj.mapSeq, List.set_append]
    case hq =>
      intro g2 ha2 hT2 hz2 hk2
      refine wpAny_bind (wpAny_seqItems hT2 rfl ?_)
      refine wpAny_bind (wpAny_newTuple ?_ (by simpa using hyl))
      have hsz : g2.objs.size = s.heap.objs.size := hz2.trans hs1.1
      have hz3 : ZipB g2 z TI TO .ellipsis b := hk2 z _ hzT hzi hz1
      have hzlt : z < g2.objs.size := Heap.lt_size hz3
      show wpAny _ _ (Builtin.SmallTypes.ownedTupleHandOut (.ref z) (.ref g2.objs.size) >>= _) _ _ _
      refine wpAny_bind ?_
      unfold Builtin.SmallTypes.ownedTupleHandOut
      have hz4 : ZipB (g2.push { cls := .type "tuple", data := .seq ([] ++ ys).toArray.toList.toArray }) z TI TO .ellipsis b := Heap.get?_push_of_some _ hz3
      refine wpAny_bind (wpAny_setField_rec hz4 (by simp) fun g5 hz5 hs5 => ?_)
      replace hz5 : ZipB g5 z TI TO (rawInt g2.objs.size) b := hz5
      refine wpAny_setField_rec hz5 (by simp) fun g6 hz6 hs6 => ?_
      replace hz6 : ZipB g6 z TI TO (rawInt g2.objs.size) false := hz6
      have up : ∀ c o, c ≠ z → g2.get? c = some o → g6.get? c = some o := fun c o c1 e => hs6.extBut _ _ c1 (hs5.extBut _ _ c1 (Heap.get?_push_of_some _ e))
      have hnew : TupAt g6 g2.objs.size ys := by
        have e := hs6.extBut _ _ (Nat.ne_of_gt hzlt) (hs5.extBut _ _ (Nat.ne_of_gt hzlt) (Heap.get?_push_size g2 (o := { cls := .type "tuple", data := .seq ([] ++ ys).toArray.toList.toArray }) rfl))
        simpa using e
      have hT6 : TupAt g6 TO ys := up TO _ hzT.symm hT2
      refine wpAny_pure ⟨_, rfl, ?_⟩
      show Q (.ref g2.objs.size) _
      rw [hsz] at hz6 hnew ⊢
      exact hQ g6 _ false ys (.inr ⟨_, rfl⟩) hz6 (hly.trans hlo) hT6 (ha2.at (fun i hi o e => up i o (fun q => hzi (q ▸ hi)) e) fun q hq o e => up _ o (hs q hq).2.1 e) hnew fun c o c1 c2 c3 e => up c o c1 (hk2 c o c2 c3 (up1 c o c1 e))
/-- .. at which some sequence has come to its end -/
theorem turn_stop {z TI TO : Addr} {f0 : Value} {b : Bool} {is : List Addr} {r : List Src} {k : Nat} {olds : List Value} {Q : Fin → Shared → Prop} (hh : A.handled = none) (ow : Own f0) (hne : is ≠ [])
    (hz : ZipB s.heap z TI TO f0 b) (hTI : TupAt s.heap TI (is.map Value.ref)) (hTO : TupAt s.heap TO olds) (ha : AllAt s.heap k is r) (hy : ∃ q ∈ r, q.2.2[k]? = none) (hlo : olds.length = is.length) (hsm : is.length ≤ 1000)
    (hnd : is.Nodup) (hzi : z ∉ is) (hTOi : TO ∉ is) (hzT : z ≠ TO) (hs : ∀ q ∈ r, q.2.1 ≠ TO ∧ q.2.1 ≠ z ∧ q.2.1 ∉ is)
    (hE : ∀ h' e, (∀ c o, c ≠ z → c ≠ TO → c ∉ is → s.heap.get? c = some o → h'.get? c = some o) → StopAt h' e → E (.ref e) { s with heap := h' }) :
    wpAny (model prog w) A (Builtin.«zip.__next__» ⟨[.ref z], []⟩) Q E s := by
  show wpAny _ _ (field (.ref z) 2 >>= _) _ _ _
  refine wpAny_bind (wpAny_field hz rfl (x := .bool false) rfl ?_)
  show wpAny _ _ (field (.ref z) 3 >>= _) _ _ _
  refine wpAny_bind (wpAny_field hz rfl (x := .ref TI) rfl ?_)
  refine wpAny_bind (wpAny_seqItems hTI rfl ?_)
  have hem : (is.map Value.ref).toArray.isEmpty = false := by
    cases is with
    | nil => exact absurd rfl hne
    | cons _ _ => simp
  simp only [hem, Bool.false_eq_true, if_false]
  refine wpAny_bind (is_free ow hz ?one fun g0 hz0 hs0 => ?two)
  case two =>
    simp only [Bool.false_eq_true, if_false]
    have up0 : ∀ c o, c ≠ z → s.heap.get? c = some o → g0.get? c = some o := fun c o c1 e => hs0.extBut _ _ c1 e
    have ha0 : AllAt g0 k is r := ha.at (fun i hi o e => up0 i o (fun q => hzi (q ▸ hi)) e) fun q hq o e => up0 _ o (hs q hq).2.1 e
    rw [List.forIn_toArray]
    refine wpAny_bind (stops2 (M := model prog w) (A := A) (E := E) (Q := _) ?hf ?hg k is r #[] { s with heap := g0 } ha0 hy hnd (fun q hq => (hs q hq).2.2) fun h' e hk he => hE h' e (fun c o c1 c2 c3 x => hk c o c3 (up0 c o c1 x)) he)
    case hf =>
      intro s2 i l t k2 xs x acc Q2 E2 hi hl hx kq
      show wpAny _ _ (holding _ (Builtin.SmallTypes.nextOf (.ref i) >>= fun v => pure (some v)) >>= _) _ _ _
      refine wpAny_bind (wpAny_holding ?_)
      refine wpAny_bind (nextOf_item hi hl hx fun g2 hi2 hs2 => wpAny_pure (wpAny_pure ?_))
      exact kq g2 hi2 hs2.1 fun c o c1 e => hs2.extBut _ _ c1 e
    case hg =>
      intro s2 i l t k2 xs acc Q2 E2 hi hl hx ke
      show wpAny _ _ (holding _ (Builtin.SmallTypes.nextOf (.ref i) >>= fun v => pure (some v)) >>= _) _ _ _
      refine wpAny_bind (wpAny_holding ?_)
      exact wpAny_bind (nextOf_end hh hi hl hx fun g2 e hs2 he => ke g2 e (fun c o c1 x => hs2 _ _ c1 x) he)
  case one =>
    simp only [if_true]
    refine wpAny_bind (wpAny_rule ?_)
    refine wpAny_bind (wpAny_field hz rfl (x := .ref TO) rfl ?_)
    refine wpAny_bind (wpAny_setField_rec hz (by simp) fun g1 hz1 hs1 => ?_)
    replace hz1 : ZipB g1 z TI TO .ellipsis b := hz1
    have up1 : ∀ c o, c ≠ z → s.heap.get? c = some o → g1.get? c = some o := fun c o c1 e => hs1.extBut _ _ c1 e
    have ha1 : AllAt g1 k is r := ha.at (fun i hi o e => up1 i o (fun q => hzi (q ▸ hi)) e) fun q hq o e => up1 _ o (hs q hq).2.1 e
    refine wpAny_bind ?_
    refine stop_allB (M := model prog w) (A := A) (E := E) (b0 := (none, ())) (z := z) (TI := TI) (TO := TO) (b := b) (Q := _) ?hf1 ?hg1 k is r olds [] { s with heap := g1 } ha1 hy (by rw [hlo, ha.len]) (by simpa [hlo] using hsm) hnd hTOi hzi hzT (fun q hq => ⟨(hs q hq).1, (hs q hq).2.2⟩) hz1 (up1 TO _ hzT.symm hTO)
      fun h' e hk he => hE h' e (fun c o c1 c2 c3 x => hk c o c1 c2 c3 (up1 c o c1 x)) he
    case hf1 =>
      intro s2 i l t k2 xs x old pre post Q2 E2 hi hl hx hiT hlT hli hbd hT2 kq
      show wpAny _ _ (((Builtin.SmallTypes.nextOf (.ref i) >>= fun v => pure (some v)).onRaise _) >>= _) _ _ _
      refine wpAny_bind (wpAny_onRaise ?_)
      refine wpAny_bind (nextOf_item hi hl hx fun g2 hi2 hs2 => wpAny_pure ?_)
      have hT3 : TupAt g2 TO (pre ++ old :: post) := hs2.extBut _ _ hiT.symm hT2
      refine wpAny_bind (wpAny_seqItems hT3 rfl ?_)
      have hb2 : (pre ++ old :: post).length ≤ sizeLine := Nat.le_trans hbd (by decide)
      refine wpAny_bind (wpAny_updateSeq hT3 rfl ?_ (by rw [List.size_toArray]; exact hb2) (by rw [Array.size_setIfInBounds, List.size_toArray]; exact Nat.le_succ_of_le hb2))
      refine wpAny_bind (wpAny_letGo (wpAny_pure ?_))
      have hup : Heap.SameBut TO g2 (g2.update TO (Obj.mapSeq fun v => v.setIfInBounds pre.length x)) := Heap.SameBut.update ..
      refine kq _ (hi2.at fun o e => hup.extBut _ _ hiT e) ?_ (hup.1.trans hs2.1) fun c o c1 c2 e => hup.extBut _ _ c1 (hs2.extBut _ _ c2 e)
      show (g2.update TO _).get? TO = _
      rw [Heap.get?_update_self _ hT3 rfl]
      simp [Obj.mapSeq, List.set_append]
    case hg1 =>
      intro s2 i l t k2 j xs Q2 E2 hi hl hx hiz hz2 ke
      show wpAny _ _ (((Builtin.SmallTypes.nextOf (.ref i) >>= fun v => pure (some v)).onRaise _) >>= _) _ _ _
      refine wpAny_bind (wpAny_onRaise ?_)
      refine wpAny_bind (nextOf_end hh hi hl hx fun g2 e hs2 he => ?_)
      obtain ⟨oe, hoe, hce⟩ := he
      have hz3 : ZipB g2 z TI TO .ellipsis b := hs2 _ _ hiz.symm hz2
      have hez : e ≠ z := fun x => by subst x; rw [hz3] at hoe; cases hoe; simp at hce
      exact wpAny_setField_rec hz3 (by simp) fun g3 _ hs3 => ke g3 e (fun c o c1 c2 x => hs3.extBut _ _ c1 (hs2 _ _ c2 x)) ⟨oe, hs3.extBut _ _ hez hoe, hce⟩
end
end Zs
set_option Elab.async false
set_option linter.all false
set_option maxRecDepth 100000
set_option maxHeartbeats 1000000
namespace Zs
open PySem PySem.Spec PyProof.Rows L2 Zn
open PySem.Sem (wp)
section
variable {prog : Program} {w : World} {A : Around} {E : Value → Shared → Prop} {s : Shared}
theorem call_zipStar {pos p : Pos} {e : Expr} {env : Env} {Q : Value → Shared → Prop}
    (h : wpAny (model prog w) A (eval e env) (fun v s₁ => PySem.W.StarOf (model prog w) A E v (fun vs s₂ => wpAny (model prog w) A (call (.type "zip") vs) Q E s₂) s₁) E s)
    (he : starEach [.Starred e p] env = [(true, eval e env)] := by rfl) :
    wpAny (model prog w) A (callWith pos (.type "zip") [] (backTo pos (starEach [.Starred e p] env)) []) Q E s := by
  rw [he]
  refine PySem.W.ks_call (P := fun _ => True) rfl (fun h _ => ⟨_, .inr (.inl rfl), PySem.W.Looks.of_pure rfl⟩) (PySem.W.ks_lone ?_)
  refine wpAny_mono h (fun v s₁ hv => ?_) fun _ _ x => x
  unfold PySem.W.StarOf at hv ⊢
  exact wpAny_mono hv (fun b s₂ hb => ⟨hb.1, wpAny_mono hb.2 (fun vs s₃ hc => ⟨trivial, hc⟩) fun _ _ x => x⟩) fun _ _ x => x
theorem nextB_item {z TI TO : Addr} {f0 : Value} {b : Bool} {is : List Addr} {r : List Src} {k : Nat} {ys olds : List Value} {Q : Option Value → Shared → Prop} (ow : Own f0) (hne : is ≠ [])
    (hz : ZipB s.heap z TI TO f0 b) (hTI : TupAt s.heap TI (is.map Value.ref)) (hTO : TupAt s.heap TO olds) (ha : AllAt s.heap k is r) (hy : Items k r ys) (hlo : olds.length = is.length) (hsm : is.length ≤ 1000)
    (hnd : is.Nodup) (hzi : z ∉ is) (hTOi : TO ∉ is) (hTIi : TI ∉ is) (hzT : z ≠ TO) (hzI : z ≠ TI) (hTT : TI ≠ TO) (hs : ∀ q ∈ r, q.2.1 ≠ TO ∧ q.2.1 ≠ z ∧ q.2.1 ∉ is)
    (hQ : ∀ h' f1 b1 olds', Own f1 → ZipB h' z TI TO f1 b1 → olds'.length = is.length → TupAt h' TO olds' → AllAt h' (k + 1) is r → TupAt h' s.heap.objs.size ys →
      (∀ c o, c ≠ z → c ≠ TO → c ∉ is → s.heap.get? c = some o → h'.get? c = some o) → Q (some (.ref s.heap.objs.size)) { s with heap := h' }) : wpAny (model prog w) A (pyNext (.ref z)) Q E s := by
  have ty : s.TypeIs (.ref z) "zip" := ⟨_, hz, rfl⟩
  unfold pyNext
  refine wpAny_bind (wpAny_attempt (wpAny_callSpecial?_slot (name := Str.ofString "__next__") ty F.slot_zip_next ?_))
  exact wpAny_call_entry F.slot_zip_next ty F.entry_zip_next (turn_item ow hne hz hTI hTO ha hy hlo hsm hnd hzi hTOi hTIi hzT hzI hTT hs fun h' f1 b1 o1 c1 c2 c3 c4 c5 c6 c7 => wpAny_pure (hQ h' f1 b1 o1 c1 c2 c3 c4 c5 c6 c7)) (F.args_zip_next_1 _)
theorem nextB_stop {z TI TO : Addr} {f0 : Value} {b : Bool} {is : List Addr} {r : List Src} {k : Nat} {olds : List Value} {Q : Option Value → Shared → Prop} (hh : A.handled = none) (ow : Own f0) (hne : is ≠ [])
    (hz : ZipB s.heap z TI TO f0 b) (hTI : TupAt s.heap TI (is.map Value.ref)) (hTO : TupAt s.heap TO olds) (ha : AllAt s.heap k is r) (hy : ∃ q ∈ r, q.2.2[k]? = none) (hlo : olds.length = is.length) (hsm : is.length ≤ 1000)
    (hnd : is.Nodup) (hzi : z ∉ is) (hTOi : TO ∉ is) (hzT : z ≠ TO) (hs : ∀ q ∈ r, q.2.1 ≠ TO ∧ q.2.1 ≠ z ∧ q.2.1 ∉ is)
    (hQ : ∀ h', (∀ c o, c ≠ z → c ≠ TO → c ∉ is → s.heap.get? c = some o → h'.get? c = some o) → Q none { s with heap := h' }) : wpAny (model prog w) A (pyNext (.ref z)) Q E s := by
  have ty : s.TypeIs (.ref z) "zip" := ⟨_, hz, rfl⟩
  unfold pyNext
  refine wpAny_bind (wpAny_attempt (wpAny_callSpecial?_slot (name := Str.ofString "__next__") ty F.slot_zip_next ?_))
  refine wpAny_call_entry F.slot_zip_next ty F.entry_zip_next (turn_stop hh ow hne hz hTI hTO ha hy hlo hsm hnd hzi hTOi hzT hs fun h' e hk he => ?_) (F.args_zip_next_1 _)
  obtain ⟨o, ho, hc⟩ := he
  exact wpAny_bind (wpAny_isInstance (T := "StopIteration") (b := true) ⟨o, ho, hc⟩ isSubtype_stop (wpAny_pure (hQ _ hk)))
theorem iterB {z TI TO : Addr} {f0 : Value} {b : Bool} {Q : Value → Shared → Prop} (hz : ZipB s.heap z TI TO f0 b) (h : Q (.ref z) s) : wpAny (model prog w) A (pyIter (.ref z)) Q E s := by
  have ty : s.TypeIs (.ref z) "zip" := ⟨_, hz, rfl⟩
  refine wpAny_pyIter_slot ty F.slot_zip_iter (wpAny_call_entry F.slot_zip_iter ty F.entry_zip_iter ?_ (F.args_zip_iter_1 _))
  show wpAny _ _ (ret (.ref z)) _ _ s
  exact wpAny_pure ⟨_, rfl, "zip", _, ty, F.slot_zip_next.lookup, h⟩
end
def ZTb (z TI TO : Addr) (is : List Addr) (src : List (Bool × Addr)) (i : Nat) (h : Heap) : Prop :=
  (∃ f0 b, Own f0 ∧ ZipB h z TI TO f0 b) ∧ TupAt h TI (is.map Value.ref) ∧ (∃ olds : List Value, olds.length = is.length ∧ TupAt h TO olds) ∧ ItsAt h i is src
/-- zip over any number of sequences, each tuple kept by a name -/
theorem turn_b {P : Program} {w : World} {K : PySem.W.Frag} {x : Str} {xp : Pos} {z TI TO : Addr} {is : List Addr} {src : List (Bool × Addr)} (D : Apart z TI TO is src) :
    Turn P w K (.Name x xp) (Itn K src) (z :: TI :: TO :: is) z (ZTb z TI TO is src) where
  mem := List.mem_cons_self
  obj := fun i h st c hc => by
    obtain ⟨⟨f0, b, _, hz⟩, hTI, ⟨olds, _, hTO⟩, hi⟩ := st
    rcases List.mem_cons.mp hc with rfl | hc
    · exact ⟨_, hz, fun v q => nomatch q⟩
    rcases List.mem_cons.mp hc with rfl | hc
    · exact ⟨_, hTI, fun v q => nomatch q⟩
    rcases List.mem_cons.mp hc with rfl | hc
    · exact ⟨_, hTO, fun v q => nomatch q⟩
    obtain ⟨o, l, e, d⟩ := hi.ob c hc
    exact ⟨o, e, fun v q => by rw [d] at q; cases q⟩
  keep := fun i h h' st k => by
    obtain ⟨⟨f0, b, ow, hz⟩, hTI, ⟨olds, hl, hTO⟩, hi⟩ := st
    exact ⟨⟨f0, b, ow, k z (by simp) _ hz⟩, k TI (by simp) _ hTI, ⟨olds, hl, k TO (by simp) _ hTO⟩, hi.at fun j hj o e => k j (by simp [hj]) o e⟩
  item := by
    intro X hP hw hK hc i pins s σ H E I hf st hg
    subst hP hw hK
    obtain ⟨⟨f0, b, ow, hz⟩, hTI, ⟨olds, hol, hTO⟩, hi⟩ := st
    obtain ⟨ys, hrow⟩ := hg
    obtain ⟨r, us, e1, e2, e3, e4⟩ := row_ob I hrow
    subst e1
    have hzl : z < s.heap.objs.size := Heap.lt_size hz
    have ha := allAt_of hi e2
    have hys : ys.length ≤ 1000 := by rw [e4.length, ← e3.len, ← ha.len]; exact D.sm
    have hpart : ∀ c ∈ z :: TI :: TO :: is, c < s.heap.objs.size := fun c hcm => by
      rcases List.mem_cons.mp hcm with rfl | hcm
      · exact hzl
      rcases List.mem_cons.mp hcm with rfl | hcm
      · exact Heap.lt_size hTI
      rcases List.mem_cons.mp hcm with rfl | hcm
      · exact Heap.lt_size hTO
      exact ha.lt c hcm
    refine nextB_item ow D.ne hz hTI hTO ha e3 hol D.sm D.nd D.zi D.oi D.ti D.zT D.zI D.TT (fun q hq => ⟨(D.sr _ (bare_mem hq)).1, (D.sr _ (bare_mem hq)).2.1, (D.sr _ (bare_mem hq)).2.2.2⟩) fun g f1 b1 olds' ow1 z1 ol1 TO1 a1 T1 k1 => ?_
    refine ⟨_, rfl, ?_⟩
    unfold letOwnedTupleGo
    refine wpAny_pure ?_
    have new : ObjOk X.prog X.w (upd H s.heap.objs.size (.tup ys)) g s.heap.objs.size (.tup ys) := ⟨Nat.le_trans hys (by decide), us, e4, ⟨_, T1, rfl, _, rfl⟩⟩
    have I1 : Inv X pins σ (upd H s.heap.objs.size (.tup ys)) { s with heap := g } :=
      I.turnedNew (t' := s.toks) (ch := z :: TI :: TO :: is) (fun c o hb q => k1 c o (fun q' => hb (by simp [q'])) (fun q' => hb (by simp [q'])) (fun q' => hb (by simp [q'])) q) hf (Nat.le_refl _) new
    refine ⟨.ref s.heap.objs.size, _, I1, rfl, ⟨_, ys, rfl, I.hok.fresh (Nat.le_refl _), rfl, fun zs hzs => row_inj I hrow hzs⟩, ⟨⟨f1, b1, ow1, z1⟩, ?_, ⟨olds', ol1, TO1⟩, a1.its⟩, fun c hcm => ?_⟩
    · exact k1 _ _ D.zI.symm D.TT D.ti hTI
    · rw [upd_ne (Nat.ne_of_lt (hpart c hcm))]
      exact (hf c hcm).1
  done := by
    intro X hP hw hK hc i pins s σ H E I hf st hg
    subst hP hw hK
    obtain ⟨⟨f0, b, ow, hz⟩, hTI, ⟨olds, hol, hTO⟩, hi⟩ := st
    obtain ⟨hall, q, hq, xs, hqx, hle⟩ := hg
    obtain ⟨r, e1, e2, e3⟩ := all_ob I hall
    subst e1
    have ha := allAt_of hi e2
    obtain ⟨p, hp, hps⟩ := e3 q hq xs hqx
    exact nextB_stop (I.ok.hd hc) ow D.ne hz hTI hTO ha ⟨p, hp, by rw [Array.getElem?_eq_none_iff]; omega⟩ hol D.sm D.nd D.zi D.oi D.zT (fun q hq => ⟨(D.sr _ (bare_mem hq)).1, (D.sr _ (bare_mem hq)).2.1, (D.sr _ (bare_mem hq)).2.2.2⟩)
      fun g hk => ⟨rfl, I.turnedL (t' := s.toks) (ch := z :: TI :: TO :: is) (fun c o hb q => hk c o (fun q' => hb (by simp [q'])) (fun q' => hb (by simp [q'])) (fun q' => hb (by simp [q'])) q) hf⟩
  self := fun A i s Q E st h => let ⟨⟨_, _, _, hz⟩, _⟩ := st; iterB hz h
section
variable {X : Cx}
theorem zip_comeB {pins : List (Addr × Obj)} {σ : L2.St} {H : Hp} {s : Shared} {us : List Value} {R : It → Hp → Prop} {x : Str} {xp : Pos} {E : Value → Shared → Prop} (I : Inv X pins σ H s) {src : List (Bool × Addr)} (rv : Vals (kRefs src) us)
    (h0 : 0 < src.length) (h3 : src.length ≤ 3) (ha : AllSq X.K H src) (q : R (Itn X.K src) H) :
    wpAny (model X.prog X.w) X.A (call (.type "zip") us) (fun v s1 => wpAny (model X.prog X.w) X.A (pyIter v) (PIE X pins σ (.Name x xp) R) E s1) E s := by
  obtain ⟨r, e1, e2⟩ := srcs_of I ha
  have e3 := vals_refs rv
  subst e1
  have hl : (bare r).length = r.length := List.length_map ..
  rw [hl] at h0 h3
  have e4 : us = r.map fun q => Value.ref q.2.1 := by rw [e3]; unfold bare; rw [List.map_map]; rfl
  rw [e4]
  refine call_zipN h0 h3 e2 fun g m => wpAny_pyIter_zip m.zr ?_
  have I2 : Inv X pins σ H { s with heap := g } := I.kept (t' := s.toks) m.kp
  refine ⟨_, _, _, _, H, rfl, I2, turn_b (made_apart m e2 h0 (by omega)), ⟨⟨.none, false, .inl rfl, m.zr⟩, m.ti, ⟨_, ?_, m.to⟩, m.all.its⟩, fun c hcm => ?_, q⟩
  · rw [List.length_map, news_len]
  · have hle : s.heap.objs.size ≤ c := by
      rcases List.mem_cons.mp hcm with rfl | hcm
      · exact Nat.le_add_right_of_le (Nat.le_add_right ..)
      rcases List.mem_cons.mp hcm with rfl | hcm
      · exact Nat.le_add_right ..
      rcases List.mem_cons.mp hcm with rfl | hcm
      · exact Nat.le_add_right_of_le (Nat.le_add_right ..)
      exact (news_mem hcm).1
    exact I.fpOk hle (I.hok.fresh hle)
def iZs (K : PySem.W.Frag) (te : TE) : TI := fun σ H R => te σ H fun y H1 => ∃ (a : Addr) (src : List (Bool × Addr)), y = .ref a ∧ (SqT K H1 a (kRefs src) ∨ SqL K H1 a (kRefs src)) ∧ 0 < src.length ∧ src.length ≤ 3 ∧ AllSq K H1 src ∧ R (Itn K src) H1
/-- for x in zip(*rows) -/
theorem pi_zipStar {e : Expr} {te : TE} {p sp pos : Pos} {x : Str} {xp : Pos} (hg : Gl X "zip") (hm : X.mg "zip" = none) (he : PE X e te) (hst : starEach [.Starred e sp] X.env = [(true, eval e X.env)] := by rfl) :
    PI X (.Name x xp) (.Call (.Name "zip" p) [.Starred e sp] [] pos) (iZs X.K te) := by
  refine ⟨fun pins s σ H R I h => ?_⟩
  refine Call_ (ld_blt I hg hm PyProof.Rows.boot_zip (call_zipStar (thn (he.run pins s σ H _ I h) fun v s1 hv => ?_) hst))
  obtain ⟨y, H1, I1, ry, a, src, rfl, hx, h0, h3, hq, q⟩ := hv
  obtain rfl : v = Value.ref a := ry
  exact StX.star_any I1 hx fun us s2 I2 rv => zip_comeB I2 rv h0 h3 hq q
end
end Zs
set_option Elab.async false
set_option linter.all false
set_option maxRecDepth 100000
set_option maxHeartbeats 1000000
namespace En
open PySem PySem.Spec PyProof.Rows L2 Zn
open PySem.Sem (wp)
section
variable {prog : Program} {w : World} {A : Around} {E : Value → Shared → Prop} {s : Shared}
theorem next_item {e it l : Addr} {t : Bool} {i : Nat} {items : Array Value} {x old : Value} {Q : Value → Shared → Prop}
    (he : IsEnum s.heap e it i old) (hit : ItK t s.heap it l i) (hl : SqK t s.heap l items) (hx : items[i]? = some x) (hne : e ≠ it)
    (hQ : ∀ h', IsEnumOut h' e it ((i : Int) + 1) x s.heap.objs.size → ItK t h' it l (i + 1) → h'.get? s.heap.objs.size = some { cls := .type "tuple", data := .seq #[.int i s.toks, x] } →
      (∀ b o, b ≠ e → b ≠ it → s.heap.get? b = some o → h'.get? b = some o) → Q (.ref s.heap.objs.size) { s with heap := h', toks := s.toks + 1 }) :
    wpAny (model prog w) A (Builtin.«enumerate.__next__» ⟨[.ref e], []⟩) (fun fin s' => ∃ v, fin = .done (.ret v) ∧ Q v s') E s := by
  obtain ⟨hp, g, d, tk, os⟩ := s
  show wpAny _ _ (field (.ref e) 2 >>= _) _ _ _
  refine wpAny_bind (wpAny_field he rfl (x := .ref it) rfl ?_)
  refine wpAny_bind (nextOf_item hit hl hx fun g1 it1 sb1 => ?_)
  replace sb1 : Heap.SameBut it hp g1 := sb1
  have e1 : IsEnum g1 e it i old := (sb1.2 e hne).trans he
  show wpAny _ _ (field (.ref e) 3 >>= _) _ _ ⟨g1, g, d, tk, os⟩
  refine wpAny_bind (wpAny_field e1 rfl (x := rawInt i) rfl ?_)
  show wpAny _ _ (field (.ref e) 4 >>= _) _ _ ⟨g1, g, d, tk, os⟩
  refine wpAny_bind (wpAny_field e1 rfl (x := .none) rfl ?_)
  show wpAny _ _ (mkInt i >>= _) _ _ ⟨g1, g, d, tk, os⟩
  refine wpAny_bind (wpAny_mkInt ?_)
  show wpAny _ _ (setField (.ref e) 3 (rawInt ((i : Int) + 1)) >>= _) _ _ ⟨g1, g, d, tk + 1, os⟩
  refine wpAny_bind (wpAny_setField_rec e1 (by simp) fun g2 e2 sb2 => ?_)
  replace sb2 : Heap.SameBut e g1 g2 := sb2
  replace e2 : IsEnum g2 e it ((i : Int) + 1) old := e2
  show wpAny _ _ (setField (.ref e) 4 .none >>= _) _ _ ⟨g2, g, d, tk + 1, os⟩
  refine wpAny_bind (wpAny_setField_rec e2 (by simp) fun g3 e3 sb3 => ?_)
  replace sb3 : Heap.SameBut e g2 g3 := sb3
  replace e3 : IsEnum g3 e it ((i : Int) + 1) old := e3
  show wpAny _ _ (newTuple [.int i tk, x] >>= _) _ _ ⟨g3, g, d, tk + 1, os⟩
  refine wpAny_bind (wpAny_newTuple ?_)
  have e4 : IsEnum (g3.push { cls := .type "tuple", data := .seq #[.int i tk, x] }) e it ((i : Int) + 1) old := Heap.get?_push_of_some _ e3
  have sz3 : g3.objs.size = hp.objs.size := by rw [sb3.1, sb2.1, sb1.1]
  have hel : e < hp.objs.size := Heap.lt_size he
  have it3 : ItK t g3 it l (i + 1) := it1.at fun o q => sb3.extBut _ _ hne.symm (sb2.extBut _ _ hne.symm q)
  generalize eg4 : g3.push { cls := .type "tuple", data := .seq #[.int i tk, x] } = g4 at e4
  have tup4 : g4.get? hp.objs.size = some { cls := .type "tuple", data := .seq #[.int i tk, x] } := by rw [← eg4, ← sz3]; exact Heap.get?_push_size _ rfl
  have up4 : ∀ b o, b ≠ e → b ≠ it → hp.get? b = some o → g4.get? b = some o := fun b o b1 b2 q => by
    rw [← eg4]
    exact Heap.get?_push_of_some _ (sb3.extBut b o b1 (sb2.extBut b o b1 (sb1.extBut b o b2 q)))
  have it4 : ItK t g4 it l (i + 1) := it3.at fun o q => by rw [← eg4]; exact Heap.get?_push_of_some _ q
  show wpAny _ _ (Builtin.SmallTypes.ownedTupleIsFree (.ref e) >>= _) _ _ ⟨g4, g, d, tk + 1, os⟩
  rw [sz3]
  refine wpAny_bind ?_
  unfold Builtin.SmallTypes.ownedTupleIsFree
  refine wpAny_bind (wpAny_field e4 rfl (x := .none) rfl (wpAny_pure ?_))
  simp only [if_true]
  refine wpAny_bind (wpAny_rule ?_)
  refine wpAny_bind (wpAny_field e4 rfl (x := old) rfl ?_)
  refine wpAny_bind (wpAny_setField_rec e4 (by simp) fun g5 e5 sb5 => ?_)
  replace sb5 : Heap.SameBut e g4 g5 := sb5
  replace e5 : IsEnum g5 e it ((i : Int) + 1) x := e5
  show wpAny _ _ (Builtin.SmallTypes.ownedTupleHandOut (.ref e) (.ref hp.objs.size) >>= _) _ _ ⟨g5, g, d, tk + 1, os⟩
  refine wpAny_bind ?_
  unfold Builtin.SmallTypes.ownedTupleHandOut
  refine wpAny_bind (wpAny_setField_rec e5 (by simp) fun g6 e6 sb6 => ?_)
  replace e6 : IsEnumOut g6 e it ((i : Int) + 1) x hp.objs.size := e6
  refine wpAny_setField_rec e6 (by simp) fun g7 e7 sb7 => ?_
  replace e7 : IsEnumOut g7 e it ((i : Int) + 1) x hp.objs.size := e7
  have up : ∀ b o, b ≠ e → g4.get? b = some o → g7.get? b = some o := fun b o b1 q => sb7.extBut _ _ b1 (sb6.extBut _ _ b1 (sb5.extBut _ _ b1 q))
  refine wpAny_bind (wpAny_letGo (wpAny_pure ⟨_, rfl, ?_⟩))
  exact hQ g7 e7 (it4.at fun o q => up it o hne.symm q) (up _ _ (Nat.ne_of_gt hel) tup4) fun b o b1 b2 q => up b o b1 (up4 b o b1 b2 q)
theorem next_stop {e it l : Addr} {t : Bool} {i : Nat} {items : Array Value} {old : Value} {Q : Fin → Shared → Prop} (hh : A.handled = none)
    (he : IsEnum s.heap e it i old) (hit : ItK t s.heap it l i) (hl : SqK t s.heap l items) (hx : items[i]? = none) (hne : e ≠ it)
    (hE : ∀ h' x, (∀ b o, b ≠ e → b ≠ it → s.heap.get? b = some o → h'.get? b = some o) → StopAt h' x → E (.ref x) { s with heap := h' }) :
    wpAny (model prog w) A (Builtin.«enumerate.__next__» ⟨[.ref e], []⟩) Q E s := by
  show wpAny _ _ (field (.ref e) 2 >>= _) _ _ _
  refine wpAny_bind (wpAny_field he rfl (x := .ref it) rfl ?_)
  exact wpAny_bind (nextOf_end hh hit hl hx fun g1 x sb1 hs => hE g1 x (fun b o b1 b2 q => sb1 _ _ b2 q) hs)
theorem pyNext_item {e it l : Addr} {t : Bool} {i : Nat} {items : Array Value} {x old : Value} {Q : Option Value → Shared → Prop}
    (he : IsEnum s.heap e it i old) (hit : ItK t s.heap it l i) (hl : SqK t s.heap l items) (hx : items[i]? = some x) (hne : e ≠ it)
    (hQ : ∀ h', IsEnumOut h' e it ((i : Int) + 1) x s.heap.objs.size → ItK t h' it l (i + 1) → h'.get? s.heap.objs.size = some { cls := .type "tuple", data := .seq #[.int i s.toks, x] } →
      (∀ b o, b ≠ e → b ≠ it → s.heap.get? b = some o → h'.get? b = some o) → Q (some (.ref s.heap.objs.size)) { s with heap := h', toks := s.toks + 1 }) : wpAny (model prog w) A (pyNext (.ref e)) Q E s := by
  have ty : s.TypeIs (.ref e) "enumerate" := ⟨_, he, rfl⟩
  unfold pyNext
  refine wpAny_bind (wpAny_attempt (wpAny_callSpecial?_slot (name := Str.ofString "__next__") ty F.slot_enumerate_next ?_))
  exact wpAny_call_entry F.slot_enumerate_next ty F.entry_enumerate_next (next_item he hit hl hx hne fun h' b1 b2 b3 b4 => wpAny_pure (hQ h' b1 b2 b3 b4)) (F.args_enumerate_next_1 _)
theorem pyNext_stop {e it l : Addr} {t : Bool} {i : Nat} {items : Array Value} {old : Value} {Q : Option Value → Shared → Prop} (hh : A.handled = none)
    (he : IsEnum s.heap e it i old) (hit : ItK t s.heap it l i) (hl : SqK t s.heap l items) (hx : items[i]? = none) (hne : e ≠ it)
    (hQ : ∀ h', (∀ b o, b ≠ e → b ≠ it → s.heap.get? b = some o → h'.get? b = some o) → Q none { s with heap := h' }) : wpAny (model prog w) A (pyNext (.ref e)) Q E s := by
  have ty : s.TypeIs (.ref e) "enumerate" := ⟨_, he, rfl⟩
  unfold pyNext
  refine wpAny_bind (wpAny_attempt (wpAny_callSpecial?_slot (name := Str.ofString "__next__") ty F.slot_enumerate_next ?_))
  refine wpAny_call_entry F.slot_enumerate_next ty F.entry_enumerate_next (next_stop hh he hit hl hx hne fun h' x hk hs => ?_) (F.args_enumerate_next_1 _)
  obtain ⟨o, ho, hc⟩ := hs
  exact wpAny_bind (wpAny_isInstance (T := "StopIteration") (b := true) ⟨o, ho, hc⟩ isSubtype_stop (wpAny_pure (hQ _ hk)))
end
theorem enum_newT (l : Addr) (items : Array Value) (n : Nat) (dct : Option Addr) (sl : Array (Option Value)) :
    Meets (Builtin.«enumerate.__new__» ⟨[.type "enumerate", .ref l], []⟩) (fun _ R s => s.heap.get? l = some { cls := .type "tuple", dict := dct, data := .seq items n, slots := sl } ∧
      R (.ok (.ret (.ref (s.heap.push { cls := .type "tuple_iterator", data := .fields #[.ref l, .int 0 0] }).objs.size)))
        { s with heap := (s.heap.push { cls := .type "tuple_iterator", data := .fields #[.ref l, .int 0 0] }).push { cls := .type "enumerate", data := .fields #[.none, .bool false, .ref s.heap.objs.size, rawInt 0, .none, .none] } }) :=
  .of_wp fun prog w A R s h => by
    obtain ⟨hp, g, d, tk, os⟩ := s
    obtain ⟨hl, h⟩ := h
    have hsub := sub_enumerate
    have hT : Heap.IsTuple (Shared.heap ⟨hp, g, d, tk, os⟩) l items := ⟨_, hl, rfl, n, rfl⟩
    wp_walk using wpAny_loadPart' hl
    refine wpAny_stack_any fun st => wpAny_pure ?_
    split
    · rename_i c _ _ _ _ _
      cases (c == Value.type "enumerate")
      · wp_walk using wpAny_loadPart' hl, wpAny_pyIter_tuple hT
        exact ⟨_, rfl, h⟩
      · wp_walk using wpAny_loadPart' hl, wpAny_pyIter_tuple hT
        exact ⟨_, rfl, h⟩
    · wp_walk using wpAny_loadPart' hl, wpAny_pyIter_tuple hT
      exact ⟨_, rfl, h⟩
section
variable {prog : Program} {w : World} {A : Around} {E : Value → Shared → Prop} {s : Shared}
theorem call_enum {t : Bool} {l : Addr} {items : Array Value} {Q : Value → Shared → Prop} (hl : SqK t s.heap l items)
    (h : ∀ h', IsEnum h' (s.heap.objs.size + 1) s.heap.objs.size 0 .none → ItK t h' s.heap.objs.size l 0 → (∀ b o, s.heap.get? b = some o → h'.get? b = some o) → Q (.ref (s.heap.objs.size + 1)) { s with heap := h' }) :
    wpAny (model prog w) A (call (.type "enumerate") [.ref l]) Q E s := by
  cases t with
  | false => exact call_enumerate_list hl fun h' b1 b2 _ b4 => h h' b1 b2 b4
  | true =>
    obtain ⟨⟨c, dct, dt, sl⟩, ho, hc, n, hd⟩ := hl
    replace hc : c = .type "tuple" := hc
    replace hd : dt = .seq items n := hd
    subst hc hd
    refine callType_new F.called_enumerate (by decide) (F.typeCall_enumerate_1 _) (F.newCall_enumerate_1 _) (fun obj => F.args_object_init_2 obj _) F.entry_enumerate_new (enum_newT l items n dct sl) ⟨ho, ?_⟩
    have z1 : (s.heap.push { cls := .type "tuple_iterator", data := .fields #[.ref l, .int 0 0] }).objs.size = s.heap.objs.size + 1 := Heap.size_push ..
    show _ ∧ _
    rw [z1]
    have he := Heap.get?_push_size (s.heap.push { cls := .type "tuple_iterator", data := .fields #[.ref l, .int 0 0] }) (o := { cls := .type "enumerate", data := .fields #[.none, .bool false, .ref s.heap.objs.size, rawInt 0, .none, .none] }) rfl
    rw [z1] at he
    exact ⟨⟨_, he, rfl⟩, h _ he ⟨_, Heap.get?_push_of_some _ (Heap.get?_push_size _ rfl), rfl, rfl⟩ fun b o x => Heap.get?_push_of_some _ (Heap.get?_push_of_some _ x)⟩
end
def Ite2 (K : PySem.W.Frag) (t : Bool) (a : Addr) : It :=
  ⟨fun i H => ∃ (xs : List V) (x : V), SqV K H t a xs ∧ xs[i]? = some x, fun i H v H' => ∃ T x, v = .ref T ∧ H T = none ∧ H' = upd H T (.tup [.int (i : Nat), x]) ∧ ∀ xs, SqV K H t a xs → xs[i]? = some x, fun i H => ∃ xs : List V, SqV K H t a xs ∧ xs.length ≤ i⟩
theorem turn_e {P : Program} {w : World} {K : PySem.W.Frag} {elts : List Expr} {kk : Nat} {tpos : Pos} (t : Bool) (a e it : Addr) :
    Turn P w K (.Tuple elts kk tpos) (Ite2 K t a) [e, it] e (fun i h => (∃ old, IsEnum h e it ((i : Nat) : Int) old) ∧ ItK t h it a i ∧ e ≠ it) where
  mem := by simp
  obj := fun i h st b hb => by
    obtain ⟨⟨old, he⟩, hi, _⟩ := st
    obtain ⟨o, ho, _, hd⟩ := hi.rec_
    rcases List.mem_cons.mp hb with rfl | hb
    · exact ⟨_, he, fun v q => nomatch q⟩
    · rw [List.mem_singleton.mp hb]
      exact ⟨o, ho, fun v q => by rw [hd] at q; cases q⟩
  keep := fun i h h' st k => by
    obtain ⟨⟨old, he⟩, hi, hne⟩ := st
    exact ⟨⟨old, k e (by simp) _ he⟩, hi.at fun o q => k it (by simp) o q, hne⟩
  item := by
    intro X hP hw hK hc i pins s σ H E I hf st hg
    subst hP hw hK
    obtain ⟨⟨old, he⟩, hit, hne⟩ := st
    obtain ⟨xs, x, hq, hx⟩ := hg
    obtain ⟨its, rv, p, hz⟩ := sqv_ob I hq
    obtain ⟨u, hu, ru⟩ := rv.get hx
    have hel : e < s.heap.objs.size := Heap.lt_size he
    have hil : it < s.heap.objs.size := hit.lt
    refine pyNext_item he hit p (x := u) (by simpa using hu) hne fun g eo it1 tp k1 => ?_
    refine ⟨_, rfl, wpAny_letOwnedTupleGo_enum (s := { s with heap := g, toks := s.toks + 1 }) eo fun g2 e2 sb => ?_⟩
    have tp2 : g2.get? s.heap.objs.size = some { cls := .type "tuple", data := .seq #[.int i s.toks, u] } := (sb.2 _ (Nat.ne_of_gt hel)).trans tp
    have new : ObjOk X.prog X.w (upd H s.heap.objs.size (.tup [.int (i : Nat), x])) g2 s.heap.objs.size (.tup [.int (i : Nat), x]) :=
      ⟨by show 2 ≤ sizeLine; decide, [.int i s.toks, u], .cons ⟨_, rfl⟩ (.cons ru .nil), ⟨_, tp2, rfl, _, rfl⟩⟩
    have I1 : Inv X pins σ (upd H s.heap.objs.size (.tup [.int (i : Nat), x])) { s with heap := g2, toks := s.toks + 1 } :=
      I.turnedNew (ch := [e, it]) (fun b ob hb q => (sb.2 b (fun z => hb (by simp [z]))).trans (k1 b ob (fun z => hb (by simp [z])) (fun z => hb (by simp [z])) q)) hf (Nat.le_refl _) new
    refine ⟨.ref s.heap.objs.size, _, I1, rfl, ⟨_, x, rfl, I.hok.fresh (Nat.le_refl _), rfl, fun ys hy => by rw [sqv_inj I hy hq]; exact hx⟩, ⟨⟨u, ?_⟩, it1.at fun o q => (sb.2 it (Ne.symm hne)).trans q, hne⟩, fun b hb => ?_⟩
    · rw [show ((i + 1 : Nat) : Int) = (i : Int) + 1 by omega]
      exact e2
    · have hb' : b < s.heap.objs.size := by
        rcases List.mem_cons.mp hb with rfl | hb
        · exact hel
        · rw [List.mem_singleton.mp hb]; exact hil
      rw [upd_ne (Nat.ne_of_lt hb')]
      exact (hf b hb).1
  done := by
    intro X hP hw hK hc i pins s σ H E I hf st hg
    subst hP hw hK
    obtain ⟨⟨old, he⟩, hit, hne⟩ := st
    obtain ⟨xs, hq, hx⟩ := hg
    obtain ⟨its, rv, p, hz⟩ := sqv_ob I hq
    have hl := rv.length
    exact pyNext_stop (I.ok.hd hc) he hit p (by simp; omega) hne fun g hk => ⟨rfl, I.turnedL (t' := s.toks) (ch := [e, it]) (fun b o hb q => hk b o (fun z => hb (by simp [z])) (fun z => hb (by simp [z])) q) hf⟩
  self := fun A i s Q E st h => let ⟨⟨_, he⟩, _⟩ := st; wpAny_pyIter_enum he h
def iEn (K : PySem.W.Frag) (ta : TA) : TI := fun σ H R => ta σ H fun vs H1 => ∃ t a xs, vs = [.ref a] ∧ SqV K H1 t a xs ∧ R (Ite2 K t a) H1
section
variable {X : Cx}
/-- for i, x in enumerate(xs), a list or a tuple -/
theorem pi_enumS {e : Expr} {ta : TA} {p pos tpos : Pos} {elts : List Expr} {kk : Nat} (hg : Gl X "enumerate") (hm : X.mg "enumerate" = none) (ha : PA X [e] ta)
    (hs : starEach [e] X.env = (false, eval e X.env) :: starEach [] X.env := by rfl) (hpl : (backTo pos (starEach [] X.env)).any (·.1) = false := by rfl) :
    PI X (.Tuple elts kk tpos) (.Call (.Name "enumerate" p) [e] [] pos) (iEn X.K ta) := by
  refine ⟨fun pins s σ H R I h => ?_⟩
  refine Call_ (ld_blt I hg hm PyProof.Rows.boot_enumerate (PyProof.Rows.callWith_type1 (thn (ha.run pos pins s σ H _ I h) fun us s1 ⟨vs, H1, I1, r1, q1⟩ => ?_) hs hpl))
  obtain ⟨t, a, xs, rfl, hq, q⟩ := q1
  obtain ⟨u, rfl, ru⟩ := vals1 r1
  cases (show u = Value.ref a from ru)
  obtain ⟨its, rv, p', hz⟩ := sqv_ob I1 hq
  refine call_enum p' fun g he hit hk => wpAny_pyIter_enum he ?_
  refine ⟨s1.heap.objs.size + 1, [s1.heap.objs.size + 1, s1.heap.objs.size], _, _, H1, rfl, I1.kept (t' := s1.toks) hk, turn_e t a (s1.heap.objs.size + 1) s1.heap.objs.size, ⟨⟨.none, he⟩, hit, Nat.succ_ne_self _⟩, fun b hb => ?_, q⟩
  have hle : s1.heap.objs.size ≤ b := by
    rcases List.mem_cons.mp hb with rfl | hb
    · exact Nat.le_succ _
    · rw [List.mem_singleton.mp hb]; exact Nat.le_refl _
  exact I1.fpOk hle (I1.hok.fresh hle)
end
end En
set_option Elab.async false
set_option linter.all false
set_option maxRecDepth 100000
set_option maxHeartbeats 1000000
namespace Gd
open PySem PySem.Spec PyProof.Rows L2
def Still (A : Around) : Prop := A.guards = some []
structure FnG (P : Program) (w : World) (K : PySem.W.Frag) (mg : Str → Option Value) (base : Heap) (CX : CXT) (k : Nat) (f : Addr) (fd : FuncData) (ps : List Str) (sp : Sp) : Prop where
  len : ∀ vs H Q E, sp vs H Q E → vs.length = ps.length
  run : ∀ (A : Around) (outer : List Env) (s : Shared) (H : Hp) (ar : Args) (us : List Value) (vs : List V) (Q : VK) (E : XK), Still A → Room k A → Env0 P w K mg base A outer s H → BindsTo s fd ar (ps.zip us) → Vals vs us → sp vs H Q E →
    codeAny (model P w) A (.call (.ref f) ar) (CR CX outer P w H s Q E) s
section
variable {P : Program} {w : World} {K : PySem.W.Frag} {mg : Str → Option Value} {base : Heap}
theorem fnG_of {CX : CXT} {k : Nat} {f : Addr} {nm qual : Str} {pa : Arguments} {bd : List Stmt} {sc : Scope} {dV kV doc pm cdv ct oc : Value} {an od : Option Addr}
    {osl : Array (Option Value)} {N ps : List Str} {sp : Sp} (hlk : K.lookup f = some ⟨oc, od, .func (PySem.W.fnOf nm qual pa bd sc dV kV doc pm an cdv ct), osl⟩) (hco : PySem.W.codeIn K cdv qual = true) (S : FnScope N ps sc)
    (len : ∀ vs H Q E, sp vs H Q E → vs.length = ps.length)
    (hb : ∀ (A : Around) (outer : List Env) (s : Shared) (H : Hp) (vs : List V) (Q : VK) (E : XK), Still A → Room k (A.deeper (envOfC qual sc s.heap.objs.size f cdv)) → sp vs H Q E →
      ∃ t, PSs (cxOf CX P w K mg base N qual sc f cdv A outer s H E) bd t ∧ t { nx := fun _ H2 => Q .non H2, rt := Q } (start N vs) H) :
    FnG P w K mg base CX (k + 1) f (PySem.W.fnOf nm qual pa bd sc dV kV doc pm an cdv ct) ps sp := by
  refine ⟨len, fun A outer s H ar us vs Q E hst room e0 bind rv hsp => ?_⟩
  have hlen := len vs H Q E hsp
  have inK : K.In s.heap := e0.mod.kin.keeps fun b o e => (e0.bs b o e).1
  have noLim : s.heap.NoLimit := e0.mod.nolimit.keeps fun b o e => (e0.bs b o e).1
  have kinds : ∀ y ∈ ps.zip us, sc.names.lookup y.1 = some .local ∨ (sc.names.lookup y.1 = some .cell ∧ ((cellsFrom (s.heap.objs.size + 1) sc.names []).lookup y.1).isSome = true) := by
    rintro ⟨n, v⟩ hy
    rcases S.par n (List.of_mem_zip hy).1 with q | q
    · exact .inl q
    · exact .inr ⟨q, PySem.W.cellsFrom_some _ _ _ (.inl q)⟩
  refine codeAny_call_function room.depth (inK f _ hlk) rfl S.co S.gen rfl (PySem.W.codeRec_of inK hco) (bind _ _ _ _ ?_)
  refine wpAny_newFunctionEnv_cells S.kind kinds fun env henv s2 inc => ?_
  subst henv
  refine ⟨noLim.keeps inc.toInCall.keep, codeAny_func ?_⟩
  obtain ⟨t, der, rd⟩ := hb A outer s H vs Q E hst (room.deeper _) hsp
  have J0 : Inv (cxOf CX P w K mg base N qual sc f cdv A outer s H E) [] (start N vs) H s2 := inv_start S room.hd e0 hlen rv inc
  refine wpAny_mono (der.run [] s2 (start N vs) H _ J0 rd) (fun fl s3 hfl => ?_) fun e s3 he => he
  have out : ∀ {σ2 : L2.St} {H2 : Hp} {v : V} {u : Value}, Inv (cxOf CX P w K mg base N qual sc f cdv A outer s H E) [] σ2 H2 s3 → RelV v u → Q v H2 → CE outer P w H s Q u s3 := by
    intro σ2 H2 v u J r q
    exact ⟨v, H2, J.os, J.bare, J.base, J.hok, r, q⟩
  cases fl with
  | ret u =>
    obtain ⟨v, σ2, H2, J, r, q⟩ := hfl
    exact out J r q
  | next =>
    obtain ⟨σ2, H2, J, q⟩ := hfl
    exact out (v := V.non) (u := Value.none) J rfl q
  | brk =>
    obtain ⟨_, _, _, no⟩ := hfl
    exact no.elim
  | cont =>
    obtain ⟨_, _, _, no⟩ := hfl
    exact no.elim
theorem okG {x qual : Str} {st : Stmt} {f : Addr} {fd : FuncData} {N ps : List Str} {k : Nat} {sp : Sp} (F : Fun K x qual st f fd) (S : FnScope N ps (defScope st)) (len : ∀ vs H Q E, sp vs H Q E → vs.length = ps.length)
    (hb : ∀ (cdv : Value) (A : Around) (outer : List Env) (s : Shared) (H : Hp) (vs : List V) (Q : VK) (E : XK), Still A → Room k (A.deeper (envOfC qual (defScope st) s.heap.objs.size f cdv)) → sp vs H Q E →
      ∃ t, PSs (cxOf CX0 P w K mg base N qual (defScope st) f cdv A outer s H E).nox (defBody st) t ∧ t { nx := fun _ H2 => Q .non H2, rt := Q } (start N vs) H) : FnG P w K mg base CX0 (k + 1) f fd ps sp := by
  obtain ⟨oc, od, kV, doc, pm, an, cdv, ct, osl, rfl, hlk, hco⟩ := F.ex
  refine fnG_of hlk hco S len fun A outer s H vs Q E hst room hsp => ?_
  obtain ⟨t, der, rd⟩ := hb cdv A outer s H vs Q E hst room hsp
  exact ⟨t, der.nox, rd⟩
end
section
variable {X : Cx} {CX : CXT} {k : Nat} {f : Addr} {fd : FuncData} {ps : List Str} {sp : Sp} {ds : List Value} {dvs : List V} {E : XK} {x : Str} {e : Expr} {es : List Expr} {t : TA} {p pos : Pos}
theorem runG {pins : List (Addr × Obj)} {σ : L2.St} {H : Hp} {s : Shared} {Q : VK} {us : List Value} {vs : List V} (F : FnG X.prog X.w X.K X.mg X.base CX k f fd ps sp) (hst : Still X.A) (room : Room k X.A) (hb : Binds X.K fd ps ds) (hd : Vals dvs ds) (hx : Passes CX X E)
    (I : Inv X pins σ H s) (rv : Vals vs us) (h : sp (vs ++ dvs) H Q E) : wpAny (model X.prog X.w) X.A (call (.ref f) us) (EP X pins σ Q) X.xe s := by
  have both : Vals (vs ++ dvs) (us ++ ds) := rv.append hd
  have hl : (us ++ ds).length = ps.length := by rw [← both.length]; exact F.len _ _ _ _ h
  refine wpAny_call (codeAny_mono (F.run X.A X.stack s H ⟨us, []⟩ (us ++ ds) (vs ++ dvs) Q E hst room I.env0 (hb s us I.kIn hl) both h) fun r s2 hq => ?_)
  cases r with
  | error er => exact hx pins σ H s er s2 I hq
  | ok fl =>
    cases fl with
    | ret u => exact I.after hq
    | next => exact (show False from hq).elim
    | brk => exact (show False from hq).elim
    | cont => exact (show False from hq).elim
theorem pe_callG (F : FnG X.prog X.w X.K X.mg X.base CX k f fd ps sp) (hst : Still X.A) (room : Room k X.A) (hg : Gl X x) (hm : X.mg x = some (.ref f)) (hk : PySem.W.keepIn X.K (.ref f) = true) (hb : Binds X.K fd ps ds) (hd : Vals dvs ds) (hx : Passes CX X E)
    (ha : PA X (e :: es) t) (hdb : (x == ("__debug__" : Str)) = false := by decide) (he : starEach (e :: es) X.env = (false, eval e X.env) :: starEach es X.env := by rfl) (hpl : (backTo pos (starEach es X.env)).any (·.1) = false := by rfl) :
    PE X (.Call (.Name x p) (e :: es) [] pos) (tCall sp dvs E t) := by
  refine ⟨fun pins s σ H Q I h => wpAny_Call_Name_kw (ld_glob I hg hm ?_ hdb)⟩
  refine PySem.W.callWith_K (h₀ := X.base) I.ok.mod.kin hk (thn (ha.run pos pins s σ H _ I h) fun us s1 ⟨vs, H1, I1, rv, q⟩ => ⟨I1.kIn, ?_⟩) he hpl
  exact runG F hst room hb hd hx I1 rv q
end
theorem lawG {P : Program} {w : World} {K : PySem.W.Frag} {mg mb : Str → Option Value} {k : Nat} {fa a : Addr} {fd : FuncData} {x : Str} {sp : Sp} {s₁ : Shared} {vs : List Value} {ns : List Int}
    (inK : K.In s₁.heap) (hns : s₁.heap.Ns mainGlobals mg) (hbn : s₁.heap.Ns builtinsNs mb) (hbb : ∀ x : Str, x ≠ "__name__" → mb x = bootBuiltins x) (hlim : s₁.heap.NoLimit) (hgen : s₁.gens = #[])
    (ha : s₁.heap.get? a = some { cls := .type "list", data := .seq vs.toArray }) (hi : IntsAre vs ns) (hl : ns.length ≤ sizeLine) (room : Room k callerA)
    (F : ∀ base : Heap, K.In base → base.Ns mainGlobals mg → FnG P w K mg base CX0 k fa fd [x] sp) (hbind : ∀ (s : Shared) (u : Value), BindsTo s fd ⟨[u], []⟩ [(x, u)])
    (hsp : ∀ H : Hp, Only H → SqL K H a (ns.map V.int) → sp [.ref a] H (fun v _ => v = .bl true) fun _ _ _ => False) :
    codeAny (model P w) callerA (.call (.ref fa) ⟨[.ref a], []⟩) (fun r s2 => r = .ok (.ret (.bool true)) ∧ OldK s₁.heap s2.heap ∧ s2.os = s₁.os ∧ AllBare s2.gens) s₁ := by
  have rv := vals_ints hi
  have lV := hi.length
  have main : ∀ H : Hp, Only H → SqL K H a (ns.map V.int) → HOk P w H s₁.heap → (∀ b, H b ≠ none → b = a) → (H a ≠ none → K.lookup a = none) →
      codeAny (model P w) callerA (.call (.ref fa) ⟨[.ref a], []⟩) (fun r s2 => r = .ok (.ret (.bool true)) ∧ OldK s₁.heap s2.heap ∧ s2.os = s₁.os ∧ AllBare s2.gens) s₁ := by
    intro H only sq hok justA notK
    have isA : ∀ {b : Addr} {u : HO}, H b = some u → b = a := fun {b u} q => justA b (by rw [q]; simp)
    have dictFree : ∀ {b : Addr} {o : Obj} {es : Array DictEntry} {ep : Nat}, s₁.heap.get? b = some o → o.data = .dict es ep → H b = none := by
      intro b o es ep e d
      cases q : H b with
      | none => rfl
      | some u =>
        have eb := isA q
        subst eb
        rw [ha] at e; cases e
        have bad : Data.seq vs.toArray _ = Data.dict es ep := d
        cases bad
    have under : ∀ {b : Addr} {m : Str → Option Value}, s₁.heap.Ns b m → (hidT s₁.heap H).Ns b m := by
      rintro b m ⟨o, es, ep, e, d, more⟩
      exact ⟨o, es, ep, hidT_get e (dictFree e d), d, more⟩
    have inB : K.In (hidT s₁.heap H) := by
      intro b o e
      refine hidT_get (inK b o e) ?_
      cases q : H b with
      | none => rfl
      | some u =>
        have eb := isA q
        subst eb
        rw [notK (by rw [q]; simp)] at e; cases e
    have modB : Mod K mg (hidT s₁.heap H) := by
      obtain ⟨mc, c1, c2⟩ := hlim
      exact ⟨inB, under hns, ⟨mb, under hbn, hbb⟩, mc, under c1, c2⟩
    have env0 : Env0 P w K mg (hidT s₁.heap H) callerA [] s₁ H := by
      refine ⟨rfl, modB, fun b o e => of_hidT e, Nat.le_of_eq (hidT_size _ _), trivial, fun b hb => ?_, hok, .of_eq hgen⟩
      cases (show b ∈ ([] : List Addr) from hb)
    refine codeAny_mono ((F _ inB (under hns)).run callerA [] s₁ H ⟨[.ref a], []⟩ [.ref a] [.ref a] _ _ rfl room env0 (hbind s₁ (.ref a)) (.cons rfl .nil) (hsp H only sq)) fun r s2 h => ?_
    cases r with
    | error e => exact (show False from h).elim
    | ok fl =>
      cases fl with
      | next => exact (show False from h).elim
      | brk => exact (show False from h).elim
      | cont => exact (show False from h).elim
      | ret u =>
        obtain ⟨v, H2, sameOs, bareG, un, hok2, ru, qv⟩ := h
        have ev : v = .bl true := qv
        subst ev
        have eu : u = Value.bool true := ru
        subst eu
        refine ⟨rfl, OldK.of_keep ?_, sameOs, bareG⟩
        intro b o e
        cases q : H b with
        | none =>
          refine un.keep b o e q (fun z => ?_) (by simp)
          cases (show b ∈ ([] : List Addr) from z)
        | some u2 =>
          rcases only b with z | ⟨ob, xs, z⟩
          · rw [q] at z; cases z
          · have z2 := un.frzs b ob _ z
            have f1 := (hok b _ z).1
            have f2 := (hok2 b _ z2).1
            rw [e] at f1; cases f1
            exact f2
  cases hk : K.lookup a with
  | some o =>
    have e := inK a o hk
    rw [ha] at e
    cases e
    refine main (fun _ => none) (fun _ => .inl rfl) (.inr ⟨_, vs.toArray, _, hk, rfl, rfl, rfl, ?_, by simpa using rv⟩) (fun b u z => by cases (show (none : Option HO) = some u from z)) (fun b z => (z rfl).elim) fun z => (z rfl).elim
    rw [List.size_toArray, lV]
    exact hl
  | none =>
    have at_ : ∀ b, b = a → (if b = a then some (HO.frz { cls := .type "list", data := .seq vs.toArray } (.lst (ns.map V.int))) else none) = some (HO.frz { cls := .type "list", data := .seq vs.toArray } (.lst (ns.map V.int))) := fun b e => if_pos e
    have off : ∀ b, ¬ b = a → (if b = a then some (HO.frz { cls := .type "list", data := .seq vs.toArray } (.lst (ns.map V.int))) else none) = none := fun b e => if_neg e
    refine main (fun b => if b = a then some (.frz { cls := .type "list", data := .seq vs.toArray } (.lst (ns.map V.int))) else none) (fun b => ?_) (.inl (.inr ⟨_, at_ a rfl⟩)) (fun b u z => ?_) (fun b z => ?_) fun _ => hk
    · by_cases hb : b = a
      · exact .inr ⟨_, _, at_ b hb⟩
      · exact .inl (off b hb)
    · by_cases hb : b = a
      · have z2 := (at_ b hb).symm.trans z
        cases z2
        subst hb
        exact ⟨ha, by rw [List.length_map]; exact hl, vs, _, rv, ha⟩
      · have z2 := (off b hb).symm.trans z
        cases z2
    · by_cases hb : b = a
      · exact hb
      · exact (z (off b hb)).elim
theorem walkG {l : PySem.W.OpenLaw} {n k : Nat} {q : Program} {loose : List Str} {XP : (Str → Option Value) → Heap → Prop} {YP : World → Heap → Prop} {d : DefRec} {K : Params → PySem.W.Frag} {sp : World → Sp} {x : Str}
    (hn : l.most = some n) (hn2 : n ≤ sizeLine) (hdf : d.params.defaults = []) (room : Room k callerA) (hY : ∀ (w : World) (h : Heap), YP w h → (K w.params).In h)
    (F : ∀ (w : World) (mg : Str → Option Value) (fa : Addr) (h : Heap), (K w.params).In h → h.Ns mainGlobals mg → mg d.name = some (.ref fa) →
      ∃ fd : FuncData, (∀ (s : Shared) (u : Value), BindsTo s fd ⟨[u], []⟩ [(x, u)]) ∧
        ∀ base : Heap, (K w.params).In base → base.Ns mainGlobals mg → FnG l.prog w (K w.params) mg base CX0 k fa fd [x] (sp w))
    (hsp : ∀ (w : World) (H : Hp) (a : Addr) (ns : List Int), ns.length ≤ n → Only H → SqL (K w.params) H a (ns.map V.int) → sp w [.ref a] H (fun v _ => v = .bl true) fun _ _ _ => False) :
    PySem.W.WalkO q loose XP YP l.row.toRowW d [] (fun f vs => PySem.call f vs) := by
  refine Att.attach_call hn hdf fun w s₀ s₁ mg mb fa o pm cd doc a vs ns G Y ho hd hcd hmg hobj hints hlen hgen => ?_
  have inK := hY w s₁.heap Y
  obtain ⟨fd, hb, hF⟩ := F w mg fa s₁.heap inK G.T.g hmg
  exact lawG inK G.T.g G.T.b G.T.builtins G.T.nolimit hgen hobj hints (Nat.le_trans hlen hn2) room hF hb fun H hO hS => hsp w H a ns hlen hO hS
end Gd
set_option Elab.async false
set_option linter.all false
set_option maxRecDepth 100000
set_option maxHeartbeats 1000000
namespace Rp
open PySem PySem.Spec PyProof.Rows L2 Gd
mutual
inductive PyV (H : Hp) : V → PyData → Prop
  | non : PyV H .non .none
  | bl (b : Bool) : PyV H (.bl b) (.bool b)
  | int (i : Int) : PyV H (.int i) (.int i)
  | str (x : Str) : PyV H (.str x) (.str x)
  | lst {a : Addr} {xs : List V} {ds : List PyData} : H a = some (.lst xs) → PyVs H xs ds → PyV H (.ref a) (.list ds)
  | tup {a : Addr} {xs : List V} {ds : List PyData} : H a = some (.tup xs) → PyVs H xs ds → PyV H (.ref a) (.tuple ds)
inductive PyVs (H : Hp) : List V → List PyData → Prop
  | nil : PyVs H [] []
  | cons {x : V} {xs : List V} {d : PyData} {ds : List PyData} : PyV H x d → PyVs H xs ds → PyVs H (x :: xs) (d :: ds)
end
mutual
theorem PyV.mono {H H' : Hp} (s : Same H H') : ∀ {v : V} {d : PyData}, PyV H v d → PyV H' v d
  | _, _, .non => .non
  | _, _, .bl b => .bl b
  | _, _, .int i => .int i
  | _, _, .str x => .str x
  | _, _, .lst e q => .lst (s _ _ e) (PyVs.mono s q)
  | _, _, .tup e q => .tup (s _ _ e) (PyVs.mono s q)
theorem PyVs.mono {H H' : Hp} (s : Same H H') : ∀ {vs : List V} {ds : List PyData}, PyVs H vs ds → PyVs H' vs ds
  | _, _, .nil => .nil
  | _, _, .cons q qs => .cons (PyV.mono s q) (PyVs.mono s qs)
end
/-- a dict of ints and texts to scalars -/
def scalD : V → Option PyData
  | .non => some .none
  | .bl b => some (.bool b)
  | .int i => some (.int i)
  | .str x => some (.str x)
  | _ => none
def keyD : Key → PyData
  | .inl i => .int i
  | .inr x => .str x
/-- a dict with scalars alone -/
inductive Flat : List (Key × V) → List (PyData × PyData) → Prop
  | nil : Flat [] []
  | cons {k : Key} {v : V} {d : PyData} {kvs : List (Key × V)} {r : List (PyData × PyData)} : scalD v = some d → Flat kvs r → Flat ((k, v) :: kvs) ((keyD k, d) :: r)
end Rp
set_option Elab.async false
set_option linter.all false
set_option maxRecDepth 100000
set_option maxHeartbeats 1000000
namespace Dn
open PySem PySem.Spec PyProof.Rows L2 Gd Zn Rp
/-- the pot: two counts -/
def PotOk (H : Hp) (p : Addr) : Prop := ∃ a b : Int, H p = some (.lst [.int a, .int b]) ∧ 0 ≤ a ∧ 0 ≤ b ∧ b < 2 ^ 32
/-- all but the pot stays; the pot stays a pot -/
structure RX (p : Option Addr) (H H' : Hp) : Prop where
  keep : ∀ c o, p ≠ some c → H c = some o → H' c = some o
  pot : ∀ a, p = some a → PotOk H a → PotOk H' a
theorem RX.refl {p : Option Addr} (H : Hp) : RX p H H := ⟨fun _ _ _ e => e, fun _ _ e => e⟩
theorem RX.trans {p : Option Addr} {H H1 H2 : Hp} (a : RX p H H1) (b : RX p H1 H2) : RX p H H2 := ⟨fun c o n e => b.keep c o n (a.keep c o n e), fun q e k => b.pot q e (a.pot q e k)⟩
theorem RX.of {p : Option Addr} {H H' : Hp} (s : Same H H') : RX p H H' := ⟨fun c o _ e => s c o e, fun a _ ⟨x, y, e, r⟩ => ⟨x, y, s a _ e, r⟩⟩
theorem RX.same {H H' : Hp} (s : RX none H H') : Same H H' := fun c o e => s.keep c o (by simp) e
theorem same_new {H : Hp} {p : Addr} {o : HO} (h : H p = none) : Same H (upd H p o) := fun b x e => by rw [upd_ne (ne_of_none e h)]; exact e
theorem RX.new {p : Option Addr} {H : Hp} {a : Addr} {o : HO} (h : H a = none) : RX p H (upd H a o) := .of (same_new h)
theorem PotOk.some_ {H : Hp} {p : Addr} (h : PotOk H p) : H p ≠ none := by
  obtain ⟨a, b, e, _⟩ := h
  rw [e]
  simp
/-- what H did not know may change -/
theorem RX.mut {p : Option Addr} {H H' : Hp} {a : Addr} {o : HO} (s : RX p H H') (h : H a = none) (hp : ∀ q, p = some q → PotOk H q) : RX p H (upd H' a o) := by
  refine ⟨fun c u n e => ?_, fun q e k => ?_⟩
  · rw [upd_ne (ne_of_none e h)]
    exact s.keep c u n e
  · have nq : q ≠ a := fun z => by subst z; exact (hp q e).some_ h
    obtain ⟨x, y, e1, r⟩ := s.pot q e k
    exact ⟨x, y, by rw [upd_ne nq]; exact e1, r⟩
/-- the pot is there, where there is one -/
def Has (p : Option Addr) (H : Hp) : Prop := ∀ q, p = some q → PotOk H q
theorem Has.to {p : Option Addr} {H H' : Hp} (h : Has p H) (s : RX p H H') : Has p H' := fun q e => s.pot q e (h q e)
theorem has_none {H : Hp} : Has none H := fun q e => by cases e
theorem Has.ne {p : Option Addr} {H : Hp} (h : Has p H) {a : Addr} (n : H a = none) : p ≠ some a := fun e => (h a e).some_ n
/-- the heap without the pot -/
def hid (p : Option Addr) (H : Hp) : Hp := fun b => if p = some b then none else H b
theorem hid_at {p : Option Addr} {H : Hp} {a : Addr} (n : p ≠ some a) : hid p H a = H a := if_neg n
theorem hid_le {p : Option Addr} {H : Hp} : Same (hid p H) H := fun b o e => by
  unfold hid at e
  split at e
  · cases e
  · exact e
theorem RX.hid {p : Option Addr} {H H' : Hp} (s : RX p H H') : Same (hid p H) (hid p H') := fun b o e => by
  unfold Dn.hid at e ⊢
  split
  · rename_i q; rw [if_pos q] at e; cases e
  · rename_i q; rw [if_neg q] at e; exact s.keep b o q e
/-- what a comprehension asks of its iterator -/
def LcB (g : TG) (tt : TT) (te : TE) (vs : List Nat) (σ : L2.St) (Q : VK) (J : It) (H1 : Hp) : Prop := ∀ D, H1 D = none → ∃ W : Nat → Nat → Hp → Prop, (∃ m, W 0 m (upd H1 D (.lst []))) ∧ ∀ i m H, W i m H →
  (J.stop i H ∧ Q (.ref D) H) ∨ (J.go i H ∧ ∃ Nx : Hp → Prop, (∀ H', Nx H' → ∃ m', m' < m ∧ W (i + 1) m' H') ∧ ∀ x H', J.yld i H x H' → g x (wipe σ vs) H' fun σ2 H2 => wipe σ2 vs = wipe σ vs ∧ tt σ2 H2 fun b H3 =>
    if b = true then te σ2 H3 fun y H4 => ∃ acc, H4 D = some (.lst acc) ∧ acc.length < sizeLine ∧ Nx (upd H4 D (.lst (acc ++ [y]))) else Nx H3)
/-- [e for .. in J] where the elements are scalars that El tells -/
theorem lc_el {p : Option Addr} {J : It} {g : TG} {te : TE} {vs : List Nat} {σ : L2.St} {H1 : Hp} {Q : VK} (n : Nat) (El : Nat → V → Prop) (hp : Has p H1) (hn : n ≤ 1000)
    (hgo : ∀ i H, i < n → RX p H1 H → J.go i H) (hst : ∀ H, RX p H1 H → J.stop n H)
    (hs : ∀ i x H H' (C : VK), i < n → RX p H1 H → Has p H → J.yld i H x H' → (∀ y H4, RX p H H4 → El i y → C y H4) → g x (wipe σ vs) H' fun σ2 H2 => wipe σ2 vs = wipe σ vs ∧ te σ2 H2 C)
    (hd : ∀ D H xs, H1 D = none → RX p H1 H → H D = some (.lst xs) → xs.length = n → (∀ i v, xs[i]? = some v → El i v) → Q (.ref D) H) :
    LcB g tYes te vs σ Q J H1 := by
  intro D nD
  have nP : p ≠ some D := hp.ne nD
  refine ⟨fun i m H => i ≤ n ∧ m = n - i ∧ RX p H1 H ∧ ∃ xs, H D = some (.lst xs) ∧ xs.length = i ∧ ∀ j v, xs[j]? = some v → El j v, ⟨n, Nat.zero_le _, rfl, RX.new nD, [], upd_same, rfl, fun j v e => by simp at e⟩, ?_⟩
  rintro i m H ⟨hi, rfl, s1, xs, hD, hl, hE⟩
  by_cases hlt : i < n
  · refine .inr ⟨hgo i H hlt s1, fun H' => i + 1 ≤ n ∧ RX p H1 H' ∧ ∃ xs, H' D = some (.lst xs) ∧ xs.length = i + 1 ∧ ∀ j v, xs[j]? = some v → El j v, fun H' h => ⟨n - (i + 1), by omega, h.1, rfl, h.2⟩, fun x H' hy => ?_⟩
    refine hs i x H H' _ hlt s1 (hp.to s1) hy fun y H4 s4 e4 => ?_
    have hD4 := s4.keep D _ nP hD
    have s5 : RX p H1 (upd H4 D (.lst (xs ++ [y]))) := (s1.trans s4).mut nD hp
    refine ⟨xs, hD4, Nat.lt_of_lt_of_le (by omega : xs.length < 1001) (by decide), hlt, s5, xs ++ [y], upd_same, by simp [hl], fun j v e => ?_⟩
    by_cases hj : j < xs.length
    · rw [List.getElem?_append_left hj] at e
      exact hE j v e
    · rw [List.getElem?_append_right (by omega)] at e
      have z : j - xs.length = 0 := by
        by_cases q : j - xs.length = 0
        · exact q
        · rw [List.getElem?_eq_none (by simp; omega)] at e; cases e
      rw [z] at e
      cases e
      have : j = i := by omega
      subst this
      exact e4
  · have e : i = n := by omega
    subst e
    exact .inl ⟨hst H s1, hd D H xs nD s1 hD hl hE⟩
/-- .. with a test -/
theorem lc_if {p : Option Addr} {J : It} {g : TG} {tt : TT} {te : TE} {vs : List Nat} {σ : L2.St} {H1 : Hp} {Q : VK} (n : Nat) (T : Nat → Bool) (f : Nat → V) (hp : Has p H1) (hn : n ≤ 1000)
    (hgo : ∀ i H, i < n → RX p H1 H → J.go i H) (hst : ∀ H, RX p H1 H → J.stop n H)
    (hs : ∀ i x H H' (C : V → Hp → Prop) (C0 : Hp → Prop), i < n → RX p H1 H → Has p H → J.yld i H x H' → (∀ H4, RX p H H4 → T i = true → C (f i) H4) → (∀ H4, RX p H H4 → T i = false → C0 H4) →
      g x (wipe σ vs) H' fun σ2 H2 => wipe σ2 vs = wipe σ vs ∧ tt σ2 H2 fun b H3 => if b = true then te σ2 H3 C else C0 H3)
    (hd : ∀ D H, H1 D = none → RX p H1 H → H D = some (.lst (((List.range n).filter T).map f)) → Q (.ref D) H) :
    LcB g tt te vs σ Q J H1 := by
  intro D nD
  have nP : p ≠ some D := hp.ne nD
  refine ⟨fun i m H => i ≤ n ∧ m = n - i ∧ RX p H1 H ∧ H D = some (.lst (((List.range i).filter T).map f)), ⟨n, Nat.zero_le _, rfl, RX.new nD, upd_same⟩, ?_⟩
  rintro i m H ⟨hi, rfl, s1, hD⟩
  by_cases hlt : i < n
  · refine .inr ⟨hgo i H hlt s1, fun H' => i + 1 ≤ n ∧ RX p H1 H' ∧ H' D = some (.lst (((List.range (i + 1)).filter T).map f)), fun H' h => ⟨n - (i + 1), by omega, h.1, rfl, h.2⟩, fun x H' hy => ?_⟩
    refine hs i x H H' _ _ hlt s1 (hp.to s1) hy (fun H4 s4 e4 => ?_) fun H4 s4 e4 => ?_
    · have hD4 := s4.keep D _ nP hD
      refine ⟨_, hD4, ?_, hlt, (s1.trans s4).mut nD hp, ?_⟩
      · rw [List.length_map]
        have := List.length_filter_le T (List.range i)
        rw [List.length_range] at this
        exact Nat.lt_of_lt_of_le (by omega : _ < 1001) (by decide)
      · rw [upd_same, List.range_succ, List.filter_append, List.map_append]
        simp [e4]
    · refine ⟨hlt, s1.trans s4, ?_⟩
      rw [s4.keep D _ nP hD, List.range_succ, List.filter_append, List.map_append]
      simp [e4]
  · have e : i = n := by omega
    subst e
    exact .inl ⟨hst H s1, hd D H nD s1 hD⟩
/-- the whole comprehension, from what its iterator gives -/
theorem tlc_of {wi : TI} {g : TG} {tt : TT} {te : TE} {vs : List Nat} {σ : L2.St} {H H1 : Hp} {Q : VK} (J : It) (hw : ∀ R : It → Hp → Prop, R J H1 → wi σ H R) (h : LcB g tt te vs σ Q J H1) : tLc wi g tt te vs σ H Q := hw _ h
section
variable {σ : L2.St} {H : Hp} {Q : VK} {te ta : TE} {t : TA} {D : Ends}
theorem r_next (h : D.nx σ H) : tNext D σ H := h
theorem r_nif {c : TT} {t u : TS} {rt : VK} {bk ct : L2.St → Hp → Prop} (h : c σ H fun b H1 => if b = true then t D σ H1 else u D σ H1) : tNext ⟨tIfS c t u D, rt, bk, ct⟩ σ H := h
theorem r_nret {rt : VK} {bk ct : L2.St → Hp → Prop} (h : te σ H D.rt) : tNext ⟨tRet te D, rt, bk, ct⟩ σ H := h
theorem r_nseq {t u : TS} {rt : VK} {bk ct : L2.St → Hp → Prop} (h : t { D with nx := u D } σ H) : tNext ⟨tSeq t u D, rt, bk, ct⟩ σ H := h
theorem r_if {c : TT} {t u : TS} (h : c σ H fun b H1 => if b = true then t D σ H1 else u D σ H1) : tIfS c t u D σ H := h
theorem r_not {c : TT} {Q : Bool → Hp → Prop} (h : c σ H fun b H1 => Q (!b) H1) : tNot c σ H Q := h
theorem r_b {Q : Bool → Hp → Prop} (h : te σ H fun x H1 => ∃ c, x = .bl c ∧ Q c H1) : tB te σ H Q := h
theorem r_seq {t u : TS} (h : t { D with nx := u D } σ H) : tSeq t u D σ H := h
theorem r_asg {g : TG} (h : te σ H fun x H1 => g x σ H1 D.nx) : tAsg te g D σ H := h
theorem r_op {r : R2} {ta tb : TE} (h : ta σ H fun x H1 => tb σ H1 fun y H2 => r x y H2 Q) : tOp r ta tb σ H Q := h
theorem r_ret (h : te σ H D.rt) : tRet te D σ H := h
theorem r_cb {r : List V → Hp → VK → Prop} (h : t σ H fun vs H1 => r vs H1 Q) : tCB r t σ H Q := h
theorem r_cons {Q : List V → Hp → Prop} (h : ta σ H fun x H1 => t σ H1 fun xs H2 => Q (x :: xs) H2) : tCons ta t σ H Q := h
end
theorem row2 {K : PySem.W.Frag} {H : Hp} {i : Nat} {t1 t2 : Bool} {a b : Addr} {xs ys : List V} {x y : V} (h1 : SqV K H t1 a xs) (e1 : xs[i]? = some x) (h2 : SqV K H t2 b ys) (e2 : ys[i]? = some y) : RowAt K H i [(t1, a), (t2, b)] [x, y] := ⟨⟨_, h1, e1⟩, ⟨_, h2, e2⟩, trivial⟩
def Its (t : Bool) (K : PySem.W.Frag) (a : Addr) : It := cond t (Itt K a) (Itl K a)
theorem its_go {t : Bool} {K : PySem.W.Frag} {a : Addr} {H : Hp} {xs : List V} {x : V} {i : Nat} (q : SqV K H t a xs) (e : xs[i]? = some x) : (Its t K a).go i H := by
  cases t with
  | true => exact ⟨xs, x, q, e⟩
  | false => exact ⟨xs, x, q, e⟩
theorem its_stop {t : Bool} {K : PySem.W.Frag} {a : Addr} {H : Hp} {xs : List V} {i : Nat} (q : SqV K H t a xs) (e : xs.length ≤ i) : (Its t K a).stop i H := by
  cases t with
  | true => exact ⟨xs, q, e⟩
  | false => exact ⟨xs, q, e⟩
theorem its_yld {t : Bool} {K : PySem.W.Frag} {a : Addr} {H H' : Hp} {xs : List V} {x : V} {i : Nat} (y : (Its t K a).yld i H x H') (q : SqV K H t a xs) : H' = H ∧ xs[i]? = some x := by
  cases t with
  | true => exact ⟨y.1, y.2 xs q⟩
  | false => exact ⟨y.1, y.2 xs q⟩
def iSeq (K : PySem.W.Frag) (tl : TE) : TI := fun σ H R => tl σ H fun x H1 => ∃ t a xs, x = .ref a ∧ SqV K H1 t a xs ∧ R (Its t K a) H1
section
variable {X : Cx}
theorem pi_seq {tg l : Expr} {tl : TE} (hl : PE X l tl) : PI X tg l (iSeq X.K tl) := by
  refine ⟨fun pins s σ H R I h => thn (hl.run pins s σ H _ I h) fun v s1 hv => ?_⟩
  obtain ⟨x, H1, I1, rx, t, a, xs, rfl, hq, hR⟩ := hv
  cases (show v = Value.ref a from rx)
  have fr : ∀ b ∈ [s1.heap.objs.size], FpOk X pins H1 b := fun b hb => by
    obtain rfl : b = s1.heap.objs.size := by simpa using hb
    exact I1.fpOk (Nat.le_refl _) (I1.hok.fresh (Nat.le_refl _))
  cases t with
  | true =>
    obtain ⟨its, rv, p, _⟩ := I1.tuple hq
    exact wpAny_pyIter_tuple p ⟨s1.heap.objs.size, [s1.heap.objs.size], _, _, H1, rfl, I1.kept (t' := s1.toks) fun b o e => Heap.get?_push_of_some _ e, turn_tuple a _, ⟨_, Heap.get?_push_size _ rfl, rfl, rfl⟩, fr, hR⟩
  | false =>
    obtain ⟨its, rv, p, _⟩ := I1.list hq
    exact wpAny_pyIter_list p.isList ⟨s1.heap.objs.size, [s1.heap.objs.size], _, _, H1, rfl, I1.kept (t' := s1.toks) fun b o e => Heap.get?_push_of_some _ e, turn_list a _, ⟨_, Heap.get?_push_size _ rfl, rfl, rfl⟩, fr, hR⟩
end
theorem sq_or {t : Bool} {K : PySem.W.Frag} {a : Addr} {H : Hp} {xs : List V} (q : SqV K H t a xs) : SqL K H a xs ∨ SqT K H a xs := by
  cases t with
  | true => exact .inr q
  | false => exact .inl q
def rIxS2 (K : PySem.W.Frag) : R2 := fun x y H Q => ∃ t p xs i v, x = .ref p ∧ y = .int i ∧ SqV K H t p xs ∧ atI xs i = some v ∧ Q v H
theorem ix_sq {X : Cx} : IxR X (rIxS2 X.K) := by
  intro value slice pins s σ H x y v u Q I rx ry h hs
  obtain ⟨t, p, xs, i, z, e1, e2, hq, he, q⟩ := h
  cases t with
  | true => exact ix_tup value slice pins s σ H x y v u Q I rx ry ⟨p, xs, i, z, e1, e2, hq, he, q⟩ hs
  | false => exact ix_list value slice pins s σ H x y v u Q I rx ry ⟨p, xs, i, z, e1, e2, hq, he, q⟩ hs
def rLen (K : PySem.W.Frag) : List V → Hp → VK → Prop := fun xs H Q => ∃ p ys, xs = [.ref p] ∧ (SqL K H p ys ∨ SqT K H p ys) ∧ Q (.int ys.length) H
theorem c_len {X : Cx} : CallR X (.builtin "len") (rLen X.K) := call_len_seq
section
variable {X : Cx}
theorem pss_dead {st : List Stmt} : PSs X st (fun _ _ _ => False) := ⟨fun _ _ _ _ _ _ h => h.elim⟩
end
end Dn
set_option Elab.async false
set_option linter.all false
set_option maxRecDepth 100000
set_option maxHeartbeats 1000000
namespace Tb
open PySem PySem.Spec PyProof.Rows L2 Gd Zn Rp Dn
def KS (H H' : Hp) : Prop := ∀ c o, (∀ xs, o ≠ .lst xs) → H c = some o → H' c = some o
theorem KS.refl (H : Hp) : KS H H := fun _ _ _ e => e
theorem KS.trans {H H1 H2 : Hp} (a : KS H H1) (b : KS H1 H2) : KS H H2 := fun c o n e => b c o n (a c o n e)
theorem KS.of {H H' : Hp} (s : Same H H') : KS H H' := fun c o _ e => s c o e
theorem KS.rx {p : Option Addr} {H H' : Hp} (s : RX p H H') (hp : Has p H) : KS H H' := fun c o n e => by
  refine s.keep c o (fun z => ?_) e
  obtain ⟨a, b, e2, _⟩ := hp c z
  rw [e] at e2
  cases e2
  exact n _ rfl
theorem KS.lst {H : Hp} {a : Addr} {xs : List V} {o' : HO} (e : H a = some (.lst xs)) : KS H (upd H a o') := fun c o n q => by
  have nc : c ≠ a := fun z => by
    subst z
    rw [q] at e
    cases e
    exact n _ rfl
  rw [upd_ne nc]
  exact q
/-- a row, a table of rows: tuples -/
def RowV (H : Hp) (v : V) (r : List Int) : Prop := ∃ b, v = .ref b ∧ H b = some (.tup (r.map V.int))
inductive RowsV (H : Hp) : List V → List (List Int) → Prop
  | nil : RowsV H [] []
  | cons {v : V} {vs : List V} {r : List Int} {M : List (List Int)} : RowV H v r → RowsV H vs M → RowsV H (v :: vs) (r :: M)
def Mx (H : Hp) (v : V) (M : List (List Int)) : Prop := ∃ a vs, v = .ref a ∧ H a = some (.tup vs) ∧ RowsV H vs M
theorem RowV.mono {H H' : Hp} {v : V} {r : List Int} (s : KS H H') (h : RowV H v r) : RowV H' v r := by
  obtain ⟨b, e, h⟩ := h
  exact ⟨b, e, s b _ (fun _ z => by cases z) h⟩
theorem RowsV.mono {H H' : Hp} {vs : List V} {M : List (List Int)} (s : KS H H') (h : RowsV H vs M) : RowsV H' vs M := by
  induction h with
  | nil => exact .nil
  | cons p _ ih => exact .cons (p.mono s) ih
theorem Mx.mono {H H' : Hp} {v : V} {M : List (List Int)} (s : KS H H') (h : Mx H v M) : Mx H' v M := by
  obtain ⟨a, vs, e, h, r⟩ := h
  exact ⟨a, vs, e, s a _ (fun _ z => by cases z) h, r.mono s⟩
theorem RowsV.len {H : Hp} {vs : List V} {M : List (List Int)} (h : RowsV H vs M) : vs.length = M.length := by
  induction h with
  | nil => rfl
  | cons _ _ ih => rw [List.length_cons, List.length_cons, ih]
theorem RowsV.get {H : Hp} {vs : List V} {M : List (List Int)} (h : RowsV H vs M) {i : Nat} {v : V} (e : vs[i]? = some v) : ∃ r, M[i]? = some r ∧ RowV H v r := by
  induction h generalizing i with
  | nil => simp at e
  | cons p _ ih =>
    cases i with
    | zero =>
      cases e
      exact ⟨_, rfl, p⟩
    | succ i =>
      obtain ⟨r, h1, h2⟩ := ih (i := i) (by simpa using e)
      exact ⟨r, by simpa using h1, h2⟩
theorem rows_of {H : Hp} : ∀ {vs : List V} {M : List (List Int)}, vs.length = M.length → (∀ (i : Nat) (v : V), vs[i]? = some v → ∃ r, M[i]? = some r ∧ RowV H v r) → RowsV H vs M
  | [], [], _, _ => .nil
  | v :: vs, r :: M, hl, h => by
    obtain ⟨r', e, p⟩ := h 0 v rfl
    cases e
    exact .cons p (rows_of (Nat.succ.inj hl) fun i w e => h (i + 1) w e)
theorem RowV.py {H : Hp} {v : V} {r : List Int} (h : RowV H v r) : PyV H v (.tuple (r.map PyData.int)) := by
  obtain ⟨b, rfl, h⟩ := h
  refine .tup h ?_
  clear h
  induction r with
  | nil => exact .nil
  | cons x r ih => exact .cons (.int x) ih
theorem RowsV.py {H : Hp} {vs : List V} {M : List (List Int)} (h : RowsV H vs M) : PyVs H vs (M.map fun r => .tuple (r.map PyData.int)) := by
  induction h with
  | nil => exact .nil
  | cons p _ ih => exact .cons p.py ih
def mxD (M : List (List Int)) : PyData := .tuple (M.map fun r => .tuple (r.map PyData.int))
theorem Mx.py {H : Hp} {v : V} {M : List (List Int)} (h : Mx H v M) : PyV H v (mxD M) := by
  obtain ⟨a, vs, rfl, h, r⟩ := h
  exact .tup h r.py
/-- a comprehension whose elements hang on what is no list -/
theorem lc_ks {p : Option Addr} {J : It} {g : TG} {te : TE} {vs : List Nat} {σ : L2.St} {H1 : Hp} {Q : VK} (n : Nat) (El : Nat → V → Hp → Prop) (mono : ∀ i v H H', KS H H' → El i v H → El i v H') (hp : Has p H1) (hn : n ≤ 1000)
    (hgo : ∀ i H, i < n → RX p H1 H → J.go i H) (hst : ∀ H, RX p H1 H → J.stop n H)
    (hs : ∀ i x H H' (C : VK), i < n → RX p H1 H → Has p H → J.yld i H x H' → (∀ y H4, RX p H H4 → El i y H4 → C y H4) → g x (wipe σ vs) H' fun σ2 H2 => wipe σ2 vs = wipe σ vs ∧ te σ2 H2 C)
    (hd : ∀ D H xs, H1 D = none → RX p H1 H → H D = some (.lst xs) → xs.length = n → (∀ i v, xs[i]? = some v → El i v H) → Q (.ref D) H) : LcB g tYes te vs σ Q J H1 := by
  intro D nD
  have nP : p ≠ some D := hp.ne nD
  refine ⟨fun i m H => i ≤ n ∧ m = n - i ∧ RX p H1 H ∧ ∃ xs, H D = some (.lst xs) ∧ xs.length = i ∧ ∀ j v, xs[j]? = some v → El j v H, ⟨n, Nat.zero_le _, rfl, RX.new nD, [], upd_same, rfl, fun j v e => by simp at e⟩, ?_⟩
  rintro i m H ⟨hi, rfl, s1, xs, hD, hl, hE⟩
  by_cases hlt : i < n
  · refine .inr ⟨hgo i H hlt s1, fun H' => i + 1 ≤ n ∧ RX p H1 H' ∧ ∃ xs, H' D = some (.lst xs) ∧ xs.length = i + 1 ∧ ∀ j v, xs[j]? = some v → El j v H', fun H' h => ⟨n - (i + 1), by omega, h.1, rfl, h.2⟩, fun x H' hy => ?_⟩
    have hpH := hp.to s1
    refine hs i x H H' _ hlt s1 hpH hy fun y H4 s4 e4 => ?_
    have hD4 := s4.keep D _ nP hD
    have s5 : RX p H1 (upd H4 D (.lst (xs ++ [y]))) := (s1.trans s4).mut nD hp
    have k5 : KS H4 (upd H4 D (.lst (xs ++ [y]))) := KS.lst hD4
    refine ⟨xs, hD4, Nat.lt_of_lt_of_le (by omega : xs.length < 1001) (by decide), hlt, s5, xs ++ [y], upd_same, by simp [hl], fun j v e => ?_⟩
    by_cases hj : j < xs.length
    · rw [List.getElem?_append_left hj] at e
      exact mono _ _ _ _ ((KS.rx s4 hpH).trans k5) (hE j v e)
    · rw [List.getElem?_append_right (by omega)] at e
      have z : j - xs.length = 0 := by
        by_cases w : j - xs.length = 0
        · exact w
        · rw [List.getElem?_eq_none (by simp; omega)] at e; cases e
      rw [z] at e
      cases e
      have : j = i := by omega
      subst this
      exact mono _ _ _ _ k5 e4
  · have e : i = n := by omega
    subst e
    exact .inl ⟨hst H s1, hd D H xs nD s1 hD hl hE⟩
/-- tuple(a list that was just made) -/
def rTup (K : PySem.W.Frag) : List V → Hp → VK → Prop := fun xs H Q => ∃ p ys, xs = [.ref p] ∧ ((SqL K H p ys ∧ ∀ l, H l = none → Q (.ref l) (upd H l (.tup ys))) ∨ (SqT K H p ys ∧ Q (.ref p) H))
theorem c_tup {X : Cx} : CallR X (.type "tuple") (rTup X.K) := call_tuple_of
def transp (m : Nat) (M : List (List Int)) : List (List Int) := (List.range m).map fun j => M.map fun r => r.getD j 0
end Tb
set_option Elab.async false
set_option linter.all false
set_option maxRecDepth 100000
set_option maxHeartbeats 1000000
namespace Gn
open PySem PySem.Spec PyProof.Rows L2 Gd Zn Rp Dn
structure Def (P : Program) (w : World) (K : PySem.W.Frag) (mg : Str → Option Value) (base : Heap) (nm : Str) (k : Nat) (ps : List Str) (sp : Sp) : Prop where
  ex : ∃ (f : Addr) (fd : FuncData), FnOk P w K mg base CX0 k f fd ps sp ∧ mg nm = some (.ref f) ∧ PySem.W.keepIn K (.ref f) = true ∧ Binds K fd ps []
section
variable {X : Cx}
theorem pe_def {nm : Str} {k j : Nat} {ps : List Str} {sp : Sp} {e : Expr} {es : List Expr} {t : TA} {p pos : Pos} (D : Def X.prog X.w X.K X.mg X.base nm k ps sp) (room : Room j X.A) (ha : PA X (e :: es) t) (hkj : k ≤ j := by decide) (hg : Gl X nm := by rfl)
    (hdb : (nm == ("__debug__" : Str)) = false := by decide) (he : starEach (e :: es) X.env = (false, eval e X.env) :: starEach es X.env := by rfl) (hpl : (backTo pos (starEach es X.env)).any (·.1) = false := by rfl) :
    PE X (.Call (.Name nm p) (e :: es) [] pos) (tCall sp [] E0 t) := by
  obtain ⟨f, fd, G, m, kp, b⟩ := D.ex
  exact pe_call G (room.mono hkj) hg m kp b .nil pass0 ha hdb he hpl
end
def AnyV (H : Hp) (v : V) (d : PyData) : Prop := PyV H v d ∨ ∃ a kvs r, v = .ref a ∧ H a = some (.dK kvs) ∧ d = .dict r ∧ Flat kvs r
theorem AnyV.mono {H H' : Hp} {v : V} {d : PyData} (s : Same H H') (h : AnyV H v d) : AnyV H' v d := by
  rcases h with h | ⟨a, kvs, r, e, h, e2, f⟩
  · exact .inl (h.mono s)
  · exact .inr ⟨a, kvs, r, e, s _ _ h, e2, f⟩
def tyD : PyData → String
  | .none => "NoneType" | .bool _ => "bool" | .int _ => "int" | .str _ => "str" | .list _ => "list" | .tuple _ => "tuple" | .dict _ => "dict"
theorem AnyV.ty {K : PySem.W.Frag} {H : Hp} {v : V} {d : PyData} (h : AnyV H v d) : TyX K H v (.type (tyD d)) := by
  rcases h with h | ⟨a, kvs, r, rfl, e, rfl, f⟩
  · cases h with
    | non => exact .base .non
    | bl b => exact .base (.bl b)
    | int i => exact .base (.int i)
    | str x => exact .base (.str x)
    | lst e _ => exact .base (.lst e)
    | tup e _ => exact .base (.tup e)
  · exact .base (.dK e)
def isIntD : PyData → Bool
  | .int _ => true
  | _ => false
def isBool : PyData → Bool
  | .bool _ => true
  | _ => false
def isSeq : PyData → Bool
  | .list _ => true
  | .tuple _ => true
  | _ => false
def items : PyData → List PyData
  | .list xs => xs
  | .tuple xs => xs
  | _ => []
theorem kit_int (K : PySem.W.Frag) (d : PyData) : PySem.W.kitOne K (.type (tyD d)) (.type "int") = some (isIntD d || isBool d) := by
  cases d <;> dsimp only [tyD, isIntD, isBool] <;> exact kit_ty (by decide +kernel)
theorem kit_bool (K : PySem.W.Frag) (d : PyData) : PySem.W.kitOne K (.type (tyD d)) (.type "bool") = some (isBool d) := by
  cases d <;> dsimp only [tyD, isBool] <;> exact kit_ty (by decide +kernel)
theorem kit_seq (K : PySem.W.Frag) (d : PyData) : PySem.W.kitAny K (.type (tyD d)) [.type "list", .type "tuple"] = some (isSeq d) := by
  cases d <;> dsimp only [tyD, isSeq] <;>
  first
  | exact kitAny_cons (kit_ty (b := "list") (r := true) (by decide +kernel)) (fun h => by cases h) (fun _ => rfl)
  | exact kitAny_cons (kit_ty (b := "list") (r := false) (by decide +kernel)) (fun _ => kitAny_cons (kit_ty (b := "tuple") (r := true) (by decide +kernel)) (fun h => by cases h) (fun _ => rfl)) (fun h => by cases h)
  | exact kitAny_cons (kit_ty (b := "list") (r := false) (by decide +kernel)) (fun _ => kitAny_cons (kit_ty (b := "tuple") (r := false) (by decide +kernel)) (fun _ => kitAny_nil) (fun h => by cases h)) (fun h => by cases h)
def iD (xs : List Int) : List PyData := xs.map PyData.int
theorem pyVs_ints {H : Hp} : ∀ {vs : List V} {xs : List Int}, PyVs H vs (iD xs) → vs = xs.map V.int
  | _, [], .nil => rfl
  | _, x :: xs, .cons (.int _) q => by rw [pyVs_ints q]; rfl
/-- a list or a tuple, its items -/
def SeqV (H : Hp) (v : V) (ds : List PyData) : Prop := PyV H v (.list ds) ∨ PyV H v (.tuple ds)
theorem SeqV.mono {H H' : Hp} {v : V} {ds : List PyData} (s : Same H H') (h : SeqV H v ds) : SeqV H' v ds := h.imp (PyV.mono s) (PyV.mono s)
theorem SeqV.at {H : Hp} {v : V} {ds : List PyData} (K : PySem.W.Frag) (h : SeqV H v ds) : ∃ (t : Bool) (a : Addr) (vs : List V), v = .ref a ∧ (∀ H', Same H H' → SqV K H' t a vs) ∧ PyVs H vs ds := by
  rcases h with h | h
  · cases h with
    | lst e q => exact ⟨false, _, _, rfl, fun H' s => .inl (.inl (s _ _ e)), q⟩
  · cases h with
    | tup e q => exact ⟨true, _, _, rfl, fun H' s => .inl (.inl (s _ _ e)), q⟩
theorem seq_of {H : Hp} {v : V} {d : PyData} (h : AnyV H v d) (e : isSeq d = true) : SeqV H v (items d) := by
  rcases h with h | ⟨_, _, _, _, _, rfl, _⟩
  · cases h with
    | lst x q => exact .inl (.lst x q)
    | tup x q => exact .inr (.tup x q)
    | non => cases e
    | bl _ => cases e
    | int _ => cases e
    | str _ => cases e
  · cases e
def dot (xs ys : List Int) : Int := ((xs.zip ys).map fun p => p.1 * p.2).sum
def Small (x : Int) : Prop := -(2 ^ 64) < x ∧ x < 2 ^ 64
theorem map_of_get {α : Type} {n : Nat} (f : α → V) : ∀ {vs : List V} {l : List α}, vs.length = l.length → (∀ (i : Nat) (v : V), vs[i]? = some v → ∃ x : α, l[i]? = some x ∧ v = f x) → vs = l.map f
  | [], [], _, _ => rfl
  | v :: vs, x :: l, hl, h => by
    obtain ⟨y, e1, e2⟩ := h 0 v rfl
    cases e1
    rw [e2, map_of_get (n := n) f (Nat.succ.inj hl) (fun i w e => h (i + 1) w e)]
    rfl
theorem pyVs_len {H : Hp} : ∀ {vs : List V} {ds : List PyData}, PyVs H vs ds → vs.length = ds.length
  | _, _, .nil => rfl
  | _, _, .cons _ q => by rw [List.length_cons, List.length_cons, pyVs_len q]
theorem pyVs_get {H : Hp} : ∀ {vs : List V} {ds : List PyData} {i : Nat} {v : V}, PyVs H vs ds → vs[i]? = some v → ∃ d, ds[i]? = some d ∧ PyV H v d
  | _, _, _, _, .nil, e => by simp at e
  | _, _, 0, _, .cons (d := d) p _, e => by
    cases e
    exact ⟨d, rfl, p⟩
  | _, _, i + 1, _, .cons _ q, e => by
    obtain ⟨d', h1, h2⟩ := pyVs_get (i := i) q (by simpa using e)
    exact ⟨d', by simpa using h1, h2⟩
end Gn
set_option Elab.async false
set_option linter.all false
set_option maxRecDepth 100000
set_option maxHeartbeats 1000000
namespace Wd
open PySem PySem.Spec PyProof.Rows L2
def Big (x : Int) : Prop := ∃ k : Nat, k ≤ 20000 ∧ x.natAbs < 2 ^ k
def Wid (x : Int) : Prop := ∃ k : Nat, k ≤ 1000000 ∧ x.natAbs < 2 ^ k
theorem lit {x : Int} (h : -(2 ^ 64) < x ∧ x < 2 ^ 64) : Big x := ⟨64, by decide, by omega⟩
theorem Big.neg {x : Int} (h : Big x) : Big (-x) := by
  obtain ⟨k, a, b⟩ := h
  exact ⟨k, a, by omega⟩
theorem Big.w {x : Int} (h : Big x) : Wid x := by
  obtain ⟨k, a, b⟩ := h
  exact ⟨k, Nat.le_trans a (by decide), b⟩
theorem mulW {i j : Int} (hi : Wid i) (hj : Wid j) : CMulX i j := by
  obtain ⟨a, h1, h2⟩ := hi
  obtain ⟨b, h3, h4⟩ := hj
  exact mulx_ok h2 h4 (by omega)
theorem mul {i j : Int} (hi : Big i) (hj : Big j) : CMulX i j := mulW hi.w hj.w
theorem pow_le {a b : Nat} (h : a ≤ b) : 2 ^ a ≤ 2 ^ b := Nat.pow_le_pow_right (by decide) h
theorem abs_mul {x y : Int} {a b : Nat} (hx : x.natAbs < 2 ^ a) (hy : y.natAbs < 2 ^ b) : (x * y).natAbs < 2 ^ (a + b) := by
  rw [Int.natAbs_mul, Nat.pow_add]
  exact Nat.mul_lt_mul'' hx hy
theorem abs_mono {x : Int} {a b : Nat} (hx : x.natAbs < 2 ^ a) (h : a ≤ b) : x.natAbs < 2 ^ b := Nat.lt_of_lt_of_le hx (pow_le h)
theorem abs_add {x y : Int} {a : Nat} (hx : x.natAbs < 2 ^ a) (hy : y.natAbs < 2 ^ a) : (x + y).natAbs < 2 ^ (a + 1) := by
  rw [Nat.pow_succ]
  omega
theorem abs_sum : ∀ {l : List Int} {B : Nat}, (∀ x ∈ l, x.natAbs ≤ B) → l.sum.natAbs ≤ l.length * B
  | [], B, _ => by simp
  | x :: l, B, h => by
    have h1 := h x List.mem_cons_self
    have h2 := abs_sum (l := l) (B := B) fun y hy => h y (List.mem_cons_of_mem _ hy)
    rw [List.sum_cons, List.length_cons, Nat.add_mul, Nat.one_mul]
    omega
end Wd
set_option Elab.async false
set_option linter.all false
set_option maxRecDepth 100000
set_option maxHeartbeats 1000000
namespace T22
open PySem PySem.Spec PyProof.Rows L2 Gd Zn Rp Dn Tb Gn En Zs
def top (i : Nat) : Stmt := PySem.Challenge.pw_keptbowls_k22_whole_corners_signs_diviso.main.body.getD i (.Pass ⟨0, 0, 0, 0⟩)
abbrev Small (x : Int) : Prop := Wd.Big x
structure Txt (mg : Str → Option Value) : Prop where
  isi : mg "isinstance" = none
  int : mg "int" = none
  bool : mg "bool" = none
  list : mg "list" = none
  tuple : mg "tuple" = none
  all : mg "all" = none
  sum : mg "sum" = none
  zip : mg "zip" = none
  len : mg "len" = none
  range : mg "range" = none
  repr : mg "repr" = none
  abs : mg "abs" = none
  max : mg "max" = none
  divmod : mg "divmod" = none
  dict : mg "dict" = none
  enum : mg "enumerate" = none
section
variable {P : Program} {w : World} {K : PySem.W.Frag} {mg : Str → Option Value} {base : Heap}
abbrev st_is_integer : Stmt := top 13
def sp_is_integer : Sp := fun vs H Q _ => ∃ v d, vs = [v] ∧ AnyV H v d ∧ ∀ H', Same H H' → Q (.bl (isIntD d)) H'
theorem sc_is_integer : FnScope ["value"] ["value"] (defScope st_is_integer) := ⟨rfl, rfl, rfl, by decide +kernel, rfl, by decide +kernel, by decide +kernel⟩
theorem ok_is_integer {f : Addr} {fd : FuncData} (F : Fun K "is_integer" "is_integer" st_is_integer f fd) (T : Txt mg) : FnOk P w K mg base CX0 1 f fd ["value"] sp_is_integer := by
  refine F.ok sc_is_integer (fun vs H Q E h => ?_) (fun cdv A outer s H vs Q E hr h => ?_)
  · obtain ⟨v, d, rfl, _⟩ := h
    rfl
  · obtain ⟨v, d, rfl, av, q⟩ := h
    refine ⟨_, pss_one (ps_ret (pe_and (pe_callB call_isi (by rfl) T.isi boot_isinstance (pa_cons (pv 0) (pa_cons (pe_bltn (v := .ty "int") (by rfl) T.int PyProof.Rows.boot_int rfl) pa_nil)))
      (pe_one (pe_not (pe_callB call_isi (by rfl) T.isi boot_isinstance (pa_cons (pv 0) (pa_cons (pe_bltn (v := .ty "bool") (by rfl) T.bool PyProof.Rows.boot_bool rfl) pa_nil))))))), ?_⟩
    refine ⟨_, rfl, v, .ty "int", _, _, _, rfl, .ty _, av.ty, kit_int K d, _, rfl, ?_⟩
    cases e : isIntD d || isBool d with
    | false =>
      refine iteF ?_
      have : isIntD d = false := by revert e; cases isIntD d <;> simp
      rw [← this]
      exact q H (Same.refl H)
    | true =>
      refine iteT ?_
      refine ⟨_, rfl, v, .ty "bool", _, _, _, rfl, .ty _, av.ty, kit_bool K d, _, rfl, ?_⟩
      have : (!isBool d) = isIntD d := by
        revert e
        cases d <;> simp [isIntD, isBool]
      rw [this]
      exact q H (Same.refl H)
abbrev st_is_list : Stmt := top 14
def sp_is_list : Sp := fun vs H Q _ => ∃ v d, vs = [v] ∧ AnyV H v d ∧ ∀ H', Same H H' → Q (.bl (isSeq d)) H'
theorem sc_is_list : FnScope ["value"] ["value"] (defScope st_is_list) := ⟨rfl, rfl, rfl, by decide +kernel, rfl, by decide +kernel, by decide +kernel⟩
theorem ok_is_list {f : Addr} {fd : FuncData} (F : Fun K "is_list" "is_list" st_is_list f fd) (T : Txt mg) : FnOk P w K mg base CX0 1 f fd ["value"] sp_is_list := by
  refine F.ok sc_is_list (fun vs H Q E h => ?_) (fun cdv A outer s H vs Q E hr h => ?_)
  · obtain ⟨v, d, rfl, _⟩ := h
    rfl
  · obtain ⟨v, d, rfl, av, q⟩ := h
    refine ⟨_, pss_one (ps_ret (pe_callB call_isiT (by rfl) T.isi boot_isinstance (pa_cons (pv 0) (pa_cons (pe_tup (pa_cons (pe_bltn (v := .ty "list") (by rfl) T.list PyProof.Rows.boot_list rfl) (pa_cons (pe_bltn (v := .ty "tuple") (by rfl) T.tuple PyProof.Rows.boot_tuple rfl) pa_nil))) pa_nil)))), ?_⟩
    refine ⟨_, rfl, (by show 2 ≤ sizeLine; decide), fun t ht => ?_⟩
    exact ⟨v, t, _, _, _, _, rfl, upd_same, .cons (.ty _) (.cons (.ty _) .nil), (av.mono (same_new ht)).ty, kit_seq K d, q _ (same_new ht)⟩
abbrev st_scalar : Stmt := top 23
def sp_scalar : Sp := fun vs H Q _ => ∃ (v o : V) (xs ys : List Int), vs = [v, o] ∧ SeqV H v (iD xs) ∧ SeqV H o (iD ys) ∧ xs.length = ys.length ∧ xs.length ≤ 100 ∧ (∀ x ∈ xs, Small x) ∧ (∀ y ∈ ys, Small y) ∧ ∀ H', Same H H' → Q (.int (dot xs ys)) H'
theorem sc_scalar : FnScope ["row", "other", "number", "factor"] ["row", "other"] (defScope st_scalar) := ⟨rfl, rfl, rfl, by decide +kernel, rfl, by decide +kernel, by decide +kernel⟩
theorem ok_scalar {f : Addr} {fd : FuncData} (F : Fun K "scalar" "scalar" st_scalar f fd) (T : Txt mg) : FnOk P w K mg base CX0 1 f fd ["row", "other"] sp_scalar := by
  refine F.ok sc_scalar (fun vs H Q E h => ?_) (fun cdv A outer s H vs Q E hr h => ?_)
  · obtain ⟨v, o, xs, ys, rfl, _⟩ := h
    rfl
  · obtain ⟨v, o, xs, ys, rfl, sx, sy, hl, hb, hsm, hsy, q⟩ := h
    refine ⟨_, pss_one (ps_ret (pe_callB (cr_sum rfl) (by rfl) T.sum boot_sum (pa_cons (pe_lc (own := [("number", 2), ("factor", 3)]) (g := gTup K 2 (gCons (gName 2) (gCons (gName 3) gNil))) (tt := tYes) rfl sc_scalar.nd (pi_zipn (by rfl) T.zip (pa_cons (pv 0) (pa_cons (pv 1) pa_nil)))
      (blkOk_by (N := ["row", "other", "number", "factor"]) (sc := defScope st_scalar) (by decide +kernel))
      (fun _ _ _ _ _ => pg_tup rfl (pgs_cons (pg_name (i := 2) sc_scalar.nd rfl (Or.inl rfl) (Or.inr rfl)) (pgs_cons (pg_name (i := 3) sc_scalar.nd rfl (Or.inl rfl) (Or.inr rfl)) pgs_nil)))
      (fun _ _ _ _ _ => pts_nil) (fun _ _ _ _ _ => pe_op op_mulX (pv 2) (pv 3))) pa_nil))), ?_⟩
    obtain ⟨t1, a, vx, rfl, qx, px⟩ := sx.at K
    obtain ⟨t2, b, vy, rfl, qy, py⟩ := sy.at K
    have ex := pyVs_ints px
    have ey := pyVs_ints py
    subst ex ey
    refine r_ret (r_cb (r_cons ?_))
    have sq : ∀ H2, Same H H2 → AllSq K H2 [(t1, a), (t2, b)] := fun H2 s2 z hz => by
      rcases List.mem_cons.mp hz with rfl | hz
      · exact ⟨_, qx H2 s2⟩
      · rcases List.mem_cons.mp hz with rfl | hz
        · exact ⟨_, qy H2 s2⟩
        · cases hz
    refine tlc_of (Itn K [(t1, a), (t2, b)]) (H1 := H) (fun R hR => ⟨_, rfl, _, rfl, [(t1, a), (t2, b)], rfl, Nat.zero_lt_succ _, (by show 2 ≤ 3; decide), sq H (Same.refl H), hR⟩) ?_
    refine lc_el (p := none) xs.length (fun i v => ∃ x y, xs[i]? = some x ∧ ys[i]? = some y ∧ v = .int (x * y)) has_none (by omega) (fun i H2 hi s2 => ?_) (fun H2 s2 => ?_) (fun i x H2 H3 C hi s2 _ hy hC => ?_) fun D H2 rs nD s2 hD hrl hE => ?_
    · exact ⟨[.int xs[i], .int (ys[i]'(by omega))], row2 (qx H2 s2.same) (by simp [hi]) (qy H2 s2.same) (by simp [(by omega : i < ys.length)])⟩
    · exact ⟨sq H2 s2.same, (t1, a), List.mem_cons_self, _, qx H2 s2.same, by simp⟩
    · have hi2 : i < ys.length := by omega
      obtain ⟨T2, zs, rfl, nT, rfl, hu⟩ := hy
      have ez : zs = [.int xs[i], .int ys[i]] := (hu _ (row2 (qx H2 s2.same) (by simp [hi]) (qy H2 s2.same) (by simp [hi2]))).symm
      subst ez
      refine ⟨T2, _, rfl, .inl (.inl upd_same), rfl, _, _, rfl, _, _, rfl, rfl, rfl, ?_⟩
      exact ⟨_, rfl, _, rfl, _, _, rfl, rfl, Wd.mul (hsm _ (List.getElem_mem hi)) (hsy _ (List.getElem_mem hi2)), hC _ _ (RX.new nT) ⟨_, _, List.getElem?_eq_getElem hi, List.getElem?_eq_getElem hi2, rfl⟩⟩
    · have er : rs = (xs.zip ys).map fun (p : Int × Int) => V.int (p.1 * p.2) := map_of_get (n := 0) _ (by simp [hrl, hl]) fun i v e => by
        obtain ⟨x, y, e1, e2, e3⟩ := hE i v e
        exact ⟨(x, y), by rw [List.getElem?_zip_eq_some]; exact ⟨e1, e2⟩, e3⟩
      refine ⟨D, (xs.zip ys).map (fun (p : Int × Int) => p.1 * p.2), rfl, .inl (.inl ?_), q H2 s2.same⟩
      rw [hD, er, List.map_map]
      rfl
end
end T22
set_option Elab.async false
set_option linter.all false
set_option maxRecDepth 100000
set_option maxHeartbeats 1000000
namespace T22
open PySem PySem.Spec PyProof.Rows L2 Gd Zn Rp Dn Tb Gn En Zs
section
variable {P : Program} {w : World} {K : PySem.W.Frag} {mg : Str → Option Value} {base : Heap}
abbrev st_is_row : Stmt := top 16
def rowB (d : PyData) : Bool := isSeq d && (decide (1 ≤ (items d).length) && decide ((items d).length ≤ 3)) && (items d).all isIntD
def sp_is_row : Sp := fun vs H Q _ => ∃ v d, vs = [v] ∧ AnyV H v d ∧ (items d).length ≤ 200 ∧ ∀ H', Same H H' → Q (.bl (rowB d)) H'
theorem sc_is_row : FnScope ["value", "number"] ["value"] (defScope st_is_row) := ⟨rfl, rfl, rfl, by decide +kernel, rfl, by decide +kernel, by decide +kernel⟩
theorem ok_is_row {f : Addr} {fd : FuncData} (F : Fun K "is_row" "is_row" st_is_row f fd) (T : Txt mg) (D1 : Def P w K mg base "is_list" 1 ["value"] sp_is_list) (D2 : Def P w K mg base "is_integer" 1 ["value"] sp_is_integer) :
    FnOk P w K mg base CX0 2 f fd ["value"] sp_is_row := by
  refine F.ok sc_is_row (fun vs H Q E h => ?_) (fun cdv A outer s H vs Q E hr h => ?_)
  · obtain ⟨v, d, rfl, _⟩ := h
    rfl
  · obtain ⟨v, d, rfl, av, hb, q⟩ := h
    refine ⟨_, pss_one (ps_ret (pe_and (pe_def D1 hr (pa_cons (pv 0) pa_nil))
      (pe_and (pe_chain op_le op_le pe_int (pe_callB (r := Dn.rLen K) c_len (by rfl) T.len PySem.boot_len (pa_cons (pv 0) pa_nil)) pe_int)
      (pe_one (pe_callB (cr_all rfl) (by rfl) T.all boot_all (pa_cons (pe_lc (own := [("number", 1)]) (g := gName 1) (tt := tYes) rfl sc_is_row.nd (pi_seq (pv 0))
        (blkOk_by (N := ["value", "number"]) (sc := defScope st_is_row) (by decide +kernel))
        (fun _ _ _ _ _ => pg_name (i := 1) sc_is_row.nd rfl (Or.inl rfl) (Or.inr rfl)) (fun _ _ _ _ _ => pts_nil) (fun _ _ _ _ _ => pe_def (X := Cx.blk _ _ _ _ _ _) D2 hr (pa_cons (pv 1) pa_nil))) pa_nil)))))), ?_⟩
    refine ⟨_, rfl, v, d, rfl, av, fun H1 s1 => ⟨_, rfl, ?_⟩⟩
    cases e1 : isSeq d with
    | false =>
      refine iteF ?_
      have : rowB d = false := by unfold rowB; rw [e1]; rfl
      rw [← this]
      exact q H1 s1
    | true =>
      refine iteT ?_
      obtain ⟨t, a, vx, rfl, qx, px⟩ := (seq_of av e1).at K
      have hvl : vx.length = (items d).length := pyVs_len px
      have bad : (decide (1 ≤ (items d).length) && decide ((items d).length ≤ 3)) = false → Q (.bl false) H1 := fun z => by
        have : rowB d = false := by unfold rowB; rw [z, Bool.and_false]; rfl
        rw [← this]
        exact q H1 s1
      refine ⟨_, rfl, a, vx, rfl, sq_or (qx H1 s1), _, _, rfl, rfl, _, rfl, ?_⟩
      cases e2 : decide ((1 : Int) ≤ (vx.length : Int)) with
      | false =>
        refine iteF ⟨_, rfl, iteF ?_⟩
        refine bad ?_
        rw [decide_eq_false_iff_not] at e2
        rw [decide_eq_false (by omega)]
        rfl
      | true =>
        rw [decide_eq_true_eq] at e2
        refine iteT ⟨_, _, rfl, rfl, _, rfl, ?_⟩
        cases e3 : decide ((vx.length : Int) ≤ 3) with
        | false =>
          refine iteF ?_
          refine bad ?_
          rw [decide_eq_false_iff_not] at e3
          rw [decide_eq_false (show ¬ (items d).length ≤ 3 by omega), Bool.and_false]
        | true =>
          rw [decide_eq_true_eq] at e3
          refine iteT ?_
          refine r_cb (r_cons ?_)
          refine tlc_of (Its t K a) (H1 := H1) (fun R hR => ⟨_, rfl, t, a, vx, rfl, qx H1 s1, hR⟩) ?_
          refine lc_el (p := none) vx.length (fun i v => ∃ d', (items d)[i]? = some d' ∧ v = .bl (isIntD d')) has_none (by omega) (fun i H2 hi s2 => ?_) (fun H2 s2 => ?_) (fun i x H2 H3 C hi s2 _ hy hC => ?_) fun Da H2 rs nD s2 hD hrl hE => ?_
          · exact its_go (qx H2 (s1.trans s2.same)) (List.getElem?_eq_getElem hi)
          · exact its_stop (qx H2 (s1.trans s2.same)) (Nat.le_refl _)
          · obtain ⟨rfl, ex⟩ := its_yld hy (qx H2 (s1.trans s2.same))
            obtain ⟨d', ed, pd⟩ := pyVs_get px ex
            refine ⟨rfl, ?_⟩
            exact ⟨_, rfl, x, d', rfl, .inl (PyV.mono (s1.trans s2.same) pd), fun H4 s4 => hC _ _ (RX.of s4) ⟨d', ed, rfl⟩⟩
          · have er : rs = (items d).map fun d' => V.bl (isIntD d') := map_of_get (n := 0) _ (by rw [hrl, hvl]) hE
            refine ⟨Da, (items d).map isIntD, rfl, .inl (.inl ?_), ?_⟩
            · rw [hD, er, List.map_map]
              rfl
            · have : rowB d = ((items d).map isIntD).all id := by
                unfold rowB
                rw [e1, decide_eq_true (show 1 ≤ (items d).length by omega), decide_eq_true (show (items d).length ≤ 3 by omega), List.all_map]
                rfl
              rw [← this]
              exact q H2 (s1.trans s2.same)
end
end T22
set_option Elab.async false
set_option linter.all false
set_option maxRecDepth 100000
set_option maxHeartbeats 1000000
namespace T22
open PySem PySem.Spec PyProof.Rows L2 Gd Zn Rp Dn Tb Gn En Zs
section
variable {P : Program} {w : World} {K : PySem.W.Frag} {mg : Str → Option Value} {base : Heap}
abbrev st_is_row_of : Stmt := top 17
def rowOfB (n : Nat) (d : PyData) : Bool := rowB d && decide ((items d).length = n)
def sp_is_row_of : Sp := fun vs H Q _ => ∃ v d, ∃ n : Nat, vs = [.int n, v] ∧ AnyV H v d ∧ (items d).length ≤ 200 ∧ ∀ H', Same H H' → Q (.bl (rowOfB n d)) H'
theorem sc_is_row_of : FnScope ["size", "value"] ["size", "value"] (defScope st_is_row_of) := ⟨rfl, rfl, rfl, by decide +kernel, rfl, by decide +kernel, by decide +kernel⟩
theorem ok_is_row_of {f : Addr} {fd : FuncData} (F : Fun K "is_row_of" "is_row_of" st_is_row_of f fd) (T : Txt mg) (D1 : Def P w K mg base "is_row" 2 ["value"] sp_is_row) :
    FnOk P w K mg base CX0 3 f fd ["size", "value"] sp_is_row_of := by
  refine F.ok sc_is_row_of (fun vs H Q E h => ?_) (fun cdv A outer s H vs Q E hr h => ?_)
  · obtain ⟨v, d, n, rfl, _⟩ := h
    rfl
  · obtain ⟨v, d, n, rfl, av, hb, q⟩ := h
    refine ⟨_, pss_one (ps_ret (pe_and (pe_def D1 hr (pa_cons (pv 1) pa_nil))
      (pe_one (pe_cmpR op_eq (pe_callB (r := Dn.rLen K) c_len (by rfl) T.len PySem.boot_len (pa_cons (pv 1) pa_nil)) (pv 0) (nomark _))))), ?_⟩
    refine ⟨_, rfl, v, d, rfl, av, hb, fun H1 s1 => ⟨_, rfl, ?_⟩⟩
    cases e1 : rowB d with
    | false =>
      refine iteF ?_
      have : rowOfB n d = false := by unfold rowOfB; rw [e1]; rfl
      rw [← this]
      exact q H1 s1
    | true =>
      refine iteT ?_
      have e2 : isSeq d = true := by
        unfold rowB at e1
        rw [Bool.and_eq_true, Bool.and_eq_true] at e1
        exact e1.1.1
      obtain ⟨t, a, vx, rfl, qx, px⟩ := (seq_of av e2).at K
      have hvl : vx.length = (items d).length := pyVs_len px
      refine ⟨_, rfl, a, vx, rfl, sq_or (qx H1 s1), _, rfl, rfl, ?_⟩
      have : decide (V.int (vx.length : Int) = V.int (n : Int)) = rowOfB n d := by
        unfold rowOfB
        rw [e1, Bool.true_and, ← hvl]
        by_cases z : vx.length = n
        · rw [z, decide_eq_true rfl, decide_eq_true rfl]
        · rw [decide_eq_false z, decide_eq_false (fun q => z (by have := V.int.inj q; omega))]
      show Q _ _
      rw [this]
      exact q H1 s1
abbrev st_is_grid : Stmt := top 20
def gridB (d : PyData) : Bool := isSeq d && (items d).all (rowOfB (items d).length) && decide (0 < (items d).length)
def sp_is_grid : Sp := fun vs H Q _ => ∃ v d, vs = [v] ∧ AnyV H v d ∧ (items d).length ≤ 200 ∧ (∀ r ∈ items d, (items r).length ≤ 200) ∧ ∀ H', Same H H' → Q (.bl (gridB d)) H'
theorem sc_is_grid : FnScope ["value", "row"] ["value"] (defScope st_is_grid) := ⟨rfl, rfl, rfl, by decide +kernel, rfl, by decide +kernel, by decide +kernel⟩
theorem ok_is_grid {f : Addr} {fd : FuncData} (F : Fun K "is_grid" "is_grid" st_is_grid f fd) (T : Txt mg) (D1 : Def P w K mg base "is_list" 1 ["value"] sp_is_list) (D2 : Def P w K mg base "is_row_of" 3 ["size", "value"] sp_is_row_of) :
    FnOk P w K mg base CX0 4 f fd ["value"] sp_is_grid := by
  refine F.ok sc_is_grid (fun vs H Q E h => ?_) (fun cdv A outer s H vs Q E hr h => ?_)
  · obtain ⟨v, d, rfl, _⟩ := h
    rfl
  · obtain ⟨v, d, rfl, av, hb, hbs, q⟩ := h
    refine ⟨_, pss_one (ps_ret (pe_and (pe_def D1 hr (pa_cons (pv 0) pa_nil))
      (pe_and (pe_callB (cr_all rfl) (by rfl) T.all boot_all (pa_cons (pe_lc (own := [("row", 1)]) (g := gName 1) (tt := tYes) rfl sc_is_grid.nd (pi_seq (pv 0))
        (blkOk_by (N := ["value", "row"]) (sc := defScope st_is_grid) (by decide +kernel))
        (fun _ _ _ _ _ => pg_name (i := 1) sc_is_grid.nd rfl (Or.inl rfl) (Or.inr rfl)) (fun _ _ _ _ _ => pts_nil)
        (fun _ _ _ _ _ => pe_def (X := Cx.blk _ _ _ _ _ _) D2 hr (pa_cons (pe_callB (r := Dn.rLen K) c_len (by rfl) T.len PySem.boot_len (pa_cons (pv 0) pa_nil)) (pa_cons (pv 1) pa_nil)))) pa_nil))
      (pe_one (pe_cmpR op_gt (pe_callB (r := Dn.rLen K) c_len (by rfl) T.len PySem.boot_len (pa_cons (pv 0) pa_nil)) pe_int (nomark _)))))), ?_⟩
    refine ⟨_, rfl, v, d, rfl, av, fun H1 s1 => ⟨_, rfl, ?_⟩⟩
    cases e1 : isSeq d with
    | false =>
      refine iteF ?_
      have : gridB d = false := by unfold gridB; rw [e1]; rfl
      rw [← this]
      exact q H1 s1
    | true =>
      refine iteT ?_
      obtain ⟨t, a, vx, rfl, qx, px⟩ := (seq_of av e1).at K
      have hvl : vx.length = (items d).length := pyVs_len px
      refine r_cb (r_cons ?_)
      refine tlc_of (Its t K a) (H1 := H1) (fun R hR => ⟨_, rfl, t, a, vx, rfl, qx H1 s1, hR⟩) ?_
      refine lc_el (p := none) vx.length (fun i v => ∃ d', (items d)[i]? = some d' ∧ v = .bl (rowOfB (items d).length d')) has_none (by omega) (fun i H2 hi s2 => ?_) (fun H2 s2 => ?_) (fun i x H2 H3 C hi s2 _ hy hC => ?_) fun Da H2 rs nD s2 hD hrl hE => ?_
      · exact its_go (qx H2 (s1.trans s2.same)) (List.getElem?_eq_getElem hi)
      · exact its_stop (qx H2 (s1.trans s2.same)) (Nat.le_refl _)
      · obtain ⟨rfl, ex⟩ := its_yld hy (qx H2 (s1.trans s2.same))
        obtain ⟨d', ed, pd⟩ := pyVs_get px ex
        refine ⟨rfl, ?_⟩
        refine ⟨_, rfl, a, vx, rfl, sq_or (qx _ (s1.trans s2.same)), _, rfl, x, d', (items d).length, by rw [hvl]; rfl, .inl (PyV.mono (s1.trans s2.same) pd), hbs d' (List.mem_of_getElem? ed), fun H4 s4 => hC _ _ (RX.of s4) ⟨d', ed, rfl⟩⟩
      · have er : rs = (items d).map fun d' => V.bl (rowOfB (items d).length d') := map_of_get (n := 0) _ (by rw [hrl, hvl]) hE
        refine ⟨Da, (items d).map (rowOfB (items d).length), rfl, .inl (.inl (by rw [hD, er, List.map_map]; rfl)), _, rfl, ?_⟩
        have ea : ((items d).map (rowOfB (items d).length)).all id = (items d).all (rowOfB (items d).length) := by rw [List.all_map]; rfl
        rw [ea]
        cases e2 : (items d).all (rowOfB (items d).length) with
        | false =>
          refine iteF ?_
          have : gridB d = false := by unfold gridB; rw [e2, Bool.and_false]; rfl
          rw [← this]
          exact q H2 (s1.trans s2.same)
        | true =>
          refine iteT ?_
          refine ⟨_, rfl, a, vx, rfl, sq_or (qx H2 (s1.trans s2.same)), _, _, rfl, rfl, ?_⟩
          have : decide ((vx.length : Int) > 0) = gridB d := by
            unfold gridB
            rw [e1, e2, ← hvl]
            by_cases z : 0 < vx.length
            · rw [decide_eq_true (show (vx.length : Int) > 0 by omega), decide_eq_true z]; rfl
            · rw [decide_eq_false (show ¬ (vx.length : Int) > 0 by omega), decide_eq_false z]; rfl
          show Q (.bl (decide ((vx.length : Int) > 0))) _
          rw [this]
          exact q H2 (s1.trans s2.same)
end
end T22
set_option Elab.async false
set_option linter.all false
set_option maxRecDepth 100000
set_option maxHeartbeats 1000000
namespace T22
open PySem PySem.Spec PyProof.Rows L2 Gd Zn Rp Dn Tb Gn En Zs
def GridD (d : PyData) (M : List (List Int)) : Prop := isSeq d = true ∧ (items d).length = M.length ∧ ∀ (i : Nat) (d' : PyData), (items d)[i]? = some d' → ∃ r, M[i]? = some r ∧ (d' = .list (iD r) ∨ d' = .tuple (iD r))
theorem grid_mx (M : List (List Int)) : GridD (mxD M) M := by
  refine ⟨rfl, ?_, fun i d' e => ?_⟩
  · show (M.map _).length = _
    rw [List.length_map]
  · have e : (M.map fun r => PyData.tuple (r.map PyData.int))[i]? = some d' := e
    rw [List.getElem?_map] at e
    cases h : M[i]? with
    | none => rw [h] at e; cases e
    | some r =>
      rw [h] at e
      cases e
      exact ⟨r, rfl, .inr rfl⟩
theorem RowV.sq {K : PySem.W.Frag} {H : Hp} {v : V} {r : List Int} (h : RowV H v r) : ∃ b, v = .ref b ∧ SqV K H true b (r.map V.int) := by
  obtain ⟨b, e, h⟩ := h
  exact ⟨b, e, .inl (.inl h)⟩
theorem RowV.seq {H : Hp} {v : V} {r : List Int} (h : RowV H v r) : SeqV H v (iD r) := .inr h.py
/-- the columns -/
theorem row_all {K : PySem.W.Frag} {H : Hp} {j m : Nat} (hj : j < m) : ∀ {src : List (Bool × Addr)} {M : List (List Int)}, RowsV H (kRefs src) M → (∀ q ∈ src, q.1 = true) → (∀ r ∈ M, r.length = m) → RowAt K H j src (M.map fun r => .int (r.getD j 0))
  | [], _, .nil, _, _ => trivial
  | (t, a) :: src, r :: M, .cons p q, ht, hm => by
    have e : t = true := ht _ List.mem_cons_self
    subst e
    obtain ⟨b, eb, hb⟩ := p
    cases eb
    have hr : j < r.length := by rw [hm r List.mem_cons_self]; exact hj
    refine ⟨⟨r.map V.int, .inl (.inl hb), ?_⟩, row_all hj q (fun q hq => ht q (List.mem_cons_of_mem _ hq)) fun r hr => hm r (List.mem_cons_of_mem _ hr)⟩
    show _ = some (V.int (r.getD j 0))
    rw [List.getElem?_map, List.getElem?_eq_getElem hr, List.getD_eq_getElem?_getD, List.getElem?_eq_getElem hr]
    rfl
theorem all_sq {K : PySem.W.Frag} {H : Hp} : ∀ {src : List (Bool × Addr)} {M : List (List Int)}, RowsV H (kRefs src) M → (∀ q ∈ src, q.1 = true) → AllSq K H src
  | [], _, _, _ => fun q hq => by cases hq
  | (t, a) :: src, r :: M, .cons p q, ht => fun z hz => by
    have e : t = true := ht _ List.mem_cons_self
    subst e
    obtain ⟨b, eb, hb⟩ := p
    cases eb
    rcases List.mem_cons.mp hz with rfl | hz
    · exact ⟨_, .inl (.inl hb)⟩
    · exact all_sq q (fun q hq => ht q (List.mem_cons_of_mem _ hq)) z hz
theorem rows_src {H : Hp} {vs : List V} {M : List (List Int)} (h : RowsV H vs M) : ∃ src : List (Bool × Addr), vs = kRefs src ∧ ∀ q ∈ src, q.1 = true := by
  induction h with
  | nil => exact ⟨[], rfl, fun q hq => by cases hq⟩
  | cons p _ ih =>
    obtain ⟨src, e, h⟩ := ih
    obtain ⟨b, rfl, _⟩ := p
    refine ⟨(true, b) :: src, by rw [e]; rfl, fun q hq => ?_⟩
    rcases List.mem_cons.mp hq with rfl | hq
    · rfl
    · exact h q hq
section
variable {P : Program} {w : World} {K : PySem.W.Frag} {mg : Str → Option Value} {base : Heap}
abbrev st_copied : Stmt := top 21
def sp_copied : Sp := fun vs H Q _ => ∃ v d M, vs = [v] ∧ AnyV H v d ∧ GridD d M ∧ M.length ≤ 100 ∧ ∀ v' H', Same H H' → Mx H' v' M → Q v' H'
theorem sc_copied : FnScope ["rows", "row"] ["rows"] (defScope st_copied) := ⟨rfl, rfl, rfl, by decide +kernel, rfl, by decide +kernel, by decide +kernel⟩
theorem ok_copied {f : Addr} {fd : FuncData} (F : Fun K "copied" "copied" st_copied f fd) (T : Txt mg) : FnOk P w K mg base CX0 1 f fd ["rows"] sp_copied := by
  refine F.ok sc_copied (fun vs H Q E h => ?_) (fun cdv A outer s H vs Q E hr h => ?_)
  · obtain ⟨v, d, M, rfl, _⟩ := h
    rfl
  · obtain ⟨v, d, M, rfl, av, ⟨g1, g2, g3⟩, hb, q⟩ := h
    refine ⟨_, pss_one (ps_ret (pe_callTy (r := rTup K) c_tup (by rfl) T.tuple PyProof.Rows.boot_tuple (pa_cons (pe_lc (own := [("row", 1)]) (g := gName 1) (tt := tYes) rfl sc_copied.nd (pi_seq (pv 0))
        (blkOk_by (N := ["rows", "row"]) (sc := defScope st_copied) (by decide +kernel))
        (fun _ _ _ _ _ => pg_name (i := 1) sc_copied.nd rfl (Or.inl rfl) (Or.inr rfl)) (fun _ _ _ _ _ => pts_nil)
        (fun _ _ _ _ _ => pe_callTy (r := rTup K) c_tup (by rfl) T.tuple PyProof.Rows.boot_tuple (pa_cons (pv 1) pa_nil))) pa_nil))), ?_⟩
    obtain ⟨t, a, vx, rfl, qx, px⟩ := (seq_of av g1).at K
    have hvl : vx.length = M.length := by rw [pyVs_len px]; exact g2
    refine r_ret (r_cb (r_cons ?_))
    refine tlc_of (Its t K a) (H1 := H) (fun R hR => ⟨_, rfl, t, a, vx, rfl, qx H (Same.refl H), hR⟩) ?_
    refine lc_ks (p := none) M.length (fun i v H => ∃ r, M[i]? = some r ∧ RowV H v r) (fun i v H H' k h => ?_) has_none (by omega) (fun i H2 hi s2 => ?_) (fun H2 s2 => ?_) (fun i x H2 H3 C hi s2 _ hy hC => ?_) fun Da H2 rs nD s2 hD hrl hE => ?_
    · obtain ⟨r, e, h⟩ := h
      exact ⟨r, e, h.mono k⟩
    · exact its_go (qx H2 s2.same) (List.getElem?_eq_getElem (by rw [hvl]; exact hi))
    · exact its_stop (qx H2 s2.same) (by rw [hvl]; exact Nat.le_refl _)
    · obtain ⟨rfl, ex⟩ := its_yld hy (qx H2 s2.same)
      obtain ⟨d', ed, pd⟩ := pyVs_get px ex
      obtain ⟨r, er, hd⟩ := g3 i d' ed
      refine ⟨rfl, ?_⟩
      refine r_cb (r_cons ?_)
      refine ⟨_, rfl, ?_⟩
      rcases hd with rfl | rfl
      · cases pd with
        | lst e p =>
          have ez := pyVs_ints p
          subst ez
          exact ⟨_, _, rfl, .inl ⟨.inl (.inl (s2.same _ _ e)), fun l nl => hC _ _ (RX.new nl) ⟨r, er, l, rfl, upd_same⟩⟩⟩
      · cases pd with
        | tup e p =>
          have ez := pyVs_ints p
          subst ez
          exact ⟨_, _, rfl, .inr ⟨.inl (.inl (s2.same _ _ e)), hC _ _ (RX.refl _) ⟨r, er, _, rfl, s2.same _ _ e⟩⟩⟩
    · refine ⟨Da, rs, rfl, .inl ⟨.inl (.inl hD), fun l nl => ?_⟩⟩
      have k : Same H2 (upd H2 l (.tup rs)) := same_new nl
      refine q _ _ (s2.same.trans k) ⟨l, rs, rfl, upd_same, ?_⟩
      exact (rows_of hrl hE).mono (KS.of k)
abbrev st_across : Stmt := top 22
def sp_across : Sp := fun vs H Q _ => ∃ v M m, vs = [v] ∧ Mx H v M ∧ 0 < M.length ∧ M.length ≤ 3 ∧ m ≤ 100 ∧ (∀ r ∈ M, r.length = m) ∧ ∀ v' H', Same H H' → Mx H' v' (transp m M) → Q v' H'
theorem sc_across : FnScope ["rows", "column"] ["rows"] (defScope st_across) := ⟨rfl, rfl, rfl, by decide +kernel, rfl, by decide +kernel, by decide +kernel⟩
theorem transp_get {m j : Nat} {M : List (List Int)} (h : j < m) : (transp m M)[j]? = some (M.map fun r => r.getD j 0) := by
  unfold transp
  rw [List.getElem?_map, List.getElem?_range h]
  rfl
theorem transp_len {m : Nat} {M : List (List Int)} : (transp m M).length = m := by
  unfold transp
  rw [List.length_map, List.length_range]
theorem ok_across {f : Addr} {fd : FuncData} (F : Fun K "across" "across" st_across f fd) (T : Txt mg) : FnOk P w K mg base CX0 1 f fd ["rows"] sp_across := by
  refine F.ok sc_across (fun vs H Q E h => ?_) (fun cdv A outer s H vs Q E hr h => ?_)
  · obtain ⟨v, M, m, rfl, _⟩ := h
    rfl
  · obtain ⟨v, M, m, rfl, ⟨a, vx, rfl, ha, hR⟩, h0, h3, hm, hM, q⟩ := h
    refine ⟨_, pss_one (ps_ret (pe_callTy (r := rTup K) c_tup (by rfl) T.tuple PyProof.Rows.boot_tuple (pa_cons (pe_lc (own := [("column", 1)]) (g := gName 1) (tt := tYes) rfl sc_across.nd (pi_zipStar (by rfl) T.zip (pv 0))
        (blkOk_by (N := ["rows", "column"]) (sc := defScope st_across) (by decide +kernel))
        (fun _ _ _ _ _ => pg_name (i := 1) sc_across.nd rfl (Or.inl rfl) (Or.inr rfl)) (fun _ _ _ _ _ => pts_nil)
        (fun _ _ _ _ _ => pe_callTy (r := rTup K) c_tup (by rfl) T.tuple PyProof.Rows.boot_tuple (pa_cons (pv 1) pa_nil))) pa_nil))), ?_⟩
    obtain ⟨src, rfl, hs⟩ := rows_src hR
    have hsl : src.length = M.length := by
      have := hR.len
      unfold kRefs at this
      rw [List.length_map] at this
      exact this
    refine r_ret (r_cb (r_cons ?_))
    refine tlc_of (Itn K src) (H1 := H) (fun R hR' => ⟨_, rfl, a, src, rfl, .inl (.inl (.inl ha)), by omega, by omega, all_sq hR hs, hR'⟩) ?_
    refine lc_ks (p := none) m (fun i v H => ∃ r, (transp m M)[i]? = some r ∧ RowV H v r) (fun i v H H' k h => ?_) has_none (by omega) (fun i H2 hi s2 => ?_) (fun H2 s2 => ?_) (fun i x H2 H3 C hi s2 _ hy hC => ?_) fun Da H2 rs nD s2 hD hrl hE => ?_
    · obtain ⟨r, e, h⟩ := h
      exact ⟨r, e, h.mono k⟩
    · exact ⟨_, row_all hi (hR.mono (KS.of s2.same)) hs hM⟩
    · refine ⟨all_sq (hR.mono (KS.of s2.same)) hs, ?_⟩
      cases src with
      | nil => rw [List.length_nil] at hsl; omega
      | cons q src =>
        obtain ⟨t, b⟩ := q
        cases M with
        | nil => rw [List.length_nil] at h0; omega
        | cons r M =>
          cases hR with
          | cons p _ =>
            obtain ⟨b', eb, hb⟩ := p
            cases eb
            have e : t = true := hs _ List.mem_cons_self
            subst e
            exact ⟨_, List.mem_cons_self, _, .inl (.inl (s2.same _ _ hb)), by rw [List.length_map, hM r List.mem_cons_self]; exact Nat.le_refl _⟩
    · obtain ⟨T2, ys, rfl, nT, rfl, hu⟩ := hy
      have ey := (hu _ (row_all hi (hR.mono (KS.of s2.same)) hs hM)).symm
      subst ey
      refine ⟨rfl, ?_⟩
      refine r_cb (r_cons ?_)
      refine ⟨_, rfl, ?_⟩
      refine ⟨T2, _, rfl, .inr ⟨.inl (.inl upd_same), hC _ _ (RX.new nT) ⟨_, transp_get hi, T2, rfl, ?_⟩⟩⟩
      rw [upd_same, List.map_map]
      rfl
    · refine ⟨Da, rs, rfl, .inl ⟨.inl (.inl hD), fun l nl => ?_⟩⟩
      have k : Same H2 (upd H2 l (.tup rs)) := same_new nl
      refine q _ _ (s2.same.trans k) ⟨l, rs, rfl, upd_same, ?_⟩
      exact (rows_of (by rw [hrl, transp_len]) hE).mono (KS.of k)
end
end T22
set_option Elab.async false
set_option linter.all false
set_option maxRecDepth 100000
set_option maxHeartbeats 1000000
namespace Ct
open PySem PySem.Spec PyProof.Rows L2 Gd Zn Rp Dn Tb
section
variable {X : Cx}
theorem op_catT0 : OpR X (binaryOp .Add) (fun x y H Q => ∃ a b ys, x = .ref a ∧ y = .ref b ∧ SqT X.K H a [] ∧ SqT X.K H b ys ∧ Q (.ref b) H) := by
  intro pins s σ H x y v u Q I rx ry h
  obtain ⟨a, b, ys, rfl, rfl, ha, hb, q⟩ := h
  cases (show v = Value.ref a from rx)
  cases (show u = Value.ref b from ry)
  obtain ⟨i1, r1, ⟨o1, g1, c1, n1, d1⟩, _⟩ := I.tuple ha
  obtain ⟨i2, r2, ⟨o2, g2, c2, n2, d2⟩, _⟩ := I.tuple hb
  obtain ⟨oc1, od1, odt1, os1⟩ := o1
  obtain ⟨oc2, od2, odt2, os2⟩ := o2
  subst c1 c2
  have e1 : odt1 = .seq i1.toArray n1 := d1
  have e2 : odt2 = .seq i2.toArray n2 := d2
  subst e1 e2
  have z : i1 = [] := by cases r1; rfl
  subst z
  refine concat_meets (T := "tuple") ⟨_, g1, rfl⟩ ⟨_, g2, rfl⟩ noFill_tuple_add seq_tuple_add F.slot_tuple_add F.entry_tuple_add (F.args_tuple_add_2 _ _) (tuple_addW0 a b _ _ n1 n2 _ _ _ _ rfl) ⟨g1, g2, ?_⟩
  exact ⟨.ref b, H, I, rfl, q⟩
def rCat (x y : V) (H : Hp) (Q : VK) : Prop := ∃ a b xs ys, x = .ref a ∧ y = .ref b ∧ H a = some (.tup xs) ∧ H b = some (.tup ys) ∧ xs.length + ys.length ≤ 1000 ∧ ∀ c H', Same H H' → H' c = some (.tup (xs ++ ys)) → Q (.ref c) H'
theorem op_cat3 : OpR X (binaryOp .Add) rCat := by
  intro pins s σ H x y v u Q I rx ry h
  obtain ⟨a, b, xs, ys, rfl, rfl, ha, hb, hl, q⟩ := h
  cases xs with
  | nil => exact op_catT0 pins s σ H _ _ v u Q I rx ry ⟨a, b, ys, rfl, rfl, .inl (.inl ha), .inl (.inl hb), q b H (Same.refl H) hb⟩
  | cons x0 xs =>
    refine op_catT pins s σ H _ _ v u Q I rx ry ⟨a, b, x0 :: xs, ys, rfl, rfl, .inl (.inl ha), .inl (.inl hb), List.cons_ne_nil _ _, Nat.le_trans hl (by decide), fun e => ?_, fun e p hp => ?_⟩
    · subst e
      exact q a H (Same.refl H) (by rw [List.append_nil]; exact ha)
    · exact q p _ (same_new hp) upd_same
end
end Ct
set_option Elab.async false
set_option linter.all false
set_option maxRecDepth 100000
set_option maxHeartbeats 1000000
namespace T22
open PySem PySem.Spec PyProof.Rows L2 Gd Zn Rp Dn Tb Gn En Zs Ct
def ledM (M : List (List Int)) (xs : List Int) : List Int := M.map fun r => dot r xs
def mulM (n : Nat) (M N : List (List Int)) : List (List Int) := M.map fun r => ledM (transp n N) r
section
variable {P : Program} {w : World} {K : PySem.W.Frag} {mg : Str → Option Value} {base : Heap}
abbrev st_led_row : Stmt := top 24
def sp_led_row : Sp := fun vs H Q _ => ∃ v o M xs, vs = [v, o] ∧ Mx H v M ∧ SeqV H o (iD xs) ∧ M.length ≤ 100 ∧ xs.length ≤ 100 ∧ (∀ x ∈ xs, Small x) ∧ (∀ r ∈ M, r.length = xs.length ∧ ∀ x ∈ r, Small x) ∧ ∀ v' H', Same H H' → RowV H' v' (ledM M xs) → Q v' H'
theorem sc_led_row : FnScope ["rows", "row", "line"] ["rows", "row"] (defScope st_led_row) := ⟨rfl, rfl, rfl, by decide +kernel, rfl, by decide +kernel, by decide +kernel⟩
theorem ok_led_row {f : Addr} {fd : FuncData} (F : Fun K "led_row" "led_row" st_led_row f fd) (T : Txt mg) (D1 : Def P w K mg base "scalar" 1 ["row", "other"] sp_scalar) : FnOk P w K mg base CX0 2 f fd ["rows", "row"] sp_led_row := by
  refine F.ok sc_led_row (fun vs H Q E h => ?_) (fun cdv A outer s H vs Q E hr h => ?_)
  · obtain ⟨v, o, M, xs, rfl, _⟩ := h
    rfl
  · obtain ⟨v, o, M, xs, rfl, ⟨a, vx, rfl, ha, hR⟩, hx, hM, hxl, hsx, hsm, q⟩ := h
    refine ⟨_, pss_one (ps_ret (pe_callTy (r := rTup K) c_tup (by rfl) T.tuple PyProof.Rows.boot_tuple (pa_cons (pe_lc (own := [("line", 2)]) (g := gName 2) (tt := tYes) rfl sc_led_row.nd (pi_seq (pv 0))
        (blkOk_by (N := ["rows", "row", "line"]) (sc := defScope st_led_row) (by decide +kernel))
        (fun _ _ _ _ _ => pg_name (i := 2) sc_led_row.nd rfl (Or.inl rfl) (Or.inr rfl)) (fun _ _ _ _ _ => pts_nil)
        (fun _ _ _ _ _ => pe_def (X := Cx.blk _ _ _ _ _ _) D1 hr (pa_cons (pv 2) (pa_cons (pv 1) pa_nil)))) pa_nil))), ?_⟩
    have hvl : vx.length = M.length := hR.len
    have qx : ∀ H', Same H H' → SqV K H' true a vx := fun H' s => .inl (.inl (s _ _ ha))
    refine r_ret (r_cb (r_cons ?_))
    refine tlc_of (Its true K a) (H1 := H) (fun R hR => ⟨_, rfl, true, a, vx, rfl, qx H (Same.refl H), hR⟩) ?_
    refine lc_el (p := none) M.length (fun i v => ∃ r, M[i]? = some r ∧ v = .int (dot r xs)) has_none (by omega) (fun i H2 hi s2 => ?_) (fun H2 s2 => ?_) (fun i x H2 H3 C hi s2 _ hy hC => ?_) fun Da H2 rs nD s2 hD hrl hE => ?_
    · exact its_go (qx H2 s2.same) (List.getElem?_eq_getElem (by rw [hvl]; exact hi))
    · exact its_stop (qx H2 s2.same) (by rw [hvl]; exact Nat.le_refl _)
    · obtain ⟨rfl, ex⟩ := its_yld hy (qx H2 s2.same)
      obtain ⟨r, er, hr'⟩ := hR.get ex
      obtain ⟨l1, l2⟩ := hsm r (List.mem_of_getElem? er)
      refine ⟨rfl, ?_⟩
      refine ⟨_, rfl, _, rfl, x, o, r, xs, rfl, T22.RowV.seq (hr'.mono (KS.of s2.same)), SeqV.mono s2.same hx, l1, by omega, l2, hsx, fun H4 s4 => hC _ _ (RX.of s4) ⟨r, er, rfl⟩⟩
    · have er : rs = M.map fun r => V.int (dot r xs) := map_of_get (n := 0) _ hrl hE
      refine ⟨Da, rs, rfl, .inl ⟨.inl (.inl hD), fun l nl => ?_⟩⟩
      refine q _ _ (s2.same.trans (same_new nl)) ⟨l, rfl, ?_⟩
      rw [upd_same, er]
      unfold ledM
      rw [List.map_map]
      rfl
abbrev st_multiplied : Stmt := top 25
def sp_multiplied : Sp := fun vs H Q _ => ∃ v o M N, ∃ n : Nat, vs = [v, o] ∧ Mx H v M ∧ Mx H o N ∧ M.length ≤ 100 ∧ 0 < N.length ∧ N.length ≤ 3 ∧ n ≤ 100 ∧ (∀ r ∈ M, r.length = N.length ∧ ∀ x ∈ r, Small x) ∧ (∀ r ∈ N, r.length = n ∧ ∀ x ∈ r, Small x) ∧ ∀ v' H', Same H H' → Mx H' v' (mulM n M N) → Q v' H'
theorem sc_multiplied : FnScope ["rows", "others", "columns", "row"] ["rows", "others"] (defScope st_multiplied) := ⟨rfl, rfl, rfl, by decide +kernel, rfl, by decide +kernel, by decide +kernel⟩
theorem transp_mem {n : Nat} {N : List (List Int)} {c : List Int} (h : c ∈ transp n N) : ∃ j, j < n ∧ c = N.map fun r => r.getD j 0 := by
  unfold transp at h
  rw [List.mem_map] at h
  obtain ⟨j, hj, e⟩ := h
  exact ⟨j, List.mem_range.mp hj, e.symm⟩
theorem small_transp {n : Nat} {N : List (List Int)} (hN : ∀ r ∈ N, r.length = n ∧ ∀ x ∈ r, Small x) : ∀ c ∈ transp n N, c.length = N.length ∧ ∀ x ∈ c, Small x := fun c hc => by
  obtain ⟨j, hj, rfl⟩ := transp_mem hc
  refine ⟨List.length_map .., fun x hx => ?_⟩
  rw [List.mem_map] at hx
  obtain ⟨r, hr, rfl⟩ := hx
  obtain ⟨l1, l2⟩ := hN r hr
  have : j < r.length := by omega
  rw [List.getD_eq_getElem?_getD, List.getElem?_eq_getElem this]
  exact l2 _ (List.getElem_mem this)
theorem ok_multiplied {f : Addr} {fd : FuncData} (F : Fun K "multiplied" "multiplied" st_multiplied f fd) (T : Txt mg) (D1 : Def P w K mg base "across" 1 ["rows"] sp_across) (D2 : Def P w K mg base "led_row" 2 ["rows", "row"] sp_led_row) :
    FnOk P w K mg base CX0 3 f fd ["rows", "others"] sp_multiplied := by
  refine F.ok sc_multiplied (fun vs H Q E h => ?_) (fun cdv A outer s H vs Q E hr h => ?_)
  · obtain ⟨v, o, M, N, n, rfl, _⟩ := h
    rfl
  · obtain ⟨v, o, M, N, n, rfl, hMx, hN, hM, h0, h3, hn, hMr, hNr, q⟩ := h
    refine ⟨_, pss_cons (ps_set (i := 2) sc_multiplied.nd rfl (Or.inr rfl) (pe_def D1 hr (pa_cons (pv 1) pa_nil)))
      (pss_one (ps_ret (pe_callTy (r := rTup K) c_tup (by rfl) T.tuple PyProof.Rows.boot_tuple (pa_cons (pe_lc (own := [("row", 3)]) (g := gName 3) (tt := tYes) rfl sc_multiplied.nd (pi_seq (pv 0))
        (blkOk_by (N := ["rows", "others", "columns", "row"]) (sc := defScope st_multiplied) (by decide +kernel))
        (fun _ _ _ _ _ => pg_name (i := 3) sc_multiplied.nd rfl (Or.inl rfl) (Or.inr rfl)) (fun _ _ _ _ _ => pts_nil)
        (fun _ _ _ _ _ => pe_def (X := Cx.blk _ _ _ _ _ _) D2 hr (pa_cons (pv 2) (pa_cons (pv 3) pa_nil)))) pa_nil)))), ?_⟩
    refine ⟨_, rfl, o, N, n, rfl, hN, h0, h3, hn, fun r hr => (hNr r hr).1, fun cv H1 s1 hC => ?_⟩
    obtain ⟨a, vx, rfl, ha, hR⟩ := hMx.mono (KS.of s1)
    have hvl : vx.length = M.length := hR.len
    have qx : ∀ H', Same H1 H' → SqV K H' true a vx := fun H' s => .inl (.inl (s _ _ ha))
    refine r_nret (r_cb (r_cons ?_))
    refine tlc_of (Its true K a) (H1 := H1) (fun R hR => ⟨_, rfl, true, a, vx, rfl, qx H1 (Same.refl H1), hR⟩) ?_
    refine lc_ks (p := none) M.length (fun i v H => ∃ r, (mulM n M N)[i]? = some r ∧ RowV H v r) (fun i v H H' k h => ?_) has_none (by omega) (fun i H2 hi s2 => ?_) (fun H2 s2 => ?_) (fun i x H2 H3 C hi s2 _ hy hC' => ?_) fun Da H2 rs nD s2 hD hrl hE => ?_
    · obtain ⟨r, e, h⟩ := h
      exact ⟨r, e, h.mono k⟩
    · exact its_go (qx H2 s2.same) (List.getElem?_eq_getElem (by rw [hvl]; exact hi))
    · exact its_stop (qx H2 s2.same) (by rw [hvl]; exact Nat.le_refl _)
    · obtain ⟨rfl, ex⟩ := its_yld hy (qx H2 s2.same)
      obtain ⟨r, er, hr'⟩ := hR.get ex
      obtain ⟨lr, lsm⟩ := hMr r (List.mem_of_getElem? er)
      refine ⟨rfl, ?_⟩
      refine ⟨_, rfl, _, rfl, cv, x, transp n N, r, rfl, hC.mono (KS.of s2.same), T22.RowV.seq (hr'.mono (KS.of s2.same)), by rw [transp_len]; exact hn, by omega, lsm, fun c hc => ?_, fun v' H4 s4 hv => hC' _ _ (RX.of s4) ⟨_, ?_, hv⟩⟩
      · obtain ⟨l1, l2⟩ := small_transp hNr c hc
        exact ⟨by omega, l2⟩
      · unfold mulM
        rw [List.getElem?_map, er]
        rfl
    · refine ⟨Da, rs, rfl, .inl ⟨.inl (.inl hD), fun l nl => ?_⟩⟩
      have k : Same H2 (upd H2 l (.tup rs)) := same_new nl
      refine q _ _ (s1.trans (s2.same.trans k)) ⟨l, rs, rfl, upd_same, ?_⟩
      exact (rows_of (by rw [hrl]; unfold mulM; rw [List.length_map]) hE).mono (KS.of k)
end
end T22
set_option Elab.async false
set_option linter.all false
set_option maxRecDepth 100000
set_option maxHeartbeats 1000000
namespace Tb
open PySem PySem.Spec PyProof.Rows L2 Gd Zn Rp Dn
theorem RowsV.snoc {H : Hp} {vs : List V} {M : List (List Int)} {v : V} {r : List Int} (h : RowsV H vs M) (p : RowV H v r) : RowsV H (vs ++ [v]) (M ++ [r]) := by
  induction h with
  | nil => exact .cons p .nil
  | cons q _ ih => exact .cons q ih
/-- a comprehension with a test whose elements are rows; W: what stands after so many steps -/
theorem lc_rows {p : Option Addr} {J : It} {g : TG} {tt : TT} {te : TE} {vs : List Nat} {σ : L2.St} {H1 : Hp} {Q : VK} (n : Nat) (W : Nat → List (List Int)) (hp : Has p H1) (hn : n ≤ 1000) (w0 : W 0 = []) (wl : ∀ i, i ≤ n → (W i).length ≤ i)
    (hgo : ∀ i H, i < n → RX p H1 H → J.go i H) (hst : ∀ H, RX p H1 H → J.stop n H)
    (hs : ∀ i x H H' (C : V → Hp → Prop) (C0 : Hp → Prop), i < n → RX p H1 H → Has p H → J.yld i H x H' → (∀ y r H4, RX p H H4 → W (i + 1) = W i ++ [r] → RowV H4 y r → C y H4) → (∀ H4, RX p H H4 → W (i + 1) = W i → C0 H4) →
      g x (wipe σ vs) H' fun σ2 H2 => wipe σ2 vs = wipe σ vs ∧ tt σ2 H2 fun b H3 => if b = true then te σ2 H3 C else C0 H3)
    (hd : ∀ D H xs, H1 D = none → RX p H1 H → H D = some (.lst xs) → RowsV H xs (W n) → Q (.ref D) H) :
    LcB g tt te vs σ Q J H1 := by
  intro D nD
  have nP : p ≠ some D := hp.ne nD
  refine ⟨fun i m H => i ≤ n ∧ m = n - i ∧ RX p H1 H ∧ ∃ xs, H D = some (.lst xs) ∧ RowsV H xs (W i), ⟨n, Nat.zero_le _, rfl, RX.new nD, [], upd_same, by rw [w0]; exact .nil⟩, ?_⟩
  rintro i m H ⟨hi, rfl, s1, xs, hD, hR⟩
  by_cases hlt : i < n
  · refine .inr ⟨hgo i H hlt s1, fun H' => i + 1 ≤ n ∧ RX p H1 H' ∧ ∃ xs, H' D = some (.lst xs) ∧ RowsV H' xs (W (i + 1)), fun H' h => ⟨n - (i + 1), by omega, h.1, rfl, h.2⟩, fun x H' hy => ?_⟩
    have hpH := hp.to s1
    refine hs i x H H' _ _ hlt s1 hpH hy (fun y r H4 s4 e4 r4 => ?_) fun H4 s4 e4 => ?_
    · have hD4 := s4.keep D _ nP hD
      have k5 : KS H4 (upd H4 D (.lst (xs ++ [y]))) := KS.lst hD4
      refine ⟨xs, hD4, ?_, hlt, (s1.trans s4).mut nD hp, _, upd_same, ?_⟩
      · have h1 := hR.len
        have h2 := wl i hi
        exact Nat.lt_of_lt_of_le (by omega : xs.length < 1001) (by decide)
      · rw [e4]
        exact ((hR.mono (KS.rx s4 hpH)).snoc r4).mono k5
    · refine ⟨hlt, s1.trans s4, xs, s4.keep D _ nP hD, ?_⟩
      rw [e4]
      exact hR.mono (KS.rx s4 hpH)
  · have e : i = n := by omega
    subst e
    exact .inl ⟨hst H s1, hd D H xs nD s1 hD hR⟩
end Tb
set_option Elab.async false
set_option linter.all false
set_option maxRecDepth 100000
set_option maxHeartbeats 1000000
namespace T22
open PySem PySem.Spec PyProof.Rows L2 Gd Zn Rp Dn Tb Gn En Zs Ct
def cutAt (k : Nat) (r : List Int) : List Int := r.take k ++ r.drop (k + 1)
def outW (M : List (List Int)) (at_ k : Nat) (i : Nat) : List (List Int) := ((List.range i).filter fun j => !decide (j = at_)).map fun j => cutAt k (M.getD j [])
def outM (M : List (List Int)) (at_ k : Nat) : List (List Int) := outW M at_ k M.length
theorem outW_succ (M : List (List Int)) (at_ k i : Nat) : outW M at_ k (i + 1) = outW M at_ k i ++ if i = at_ then [] else [cutAt k (M.getD i [])] := by
  unfold outW
  rw [List.range_succ, List.filter_append, List.map_append]
  by_cases h : i = at_ <;> simp [h]
theorem outW_len (M : List (List Int)) (at_ k i : Nat) : (outW M at_ k i).length ≤ i := by
  unfold outW
  rw [List.length_map]
  have := List.length_filter_le (fun j => !decide (j = at_)) (List.range i)
  rw [List.length_range] at this
  exact this
theorem cutV_to (r : List Int) (k : Nat) (h : k ≤ r.length) : cutV (r.map V.int) none (some (k : Int)) = (r.take k).map V.int := by
  unfold cutV
  rw [HT.sIx_nat, HT.sIx_none, List.length_map, List.drop_zero, Nat.min_eq_left h, Nat.sub_zero, List.map_take]
theorem cutV_from (r : List Int) (k : Nat) (h : k ≤ r.length) : cutV (r.map V.int) (some (k : Int)) none = (r.drop k).map V.int := by
  unfold cutV
  rw [HT.sIx_nat, HT.sIx_none, List.length_map, Nat.min_eq_left h, List.map_drop]
  exact List.take_of_length_le (by rw [List.length_drop, List.length_map]; exact Nat.le_refl _)
section
variable {P : Program} {w : World} {K : PySem.W.Frag} {mg : Str → Option Value} {base : Heap}
abbrev st_without : Stmt := top 26
def sp_without : Sp := fun vs H Q _ => ∃ v M, ∃ a k n : Nat, vs = [v, .int a, .int k] ∧ Mx H v M ∧ M.length ≤ 100 ∧ n ≤ 100 ∧ k < n ∧ (∀ r ∈ M, r.length = n) ∧ ∀ v' H', Same H H' → Mx H' v' (outM M a k) → Q v' H'
abbrev N_without : List Str := ["rows", "at", "place", "index", "row"]
theorem sc_without : FnScope N_without ["rows", "at", "place"] (defScope st_without) := ⟨rfl, rfl, rfl, by decide +kernel, rfl, by decide +kernel, by decide +kernel⟩
theorem ok_without {f : Addr} {fd : FuncData} (F : Fun K "without" "without" st_without f fd) (T : Txt mg) : FnOk P w K mg base CX0 1 f fd ["rows", "at", "place"] sp_without := by
  refine F.ok sc_without (fun vs H Q E h => ?_) (fun cdv A outer s H vs Q E hr h => ?_)
  · obtain ⟨v, M, a, k, n, rfl, _⟩ := h
    rfl
  · obtain ⟨v, M, at_, k, n, rfl, ⟨a, vx, rfl, ha, hR⟩, hM, hn, hk, hMr, q⟩ := h
    refine ⟨_, pss_one (ps_ret (pe_callTy (r := rTup K) c_tup (by rfl) T.tuple PyProof.Rows.boot_tuple (pa_cons (pe_lc (own := [("index", 3), ("row", 4)]) (g := gTup K 2 (gCons (gName 3) (gCons (gName 4) gNil))) rfl sc_without.nd (pi_enumS (by rfl) T.enum (pa_cons (pv 0) pa_nil))
        (blkOk_by (N := N_without) (sc := defScope st_without) (by decide +kernel))
        (fun _ _ _ _ _ => pg_tup rfl (pgs_cons (pg_name (i := 3) sc_without.nd rfl (Or.inl rfl) (Or.inr rfl)) (pgs_cons (pg_name (i := 4) sc_without.nd rfl (Or.inl rfl) (Or.inr rfl)) pgs_nil)))
        (fun _ _ _ _ _ => pts_one (pt_cmpR op_ne (pv 3) (pv 1) (nomark _)))
        (fun _ _ _ _ _ => pe_op (r := Ct.rCat) op_cat3 (pe_slice (r := rSlT K) sl_tup (pv 4) po_none (po_some (pv 2))) (pe_slice (r := rSlT K) sl_tup (pv 4) (po_some (pe_op op_add (pv 2) pe_int)) po_none))) pa_nil))), ?_⟩
    have hvl : vx.length = M.length := hR.len
    have qx : ∀ H', Same H H' → SqV K H' true a vx := fun H' s => .inl (.inl (s _ _ ha))
    refine r_ret (r_cb (r_cons ?_))
    refine tlc_of (Ite2 K true a) (H1 := H) (fun R hR => ⟨_, rfl, true, a, vx, rfl, qx H (Same.refl H), hR⟩) ?_
    refine lc_rows (p := none) M.length (outW M at_ k) has_none (by omega) rfl (fun i _ => outW_len M at_ k i) (fun i H2 hi s2 => ?_) (fun H2 s2 => ?_) (fun i x H2 H3 C C0 hi s2 _ hy hC hC0 => ?_) fun Da H2 rs nD s2 hD hE => ?_
    · exact ⟨vx, vx[i]'(by omega), qx H2 s2.same, List.getElem?_eq_getElem (by omega)⟩
    · exact ⟨vx, qx H2 s2.same, by omega⟩
    · obtain ⟨T2, y, rfl, nT, rfl, hu⟩ := hy
      have ey := hu vx (qx H2 s2.same)
      obtain ⟨r, er, b, eb, hb⟩ := hR.get ey
      subst eb
      have lr := hMr r (List.mem_of_getElem? er)
      have hb2 := s2.same _ _ hb
      have eo : M.getD i [] = r := by rw [List.getD_eq_getElem?_getD, er]; rfl
      refine ⟨T2, _, rfl, .inl (.inl upd_same), rfl, _, _, rfl, _, _, rfl, rfl, rfl, ?_⟩
      have sTT : Same H2 (upd H2 T2 (.tup [V.int (i : Nat), .ref b])) := same_new nT
      refine ⟨_, rfl, _, rfl, rfl, _, rfl, ?_⟩
      by_cases hia : i = at_
      · rw [show (!decide (V.int ((i : Nat) : Int) = V.int (at_ : Int))) = false by simp [hia]]
        refine iteF ?_
        exact hC0 _ (RX.new nT) (by rw [outW_succ, if_pos hia, List.append_nil])
      · rw [show (!decide (V.int ((i : Nat) : Int) = V.int (at_ : Int))) = true by simp; omega]
        refine iteT ?_
        have hw : outW M at_ k (i + 1) = outW M at_ k i ++ [cutAt k r] := by rw [outW_succ, if_neg hia, eo]
        have kr : k < r.length := by omega
        have hb3 := sTT _ _ hb2
        refine r_op ?_
        refine ⟨_, rfl, _, rfl, _, rfl, b, _, rfl, .inl (.inl hb3), ?_, fun p1 np1 => ?_⟩
        · rintro ⟨_, z⟩
          rw [HT.sIx_nat, List.length_map] at z
          omega
        · rw [cutV_to r k (by omega)]
          have s1 := same_new (o := .tup ((r.take k).map V.int)) np1
          refine ⟨_, rfl, _, rfl, _, _, rfl, rfl, _, rfl, b, _, rfl, .inl (.inl (s1 _ _ hb3)), ?_, fun p2 np2 => ?_⟩
          · rintro ⟨z, _⟩
            have e : ((k : Int) + 1) = ((k + 1 : Nat) : Int) := by omega
            rw [e, HT.sIx_nat, List.length_map] at z
            omega
          · have e : ((k : Int) + 1) = ((k + 1 : Nat) : Int) := by omega
            rw [e, cutV_from r (k + 1) (by omega)]
            have s2' := same_new (o := .tup ((r.drop (k + 1)).map V.int)) np2
            refine ⟨p1, p2, _, _, rfl, rfl, s2' _ _ upd_same, upd_same, ?_, fun c H5 s5 hc => ?_⟩
            · rw [List.length_map, List.length_map, List.length_take, List.length_drop]
              omega
            · refine hC _ (cutAt k r) _ (RX.of (sTT.trans (s1.trans (s2'.trans s5)))) hw ⟨c, rfl, ?_⟩
              rw [hc]
              unfold cutAt
              rw [List.map_append]
    · refine ⟨Da, rs, rfl, .inl ⟨.inl (.inl hD), fun l nl => ?_⟩⟩
      have k : Same H2 (upd H2 l (.tup rs)) := same_new nl
      refine q _ _ (s2.same.trans k) ⟨l, rs, rfl, upd_same, ?_⟩
      exact hE.mono (KS.of k)
end
end T22
set_option Elab.async false
set_option linter.all false
set_option maxRecDepth 100000
set_option maxHeartbeats 1000000
namespace T22
open PySem PySem.Spec PyProof.Rows L2 Gd Zn Rp Dn Tb Gn En Zs Ct
mutual
def detM : Nat → List (List Int) → Int
  | 0, _ => 1
  | n + 1, M => ((List.range (n + 1)).map fun k => (M.getD 0 []).getD k 0 * cofM n M 0 k).sum
def cofM : Nat → List (List Int) → Nat → Nat → Int
  | n, M, a, k => if (a + k) % 2 = 0 then detM n (outM M a k) else -detM n (outM M a k)
end
structure Sq (n : Nat) (M : List (List Int)) : Prop where
  len : M.length = n
  row : ∀ r ∈ M, r.length = n
  small : ∀ r ∈ M, ∀ x ∈ r, Small x
theorem cutAt_len {r : List Int} {n k : Nat} (h : r.length = n + 1) (hk : k ≤ n) : (cutAt k r).length = n := by
  unfold cutAt
  rw [List.length_append, List.length_take, List.length_drop]
  omega
theorem cutAt_mem {r : List Int} {k : Nat} {x : Int} (h : x ∈ cutAt k r) : x ∈ r := by
  unfold cutAt at h
  rcases List.mem_append.mp h with h | h
  · exact List.mem_of_mem_take h
  · exact List.mem_of_mem_drop h
theorem out_count (n a : Nat) (h : a < n) : ((List.range n).filter fun j => !decide (j = a)).length = n - 1 := by
  have h1 : ((List.range n).filter fun j => !decide (j = a)).length + ((List.range n).filter fun j => decide (j = a)).length = n := by
    have := List.length_eq_countP_add_countP (p := fun j => decide (j = a)) (l := List.range n)
    rw [List.length_range, List.countP_eq_length_filter, List.countP_eq_length_filter] at this
    have e : (fun j => !decide (j = a)) = fun j => decide ¬ decide (j = a) = true := by
      funext j
      by_cases h : j = a <;> simp [h]
    rw [e]
    omega
  have h2 : ((List.range n).filter fun j => decide (j = a)).length = 1 := by
    have : ((List.range n).filter fun j => decide (j = a)) = [a] := by
      clear h1
      induction n with
      | zero => omega
      | succ n ih =>
        rw [List.range_succ, List.filter_append]
        by_cases z : n = a
        · subst z
          have : (List.range n).filter (fun j => decide (j = n)) = [] := by
            rw [List.filter_eq_nil_iff]
            intro x hx
            have := List.mem_range.mp hx
            simp
            omega
          rw [this]
          simp
        · rw [ih (by omega)]
          simp [z]
    rw [this]
    rfl
  omega
theorem Sq.out {n a k : Nat} {M : List (List Int)} (h : Sq (n + 1) M) (ha : a ≤ n) (hk : k ≤ n) : Sq n (outM M a k) := by
  have g : ∀ c ∈ outM M a k, ∃ r ∈ M, c = cutAt k r := fun c hc => by
    unfold outM outW at hc
    rw [List.mem_map] at hc
    obtain ⟨j, hj, e⟩ := hc
    rw [List.mem_filter] at hj
    have hj := List.mem_range.mp hj.1
    refine ⟨M[j], List.getElem_mem hj, ?_⟩
    rw [← e, List.getD_eq_getElem?_getD, List.getElem?_eq_getElem hj]
    rfl
  refine ⟨?_, fun c hc => ?_, fun c hc x hx => ?_⟩
  · unfold outM outW
    rw [List.length_map, h.len, out_count (n + 1) a (by omega)]
    rfl
  · obtain ⟨r, hr, rfl⟩ := g c hc
    exact cutAt_len (h.row r hr) hk
  · obtain ⟨r, hr, rfl⟩ := g c hc
    exact h.small r hr x (cutAt_mem hx)
theorem det_bd : ∀ (n : Nat) {M : List (List Int)}, Sq n M → n ≤ 4 → (detM n M).natAbs < 2 ^ (n * 20010 + 1)
  | 0, M, _, _ => by unfold detM; decide
  | n + 1, M, hS, hn => by
    unfold detM
    have h : ∀ x ∈ (List.range (n + 1)).map (fun k => (M.getD 0 []).getD k 0 * cofM n M 0 k), x.natAbs ≤ 2 ^ (20000 + (n * 20010 + 1)) := fun x hx => by
      obtain ⟨k, hk, rfl⟩ := List.mem_map.mp hx
      have hk := List.mem_range.mp hk
      have ih := det_bd n (hS.out (Nat.zero_le n) (show k ≤ n by omega)) (by omega)
      have c : (cofM n M 0 k).natAbs < 2 ^ (n * 20010 + 1) := by
        unfold cofM
        split
        · exact ih
        · rw [Int.natAbs_neg]; exact ih
      have l0 : 0 < M.length := by rw [hS.len]; omega
      have m0 : M.getD 0 [] ∈ M := by rw [List.getD_eq_getElem?_getD, List.getElem?_eq_getElem l0]; exact List.getElem_mem l0
      have lr := hS.row _ m0
      have m1 : (M.getD 0 []).getD k 0 ∈ M.getD 0 [] := by
        generalize M.getD 0 [] = r at lr
        rw [List.getD_eq_getElem?_getD, List.getElem?_eq_getElem (by omega)]
        exact List.getElem_mem _
      obtain ⟨e, e1, e2⟩ := hS.small _ m0 _ m1
      exact Nat.le_of_lt (Wd.abs_mul (Wd.abs_mono e2 e1) c)
    have s := Wd.abs_sum h
    rw [List.length_map, List.length_range] at s
    have g : (n + 1) * 2 ^ (20000 + (n * 20010 + 1)) < 2 ^ ((n + 1) * 20010 + 1) := by
      have e : (n + 1) * 20010 + 1 = 10 + (20000 + (n * 20010 + 1)) := by omega
      rw [e, Nat.pow_add 2 10]
      exact Nat.mul_lt_mul_of_pos_right (by omega) (Nat.pow_pos (by decide))
    exact Nat.lt_of_le_of_lt s g
theorem det_wid {n : Nat} {M : List (List Int)} (hn : n ≤ 4) (hS : Sq n M) : Wd.Wid (detM n M) := ⟨_, by omega, det_bd n hS hn⟩
theorem cof_wid {n a k : Nat} {M : List (List Int)} (hn : n ≤ 3) (hS : Sq (n + 1) M) (ha : a ≤ n) (hk : k ≤ n) : Wd.Wid (cofM n M a k) := by
  have ih := det_bd n (hS.out ha hk) (by omega)
  refine ⟨n * 20010 + 1, by omega, ?_⟩
  unfold cofM
  split
  · exact ih
  · rw [Int.natAbs_neg]; exact ih
section
variable {P : Program} {w : World} {K : PySem.W.Frag} {mg : Str → Option Value} {base : Heap}
abbrev st_cofactor : Stmt := top 29
def sp_cof (n : Nat) : Sp := fun vs H Q _ => ∃ v M, ∃ a k : Nat, vs = [v, .int a, .int k] ∧ Mx H v M ∧ n ≤ 3 ∧ Sq (n + 1) M ∧ a ≤ n ∧ k ≤ n ∧ ∀ H', Same H H' → Q (.int (cofM n M a k)) H'
def sp_det (n : Nat) : Sp := fun vs H Q _ => ∃ v M, vs = [v] ∧ Mx H v M ∧ n ≤ 4 ∧ Sq n M ∧ ∀ H', Same H H' → Q (.int (detM n M)) H'
abbrev N_cof : List Str := ["rows", "at", "place", "left"]
theorem sc_cofactor : FnScope N_cof ["rows", "at", "place"] (defScope st_cofactor) := ⟨rfl, rfl, rfl, by decide +kernel, rfl, by decide +kernel, by decide +kernel⟩
theorem ok_cofactor {f : Addr} {fd : FuncData} (n : Nat) (F : Fun K "cofactor" "cofactor" st_cofactor f fd) (T : Txt mg) (D1 : Def P w K mg base "without" 1 ["rows", "at", "place"] sp_without) (D2 : Def P w K mg base "determinant_of" (2 * n + 1) ["rows"] (sp_det n)) :
    FnOk P w K mg base CX0 (2 * n + 2) f fd ["rows", "at", "place"] (sp_cof n) := by
  refine F.ok sc_cofactor (fun vs H Q E h => ?_) (fun cdv A outer s H vs Q E hr h => ?_)
  · obtain ⟨v, M, a, k, rfl, _⟩ := h
    rfl
  · obtain ⟨v, M, a, k, rfl, hM, hn, hS, ha, hk, q⟩ := h
    refine ⟨_, pss_cons (ps_set (i := 3) sc_cofactor.nd rfl (Or.inl rfl) (pe_def D2 hr (pa_cons (pe_def D1 hr (pa_cons (pv 0) (pa_cons (pv 1) (pa_cons (pv 2) pa_nil))) (by omega)) pa_nil) (by omega)))
      (pss_one (ps_ret (pe_ifExp (pt_cmpR op_eq (pe_op op_mod (pe_op op_add (pv 1) (pv 2)) pe_int) pe_int (nomark _)) (pv 3) (pe_un un_neg (pv 3))))), ?_⟩
    refine ⟨_, rfl, _, rfl, _, rfl, v, M, a, k, n + 1, rfl, hM, by rw [hS.len]; omega, by omega, by omega, hS.row, fun v1 H1 s1 h1 => ?_⟩
    refine ⟨v1, outM M a k, rfl, h1, by omega, hS.out ha hk, fun H2 s2 => ?_⟩
    have ec : ((a : Int) + (k : Int)) % 2 = 0 ↔ (a + k) % 2 = 0 := by omega
    have q2 := q H2 (s1.trans s2)
    refine ⟨_, rfl, _, rfl, _, _, rfl, rfl, _, _, rfl, rfl, (show (0 : Int) < 2 by decide), rfl, _, rfl, ?_⟩
    by_cases z : (a + k) % 2 = 0
    · rw [decide_eq_true (congrArg V.int (ec.mpr z))]
      refine iteT ⟨_, rfl, ?_⟩
      have : cofM n M a k = detM n (outM M a k) := by unfold cofM; rw [if_pos z]
      rw [this] at q2
      exact q2
    · rw [decide_eq_false (fun e => z (ec.mp (V.int.inj e)))]
      refine iteF ⟨_, rfl, _, rfl, ?_⟩
      have : cofM n M a k = -detM n (outM M a k) := by unfold cofM; rw [if_neg z]
      rw [this] at q2
      exact q2
abbrev st_det : Stmt := top 28
abbrev N_det : List Str := ["rows", "place", "number"]
theorem sc_det : FnScope N_det ["rows"] (defScope st_det) := ⟨rfl, rfl, rfl, by decide +kernel, rfl, by decide +kernel, by decide +kernel⟩
theorem ok_det0 {f : Addr} {fd : FuncData} (F : Fun K "determinant_of" "determinant_of" st_det f fd) (T : Txt mg) : FnOk P w K mg base CX0 1 f fd ["rows"] (sp_det 0) := by
  refine F.ok sc_det (fun vs H Q E h => ?_) (fun cdv A outer s H vs Q E hr h => ?_)
  · obtain ⟨v, M, rfl, _⟩ := h
    rfl
  · obtain ⟨v, M, rfl, ⟨a, vx, rfl, ha, hR⟩, hn, hS, q⟩ := h
    refine ⟨_, pss_cons (ps_if (pt_cmpR op_eq (pe_callB (r := Dn.rLen K) c_len (by rfl) T.len PySem.boot_len (pa_cons (pv 0) pa_nil)) pe_int (nomark _)) (pss_one (ps_ret pe_int)) pss_nil)
      pss_dead, ?_⟩
    have hvl : vx.length = 0 := by rw [hR.len]; exact hS.len
    refine ⟨_, rfl, a, vx, rfl, .inr (.inl (.inl ha)), rfl, _, rfl, ?_⟩
    rw [decide_eq_true (show V.int (vx.length : Int) = V.int 0 by rw [hvl]; rfl)]
    refine iteT ?_
    have := q H (Same.refl H)
    unfold detM at this
    exact this
theorem len2 {α : Type} {l : List α} (h : l.length = 2) : ∃ a b, l = [a, b] := by
  match l, h with
  | [a, b], _ => exact ⟨a, b, rfl⟩
theorem det2 (a b c d : Int) : detM 2 [[a, b], [c, d]] = a * d - b * c := by
  simp [detM, cofM, outM, outW, cutAt, List.range_succ, List.getD]
  grind
theorem ok_det2 {f : Addr} {fd : FuncData} (F : Fun K "determinant_of" "determinant_of" st_det f fd) (T : Txt mg) : FnOk P w K mg base CX0 5 f fd ["rows"] (sp_det 2) := by
  refine F.ok sc_det (fun vs H Q E h => ?_) (fun cdv A outer s H vs Q E hr h => ?_)
  · obtain ⟨v, M, rfl, _⟩ := h
    rfl
  · obtain ⟨v, M, rfl, ⟨a, vx, rfl, ha, hR⟩, hn, hS, q⟩ := h
    refine ⟨_, pss_cons (ps_if (pt_cmpR op_eq (pe_callB (r := Dn.rLen K) c_len (by rfl) T.len PySem.boot_len (pa_cons (pv 0) pa_nil)) pe_int (nomark _)) pss_dead pss_nil)
      (pss_cons (ps_if (pt_cmpR op_eq (pe_callB (r := Dn.rLen K) c_len (by rfl) T.len PySem.boot_len (pa_cons (pv 0) pa_nil)) pe_int (nomark _)) (pss_one (ps_ret (pe_op op_sub (pe_op op_mulX (pe_ix ix_sq (pe_ix ix_sq (pv 0) pe_int (fun _ _ => rfl)) pe_int (fun _ _ => rfl)) (pe_ix ix_sq (pe_ix ix_sq (pv 0) pe_int (fun _ _ => rfl)) pe_int (fun _ _ => rfl))) (pe_op op_mulX (pe_ix ix_sq (pe_ix ix_sq (pv 0) pe_int (fun _ _ => rfl)) pe_int (fun _ _ => rfl)) (pe_ix ix_sq (pe_ix ix_sq (pv 0) pe_int (fun _ _ => rfl)) pe_int (fun _ _ => rfl)))))) pss_nil) pss_dead), ?_⟩
    obtain ⟨r1, r2, rfl⟩ := len2 hS.len
    obtain ⟨a1, b1, rfl⟩ := len2 (hS.row r1 (by simp))
    obtain ⟨c1, d1, rfl⟩ := len2 (hS.row r2 (by simp))
    have sa : Small a1 := hS.small [a1, b1] (by simp) a1 (by simp)
    have sb : Small b1 := hS.small [a1, b1] (by simp) b1 (by simp)
    have sc : Small c1 := hS.small [c1, d1] (by simp) c1 (by simp)
    have sd : Small d1 := hS.small [c1, d1] (by simp) d1 (by simp)
    have hvl : vx.length = 2 := by rw [hR.len]; rfl
    obtain ⟨x1, x2, rfl⟩ := len2 hvl
    obtain ⟨_, e1, p1, rfl, h1⟩ := hR.get (i := 0) rfl
    obtain ⟨_, e2, p2, rfl, h2⟩ := hR.get (i := 1) rfl
    cases e1
    cases e2
    have hA : SqV K H true a [V.ref p1, V.ref p2] := .inl (.inl ha)
    have hP : SqV K H true p1 [V.int a1, V.int b1] := .inl (.inl h1)
    have hQ : SqV K H true p2 [V.int c1, V.int d1] := .inl (.inl h2)
    refine ⟨_, rfl, a, _, rfl, .inr (.inl (.inl ha)), rfl, _, rfl, ?_⟩
    refine iteF ?_
    refine ⟨_, rfl, a, _, rfl, .inr (.inl (.inl ha)), rfl, _, rfl, ?_⟩
    refine iteT ?_
    have q2 := q H (Same.refl H)
    rw [det2] at q2
    refine ⟨_, rfl, true, a, _, (0 : Int), _, rfl, rfl, hA, atI_nat (j := 0) rfl, true, p1, _, (0 : Int), _, rfl, rfl, hP, atI_nat (j := 0) rfl, _, rfl, true, a, _, (1 : Int), _, rfl, rfl, hA, atI_nat (j := 1) rfl, true, p2, _, (1 : Int), _, rfl, rfl, hQ, atI_nat (j := 1) rfl, _, _, rfl, rfl, Wd.mul sa sd, _, rfl, true, a, _, (0 : Int), _, rfl, rfl, hA, atI_nat (j := 0) rfl, true, p1, _, (1 : Int), _, rfl, rfl, hP, atI_nat (j := 1) rfl, _, rfl, true, a, _, (1 : Int), _, rfl, rfl, hA, atI_nat (j := 1) rfl, true, p2, _, (0 : Int), _, rfl, rfl, hQ, atI_nat (j := 0) rfl, _, _, rfl, rfl, Wd.mul sb sc, _, _, rfl, rfl, q2⟩
theorem ok_detS {f : Addr} {fd : FuncData} (n : Nat) (n1 : n ≠ 1) (F : Fun K "determinant_of" "determinant_of" st_det f fd) (T : Txt mg) (D1 : Def P w K mg base "cofactor" (2 * n + 2) ["rows", "at", "place"] (sp_cof n)) :
    FnOk P w K mg base CX0 (2 * n + 3) f fd ["rows"] (sp_det (n + 1)) := by
  refine F.ok sc_det (fun vs H Q E h => ?_) (fun cdv A outer s H vs Q E hr h => ?_)
  · obtain ⟨v, M, rfl, _⟩ := h
    rfl
  · obtain ⟨v, M, rfl, ⟨a, vx, rfl, ha, hR⟩, hn, hS, q⟩ := h
    refine ⟨_, pss_cons (ps_if (pt_cmpR op_eq (pe_callB (r := Dn.rLen K) c_len (by rfl) T.len PySem.boot_len (pa_cons (pv 0) pa_nil)) pe_int (nomark _)) pss_dead pss_nil)
      (pss_cons (ps_if (pt_cmpR op_eq (pe_callB (r := Dn.rLen K) c_len (by rfl) T.len PySem.boot_len (pa_cons (pv 0) pa_nil)) pe_int (nomark _)) pss_dead pss_nil)
      (pss_one (ps_ret (pe_callB (cr_sum rfl) (by rfl) T.sum boot_sum (pa_cons (pe_lc (own := [("place", 1), ("number", 2)]) (g := gTup K 2 (gCons (gName 1) (gCons (gName 2) gNil))) (tt := tYes) rfl sc_det.nd (pi_enumS (by rfl) T.enum (pa_cons (pe_ix ix_sq (pv 0) pe_int (fun _ _ => rfl)) pa_nil))
        (blkOk_by (N := N_det) (sc := defScope st_det) (by decide +kernel))
        (fun _ _ _ _ _ => pg_tup rfl (pgs_cons (pg_name (i := 1) sc_det.nd rfl (Or.inl rfl) (Or.inr rfl)) (pgs_cons (pg_name (i := 2) sc_det.nd rfl (Or.inl rfl) (Or.inr rfl)) pgs_nil)))
        (fun _ _ _ _ _ => pts_nil)
        (fun _ _ _ _ _ => pe_op op_mulX (pv 2) (pe_def (X := Cx.blk _ _ _ _ _ _) D1 hr (pa_cons (pv 0) (pa_cons pe_int (pa_cons (pv 1) pa_nil))) (by omega)))) pa_nil))))), ?_⟩
    have hvl : vx.length = n + 1 := by rw [hR.len]; exact hS.len
    refine ⟨_, rfl, a, vx, rfl, .inr (.inl (.inl ha)), rfl, _, rfl, ?_⟩
    rw [decide_eq_false (show ¬ V.int (vx.length : Int) = V.int 0 from fun e => by have := V.int.inj e; omega)]
    refine iteF ?_
    refine ⟨_, rfl, a, vx, rfl, .inr (.inl (.inl ha)), rfl, _, rfl, ?_⟩
    rw [decide_eq_false (show ¬ V.int (vx.length : Int) = V.int 2 from fun e => by have := V.int.inj e; omega)]
    refine iteF ?_
    have e0 : vx[0]? = some vx[0] := List.getElem?_eq_getElem (by omega)
    obtain ⟨r, er, b, eb, hb⟩ := hR.get e0
    have lr := hS.row r (List.mem_of_getElem? er)
    have sr := hS.small r (List.mem_of_getElem? er)
    have e1 : M.getD 0 [] = r := by rw [List.getD_eq_getElem?_getD, er]; rfl
    rw [eb] at e0
    have qb : ∀ H', Same H H' → SqV K H' true b (r.map V.int) := fun H' s => .inl (.inl (s _ _ hb))
    refine r_nret (r_cb (r_cons ?_))
    refine tlc_of (Ite2 K true b) (H1 := H) (fun R hR' => ⟨_, rfl, true, a, vx, (0 : Int), _, rfl, rfl, .inl (.inl ha), atI_nat e0, true, b, r.map V.int, rfl, qb H (Same.refl H), hR'⟩) ?_
    refine lc_el (p := none) (n + 1) (fun i v => v = .int (r.getD i 0 * cofM n M 0 i)) has_none (by omega) (fun i H2 hi s2 => ?_) (fun H2 s2 => ?_) (fun i x H2 H3 C hi s2 _ hy hC => ?_) fun Da H2 rs nD s2 hD hrl hE => ?_
    · exact ⟨_, _, qb H2 s2.same, List.getElem?_eq_getElem (by rw [List.length_map]; omega)⟩
    · exact ⟨_, qb H2 s2.same, by rw [List.length_map]; omega⟩
    · obtain ⟨T2, y, rfl, nT, rfl, hu⟩ := hy
      have ey := hu _ (qb H2 s2.same)
      have hi' : i < r.length := by omega
      rw [List.getElem?_map, List.getElem?_eq_getElem hi'] at ey
      cases ey
      have eg : r.getD i 0 = r[i] := by rw [List.getD_eq_getElem?_getD, List.getElem?_eq_getElem hi']; rfl
      have sT : Same H2 (upd H2 T2 (.tup [V.int (i : Nat), V.int r[i]])) := same_new nT
      refine ⟨T2, _, rfl, .inl (.inl upd_same), rfl, _, _, rfl, _, _, rfl, rfl, rfl, ?_⟩
      refine ⟨_, rfl, _, rfl, _, rfl, _, M, 0, i, rfl, ?_, by omega, hS, Nat.zero_le _, by omega, fun H4 s4 => ?_⟩
      · exact Mx.mono (KS.of (s2.same.trans sT)) ⟨a, vx, rfl, ha, hR⟩
      · refine ⟨_, _, rfl, rfl, Wd.mulW (sr _ (List.getElem_mem hi')).w (cof_wid (by omega) hS (Nat.zero_le _) (by omega)), hC _ _ (RX.of (sT.trans s4)) ?_⟩
        rw [eg]
    · have er' : rs = (List.range (n + 1)).map fun k => V.int (r.getD k 0 * cofM n M 0 k) := map_of_get (n := 0) _ (by rw [hrl, List.length_range]) fun i v e => by
        have hi : i < n + 1 := by rw [← hrl]; exact (List.getElem?_eq_some_iff.mp e).1
        exact ⟨i, List.getElem?_range hi, hE i v e⟩
      refine ⟨Da, (List.range (n + 1)).map fun k => r.getD k 0 * cofM n M 0 k, rfl, .inl (.inl ?_), ?_⟩
      · rw [hD, er', List.map_map]
        rfl
      · have := q H2 s2.same
        unfold detM at this
        rw [e1] at this
        exact this
/-- both, by the size -/
theorem ok_dets {f g : Addr} {fd gd : FuncData} (F : Fun K "determinant_of" "determinant_of" st_det f fd) (G : Fun K "cofactor" "cofactor" st_cofactor g gd) (T : Txt mg) (D1 : Def P w K mg base "without" 1 ["rows", "at", "place"] sp_without)
    (mf : mg "determinant_of" = some (.ref f)) (kf : PySem.W.keepIn K (.ref f) = true) (bf : Binds K fd ["rows"] []) (mg' : mg "cofactor" = some (.ref g)) (kg : PySem.W.keepIn K (.ref g) = true) (bg : Binds K gd ["rows", "at", "place"] []) :
    ∀ n, Def P w K mg base "determinant_of" (2 * n + 1) ["rows"] (sp_det n) ∧ Def P w K mg base "cofactor" (2 * n + 2) ["rows", "at", "place"] (sp_cof n)
  | 0 => ⟨⟨f, fd, ok_det0 F T, mf, kf, bf⟩, ⟨g, gd, ok_cofactor 0 G T D1 ⟨f, fd, ok_det0 F T, mf, kf, bf⟩, mg', kg, bg⟩⟩
  | n + 1 => by
    have d : Def P w K mg base "determinant_of" (2 * (n + 1) + 1) ["rows"] (sp_det (n + 1)) := by
      by_cases z : n = 1
      · subst z
        exact ⟨f, fd, ok_det2 F T, mf, kf, bf⟩
      · exact ⟨f, fd, ok_detS n z F T (ok_dets F G T D1 mf kf bf mg' kg bg n).2, mf, kf, bf⟩
    exact ⟨d, ⟨g, gd, ok_cofactor (n + 1) G T D1 d, mg', kg, bg⟩⟩
end
end T22
set_option Elab.async false
set_option linter.all false
set_option maxRecDepth 100000
set_option maxHeartbeats 1000000
namespace Op
open PySem PySem.Spec PyProof.Rows L2
end Op
set_option Elab.async false
set_option linter.all false
set_option maxRecDepth 100000
set_option maxHeartbeats 1000000
namespace T22
open PySem PySem.Spec PyProof.Rows L2 Gd Zn Rp Dn Tb Gn En Zs Ct Op
abbrev st_T (i : Nat) : Stmt := inClass (top 33) i
def fldsT (r : V) : List (Str × V) := putF "_rows" r []
theorem fldsT_rows (r : V) : (fldsT r).lookup ("_rows" : Str) = some r := by
  unfold fldsT
  rw [lookup_putF, if_pos rfl]
def Tab (C : Addr) (H : Hp) (v : V) (M : List (List Int)) : Prop := ∃ p dx r, v = .ref p ∧ H p = some (.ins C dx (fldsT r)) ∧ Mx H r M
theorem Tab.mono {C : Addr} {H H' : Hp} {v : V} {M : List (List Int)} (s : KS H H') (h : Tab C H v M) : Tab C H' v M := by
  obtain ⟨p, dx, r, e, h, m⟩ := h
  exact ⟨p, dx, r, e, s p _ (fun _ z => by cases z) h, m.mono s⟩
theorem RowsV.tup_mono {H H' : Hp} {vs : List V} {M : List (List Int)} (s : ∀ c xs, H c = some (.tup xs) → H' c = some (.tup xs)) (h : RowsV H vs M) : RowsV H' vs M := by
  induction h with
  | nil => exact .nil
  | cons p _ ih =>
    obtain ⟨b, e, h⟩ := p
    exact .cons ⟨b, e, s _ _ h⟩ ih
theorem Mx.tup_mono {H H' : Hp} {v : V} {M : List (List Int)} (s : ∀ c xs, H c = some (.tup xs) → H' c = some (.tup xs)) (h : Mx H v M) : Mx H' v M := by
  obtain ⟨a, vs, e, h, r⟩ := h
  exact ⟨a, vs, e, s _ _ h, T22.RowsV.tup_mono s r⟩
structure Tcl (K : PySem.W.Frag) (mg : Str → Option Value) (C : Addr) : Prop where
  cl : Cls K C
  nR : NoAttr K C "_rows"
  mgC : mg "Table" = some (.ref C)
  cc : PySem.W.findIn K (.ref C) "__class__" = some (some (.builtin "object.__class__"))
  cg : PySem.W.specialIn K (.builtin "object.__class__") "__get__" = some (some (.builtin "getset_descriptor.__get__"))
  ct : PySem.W.takesIn K (.builtin "object.__class__") = some true
  cm : PySem.W.mroIn K C (.type "object") = some true
theorem Tcl.ty {K : PySem.W.Frag} {mg : Str → Option Value} {C : Addr} (T : Tcl K mg C) {H : Hp} {p dx : Addr} {fs : List (Str × V)} (h : H p = some (.ins C dx fs)) : TyX K H (.ref p) (.ref C) := .base (.ins h T.cl T.cc T.cg T.ct T.cm)
theorem kit_own (K : PySem.W.Frag) (C : Addr) : PySem.W.kitOne K (.ref C) (.ref C) = some true := by
  unfold PySem.W.kitOne
  rw [if_pos (by simp)]
theorem row_true {n : Nat} {r : List Int} {d : PyData} (hd : d = .list (iD r) ∨ d = .tuple (iD r)) (h1 : 1 ≤ n) (h3 : n ≤ 3) (hl : r.length = n) : rowOfB n d = true := by
  have e1 : isSeq d = true := by rcases hd with rfl | rfl <;> rfl
  have e2 : items d = iD r := by rcases hd with rfl | rfl <;> rfl
  have e3 : (iD r).length = n := by unfold iD; rw [List.length_map]; exact hl
  have e4 : (iD r).all isIntD = true := by
    unfold iD
    rw [List.all_map]
    simp [isIntD, Function.comp_def]
  unfold rowOfB rowB
  rw [e1, e2, e3, e4, decide_eq_true h1, decide_eq_true h3, decide_eq_true rfl]
  rfl
theorem grid_true {n : Nat} {d : PyData} {M : List (List Int)} (g : GridD d M) (h1 : 1 ≤ n) (h3 : n ≤ 3) (hS : Sq n M) : gridB d = true ∧ ∀ r ∈ items d, (items r).length = n := by
  obtain ⟨g1, g2, g3⟩ := g
  have hl : (items d).length = n := by rw [g2]; exact hS.len
  have hr : ∀ d' ∈ items d, ∃ r, r.length = n ∧ (d' = .list (iD r) ∨ d' = .tuple (iD r)) := fun d' hd => by
    obtain ⟨i, hi, e⟩ := List.getElem_of_mem hd
    obtain ⟨r, er, h⟩ := g3 i d' (by rw [List.getElem?_eq_getElem hi, e])
    exact ⟨r, hS.row r (List.mem_of_getElem? er), h⟩
  refine ⟨?_, fun d' hd => ?_⟩
  · unfold gridB
    rw [g1, hl, decide_eq_true (show 0 < n by omega), Bool.and_true, Bool.true_and, List.all_eq_true]
    intro d' hd
    obtain ⟨r, l, h⟩ := hr d' hd
    exact row_true h h1 h3 l
  · obtain ⟨r, l, h⟩ := hr d' hd
    rcases h with rfl | rfl
    · show (iD r).length = n
      unfold iD
      rw [List.length_map]; exact l
    · show (iD r).length = n
      unfold iD
      rw [List.length_map]; exact l
section
variable {P : Program} {w : World} {K : PySem.W.Frag} {mg : Str → Option Value} {base : Heap} {C : Addr}
def sp_init (C : Addr) : Sp := fun vs H Q _ => ∃ p dx v d M n, vs = [.ref p, v] ∧ H p = some (.ins C dx []) ∧ AnyV H v d ∧ GridD d M ∧ Sq n M ∧ 1 ≤ n ∧ n ≤ 3 ∧ (detM n M = 1 ∨ detM n M = -1) ∧
  ∀ H', (∀ c o, c ≠ p → H c = some o → H' c = some o) → Tab C H' (.ref p) M → Q .non H'
theorem sc_init : FnScope ["self", "rows", "kept"] ["self", "rows"] (defScope (st_T 0)) := ⟨rfl, rfl, rfl, by decide +kernel, rfl, by decide +kernel, by decide +kernel⟩
theorem ok_init {f : Addr} {fd : FuncData} (F : Fun K "__init__" "Table.__init__" (st_T 0) f fd) (T : Txt mg) (Tc : Tcl K mg C) (D1 : Def P w K mg base "is_grid" 4 ["value"] sp_is_grid) (D2 : Def P w K mg base "copied" 1 ["rows"] sp_copied)
    (D3 : ∀ n, Def P w K mg base "determinant_of" (2 * n + 1) ["rows"] (sp_det n)) : FnOk P w K mg base CX0 8 f fd ["self", "rows"] (sp_init C) := by
  refine F.ok sc_init (fun vs H Q E h => ?_) (fun cdv A outer s H vs Q E hr h => ?_)
  · obtain ⟨p, dx, v, d, M, n, rfl, _⟩ := h
    rfl
  · obtain ⟨p, dx, v, d, M, n, rfl, hp, av, g, hS, h1, h3, hdet, q⟩ := h
    obtain ⟨gt, gl⟩ := grid_true g h1 h3 hS
    refine ⟨_, pss_cons (ps_if (pt_not (pt_val (pe_def D1 hr (pa_cons (pv 1) pa_nil)))) pss_dead pss_nil)
      (pss_cons (ps_set (i := 2) sc_init.nd rfl (Or.inl rfl) (pe_def D2 hr (pa_cons (pv 1) pa_nil)))
      (pss_cons (ps_if (pt_cmpR op_notIn_seq (pe_def (D3 n) hr (pa_cons (pv 2) pa_nil) (by omega)) (pe_tup (pa_cons pe_int (pa_cons (pe_un un_neg pe_int) pa_nil))) (by rfl)) pss_dead pss_nil)
      (pss_one (ps_fld (pv 0) (pv 2) rfl)))), ?_⟩
    have hl : (items d).length = n := by rw [g.2.1]; exact hS.len
    refine ⟨_, rfl, v, d, rfl, av, by omega, fun r hr => by rw [gl r hr]; omega, fun H1 s1 => ⟨_, rfl, ?_⟩⟩
    rw [gt]
    refine iteF ?_
    refine ⟨_, rfl, v, d, M, rfl, av.mono s1, g, by rw [hS.len]; omega, fun v' H2 s2 hM => ?_⟩
    refine ⟨_, rfl, v', M, rfl, hM, by omega, hS, fun H3 s3 => ?_⟩
    refine ⟨_, rfl, (by show 2 ≤ sizeLine; decide), fun t nt => ?_⟩
    refine ⟨t, _, rfl, .inr (.inl (.inl upd_same)), rfl, rfl, _, rfl, ?_⟩
    have hin : (if true = true then !inV (V.int (detM n M)) [V.int 1, V.int (-1)] else inV (V.int (detM n M)) [V.int 1, V.int (-1)]) = false := by
      rcases hdet with e | e <;> rw [e] <;> decide +kernel
    rw [hin]
    refine iteF ?_
    have sT : Same H3 (upd H3 t (.tup [V.int 1, V.int (-1)])) := same_new nt
    have sA : Same H (upd H3 t (.tup [V.int 1, V.int (-1)])) := s1.trans (s2.trans (s3.trans sT))
    refine ⟨_, rfl, _, rfl, p, C, dx, [], rfl, sA _ _ hp, Tc.cl, Tc.nR, (by show 0 < 1000; decide), ?_⟩
    refine q _ (fun c o hc e => ?_) ?_
    · rw [upd_ne hc]
      exact sA _ _ e
    · refine ⟨p, dx, v', rfl, upd_same, T22.Mx.tup_mono (fun c xs e => ?_) hM⟩
      have e2 := (s3.trans sT) _ _ e
      have nc : c ≠ p := fun z => by
        subst z
        have := sA _ _ hp
        rw [e2] at this
        cases this
      rw [upd_ne nc]
      exact e2
end
end T22
set_option Elab.async false
set_option linter.all false
set_option maxRecDepth 100000
set_option maxHeartbeats 1000000
namespace T22
open PySem PySem.Spec PyProof.Rows L2 Gd Zn Rp Dn Tb Gn En Zs Ct Op
structure Prp (P : Program) (w : World) (K : PySem.W.Frag) (mg : Str → Option Value) (base : Heap) (C : Addr) (nm : Str) (k : Nat) (sp : Sp) : Prop where
  ex : ∃ (p g : Addr) (fd : FuncData), PropOf K C nm p g ∧ FnOk P w K mg base CX0 k g fd ["self"] sp ∧ Binds K fd ["self"] []
theorem pe_prp {X : Cx} {C : Addr} {nm : Str} {k j : Nat} {sp : Sp} {e : Expr} {ta : TE} {pos : Pos} (D : Prp X.prog X.w X.K X.mg X.base C nm k sp) (cl : Cls X.K C) (room : Room j X.A) (he : PE X e ta) (hkj : k + 1 ≤ j := by decide)
    (ha : PySem.attributeBase e nm X.env (PySem.eval e X.env) = PySem.eval e X.env := by rfl) : PE X (.Attribute e nm pos) (tProp C sp [] E0 ta) := by
  obtain ⟨p, g, fd, pr, G, b⟩ := D.ex
  exact pe_prop he cl pr G (room.mono hkj) b .nil pass0 ha
section
variable {P : Program} {w : World} {K : PySem.W.Frag} {mg : Str → Option Value} {base : Heap} {C : Addr}
def sp_rows (C : Addr) : Sp := fun vs H Q _ => ∃ v M, vs = [v] ∧ Tab C H v M ∧ ∀ r, Mx H r M → Q r H
theorem sc_rows : FnScope ["self"] ["self"] (defScope (st_T 1)) := ⟨rfl, rfl, rfl, by decide +kernel, rfl, by decide +kernel, by decide +kernel⟩
theorem ok_rows {f : Addr} {fd : FuncData} (F : Fun K "rows" "Table.rows" (st_T 1) f fd) (Tc : Tcl K mg C) : FnOk P w K mg base CX0 1 f fd ["self"] (sp_rows C) := by
  refine F.ok sc_rows (fun vs H Q E h => ?_) (fun cdv A outer s H vs Q E hr h => ?_)
  · obtain ⟨v, M, rfl, _⟩ := h
    rfl
  · obtain ⟨v, M, rfl, ⟨p, dx, r, rfl, hp, hM⟩, q⟩ := h
    refine ⟨_, pss_one (ps_ret (pe_fld (pv 0) rfl)), ?_⟩
    exact ⟨_, rfl, p, C, dx, _, _, rfl, hp, Tc.cl, Tc.nR, fldsT_rows _, q r hM⟩
def sp_size (C : Addr) : Sp := fun vs H Q _ => ∃ v M, vs = [v] ∧ Tab C H v M ∧ Q (.int M.length) H
theorem sc_size : FnScope ["self"] ["self"] (defScope (st_T 2)) := ⟨rfl, rfl, rfl, by decide +kernel, rfl, by decide +kernel, by decide +kernel⟩
theorem ok_size {f : Addr} {fd : FuncData} (F : Fun K "size" "Table.size" (st_T 2) f fd) (T : Txt mg) (Tc : Tcl K mg C) : FnOk P w K mg base CX0 1 f fd ["self"] (sp_size C) := by
  refine F.ok sc_size (fun vs H Q E h => ?_) (fun cdv A outer s H vs Q E hr h => ?_)
  · obtain ⟨v, M, rfl, _⟩ := h
    rfl
  · obtain ⟨v, M, rfl, ⟨p, dx, r, rfl, hp, a, vx, rfl, ha, hR⟩, q⟩ := h
    refine ⟨_, pss_one (ps_ret (pe_callB (r := Dn.rLen K) c_len (by rfl) T.len PySem.boot_len (pa_cons (pe_fld (pv 0) rfl) pa_nil))), ?_⟩
    refine ⟨_, rfl, p, C, dx, _, _, rfl, hp, Tc.cl, Tc.nR, fldsT_rows _, a, vx, rfl, .inr (.inl (.inl ha)), ?_⟩
    rw [hR.len]
    exact q
abbrev st_check_table : Stmt := top 34
def sp_check_table (C : Addr) : Sp := fun vs H Q _ => ∃ v M, vs = [v] ∧ Tab C H v M ∧ Q .non H
theorem sc_check_table : FnScope ["table"] ["table"] (defScope st_check_table) := ⟨rfl, rfl, rfl, by decide +kernel, rfl, by decide +kernel, by decide +kernel⟩
theorem ok_check_table {f : Addr} {fd : FuncData} (F : Fun K "check_table" "check_table" st_check_table f fd) (T : Txt mg) (Tc : Tcl K mg C) :
    FnOk P w K mg base CX0 1 f fd ["table"] (sp_check_table C) := by
  refine F.ok sc_check_table (fun vs H Q E h => ?_) (fun cdv A outer s H vs Q E hr h => ?_)
  · obtain ⟨v, M, rfl, _⟩ := h
    rfl
  · obtain ⟨v, M, rfl, ⟨p, dx, r, rfl, hp, hM⟩, q⟩ := h
    refine ⟨_, pss_one (ps_if (pt_not (pt_val (pe_callB (r := rIsi K) call_isi (by rfl) T.isi boot_isinstance (pa_cons (pv 0) (pa_cons (pe_glob (v := .ref C) (by rfl) Tc.mgC rfl) pa_nil))))) pss_dead pss_nil), ?_⟩
    refine ⟨_, rfl, .ref p, .ref C, _, _, _, rfl, .own C, Tc.ty hp, kit_own K C, _, rfl, ?_⟩
    exact iteF q
abbrev st_check_alike : Stmt := top 35
theorem sc_check_alike : FnScope ["one", "other"] ["one", "other"] (defScope st_check_alike) := ⟨rfl, rfl, rfl, by decide +kernel, rfl, by decide +kernel, by decide +kernel⟩
end
end T22
set_option Elab.async false
set_option linter.all false
set_option maxRecDepth 100000
set_option maxHeartbeats 1000000
namespace T22
open PySem PySem.Spec PyProof.Rows L2 Gd Zn Rp Dn Tb Gn En Zs Ct Op
structure Mkr (P : Program) (w : World) (K : PySem.W.Frag) (mg : Str → Option Value) (base : Heap) (C : Addr) : Prop where
  ex : ∃ (f : Addr) (fd : FuncData), Mk K C f ∧ FnOk P w K mg base CX0 8 f fd ["self", "rows"] (sp_init C) ∧ Binds K fd ["self", "rows"] []
theorem pe_mkr {X : Cx} {C : Addr} {j : Nat} {e : Expr} {t : TA} {p pos : Pos} (D : Mkr X.prog X.w X.K X.mg X.base C) (Tc : Tcl X.K X.mg C) (room : Room j X.A) (ha : PA X [e] t) (hkj : 9 ≤ j := by decide) (hg : Gl X "Table" := by rfl)
    (he : starEach [e] X.env = (false, eval e X.env) :: starEach [] X.env := by rfl) (hpl : (backTo pos (starEach [] X.env)).any (·.1) = false := by rfl) :
    PE X (.Call (.Name "Table" p) [e] [] pos) (tMake C (sp_init C) [] E0 t) := by
  obtain ⟨f, fd, m, G, b⟩ := D.ex
  exact pe_make m G (room.mono hkj) hg Tc.mgC b .nil pass0 ha (by decide +kernel) he hpl
end T22
set_option Elab.async false
set_option linter.all false
set_option maxRecDepth 100000
set_option maxHeartbeats 1000000
set_option Elab.async false
set_option linter.all false
set_option maxRecDepth 100000
set_option maxHeartbeats 1000000
namespace T22
open PySem PySem.Spec PyProof.Rows L2 Gd Zn Rp Dn Tb Gn En Zs Ct Op
def unitM (n : Nat) : List (List Int) := (List.range n).map fun i => (List.range n).map fun j => if j = i then 1 else 0
theorem unit_sq (n : Nat) : Sq n (unitM n) := by
  refine ⟨by unfold unitM; simp, fun r hr => ?_, fun r hr x hx => ?_⟩
  · unfold unitM at hr
    rw [List.mem_map] at hr
    obtain ⟨i, _, rfl⟩ := hr
    simp
  · unfold unitM at hr
    rw [List.mem_map] at hr
    obtain ⟨i, _, rfl⟩ := hr
    rw [List.mem_map] at hx
    obtain ⟨j, _, rfl⟩ := hx
    show Small (if j = i then 1 else 0)
    by_cases h : j = i
    · rw [if_pos h]; exact Wd.lit ⟨by decide, by decide⟩
    · rw [if_neg h]; exact Wd.lit ⟨by decide, by decide⟩
section
variable {P : Program} {w : World} {K : PySem.W.Frag} {mg : Str → Option Value} {base : Heap} {C : Addr}
theorem det_unit (n : Nat) (h : n ≤ 3) : detM n (unitM n) = 1 := by
  have : n = 0 ∨ n = 1 ∨ n = 2 ∨ n = 3 := by omega
  rcases this with rfl | rfl | rfl | rfl <;> simp [detM, cofM, unitM, outM, outW, cutAt, List.range_succ, List.getD]
end
end T22
set_option Elab.async false
set_option linter.all false
set_option maxRecDepth 100000
set_option maxHeartbeats 1000000
namespace T22
open PySem PySem.Spec PyProof.Rows L2 Gd Zn Rp Dn Tb Gn En Zs Ct Op
theorem eqv_row : ∀ (r t : List Int), PyData.eqvAll (r.map PyData.int) (t.map PyData.int) = decide (r = t)
  | [], [] => by simp [PyData.eqvAll]
  | [], _ :: _ => by simp [PyData.eqvAll]
  | _ :: _, [] => by simp [PyData.eqvAll]
  | x :: r, y :: t => by
    rw [List.map_cons, List.map_cons, PyData.eqvAll, eqv_row r t, PyData.eqv]
    by_cases h : x = y <;> by_cases h2 : r = t <;> simp [h, h2]
theorem eqv_rows : ∀ (M N : List (List Int)), PyData.eqvAll (M.map fun r => .tuple (r.map PyData.int)) (N.map fun r => .tuple (r.map PyData.int)) = decide (M = N)
  | [], [] => by simp [PyData.eqvAll]
  | [], _ :: _ => by simp [PyData.eqvAll]
  | _ :: _, [] => by simp [PyData.eqvAll]
  | x :: r, y :: t => by
    rw [List.map_cons, List.map_cons, PyData.eqvAll, eqv_rows r t, PyData.eqv, eqv_row]
    by_cases h : x = y <;> by_cases h2 : r = t <;> simp [h, h2]
theorem eqv_mx (M N : List (List Int)) : (mxD M).eqv (mxD N) = decide (M = N) := by
  unfold mxD
  rw [PyData.eqv, eqv_rows]
theorem dp_ints {K : PySem.W.Frag} {H : Hp} : ∀ r : List Int, DpAll K H (r.map V.int) (r.map PyData.int)
  | [] => .nil
  | x :: r => .cons (.int x) (dp_ints r)
theorem dp_rows {K : PySem.W.Frag} {H : Hp} {vs : List V} {M : List (List Int)} (h : RowsV H vs M) : DpAll K H vs (M.map fun r => .tuple (r.map PyData.int)) := by
  induction h with
  | nil => exact .nil
  | cons p _ ih =>
    obtain ⟨b, rfl, hb⟩ := p
    exact .cons (.tup (.inl (.inl hb)) (dp_ints _)) ih
theorem dp_mx {K : PySem.W.Frag} {H : Hp} {v : V} {M : List (List Int)} (h : Mx H v M) : Dp K H v (mxD M) := by
  obtain ⟨a, vs, rfl, ha, hR⟩ := h
  exact .tup (.inl (.inl ha)) (dp_rows hR)
theorem depth_row (r : List Int) : PyData.depthAll (r.map PyData.int) = 0 := by
  induction r with
  | nil => simp [PyData.depthAll]
  | cons x r ih => rw [List.map_cons, PyData.depthAll, ih, PyData.depth]; rfl
theorem depth_rows (M : List (List Int)) : PyData.depthAll (M.map fun r => .tuple (r.map PyData.int)) ≤ 1 := by
  induction M with
  | nil => simp [PyData.depthAll]
  | cons x r ih =>
    rw [List.map_cons, PyData.depthAll, PyData.depth, depth_row]
    omega
theorem lay_row (r : List Int) : PyData.canLayAll0 (r.map PyData.int) = true := by
  induction r with
  | nil => simp [PyData.canLayAll0]
  | cons x r ih => rw [List.map_cons, PyData.canLayAll0, ih, PyData.canLay0]; rfl
theorem lay_rows (M : List (List Int)) : PyData.canLayAll0 (M.map fun r => .tuple (r.map PyData.int)) = true := by
  induction M with
  | nil => simp [PyData.canLayAll0]
  | cons x r ih => rw [List.map_cons, PyData.canLayAll0, ih, PyData.canLay0, lay_row]; rfl
theorem shaped_mx (M : List (List Int)) : SeqAt.shaped (mxD M) = true := by
  unfold SeqAt.shaped mxD
  rw [PyData.canLay0, lay_rows, PyData.depth]
  have := depth_rows M
  simp
  omega
/-- two tables of tuples are compared -/
theorem r_eqMx {K : PySem.W.Frag} {H : Hp} {x y : V} {M N : List (List Int)} {Q : VK} (hx : Mx H x M) (hy : Mx H y N) (q : Q (.bl (decide (M = N))) H) : rEqD K x y H Q := by
  refine ⟨mxD M, mxD N, dp_mx hx, dp_mx hy, shaped_mx M, shaped_mx N, ?_⟩
  rw [eqv_mx]
  exact q
structure Mtd (P : Program) (w : World) (K : PySem.W.Frag) (mg : Str → Option Value) (base : Heap) (C : Addr) (nm : Str) (k : Nat) (ps : List Str) (sp : Sp) : Prop where
  ex : ∃ (f : Addr) (fd : FuncData), Meth K C nm f ∧ FnOk P w K mg base CX0 k f fd ps sp ∧ Binds K fd ps []
section
variable {P : Program} {w : World} {K : PySem.W.Frag} {mg : Str → Option Value} {base : Heap} {C : Addr}
theorem Tab.same {H H' : Hp} {v : V} {M : List (List Int)} (s : Same H H') (h : Tab C H v M) : Tab C H' v M := T22.Tab.mono (KS.of s) h
end
end T22
set_option Elab.async false
set_option linter.all false
set_option maxRecDepth 100000
set_option maxHeartbeats 1000000
namespace T22
open PySem PySem.Spec PyProof.Rows L2 Gd Zn Rp Dn Tb Gn En Zs Ct Op
theorem atI_of {α : Type} {xs : List α} {r : Int} {x : α} (h : 0 ≤ r) (e : xs[r.toNat]? = some x) : atI xs r = some x := by
  have := atI_nat e
  rw [show ((r.toNat : Nat) : Int) = r by omega] at this
  exact this
theorem set_pot {p : Addr} {H H1 : Hp} {a b : Int} (s : Same H H1) (ha : 0 ≤ a) (hb : 0 ≤ b) (hb2 : b < 2 ^ 32) : RX (some p) H (upd H1 p (.lst [.int a, .int b])) := by
  refine ⟨fun c o n e => ?_, fun q e _ => ?_⟩
  · have nc : c ≠ p := fun z => n (by rw [z])
    rw [upd_ne nc]
    exact s _ _ e
  · cases e
    exact ⟨a, b, upd_same, ha, hb, hb2⟩
section
variable {P : Program} {w : World} {K : PySem.W.Frag} {mg : Str → Option Value} {base : Heap} {C : Addr}
abbrev st_draw : Stmt := top 43
def sp_draw : Sp := fun vs H Q _ => ∃ (p : Addr) (m : Int), vs = [.ref p, .int m] ∧ PotOk H p ∧ 0 < m ∧ m < 1000 ∧ ∀ (r : Int) H', 0 ≤ r → r < m → RX (some p) H H' → Q (.int r) H'
theorem sc_draw : FnScope ["_law_pot_here", "_law_size", "_law_digit"] ["_law_pot_here", "_law_size"] (defScope st_draw) := ⟨rfl, rfl, rfl, by decide +kernel, rfl, by decide +kernel, by decide +kernel⟩
theorem ok_draw {f : Addr} {fd : FuncData} (F : Fun K "_law_draw" "_law_draw" st_draw f fd) (T : Txt mg) : FnOk P w K mg base CX0 1 f fd ["_law_pot_here", "_law_size"] sp_draw := by
  refine F.ok sc_draw (fun vs H Q E h => ?_) (fun cdv A outer s H vs Q E hr h => ?_)
  · obtain ⟨p, m, rfl, _⟩ := h
    rfl
  · obtain ⟨p, m, rfl, ⟨a, b, hp, ha, hb, hb2⟩, m0, m1, q⟩ := h
    refine ⟨_, pss_cons (ps_if (pt_cmpR op_gt (pe_ix ix_list (pv 0) pe_int (fun _ _ => rfl)) pe_int (nomark _))
        (pss_cons (ps_asg (pe_callB call_divmod (by rfl) T.divmod boot_divmod (pa_cons (pe_ix ix_list (pv 0) pe_int (fun _ _ => rfl)) (pa_cons (pv 1) pa_nil)))
          (pg_tup rfl (pgs_cons (pg_sub (pv 0) pe_int set_list) (pgs_cons (pg_name (i := 2) sc_draw.nd rfl (Or.inl rfl)) pgs_nil)))) (pss_one (ps_ret (pv 2)))) pss_nil)
      (pss_cons (ps_asg (pe_op op_mod (pe_callTy call_int1 (by rfl) T.int PyProof.Rows.boot_int (pa_cons (pe_op op_add (pe_op op_mul (pe_ix ix_list (pv 0) pe_int (fun _ _ => rfl)) pe_int) pe_int) pa_nil)) pe_int) (pg_sub (pv 0) pe_int set_list))
      (pss_one (ps_ret (pe_op op_mod (pe_callTy call_int1 (by rfl) T.int PyProof.Rows.boot_int (pa_cons (pe_op op_fdiv (pe_op op_mod (pe_callTy call_int1 (by rfl) T.int PyProof.Rows.boot_int (pa_cons (pe_op op_mul (pe_ix ix_list (pv 0) pe_int (fun _ _ => rfl)) (pe_ix ix_list (pv 0) pe_int (fun _ _ => rfl))) pa_nil)) pe_int) pe_int) pa_nil)) (pv 1))))), ?_⟩
    have i0 : ∀ x y : V, atI [x, y] 0 = some x := fun x y => atI_nat (j := 0) rfl
    have i1 : ∀ x y : V, atI [x, y] 1 = some y := fun x y => atI_nat (j := 1) rfl
    refine ⟨_, rfl, p, _, (0 : Int), _, rfl, rfl, .inl (.inl hp), i0 _ _, _, _, rfl, rfl, _, rfl, ?_⟩
    by_cases c : 0 < a
    · rw [decide_eq_true c]
      refine iteT ?_
      refine ⟨_, rfl, p, _, (0 : Int), _, rfl, rfl, .inl (.inl hp), i0 _ _, _, rfl, _, _, rfl, ⟨m0, by omega⟩, fun t nt => ?_⟩
      have ne : p ≠ t := ne_of_none hp nt
      refine ⟨t, _, rfl, .inl (.inl upd_same), rfl, _, _, rfl, _, rfl, p, _, 0, 0, rfl, rfl, (by rw [upd_ne ne]; exact hp), rfl, _, _, rfl, rfl, ?_⟩
      refine ⟨_, rfl, ?_⟩
      refine q _ _ (Int.emod_nonneg _ (by omega)) (Int.emod_lt_of_pos _ m0) ?_
      exact set_pot (same_new nt) (Int.ediv_nonneg ha (by omega)) hb hb2
    · rw [decide_eq_false c]
      refine iteF ?_
      have hb' : (b * 39373 + 149) % 2147483587 < 2147483587 := Int.emod_lt_of_pos _ (by decide)
      have hb0 : 0 ≤ (b * 39373 + 149) % 2147483587 := Int.emod_nonneg _ (by decide)
      refine ⟨_, rfl, p, _, (1 : Int), _, rfl, rfl, .inl (.inl hp), i1 _ _, _, _, rfl, rfl, .inr ⟨by decide, by decide⟩, _, _, rfl, rfl, .inl ⟨_, rfl, _, _, rfl, rfl, (show (0 : Int) < 2147483587 by decide), _, rfl, p, _, 1, 1, rfl, rfl, hp, rfl, ?_⟩⟩
      have h2 : upd H p (.lst [V.int a, V.int ((b * 39373 + 149) % 2147483587)]) p = some (.lst [V.int a, V.int ((b * 39373 + 149) % 2147483587)]) := upd_same
      refine ⟨_, rfl, p, _, (1 : Int), _, rfl, rfl, .inl (.inl h2), i1 _ _, _, rfl, p, _, (1 : Int), _, rfl, rfl, .inl (.inl h2), i1 _ _, _, _, rfl, rfl, .inl ⟨by omega, by omega⟩, .inl ⟨_, rfl, _, _, rfl, rfl, (show (0 : Int) < 2147483563 by decide), _, _, rfl, rfl, ⟨by decide, by decide⟩, .inl ⟨_, rfl, _, rfl, _, _, rfl, rfl, m0, ?_⟩⟩⟩
      exact q _ _ (Int.emod_nonneg _ (by omega)) (Int.emod_lt_of_pos _ m0) (set_pot (Same.refl H) ha hb0 (by omega))
abbrev st_pick : Stmt := top 44
def sp_pick : Sp := fun vs H Q _ => ∃ (p a : Addr) (xs : List V), vs = [.ref p, .ref a] ∧ PotOk H p ∧ H a = some (.lst xs) ∧ a ≠ p ∧ 0 < xs.length ∧ xs.length < 1000 ∧ ∀ (i : Nat) (x : V) H', xs[i]? = some x → RX (some p) H H' → Q x H'
theorem sc_pick : FnScope ["_law_pot_here", "_law_some"] ["_law_pot_here", "_law_some"] (defScope st_pick) := ⟨rfl, rfl, rfl, by decide +kernel, rfl, by decide +kernel, by decide +kernel⟩
theorem ok_pick {f : Addr} {fd : FuncData} (F : Fun K "_law_pick" "_law_pick" st_pick f fd) (T : Txt mg) (D1 : Def P w K mg base "_law_draw" 1 ["_law_pot_here", "_law_size"] sp_draw) : FnOk P w K mg base CX0 2 f fd ["_law_pot_here", "_law_some"] sp_pick := by
  refine F.ok sc_pick (fun vs H Q E h => ?_) (fun cdv A outer s H vs Q E hr h => ?_)
  · obtain ⟨p, a, xs, rfl, _⟩ := h
    rfl
  · obtain ⟨p, a, xs, rfl, hp, ha, nap, l0, l1, q⟩ := h
    refine ⟨_, pss_one (ps_ret (pe_ix ix_list (pv 1) (pe_def D1 hr (pa_cons (pv 0) (pa_cons (pe_callB (r := Dn.rLen K) c_len (by rfl) T.len PySem.boot_len (pa_cons (pv 1) pa_nil)) pa_nil))) (fun _ _ => rfl))), ?_⟩
    refine ⟨_, rfl, _, rfl, _, rfl, a, xs, rfl, .inl (.inl (.inl ha)), p, _, rfl, hp, by omega, by omega, fun r H' r0 r1 s => ?_⟩
    have hk : H' a = some (.lst xs) := s.keep a _ (by intro z; cases z; exact nap rfl) ha
    have hr' : r.toNat < xs.length := by omega
    have er : r = (r.toNat : Int) := by omega
    have e1 : xs[r.toNat]? = some xs[r.toNat] := List.getElem?_eq_getElem hr'
    refine ⟨a, xs, r, _, rfl, rfl, .inl (.inl hk), atI_of r0 e1, q _ _ _ e1 s⟩
end
end T22
set_option Elab.async false
set_option linter.all false
set_option maxRecDepth 100000
set_option maxHeartbeats 1000000
namespace T22
open PySem PySem.Spec PyProof.Rows L2 Gd Zn Rp Dn Tb Gn En Zs Ct Op
section
variable {P : Program} {w : World} {K : PySem.W.Frag} {mg : Str → Option Value} {base : Heap} {C : Addr}
abbrev st_pot : Stmt := top 42
def sp_pot (K : PySem.W.Frag) : Sp := fun vs H Q _ => ∃ (a : Addr) (ns : List Int) (k : Int), vs = [.ref a, .int k] ∧ SqL K H a (ns.map V.int) ∧ ns.length ≤ 63 ∧ 0 ≤ k ∧ k ≤ 2 ∧ ∀ p H', H p = none → Same H H' → PotOk H' p → Q (.ref p) H'
theorem sc_pot : FnScope ["_law_script", "_law_k", "_law_cell"] ["_law_script", "_law_k"] (defScope st_pot) := ⟨rfl, rfl, rfl, by decide +kernel, rfl, by decide +kernel, by decide +kernel⟩
theorem ok_pot {f : Addr} {fd : FuncData} (F : Fun K "_law_pot" "_law_pot" st_pot f fd) (T : Txt mg) : FnOk P w K mg base CX0 1 f fd ["_law_script", "_law_k"] (sp_pot K) := by
  refine F.ok sc_pot (fun vs H Q E h => ?_) (fun cdv A outer s H vs Q E hr h => ?_)
  · obtain ⟨a, ns, k, rfl, _⟩ := h
    rfl
  · obtain ⟨a, ns, k, rfl, hS, hl, k0, k1, q⟩ := h
    refine ⟨_, pss_cons (ps_set (i := 2) sc_pot.nd rfl (Or.inl rfl) (pe_ifExp (pt_cmpR op_lt (pv 1) (pe_callB (r := Dn.rLen K) c_len (by rfl) T.len PySem.boot_len (pa_cons (pv 0) pa_nil)) (nomark _))
        (pe_callB call_abs (by rfl) T.abs boot_abs (pa_cons (pe_ix ix_list (pv 0) (pv 1) (fun _ _ => rfl)) pa_nil)) (pe_op op_add (pe_op op_mul pe_int (pv 1)) pe_int)))
      (pss_one (ps_ret (pe_lst (pa_cons (pe_callB (call_max2 rfl) (by rfl) T.max boot_max (pa_cons pe_int (pa_cons (pe_op op_sub (pv 2) (pe_op op_pow pe_int pe_int)) pa_nil)))
        (pa_cons (pe_op op_add (pe_op op_mod (pe_callTy call_int1 (by rfl) T.int PyProof.Rows.boot_int (pa_cons (pe_op op_add (pe_op op_add (pe_op op_mul (pe_op op_mod (pe_callTy call_int1 (by rfl) T.int PyProof.Rows.boot_int (pa_cons (pv 2) pa_nil)) pe_int) pe_int) (pe_op op_mul pe_int (pv 1))) pe_int) pa_nil)) pe_int) pe_int) pa_nil))))), ?_⟩
    have fin : ∀ (c : Int) (H1 : Hp), Same H H1 → ∀ p, H1 p = none → Q (.ref p) (upd H1 p (.lst [.int (if c - 10 ^ 18 > 0 then c - 10 ^ 18 else 0), .int ((c % 2147483549 * 40343 + 1009 * k + 71) % 2147483563 + 1)])) := fun c H1 s1 p np => by
      refine q p _ (Same.free s1 np) (s1.trans (same_new np)) ⟨_, _, upd_same, ?_, ?_, ?_⟩
      · split <;> omega
      · have := Int.emod_nonneg (c % 2147483549 * 40343 + 1009 * k + 71) (show (2147483563 : Int) ≠ 0 by decide)
        omega
      · have := Int.emod_lt_of_pos (c % 2147483549 * 40343 + 1009 * k + 71) (show (0 : Int) < 2147483563 by decide)
        omega
    have m1 : ∀ c : Int, 0 ≤ c % 2147483549 := fun c => Int.emod_nonneg c (show (2147483549 : Int) ≠ 0 by decide)
    have m2 : ∀ c : Int, c % 2147483549 < 2147483549 := fun c => Int.emod_lt_of_pos c (show (0 : Int) < 2147483549 by decide)
    refine ⟨_, rfl, _, rfl, a, _, rfl, .inl hS, _, _, rfl, rfl, _, rfl, ?_⟩
    rw [List.length_map]
    by_cases c : k < (ns.length : Int)
    · rw [decide_eq_true c]
      refine iteT ?_
      have hk : k.toNat < ns.length := by omega
      have e1 : (ns.map V.int)[k.toNat]? = some (.int ns[k.toNat]) := by simp [hk]
      refine ⟨_, rfl, _, rfl, a, _, _, _, rfl, rfl, hS, atI_of k0 e1, _, rfl, ?_⟩
      refine ⟨_, rfl, _, _, rfl, rfl, ⟨by decide, by decide, by decide⟩, _, _, rfl, rfl, _, _, rfl, ?_⟩
      refine ⟨_, rfl, .inl ⟨_, rfl, _, _, rfl, rfl, (show (0 : Int) < 2147483549 by decide), _, _, rfl, rfl, .inr ⟨by decide, by decide⟩, _, rfl, _, _, rfl, rfl, .inl ⟨by decide, by decide⟩, _, _, rfl, rfl, _, _, rfl, rfl, .inl ⟨_, rfl, _, _, rfl, rfl, (show (0 : Int) < 2147483563 by decide), _, _, rfl, rfl, ?_⟩⟩⟩
      exact ⟨(by show 2 ≤ sizeLine; decide), fun p np => fin _ H (Same.refl H) p np⟩
    · rw [decide_eq_false c]
      refine iteF ?_
      refine ⟨_, rfl, _, _, rfl, rfl, .inl ⟨by decide, by decide⟩, _, _, rfl, rfl, ?_⟩
      refine ⟨_, rfl, _, _, rfl, rfl, ⟨by decide, by decide, by decide⟩, _, _, rfl, rfl, _, _, rfl, ?_⟩
      refine ⟨_, rfl, .inl ⟨_, rfl, _, _, rfl, rfl, (show (0 : Int) < 2147483549 by decide), _, _, rfl, rfl, .inr ⟨by decide, by decide⟩, _, rfl, _, _, rfl, rfl, .inl ⟨by decide, by decide⟩, _, _, rfl, rfl, _, _, rfl, rfl, .inl ⟨_, rfl, _, _, rfl, rfl, (show (0 : Int) < 2147483563 by decide), _, _, rfl, rfl, ?_⟩⟩⟩
      exact ⟨(by show 2 ≤ sizeLine; decide), fun p np => fin _ H (Same.refl H) p np⟩
end
end T22
set_option Elab.async false
set_option linter.all false
set_option maxRecDepth 100000
set_option maxHeartbeats 1000000
namespace T22
open PySem PySem.Spec PyProof.Rows L2 Gd Zn Rp Dn Tb Gn En Zs Ct Op
abbrev rInt1 : List V → Hp → VK → Prop := fun xs H Q => (∃ i, xs = [V.int i] ∧ Q (V.int i) H) ∨ ∃ k, xs = [V.bl k] ∧ Q (V.int (if k = true then 1 else 0)) H
end T22
set_option Elab.async false
set_option linter.all false
set_option maxRecDepth 100000
set_option maxHeartbeats 1000000
namespace Tb
open PySem PySem.Spec PyProof.Rows L2 Gd Zn Rp Dn
/-- a comprehension whose elements are new objects -/
theorem lc_fresh {p : Option Addr} {J : It} {g : TG} {te : TE} {vs : List Nat} {σ : L2.St} {H1 : Hp} {Q : VK} (n : Nat) (O : Nat → HO) (hp : Has p H1) (hn : n ≤ 1000)
    (hgo : ∀ i H, i < n → RX p H1 H → J.go i H) (hst : ∀ H, RX p H1 H → J.stop n H)
    (hs : ∀ i x H H' (C : VK), i < n → RX p H1 H → Has p H → J.yld i H x H' → (∀ q H4, RX p H H4 → H q = none → H4 q = some (O i) → C (.ref q) H4) → g x (wipe σ vs) H' fun σ2 H2 => wipe σ2 vs = wipe σ vs ∧ te σ2 H2 C)
    (hd : ∀ D H xs, H1 D = none → RX p H1 H → H D = some (.lst xs) → xs.length = n → (∀ i v, xs[i]? = some v → ∃ q, v = .ref q ∧ H q = some (O i)) → Q (.ref D) H) : LcB g tYes te vs σ Q J H1 := by
  intro D nD
  have nP : p ≠ some D := hp.ne nD
  refine ⟨fun i m H => i ≤ n ∧ m = n - i ∧ RX p H1 H ∧ ∃ xs, H D = some (.lst xs) ∧ xs.length = i ∧ ∀ j v, xs[j]? = some v → ∃ q, v = .ref q ∧ H q = some (O j) ∧ q ≠ D ∧ p ≠ some q, ⟨n, Nat.zero_le _, rfl, RX.new nD, [], upd_same, rfl, fun j v e => by simp at e⟩, ?_⟩
  rintro i m H ⟨hi, rfl, s1, xs, hD, hl, hE⟩
  by_cases hlt : i < n
  · refine .inr ⟨hgo i H hlt s1, fun H' => i + 1 ≤ n ∧ RX p H1 H' ∧ ∃ xs, H' D = some (.lst xs) ∧ xs.length = i + 1 ∧ ∀ j v, xs[j]? = some v → ∃ q, v = .ref q ∧ H' q = some (O j) ∧ q ≠ D ∧ p ≠ some q, fun H' h => ⟨n - (i + 1), by omega, h.1, rfl, h.2⟩, fun x H' hy => ?_⟩
    have hpH := hp.to s1
    refine hs i x H H' _ hlt s1 hpH hy fun q H4 s4 nq e4 => ?_
    have hD4 := s4.keep D _ nP hD
    have s5 : RX p H1 (upd H4 D (.lst (xs ++ [.ref q]))) := (s1.trans s4).mut nD hp
    refine ⟨xs, hD4, Nat.lt_of_lt_of_le (by omega : xs.length < 1001) (by decide), hlt, s5, xs ++ [.ref q], upd_same, by simp [hl], fun j v e => ?_⟩
    by_cases hj : j < xs.length
    · rw [List.getElem?_append_left hj] at e
      obtain ⟨q', e1, e2, e3, e5⟩ := hE j v e
      exact ⟨q', e1, by rw [upd_ne e3]; exact s4.keep q' _ e5 e2, e3, e5⟩
    · rw [List.getElem?_append_right (by omega)] at e
      have z : j - xs.length = 0 := by
        by_cases w : j - xs.length = 0
        · exact w
        · rw [List.getElem?_eq_none (by simp; omega)] at e; cases e
      rw [z] at e
      cases e
      have : j = i := by omega
      subst this
      have qD : q ≠ D := (ne_of_none hD nq).symm
      exact ⟨q, rfl, by rw [upd_ne qD]; exact e4, qD, hpH.ne nq⟩
  · have e : i = n := by omega
    subst e
    exact .inl ⟨hst H s1, hd D H xs nD s1 hD hl fun j v e => let ⟨q, e1, e2, _⟩ := hE j v e; ⟨q, e1, e2⟩⟩
end Tb
set_option Elab.async false
set_option linter.all false
set_option maxRecDepth 100000
set_option maxHeartbeats 1000000
namespace T22
open PySem PySem.Spec PyProof.Rows L2 Gd Zn Rp Dn Tb Gn En Zs Ct Op
def colsM (n : Nat) (N : List (List Int)) (j : Nat) : List Int := N.map fun r => r.getD j 0
end T22
set_option Elab.async false
set_option linter.all false
set_option maxRecDepth 100000
set_option maxHeartbeats 1000000
namespace T22
open PySem PySem.Spec PyProof.Rows L2 Gd Zn Rp Dn Tb Gn En Zs Ct Op
theorem len3 {α : Type} {l : List α} (h : l.length = 3) : ∃ a b c, l = [a, b, c] := by
  match l, h with
  | [a, b, c], _ => exact ⟨a, b, c, rfl⟩
theorem len1 {α : Type} {l : List α} (h : l.length = 1) : ∃ a, l = [a] := by
  match l, h with
  | [a], _ => exact ⟨a, rfl⟩
theorem det1 (a : Int) : detM 1 [[a]] = a := by
  simp [detM, cofM, outM, outW, cutAt, List.range_succ, List.getD]
theorem det3 (a b c d e f g h i : Int) : detM 3 [[a, b, c], [d, e, f], [g, h, i]] = a * (e * i - f * h) - b * (d * i - f * g) + c * (d * h - e * g) := by
  simp [detM, cofM, outM, outW, cutAt, List.range_succ, List.getD]
  grind
end T22
set_option Elab.async false
set_option linter.all false
set_option maxRecDepth 100000
set_option maxHeartbeats 2000000
namespace T22
open PySem PySem.Spec PyProof.Rows L2 Gd Zn Rp Dn Tb Gn En Zs Ct Op
structure SqB (n : Nat) (B : Int) (M : List (List Int)) : Prop where
  len : M.length = n
  row : ∀ r ∈ M, r.length = n
  bd : ∀ r ∈ M, ∀ x ∈ r, -B ≤ x ∧ x ≤ B
theorem SqB.mono {n : Nat} {B B' : Int} {M : List (List Int)} (h : SqB n B M) (k : B ≤ B') : SqB n B' M := ⟨h.len, h.row, fun r hr x hx => by have := h.bd r hr x hx; omega⟩
theorem SqB.sq {n : Nat} {B : Int} {M : List (List Int)} (h : SqB n B M) (k : B < 2 ^ 64) : Sq n M := ⟨h.len, h.row, fun r hr x hx => by
  have := h.bd r hr x hx
  exact Wd.lit ⟨by omega, by omega⟩⟩
def negR (r : List Int) : List Int := r.map fun x => 0 - x
def addR (c : Int) (r s : List Int) : List Int := (List.zip r s).map fun q => q.1 + c * q.2
def stepN (M : List (List Int)) (i : Nat) : List (List Int) := M.set i (negR (M.getD i []))
def stepX (M : List (List Int)) (i j : Nat) : List (List Int) := (M.set i (M.getD j [])).set j (M.getD i [])
def stepA (M : List (List Int)) (i j : Nat) (c : Int) : List (List Int) := M.set i (addR c (M.getD i []) (M.getD j []))
theorem getD_mem {M : List (List Int)} {i : Nat} (h : i < M.length) : M.getD i [] ∈ M := by
  rw [List.getD_eq_getElem?_getD, List.getElem?_eq_getElem h]
  exact List.getElem_mem h
theorem SqB.set {n : Nat} {B : Int} {M : List (List Int)} (h : SqB n B M) (i : Nat) {r : List Int} (hl : r.length = n) (hb : ∀ x ∈ r, -B ≤ x ∧ x ≤ B) : SqB n B (M.set i r) := by
  refine ⟨by rw [List.length_set]; exact h.len, fun s hs => ?_, fun s hs => ?_⟩
  · rcases List.mem_or_eq_of_mem_set hs with hs | rfl
    · exact h.row s hs
    · exact hl
  · rcases List.mem_or_eq_of_mem_set hs with hs | rfl
    · exact h.bd s hs
    · exact hb
theorem SqB.neg {n : Nat} {B : Int} {M : List (List Int)} (h : SqB n B M) {i : Nat} (hi : i < n) : SqB n B (stepN M i) := by
  have m := getD_mem (M := M) (i := i) (by rw [h.len]; exact hi)
  refine h.set i (by unfold negR; rw [List.length_map]; exact h.row _ m) fun x hx => ?_
  unfold negR at hx
  obtain ⟨y, hy, rfl⟩ := List.mem_map.mp hx
  have := h.bd _ m y hy
  omega
theorem SqB.exch {n : Nat} {B : Int} {M : List (List Int)} (h : SqB n B M) {i j : Nat} (hi : i < n) (hj : j < n) : SqB n B (stepX M i j) := by
  have mi := getD_mem (M := M) (i := i) (by rw [h.len]; exact hi)
  have mj := getD_mem (M := M) (i := j) (by rw [h.len]; exact hj)
  exact (h.set i (h.row _ mj) (h.bd _ mj)).set j (h.row _ mi) (h.bd _ mi)
theorem ent1 {n : Nat} {B : Int} {M : List (List Int)} (h : SqB n B M) (e : n = 1) : ∃ a, M = [[a]] := by
  subst e
  obtain ⟨r, rfl⟩ := len1 h.len
  obtain ⟨a, rfl⟩ := len1 (h.row r (by simp))
  exact ⟨a, rfl⟩
theorem ent2 {n : Nat} {B : Int} {M : List (List Int)} (h : SqB n B M) (e : n = 2) : ∃ a b c d, M = [[a, b], [c, d]] := by
  subst e
  obtain ⟨r1, r2, rfl⟩ := len2 h.len
  obtain ⟨a, b, rfl⟩ := len2 (h.row r1 (by simp))
  obtain ⟨c, d, rfl⟩ := len2 (h.row r2 (by simp))
  exact ⟨a, b, c, d, rfl⟩
theorem ent3 {n : Nat} {B : Int} {M : List (List Int)} (h : SqB n B M) (e : n = 3) : ∃ a b c d e f g h i, M = [[a, b, c], [d, e, f], [g, h, i]] := by
  subst e
  obtain ⟨r1, r2, r3, rfl⟩ := len3 h.len
  obtain ⟨a, b, c, rfl⟩ := len3 (h.row r1 (by simp))
  obtain ⟨d, e, f, rfl⟩ := len3 (h.row r2 (by simp))
  obtain ⟨g, i, j, rfl⟩ := len3 (h.row r3 (by simp))
  exact ⟨a, b, c, d, e, f, g, i, j, rfl⟩
theorem det_neg {n : Nat} {B : Int} {M : List (List Int)} (h : SqB n B M) (h1 : 1 ≤ n) (h3 : n ≤ 3) {i : Nat} (hi : i < n) : detM n (stepN M i) = -detM n M := by
  have : n = 1 ∨ n = 2 ∨ n = 3 := by omega
  rcases this with e | e | e
  · obtain ⟨a, rfl⟩ := ent1 h e
    subst e
    have : i = 0 := by omega
    subst this
    show detM 1 [[0 - a]] = _
    rw [det1, det1]
    omega
  · obtain ⟨a, b, c, d, rfl⟩ := ent2 h e
    subst e
    have : i = 0 ∨ i = 1 := by omega
    rcases this with rfl | rfl
    · show detM 2 [[0 - a, 0 - b], [c, d]] = _
      rw [det2, det2]; grind
    · show detM 2 [[a, b], [0 - c, 0 - d]] = _
      rw [det2, det2]; grind
  · obtain ⟨a, b, c, d, e1, f, g, k, l, rfl⟩ := ent3 h e
    subst e
    have : i = 0 ∨ i = 1 ∨ i = 2 := by omega
    rcases this with rfl | rfl | rfl
    · show detM 3 [[0 - a, 0 - b, 0 - c], [d, e1, f], [g, k, l]] = _
      rw [det3, det3]; grind
    · show detM 3 [[a, b, c], [0 - d, 0 - e1, 0 - f], [g, k, l]] = _
      rw [det3, det3]; grind
    · show detM 3 [[a, b, c], [d, e1, f], [0 - g, 0 - k, 0 - l]] = _
      rw [det3, det3]; grind
theorem det_exch {n : Nat} {B : Int} {M : List (List Int)} (h : SqB n B M) (h3 : n ≤ 3) {i j : Nat} (hi : i < n) (hj : j < n) (hij : i ≠ j) : detM n (stepX M i j) = -detM n M := by
  have : n = 2 ∨ n = 3 := by omega
  rcases this with e | e
  · obtain ⟨a, b, c, d, rfl⟩ := ent2 h e
    subst e
    have : stepX [[a, b], [c, d]] i j = [[c, d], [a, b]] := by
      have : (i = 0 ∧ j = 1) ∨ (i = 1 ∧ j = 0) := by omega
      rcases this with ⟨rfl, rfl⟩ | ⟨rfl, rfl⟩ <;> rfl
    rw [this, det2, det2]; grind
  · obtain ⟨a, b, c, d, e1, f, g, k, l, rfl⟩ := ent3 h e
    subst e
    have : (i = 0 ∧ j = 1) ∨ (i = 1 ∧ j = 0) ∨ (i = 0 ∧ j = 2) ∨ (i = 2 ∧ j = 0) ∨ (i = 1 ∧ j = 2) ∨ (i = 2 ∧ j = 1) := by omega
    rcases this with ⟨rfl, rfl⟩ | ⟨rfl, rfl⟩ | ⟨rfl, rfl⟩ | ⟨rfl, rfl⟩ | ⟨rfl, rfl⟩ | ⟨rfl, rfl⟩
    · show detM 3 [[d, e1, f], [a, b, c], [g, k, l]] = _
      rw [det3, det3]; grind
    · show detM 3 [[d, e1, f], [a, b, c], [g, k, l]] = _
      rw [det3, det3]; grind
    · show detM 3 [[g, k, l], [d, e1, f], [a, b, c]] = _
      rw [det3, det3]; grind
    · show detM 3 [[g, k, l], [d, e1, f], [a, b, c]] = _
      rw [det3, det3]; grind
    · show detM 3 [[a, b, c], [g, k, l], [d, e1, f]] = _
      rw [det3, det3]; grind
    · show detM 3 [[a, b, c], [g, k, l], [d, e1, f]] = _
      rw [det3, det3]; grind
theorem det_add {n : Nat} {B : Int} {M : List (List Int)} (h : SqB n B M) (h3 : n ≤ 3) {i j : Nat} (c : Int) (hi : i < n) (hj : j < n) (hij : i ≠ j) : detM n (stepA M i j c) = detM n M := by
  have : n = 2 ∨ n = 3 := by omega
  rcases this with e | e
  · obtain ⟨a, b, x, d, rfl⟩ := ent2 h e
    subst e
    have : (i = 0 ∧ j = 1) ∨ (i = 1 ∧ j = 0) := by omega
    rcases this with ⟨rfl, rfl⟩ | ⟨rfl, rfl⟩
    · show detM 2 [[a + c * x, b + c * d], [x, d]] = _
      rw [det2, det2]; grind
    · show detM 2 [[a, b], [x + c * a, d + c * b]] = _
      rw [det2, det2]; grind
  · obtain ⟨a, b, x, d, e1, f, g, k, l, rfl⟩ := ent3 h e
    subst e
    have : (i = 0 ∧ j = 1) ∨ (i = 1 ∧ j = 0) ∨ (i = 0 ∧ j = 2) ∨ (i = 2 ∧ j = 0) ∨ (i = 1 ∧ j = 2) ∨ (i = 2 ∧ j = 1) := by omega
    rcases this with ⟨rfl, rfl⟩ | ⟨rfl, rfl⟩ | ⟨rfl, rfl⟩ | ⟨rfl, rfl⟩ | ⟨rfl, rfl⟩ | ⟨rfl, rfl⟩
    · show detM 3 [[a + c * d, b + c * e1, x + c * f], [d, e1, f], [g, k, l]] = _
      rw [det3, det3]; grind
    · show detM 3 [[a, b, x], [d + c * a, e1 + c * b, f + c * x], [g, k, l]] = _
      rw [det3, det3]; grind
    · show detM 3 [[a + c * g, b + c * k, x + c * l], [d, e1, f], [g, k, l]] = _
      rw [det3, det3]; grind
    · show detM 3 [[a, b, x], [d, e1, f], [g + c * a, k + c * b, l + c * x]] = _
      rw [det3, det3]; grind
    · show detM 3 [[a, b, x], [d + c * g, e1 + c * k, f + c * l], [g, k, l]] = _
      rw [det3, det3]; grind
    · show detM 3 [[a, b, x], [d, e1, f], [g + c * d, k + c * e1, l + c * f]] = _
      rw [det3, det3]; grind
theorem unit_sqB (n : Nat) : SqB n 1 (unitM n) := ⟨(unit_sq n).len, (unit_sq n).row, fun r hr x hx => by
  unfold unitM at hr
  rw [List.mem_map] at hr
  obtain ⟨i, _, rfl⟩ := hr
  rw [List.mem_map] at hx
  obtain ⟨j, _, rfl⟩ := hx
  by_cases h : j = i
  · rw [if_pos h]; exact ⟨by decide, by decide⟩
  · rw [if_neg h]; exact ⟨by decide, by decide⟩⟩
theorem tlc_call {wi : TI} {g : TG} {tt : TT} {te : TE} {vs : List Nat} {σ : L2.St} {H : Hp} {Q : VK} (h : wi σ H fun J H1 => LcB g tt te vs σ Q J H1) : tLc wi g tt te vs σ H Q := h
theorem lc_fresh2 {p : Option Addr} {J : It} {g : TG} {te : TE} {vs : List Nat} {σ : L2.St} {H1 : Hp} {Q : VK} (n : Nat) (O : Nat → HO) (hp : Has p H1) (hn : n ≤ 1000)
    (hgo : ∀ i H, i < n → RX p H1 H → J.go i H) (hst : ∀ H, RX p H1 H → J.stop n H)
    (hs : ∀ i x H H' (C : VK), i < n → RX p H1 H → Has p H → J.yld i H x H' → (∀ q H4, RX p H H4 → H q = none → H4 q = some (O i) → C (.ref q) H4) → g x (wipe σ vs) H' fun σ2 H2 => wipe σ2 vs = wipe σ vs ∧ te σ2 H2 C)
    (hd : ∀ D H xs, H1 D = none → RX p H1 H → H D = some (.lst xs) → xs.length = n → (∀ i v, xs[i]? = some v → ∃ q, v = .ref q ∧ H q = some (O i) ∧ q ≠ D ∧ p ≠ some q ∧ H1 q = none) → Q (.ref D) H) : LcB g tYes te vs σ Q J H1 := by
  intro D nD
  have nP : p ≠ some D := hp.ne nD
  refine ⟨fun i m H => i ≤ n ∧ m = n - i ∧ RX p H1 H ∧ ∃ xs, H D = some (.lst xs) ∧ xs.length = i ∧ ∀ j v, xs[j]? = some v → ∃ q, v = .ref q ∧ H q = some (O j) ∧ q ≠ D ∧ p ≠ some q ∧ H1 q = none, ⟨n, Nat.zero_le _, rfl, RX.new nD, [], upd_same, rfl, fun j v e => by simp at e⟩, ?_⟩
  rintro i m H ⟨hi, rfl, s1, xs, hD, hl, hE⟩
  by_cases hlt : i < n
  · refine .inr ⟨hgo i H hlt s1, fun H' => i + 1 ≤ n ∧ RX p H1 H' ∧ ∃ xs, H' D = some (.lst xs) ∧ xs.length = i + 1 ∧ ∀ j v, xs[j]? = some v → ∃ q, v = .ref q ∧ H' q = some (O j) ∧ q ≠ D ∧ p ≠ some q ∧ H1 q = none, fun H' h => ⟨n - (i + 1), by omega, h.1, rfl, h.2⟩, fun x H' hy => ?_⟩
    have hpH := hp.to s1
    refine hs i x H H' _ hlt s1 hpH hy fun q H4 s4 nq e4 => ?_
    have hD4 := s4.keep D _ nP hD
    have s5 : RX p H1 (upd H4 D (.lst (xs ++ [.ref q]))) := (s1.trans s4).mut nD hp
    refine ⟨xs, hD4, Nat.lt_of_lt_of_le (by omega : xs.length < 1001) (by decide), hlt, s5, xs ++ [.ref q], upd_same, by simp [hl], fun j v e => ?_⟩
    by_cases hj : j < xs.length
    · rw [List.getElem?_append_left hj] at e
      obtain ⟨q', e1, e2, e3, e5, e6⟩ := hE j v e
      exact ⟨q', e1, by rw [upd_ne e3]; exact s4.keep q' _ e5 e2, e3, e5, e6⟩
    · rw [List.getElem?_append_right (by omega)] at e
      have z : j - xs.length = 0 := by
        by_cases w : j - xs.length = 0
        · exact w
        · rw [List.getElem?_eq_none (by simp; omega)] at e; cases e
      rw [z] at e
      cases e
      have : j = i := by omega
      subst this
      have qD : q ≠ D := (ne_of_none hD nq).symm
      exact ⟨q, rfl, by rw [upd_ne qD]; exact e4, qD, hpH.ne nq, by
        cases e9 : H1 q with
        | none => rfl
        | some o =>
          have := s1.keep q o (hpH.ne nq) e9
          rw [nq] at this
          cases this⟩
  · have e : i = n := by omega
    subst e
    exact .inl ⟨hst H s1, hd D H xs nD s1 hD hl hE⟩
/-- a list of lists of ints at a, apart from the pot p -/
structure LM (H : Hp) (p a : Addr) (M : List (List Int)) (vs : List V) : Prop where
  at_ : H a = some (.lst vs)
  len : vs.length = M.length
  get : ∀ (i : Nat) (v : V), vs[i]? = some v → ∃ b, v = .ref b ∧ H b = some (.lst ((M.getD i []).map V.int)) ∧ b ≠ a ∧ b ≠ p
theorem LM.mono {H H' : Hp} {p a : Addr} {M : List (List Int)} {vs : List V} (h : LM H p a M vs) (s : RX (some p) H H') (hap : a ≠ p) : LM H' p a M vs := by
  refine ⟨s.keep a _ (fun z => hap (by cases z; rfl)) h.at_, h.len, fun i v e => ?_⟩
  obtain ⟨b, e1, e2, e3, e4⟩ := h.get i v e
  exact ⟨b, e1, s.keep b _ (fun z => e4 (by cases z; rfl)) e2, e3, e4⟩
/-- a row is put there -/
theorem LM.put {H : Hp} {p a : Addr} {M : List (List Int)} {vs : List V} (h : LM H p a M vs) {i : Nat} {b : Addr} {r : List Int} (hb : H b = some (.lst (r.map V.int))) (ba : b ≠ a) (bp : b ≠ p) :
    LM (upd H a (.lst (vs.set i (.ref b)))) p a (M.set i r) (vs.set i (.ref b)) := by
  refine ⟨upd_same, by rw [List.length_set, List.length_set]; exact h.len, fun j v e => ?_⟩
  by_cases hj : i = j
  · subst hj
    have hi : i < vs.length := by
      have := (List.getElem?_eq_some_iff.mp e).1
      rw [List.length_set] at this
      exact this
    rw [List.getElem?_set_self hi] at e
    cases e
    refine ⟨b, rfl, ?_, ba, bp⟩
    rw [upd_ne ba, List.getD_eq_getElem?_getD, List.getElem?_set_self (by rw [← h.len]; exact hi)]
    exact hb
  · rw [List.getElem?_set_ne hj] at e
    obtain ⟨c, e1, e2, e3, e4⟩ := h.get j v e
    refine ⟨c, e1, ?_, e3, e4⟩
    rw [upd_ne e3, List.getD_eq_getElem?_getD, List.getElem?_set_ne hj, ← List.getD_eq_getElem?_getD]
    exact e2
theorem LM.row {H : Hp} {p a : Addr} {M : List (List Int)} {vs : List V} (h : LM H p a M vs) {i : Nat} (hi : i < M.length) : ∃ b, vs[i]? = some (.ref b) ∧ H b = some (.lst ((M.getD i []).map V.int)) ∧ b ≠ a ∧ b ≠ p := by
  have hi' : i < vs.length := by rw [h.len]; exact hi
  obtain ⟨b, e1, e2⟩ := h.get i vs[i] (List.getElem?_eq_getElem hi')
  exact ⟨b, by rw [List.getElem?_eq_getElem hi', e1], e2⟩
end T22
set_option Elab.async false
set_option linter.all false
set_option maxRecDepth 100000
set_option maxHeartbeats 2000000
namespace T22
open PySem PySem.Spec PyProof.Rows L2 Gd Zn Rp Dn Tb Gn En Zs Ct Op
/-- list(..) -/
def rLst (K : PySem.W.Frag) : List V → Hp → VK → Prop := fun xs H Q => ∃ p ys, xs = [V.ref p] ∧ (SqL K H p ys ∨ SqT K H p ys) ∧ ∀ (l : Addr), H l = none → Q (V.ref l) (upd H l (HO.lst ys))
theorem c_lst {X : Cx} : CallR X (.type "list") (rLst X.K) := call_list_of
theorem ixN_at {n j : Nat} (hj : j < n) : ixN n (j : Int) = some j := by
  unfold ixN
  rw [if_pos (by omega), if_pos (by omega)]
  rfl
theorem pow3_mono {k : Nat} : ∀ {m : Nat}, k ≤ m → (3 : Int) ^ k ≤ 3 ^ m
  | 0, h => by rw [Nat.le_zero.mp h]; exact Int.le_refl _
  | m + 1, h => by
    by_cases e : k = m + 1
    · rw [e]; exact Int.le_refl _
    · have := pow3_mono (k := k) (m := m) (by omega)
      have p3 : (0 : Int) < 3 ^ m := Int.pow_pos (by decide)
      rw [Int.pow_succ]
      omega
end T22
set_option Elab.async false
set_option linter.all false
set_option maxRecDepth 100000
set_option maxHeartbeats 2000000
set_option Elab.async false
set_option linter.all false
set_option maxRecDepth 100000
set_option maxHeartbeats 2000000
namespace T22
open PySem PySem.Spec PyProof.Rows L2 Gd Zn Rp Dn Tb Gn En Zs Ct Op
theorem mul_bd {x y B B' : Int} (hx : -B ≤ x ∧ x ≤ B) (hy : -B' ≤ y ∧ y ≤ B') : -(B * B') ≤ x * y ∧ x * y ≤ B * B' := by
  have h1 : x.natAbs ≤ B.natAbs := by omega
  have h2 : y.natAbs ≤ B'.natAbs := by omega
  have h := Nat.mul_le_mul h1 h2
  have e1 := Int.natAbs_mul x y
  have e2 := Int.natAbs_mul B B'
  have hp : 0 ≤ B * B' := Int.mul_nonneg (by omega) (by omega)
  omega
theorem dot_bd {B B' : Int} (hB : 0 ≤ B) (hB' : 0 ≤ B') : ∀ (k : Nat) (xs ys : List Int), xs.length ≤ k → (∀ x ∈ xs, -B ≤ x ∧ x ≤ B) → (∀ y ∈ ys, -B' ≤ y ∧ y ≤ B') → -(k * (B * B')) ≤ dot xs ys ∧ dot xs ys ≤ k * (B * B')
  | k, [], ys, _, _, _ => by
    have : 0 ≤ (k : Int) * (B * B') := Int.mul_nonneg (by omega) (Int.mul_nonneg hB hB')
    simp only [dot, List.zip_nil_left, List.map_nil, List.sum_nil]
    omega
  | k, x :: xs, [], _, _, _ => by
    have : 0 ≤ (k : Int) * (B * B') := Int.mul_nonneg (by omega) (Int.mul_nonneg hB hB')
    simp only [dot, List.zip_nil_right, List.map_nil, List.sum_nil]
    omega
  | 0, x :: xs, y :: ys, h, _, _ => by simp at h
  | k + 1, x :: xs, y :: ys, h, hx, hy => by
    have ih := dot_bd hB hB' k xs ys (by simpa using h) (fun z hz => hx z (List.mem_cons_of_mem _ hz)) (fun z hz => hy z (List.mem_cons_of_mem _ hz))
    have h1 := mul_bd (hx x List.mem_cons_self) (hy y List.mem_cons_self)
    have e : ((k + 1 : Nat) : Int) * (B * B') = (k : Int) * (B * B') + B * B' := by
      rw [show ((k + 1 : Nat) : Int) = (k : Int) + 1 by omega, Int.add_mul, Int.one_mul]
    rw [e]
    unfold dot at ih ⊢
    simp only [List.zip_cons_cons, List.map_cons, List.sum_cons]
    omega
theorem mulM_len (n : Nat) (M N : List (List Int)) : (mulM n M N).length = M.length := by
  unfold mulM
  rw [List.length_map]
theorem mulM_row {n : Nat} {M N : List (List Int)} : ∀ r ∈ mulM n M N, r.length = n := fun r hr => by
  unfold mulM ledM transp at hr
  obtain ⟨s, _, rfl⟩ := List.mem_map.mp hr
  simp
theorem SqB.mul {n : Nat} {B B' : Int} {M N : List (List Int)} (hM : SqB n B M) (hN : SqB n B' N) (h3 : n ≤ 3) (hB : 0 ≤ B) (hB' : 0 ≤ B') : SqB n (3 * (B' * B)) (mulM n M N) := by
  refine ⟨by rw [mulM_len]; exact hM.len, mulM_row, fun r hr x hx => ?_⟩
  unfold mulM ledM transp at hr
  obtain ⟨s, hs, rfl⟩ := List.mem_map.mp hr
  rw [List.map_map] at hx
  obtain ⟨j, hj, rfl⟩ := List.mem_map.mp hx
  have := dot_bd hB' hB 3 (N.map fun r => r.getD j 0) s (by rw [List.length_map, hN.len]; exact h3) (fun y hy => ?_) (hM.bd s hs)
  · simpa using this
  · obtain ⟨t, ht, rfl⟩ := List.mem_map.mp hy
    rw [List.getD_eq_getElem?_getD]
    cases e : t[j]? with
    | none => simp only [Option.getD_none]; omega
    | some z => exact hN.bd t ht z (List.mem_of_getElem? e)
end T22
set_option Elab.async false
set_option linter.all false
set_option maxRecDepth 100000
set_option maxHeartbeats 2000000
set_option Elab.async false
set_option linter.all false
set_option maxRecDepth 100000
set_option maxHeartbeats 2000000
namespace T22
open PySem PySem.Spec PyProof.Rows L2 Gd Zn Rp Dn Tb Gn En Zs Ct Op
section
variable {X : Cx} {CX : CXT} {k : Nat} {f : Addr} {fd : FuncData} {ps ks : List Str} {sp : Sp} {E : XK} {x m : Str} {p pos apos : Pos} {kws : List Keyword} {tk : TA} {g : List Value → List Value → List Value} {gV : List V → List V → List V} {C : Addr} {o : Expr} {ta : TE}
theorem pe_names (F : FnOk X.prog X.w X.K X.mg X.base CX k f fd ps sp) (room : Room k X.A) (hg : Gl X x) (hm : X.mg x = some (.ref f)) (hk : PySem.W.keepIn X.K (.ref f) = true) (hb : KBinds X.K fd ps ks g gV) (hx : Passes CX X E) (hkw : PK X kws tk)
    (hall : (backToKw pos (keywordEach kws X.env)).all (·.1.isSome) = true := by rfl) (hks : (backToKw pos (keywordEach kws X.env)).filterMap (·.1) = ks := by rfl) (hdb : (x == ("__debug__" : Str)) = false := by decide)
    (hpl : ((backTo pos (starEach [] X.env)).any (·.1) || (backToKw pos (keywordEach kws X.env)).any (·.1.isNone)) = false := by rfl) :
    PE X (.Call (.Name x p) [] kws pos) (fun σ H Q => tk σ H fun zs H2 => sp (gV [] zs) H2 Q E) := by
  refine ⟨fun pins s σ H Q I h => wpAny_Call_Name_kw (ld_glob I hg hm ?_ hdb)⟩
  refine PySem.W.callWith_KW0 (h₀ := X.base) I.ok.mod.kin hk hall ?_ hpl
  refine thn (hkw.run pos pins s σ H _ I h) fun ws s2 ⟨zs, H2, I2, rz, q2⟩ => ⟨I2.kIn, ?_⟩
  rw [hks]
  exact run_fnk F room hb hx I2 .nil rz q2
end
end T22
set_option Elab.async false
set_option linter.all false
set_option maxRecDepth 100000
set_option maxHeartbeats 4000000
namespace T22
open PySem PySem.Spec PyProof.Rows L2 Gd Zn Rp Dn Tb Gn En Zs Ct Op
structure Sh (n : Nat) (M : List (List Int)) : Prop where
  len : M.length = n
  row : ∀ r ∈ M, r.length = n
theorem Sq.sh {n : Nat} {M : List (List Int)} (h : Sq n M) : Sh n M := ⟨h.len, h.row⟩
theorem SqB.sh {n : Nat} {B : Int} {M : List (List Int)} (h : SqB n B M) : Sh n M := ⟨h.len, h.row⟩
theorem sh1 {n : Nat} {M : List (List Int)} (h : Sh n M) (e : n = 1) : ∃ a, M = [[a]] := by
  subst e
  obtain ⟨r, rfl⟩ := len1 h.len
  obtain ⟨a, rfl⟩ := len1 (h.row r (by simp))
  exact ⟨a, rfl⟩
theorem sh2 {n : Nat} {M : List (List Int)} (h : Sh n M) (e : n = 2) : ∃ a b c d, M = [[a, b], [c, d]] := by
  subst e
  obtain ⟨r1, r2, rfl⟩ := len2 h.len
  obtain ⟨a, b, rfl⟩ := len2 (h.row r1 (by simp))
  obtain ⟨c, d, rfl⟩ := len2 (h.row r2 (by simp))
  exact ⟨a, b, c, d, rfl⟩
theorem sh3 {n : Nat} {M : List (List Int)} (h : Sh n M) (e : n = 3) : ∃ a b c d e f g h i, M = [[a, b, c], [d, e, f], [g, h, i]] := by
  subst e
  obtain ⟨r1, r2, r3, rfl⟩ := len3 h.len
  obtain ⟨a, b, c, rfl⟩ := len3 (h.row r1 (by simp))
  obtain ⟨d, e, f, rfl⟩ := len3 (h.row r2 (by simp))
  obtain ⟨g, i, j, rfl⟩ := len3 (h.row r3 (by simp))
  exact ⟨a, b, c, d, e, f, g, i, j, rfl⟩
theorem mulE1 (a b : Int) : mulM 1 [[a]] [[b]] = [[a * b]] := by simp [mulM, ledM, transp, dot, List.range_succ, List.getD, Int.mul_comm]
theorem mulE2 (a b c d e f g h : Int) : mulM 2 [[a, b], [c, d]] [[e, f], [g, h]] = [[a * e + b * g, a * f + b * h], [c * e + d * g, c * f + d * h]] := by simp [mulM, ledM, transp, dot, List.range_succ, List.getD, Int.mul_comm]
theorem mulE3 (a b c d e f g h i j k l m n o p q r : Int) : mulM 3 [[a, b, c], [d, e, f], [g, h, i]] [[j, k, l], [m, n, o], [p, q, r]] =
    [[a * j + (b * m + c * p), a * k + (b * n + c * q), a * l + (b * o + c * r)], [d * j + (e * m + f * p), d * k + (e * n + f * q), d * l + (e * o + f * r)], [g * j + (h * m + i * p), g * k + (h * n + i * q), g * l + (h * o + i * r)]] := by
  simp [mulM, ledM, transp, dot, List.range_succ, List.getD, Int.mul_comm]
theorem unitE1 : unitM 1 = [[1]] := rfl
theorem unitE2 : unitM 2 = [[1, 0], [0, 1]] := rfl
theorem unitE3 : unitM 3 = [[1, 0, 0], [0, 1, 0], [0, 0, 1]] := rfl
structure Gr (n : Nat) (M : List (List Int)) : Prop where
  h1 : 1 ≤ n
  h3 : n ≤ 3
  sh : Sh n M
  d : detM n M = 1 ∨ detM n M = -1
theorem sh_mk1 (a : Int) : Sh 1 [[a]] := ⟨rfl, by simp⟩
theorem sh_mk2 (a b c d : Int) : Sh 2 [[a, b], [c, d]] := ⟨rfl, by simp⟩
theorem sh_mk3 (a b c d e f g h i : Int) : Sh 3 [[a, b, c], [d, e, f], [g, h, i]] := ⟨rfl, by simp⟩
theorem mul_sh {n : Nat} {M N : List (List Int)} (h1 : 1 ≤ n) (h3 : n ≤ 3) (hM : Sh n M) (hN : Sh n N) : Sh n (mulM n M N) := by
  have : n = 1 ∨ n = 2 ∨ n = 3 := by omega
  rcases this with rfl | rfl | rfl
  · obtain ⟨a, rfl⟩ := sh1 hM rfl
    obtain ⟨b, rfl⟩ := sh1 hN rfl
    rw [mulE1]; exact sh_mk1 _
  · obtain ⟨a, b, c, d, rfl⟩ := sh2 hM rfl
    obtain ⟨e, f, g, h, rfl⟩ := sh2 hN rfl
    rw [mulE2]; exact sh_mk2 _ _ _ _
  · obtain ⟨a, b, c, d, e, f, g, h, i, rfl⟩ := sh3 hM rfl
    obtain ⟨j, k, l, m, n, o, p, q, r, rfl⟩ := sh3 hN rfl
    rw [mulE3]; exact sh_mk3 _ _ _ _ _ _ _ _ _
theorem mul_detS {n : Nat} {M N : List (List Int)} (h1 : 1 ≤ n) (h3 : n ≤ 3) (hM : Sh n M) (hN : Sh n N) : detM n (mulM n M N) = detM n M * detM n N := by
  have : n = 1 ∨ n = 2 ∨ n = 3 := by omega
  rcases this with rfl | rfl | rfl
  · obtain ⟨a, rfl⟩ := sh1 hM rfl
    obtain ⟨b, rfl⟩ := sh1 hN rfl
    rw [mulE1, det1, det1, det1]
  · obtain ⟨a, b, c, d, rfl⟩ := sh2 hM rfl
    obtain ⟨e, f, g, h, rfl⟩ := sh2 hN rfl
    rw [mulE2, det2, det2, det2]; grind
  · obtain ⟨a, b, c, d, e, f, g, h, i, rfl⟩ := sh3 hM rfl
    obtain ⟨j, k, l, m, n, o, p, q, r, rfl⟩ := sh3 hN rfl
    rw [mulE3, det3, det3, det3]; grind
theorem mul_assocS {n : Nat} {M N L : List (List Int)} (h1 : 1 ≤ n) (h3 : n ≤ 3) (hM : Sh n M) (hN : Sh n N) (hL : Sh n L) : mulM n (mulM n M N) L = mulM n M (mulM n N L) := by
  have : n = 1 ∨ n = 2 ∨ n = 3 := by omega
  rcases this with rfl | rfl | rfl
  · obtain ⟨a, rfl⟩ := sh1 hM rfl
    obtain ⟨b, rfl⟩ := sh1 hN rfl
    obtain ⟨c, rfl⟩ := sh1 hL rfl
    rw [mulE1, mulE1, mulE1, mulE1, Int.mul_assoc]
  · obtain ⟨a, b, c, d, rfl⟩ := sh2 hM rfl
    obtain ⟨e, f, g, h, rfl⟩ := sh2 hN rfl
    obtain ⟨i, j, k, l, rfl⟩ := sh2 hL rfl
    rw [mulE2, mulE2, mulE2, mulE2]
    congr 2 <;> grind
  · obtain ⟨a, b, c, d, e, f, g, h, i, rfl⟩ := sh3 hM rfl
    obtain ⟨j, k, l, m, n, o, p, q, r, rfl⟩ := sh3 hN rfl
    obtain ⟨a', b', c', d', e', f', g', h', i', rfl⟩ := sh3 hL rfl
    rw [mulE3, mulE3, mulE3, mulE3]
    congr 2 <;> grind
theorem unit_sh {n : Nat} : Sh n (unitM n) := (unit_sq n).sh
theorem mul_unitS {n : Nat} {M : List (List Int)} (h1 : 1 ≤ n) (h3 : n ≤ 3) (h : Sh n M) : mulM n M (unitM n) = M := by
  have : n = 1 ∨ n = 2 ∨ n = 3 := by omega
  rcases this with rfl | rfl | rfl
  · obtain ⟨a, rfl⟩ := sh1 h rfl
    rw [unitE1, mulE1]; simp
  · obtain ⟨a, b, c, d, rfl⟩ := sh2 h rfl
    rw [unitE2, mulE2]; simp
  · obtain ⟨a, b, c, d, e, f, g, h, i, rfl⟩ := sh3 h rfl
    rw [unitE3, mulE3]; simp
theorem unit_mulS {n : Nat} {M : List (List Int)} (h1 : 1 ≤ n) (h3 : n ≤ 3) (h : Sh n M) : mulM n (unitM n) M = M := by
  have : n = 1 ∨ n = 2 ∨ n = 3 := by omega
  rcases this with rfl | rfl | rfl
  · obtain ⟨a, rfl⟩ := sh1 h rfl
    rw [unitE1, mulE1]; simp
  · obtain ⟨a, b, c, d, rfl⟩ := sh2 h rfl
    rw [unitE2, mulE2]; simp
  · obtain ⟨a, b, c, d, e, f, g, h, i, rfl⟩ := sh3 h rfl
    rw [unitE3, mulE3]; simp
theorem pm_mul {a b : Int} (ha : a = 1 ∨ a = -1) (hb : b = 1 ∨ b = -1) : a * b = 1 ∨ a * b = -1 := by
  rcases ha with rfl | rfl <;> rcases hb with rfl | rfl <;> decide
theorem Gr.mul {n : Nat} {M N : List (List Int)} (hM : Gr n M) (hN : Gr n N) : Gr n (mulM n M N) := ⟨hM.h1, hM.h3, mul_sh hM.h1 hM.h3 hM.sh hN.sh, by rw [mul_detS hM.h1 hM.h3 hM.sh hN.sh]; exact pm_mul hM.d hN.d⟩
theorem gr_unit {n : Nat} (h1 : 1 ≤ n) (h3 : n ≤ 3) : Gr n (unitM n) := ⟨h1, h3, unit_sh, .inl (det_unit n h3)⟩
/-- the group of the tables of one size -/
def GL (n : Nat) : Type := { M : List (List Int) // Gr n M }
namespace GL
variable {n : Nat}
def mk (M : List (List Int)) (h : Gr n M) : GL n := ⟨M, h⟩
instance : Mul (GL n) := ⟨fun a b => ⟨mulM n a.val b.val, a.property.mul b.property⟩⟩
def one (h1 : 1 ≤ n) (h3 : n ≤ 3) : GL n := ⟨unitM n, gr_unit h1 h3⟩
theorem mul_assoc (a b c : GL n) : a * b * c = a * (b * c) := Subtype.ext (mul_assocS a.property.h1 a.property.h3 a.property.sh b.property.sh c.property.sh)
theorem one_mul {h1 : 1 ≤ n} {h3 : n ≤ 3} (a : GL n) : one h1 h3 * a = a := Subtype.ext (unit_mulS h1 h3 a.property.sh)
theorem mul_one {h1 : 1 ≤ n} {h3 : n ≤ 3} (a : GL n) : a * one h1 h3 = a := Subtype.ext (mul_unitS h1 h3 a.property.sh)
end GL
end T22
set_option Elab.async false
set_option linter.all false
set_option maxRecDepth 100000
set_option maxHeartbeats 1000000
namespace Oc
open PySem PySem.Spec PyProof.Rows L2
section
variable {M : Model} {prog : Program} {w : World} {A : Around} {E : Value → Shared → Prop} {s : Shared} {K : PySem.W.Frag} {x C f : Addr} {b : Value} {ox : Obj} {od : Option Obj}
theorem ifBound_objNe {args : List Value} {Q : Option Value → Shared → Prop} (X : K.In s.heap) (I : PySem.W.InstAt s.heap x ox C od) (hs : PySem.W.findIn K (.ref C) "__ne__" = some (some (.builtin "object.__ne__")))
    (h : wpAny M A (call (.builtin "object.__ne__") (.ref x :: args)) (fun v => Q (some v)) E s) : wpAny M A (callSpecialIfBound? (.ref x) "__ne__" args) Q E s := by
  simp only [callSpecialIfBound?, bindSpecialIfBound?]
  refine wpAny_holding (wpAny_bind (wpAny_bind (wpAny_bind (I.type.here ((PySem.W.looks_findIn X hs).here ?_)))))
  refine wpAny_bind (wpAny_askSetting (wpAny_ite ?_))
  have fin : wpAny M A (call (.builtin "object.__ne__") ([.ref x] ++ args) >>= fun v => pure (some v)) Q E s := wpAny_bind (wpAny_mono h (fun v s' h' => wpAny_pure h') fun _ _ h' => h')
  split
  · exact wpAny_bind (wpAny_of_eq (F.cmp_object.ne.bind _) (wpAny_pure (by exact fin)))
  · exact wpAny_tryCatch (wpAny_bind (wpAny_of_eq (F.cmp_object.ne.bind _) (wpAny_pure (by exact fin))))
theorem entry_ne (X : K.In s.heap) (I : PySem.W.InstAt s.heap x ox C od) (he : PySem.W.findIn K (.ref C) "__eq__" = some (some (.ref f))) (hf : PySem.W.isFn K (.ref f) = true) (hu : A.units < cLine) {Q : Fin → Shared → Prop}
    (hcall : wpAny M A (call (.ref f) [.ref x, b]) (fun v s' => ∃ c, v = .bool c ∧ Q (.done (.ret (.bool (!c)))) s') E s) :
    wpAny M A (Builtin.«object.__ne__» ⟨[.ref x, b], []⟩) Q E s := by
  unfold Builtin.«object.__ne__»
  repeat (first
    | with_reducible refine wpAny_cRoomFor hu ?_
    | (refine wpAny_bind (m := callSpecialIfBound? (.ref x) (Str.ofString "__eq__") [b])
        (PySem.W.ifBound_K X I he hf (wpAny_mono hcall (fun r s' hr => by
          obtain ⟨c, rfl, hq⟩ := hr
          repeat (first | exact hq | exact wpAny_pure hq | exact wpAny_truthy_bool hq | (refine wpAny_bind (m := truthy (.bool _)) (wpAny_truthy_bool ?_)) | wp_step)) fun _ _ e => e)))
    | wp_step)
theorem ne_K {L : Addr} {h₀ : Heap} {m : Str → Option Value} {tb : Value} {Q : Value → Shared → Prop} (hu : A.units + 1 < cLine) (Fr0 : Fr h₀ L s.heap m) (X₀ : K.In h₀) (I : PySem.W.InstAt s.heap x ox C od) (hb : PySem.W.Looks (model prog w) s.heap (typeOf b) tb) (hn : PySem.W.notFirst K C tb = true)
    (hm : PySem.W.mroIn K C (.type "object") = some true) (hs : PySem.W.findIn K (.ref C) "__ne__" = some (some (.builtin "object.__ne__"))) (he : PySem.W.findIn K (.ref C) "__eq__" = some (some (.ref f))) (hf : PySem.W.isFn K (.ref f) = true)
    (h : wpAny (model prog w) A.in1 (call (.ref f) [.ref x, b]) (fun v s' => ∃ c, v = .bool c ∧ Q (.bool (!c)) s') E s) : wpAny (model prog w) A (richCompare .NotEq (.ref x) b) Q E s := by
  have X := X₀.keeps Fr0.keep
  have one : wpAny (model prog w) A (tryCompare (.ref x) "__ne__" b) (fun r s' => ∃ v, r = some v ∧ Q v s') E s := by
    unfold tryCompare
    refine wpAny_bind (ifBound_objNe X I hs (wpAny_call (codeAny_call_builtin F.cmp_object.ne.plain F.cmpEntry_ne (PySem.W.check_slot F.cmpKind_ne F.cmpSplit_ne (I.type.andThen (PySem.W.looks_mroIn X hm)) (F.cmpArgs_ne _ _)
      (entry_ne (A := A.in1) X I he hf hu (wpAny_mono h (fun v s' hv => ?_) fun _ _ e => e))))))
    obtain ⟨c, rfl, hq⟩ := hv
    first | exact ⟨c, rfl, wpAny_pure ⟨_, rfl, hq⟩⟩ | exact ⟨c, rfl, wpAny_pure (wpAny_pure ⟨_, rfl, hq⟩)⟩
  unfold richCompare
  simp only [oneThing_ref]
  refine wpAny_holding (wpAny_bind (wpAny_cRoomFor (by omega) ?_))
  refine wpAny_bind (I.type.here (wpAny_bind (hb.here ?_)))
  split
  · rename_i q
    have e : PySem.W.subIn K tb (.ref C) = some false := by
      rcases Bool.or_eq_true_iff.mp hn with e | e
      · rw [beq_iff_eq.mp e] at q; simp at q
      · exact beq_iff_eq.mp e
    refine wpAny_bind ((PySem.W.looks_subIn X e).here ?_)
    simp only [Bool.false_eq_true, if_false]
    refine wpAny_bind (wpAny_mono one (fun r s' z => ?_) fun _ _ e => e)
    obtain ⟨v, rfl, hq⟩ := z
    exact wpAny_pure hq
  · refine wpAny_bind (wpAny_pure ?_)
    simp only [Bool.false_eq_true, if_false]
    refine wpAny_bind (wpAny_mono one (fun r s' z => ?_) fun _ _ e => e)
    obtain ⟨v, rfl, hq⟩ := z
    exact wpAny_pure hq
end
end Oc
set_option Elab.async false
set_option linter.all false
set_option maxRecDepth 100000
set_option maxHeartbeats 1000000
namespace Oc
open PySem PySem.Spec PyProof.Rows L2
def rEqO (C : Addr) (sp : Sp) (E : XK) : R2 := fun x y H Q => ∃ a dx fs b dy gs, x = .ref a ∧ y = .ref b ∧ H a = some (.ins C dx fs) ∧ H b = some (.ins C dy gs) ∧ sp [x, y] H Q E
def rNeO (C : Addr) (sp : Sp) (E : XK) : R2 := fun x y H Q => ∃ a dx fs b dy gs, x = .ref a ∧ y = .ref b ∧ H a = some (.ins C dx fs) ∧ H b = some (.ins C dy gs) ∧ sp [x, y] H (fun v H' => ∃ c, v = .bl c ∧ Q (.bl (!c)) H') E
theorem notFirst_self (K : PySem.W.Frag) (C : Addr) : PySem.W.notFirst K C (.ref C) = true := by
  unfold PySem.W.notFirst
  simp
section
variable {X : Cx} {CX : CXT} {C g : Addr} {n : Nat} {sp : Sp} {E : XK}
theorem op_eqO (hs : PySem.W.findIn X.K (.ref C) "__eq__" = some (some (.ref g))) (hf : PySem.W.isFn X.K (.ref g) = true) (G : FnR X.prog X.w X.K X.mg X.base CX n g sp) (hr : Room n X.A) (hx : Passes CX X E) : OpR X (compareOp .Eq) (rEqO C sp E) := by
  intro pins s σ H x y v u Q I rx ry h
  obtain ⟨a, dx, fs, b, dy, gs, rfl, rfl, ha, hb, q⟩ := h
  cases (show v = Value.ref a from rx)
  cases (show u = Value.ref b from ry)
  obtain ⟨mA, O, _⟩ := ins_get I.hok ha
  obtain ⟨od, J, _⟩ := O.look
  obtain ⟨mB, O', _⟩ := ins_get I.hok hb
  obtain ⟨od', J', _⟩ := O'.look
  obtain ⟨m, hF⟩ := I.fr
  show wpAny _ _ (richCompare .Eq _ _) _ _ _
  refine PySem.W.cmp_K (op := .Eq) (tb := .ref C) hr.units0 hF I.ok.mod.kin J J'.type (notFirst_self _ _) hs hf ?_
  refine wpAny_mono (wpAny_call (run_fnR (us := [.ref a, .ref b]) (vs := [.ref a, .ref b]) G hr hx I (.cons rfl (.cons rfl .nil)) q)) (fun w s' z => ?_) fun _ _ x => x
  obtain ⟨z', H', I', rz, qz⟩ := z
  exact SlX.cmpback rz ⟨z', H', I', rz, qz⟩
theorem op_neO (hm : PySem.W.mroIn X.K C (.type "object") = some true) (hn : PySem.W.findIn X.K (.ref C) "__ne__" = some (some (.builtin "object.__ne__"))) (hs : PySem.W.findIn X.K (.ref C) "__eq__" = some (some (.ref g))) (hf : PySem.W.isFn X.K (.ref g) = true)
    (G : FnR X.prog X.w X.K X.mg X.base CX n g sp) (hr : Room (n + 1) X.A) (hx : Passes CX X E) : OpR X (compareOp .NotEq) (rNeO C sp E) := by
  intro pins s σ H x y v u Q I rx ry h
  obtain ⟨a, dx, fs, b, dy, gs, rfl, rfl, ha, hb, q⟩ := h
  cases (show v = Value.ref a from rx)
  cases (show u = Value.ref b from ry)
  obtain ⟨mA, O, _⟩ := ins_get I.hok ha
  obtain ⟨od, J, _⟩ := O.look
  obtain ⟨mB, O', _⟩ := ins_get I.hok hb
  obtain ⟨od', J', _⟩ := O'.look
  obtain ⟨m, hF⟩ := I.fr
  have hu : X.A.units + 1 < cLine := hr.in1.units0
  show wpAny _ _ (richCompare .NotEq _ _) _ _ _
  refine ne_K (tb := .ref C) hu hF I.ok.mod.kin J J'.type (notFirst_self _ _) hm hn hs hf ?_
  refine wpAny_mono (wpAny_call (SlX.run_at (us := [.ref a, .ref b]) (ws := [.ref a, .ref b]) G hr.in1 I.env0.in1 hx I (.cons rfl (.cons rfl .nil)) q)) (fun w s' z => ?_) fun _ _ x => x
  obtain ⟨z', H', I', rz, c, ec, qz⟩ := z
  subst ec
  obtain rfl : w = Value.bool c := rz
  exact ⟨c, rfl, .bl (!c), H', I', rfl, qz⟩
end
end Oc
set_option Elab.async false
set_option linter.all false
set_option maxRecDepth 100000
set_option maxHeartbeats 1000000
namespace Rg
open PySem PySem.Spec PyProof.Rows L2
end Rg
set_option Elab.async false
set_option linter.all false
set_option maxRecDepth 100000
set_option maxHeartbeats 2000000
namespace T22
open PySem PySem.Spec PyProof.Rows L2 Gd Zn Rp Dn Tb Gn En Zs Ct Op Oc Rg
section
variable {P : Program} {w : World} {K : PySem.W.Frag} {mg : Str → Option Value} {base : Heap} {C : Addr}
def sp_detP (C : Addr) : Sp := fun vs H Q _ => ∃ v M n, vs = [v] ∧ Tab C H v M ∧ Sq n M ∧ n ≤ 3 ∧ ∀ H', Same H H' → Q (.int (detM n M)) H'
def trM (n : Nat) (M : List (List Int)) : Int := ((List.range n).map fun i => (M.getD i []).getD i 0).sum
def sp_trace_of : Sp := fun vs H Q _ => ∃ v M n, vs = [v] ∧ Mx H v M ∧ Sh n M ∧ n ≤ 3 ∧ ∀ H', Same H H' → Q (.int (trM n M)) H'
def sp_eqT (C : Addr) : Sp := fun vs H Q _ => ∃ v o M N, vs = [v, o] ∧ Tab C H v M ∧ Tab C H o N ∧ Q (.bl (decide (M = N))) H
theorem SeqV.any {H : Hp} {v : V} {xs : List Int} (h : SeqV H v (iD xs)) : ∃ d, AnyV H v d ∧ items d = iD xs ∧ (d = .list (iD xs) ∨ d = .tuple (iD xs)) := by
  rcases h with h | h
  · exact ⟨_, .inl h, rfl, .inl rfl⟩
  · exact ⟨_, .inl h, rfl, .inr rfl⟩
end
end T22
set_option Elab.async false
set_option linter.all false
set_option maxRecDepth 100000
set_option maxHeartbeats 2000000
namespace T22
open PySem PySem.Spec PyProof.Rows L2 Gd Zn Rp Dn Tb Gn En Zs Ct Op Oc Rg
/-- Table(..) of anything that tells the rows -/
theorem make_any {C : Addr} {H : Hp} {v : V} {d : PyData} {M : List (List Int)} {n : Nat} {Q : VK} {E : XK} (av : AnyV H v d) (g : GridD d M) (hS : Sq n M) (h1 : 1 ≤ n) (h3 : n ≤ 3) (hd : detM n M = 1 ∨ detM n M = -1)
    (k : ∀ c H', Same H H' → Tab C H' (.ref c) M → Q (.ref c) H') : ∀ x dx : Addr, H x = none → H dx = none → dx ≠ x → sp_init C (V.ref x :: ([v] ++ [])) (upd (upd H dx (.own x)) x (.ins C dx [])) (fun u H2 => u = V.non ∧ Q (.ref x) H2) E := by
  intro x dx nx nd ne
  have s : Same H (upd (upd H dx (.own x)) x (.ins C dx [])) := fun c o e => by
    rw [upd_ne (ne_of_none e nx), upd_ne (ne_of_none e nd)]
    exact e
  refine ⟨x, dx, v, d, M, n, rfl, upd_same, av.mono s, g, hS, h1, h3, hd, fun H' kp ht => ⟨rfl, k x H' (fun c o e => ?_) ht⟩⟩
  exact kp c o (ne_of_none e nx) (s c o e)
def lmD (M : List (List Int)) : PyData := .list (M.map fun r => .list (r.map PyData.int))
theorem grid_lm (M : List (List Int)) : GridD (lmD M) M := by
  refine ⟨rfl, ?_, fun i d' e => ?_⟩
  · show (M.map _).length = _
    rw [List.length_map]
  · have e : (M.map fun r => PyData.list (r.map PyData.int))[i]? = some d' := e
    rw [List.getElem?_map] at e
    cases h : M[i]? with
    | none => rw [h] at e; cases e
    | some r =>
      rw [h] at e
      cases e
      exact ⟨r, rfl, .inl rfl⟩
theorem py_ints {H : Hp} : ∀ xs : List Int, PyVs H (xs.map V.int) (xs.map PyData.int)
  | [] => .nil
  | x :: xs => .cons (.int x) (py_ints xs)
theorem pys_lm {H : Hp} : ∀ {vs : List V} {M : List (List Int)}, vs.length = M.length → (∀ (i : Nat) (v : V), vs[i]? = some v → ∃ q, v = .ref q ∧ H q = some (.lst ((M.getD i []).map V.int))) → PyVs H vs (M.map fun r => .list (r.map PyData.int))
  | [], [], _, _ => .nil
  | v :: vs, r :: M, hl, h => by
    obtain ⟨q, rfl, hq⟩ := h 0 v rfl
    exact .cons (.lst hq (py_ints _)) (pys_lm (Nat.succ.inj hl) fun i w e => h (i + 1) w e)
theorem py_lm {H : Hp} {D : Addr} {vs : List V} {M : List (List Int)} (hD : H D = some (.lst vs)) (hl : vs.length = M.length) (h : ∀ (i : Nat) (v : V), vs[i]? = some v → ∃ q, v = .ref q ∧ H q = some (.lst ((M.getD i []).map V.int))) : PyV H (.ref D) (lmD M) := .lst hD (pys_lm hl h)
end T22
set_option Elab.async false
set_option linter.all false
set_option maxRecDepth 100000
set_option maxHeartbeats 4000000
namespace Rt
open PySem PySem.Spec PyProof.Rows L2 Dn
end Rt
set_option Elab.async false
set_option linter.all false
set_option maxRecDepth 100000
set_option maxHeartbeats 2000000
namespace T22
open PySem PySem.Spec PyProof.Rows L2 Gd Zn Rp Dn Tb Gn En Zs Ct Op Oc Rg Rt
structure EqP (P : Program) (w : World) (K : PySem.W.Frag) (mg : Str → Option Value) (base : Heap) (C : Addr) : Prop where
  ex : ∃ (g : Addr) (gd : FuncData), PySem.W.findIn K (.ref C) "__eq__" = some (some (.ref g)) ∧ PySem.W.isFn K (.ref g) = true ∧ FnOk P w K mg base CX0 1 g gd ["self", "other"] (sp_eqT C) ∧ Binds K gd ["self", "other"] [] ∧
    PySem.W.findIn K (.ref C) "__ne__" = some (some (.builtin "object.__ne__")) ∧ PySem.W.mroIn K C (.type "object") = some true
abbrev eqSp (C : Addr) : Sp := fun vs H Q E => sp_eqT C (vs ++ []) H Q E
theorem opEq {X : Cx} {C : Addr} {j : Nat} (D : EqP X.prog X.w X.K X.mg X.base C) (room : Room j X.A) (hkj : 2 ≤ j := by decide) : OpR X (compareOp .Eq) (rEqO C (eqSp C) E0) := by
  obtain ⟨g, gd, h1, h2, G, b, _, _⟩ := D.ex
  exact op_eqO h1 h2 (G.raw b .nil) (room.mono (by omega)) pass0
theorem opNe {X : Cx} {C : Addr} {j : Nat} (D : EqP X.prog X.w X.K X.mg X.base C) (room : Room j X.A) (hkj : 2 ≤ j := by decide) : OpR X (compareOp .NotEq) (rNeO C (eqSp C) E0) := by
  obtain ⟨g, gd, h1, h2, G, b, h3, h4⟩ := D.ex
  exact op_neO h4 h3 h1 h2 (G.raw b .nil) (room.mono hkj) pass0
theorem rd_eq {C : Addr} {H : Hp} {x y : V} {M N : List (List Int)} {Q : VK} (hx : Tab C H x M) (hy : Tab C H y N) (q : Q (.bl (decide (M = N))) H) : rEqO C (eqSp C) E0 x y H Q := by
  obtain ⟨a, dx, r, rfl, ha, hm⟩ := id hx
  obtain ⟨b, dy, s, rfl, hb, hn⟩ := id hy
  exact ⟨a, dx, _, b, dy, _, rfl, rfl, ha, hb, .ref a, .ref b, M, N, rfl, hx, hy, q⟩
theorem rd_ne {C : Addr} {H : Hp} {x y : V} {M N : List (List Int)} {Q : VK} (hx : Tab C H x M) (hy : Tab C H y N) (q : Q (.bl (!decide (M = N))) H) : rNeO C (eqSp C) E0 x y H Q := by
  obtain ⟨a, dx, r, rfl, ha, hm⟩ := id hx
  obtain ⟨b, dy, s, rfl, hb, hn⟩ := id hy
  exact ⟨a, dx, _, b, dy, _, rfl, rfl, ha, hb, .ref a, .ref b, M, N, rfl, hx, hy, _, rfl, q⟩
theorem noU {r : V} {m : Str} (e : ¬ m = ("_rows" : Str) := by decide +kernel) : (fldsT r).lookup m = none := by
  unfold fldsT; rw [lookup_putF, if_neg e]; rfl
def besM (n m : Nat) (M N : List (List Int)) : List (List Int) := (M.map fun r => r ++ List.replicate m 0) ++ (N.map fun r => List.replicate n 0 ++ r)
theorem bes_sh {n m : Nat} {M N : List (List Int)} (hM : Sh n M) (hN : Sh m N) : Sh (n + m) (besM n m M N) := by
  refine ⟨?_, fun r hr => ?_⟩
  · unfold besM
    rw [List.length_append, List.length_map, List.length_map, hM.len, hN.len]
  · unfold besM at hr
    rcases List.mem_append.mp hr with h | h
    · obtain ⟨s, hs, rfl⟩ := List.mem_map.mp h
      rw [List.length_append, List.length_replicate, hM.row s hs]
    · obtain ⟨s, hs, rfl⟩ := List.mem_map.mp h
      rw [List.length_append, List.length_replicate, hN.row s hs]
section
variable {P : Program} {w : World} {K : PySem.W.Frag} {mg : Str → Option Value} {base : Heap} {C : Addr}
structure OkB (n m : Nat) (M N : List (List Int)) : Prop where
  gM : Gr n M
  gN : Gr m N
  sM : Sq n M
  sN : Sq m N
  h3 : n + m ≤ 3
theorem OkB.sq {n m : Nat} {M N : List (List Int)} (h : OkB n m M N) : Sq (n + m) (besM n m M N) := by
  refine ⟨(bes_sh h.gM.sh h.gN.sh).len, (bes_sh h.gM.sh h.gN.sh).row, fun r hr x hx => ?_⟩
  unfold besM at hr
  have z : Small 0 := Wd.lit ⟨by decide, by decide⟩
  rcases List.mem_append.mp hr with h' | h'
  · obtain ⟨s, hs, rfl⟩ := List.mem_map.mp h'
    rcases List.mem_append.mp hx with h' | h'
    · exact h.sM.small s hs x h'
    · rw [(List.mem_replicate.mp h').2]; exact z
  · obtain ⟨s, hs, rfl⟩ := List.mem_map.mp h'
    rcases List.mem_append.mp hx with h' | h'
    · rw [(List.mem_replicate.mp h').2]; exact z
    · exact h.sN.small s hs x h'
theorem _root_.Tb.RowsV.append {H : Hp} {vs ws : List V} {M N : List (List Int)} (h : RowsV H vs M) (k : RowsV H ws N) : RowsV H (vs ++ ws) (M ++ N) := by
  induction h with
  | nil => exact k
  | cons p _ ih => exact .cons p ih
end
end T22
set_option Elab.async false
set_option linter.all false
set_option maxRecDepth 100000
set_option maxHeartbeats 2000000
namespace T22
open PySem PySem.Spec PyProof.Rows L2 Gd Zn Rp Dn Tb Gn En Zs Ct Op Oc Rg Rt
/-- any iterator, walked by an invariant -/
theorem for_by {J : It} {g : TG} {tb : TS} {D : Ends} {σ : L2.St} {H : Hp} (n : Nat) (Pv : Nat → L2.St → Hp → Prop) (h0 : Pv 0 σ H) (hgo : ∀ i σ H, i < n → Pv i σ H → J.go i H) (hst : ∀ σ H, Pv n σ H → J.stop n H)
    (hs : ∀ i x σ H H', i < n → Pv i σ H → J.yld i H x H' → g x σ H' fun σ2 H2 => tb { D with nx := Pv (i + 1), ct := Pv (i + 1), bk := D.nx } σ2 H2) (hd : ∀ σ H, Pv n σ H → D.nx σ H) :
    ∃ W : Nat → Nat → L2.St → Hp → Prop, (∃ m, W 0 m σ H) ∧ ∀ i m σ H, W i m σ H →
      (J.stop i H ∧ D.nx σ H) ∨ (J.go i H ∧ ∃ N : L2.St → Hp → Prop, (∀ σ' H', N σ' H' → ∃ m', m' < m ∧ W (i + 1) m' σ' H') ∧ ∀ x H', J.yld i H x H' → g x σ H' fun σ2 H2 => tb { D with nx := N, ct := N, bk := D.nx } σ2 H2) := by
  refine ⟨fun i m σ H => m = n - i ∧ i ≤ n ∧ Pv i σ H, ⟨n, by simp, Nat.zero_le _, h0⟩, ?_⟩
  rintro i m σ H ⟨rfl, hi, p⟩
  by_cases hlt : i < n
  · exact .inr ⟨hgo i σ H hlt p, Pv (i + 1), fun σ' H' p' => ⟨n - (i + 1), by omega, rfl, hlt, p'⟩, fun x H' y => hs i x σ H H' hlt p y⟩
  · have e : i = n := by omega
    subst e
    exact .inl ⟨hst σ H p, hd σ H p⟩
/-- rows as tuples, in a tuple or a list -/
def MxS (H : Hp) (v : V) (M : List (List Int)) : Prop := ∃ (t : Bool) (a : Addr) (vs : List V), v = .ref a ∧ H a = some (if t = true then .tup vs else .lst vs) ∧ RowsV H vs M
theorem Mx.s {H : Hp} {v : V} {M : List (List Int)} (h : Mx H v M) : MxS H v M := by
  obtain ⟨a, vs, rfl, h, r⟩ := h
  exact ⟨true, a, vs, rfl, h, r⟩
theorem MxS.same {H H' : Hp} {v : V} {M : List (List Int)} (s : Same H H') (h : MxS H v M) : MxS H' v M := by
  obtain ⟨t, a, vs, rfl, h, r⟩ := h
  exact ⟨t, a, vs, rfl, s _ _ h, r.mono (KS.of s)⟩
theorem out0 (M : List (List Int)) (k : Nat) : outM M 0 k = (M.drop 1).map (cutAt k) := by
  cases M with
  | nil => simp [outM, outW]
  | cons r M =>
    unfold outM outW
    rw [List.length_cons, List.range_succ_eq_map]
    simp only [List.drop_one, List.tail_cons]
    rw [List.filter_cons]
    simp only [decide_true, Bool.not_true, Bool.false_eq_true, if_false]
    rw [List.filter_eq_self.mpr (by intro a ha; obtain ⟨b, _, rfl⟩ := List.mem_map.mp ha; simp), List.map_map]
    apply List.ext_getElem
    · simp
    · intro i h1 h2
      have hi : i < M.length := by simpa using h2
      simp [hi]
theorem cutV_drop (vs : List V) (h : 1 ≤ vs.length) : cutV vs (some 1) none = vs.drop 1 := by
  unfold cutV
  rw [show (1 : Int) = ((1 : Nat) : Int) by rfl, HT.sIx_nat, HT.sIx_none, Nat.min_eq_left h]
  exact List.take_of_length_le (by rw [List.length_drop]; exact Nat.le_refl _)
end T22
set_option Elab.async false
set_option linter.all false
set_option maxRecDepth 100000
set_option maxHeartbeats 2000000
set_option Elab.async false
set_option linter.all false
set_option maxRecDepth 100000
set_option maxHeartbeats 2000000
set_option Elab.async false
set_option linter.all false
set_option maxRecDepth 100000
set_option maxHeartbeats 2000000
namespace T22
open PySem PySem.Spec PyProof.Rows L2 Gd Zn Rp Dn Tb Gn En Zs Ct Op Oc Rg Rt
/-- bounds by bits -/
structure SqE (n k : Nat) (M : List (List Int)) : Prop where
  len : M.length = n
  row : ∀ r ∈ M, r.length = n
  bd : ∀ r ∈ M, ∀ x ∈ r, x.natAbs < 2 ^ k
theorem SqE.sh {n k : Nat} {M : List (List Int)} (h : SqE n k M) : Sh n M := ⟨h.len, h.row⟩
theorem SqE.mono {n k l : Nat} {M : List (List Int)} (h : SqE n k M) (e : k ≤ l) : SqE n l M := ⟨h.len, h.row, fun r hr x hx => Wd.abs_mono (h.bd r hr x hx) e⟩
theorem SqE.sq {n k : Nat} {M : List (List Int)} (h : SqE n k M) (e : k ≤ 20000) : Sq n M := ⟨h.len, h.row, fun r hr x hx => ⟨k, e, h.bd r hr x hx⟩⟩
theorem SqB.e {n k : Nat} {B : Int} {M : List (List Int)} (h : SqB n B M) (e : B.toNat < 2 ^ k) : SqE n k M := ⟨h.len, h.row, fun r hr x hx => by
  have := h.bd r hr x hx
  omega⟩
theorem ae1 {a b : Int} {k l : Nat} (ha : a.natAbs < 2 ^ k) (hb : b.natAbs < 2 ^ l) : (a * b).natAbs < 2 ^ (k + l + 2) := Wd.abs_mono (Wd.abs_mul ha hb) (by omega)
theorem ae2 {a b c d : Int} {k l : Nat} (ha : a.natAbs < 2 ^ k) (hb : b.natAbs < 2 ^ l) (hc : c.natAbs < 2 ^ k) (hd : d.natAbs < 2 ^ l) : (a * b + c * d).natAbs < 2 ^ (k + l + 2) :=
  Wd.abs_mono (Wd.abs_add (Wd.abs_mul ha hb) (Wd.abs_mul hc hd)) (by omega)
theorem ae3 {a b c d e f : Int} {k l : Nat} (ha : a.natAbs < 2 ^ k) (hb : b.natAbs < 2 ^ l) (hc : c.natAbs < 2 ^ k) (hd : d.natAbs < 2 ^ l) (he : e.natAbs < 2 ^ k) (hf : f.natAbs < 2 ^ l) : (a * b + (c * d + e * f)).natAbs < 2 ^ (k + l + 2) :=
  Wd.abs_add (Wd.abs_mono (Wd.abs_mul ha hb) (by omega)) (Wd.abs_add (Wd.abs_mul hc hd) (Wd.abs_mul he hf))
theorem SqE.mul {n k l : Nat} {M N : List (List Int)} (hM : SqE n k M) (hN : SqE n l N) (h1 : 1 ≤ n) (h3 : n ≤ 3) : SqE n (k + l + 2) (mulM n M N) := by
  refine ⟨(mul_sh h1 h3 hM.sh hN.sh).len, (mul_sh h1 h3 hM.sh hN.sh).row, ?_⟩
  have : n = 1 ∨ n = 2 ∨ n = 3 := by omega
  rcases this with rfl | rfl | rfl
  · obtain ⟨a, rfl⟩ := sh1 hM.sh rfl
    obtain ⟨b, rfl⟩ := sh1 hN.sh rfl
    have x := hM.bd
    have y := hN.bd
    rw [mulE1]
    simp only [List.mem_cons, List.not_mem_nil, or_false, forall_eq] at x y ⊢
    exact ae1 x y
  · obtain ⟨a, b, c, d, rfl⟩ := sh2 hM.sh rfl
    obtain ⟨e, f, g, h, rfl⟩ := sh2 hN.sh rfl
    have x := hM.bd
    have y := hN.bd
    rw [mulE2]
    simp only [List.mem_cons, List.not_mem_nil, or_false, forall_eq_or_imp, forall_eq] at x y ⊢
    obtain ⟨⟨x1, x2⟩, x3, x4⟩ := x
    obtain ⟨⟨y1, y2⟩, y3, y4⟩ := y
    exact ⟨⟨ae2 x1 y1 x2 y3, ae2 x1 y2 x2 y4⟩, ae2 x3 y1 x4 y3, ae2 x3 y2 x4 y4⟩
  · obtain ⟨a, b, c, d, e, f, g, h, i, rfl⟩ := sh3 hM.sh rfl
    obtain ⟨j, k', l', m, n, o, p, q, r, rfl⟩ := sh3 hN.sh rfl
    have x := hM.bd
    have y := hN.bd
    rw [mulE3]
    simp only [List.mem_cons, List.not_mem_nil, or_false, forall_eq_or_imp, forall_eq] at x y ⊢
    obtain ⟨⟨x1, x2, x3⟩, ⟨x4, x5, x6⟩, x7, x8, x9⟩ := x
    obtain ⟨⟨y1, y2, y3⟩, ⟨y4, y5, y6⟩, y7, y8, y9⟩ := y
    exact ⟨⟨ae3 x1 y1 x2 y4 x3 y7, ae3 x1 y2 x2 y5 x3 y8, ae3 x1 y3 x2 y6 x3 y9⟩, ⟨ae3 x4 y1 x5 y4 x6 y7, ae3 x4 y2 x5 y5 x6 y8, ae3 x4 y3 x5 y6 x6 y9⟩, ae3 x7 y1 x8 y4 x9 y7, ae3 x7 y2 x8 y5 x9 y8, ae3 x7 y3 x8 y6 x9 y9⟩
/-- a Table in the heap, with the bits of its numbers -/
structure Tv (C : Addr) (H : Hp) (x : V) (n : Nat) (b : Nat) (M : List (List Int)) : Prop where
  tab : Tab C H x M
  gr : Gr n M
  bd : SqE n b M
theorem Tv.same {C : Addr} {H H' : Hp} {x : V} {n : Nat} {b : Nat} {M : List (List Int)} (h : Tv C H x n b M) (s : Same H H') : Tv C H' x n b M := ⟨T22.Tab.same s h.tab, h.gr, h.bd⟩
theorem Tv.ks {C : Addr} {H H' : Hp} {x : V} {n : Nat} {b : Nat} {M : List (List Int)} (h : Tv C H x n b M) (s : KS H H') : Tv C H' x n b M := ⟨T22.Tab.mono s h.tab, h.gr, h.bd⟩
section
variable {C : Addr} {H : Hp} {Q : VK} {E : XK} {n m : Nat} {b c : Nat} {M N : List (List Int)} {x y : V}
theorem p_rows (hx : Tab C H x M) (q : ∀ r, Mx H r M → Q r H) : ∃ a dx fs, x = .ref a ∧ H a = some (.ins C dx fs) ∧ sp_rows C (.ref a :: []) H Q E := by
  obtain ⟨a, dx, r, rfl, ha, hm⟩ := id hx
  exact ⟨a, dx, _, rfl, ha, _, M, rfl, hx, q⟩
theorem p_size (hx : Tab C H x M) (q : Q (.int M.length) H) : ∃ a dx fs, x = .ref a ∧ H a = some (.ins C dx fs) ∧ sp_size C (.ref a :: []) H Q E := by
  obtain ⟨a, dx, r, rfl, ha, hm⟩ := id hx
  exact ⟨a, dx, _, rfl, ha, _, M, rfl, hx, q⟩
theorem p_det (hx : Tab C H x M) (hS : Sq n M) (h3 : n ≤ 3) (q : ∀ H', Same H H' → Q (.int (detM n M)) H') : ∃ a dx fs, x = .ref a ∧ H a = some (.ins C dx fs) ∧ sp_detP C (.ref a :: []) H Q E := by
  obtain ⟨a, dx, r, rfl, ha, hm⟩ := id hx
  exact ⟨a, dx, _, rfl, ha, _, M, n, rfl, hx, hS, h3, q⟩
end
structure DefK (P : Program) (w : World) (K : PySem.W.Frag) (mg : Str → Option Value) (base : Heap) (nm : Str) (k : Nat) (ps ks : List Str) (sp : Sp) (g : List Value → List Value → List Value) (gV : List V → List V → List V) : Prop where
  ex : ∃ (f : Addr) (fd : FuncData), FnOk P w K mg base CX0 k f fd ps sp ∧ mg nm = some (.ref f) ∧ PySem.W.keepIn K (.ref f) = true ∧ Binds K fd ps [] ∧ KBinds K fd ps ks g gV
theorem DefK.d {P : Program} {w : World} {K : PySem.W.Frag} {mg : Str → Option Value} {base : Heap} {nm : Str} {k : Nat} {ps ks : List Str} {sp : Sp} {g gV} (D : DefK P w K mg base nm k ps ks sp g gV) : Def P w K mg base nm k ps sp :=
  let ⟨f, fd, G, m, kp, b, _⟩ := D.ex
  ⟨f, fd, G, m, kp, b⟩
theorem pe_defN {X : Cx} {nm : Str} {k j : Nat} {ps ks : List Str} {sp : Sp} {g gV} {kws : List Keyword} {tk : TA} {p pos : Pos} (D : DefK X.prog X.w X.K X.mg X.base nm k ps ks sp g gV) (room : Room j X.A) (hkw : PK X kws tk) (hkj : k ≤ j := by decide) (hg : Gl X nm := by rfl) (hdb : (nm == ("__debug__" : Str)) = false := by decide)
    (hall : (backToKw pos (keywordEach kws X.env)).all (·.1.isSome) = true := by rfl) (hks : (backToKw pos (keywordEach kws X.env)).filterMap (·.1) = ks := by rfl)
    (hpl : ((backTo pos (starEach [] X.env)).any (·.1) || (backToKw pos (keywordEach kws X.env)).any (·.1.isNone)) = false := by rfl) :
    PE X (.Call (.Name nm p) [] kws pos) (fun σ H Q => tk σ H fun zs H2 => sp (gV [] zs) H2 Q E0) := by
  obtain ⟨f, fd, G, m, kp, b, kb⟩ := D.ex
  exact pe_names G (room.mono hkj) hg m kp kb pass0 hkw hall hks hdb hpl
abbrev gV1 : List V → List V → List V := fun us ws => match us, ws with | [], [a] => [a] | _, _ => []
abbrev gU1 : List Value → List Value → List Value := fun us ws => match us, ws with | [], [a] => [a] | _, _ => []
end T22
set_option Elab.async false
set_option linter.all false
set_option maxRecDepth 100000
set_option maxHeartbeats 4000000
namespace T22
open PySem PySem.Spec PyProof.Rows L2 Gd Zn Rp Dn Tb Gn En Zs Ct Op Oc Rg Rt
theorem r_neMx {K : PySem.W.Frag} {H : Hp} {x y : V} {M N : List (List Int)} {Q : VK} (hx : Mx H x M) (hy : Mx H y N) (q : Q (.bl (!decide (M = N))) H) : rNeD K x y H Q := by
  refine ⟨mxD M, mxD N, dp_mx hx, dp_mx hy, shaped_mx M, shaped_mx N, ?_⟩
  rw [eqv_mx]
  exact q
theorem ne_no {M N : List (List Int)} (e : M = N) : (!decide (M = N)) = false := by rw [decide_eq_true e]; rfl
theorem r_or {t u : TT} {σ : L2.St} {H : Hp} {Q : Bool → Hp → Prop} (h : t σ H fun c H1 => if c = true then Q true H1 else u σ H1 Q) : tOr t u σ H Q := h
theorem r_tt {te : TE} {σ : L2.St} {H : Hp} {Q : Bool → Hp → Prop} (h : te σ H fun x H1 => ∃ k, x = .bl k ∧ Q k H1) : tTest te σ H Q := h
theorem r_andV {ta tb : TE} {σ : L2.St} {H : Hp} {Q : VK} (h : ta σ H fun x H1 => ∃ c, x = .bl c ∧ if c = true then tb σ H1 Q else Q (.bl false) H1) : tAndV ta tb σ H Q := h
theorem a1 {sp : Sp} {E : XK} {ta : TE} {σ : L2.St} {H : Hp} {Q : VK} (h : ta σ H fun x H1 => sp [x] H1 Q E) : tCall sp [] E (tCons ta tNil) σ H Q := h
theorem a2 {sp : Sp} {E : XK} {ta tb : TE} {σ : L2.St} {H : Hp} {Q : VK} (h : ta σ H fun x H1 => tb σ H1 fun y H2 => sp [x, y] H2 Q E) : tCall sp [] E (tCons ta (tCons tb tNil)) σ H Q := h
theorem r_meth0 {C : Addr} {m : Str} {sp : Sp} {E : XK} {ta : TE} {σ : L2.St} {H : Hp} {Q : VK} (h : ta σ H fun x H1 => ∃ a dx fs, x = .ref a ∧ H1 a = some (.ins C dx fs) ∧ fs.lookup m = none ∧ sp (x :: ([] ++ [])) H1 Q E) : tMeth C m sp [] E ta tNil σ H Q := h
def sp_right : Sp := fun vs H Q _ => ∃ p, vs = [.ref p] ∧ PotOk H p ∧ ∀ H', RX (some p) H H' → Q (.bl true) H'
theorem r_tup {t : TA} {σ : L2.St} {H : Hp} {Q : VK} (h : t σ H fun xs H1 => xs.length ≤ sizeLine ∧ ∀ p, H1 p = none → Q (.ref p) (upd H1 p (.tup xs))) : tTup t σ H Q := h
theorem r_prop {C : Addr} {sp : Sp} {E : XK} {ta : TE} {σ : L2.St} {H : Hp} {Q : VK} (h : ta σ H fun x H1 => ∃ a dx fs, x = .ref a ∧ H1 a = some (.ins C dx fs) ∧ sp (.ref a :: []) H1 Q E) : tProp C sp [] E ta σ H Q := h
theorem r_par2 {i j : Nat} {ta : TA} {D : Ends} {σ : L2.St} {H : Hp} (h : ta σ H fun vs H1 => ∃ v w, vs = [v, w] ∧ D.nx ((σ.set i (some v)).set j (some w)) H1) : tPar i j ta D σ H := h
theorem shaped_row (r : List Int) : SeqAt.shaped (.tuple (r.map PyData.int)) = true := by
  unfold SeqAt.shaped
  rw [PyData.canLay0, lay_row, PyData.depth, depth_row]
  rfl
theorem r_neRow {K : PySem.W.Frag} {H : Hp} {x y : V} {r s : List Int} {Q : VK} (hx : RowV H x r) (hy : RowV H y s) (q : Q (.bl (!decide (r = s))) H) : rNeD K x y H Q := by
  obtain ⟨a, rfl, ha⟩ := hx
  obtain ⟨b, rfl, hb⟩ := hy
  refine ⟨.tuple (r.map PyData.int), .tuple (s.map PyData.int), .tup (.inl (.inl ha)) (dp_ints r), .tup (.inl (.inl hb)) (dp_ints s), shaped_row r, shaped_row s, ?_⟩
  rw [PyData.eqv, eqv_row]
  exact q
theorem ne_noR {r s : List Int} (e : r = s) : (!decide (r = s)) = false := by rw [decide_eq_true e]; rfl
theorem r_meth1 {C : Addr} {m : Str} {sp : Sp} {E : XK} {ta tb : TE} {σ : L2.St} {H : Hp} {Q : VK} (h : ta σ H fun x H1 => ∃ a dx fs, x = .ref a ∧ H1 a = some (.ins C dx fs) ∧ fs.lookup m = none ∧ tb σ H1 fun y H2 => sp [x, y] H2 Q E) : tMeth C m sp [] E ta (tCons tb tNil) σ H Q := h
theorem a3 {sp : Sp} {E : XK} {ta tb tc : TE} {σ : L2.St} {H : Hp} {Q : VK} (h : ta σ H fun x H1 => tb σ H1 fun y H2 => tc σ H2 fun z H3 => sp [x, y, z] H3 Q E) : tCall sp [] E (tCons ta (tCons tb (tCons tc tNil))) σ H Q := h
def sp_law (K : PySem.W.Frag) : Sp := fun vs H Q _ => ∃ (a : Addr) (ns : List Int), vs = [.ref a] ∧ SqL K H a (ns.map V.int) ∧ ns.length ≤ 63 ∧ ∀ H', Q (.bl true) H'
theorem count_of (l c : Nat) (hc : 1 ≤ c) : ∃ m : Nat, (if (if (l : Int) < (c : Int) then (l : Int) else (c : Int)) > 1 then (if (l : Int) < (c : Int) then (l : Int) else (c : Int)) else 1) = (m : Int) ∧ m ≤ c := by
  refine ⟨(if (if (l : Int) < (c : Int) then (l : Int) else (c : Int)) > 1 then (if (l : Int) < (c : Int) then (l : Int) else (c : Int)) else 1).toNat, ?_, ?_⟩
  · split <;> split <;> omega
  · split <;> split <;> omega
structure DefG (P : Program) (w : World) (K : PySem.W.Frag) (mg : Str → Option Value) (base : Heap) (nm : Str) (k : Nat) (ps : List Str) (sp : Sp) : Prop where
  ex : ∃ (f : Addr) (fd : FuncData), FnG P w K mg base CX0 k f fd ps sp ∧ mg nm = some (.ref f) ∧ PySem.W.keepIn K (.ref f) = true ∧ Binds K fd ps []
theorem pe_defG {X : Cx} {nm : Str} {k j : Nat} {ps : List Str} {sp : Sp} {e : Expr} {es : List Expr} {t : TA} {p pos : Pos} (D : DefG X.prog X.w X.K X.mg X.base nm k ps sp) (hst : Still X.A) (room : Room j X.A) (ha : PA X (e :: es) t) (hkj : k ≤ j := by decide) (hg : Gl X nm := by rfl)
    (hdb : (nm == ("__debug__" : Str)) = false := by decide) (he : starEach (e :: es) X.env = (false, eval e X.env) :: starEach es X.env := by rfl) (hpl : (backTo pos (starEach es X.env)).any (·.1) = false := by rfl) :
    PE X (.Call (.Name nm p) (e :: es) [] pos) (tCall sp [] E0 t) := by
  obtain ⟨f, fd, G, m, kp, b⟩ := D.ex
  exact pe_callG G hst (room.mono hkj) hg m kp b .nil pass0 ha hdb he hpl
theorem cb1 {r : List V → Hp → VK → Prop} {ta : TE} {σ : L2.St} {H : Hp} {Q : VK} (h : ta σ H fun x H1 => r [x] H1 Q) : tCB r (tCons ta tNil) σ H Q := h
theorem r_lst {t : TA} {σ : L2.St} {H : Hp} {Q : VK} (h : t σ H fun xs H1 => xs.length ≤ sizeLine ∧ ∀ p, H1 p = none → Q (.ref p) (upd H1 p (.lst xs))) : tLst t σ H Q := h
def MkA (C : Addr) (H : Hp) (x : V) (Q : VK) : Prop := ∀ z dx : Addr, H z = none → H dx = none → dx ≠ z → sp_init C (V.ref z :: ([x] ++ [])) (upd (upd H dx (.own z)) z (.ins C dx [])) (fun u H2 => u = V.non ∧ Q (.ref z) H2) E0
theorem mkA {C : Addr} {ta : TE} {σ : L2.St} {H : Hp} {Q : VK} (h : ta σ H fun x H1 => MkA C H1 x Q) : tMake C (sp_init C) [] E0 (tCons ta tNil) σ H Q := h
theorem MkA.of {C : Addr} {H : Hp} {v : V} {d : PyData} {M : List (List Int)} {n : Nat} {b : Nat} {Q : VK} (av : AnyV H v d) (g : GridD d M) (gr : Gr n M) (bd : SqE n b M) (lb : b ≤ 20000) (k : ∀ c H', Same H H' → Tv C H' (.ref c) n b M → Q (.ref c) H') : MkA C H v Q :=
  fun z dx nz nd ne => make_any (Q := Q) av g (bd.sq lb) gr.h1 gr.h3 gr.d (fun c H' s t => k c H' s ⟨t, gr, bd⟩) z dx nz nd ne
theorem n1 {sp : Sp} {ta : TE} {σ : L2.St} {H : Hp} {Q : VK} (h : ta σ H fun x H1 => sp [x] H1 Q E0) : tCons ta tNil σ H (fun zs H2 => sp (gV1 [] zs) H2 Q E0) := h
end T22
set_option Elab.async false
set_option linter.all false
set_option maxRecDepth 100000
set_option maxHeartbeats 1000000
namespace Ro
open PySem PySem.Spec PyProof.Rows L2 Gd Rp
end Ro
set_option Elab.async false
set_option linter.all false
set_option maxRecDepth 100000
set_option maxHeartbeats 4000000
set_option Elab.async false
set_option linter.all false
set_option maxRecDepth 100000
set_option maxHeartbeats 2000000
namespace T22
open PySem PySem.Spec PyProof.Rows L2 Gd Zn Rp Dn Tb Gn En Zs Ct Op Oc Rg Rt Ro
inductive GRows (H : Hp) : List (Bool × Addr) → List (List Int) → Prop
  | nil : GRows H [] []
  | lst {a : Addr} {r : List Int} {src : List (Bool × Addr)} {M : List (List Int)} : H a = some (.lst (r.map V.int)) → GRows H src M → GRows H ((false, a) :: src) (r :: M)
  | tup {a : Addr} {r : List Int} {src : List (Bool × Addr)} {M : List (List Int)} : H a = some (.tup (r.map V.int)) → GRows H src M → GRows H ((true, a) :: src) (r :: M)
theorem GRows.mono {H H' : Hp} {src : List (Bool × Addr)} {M : List (List Int)} (s : Same H H') (h : GRows H src M) : GRows H' src M := by
  induction h with
  | nil => exact .nil
  | lst e _ ih => exact .lst (s _ _ e) ih
  | tup e _ ih => exact .tup (s _ _ e) ih
theorem GRows.len {H : Hp} {src : List (Bool × Addr)} {M : List (List Int)} (h : GRows H src M) : src.length = M.length := by
  induction h with
  | nil => rfl
  | lst _ _ ih => rw [List.length_cons, List.length_cons, ih]
  | tup _ _ ih => rw [List.length_cons, List.length_cons, ih]
theorem grid_src {H : Hp} : ∀ {vx : List V} {ds : List PyData} {M : List (List Int)}, PyVs H vx ds → ds.length = M.length → (∀ (i : Nat) (d' : PyData), ds[i]? = some d' → ∃ r, M[i]? = some r ∧ (d' = .list (iD r) ∨ d' = .tuple (iD r))) → ∃ src, vx = kRefs src ∧ GRows H src M
  | _, _, [], .nil, _, _ => ⟨[], rfl, .nil⟩
  | _, _, _ :: _, .nil, l, _ => by simp at l
  | _, _, [], .cons _ _, l, _ => by simp at l
  | v :: vx, d :: ds, r :: M, .cons p q, l, h => by
    obtain ⟨src, e, g⟩ := grid_src q (Nat.succ.inj l) fun i d' e => h (i + 1) d' e
    obtain ⟨r', er, hd⟩ := h 0 d rfl
    cases er
    subst e
    rcases hd with rfl | rfl
    · cases p with
      | lst e z =>
        have ez := pyVs_ints z
        subst ez
        exact ⟨(false, _) :: src, rfl, .lst e g⟩
    · cases p with
      | tup e z =>
        have ez := pyVs_ints z
        subst ez
        exact ⟨(true, _) :: src, rfl, .tup e g⟩
theorem grow_all {K : PySem.W.Frag} {H : Hp} {j m : Nat} (hj : j < m) {src : List (Bool × Addr)} {M : List (List Int)} (h : GRows H src M) (hm : ∀ r ∈ M, r.length = m) : RowAt K H j src (M.map fun r => .int (r.getD j 0)) := by
  induction h with
  | nil => trivial
  | @lst a r src M e _ ih =>
    have hr : j < r.length := by rw [hm r List.mem_cons_self]; exact hj
    refine ⟨⟨r.map V.int, .inl (.inl e), ?_⟩, ih fun r hr => hm r (List.mem_cons_of_mem _ hr)⟩
    show _ = some (V.int (r.getD j 0))
    rw [List.getElem?_map, List.getElem?_eq_getElem hr, List.getD_eq_getElem?_getD, List.getElem?_eq_getElem hr]
    rfl
  | @tup a r src M e _ ih =>
    have hr : j < r.length := by rw [hm r List.mem_cons_self]; exact hj
    refine ⟨⟨r.map V.int, .inl (.inl e), ?_⟩, ih fun r hr => hm r (List.mem_cons_of_mem _ hr)⟩
    show _ = some (V.int (r.getD j 0))
    rw [List.getElem?_map, List.getElem?_eq_getElem hr, List.getD_eq_getElem?_getD, List.getElem?_eq_getElem hr]
    rfl
theorem gall_sq {K : PySem.W.Frag} {H : Hp} {src : List (Bool × Addr)} {M : List (List Int)} (h : GRows H src M) : AllSq K H src := by
  induction h with
  | nil => exact fun q hq => by cases hq
  | lst e _ ih =>
    intro z hz
    rcases List.mem_cons.mp hz with rfl | hz
    · exact ⟨_, .inl (.inl e)⟩
    · exact ih z hz
  | tup e _ ih =>
    intro z hz
    rcases List.mem_cons.mp hz with rfl | hz
    · exact ⟨_, .inl (.inl e)⟩
    · exact ih z hz
section
variable {P : Program} {w : World} {K : PySem.W.Frag} {mg : Str → Option Value} {base : Heap}
def sp_acrossG : Sp := fun vs H Q _ => ∃ v d M m, vs = [v] ∧ AnyV H v d ∧ GridD d M ∧ 0 < M.length ∧ M.length ≤ 3 ∧ m ≤ 100 ∧ (∀ r ∈ M, r.length = m) ∧ ∀ v' H', Same H H' → Mx H' v' (transp m M) → Q v' H'
theorem sc_acrossG : FnScope ["rows", "column"] ["rows"] (defScope st_across) := ⟨rfl, rfl, rfl, by decide +kernel, rfl, by decide +kernel, by decide +kernel⟩
theorem ok_acrossG {f : Addr} {fd : FuncData} (F : Fun K "across" "across" st_across f fd) (T : Txt mg) : FnOk P w K mg base CX0 1 f fd ["rows"] sp_acrossG := by
  refine F.ok sc_acrossG (fun vs H Q E h => ?_) (fun cdv A outer s H vs Q E hr h => ?_)
  · obtain ⟨v, d, M, m, rfl, _⟩ := h
    rfl
  · obtain ⟨v, d, M, m, rfl, av, ⟨g1, g2, g3⟩, h0, h3, hm, hM, q⟩ := h
    refine ⟨_, pss_one (ps_ret (pe_callTy (r := rTup K) c_tup (by rfl) T.tuple PyProof.Rows.boot_tuple (pa_cons (pe_lc (own := [("column", 1)]) (g := gName 1) (tt := tYes) rfl sc_acrossG.nd (pi_zipStar (by rfl) T.zip (pv 0))
        (blkOk_by (N := ["rows", "column"]) (sc := defScope st_across) (by decide +kernel))
        (fun _ _ _ _ _ => pg_name (i := 1) sc_acrossG.nd rfl (Or.inl rfl) (Or.inr rfl)) (fun _ _ _ _ _ => pts_nil)
        (fun _ _ _ _ _ => pe_callTy (r := rTup K) c_tup (by rfl) T.tuple PyProof.Rows.boot_tuple (pa_cons (pv 1) pa_nil))) pa_nil))), ?_⟩
    obtain ⟨t, a, vx, rfl, qx, px⟩ := (seq_of av g1).at K
    obtain ⟨src, rfl, hR⟩ := grid_src px g2 g3
    have hsl := hR.len
    refine r_ret (r_cb (r_cons ?_))
    refine tlc_of (Itn K src) (H1 := H) (fun R hR' => ⟨_, rfl, a, src, rfl, (sq_or (qx H (Same.refl H))).symm, by omega, by omega, gall_sq hR, hR'⟩) ?_
    refine lc_ks (p := none) m (fun i v H => ∃ r, (transp m M)[i]? = some r ∧ RowV H v r) (fun i v H H' k h => ?_) has_none (by omega) (fun i H2 hi s2 => ?_) (fun H2 s2 => ?_) (fun i x H2 H3 C hi s2 _ hy hC => ?_) fun Da H2 rs nD s2 hD hrl hE => ?_
    · obtain ⟨r, e, h⟩ := h
      exact ⟨r, e, h.mono k⟩
    · exact ⟨_, grow_all hi (hR.mono s2.same) hM⟩
    · refine ⟨gall_sq (hR.mono s2.same), ?_⟩
      cases hR with
      | nil => simp at h0
      | @lst b r src M e _ => exact ⟨_, List.mem_cons_self, _, .inl (.inl (s2.same _ _ e)), by rw [List.length_map, hM r List.mem_cons_self]; exact Nat.le_refl _⟩
      | @tup b r src M e _ => exact ⟨_, List.mem_cons_self, _, .inl (.inl (s2.same _ _ e)), by rw [List.length_map, hM r List.mem_cons_self]; exact Nat.le_refl _⟩
    · obtain ⟨T2, ys, rfl, nT, rfl, hu⟩ := hy
      have ey := (hu _ (grow_all hi (hR.mono s2.same) hM)).symm
      subst ey
      refine ⟨rfl, ?_⟩
      refine r_cb (r_cons ?_)
      refine ⟨_, rfl, ?_⟩
      refine ⟨T2, _, rfl, .inr ⟨.inl (.inl upd_same), hC _ _ (RX.new nT) ⟨_, transp_get hi, T2, rfl, ?_⟩⟩⟩
      rw [upd_same, List.map_map]
      rfl
    · refine ⟨Da, rs, rfl, .inl ⟨.inl (.inl hD), fun l nl => ?_⟩⟩
      have k : Same H2 (upd H2 l (.tup rs)) := same_new nl
      refine q _ _ (s2.same.trans k) ⟨l, rs, rfl, upd_same, ?_⟩
      exact (rows_of (by rw [hrl, transp_len]) hE).mono (KS.of k)
end
abbrev st_F (i : Nat) : Stmt := inClass (top 37) i
structure Fcl (K : PySem.W.Frag) (mg : Str → Option Value) (C : Addr) : Prop where
  cl : Cls K C
  nR : NoAttr K C "_rows"
  mgC : mg "Form" = some (.ref C)
  cc : PySem.W.findIn K (.ref C) "__class__" = some (some (.builtin "object.__class__"))
  cg : PySem.W.specialIn K (.builtin "object.__class__") "__get__" = some (some (.builtin "getset_descriptor.__get__"))
  ct : PySem.W.takesIn K (.builtin "object.__class__") = some true
  cm : PySem.W.mroIn K C (.type "object") = some true
theorem Fcl.ty {K : PySem.W.Frag} {mg : Str → Option Value} {C : Addr} (T : Fcl K mg C) {H : Hp} {p dx : Addr} {fs : List (Str × V)} (h : H p = some (.ins C dx fs)) : TyX K H (.ref p) (.ref C) := .base (.ins h T.cl T.cc T.cg T.ct T.cm)
/-- rows that are the same across -/
structure Sy (n : Nat) (M : List (List Int)) : Prop where
  sq : Sq n M
  h1 : 1 ≤ n
  h3 : n ≤ 3
  eq : transp n M = M
section
variable {P : Program} {w : World} {K : PySem.W.Frag} {mg : Str → Option Value} {base : Heap} {C D : Addr}
def sp_initF (C : Addr) : Sp := fun vs H Q _ => ∃ p dx v d M n, vs = [.ref p, v] ∧ H p = some (.ins C dx []) ∧ AnyV H v d ∧ GridD d M ∧ Sy n M ∧
  ∀ H', (∀ c o, c ≠ p → H c = some o → H' c = some o) → Tab C H' (.ref p) M → Q .non H'
theorem sc_initF : FnScope ["self", "rows"] ["self", "rows"] (defScope (st_F 0)) := ⟨rfl, rfl, rfl, by decide +kernel, rfl, by decide +kernel, by decide +kernel⟩
theorem ok_initF {f : Addr} {fd : FuncData} (F : Fun K "__init__" "Form.__init__" (st_F 0) f fd) (T : Txt mg) (Fc : Fcl K mg C) (D1 : Def P w K mg base "is_grid" 4 ["value"] sp_is_grid) (D2 : Def P w K mg base "copied" 1 ["rows"] sp_copied)
    (D3 : Def P w K mg base "across" 1 ["rows"] sp_acrossG) : FnOk P w K mg base CX0 8 f fd ["self", "rows"] (sp_initF C) := by
  refine F.ok sc_initF (fun vs H Q E h => ?_) (fun cdv A outer s H vs Q E hr h => ?_)
  · obtain ⟨p, dx, v, d, M, n, rfl, _⟩ := h
    rfl
  · obtain ⟨p, dx, v, d, M, n, rfl, hp, av, g, ⟨hS, h1, h3, he⟩, q⟩ := h
    obtain ⟨gt, gl⟩ := grid_true g h1 h3 hS
    refine ⟨_, pss_cons (ps_if (PW.pt (pw_or (pt_not (pt_val (pe_def D1 hr (pa_cons (pv 1) pa_nil)))) (pw_or1 (pt_cmpR (op_neD hr.units) (pe_def D2 hr (pa_cons (pv 1) pa_nil)) (pe_def D3 hr (pa_cons (pv 1) pa_nil)) (nomark _))))) pss_dead pss_nil)
      (pss_one (ps_fld (pv 0) (pe_def D2 hr (pa_cons (pv 1) pa_nil)) rfl)), ?_⟩
    have hl : (items d).length = n := by rw [g.2.1]; exact hS.len
    refine r_seq (r_if (r_or (r_not (r_tt (a1 ⟨_, rfl, v, d, rfl, av, by omega, fun r hr => by rw [gl r hr]; omega, fun H1 s1 => ⟨_, rfl, ?_⟩⟩)))))
    rw [gt]
    refine iteF ?_
    refine r_tt (r_op (a1 ⟨_, rfl, v, d, M, rfl, av.mono s1, g, by rw [hS.len]; omega, fun v2 H2 s2 hM => ?_⟩))
    refine a1 ⟨_, rfl, v, d, M, n, rfl, (av.mono s1).mono s2, g, by rw [hS.len]; omega, by rw [hS.len]; omega, by omega, hS.row, fun v3 H3 s3 hM3 => ?_⟩
    rw [he] at hM3
    refine r_neMx (hM.mono (KS.of s3)) hM3 ⟨_, rfl, ?_⟩
    rw [ne_no rfl]
    refine iteF ?_
    have S3 := s1.trans (s2.trans s3)
    refine ⟨_, rfl, v, d, M, rfl, av.mono S3, g, by rw [hS.len]; omega, fun v4 H4 s4 hM4 => ?_⟩
    have S4 := S3.trans s4
    refine ⟨_, rfl, p, C, dx, [], rfl, S4 _ _ hp, Fc.cl, Fc.nR, (by show 0 < 1000; decide), ?_⟩
    refine q _ (fun c o hc e => ?_) ?_
    · rw [upd_ne hc]
      exact S4 _ _ e
    · refine ⟨p, dx, v4, rfl, upd_same, T22.Mx.tup_mono (fun c xs e => ?_) hM4⟩
      have nc : c ≠ p := fun z => by
        subst z
        have := S4 _ _ hp
        rw [e] at this
        cases this
      rw [upd_ne nc]
      exact e
end
end T22
set_option Elab.async false
set_option linter.all false
set_option maxRecDepth 100000
set_option maxHeartbeats 4000000
namespace T22
open PySem PySem.Spec PyProof.Rows L2 Gd Zn Rp Dn Tb Gn En Zs Ct Op Oc Rg Rt Ro
def btwM (M : List (List Int)) (x y : List Int) : Int := dot x (ledM M y)
def mulI (c : Int) (M : List (List Int)) : List (List Int) := M.map fun r => r.map fun x => c * x
def ldM (n : Nat) (G P : List (List Int)) : List (List Int) := mulM n (mulM n (transp n P) G) P
theorem trE1 (a : Int) : transp 1 [[a]] = [[a]] := rfl
theorem trE2 (a b c d : Int) : transp 2 [[a, b], [c, d]] = [[a, c], [b, d]] := rfl
theorem trE3 (a b c d e f g h i : Int) : transp 3 [[a, b, c], [d, e, f], [g, h, i]] = [[a, d, g], [b, e, h], [c, f, i]] := rfl
theorem tr_sh {n : Nat} {M : List (List Int)} (h : Sh n M) (h1 : 1 ≤ n) (h3 : n ≤ 3) : Sh n (transp n M) := by
  have : n = 1 ∨ n = 2 ∨ n = 3 := by omega
  rcases this with rfl | rfl | rfl
  · obtain ⟨a, rfl⟩ := sh1 h rfl
    exact sh_mk1 _
  · obtain ⟨a, b, c, d, rfl⟩ := sh2 h rfl
    exact sh_mk2 _ _ _ _
  · obtain ⟨a, b, c, d, e, f, g, h', i, rfl⟩ := sh3 h rfl
    exact sh_mk3 _ _ _ _ _ _ _ _ _
theorem sy2 {M : List (List Int)} (h : Sh 2 M) (e : transp 2 M = M) : ∃ a b c, M = [[a, b], [b, c]] := by
  obtain ⟨a, b, c, d, rfl⟩ := sh2 h rfl
  rw [trE2] at e
  simp only [List.cons.injEq, and_true, true_and] at e
  obtain ⟨e, _⟩ := e
  subst e
  exact ⟨a, c, d, rfl⟩
theorem sy3 {M : List (List Int)} (h : Sh 3 M) (e : transp 3 M = M) : ∃ a b c d e f, M = [[a, b, c], [b, d, e], [c, e, f]] := by
  obtain ⟨a, b, c, d, e', f, g, h', i, rfl⟩ := sh3 h rfl
  rw [trE3] at e
  simp only [List.cons.injEq, and_true, true_and] at e
  obtain ⟨⟨e1, e2⟩, ⟨_, e3⟩, _⟩ := e
  subst e1 e2 e3
  exact ⟨a, d, g, e', h', i, rfl⟩
theorem ld_sh {n : Nat} {G P : List (List Int)} (h1 : 1 ≤ n) (h3 : n ≤ 3) (hG : Sh n G) (hP : Sh n P) : Sh n (ldM n G P) := mul_sh h1 h3 (mul_sh h1 h3 (tr_sh hP h1 h3) hG) hP
theorem ld_sy {n : Nat} {G P : List (List Int)} (h1 : 1 ≤ n) (h3 : n ≤ 3) (hG : Sh n G) (hP : Sh n P) (e : transp n G = G) : transp n (ldM n G P) = ldM n G P := by
  have : n = 1 ∨ n = 2 ∨ n = 3 := by omega
  unfold ldM
  rcases this with rfl | rfl | rfl
  · obtain ⟨a, rfl⟩ := sh1 hG rfl
    obtain ⟨b, rfl⟩ := sh1 hP rfl
    rfl
  · obtain ⟨a, b, c, rfl⟩ := sy2 hG e
    obtain ⟨p, q, r, s, rfl⟩ := sh2 hP rfl
    rw [trE2, mulE2, mulE2, trE2]
    simp only [List.cons.injEq, and_true, true_and]
    constructor <;> grind
  · obtain ⟨a, b, c, d, e, f, rfl⟩ := sy3 hG e
    obtain ⟨p, q, r, s, t, u, v, w, x, rfl⟩ := sh3 hP rfl
    rw [trE3, mulE3, mulE3, trE3]
    simp only [List.cons.injEq, and_true, true_and]
    refine ⟨⟨?_, ?_⟩, ⟨?_, ?_⟩, ?_, ?_⟩ <;> grind
theorem SqE.tr {n k : Nat} {M : List (List Int)} (h : SqE n k M) (h1 : 1 ≤ n) (h3 : n ≤ 3) : SqE n k (transp n M) := by
  have s := tr_sh h.sh h1 h3
  refine ⟨s.len, s.row, fun r hr x hx => ?_⟩
  unfold transp at hr
  obtain ⟨j, hj, rfl⟩ := List.mem_map.mp hr
  have hj : j < n := by simpa using hj
  obtain ⟨r', hr', rfl⟩ := List.mem_map.mp hx
  have l := h.row r' hr'
  refine h.bd r' hr' _ ?_
  rw [List.getD_eq_getElem?_getD, List.getElem?_eq_getElem (by omega : j < r'.length)]
  exact List.getElem_mem _
theorem SqE.ld {n k l : Nat} {G P : List (List Int)} (hG : SqE n k G) (hP : SqE n l P) (h1 : 1 ≤ n) (h3 : n ≤ 3) : SqE n ((l + k + 2) + l + 2) (ldM n G P) := ((hP.tr h1 h3).mul hG h1 h3).mul hP h1 h3
/-- rows with bits -/
def Rb (k : Nat) (xs : List Int) : Prop := ∀ x ∈ xs, x.natAbs < 2 ^ k
theorem Rb.mono {k l : Nat} {xs : List Int} (h : Rb k xs) (e : k ≤ l) : Rb l xs := fun x hx => Wd.abs_mono (h x hx) e
theorem Rb.small {k : Nat} {xs : List Int} (h : Rb k xs) (e : k ≤ 20000) : ∀ x ∈ xs, Small x := fun x hx => ⟨k, e, h x hx⟩
theorem led_len {M : List (List Int)} {xs : List Int} : (ledM M xs).length = M.length := by unfold ledM; rw [List.length_map]
/-- a Form in the heap, with the bits of its numbers -/
structure Fv (C : Addr) (H : Hp) (x : V) (n : Nat) (b : Nat) (M : List (List Int)) : Prop where
  tab : Tab C H x M
  h1 : 1 ≤ n
  h3 : n ≤ 3
  eq : transp n M = M
  bd : SqE n b M
theorem Fv.same {C : Addr} {H H' : Hp} {x : V} {n : Nat} {b : Nat} {M : List (List Int)} (h : Fv C H x n b M) (s : Same H H') : Fv C H' x n b M := ⟨T22.Tab.same s h.tab, h.h1, h.h3, h.eq, h.bd⟩
theorem Fv.ks {C : Addr} {H H' : Hp} {x : V} {n : Nat} {b : Nat} {M : List (List Int)} (h : Fv C H x n b M) (s : KS H H') : Fv C H' x n b M := ⟨T22.Tab.mono s h.tab, h.h1, h.h3, h.eq, h.bd⟩
theorem Fv.len {C : Addr} {H : Hp} {x : V} {n b : Nat} {M : List (List Int)} (h : Fv C H x n b M) : M.length = n := h.bd.len
theorem make_frm {C : Addr} {H : Hp} {v : V} {d : PyData} {M : List (List Int)} {n : Nat} {Q : VK} {E : XK} (av : AnyV H v d) (g : GridD d M) (hS : Sy n M)
    (k : ∀ c H', Same H H' → Tab C H' (.ref c) M → Q (.ref c) H') : ∀ x dx : Addr, H x = none → H dx = none → dx ≠ x → sp_initF C (V.ref x :: ([v] ++ [])) (upd (upd H dx (.own x)) x (.ins C dx [])) (fun u H2 => u = V.non ∧ Q (.ref x) H2) E := by
  intro x dx nx nd ne
  have s : Same H (upd (upd H dx (.own x)) x (.ins C dx [])) := fun c o e => by
    rw [upd_ne (ne_of_none e nx), upd_ne (ne_of_none e nd)]
    exact e
  refine ⟨x, dx, v, d, M, n, rfl, upd_same, av.mono s, g, hS, fun H' kp ht => ⟨rfl, k x H' (fun c o e => ?_) ht⟩⟩
  exact kp c o (ne_of_none e nx) (s c o e)
structure MkrF (P : Program) (w : World) (K : PySem.W.Frag) (mg : Str → Option Value) (base : Heap) (C : Addr) : Prop where
  ex : ∃ (f : Addr) (fd : FuncData), Mk K C f ∧ FnOk P w K mg base CX0 8 f fd ["self", "rows"] (sp_initF C) ∧ Binds K fd ["self", "rows"] []
theorem pe_mkrF {X : Cx} {C : Addr} {j : Nat} {e : Expr} {t : TA} {p pos : Pos} (D : MkrF X.prog X.w X.K X.mg X.base C) (Fc : Fcl X.K X.mg C) (room : Room j X.A) (ha : PA X [e] t) (hkj : 9 ≤ j := by decide) (hg : Gl X "Form" := by rfl)
    (he : starEach [e] X.env = (false, eval e X.env) :: starEach [] X.env := by rfl) (hpl : (backTo pos (starEach [] X.env)).any (·.1) = false := by rfl) :
    PE X (.Call (.Name "Form" p) [e] [] pos) (tMake C (sp_initF C) [] E0 t) := by
  obtain ⟨f, fd, m, G, b⟩ := D.ex
  exact pe_make m G (room.mono hkj) hg Fc.mgC b .nil pass0 ha (by decide +kernel) he hpl
def MkF (C : Addr) (H : Hp) (x : V) (Q : VK) : Prop := ∀ z dx : Addr, H z = none → H dx = none → dx ≠ z → sp_initF C (V.ref z :: ([x] ++ [])) (upd (upd H dx (.own z)) z (.ins C dx [])) (fun u H2 => u = V.non ∧ Q (.ref z) H2) E0
theorem mkF {C : Addr} {ta : TE} {σ : L2.St} {H : Hp} {Q : VK} (h : ta σ H fun x H1 => MkF C H1 x Q) : tMake C (sp_initF C) [] E0 (tCons ta tNil) σ H Q := h
theorem MkF.of {C : Addr} {H : Hp} {v : V} {d : PyData} {M : List (List Int)} {n : Nat} {b : Nat} {Q : VK} (av : AnyV H v d) (g : GridD d M) (h1 : 1 ≤ n) (h3 : n ≤ 3) (e : transp n M = M) (bd : SqE n b M) (lb : b ≤ 20000) (k : ∀ c H', Same H H' → Fv C H' (.ref c) n b M → Q (.ref c) H') : MkF C H v Q :=
  fun z dx nz nd ne => make_frm (Q := Q) av g ⟨bd.sq lb, h1, h3, e⟩ (fun c H' s t => k c H' s ⟨t, h1, h3, e, bd⟩) z dx nz nd ne
section
variable {P : Program} {w : World} {K : PySem.W.Frag} {mg : Str → Option Value} {base : Heap} {C D : Addr}
theorem sc_rowsF : FnScope ["self"] ["self"] (defScope (st_F 1)) := ⟨rfl, rfl, rfl, by decide +kernel, rfl, by decide +kernel, by decide +kernel⟩
theorem ok_rowsF {f : Addr} {fd : FuncData} (F : Fun K "rows" "Form.rows" (st_F 1) f fd) (Fc : Fcl K mg C) : FnOk P w K mg base CX0 1 f fd ["self"] (sp_rows C) := by
  refine F.ok sc_rowsF (fun vs H Q E h => ?_) (fun cdv A outer s H vs Q E hr h => ?_)
  · obtain ⟨v, M, rfl, _⟩ := h
    rfl
  · obtain ⟨v, M, rfl, ⟨p, dx, r, rfl, hp, hM⟩, q⟩ := h
    refine ⟨_, pss_one (ps_ret (pe_fld (pv 0) rfl)), ?_⟩
    exact ⟨_, rfl, p, C, dx, _, _, rfl, hp, Fc.cl, Fc.nR, fldsT_rows _, q r hM⟩
theorem sc_sizeF : FnScope ["self"] ["self"] (defScope (st_F 2)) := ⟨rfl, rfl, rfl, by decide +kernel, rfl, by decide +kernel, by decide +kernel⟩
theorem ok_sizeF {f : Addr} {fd : FuncData} (F : Fun K "size" "Form.size" (st_F 2) f fd) (T : Txt mg) (Fc : Fcl K mg C) : FnOk P w K mg base CX0 1 f fd ["self"] (sp_size C) := by
  refine F.ok sc_sizeF (fun vs H Q E h => ?_) (fun cdv A outer s H vs Q E hr h => ?_)
  · obtain ⟨v, M, rfl, _⟩ := h
    rfl
  · obtain ⟨v, M, rfl, ⟨p, dx, r, rfl, hp, a, vx, rfl, ha, hR⟩, q⟩ := h
    refine ⟨_, pss_one (ps_ret (pe_callB (r := Dn.rLen K) c_len (by rfl) T.len PySem.boot_len (pa_cons (pe_fld (pv 0) rfl) pa_nil))), ?_⟩
    refine ⟨_, rfl, p, C, dx, _, _, rfl, hp, Fc.cl, Fc.nR, fldsT_rows _, a, vx, rfl, .inr (.inl (.inl ha)), ?_⟩
    rw [hR.len]
    exact q
theorem sc_detF : FnScope ["self"] ["self"] (defScope (st_F 3)) := ⟨rfl, rfl, rfl, by decide +kernel, rfl, by decide +kernel, by decide +kernel⟩
theorem ok_detF {f : Addr} {fd : FuncData} (F : Fun K "determinant" "Form.determinant" (st_F 3) f fd) (Fc : Fcl K mg C) (D1 : ∀ n, Def P w K mg base "determinant_of" (2 * n + 1) ["rows"] (sp_det n)) : FnOk P w K mg base CX0 8 f fd ["self"] (sp_detP C) := by
  refine F.ok sc_detF (fun vs H Q E h => ?_) (fun cdv A outer s H vs Q E hr h => ?_)
  · obtain ⟨v, M, n, rfl, _⟩ := h
    rfl
  · obtain ⟨v, M, n, rfl, ⟨p, dx, r, rfl, hp, hM⟩, hS, h3, q⟩ := h
    refine ⟨_, pss_one (ps_ret (pe_def (D1 n) hr (pa_cons (pe_fld (pv 0) rfl) pa_nil) (by omega))), ?_⟩
    exact ⟨_, rfl, p, C, dx, _, _, rfl, hp, Fc.cl, Fc.nR, fldsT_rows _, r, M, rfl, hM, by omega, hS, q⟩
theorem sc_eqF : FnScope ["self", "other"] ["self", "other"] (defScope (st_F 4)) := ⟨rfl, rfl, rfl, by decide +kernel, rfl, by decide +kernel, by decide +kernel⟩
theorem ok_eqF {f : Addr} {fd : FuncData} (F : Fun K "__eq__" "Form.__eq__" (st_F 4) f fd) (T : Txt mg) (Fc : Fcl K mg C) : FnOk P w K mg base CX0 1 f fd ["self", "other"] (sp_eqT C) := by
  refine F.ok sc_eqF (fun vs H Q E h => ?_) (fun cdv A outer s H vs Q E hr h => ?_)
  · obtain ⟨v, o, M, N, rfl, _⟩ := h
    rfl
  · obtain ⟨v, o, M, N, rfl, hv, ho, q⟩ := h
    refine ⟨_, pss_one (ps_ret (pe_and (pe_callB (r := rIsi K) call_isi (by rfl) T.isi boot_isinstance (pa_cons (pv 1) (pa_cons (pe_glob (v := .ref C) (by rfl) Fc.mgC rfl) pa_nil)))
      (pe_one (pe_cmpR (op_eqD hr.units) (pe_fld (pv 0) rfl) (pe_fld (pv 1) rfl) (nomark _))))), ?_⟩
    obtain ⟨p, dx, r, rfl, hp, hM⟩ := id hv
    obtain ⟨p2, dx2, r2, rfl, hp2, hN⟩ := id ho
    refine ⟨_, rfl, .ref p2, .ref C, _, _, _, rfl, .own C, Fc.ty hp2, kit_own K C, _, rfl, ?_⟩
    refine iteT ?_
    refine ⟨_, rfl, p, C, dx, _, _, rfl, hp, Fc.cl, Fc.nR, fldsT_rows _, ?_⟩
    refine ⟨_, rfl, p2, C, dx2, _, _, rfl, hp2, Fc.cl, Fc.nR, fldsT_rows _, ?_⟩
    exact r_eqMx hM hN q
abbrev st_check_form : Stmt := top 38
def sp_check_form (C : Addr) : Sp := fun vs H Q _ => ∃ v M, vs = [v] ∧ Tab C H v M ∧ Q .non H
theorem sc_check_form : FnScope ["form"] ["form"] (defScope st_check_form) := ⟨rfl, rfl, rfl, by decide +kernel, rfl, by decide +kernel, by decide +kernel⟩
theorem ok_check_form {f : Addr} {fd : FuncData} (F : Fun K "check_form" "check_form" st_check_form f fd) (T : Txt mg) (Fc : Fcl K mg C) :
    FnOk P w K mg base CX0 1 f fd ["form"] (sp_check_form C) := by
  refine F.ok sc_check_form (fun vs H Q E h => ?_) (fun cdv A outer s H vs Q E hr h => ?_)
  · obtain ⟨v, M, rfl, _⟩ := h
    rfl
  · obtain ⟨v, M, rfl, ⟨p, dx, r, rfl, hp, hM⟩, q⟩ := h
    refine ⟨_, pss_one (ps_if (pt_not (pt_val (pe_callB (r := rIsi K) call_isi (by rfl) T.isi boot_isinstance (pa_cons (pv 0) (pa_cons (pe_glob (v := .ref C) (by rfl) Fc.mgC rfl) pa_nil))))) pss_dead pss_nil), ?_⟩
    refine ⟨_, rfl, .ref p, .ref C, _, _, _, rfl, .own C, Fc.ty hp, kit_own K C, _, rfl, ?_⟩
    exact iteF q
def sp_check_alike2 (C D : Addr) : Sp := fun vs H Q _ => ∃ v o M N, vs = [v, o] ∧ Tab C H v M ∧ Tab D H o N ∧ M.length = N.length ∧ Q .non H
theorem ok_check_alike2 {f : Addr} {fd : FuncData} (F : Fun K "check_alike" "check_alike" st_check_alike f fd) (cC : Cls K C) (cD : Cls K D) (D1 : Prp P w K mg base C "size" 1 (sp_size C)) (D2 : Prp P w K mg base D "size" 1 (sp_size D)) : FnOk P w K mg base CX0 3 f fd ["one", "other"] (sp_check_alike2 C D) := by
  refine F.ok sc_check_alike (fun vs H Q E h => ?_) (fun cdv A outer s H vs Q E hr h => ?_)
  · obtain ⟨v, o, M, N, rfl, _⟩ := h
    rfl
  · obtain ⟨v, o, M, N, rfl, hv, ho, e, q⟩ := h
    refine ⟨_, pss_one (ps_if (pt_cmpR op_ne (pe_prp D1 cC hr (pv 0)) (pe_prp D2 cD hr (pv 1)) (nomark _)) pss_dead pss_nil), ?_⟩
    obtain ⟨p, dx, r, rfl, hp, hM⟩ := id hv
    obtain ⟨p2, dx2, r2, rfl, hp2, hM2⟩ := id ho
    refine ⟨_, rfl, p, dx, _, rfl, hp, _, M, rfl, hv, ?_⟩
    refine ⟨_, rfl, p2, dx2, _, rfl, hp2, _, N, rfl, ho, ?_⟩
    refine ⟨rfl, _, rfl, ?_⟩
    rw [show (!decide (V.int (M.length : Int) = V.int (N.length : Int))) = false by rw [e]; simp]
    exact iteF q
def sp_led (C D : Addr) : Sp := fun vs H Q _ => ∃ v o G M, ∃ n b c : Nat, vs = [v, o] ∧ Fv C H v n b G ∧ Tv D H o n c M ∧ b ≤ 2000 ∧ c ≤ 2000 ∧ ∀ d H', Same H H' → Fv C H' (.ref d) n ((c + b + 2) + c + 2) (ldM n G M) → Q (.ref d) H'
theorem sc_led : FnScope ["self", "table"] ["self", "table"] (defScope (st_F 10)) := ⟨rfl, rfl, rfl, by decide +kernel, rfl, by decide +kernel, by decide +kernel⟩
theorem ok_led {f : Addr} {fd : FuncData} (F : Fun K "led" "Form.led" (st_F 10) f fd) (Fc : Fcl K mg C) (Tc : Tcl K mg D) (D1 : Def P w K mg base "check_table" 1 ["table"] (sp_check_table D)) (D2 : Def P w K mg base "check_alike" 3 ["one", "other"] (sp_check_alike2 C D))
    (D3 : Def P w K mg base "multiplied" 3 ["rows", "others"] sp_multiplied) (D4 : Def P w K mg base "across" 1 ["rows"] sp_across) (D5 : MkrF P w K mg base C) (D6 : Prp P w K mg base D "rows" 1 (sp_rows D)) : FnOk P w K mg base CX0 10 f fd ["self", "table"] (sp_led C D) := by
  refine F.ok sc_led (fun vs H Q E h => ?_) (fun cdv A outer s H vs Q E hr h => ?_)
  · obtain ⟨v, o, G, M, n, b, c, rfl, _⟩ := h
    rfl
  · obtain ⟨v, o, G, M, n, b, c, rfl, hv, ho, lb, lc, q⟩ := h
    refine ⟨_, pss_cons (ps_expr (pe_def D1 hr (pa_cons (pv 1) pa_nil)))
      (pss_cons (ps_expr (pe_def D2 hr (pa_cons (pv 0) (pa_cons (pv 1) pa_nil))))
      (pss_one (ps_ret (pe_mkrF D5 Fc hr (pa_cons (pe_def D3 hr (pa_cons (pe_def D3 hr (pa_cons (pe_def D4 hr (pa_cons (pe_prp D6 Tc.cl hr (pv 1)) pa_nil)) (pa_cons (pe_fld (pv 0) rfl) pa_nil))) (pa_cons (pe_prp D6 Tc.cl hr (pv 1)) pa_nil))) pa_nil))))), ?_⟩
    have h1 := hv.h1
    have h3 := hv.h3
    have sG := hv.bd
    have sM := ho.bd
    have sT := sM.tr h1 h3
    have sTG := sT.mul sG h1 h3
    refine ⟨_, rfl, o, M, rfl, ho.tab, ?_⟩
    refine ⟨_, rfl, _, rfl, v, o, G, M, rfl, hv.tab, ho.tab, by rw [sG.len, sM.len], ?_⟩
    obtain ⟨p, dx, r, rfl, hp, hG⟩ := id hv.tab
    obtain ⟨p2, dx2, r2, rfl, hp2, hM⟩ := id ho.tab
    have q1 := sM.sq (by omega)
    have q2 := sG.sq (by omega)
    have q3 := sT.sq (by omega)
    have q4 := sTG.sq (by omega)
    refine r_nret (mkF (a2 (a2 (a1 ?_))))
    refine ⟨_, rfl, p2, dx2, _, rfl, hp2, _, M, rfl, ho.tab, fun r3 m3 => ?_⟩
    refine ⟨r3, M, n, rfl, m3, by rw [sM.len]; omega, by rw [sM.len]; omega, by omega, sM.row, fun v4 H4 s4 m4 => ?_⟩
    refine ⟨_, rfl, p, C, dx, _, _, rfl, s4 _ _ hp, Fc.cl, Fc.nR, fldsT_rows _, ?_⟩
    refine ⟨v4, r, transp n M, G, n, rfl, m4, hG.mono (KS.of s4), by rw [sT.len]; omega, by rw [sG.len]; omega, by rw [sG.len]; omega, by omega, fun c hc => ⟨by rw [q3.row c hc, sG.len], q3.small c hc⟩, fun c hc => ⟨q2.row c hc, q2.small c hc⟩, fun v5 H5 s5 m5 => ?_⟩
    have S5 := s4.trans s5
    refine ⟨_, rfl, p2, dx2, _, rfl, S5 _ _ hp2, _, M, rfl, T22.Tab.same S5 ho.tab, fun r6 m6 => ?_⟩
    refine ⟨v5, r6, mulM n (transp n M) G, M, n, rfl, m5, m6, by rw [sTG.len]; omega, by rw [sM.len]; omega, by rw [sM.len]; omega, by omega, fun c hc => ⟨by rw [q4.row c hc, sM.len], q4.small c hc⟩, fun c hc => ⟨q1.row c hc, q1.small c hc⟩, fun v7 H7 s7 m7 => ?_⟩
    exact MkF.of (.inl m7.py) (grid_mx _) h1 h3 (ld_sy h1 h3 sG.sh sM.sh hv.eq) (sG.ld sM h1 h3) (by omega) fun d H8 s8 f8 => q d H8 (S5.trans (s7.trans s8)) f8
end
end T22
set_option Elab.async false
set_option linter.all false
set_option maxRecDepth 100000
set_option maxHeartbeats 1000000
namespace Oa
open PySem PySem.Spec PyProof.Rows L2 Op
end Oa
set_option Elab.async false
set_option linter.all false
set_option maxRecDepth 100000
set_option maxHeartbeats 4000000
namespace T22
open PySem PySem.Spec PyProof.Rows L2 Gd Zn Rp Dn Tb Gn En Zs Ct Op Oc Rg Rt Ro Oa
theorem mulI_get {c : Int} {M : List (List Int)} {i : Nat} {r : List Int} (h : M[i]? = some r) : (mulI c M)[i]? = some (r.map fun x => c * x) := by
  unfold mulI
  rw [List.getElem?_map, h]
  rfl
theorem mulI_sh {n : Nat} {c : Int} {M : List (List Int)} (hM : Sh n M) : Sh n (mulI c M) := by
  refine ⟨by unfold mulI; rw [List.length_map, hM.len], fun r hr => ?_⟩
  unfold mulI at hr
  obtain ⟨a, h, rfl⟩ := List.mem_map.mp hr
  rw [List.length_map, hM.row a h]
theorem SqE.mulI {n k l : Nat} {c : Int} {M : List (List Int)} (hM : SqE n k M) (hc : c.natAbs < 2 ^ l) : SqE n (l + k) (mulI c M) := by
  have s := mulI_sh (c := c) hM.sh
  refine ⟨s.len, s.row, fun r hr x hx => ?_⟩
  unfold T22.mulI at hr
  obtain ⟨a, h, rfl⟩ := List.mem_map.mp hr
  obtain ⟨y, hy, rfl⟩ := List.mem_map.mp hx
  exact Wd.abs_mul hc (hM.bd a h y hy)
theorem mulI_sy {n : Nat} {c : Int} {M : List (List Int)} (h1 : 1 ≤ n) (h3 : n ≤ 3) (hM : Sh n M) (e : transp n M = M) : transp n (mulI c M) = mulI c M := by
  have : n = 1 ∨ n = 2 ∨ n = 3 := by omega
  rcases this with rfl | rfl | rfl
  · obtain ⟨a, rfl⟩ := sh1 hM rfl
    rfl
  · obtain ⟨a, b, c, rfl⟩ := sy2 hM e
    rfl
  · obtain ⟨a, b, c, d, e, f, rfl⟩ := sy3 hM e
    rfl
theorem getD_of {M : List (List Int)} {i : Nat} {r : List Int} (h : M[i]? = some r) : M.getD i [] = r := by
  rw [List.getD_eq_getElem?_getD, h]
  rfl
end T22
set_option Elab.async false
set_option linter.all false
set_option maxRecDepth 100000
set_option maxHeartbeats 4000000
namespace T22
open PySem PySem.Spec PyProof.Rows L2 Gd Zn Rp Dn Tb Gn En Zs Ct Op Oc Rg Rt Ro Oa
theorem lm_at {H : Hp} {v : V} {M : List (List Int)} (h : PyV H v (lmD M)) : ∃ (a : Addr) (bs : List Addr), v = .ref a ∧ H a = some (.lst (bs.map V.ref)) ∧ bs.length = M.length ∧ ∀ (i : Nat) (b : Addr), bs[i]? = some b → H b = some (.lst ((M.getD i []).map V.int)) := by
  unfold lmD at h
  cases h with
  | @lst a vs _ e q =>
    have : ∃ bs : List Addr, vs = bs.map V.ref ∧ bs.length = M.length ∧ ∀ (i : Nat) (b : Addr), bs[i]? = some b → H b = some (.lst ((M.getD i []).map V.int)) := by
      clear e
      induction M generalizing vs with
      | nil =>
        cases q
        exact ⟨[], rfl, rfl, fun i b e => by simp at e⟩
      | cons r M ih =>
        cases q with
        | cons p q =>
          obtain ⟨bs, rfl, l, hb⟩ := ih q
          cases p with
          | @lst b ws _ e z =>
            have ez := pyVs_ints z
            subst ez
            refine ⟨b :: bs, rfl, by rw [List.length_cons, List.length_cons, l], fun i c ec => ?_⟩
            cases i with
            | zero => cases ec; exact e
            | succ i => exact hb i c ec
    obtain ⟨bs, rfl, l, hb⟩ := this
    exact ⟨a, bs, rfl, e, l, hb⟩
theorem lm_of {H : Hp} {a : Addr} {bs : List Addr} {M : List (List Int)} (e : H a = some (.lst (bs.map V.ref))) (l : bs.length = M.length) (h : ∀ (i : Nat) (b : Addr), bs[i]? = some b → H b = some (.lst ((M.getD i []).map V.int))) : PyV H (.ref a) (lmD M) :=
  py_lm e (by rw [List.length_map, l]) fun i v ev => by
    rw [List.getElem?_map] at ev
    cases hb : bs[i]? with
    | none => rw [hb] at ev; cases ev
    | some b => rw [hb] at ev; cases ev; exact ⟨b, rfl, h i b hb⟩
theorem li_at {H : Hp} {v : V} {xs : List Int} (h : PyV H v (.list (iD xs))) : ∃ a, v = .ref a ∧ H a = some (.lst (xs.map V.int)) := by
  cases h with
  | @lst a vs _ e q =>
    have ez := pyVs_ints q
    subst ez
    exact ⟨a, rfl, e⟩
theorem li_of {H : Hp} {a : Addr} {xs : List Int} (h : H a = some (.lst (xs.map V.int))) : PyV H (.ref a) (.list (iD xs)) := .lst h (py_ints xs)
theorem getD_row {n : Nat} {M : List (List Int)} (h : Sh n M) {i : Nat} (hi : i < n) : (M.getD i []).length = n := h.row _ (getD_mem (by rw [h.len]; exact hi))
theorem ixL {xs : List Int} {j : Nat} (h : j < xs.length) : atI (xs.map V.int) (j : Int) = some (.int (xs.getD j 0)) := atI_nat (by
  rw [List.getElem?_map, List.getElem?_eq_getElem h, List.getD_eq_getElem?_getD, List.getElem?_eq_getElem h]
  rfl)
theorem ixR {bs : List Addr} {j : Nat} {b : Addr} (h : bs[j]? = some b) : atI (bs.map V.ref) (j : Int) = some (.ref b) := atI_nat (by rw [List.getElem?_map, h]; rfl)
def eij (M : List (List Int)) (xs ys : List Int) (i j : Nat) : Int := xs.getD i 0 * (M.getD i []).getD j 0 * ys.getD j 0
def sJ (M : List (List Int)) (xs ys : List Int) (i j : Nat) : Int := ((List.range j).map (eij M xs ys i)).sum
def sI (n : Nat) (M : List (List Int)) (xs ys : List Int) (i : Nat) : Int := ((List.range i).map fun a => sJ M xs ys a n).sum
theorem sJ_succ (M : List (List Int)) (xs ys : List Int) (i j : Nat) : sJ M xs ys i (j + 1) = sJ M xs ys i j + eij M xs ys i j := by
  unfold sJ
  rw [List.range_succ, List.map_append, List.sum_append]
  simp
theorem sI_succ (n : Nat) (M : List (List Int)) (xs ys : List Int) (i : Nat) : sI n M xs ys (i + 1) = sI n M xs ys i + sJ M xs ys i n := by
  unfold sI
  rw [List.range_succ, List.map_append, List.sum_append]
  simp
theorem sI_btw {n : Nat} {M : List (List Int)} {xs ys : List Int} (h1 : 1 ≤ n) (h3 : n ≤ 3) (hM : Sh n M) (hx : xs.length = n) (hy : ys.length = n) : sI n M xs ys n = btwM M xs ys := by
  have : n = 1 ∨ n = 2 ∨ n = 3 := by omega
  rcases this with rfl | rfl | rfl
  · obtain ⟨a, rfl⟩ := sh1 hM rfl
    obtain ⟨x, rfl⟩ := len1 hx
    obtain ⟨y, rfl⟩ := len1 hy
    simp [sI, sJ, eij, btwM, ledM, dot, List.range_succ, Int.mul_assoc]
  · obtain ⟨a, b, c, d, rfl⟩ := sh2 hM rfl
    obtain ⟨x, x', rfl⟩ := len2 hx
    obtain ⟨y, y', rfl⟩ := len2 hy
    simp [sI, sJ, eij, btwM, ledM, dot, List.range_succ]
    grind
  · obtain ⟨a, b, c, d, e, f, g, h, i, rfl⟩ := sh3 hM rfl
    obtain ⟨x, x', x'', rfl⟩ := len3 hx
    obtain ⟨y, y', y'', rfl⟩ := len3 hy
    simp [sI, sJ, eij, btwM, ledM, dot, List.range_succ]
    grind
theorem rb_get {k : Nat} {xs : List Int} (h : Rb k xs) {j : Nat} (hj : j < xs.length) : (xs.getD j 0).natAbs < 2 ^ k := by
  rw [List.getD_eq_getElem?_getD, List.getElem?_eq_getElem hj]
  exact h _ (List.getElem_mem hj)
theorem sqe_row {n k : Nat} {M : List (List Int)} (h : SqE n k M) {i : Nat} (hi : i < n) : Rb k (M.getD i []) := fun x hx => h.bd _ (getD_mem (by rw [h.len]; exact hi)) x hx
section
variable {P : Program} {w : World} {K : PySem.W.Frag} {mg : Str → Option Value} {base : Heap} {C : Addr}
def sp_lbtw : Sp := fun vs H Q _ => ∃ v o p M xs ys, ∃ n : Nat, vs = [v, o, p] ∧ PyV H v (lmD M) ∧ PyV H o (.list (iD xs)) ∧ PyV H p (.list (iD ys)) ∧ 1 ≤ n ∧ n ≤ 3 ∧ SqE n 5000 M ∧ xs.length = n ∧ ys.length = n ∧ Rb 5000 xs ∧ Rb 5000 ys ∧ ∀ H', Same H H' → Q (.int (btwM M xs ys)) H'
def sp_lcol : Sp := fun vs H Q _ => ∃ v M, ∃ n k : Nat, vs = [v, .int k] ∧ PyV H v (lmD M) ∧ Sh n M ∧ n ≤ 3 ∧ k < n ∧ ∀ D H', Same H H' → H D = none → H' D = some (.lst ((colsM n M k).map V.int)) → Q (.ref D) H'
end
end T22
set_option Elab.async false
set_option linter.all false
set_option maxRecDepth 100000
set_option maxHeartbeats 4000000
namespace T22
open PySem PySem.Spec PyProof.Rows L2 Gd Zn Rp Dn Tb Gn En Zs Ct Op Oc Rg Rt Ro Oa
theorem rx_none {p : Option Addr} {H H' : Hp} {q : Addr} (s : RX p H H') (hp : Has p H) (n : H' q = none) : H q = none := by
  cases e : H q with
  | none => rfl
  | some o =>
    by_cases z : p = some q
    · obtain ⟨x, y, e1, _⟩ := s.pot q z (hp q z)
      rw [n] at e1
      cases e1
    · have := s.keep q o z e
      rw [n] at this
      cases this
/-- new objects, one for each turn -/
theorem lc_new {p : Option Addr} {J : It} {g : TG} {te : TE} {vs : List Nat} {σ : L2.St} {H1 : Hp} {Q : VK} (n : Nat) (Ok : Nat → HO → Prop) (hp : Has p H1) (hn : n ≤ 1000)
    (hgo : ∀ i H, i < n → RX p H1 H → J.go i H) (hst : ∀ H, RX p H1 H → J.stop n H)
    (hs : ∀ i x H H' (C : VK), i < n → RX p H1 H → Has p H → J.yld i H x H' → (∀ q H4 o, RX p H H4 → H q = none → H4 q = some o → Ok i o → C (.ref q) H4) → g x (wipe σ vs) H' fun σ2 H2 => wipe σ2 vs = wipe σ vs ∧ te σ2 H2 C)
    (hd : ∀ D H (bs : List Addr), H1 D = none → RX p H1 H → H D = some (.lst (bs.map V.ref)) → bs.length = n → bs.Nodup → D ∉ bs → (∀ b ∈ bs, H1 b = none) → (∀ i b, bs[i]? = some b → ∃ o, H b = some o ∧ Ok i o) → Q (.ref D) H) : LcB g tYes te vs σ Q J H1 := by
  intro D nD
  have nP : p ≠ some D := hp.ne nD
  refine ⟨fun i m H => i ≤ n ∧ m = n - i ∧ RX p H1 H ∧ ∃ bs : List Addr, H D = some (.lst (bs.map V.ref)) ∧ bs.length = i ∧ bs.Nodup ∧ D ∉ bs ∧ (∀ b ∈ bs, H1 b = none) ∧ (∀ j b, bs[j]? = some b → ∃ o, H b = some o ∧ Ok j o),
    ⟨n, Nat.zero_le _, rfl, RX.new nD, [], upd_same, rfl, .nil, by simp, by simp, fun j v e => by simp at e⟩, ?_⟩
  rintro i m H ⟨hi, rfl, s1, bs, hD, hl, nd, nDb, fr, hE⟩
  by_cases hlt : i < n
  · refine .inr ⟨hgo i H hlt s1, fun H' => i + 1 ≤ n ∧ RX p H1 H' ∧ ∃ bs : List Addr, H' D = some (.lst (bs.map V.ref)) ∧ bs.length = i + 1 ∧ bs.Nodup ∧ D ∉ bs ∧ (∀ b ∈ bs, H1 b = none) ∧ (∀ j b, bs[j]? = some b → ∃ o, H' b = some o ∧ Ok j o), fun H' h => ⟨n - (i + 1), by omega, h.1, rfl, h.2⟩, fun x H' hy => ?_⟩
    have hpH := hp.to s1
    refine hs i x H H' _ hlt s1 hpH hy fun q H4 o s4 nq e4 ok => ?_
    have hD4 := s4.keep D _ nP hD
    have qD : q ≠ D := (ne_of_none hD nq).symm
    have nq1 : H1 q = none := rx_none s1 hp nq
    have qb : q ∉ bs := fun z => by
      obtain ⟨j, hj, ej⟩ := List.getElem_of_mem z
      obtain ⟨o', e', _⟩ := hE j q (by rw [List.getElem?_eq_getElem hj, ej])
      rw [nq] at e'
      cases e'
    refine ⟨bs.map V.ref, hD4, by rw [List.length_map]; exact Nat.lt_of_lt_of_le (by omega : bs.length < 1001) (by decide), hlt, (s1.trans s4).mut nD hp, bs ++ [q], by rw [upd_same, List.map_append]; rfl, by simp [hl], ?_, ?_, ?_, fun j b e => ?_⟩
    · rw [List.nodup_append]
      exact ⟨nd, by simp, fun a ha b hb => by rw [List.mem_singleton.mp hb]; exact fun z => qb (z ▸ ha)⟩
    · rw [List.mem_append, List.mem_singleton]
      rintro (z | z)
      · exact nDb z
      · exact qD z.symm
    · intro b hb
      rcases List.mem_append.mp hb with hb | hb
      · exact fr b hb
      · rw [List.mem_singleton.mp hb]; exact nq1
    · by_cases hj : j < bs.length
      · rw [List.getElem?_append_left hj] at e
        obtain ⟨o', e1, e2⟩ := hE j b e
        have hb : b ∈ bs := List.mem_of_getElem? e
        have bD : b ≠ D := fun z => nDb (z ▸ hb)
        have bp : p ≠ some b := fun z => by
          have := fr b hb
          obtain ⟨x, y, e9, _⟩ := hp b z
          rw [this] at e9
          cases e9
        exact ⟨o', by rw [upd_ne bD]; exact s4.keep b _ bp e1, e2⟩
      · rw [List.getElem?_append_right (by omega)] at e
        have z : j - bs.length = 0 := by
          by_cases w : j - bs.length = 0
          · exact w
          · rw [List.getElem?_eq_none (by simp; omega)] at e; cases e
        rw [z] at e
        cases e
        have : j = i := by omega
        subst this
        exact ⟨o, by rw [upd_ne qD]; exact e4, ok⟩
  · have e : i = n := by omega
    subst e
    exact .inl ⟨hst H s1, hd D H bs nD s1 hD hl nd nDb fr hE⟩
def ent (M : List (List Int)) (i j : Nat) : Int := (M.getD i []).getD j 0
def setIJ (M : List (List Int)) (i j : Nat) (x : Int) : List (List Int) := M.set i ((M.getD i []).set j x)
theorem ent_set {n : Nat} {M : List (List Int)} (h : Sh n M) {i j : Nat} (hi : i < n) (hj : j < n) (x : Int) (k l : Nat) : ent (setIJ M i j x) k l = if k = i ∧ l = j then x else ent M k l := by
  have hi' : i < M.length := by rw [h.len]; exact hi
  have hr : (M.getD i []).length = n := getD_row h hi
  unfold ent setIJ
  by_cases e : k = i
  · subst e
    have z : (M.set k ((M.getD k []).set j x)).getD k [] = (M.getD k []).set j x := by
      rw [List.getD_eq_getElem?_getD, List.getElem?_set_self hi']
      rfl
    rw [z]
    by_cases e2 : l = j
    · subst e2
      rw [if_pos ⟨rfl, rfl⟩, List.getD_eq_getElem?_getD, List.getElem?_set_self (by rw [hr]; exact hj)]
      rfl
    · rw [if_neg (fun q => e2 q.2), List.getD_eq_getElem?_getD, List.getElem?_set_ne (fun q => e2 q.symm), ← List.getD_eq_getElem?_getD]
  · rw [if_neg (fun q => e q.1)]
    have z : (M.set i ((M.getD i []).set j x)).getD k [] = M.getD k [] := by
      rw [List.getD_eq_getElem?_getD, List.getElem?_set_ne (fun q => e q.symm), ← List.getD_eq_getElem?_getD]
    rw [z]
theorem SqB.setIJ {n : Nat} {B : Int} {M : List (List Int)} (h : SqB n B M) {i j : Nat} (hi : i < n) {x : Int} (hx : -B ≤ x ∧ x ≤ B) : SqB n B (setIJ M i j x) := by
  have hm := getD_mem (M := M) (i := i) (by rw [h.len]; exact hi)
  refine h.set i (by rw [List.length_set]; exact h.row _ hm) fun y hy => ?_
  rcases List.mem_or_eq_of_mem_set hy with hy | rfl
  · exact h.bd _ hm y hy
  · exact hx
def Sym (n : Nat) (M : List (List Int)) : Prop := ∀ i j, i < n → j < n → ent M i j = ent M j i
theorem Sym.tr {n : Nat} {M : List (List Int)} (h : Sym n M) (s : Sh n M) (h1 : 1 ≤ n) (h3 : n ≤ 3) : transp n M = M := by
  have : n = 1 ∨ n = 2 ∨ n = 3 := by omega
  rcases this with rfl | rfl | rfl
  · obtain ⟨a, rfl⟩ := sh1 s rfl
    rfl
  · obtain ⟨a, b, c, d, rfl⟩ := sh2 s rfl
    have e : b = c := h 0 1 (by decide) (by decide)
    subst e
    rfl
  · obtain ⟨a, b, c, d, e, f, g, h', i, rfl⟩ := sh3 s rfl
    have e1 : b = d := h 0 1 (by decide) (by decide)
    have e2 : c = g := h 0 2 (by decide) (by decide)
    have e3 : f = h' := h 1 2 (by decide) (by decide)
    subst e1 e2 e3
    rfl
theorem nodup_inj {α : Type} : ∀ {bs : List α} {i j : Nat} {c : α}, bs.Nodup → bs[i]? = some c → bs[j]? = some c → i = j
  | [], i, _, _, _, e, _ => by simp at e
  | b :: bs, 0, 0, _, _, _, _ => rfl
  | b :: bs, 0, j + 1, c, nd, e, e' => by
    cases e
    exact absurd (List.mem_of_getElem? (show bs[j]? = some b from e')) (List.nodup_cons.mp nd).1
  | b :: bs, i + 1, 0, c, nd, e, e' => by
    cases e'
    exact absurd (List.mem_of_getElem? (show bs[i]? = some b from e)) (List.nodup_cons.mp nd).1
  | b :: bs, i + 1, j + 1, c, nd, e, e' => congrArg (· + 1) (nodup_inj (List.nodup_cons.mp nd).2 (show bs[i]? = some c from e) (show bs[j]? = some c from e'))
structure LL (H : Hp) (a : Addr) (bs : List Addr) (M : List (List Int)) : Prop where
  top : H a = some (.lst (bs.map V.ref))
  len : bs.length = M.length
  row : ∀ (i : Nat) (b : Addr), bs[i]? = some b → H b = some (.lst ((M.getD i []).map V.int))
  nd : bs.Nodup
  ne : a ∉ bs
theorem LL.rx {p : Addr} {H H' : Hp} {a : Addr} {bs : List Addr} {M : List (List Int)} (h : LL H a bs M) (s : RX (some p) H H') (hp : p ∉ a :: bs) : LL H' a bs M := by
  rw [List.mem_cons, not_or] at hp
  refine ⟨s.keep a _ (fun z => hp.1 (by cases z; rfl)) h.top, h.len, fun i b e => s.keep b _ (fun z => hp.2 (by cases z; exact List.mem_of_getElem? e)) (h.row i b e), h.nd, h.ne⟩
theorem LL.put {H : Hp} {a : Addr} {bs : List Addr} {M : List (List Int)} (h : LL H a bs M) {i j : Nat} {b : Addr} (eb : bs[i]? = some b) (x : Int) :
    LL (upd H b (.lst (((M.getD i []).map V.int).set j (.int x)))) a bs (setIJ M i j x) := by
  have hb := List.mem_of_getElem? eb
  have hi : i < bs.length := (List.getElem?_eq_some_iff.mp eb).1
  have nab : a ≠ b := fun z => h.ne (by rw [z]; exact hb)
  refine ⟨by rw [upd_ne nab]; exact h.top, by unfold setIJ; rw [List.length_set]; exact h.len, fun k c ec => ?_, h.nd, h.ne⟩
  by_cases e : k = i
  · subst e
    rw [eb] at ec
    cases ec
    rw [upd_same]
    unfold setIJ
    rw [List.getD_eq_getElem?_getD (l := M.set _ _), List.getElem?_set_self (by rw [← h.len]; exact hi)]
    show some (HO.lst _) = some (HO.lst (List.map V.int ((M.getD k []).set j x)))
    rw [List.map_set]
  · have nc : c ≠ b := fun z => by
      subst z
      exact e (nodup_inj h.nd ec eb)
    rw [upd_ne nc, h.row k c ec]
    unfold setIJ
    rw [List.getD_eq_getElem?_getD (l := M.set _ _), List.getElem?_set_ne (fun z => e z.symm), ← List.getD_eq_getElem?_getD]
theorem LL.py {p : Addr} {H : Hp} {a : Addr} {bs : List Addr} {M : List (List Int)} (h : LL H a bs M) (hp : p ∉ a :: bs) : PyV (hid (some p) H) (.ref a) (lmD M) := by
  rw [List.mem_cons, not_or] at hp
  refine lm_of (by rw [hid_at (fun z => hp.1 (by cases z; rfl))]; exact h.top) h.len fun i b e => ?_
  rw [hid_at (fun z => hp.2 (by cases z; exact List.mem_of_getElem? e))]
  exact h.row i b e
theorem py_rx {p : Option Addr} {H H' : Hp} {v : V} {d : PyData} (h : PyV (hid p H) v d) (s : RX p H H') : PyV (hid p H') v d := PyV.mono s.hid h
theorem py_un {p : Option Addr} {H : Hp} {v : V} {d : PyData} (h : PyV (hid p H) v d) : PyV H v d := PyV.mono hid_le h
def zeroM (n : Nat) : List (List Int) := List.replicate n (List.replicate n 0)
theorem zero_sqB (n : Nat) (B : Int) (h : 0 ≤ B) : SqB n B (zeroM n) := ⟨by simp [zeroM], fun r hr => by
  unfold zeroM at hr
  rw [(List.mem_replicate.mp hr).2]
  simp, fun r hr x hx => by
  unfold zeroM at hr
  rw [(List.mem_replicate.mp hr).2] at hx
  rw [(List.mem_replicate.mp hx).2]
  omega⟩
theorem zero_getD {n i : Nat} (h : i < n) : (zeroM n).getD i [] = List.replicate n 0 := by
  unfold zeroM
  rw [List.getD_eq_getElem?_getD, List.getElem?_replicate, if_pos h]
  rfl
theorem zero_sym (n : Nat) : Sym n (zeroM n) := fun i j hi hj => by
  unfold ent
  rw [zero_getD hi, zero_getD hj, List.getD_eq_getElem?_getD, List.getD_eq_getElem?_getD, List.getElem?_replicate, List.getElem?_replicate, if_pos hj, if_pos hi]
theorem Sym.put {n : Nat} {M : List (List Int)} (h : Sym n M) (s : Sh n M) {i j : Nat} (hi : i < n) (hj : j < n) (x : Int) : Sym n (setIJ (setIJ M i j x) j i x) := fun k l hk hl => by
  have s2 : Sh n (setIJ M i j x) := by
    refine ⟨by unfold setIJ; rw [List.length_set, s.len], fun r hr => ?_⟩
    unfold setIJ at hr
    rcases List.mem_or_eq_of_mem_set hr with hr | rfl
    · exact s.row r hr
    · rw [List.length_set]; exact getD_row s hi
  rw [ent_set s2 hj hi, ent_set s2 hj hi, ent_set s hi hj, ent_set s hi hj]
  have := h k l hk hl
  by_cases a : k = j <;> by_cases b : l = i <;> by_cases c : k = i <;> by_cases d : l = j <;> simp [a, b, c, d] <;> grind
theorem n_asg {te : TE} {g : TG} {D : Ends} {rt : VK} {bk ct : L2.St → Hp → Prop} {σ : L2.St} {H : Hp} (h : te σ H fun x H1 => g x σ H1 D.nx) : Ends.nx ⟨tAsg te g D, rt, bk, ct⟩ σ H := h
theorem rep_flat (m : Nat) (x : V) : (List.replicate m [x]).flatten = List.replicate m x := by
  induction m with
  | zero => rfl
  | succ m ih => rw [List.replicate_succ, List.replicate_succ, List.flatten_cons, ih]; rfl
section
variable {P : Program} {w : World} {K : PySem.W.Frag} {mg : Str → Option Value} {base : Heap} {C : Addr}
def sp_lrows : Sp := fun vs H Q _ => ∃ (p : Addr) (n m : Nat), vs = [.ref p, .int n, .int m] ∧ PotOk H p ∧ 1 ≤ n ∧ n ≤ 3 ∧ m ≤ 400 ∧ ∀ D H' M, RX (some p) H H' → PyV (hid (some p) H') (.ref D) (lmD M) → SqB n m M → transp n M = M → Q (.ref D) H'
end
end T22
set_option Elab.async false
set_option linter.all false
set_option maxRecDepth 100000
set_option maxHeartbeats 4000000
namespace T22
open PySem PySem.Spec PyProof.Rows L2 Gd Zn Rp Dn Tb Gn En Zs Ct Op Oc Rg Rt Ro Oa
theorem d_bm {K : PySem.W.Frag} {T : String} {r : V → List V → Hp → VK → Prop} {to : TE} {t : TA} {D : Ends} {σ : L2.St} {H : Hp} (h : to σ H fun x H1 => tyV K T x H1 ∧ t σ H1 fun xs H2 => r x xs H2 fun _ H3 => D.nx σ H3) : tDrop (tBM K T r to t) D σ H := h
theorem lt_cases {n i : Nat} (h3 : n ≤ 3) (hi : i < n) : (n = 1 ∧ i = 0) ∨ (n = 2 ∧ (i = 0 ∨ i = 1)) ∨ (n = 3 ∧ (i = 0 ∨ i = 1 ∨ i = 2)) := by omega
theorem ld_row {n i : Nat} {G P : List (List Int)} (h3 : n ≤ 3) (hG : Sh n G) (hP : Sh n P) (hi : i < n) : (ldM n G P).getD i [] = (List.range n).map fun j => btwM G (colsM n P i) (colsM n P j) := by
  unfold ldM
  rcases lt_cases h3 hi with ⟨rfl, rfl⟩ | ⟨rfl, h⟩ | ⟨rfl, h⟩
  · obtain ⟨a, rfl⟩ := sh1 hG rfl
    obtain ⟨b, rfl⟩ := sh1 hP rfl
    rw [trE1, mulE1, mulE1]
    simp [btwM, colsM, ledM, dot, List.range_succ]
    grind
  · obtain ⟨a, b, c, d, rfl⟩ := sh2 hG rfl
    obtain ⟨p, q, r, s, rfl⟩ := sh2 hP rfl
    rw [trE2, mulE2, mulE2]
    rcases h with rfl | rfl
    · simp [btwM, colsM, ledM, dot, List.range_succ]
      constructor <;> grind
    · simp [btwM, colsM, ledM, dot, List.range_succ]
      constructor <;> grind
  · obtain ⟨a, b, c, d, e, f, g, h', i, rfl⟩ := sh3 hG rfl
    obtain ⟨p, q, r, s, t, u, v, w, x, rfl⟩ := sh3 hP rfl
    rw [trE3, mulE3, mulE3]
    rcases h with rfl | rfl | rfl
    · simp [btwM, colsM, ledM, dot, List.range_succ]
      refine ⟨?_, ?_, ?_⟩ <;> grind
    · simp [btwM, colsM, ledM, dot, List.range_succ]
      refine ⟨?_, ?_, ?_⟩ <;> grind
    · simp [btwM, colsM, ledM, dot, List.range_succ]
      refine ⟨?_, ?_, ?_⟩ <;> grind
theorem cols_len {n j : Nat} {P : List (List Int)} : (colsM n P j).length = P.length := by unfold colsM; rw [List.length_map]
theorem cols_rb {n k j : Nat} {P : List (List Int)} (h : SqE n k P) (hj : j < n) : Rb k (colsM n P j) := fun x hx => by
  unfold colsM at hx
  obtain ⟨r, hr, rfl⟩ := List.mem_map.mp hx
  have l := h.row r hr
  rw [List.getD_eq_getElem?_getD, List.getElem?_eq_getElem (by omega : j < r.length)]
  exact h.bd r hr _ (List.getElem_mem _)
section
variable {P : Program} {w : World} {K : PySem.W.Frag} {mg : Str → Option Value} {base : Heap} {C : Addr}
def sp_lled : Sp := fun vs H Q _ => ∃ v o G M, ∃ n : Nat, vs = [v, o] ∧ PyV H v (lmD G) ∧ PyV H o (lmD M) ∧ 1 ≤ n ∧ n ≤ 3 ∧ SqE n 5000 G ∧ SqE n 5000 M ∧ ∀ D H', Same H H' → (∀ p, H p ≠ none → PyV (hid (some p) H') (.ref D) (lmD (ldM n G M))) → Q (.ref D) H'
abbrev st_lpass : Stmt := top 46
/-- what is passed: lists or tuples, all new -/
structure Giv (H H' : Hp) (p : Addr) (v : V) (d : PyData) (M : List (List Int)) : Prop where
  py : PyV (hid (some p) H') v d
  gr : GridD d M
  new : ∀ (a : Addr), v = .ref a → H a = none
  rows : ∀ (a : Addr) (xs : List V) (i : Nat) (c : Addr), v = .ref a → H' a = some (.lst xs) → xs[i]? = some (.ref c) → H c = none
def sp_lpass : Sp := fun vs H Q _ => ∃ (p : Addr) (v : V) (M : List (List Int)) (n : Nat), vs = [.ref p, v] ∧ PotOk H p ∧ PyV (hid (some p) H) v (lmD M) ∧ Sh n M ∧ n ≤ 3 ∧ ∀ v' d H', RX (some p) H H' → Giv H H' p v' d M → Q v' H'
abbrev N_lpass : List Str := ["_law_pot_here", "_law_rows_here", "_law_found", "_law_row"]
theorem sc_lpass : FnScope N_lpass ["_law_pot_here", "_law_rows_here"] (defScope st_lpass) := ⟨rfl, rfl, rfl, by decide +kernel, rfl, by decide +kernel, by decide +kernel⟩
theorem gr_py {H : Hp} : ∀ {bs : List Addr} {M : List (List Int)}, bs.length = M.length → (∀ i b, bs[i]? = some b → H b = some (.lst ((M.getD i []).map V.int)) ∨ H b = some (.tup ((M.getD i []).map V.int))) →
    ∃ ds, PyVs H (bs.map V.ref) ds ∧ ds.length = M.length ∧ ∀ (i : Nat) (d' : PyData), ds[i]? = some d' → ∃ r, M[i]? = some r ∧ (d' = .list (iD r) ∨ d' = .tuple (iD r))
  | [], [], _, _ => ⟨[], .nil, rfl, fun i d' e => by simp at e⟩
  | b :: bs, r :: M, l, h => by
    obtain ⟨ds, p, dl, hd⟩ := gr_py (bs := bs) (M := M) (Nat.succ.inj l) fun i c e => h (i + 1) c e
    rcases h 0 b rfl with e | e
    · refine ⟨.list (iD r) :: ds, .cons (.lst e (py_ints r)) p, by rw [List.length_cons, List.length_cons, dl], fun i d' ed => ?_⟩
      cases i with
      | zero => cases ed; exact ⟨r, rfl, .inl rfl⟩
      | succ i => exact hd i d' ed
    · refine ⟨.tuple (iD r) :: ds, .cons (.tup e (py_ints r)) p, by rw [List.length_cons, List.length_cons, dl], fun i d' ed => ?_⟩
      cases i with
      | zero => cases ed; exact ⟨r, rfl, .inr rfl⟩
      | succ i => exact hd i d' ed
theorem ok_lpass {f : Addr} {fd : FuncData} (F : Fun K "_law_passed" "_law_passed" st_lpass f fd) (T : Txt mg) (D1 : Def P w K mg base "_law_draw" 1 ["_law_pot_here", "_law_size"] sp_draw) : FnOk P w K mg base CX0 2 f fd ["_law_pot_here", "_law_rows_here"] sp_lpass := by
  refine F.ok sc_lpass (fun vs H Q E h => ?_) (fun cdv A outer s H vs Q E hr h => ?_)
  · obtain ⟨p, v, M, n, rfl, _⟩ := h
    rfl
  · obtain ⟨p, v, M, n, rfl, hp, hv, hM, h3, q⟩ := h
    refine ⟨_, pss_cons (ps_setLc (i := 2) (own := [("_law_row", 3)]) (g := gName 3) (tt := tYes) rfl sc_lpass.nd rfl rfl (sw_true rfl rfl rfl (by decide +kernel)) (pi_seq (pv 1))
        (blkOk_by (N := N_lpass) (sc := defScope st_lpass) (by decide +kernel)) (fun _ _ _ _ _ => pg_name (i := 3) sc_lpass.nd rfl (Or.inl rfl) (Or.inr rfl)) (fun _ _ _ _ _ => pts_nil)
        (fun _ _ _ _ _ => pe_ifExp (pt_cmpR op_eq (pe_def (X := Cx.blk _ _ _ _ _ _) D1 hr (pa_cons (pv 0) (pa_cons pe_int pa_nil))) pe_int (nomark _))
          (pe_callTy (r := rTup K) c_tup (by rfl) T.tuple PyProof.Rows.boot_tuple (pa_cons (pv 3) pa_nil)) (pe_callTy (r := T22.rLst K) T22.c_lst (by rfl) T.list PyProof.Rows.boot_list (pa_cons (pv 3) pa_nil))))
      (pss_one (ps_ret (pe_ifExp (pt_cmpR op_eq (pe_def D1 hr (pa_cons (pv 0) (pa_cons pe_int pa_nil))) pe_int (nomark _)) (pe_callTy (r := rTup K) c_tup (by rfl) T.tuple PyProof.Rows.boot_tuple (pa_cons (pv 2) pa_nil)) (pv 2)))), ?_⟩
    have hh : Has (some p) H := fun q e => by cases e; exact hp
    obtain ⟨a, bs, rfl, ha, hbl, hb⟩ := lm_at hv
    have ha0 := hid_le _ _ ha
    have bl : bs.length = n := by rw [hbl, hM.len]
    have at_ : ∀ H', RX (some p) H H' → SqV K H' false a (bs.map V.ref) := fun H' s => .inl (.inl (hid_le _ _ (s.hid _ _ ha)))
    refine r_seq (r_asg (tlc_call ⟨_, rfl, false, a, _, rfl, at_ H (RX.refl H), ?_⟩))
    refine lc_new (p := some p) n (fun i o => o = .lst ((M.getD i []).map V.int) ∨ o = .tup ((M.getD i []).map V.int)) hh (by omega) (fun i H2 hi s2 => its_go (at_ H2 s2) (List.getElem?_eq_getElem (by rw [List.length_map, bl]; exact hi))) (fun H2 s2 => its_stop (at_ H2 s2) (by rw [List.length_map, bl]; exact Nat.le_refl _)) (fun i x H2 H3 C' hi s2 hp2 hy hC => ?_) fun Da H2 cs nD s2 hD hl nd nDb fr hE => ?_
    · obtain ⟨rfl, ex⟩ := its_yld hy (at_ H2 s2)
      have eb : bs[i]? = some (bs[i]'(by omega)) := List.getElem?_eq_getElem _
      rw [List.getElem?_map, eb] at ex
      cases ex
      refine ⟨rfl, ?_⟩
      refine ⟨_, rfl, p, 3, rfl, hp2 p rfl, by decide, by decide, fun r H4 r0 r1 s4 => ⟨rfl, _, rfl, ?_⟩⟩
      have hr4 := hid_le _ _ ((s2.trans s4).hid _ _ (hb i _ eb))
      by_cases c : r = 0
      · rw [decide_eq_true (congrArg V.int c)]
        exact iteT (cb1 ⟨_, rfl, _, _, rfl, .inl ⟨.inl (.inl hr4), fun l nl => hC l _ _ (s4.trans (RX.new nl)) (rx_none s4 hp2 nl) upd_same (.inr rfl)⟩⟩)
      · rw [decide_eq_false (fun e => c (V.int.inj e))]
        exact iteF (cb1 ⟨_, rfl, _, _, rfl, .inl (.inl (.inl hr4)), fun l nl => hC l _ _ (s4.trans (RX.new nl)) (rx_none s4 hp2 nl) upd_same (.inl rfl)⟩)
    · have np : p ∉ Da :: cs := by
        rw [List.mem_cons, not_or]
        exact ⟨fun z => (hh.ne nD) (by rw [z]), fun z => hp.some_ (fr p z)⟩
      have gp : ∀ H', RX (some p) H2 H' → ∃ ds, PyVs (hid (some p) H') (cs.map V.ref) ds ∧ ds.length = M.length ∧ ∀ (i : Nat) (d' : PyData), ds[i]? = some d' → ∃ r, M[i]? = some r ∧ (d' = .list (iD r) ∨ d' = .tuple (iD r)) := fun H' s => by
        refine gr_py (by rw [hl, hM.len]) fun i b e => ?_
        obtain ⟨o, e1, e2⟩ := hE i b e
        have nb : some p ≠ some b := fun z => np (by cases z; exact List.mem_cons_of_mem _ (List.mem_of_getElem? e))
        rw [hid_at nb, s.keep b o nb e1]
        rcases e2 with rfl | rfl
        · exact .inl rfl
        · exact .inr rfl
      have hDp : some p ≠ some Da := hh.ne nD
      refine r_next (r_nret ?_)
      refine ⟨_, rfl, p, 3, rfl, s2.pot p rfl hp, by decide, by decide, fun r H4 r0 r1 s4 => ⟨rfl, _, rfl, ?_⟩⟩
      have hD4 := s4.keep Da _ hDp hD
      by_cases c : r = 0
      · rw [decide_eq_true (congrArg V.int c)]
        refine iteT (cb1 ⟨_, rfl, _, _, rfl, .inl ⟨.inl (.inl hD4), fun l nl => ?_⟩⟩)
        have s5 := s4.trans (RX.new (o := .tup (cs.map V.ref)) nl)
        obtain ⟨ds, p1, p2, p3⟩ := gp _ s5
        have nl0 : H l = none := rx_none (s2.trans s4) hh nl
        have lp : some p ≠ some l := fun z => by cases z; exact hp.some_ nl0
        refine q _ (.tuple ds) _ (s2.trans s5) ⟨.tup (by rw [hid_at lp, upd_same]) p1, ⟨rfl, p2, p3⟩, fun a e => by cases e; exact nl0, fun a xs i c e e1 _ => ?_⟩
        cases e
        rw [upd_same] at e1
        cases e1
      · rw [decide_eq_false (fun e => c (V.int.inj e))]
        refine iteF ⟨_, rfl, ?_⟩
        obtain ⟨ds, p1, p2, p3⟩ := gp _ s4
        refine q _ (.list ds) _ (s2.trans s4) ⟨.lst (by rw [hid_at hDp]; exact hD4) p1, ⟨rfl, p2, p3⟩, fun a e => by cases e; exact nD, fun a xs i c e e1 e2 => ?_⟩
        cases e
        rw [hD4] at e1
        cases e1
        rw [List.getElem?_map] at e2
        cases h : cs[i]? with
        | none => rw [h] at e2; cases e2
        | some b => rw [h] at e2; cases e2; exact fr _ (List.mem_of_getElem? h)
end
end T22
set_option Elab.async false
set_option linter.all false
set_option maxRecDepth 100000
set_option maxHeartbeats 4000000
namespace T22
open PySem PySem.Spec PyProof.Rows L2 Gd Zn Rp Dn Tb Gn En Zs Ct Op Oc Rg Rt Ro Oa
theorem n_if {c : TT} {t u : TS} {D : Ends} {rt : VK} {bk ct : L2.St → Hp → Prop} {σ : L2.St} {H : Hp} (h : c σ H fun b H1 => if b = true then t D σ H1 else u D σ H1) : Ends.nx ⟨tIfS c t u D, rt, bk, ct⟩ σ H := h
theorem SqB.add2 {n : Nat} {B : Int} {M : List (List Int)} (h : SqB n B M) {i j : Nat} {c : Int} (hi : i < n) (hj : j < n) (hB : 0 ≤ B) (hc : -2 ≤ c ∧ c ≤ 2) : SqB n (3 * B) (stepA M i j c) := by
  have hri := getD_mem (M := M) (i := i) (by rw [h.len]; exact hi)
  have hrj := getD_mem (M := M) (i := j) (by rw [h.len]; exact hj)
  unfold stepA
  refine (h.mono (by omega)).set i ?_ fun x hx => ?_
  · unfold addR
    rw [List.length_map, List.length_zip, h.row _ hri, h.row _ hrj]
    omega
  · unfold addR at hx
    obtain ⟨⟨a, b⟩, hab, rfl⟩ := List.mem_map.mp hx
    have k := List.of_mem_zip hab
    have ba := h.bd _ hri a k.1
    have bb := h.bd _ hrj b k.2
    have cb : -(2 * B) ≤ c * b ∧ c * b ≤ 2 * B := by
      have : c = -2 ∨ c = -1 ∨ c = 0 ∨ c = 1 ∨ c = 2 := by omega
      rcases this with rfl | rfl | rfl | rfl | rfl <;> omega
    show -(3 * B) ≤ a + c * b ∧ a + c * b ≤ 3 * B
    omega
section
variable {P : Program} {w : World} {K : PySem.W.Frag} {mg : Str → Option Value} {base : Heap} {C : Addr}
def sp_ltab : Sp := fun vs H Q _ => ∃ (p : Addr) (n : Nat), vs = [.ref p, .int n] ∧ PotOk H p ∧ 1 ≤ n ∧ n ≤ 3 ∧ ∀ D H' M, RX (some p) H H' → PyV (hid (some p) H') (.ref D) (lmD M) → SqB n 27 M → (detM n M = 1 ∨ detM n M = -1) → Q (.ref D) H'
end
end T22
set_option Elab.async false
set_option linter.all false
set_option maxRecDepth 100000
set_option maxHeartbeats 4000000
namespace T22
open PySem PySem.Spec PyProof.Rows L2 Gd Zn Rp Dn Tb Gn En Zs Ct Op Oc Rg Rt Ro Oa
theorem mth {C : Addr} {H : Hp} {M : List (List Int)} {x : V} {m : Str} {R : Prop} (hx : Tab C H x M) (k : R) (e : ¬ m = ("_rows" : Str) := by decide +kernel) : ∃ a dx fs, x = .ref a ∧ H a = some (.ins C dx fs) ∧ fs.lookup m = none ∧ R := by
  obtain ⟨a, dx, r, rfl, ha, hm⟩ := id hx
  exact ⟨a, dx, _, rfl, ha, noU e, k⟩
theorem shaped_intsL (r : List Int) : SeqAt.shaped (.list (r.map PyData.int)) = true := by
  unfold SeqAt.shaped
  rw [PyData.canLay0, lay_row, PyData.depth, depth_row]
  rfl
theorem dp_listL {K : PySem.W.Frag} {H : Hp} {a : Addr} {xs : List Int} (h : H a = some (.lst (xs.map V.int))) : Dp K H (.ref a) (.list (xs.map PyData.int)) := .lst (.inl (.inl h)) (dp_ints xs)
theorem r_neLi {K : PySem.W.Frag} {H : Hp} {a b : Addr} {xs ys : List Int} {Q : VK} (ha : H a = some (.lst (xs.map V.int))) (hb : H b = some (.lst (ys.map V.int))) (q : Q (.bl (!decide (xs = ys))) H) : rNeD K (.ref a) (.ref b) H Q := by
  refine ⟨.list (xs.map PyData.int), .list (ys.map PyData.int), dp_listL ha, dp_listL hb, shaped_intsL xs, shaped_intsL ys, ?_⟩
  rw [PyData.eqv, eqv_row]
  exact q
theorem ne_noL {xs ys : List Int} (e : xs = ys) : (!decide (xs = ys)) = false := by rw [decide_eq_true e]; rfl
theorem SeqV.rx {p : Option Addr} {H H' : Hp} {v : V} {ds : List PyData} (h : SeqV (hid p H) v ds) (s : RX p H H') : SeqV (hid p H') v ds := h.mono s.hid
theorem li_hid {p D : Addr} {H : Hp} {xs : List Int} (h : H D = some (.lst (xs.map V.int))) (n : D ≠ p) : PyV (hid (some p) H) (.ref D) (.list (iD xs)) := li_of (by rw [hid_at (fun z => n (by cases z; rfl))]; exact h)
theorem li_get {p D : Addr} {H : Hp} {xs : List Int} (h : PyV (hid (some p) H) (.ref D) (.list (iD xs))) : H D = some (.lst (xs.map V.int)) := by
  obtain ⟨a, e, ha⟩ := li_at h
  cases e
  exact hid_le _ _ ha
end T22
set_option Elab.async false
set_option linter.all false
set_option maxRecDepth 100000
set_option maxHeartbeats 4000000
namespace T22
open PySem PySem.Spec PyProof.Rows L2 Gd Zn Rp Dn Tb Gn En Zs Ct Op Oc Rg Rt Ro Oa
theorem r_k {v : V} {σ : L2.St} {H : Hp} {Q : VK} (h : Q v H) : tC v σ H Q := h
def leadM (m : Nat) (M : List (List Int)) : List (List Int) := (M.take m).map fun r => r.take m
theorem lead_sh {n m : Nat} {M : List (List Int)} (h : Sh n M) (hm : m ≤ n) : Sh m (leadM m M) := by
  refine ⟨?_, fun r hr => ?_⟩
  · unfold leadM
    rw [List.length_map, List.length_take, h.len]
    omega
  · unfold leadM at hr
    obtain ⟨r', hr', rfl⟩ := List.mem_map.mp hr
    rw [List.length_take, h.row r' (List.mem_of_mem_take hr')]
    omega
theorem lead_sq {n m : Nat} {M : List (List Int)} (h : Sq n M) (hm : m ≤ n) : Sq m (leadM m M) := by
  have s := lead_sh h.sh hm
  refine ⟨s.len, s.row, fun r hr x hx => ?_⟩
  unfold leadM at hr
  obtain ⟨r', hr', rfl⟩ := List.mem_map.mp hr
  exact h.small r' (List.mem_of_mem_take hr') x (List.mem_of_mem_take hx)
def crn (n : Nat) (M : List (List Int)) : List Int := (List.range n).map fun i => detM (i + 1) (leadM (i + 1) M)
def pitM (n a : Nat) (M : List (List Int)) : List Int := ((List.range (a + 1)).map fun k => cofM a (leadM (a + 1) M) a k) ++ List.replicate (n - a - 1) 0
theorem cutV_take {xs : List V} {m : Nat} (h : m ≤ xs.length) : cutV xs none (some (m : Int)) = xs.take m := by
  unfold cutV
  rw [HT.sIx_nat, HT.sIx_none, List.drop_zero, Nat.min_eq_left h, Nat.sub_zero]
section
variable {P : Program} {w : World} {K : PySem.W.Frag} {mg : Str → Option Value} {base : Heap} {C : Addr}
theorem FnOk_any {CX : CXT} {k : Nat} {f : Addr} {fd : FuncData} {ps : List Str} {sp : Nat → Sp} (F : ∀ n, n ≤ 3 → FnOk P w K mg base CX k f fd ps (sp n)) :
    FnOk P w K mg base CX k f fd ps (fun vs H Q E => ∃ n, n ≤ 3 ∧ sp n vs H Q E) :=
  ⟨fun vs H Q E ⟨n, h3, q⟩ => (F n h3).len vs H Q E q, fun A outer s H args us vs Q E hr he hb hv ⟨n, h3, q⟩ => (F n h3).run A outer s H args us vs Q E hr he hb hv q⟩
def sp_detA : Sp := fun vs H Q E => ∃ n, n ≤ 3 ∧ sp_det n vs H Q E
theorem ok_detA {f g : Addr} {fd gd : FuncData} (F : Fun K "determinant_of" "determinant_of" st_det f fd) (G : Fun K "cofactor" "cofactor" st_cofactor g gd) (T : Txt mg) (D1 : Def P w K mg base "without" 1 ["rows", "at", "place"] sp_without)
    (D : ∀ n, Def P w K mg base "determinant_of" (2 * n + 1) ["rows"] (sp_det n) ∧ Def P w K mg base "cofactor" (2 * n + 2) ["rows", "at", "place"] (sp_cof n)) : FnOk P w K mg base CX0 7 f fd ["rows"] sp_detA := FnOk_any fun n h3 => by
  match n, h3 with
  | 0, _ => exact (ok_det0 F T).mono (by decide)
  | 1, _ => exact (ok_detS 0 (by decide) F T (D 0).2).mono (by decide)
  | 2, _ => exact (ok_det2 F T).mono (by decide)
  | 3, _ => exact (ok_detS 2 (by decide) F T (D 2).2).mono (by decide)
  | n + 4, h => exact absurd h (by omega)
abbrev st_leading : Stmt := top 27
def sp_leading : Sp := fun vs H Q _ => ∃ v M, ∃ n m : Nat, vs = [v, .int m] ∧ Mx H v M ∧ Sh n M ∧ n ≤ 3 ∧ m ≤ n ∧ ∀ v' H', Same H H' → Mx H' v' (leadM m M) → Q v' H'
abbrev N_leading : List Str := ["rows", "many", "row"]
theorem sc_leading : FnScope N_leading ["rows", "many"] (defScope st_leading) := ⟨rfl, rfl, rfl, by decide +kernel, rfl, by decide +kernel, by decide +kernel⟩
theorem sl_all {Q : VK} {H : Hp} {a : Addr} {xs : List V} {m : Nat} (h : H a = some (.tup xs)) (hm : m ≤ xs.length) (q : ∀ b H', Same H H' → H' b = some (.tup (xs.take m)) → Q (.ref b) H') : rSlA K (.ref a) none (some (m : Int)) H Q := by
  refine ⟨a, xs, rfl, .inl (.inl h), fun z => ?_, fun z p np => ?_⟩
  · have e : m = xs.length := by
      have := z.2
      rw [HT.sIx_nat] at this
      omega
    refine q a H (Same.refl H) ?_
    rw [e, List.take_length]
    exact h
  · rw [cutV_take hm]
    exact q p _ (same_new np) upd_same
theorem ok_leading {f : Addr} {fd : FuncData} (F : Fun K "leading" "leading" st_leading f fd) (T : Txt mg) : FnOk P w K mg base CX0 1 f fd ["rows", "many"] sp_leading := by
  refine F.ok sc_leading (fun vs H Q E h => ?_) (fun cdv A outer s H vs Q E hr h => ?_)
  · obtain ⟨v, M, n, m, rfl, _⟩ := h
    rfl
  · obtain ⟨v, M, n, m, rfl, ⟨a, vx, rfl, ha, hR⟩, hM, h3, hm, q⟩ := h
    refine ⟨_, pss_one (ps_ret (pe_callTy (r := rTup K) c_tup (by rfl) T.tuple PyProof.Rows.boot_tuple (pa_cons (pe_lc (own := [("row", 2)]) (g := gName 2) (tt := tYes) rfl sc_leading.nd (pi_seq (pe_slice (r := rSlA K) sl_tupA (pv 0) po_none (po_some (pv 1))))
        (blkOk_by (N := N_leading) (sc := defScope st_leading) (by decide +kernel)) (fun _ _ _ _ _ => pg_name (i := 2) sc_leading.nd rfl (Or.inl rfl) (Or.inr rfl)) (fun _ _ _ _ _ => pts_nil)
        (fun _ _ _ _ _ => pe_slice (r := rSlA K) sl_tupA (pv 2) po_none (po_some (pv 1)))) pa_nil))), ?_⟩
    have hvl : vx.length = n := by rw [hR.len, hM.len]
    refine r_ret (r_cb (r_cons (tlc_call ⟨_, rfl, _, rfl, _, rfl, sl_all ha (by omega) fun b H1 s1 hb => ⟨true, b, _, rfl, .inl (.inl hb), ?_⟩⟩)))
    have hRt : ∀ (i : Nat) (v : V), (vx.take m)[i]? = some v → ∃ r, M[i]? = some r ∧ RowV H v r ∧ i < m := fun i v e => by
      rw [List.getElem?_take] at e
      split at e
      · obtain ⟨r, er, hr⟩ := hR.get e
        exact ⟨r, er, hr, by assumption⟩
      · cases e
    have qb : ∀ H', Same H1 H' → SqV K H' true b (vx.take m) := fun H' s => .inl (.inl (s _ _ hb))
    have lt : (vx.take m).length = m := by rw [List.length_take]; omega
    refine lc_ks (p := none) m (fun i v H => ∃ r, (leadM m M)[i]? = some r ∧ RowV H v r) (fun i v H H' k h => ?_) has_none (by omega) (fun i H2 hi s2 => its_go (qb H2 s2.same) (List.getElem?_eq_getElem (by omega))) (fun H2 s2 => its_stop (qb H2 s2.same) (by omega)) (fun i x H2 H3 C' hi s2 _ hy hC => ?_) fun Da H2 rs nD s2 hD hrl hE => ?_
    · obtain ⟨r, e, h⟩ := h
      exact ⟨r, e, h.mono k⟩
    · obtain ⟨rfl, ex⟩ := its_yld hy (qb H2 s2.same)
      obtain ⟨r, er, ⟨c, rfl, hc⟩, hi'⟩ := hRt i x ex
      have lr := hM.row r (List.mem_of_getElem? er)
      refine ⟨rfl, ?_⟩
      refine ⟨_, rfl, _, rfl, _, rfl, sl_all ((s1.trans s2.same) _ _ hc) (by rw [List.length_map]; omega) fun d H4 s4 hd => hC _ _ (RX.of s4) ⟨r.take m, ?_, d, rfl, ?_⟩⟩
      · unfold leadM
        rw [List.getElem?_map, List.getElem?_take, if_pos hi', er]
        rfl
      · rw [hd, List.map_take]
    · refine ⟨Da, rs, rfl, .inl ⟨.inl (.inl hD), fun l nl => ?_⟩⟩
      have k : Same H2 (upd H2 l (.tup rs)) := same_new nl
      refine q _ _ (s1.trans (s2.same.trans k)) ⟨l, rs, rfl, upd_same, ?_⟩
      exact (rows_of (by rw [hrl, (lead_sh hM hm).len]) hE).mono (KS.of k)
abbrev st_corners : Stmt := top 39
abbrev N_corners : List Str := ["form", "many"]
theorem sc_corners : FnScope N_corners ["form"] (defScope st_corners) := ⟨rfl, rfl, rfl, by decide +kernel, rfl, by decide +kernel, by decide +kernel⟩
end
end T22
set_option Elab.async false
set_option linter.all false
set_option maxRecDepth 100000
set_option maxHeartbeats 4000000
namespace T22
open PySem PySem.Spec PyProof.Rows L2 Gd Zn Rp Dn Tb Gn En Zs Ct Op Oc Rg Rt Ro Oa
theorem pitE10 (m : Int) : pitM 1 0 [[m]] = [1] := by simp [pitM, leadM, cofM, detM, outM, outW, cutAt, List.range_succ, List.getD]
theorem pitE20 (a b c d : Int) : pitM 2 0 [[a, b], [c, d]] = [1, 0] := by simp [pitM, leadM, cofM, detM, outM, outW, cutAt, List.range_succ, List.getD, List.replicate]
theorem pitE21 (a b c d : Int) : pitM 2 1 [[a, b], [c, d]] = [-b, a] := by simp [pitM, leadM, cofM, detM, outM, outW, cutAt, List.range_succ, List.getD, List.replicate]
theorem pitE30 (a b c d e f g h i : Int) : pitM 3 0 [[a, b, c], [d, e, f], [g, h, i]] = [1, 0, 0] := by simp [pitM, leadM, cofM, detM, outM, outW, cutAt, List.range_succ, List.getD, List.replicate]
theorem pitE31 (a b c d e f g h i : Int) : pitM 3 1 [[a, b, c], [d, e, f], [g, h, i]] = [-b, a, 0] := by simp [pitM, leadM, cofM, detM, outM, outW, cutAt, List.range_succ, List.getD, List.replicate]
theorem cof2 (M : List (List Int)) (a k : Nat) : cofM 2 M a k = if (a + k) % 2 = 0 then detM 2 (outM M a k) else -detM 2 (outM M a k) := by rw [cofM]
theorem pitE32 (a b c d e f g h i : Int) : pitM 3 2 [[a, b, c], [d, e, f], [g, h, i]] = [b * f - c * e, -(a * f - c * d), a * e - b * d] := by
  simp [pitM, leadM, cof2, outM, outW, cutAt, List.range_succ, List.getD, det2]
theorem d1E1 (a : Int) : detM 1 (leadM 1 [[a]]) = a := det1 a
theorem d1E2 (a b c d : Int) : detM 1 (leadM 1 [[a, b], [c, d]]) = a := det1 a
theorem d1E3 (a b c d e f g h i : Int) : detM 1 (leadM 1 [[a, b, c], [d, e, f], [g, h, i]]) = a := det1 a
theorem d2E2 (a b c d : Int) : detM 2 (leadM 2 [[a, b], [c, d]]) = a * d - b * c := det2 a b c d
theorem d2E3 (a b c d e f g h i : Int) : detM 2 (leadM 2 [[a, b, c], [d, e, f], [g, h, i]]) = a * e - b * d := det2 a b d e
theorem d3E3 (a b c d e f g h i : Int) : detM 3 (leadM 3 [[a, b, c], [d, e, f], [g, h, i]]) = a * (e * i - f * h) - b * (d * i - f * g) + c * (d * h - e * g) := det3 a b c d e f g h i
theorem prod_np {p q w : Int} (e : w = p * q) (hp : 0 < p) (hq : q ≤ 0) : w ≤ 0 := by
  have := Int.mul_le_mul_of_nonneg_left hq (Int.le_of_lt hp)
  rw [e]
  omega
theorem pit_ok {n a : Nat} {M : List (List Int)} (h3 : n ≤ 3) (hM : Sh n M) (e : transp n M = M) (ha : a < n) (hb : ∀ i, i < a → 0 < detM (i + 1) (leadM (i + 1) M)) (hc : detM (a + 1) (leadM (a + 1) M) ≤ 0) :
    (pitM n a M).length = n ∧ (∃ x ∈ pitM n a M, x ≠ 0) ∧ btwM M (pitM n a M) (pitM n a M) ≤ 0 := by
  rcases lt_cases h3 ha with ⟨rfl, rfl⟩ | ⟨rfl, h⟩ | ⟨rfl, h⟩
  · obtain ⟨m, rfl⟩ := sh1 hM rfl
    rw [d1E1] at hc
    rw [pitE10]
    refine ⟨rfl, ⟨1, by simp, by decide⟩, ?_⟩
    simp [btwM, ledM, dot]
    omega
  · obtain ⟨p, q, r, rfl⟩ := sy2 hM e
    rcases h with rfl | rfl
    · rw [d1E2] at hc
      rw [pitE20]
      refine ⟨rfl, ⟨1, by simp, by decide⟩, ?_⟩
      simp [btwM, ledM, dot]
      omega
    · have h0 := hb 0 (by decide)
      rw [d1E2] at h0
      rw [d2E2] at hc
      rw [pitE21]
      refine ⟨rfl, ⟨p, by simp, by omega⟩, prod_np (p := p) (q := p * r - q * q) ?_ h0 hc⟩
      simp [btwM, ledM, dot]
      grind
  · obtain ⟨p, q, r, s, t, u, rfl⟩ := sy3 hM e
    rcases h with rfl | rfl | rfl
    · rw [d1E3] at hc
      rw [pitE30]
      refine ⟨rfl, ⟨1, by simp, by decide⟩, ?_⟩
      simp [btwM, ledM, dot]
      omega
    · have h0 := hb 0 (by decide)
      rw [d1E3] at h0
      rw [d2E3] at hc
      rw [pitE31]
      refine ⟨rfl, ⟨p, by simp, by omega⟩, prod_np (p := p) (q := p * s - q * q) ?_ h0 hc⟩
      simp [btwM, ledM, dot]
      grind
    · have h1 := hb 1 (by decide)
      rw [d2E3] at h1
      rw [d3E3] at hc
      rw [pitE32]
      refine ⟨rfl, ⟨p * s - q * q, by simp, by omega⟩, prod_np ?_ h1 hc⟩
      simp [btwM, ledM, dot]
      grind
section
variable {P : Program} {w : World} {K : PySem.W.Frag} {mg : Str → Option Value} {base : Heap} {C : Addr}
def dC (M : List (List Int)) (i : Nat) : Int := detM (i + 1) (leadM (i + 1) M)
end
end T22
set_option Elab.async false
set_option linter.all false
set_option maxRecDepth 100000
set_option maxHeartbeats 4000000
namespace T22
open PySem PySem.Spec PyProof.Rows L2 Gd Zn Rp Dn Tb Gn En Zs Ct Op Oc Rg Rt Ro Oa
def OddV (n : Nat) (C : Addr) (H : Hp) (v : V) : Prop := (∃ d, AnyV H v d ∧ rowOfB n d = false ∧ (items d).length ≤ 200) ∨ ∃ M, Tab C H v M
theorem OddV.mono {n : Nat} {C : Addr} {H H' : Hp} {v : V} (s : Same H H') (h : OddV n C H v) : OddV n C H' v := by
  rcases h with ⟨d, a, b, c⟩ | ⟨M, t⟩
  · exact .inl ⟨d, a.mono s, b, c⟩
  · exact .inr ⟨M, T22.Tab.same s t⟩
end T22
set_option Elab.async false
set_option linter.all false
set_option maxRecDepth 100000
set_option maxHeartbeats 4000000
namespace T22
open PySem PySem.Spec PyProof.Rows L2 Gd Zn Rp Dn Tb Gn En Zs Ct Op Oc Rg Rt Ro Oa
def midM (M : List (List Int)) : Int := cofM 2 M 0 0 + cofM 2 M 1 1 + cofM 2 M 2 2
def polyM (n : Nat) (M : List (List Int)) : List Int :=
  if n = 1 then [-detM 1 M, 1] else if n = 2 then [detM 2 M, -trM 2 M, 1] else [-detM 3 M, midM M, -trM 3 M, 1]
theorem trmE2 (a b c d : Int) : trM 2 [[a, b], [c, d]] = a + d := by simp [trM, List.range_succ]
theorem trmE3 (a b c d e f g h i : Int) : trM 3 [[a, b, c], [d, e, f], [g, h, i]] = a + e + i := by
  simp [trM, List.range_succ]
  omega
theorem midE (a b c d e f g h i : Int) : midM [[a, b, c], [d, e, f], [g, h, i]] = (e * i - f * h) + (a * i - c * g) + (a * e - b * d) := by
  have h0 : cofM 2 [[a, b, c], [d, e, f], [g, h, i]] 0 0 = e * i - f * h := by
    unfold cofM
    rw [if_pos rfl, show outM [[a, b, c], [d, e, f], [g, h, i]] 0 0 = [[e, f], [h, i]] from rfl, det2]
  have h1 : cofM 2 [[a, b, c], [d, e, f], [g, h, i]] 1 1 = a * i - c * g := by
    unfold cofM
    rw [if_pos rfl, show outM [[a, b, c], [d, e, f], [g, h, i]] 1 1 = [[a, c], [g, i]] from rfl, det2]
  have h2 : cofM 2 [[a, b, c], [d, e, f], [g, h, i]] 2 2 = a * e - b * d := by
    unfold cofM
    rw [if_pos rfl, show outM [[a, b, c], [d, e, f], [g, h, i]] 2 2 = [[a, b], [d, e]] from rfl, det2]
  unfold midM
  rw [h0, h1, h2]
theorem polyE1 (a : Int) : polyM 1 [[a]] = [-a, 1] := by unfold polyM; rw [if_pos rfl, det1]
theorem polyE2 (a b c d : Int) : polyM 2 [[a, b], [c, d]] = [a * d - b * c, -(a + d), 1] := by unfold polyM; rw [if_neg (by decide), if_pos rfl, det2, trmE2]
section
variable {P : Program} {w : World} {K : PySem.W.Frag} {mg : Str → Option Value} {base : Heap} {C : Addr}
abbrev st_trace_of : Stmt := top 30
theorem sc_trace_of : FnScope ["rows", "at", "row"] ["rows"] (defScope st_trace_of) := ⟨rfl, rfl, rfl, by decide +kernel, rfl, by decide +kernel, by decide +kernel⟩
theorem ok_trace_of {f : Addr} {fd : FuncData} (F : Fun K "trace_of" "trace_of" st_trace_of f fd) (T : Txt mg) : FnOk P w K mg base CX0 1 f fd ["rows"] sp_trace_of := by
  refine F.ok sc_trace_of (fun vs H Q E h => ?_) (fun cdv A outer s H vs Q E hr h => ?_)
  · obtain ⟨v, M, n, rfl, _⟩ := h
    rfl
  · obtain ⟨v, M, n, rfl, ⟨a, vx, rfl, ha, hR⟩, hS, h3, q⟩ := h
    refine ⟨_, pss_one (ps_ret (pe_callB (cr_sum rfl) (by rfl) T.sum boot_sum (pa_cons (pe_lc (own := [("at", 1), ("row", 2)]) (g := gTup K 2 (gCons (gName 1) (gCons (gName 2) gNil))) (tt := tYes) rfl sc_trace_of.nd (pi_enumS (by rfl) T.enum (pa_cons (pv 0) pa_nil))
        (blkOk_by (N := ["rows", "at", "row"]) (sc := defScope st_trace_of) (by decide +kernel))
        (fun _ _ _ _ _ => pg_tup rfl (pgs_cons (pg_name (i := 1) sc_trace_of.nd rfl (Or.inl rfl) (Or.inr rfl)) (pgs_cons (pg_name (i := 2) sc_trace_of.nd rfl (Or.inl rfl) (Or.inr rfl)) pgs_nil)))
        (fun _ _ _ _ _ => pts_nil)
        (fun _ _ _ _ _ => pe_ix (r := rIxS2 K) ix_sq (pv 2) (pv 1) (fun _ _ => rfl))) pa_nil))), ?_⟩
    have hvl : vx.length = n := by rw [hR.len]; exact hS.len
    have qb : ∀ H', Same H H' → SqV K H' true a vx := fun H' s => .inl (.inl (s _ _ ha))
    refine r_ret (r_cb (r_cons ?_))
    refine tlc_of (Ite2 K true a) (H1 := H) (fun R hR' => ⟨_, rfl, true, a, vx, rfl, qb H (Same.refl H), hR'⟩) ?_
    refine lc_el (p := none) n (fun i v => v = .int ((M.getD i []).getD i 0)) has_none (by omega) (fun i H2 hi s2 => ?_) (fun H2 s2 => ?_) (fun i x H2 H3 C' hi s2 _ hy hC => ?_) fun Da H2 rs nD s2 hD hrl hE => ?_
    · exact ⟨_, _, qb H2 s2.same, List.getElem?_eq_getElem (by omega)⟩
    · exact ⟨_, qb H2 s2.same, by omega⟩
    · obtain ⟨T2, y, rfl, nT, rfl, hu⟩ := hy
      have ey := hu _ (qb H2 s2.same)
      obtain ⟨r, er, b, rfl, hb⟩ := hR.get ey
      have eg : M.getD i [] = r := by rw [List.getD_eq_getElem?_getD, er]; rfl
      have lr := hS.row r (List.mem_of_getElem? er)
      have hi' : i < r.length := by omega
      have sT : Same H2 (upd H2 T2 (.tup [V.int (i : Nat), .ref b])) := same_new nT
      refine ⟨T2, _, rfl, .inl (.inl upd_same), rfl, _, _, rfl, _, _, rfl, rfl, rfl, ?_⟩
      refine ⟨_, rfl, _, rfl, true, b, _, _, .int (r[i]), rfl, rfl, .inl (.inl (sT _ _ (s2.same _ _ hb))), atI_nat (by simp [hi']), hC _ _ (RX.of sT) ?_⟩
      rw [eg, List.getD_eq_getElem?_getD, List.getElem?_eq_getElem hi']
      rfl
    · have er' : rs = (List.range n).map fun k => V.int ((M.getD k []).getD k 0) := map_of_get (n := 0) _ (by rw [hrl, List.length_range]) fun i v e => by
        have hi : i < n := by rw [← hrl]; exact (List.getElem?_eq_some_iff.mp e).1
        exact ⟨i, List.getElem?_range hi, hE i v e⟩
      refine ⟨Da, (List.range n).map fun k => (M.getD k []).getD k 0, rfl, .inl (.inl ?_), q H2 s2.same⟩
      rw [hD, er', List.map_map]
      rfl
def sp_pol_of : Sp := fun vs H Q _ => ∃ v M n, vs = [v] ∧ Mx H v M ∧ 1 ≤ n ∧ n ≤ 3 ∧ Sq n M ∧ ∀ v' H', Same H H' → RowV H' v' (polyM n M) → Q v' H'
abbrev st_pol_of : Stmt := top 31
abbrev N_pol : List Str := ["rows", "whole", "trace", "middle", "at"]
theorem sc_pol_of : FnScope N_pol ["rows"] (defScope st_pol_of) := ⟨rfl, rfl, rfl, by decide +kernel, rfl, by decide +kernel, by decide +kernel⟩
theorem ok_pol_of {f : Addr} {fd : FuncData} (F : Fun K "polynomial_of" "polynomial_of" st_pol_of f fd) (T : Txt mg) (D1 : ∀ n, Def P w K mg base "determinant_of" (2 * n + 1) ["rows"] (sp_det n)) (D2 : Def P w K mg base "trace_of" 1 ["rows"] sp_trace_of)
    (D3 : ∀ n, Def P w K mg base "cofactor" (2 * n + 2) ["rows", "at", "place"] (sp_cof n)) : FnOk P w K mg base CX0 8 f fd ["rows"] sp_pol_of := by
  refine F.ok sc_pol_of (fun vs H Q E h => ?_) (fun cdv A outer s H vs Q E hr h => ?_)
  · obtain ⟨v, M, n, rfl, _⟩ := h
    rfl
  · obtain ⟨v, M, n, rfl, hv, h1, h3, hS, q⟩ := h
    refine ⟨_, pss_cons (ps_par (i := 1) (j := 2) rfl sc_pol_of.nd rfl rfl (by decide) rfl rfl (pa_cons (pe_def (D1 n) hr (pa_cons (pv 0) pa_nil) (by omega)) (pa_cons (pe_def D2 hr (pa_cons (pv 0) pa_nil)) pa_nil)) (by rfl))
      (pss_cons (ps_if (pt_cmpR op_eq (pe_callB (r := Dn.rLen K) c_len (by rfl) T.len PySem.boot_len (pa_cons (pv 0) pa_nil)) pe_int (nomark _)) (pss_one (ps_ret (pe_tup (pa_cons (pe_un un_neg (pv 1)) (pa_cons pe_int pa_nil))))) pss_nil)
      (pss_cons (ps_if (pt_cmpR op_eq (pe_callB (r := Dn.rLen K) c_len (by rfl) T.len PySem.boot_len (pa_cons (pv 0) pa_nil)) pe_int (nomark _)) (pss_one (ps_ret (pe_tup (pa_cons (pv 1) (pa_cons (pe_un un_neg (pv 2)) (pa_cons pe_int pa_nil)))))) pss_nil)
      (pss_cons (ps_set (i := 3) sc_pol_of.nd rfl (Or.inl rfl) (pe_callB (cr_sum rfl) (by rfl) T.sum boot_sum (pa_cons (pe_lc (own := [("at", 4)]) (g := gName 4) (tt := tYes) rfl sc_pol_of.nd (pi_range1 (by rfl) T.range (pa_cons pe_int pa_nil))
          (blkOk_by (N := N_pol) (sc := defScope st_pol_of) (by decide +kernel))
          (fun _ _ _ _ _ => pg_name (i := 4) sc_pol_of.nd rfl (Or.inl rfl) (Or.inr rfl)) (fun _ _ _ _ _ => pts_nil)
          (fun _ _ _ _ _ => pe_def (X := Cx.blk _ _ _ _ _ _) (D3 2) hr (pa_cons (pv 0) (pa_cons (pv 4) (pa_cons (pv 4) pa_nil))) (by omega))) pa_nil)))
      (pss_one (ps_ret (pe_tup (pa_cons (pe_un un_neg (pv 1)) (pa_cons (pv 3) (pa_cons (pe_un un_neg (pv 2)) (pa_cons pe_int pa_nil)))))))))), ?_⟩
    have hl := hS.len
    refine r_seq (r_par2 (r_cons (a1 ?_)))
    refine ⟨_, rfl, v, M, rfl, hv, by omega, hS, fun H1 s1 => ?_⟩
    have hv1 := hv.mono (KS.of s1)
    refine r_cons (a1 ?_)
    refine ⟨_, rfl, v, M, n, rfl, hv1, ⟨hS.len, hS.row⟩, h3, fun H3 s2 => ?_⟩
    have hv3 := hv1.mono (KS.of s2)
    refine ⟨_, _, rfl, ?_⟩
    have S := s1.trans s2
    obtain ⟨a, vx, rfl, ha, hR⟩ := id hv3
    have hvl : vx.length = n := by rw [hR.len]; exact hl
    refine r_next (r_nif ?_)
    refine ⟨_, rfl, a, vx, rfl, .inr (.inl (.inl ha)), rfl, _, rfl, ?_⟩
    by_cases e1 : n = 1
    · rw [decide_eq_true (show V.int (vx.length : Int) = V.int 1 by rw [hvl, e1]; rfl)]
      refine iteT ?_
      refine r_ret (r_tup ?_)
      refine ⟨_, rfl, _, rfl, (by show 2 ≤ sizeLine; decide), fun p np => ?_⟩
      refine q _ _ (S.trans (same_new np)) ⟨p, rfl, ?_⟩
      rw [upd_same]
      unfold polyM
      rw [if_pos e1, e1]
      rfl
    rw [decide_eq_false (show ¬ V.int (vx.length : Int) = V.int 1 from fun e => e1 (by have := V.int.inj e; omega))]
    refine iteF (r_next (r_nif ?_))
    refine ⟨_, rfl, a, vx, rfl, .inr (.inl (.inl ha)), rfl, _, rfl, ?_⟩
    by_cases e2 : n = 2
    · rw [decide_eq_true (show V.int (vx.length : Int) = V.int 2 by rw [hvl, e2]; rfl)]
      refine iteT ?_
      refine r_ret (r_tup ?_)
      refine ⟨_, rfl, _, rfl, _, rfl, (by show 3 ≤ sizeLine; decide), fun p np => ?_⟩
      refine q _ _ (S.trans (same_new np)) ⟨p, rfl, ?_⟩
      rw [upd_same]
      unfold polyM
      rw [if_neg e1, if_pos e2, e2]
      rfl
    rw [decide_eq_false (show ¬ V.int (vx.length : Int) = V.int 2 from fun e => e2 (by have := V.int.inj e; omega))]
    obtain rfl : n = 3 := by omega
    refine iteF (r_next (r_nseq (r_asg ?_)))
    refine r_cb (r_cons ?_)
    refine tlc_of (Itr 0 3) (H1 := H3) (fun R hR => ⟨_, rfl, by decide, by decide, hR⟩) ?_
    refine lc_el (p := none) 3 (fun i v => v = .int (cofM 2 M i i)) has_none (by omega) (fun i H4 hi s4 => hi) (fun H4 s4 => Nat.le_refl _) (fun i x H4 H5 C' hi s4 _ hy hC => ?_) fun Da H4 rs nD s4 hD hrl hE => ?_
    · obtain ⟨rfl, rfl⟩ := hy
      have ei : (0 : Int) + (i : Int) = (i : Int) := by omega
      rw [ei]
      refine ⟨rfl, ?_⟩
      refine a3 ?_
      refine ⟨_, rfl, _, rfl, _, rfl, _, M, i, i, rfl, hv3.mono (KS.of s4.same), by omega, hS, by omega, by omega, fun H6 s6 => ?_⟩
      exact hC _ _ (RX.of s6) rfl
    · have er' : rs = (List.range 3).map fun k => V.int (cofM 2 M k k) := map_of_get (n := 0) _ (by rw [hrl, List.length_range]) fun i v e => by
        have hi : i < 3 := by rw [← hrl]; exact (List.getElem?_eq_some_iff.mp e).1
        exact ⟨i, List.getElem?_range hi, hE i v e⟩
      refine ⟨Da, (List.range 3).map fun k => cofM 2 M k k, rfl, .inl (.inl ?_), ?_⟩
      · rw [hD, er', List.map_map]
        rfl
      · refine r_nret (r_tup ?_)
        refine ⟨_, rfl, _, rfl, _, rfl, _, rfl, _, rfl, (by show 4 ≤ sizeLine; decide), fun p np => ?_⟩
        refine q _ _ (S.trans (s4.same.trans (same_new np))) ⟨p, rfl, ?_⟩
        rw [upd_same]
        unfold polyM midM
        rw [if_neg (by decide), if_neg (by decide)]
        simp [List.range_succ]
        omega
end
end T22
set_option Elab.async false
set_option linter.all false
set_option maxRecDepth 100000
set_option maxHeartbeats 4000000
namespace T22
open PySem PySem.Spec PyProof.Rows L2 Gd Zn Rp Dn Tb Gn En Zs Ct Op Oc Rg Rt Ro Oa
def Bowl (n : Nat) (M : List (List Int)) : Prop := ∀ i, i < n → 0 < dC M i
instance (n : Nat) (M : List (List Int)) : Decidable (Bowl n M) := inferInstanceAs (Decidable (∀ i, i < n → 0 < dC M i))
def kpt (l : List Int) : List Int := l.filter fun x => decide (x ≠ 0)
def chgT (k : List Int) (i : Nat) : Bool := decide (k.getD i 0 > 0) != decide (k.getD (i + 1) 0 > 0)
def sgA (l : List Int) : Nat := ((List.range ((kpt l).length - 1)).filter (chgT (kpt l))).length
def IsZ (l : List Int) (z : Nat) : Prop := z < l.length ∧ l.getD z 0 ≠ 0 ∧ ∀ i, i < z → l.getD i 0 = 0
theorem filter_ints (l : List Int) (m : Nat) (hm : m ≤ l.length) : ((List.range m).filter fun i => decide (l.getD i 0 ≠ 0)).map (fun i => V.int (l.getD i 0)) = (kpt (l.take m)).map V.int := by
  induction m with
  | zero => simp [kpt]
  | succ m ih =>
    have hm' : m < l.length := hm
    rw [List.range_succ, List.filter_append, List.map_append, ih (by omega), List.take_add_one, List.getElem?_eq_getElem hm']
    unfold kpt
    rw [List.filter_append, List.map_append]
    have e : l.getD m 0 = l[m] := by rw [List.getD_eq_getElem?_getD, List.getElem?_eq_getElem hm']; rfl
    congr 1
    by_cases z : l[m] = 0
    · have : l.getD m 0 = 0 := by rw [e, z]
      rw [List.filter_cons_of_neg (by simp only [this]; decide), Option.toList_some, List.filter_cons_of_neg (by simp only [z]; decide)]
      rfl
    · have : l.getD m 0 ≠ 0 := by rw [e]; exact z
      rw [List.filter_cons_of_pos (by simp only [decide_eq_true_eq]; exact this), Option.toList_some, List.filter_cons_of_pos (by simp only [decide_eq_true_eq]; exact z)]
      show [V.int (l.getD m 0)] = [V.int l[m]]
      rw [e]
section
variable {P : Program} {w : World} {K : PySem.W.Frag} {mg : Str → Option Value} {base : Heap} {C : Addr}
abbrev st_sg : Stmt := top 40
abbrev N_sg : List Str := ["form", "numbers", "kept", "above", "nought", "number", "at"]
theorem sc_sg : FnScope N_sg ["form"] (defScope st_sg) := ⟨rfl, rfl, rfl, by decide +kernel, rfl, by decide +kernel, by decide +kernel⟩
def sp_sg (C : Addr) : Sp := fun vs H Q _ => ∃ v M, ∃ n b : Nat, vs = [v] ∧ Fv C H v n b M ∧ b ≤ 5000 ∧ ∀ p H' z, Same H H' → IsZ (polyM n M) z → H' p = some (.tup [.int (sgA (polyM n M)), .int ((n : Int) - sgA (polyM n M) - z), .int z]) → Q (.ref p) H'
theorem poly_len {n : Nat} {M : List (List Int)} (h1 : 1 ≤ n) (h3 : n ≤ 3) : (polyM n M).length = n + 1 := by
  have : n = 1 ∨ n = 2 ∨ n = 3 := by omega
  rcases this with rfl | rfl | rfl <;> rfl
theorem poly_last {n : Nat} {M : List (List Int)} (h1 : 1 ≤ n) (h3 : n ≤ 3) : (polyM n M).getD n 0 = 1 := by
  have : n = 1 ∨ n = 2 ∨ n = 3 := by omega
  rcases this with rfl | rfl | rfl <;> rfl
theorem ok_sg {f : Addr} {fd : FuncData} (F : Fun K "signs" "signs" st_sg f fd) (T : Txt mg) (hmin : mg "min" = none) (Fc : Fcl K mg C) (D1 : Def P w K mg base "check_form" 1 ["form"] (sp_check_form C)) (D2 : Def P w K mg base "polynomial_of" 8 ["rows"] sp_pol_of) (D3 : Prp P w K mg base C "rows" 1 (sp_rows C)) (D4 : Prp P w K mg base C "size" 1 (sp_size C)) :
    FnOk P w K mg base CX0 9 f fd ["form"] (sp_sg C) := by
  refine F.ok sc_sg (fun vs H Q E h => ?_) (fun cdv A outer s H vs Q E hr h => ?_)
  · obtain ⟨v, M, n, b, rfl, _⟩ := h
    rfl
  · obtain ⟨v, M, n, b, rfl, hv, lb, q⟩ := h
    refine ⟨_, pss_cons (ps_expr (pe_def D1 hr (pa_cons (pv 0) pa_nil)))
      (pss_cons (ps_set (i := 1) sc_sg.nd rfl (Or.inl rfl) (pe_def D2 hr (pa_cons (pe_prp D3 Fc.cl hr (pv 0)) pa_nil)))
      (pss_cons (ps_set (i := 2) sc_sg.nd rfl (Or.inr rfl) (pe_lc (own := [("number", 5)]) (g := gName 5) rfl sc_sg.nd (pi_seq (pv 1))
        (blkOk_by (N := N_sg) (sc := defScope st_sg) (by decide +kernel)) (fun _ _ _ _ _ => pg_name (i := 5) sc_sg.nd rfl (Or.inl rfl) (Or.inr rfl)) (fun _ _ _ _ _ => pts_one (pt_cmpR op_ne (pv 5) pe_int (nomark _))) (fun _ _ _ _ _ => pv 5)))
      (pss_cons (ps_set (i := 3) sc_sg.nd rfl (Or.inl rfl) (pe_callB (r := Dn.rLen K) c_len (by rfl) T.len PySem.boot_len (pa_cons (pe_lc (own := [("at", 6)]) (g := gName 6) rfl sc_sg.nd (pi_range2 (by rfl) T.range (pa_cons pe_int (pa_cons (pe_callB (r := Dn.rLen K) c_len (by rfl) T.len PySem.boot_len (pa_cons (pv 2) pa_nil)) pa_nil)))
        (blkOk_by (N := N_sg) (sc := defScope st_sg) (by decide +kernel)) (fun _ _ _ _ _ => pg_name (i := 6) sc_sg.nd rfl (Or.inl rfl) (Or.inr rfl))
        (fun _ _ _ _ _ => pts_one (pt_cmpR op_ne (pe_cmpR op_gt (pe_ix (r := rIxS2 K) ix_sq (pv 2) (pe_op op_sub (pv 6) pe_int) (fun _ _ => rfl)) pe_int (nomark _)) (pe_cmpR op_gt (pe_ix (r := rIxS2 K) ix_sq (pv 2) (pv 6) (fun _ _ => rfl)) pe_int (nomark _)) (nomark _))) (fun _ _ _ _ _ => pv 6)) pa_nil)))
      (pss_cons (ps_set (i := 4) sc_sg.nd rfl (Or.inl rfl) (pe_callB (cr_min rfl) (by rfl) hmin boot_min (pa_cons (pe_lc (own := [("at", 6), ("number", 5)]) (g := gTup K 2 (gCons (gName 6) (gCons (gName 5) gNil))) rfl sc_sg.nd (pi_enumS (by rfl) T.enum (pa_cons (pv 1) pa_nil))
        (blkOk_by (N := N_sg) (sc := defScope st_sg) (by decide +kernel)) (fun _ _ _ _ _ => pg_tup rfl (pgs_cons (pg_name (i := 6) sc_sg.nd rfl (Or.inl rfl) (Or.inr rfl)) (pgs_cons (pg_name (i := 5) sc_sg.nd rfl (Or.inl rfl) (Or.inr rfl)) pgs_nil)))
        (fun _ _ _ _ _ => pts_one (pt_cmpR op_ne (pv 5) pe_int (nomark _))) (fun _ _ _ _ _ => pv 6)) pa_nil)))
      (pss_one (ps_ret (pe_tup (pa_cons (pv 3) (pa_cons (pe_op op_sub (pe_op op_sub (pe_prp D4 Fc.cl hr (pv 0)) (pv 3)) (pv 4)) (pa_cons (pv 4) pa_nil))))))))))
      , ?_⟩
    have h1 := hv.h1
    have h3 := hv.h3
    refine ⟨_, rfl, v, M, rfl, hv.tab, ?_⟩
    obtain ⟨p0, dx0, r0, rfl, hp0, hM0⟩ := id hv.tab
    refine r_next (r_nseq (r_asg (a1 ⟨_, rfl, p0, dx0, _, rfl, hp0, .ref p0, M, rfl, hv.tab, fun r hr' => ?_⟩)))
    refine ⟨r, M, n, rfl, hr', h1, h3, hv.bd.sq (by omega), fun v1 H1 s1 m1 => ?_⟩
    obtain ⟨pa, rfl, hpa⟩ := m1
    have lp := poly_len (M := M) h1 h3
    have ll := poly_last (M := M) h1 h3
    generalize polyM n M = l at hpa lp ll q
    have qa : ∀ H', Same H1 H' → SqV K H' true pa (l.map V.int) := fun H' u => .inl (.inl (u _ _ hpa))
    have ga : ∀ i, i < n + 1 → (l.map V.int)[i]? = some (V.int (l.getD i 0)) := fun i hi => by
      rw [List.getElem?_map, List.getElem?_eq_getElem (by omega : i < l.length), List.getD_eq_getElem?_getD, List.getElem?_eq_getElem (by omega : i < l.length)]
      rfl
    refine r_next (r_nseq (r_asg (tlc_call ⟨_, rfl, true, pa, _, rfl, qa _ (Same.refl _), ?_⟩)))
    refine lc_if (p := none) (n + 1) (fun i => decide (l.getD i 0 ≠ 0)) (fun i => V.int (l.getD i 0)) has_none (by omega) (fun i H2 hi s2 => its_go (t := true) (qa _ s2.same) (ga i hi)) (fun H2 s2 => its_stop (t := true) (qa _ s2.same) (by rw [List.length_map, lp]; exact Nat.le_refl _)) (fun i x H2 H3 C1 C0 hi s2 _ hy hC hC0 => ?_) fun Dk H2 nDk s2 hDk => ?_
    · obtain ⟨e2, ex⟩ := its_yld (t := true) hy (qa _ s2.same)
      subst e2
      rw [ga i hi] at ex
      cases ex
      refine ⟨rfl, _, rfl, rfl, _, rfl, ?_⟩
      by_cases z : l.getD i 0 = 0
      · rw [show (!decide (V.int (l.getD i 0) = V.int 0)) = false by rw [z]; rfl]
        exact iteF (hC0 _ (RX.refl _) (by simp only [z]; decide))
      · rw [show (!decide (V.int (l.getD i 0) = V.int 0)) = true by rw [decide_eq_false (fun e => z (V.int.inj e))]; rfl]
        exact iteT ⟨_, rfl, hC _ (RX.refl _) (by simp only [decide_eq_true_eq]; exact z)⟩
    · rw [filter_ints l (n + 1) (by omega), List.take_of_length_le (by omega)] at hDk
      have hk : sgA l = ((List.range ((kpt l).length - 1)).filter (chgT (kpt l))).length := rfl
      have lk : (kpt l).length ≤ n + 1 := by rw [← lp]; exact List.length_filter_le _ _
      generalize kpt l = k at hDk hk lk
      have qk : ∀ H', Same H2 H' → SqV K H' false Dk (k.map V.int) := fun H' u => .inl (.inl (u _ _ hDk))
      have S2 := s1.trans s2.same
      refine r_next (r_nseq (r_asg (cb1 (tlc_call ⟨_, rfl, Dk, _, rfl, .inl (.inl (.inl hDk)), 1, _, rfl, ⟨by omega, by omega, by omega, by rw [List.length_map]; omega⟩, ?_⟩))))
      rw [show ((((k.map V.int).length : Nat) : Int) - 1).toNat = k.length - 1 by rw [List.length_map]; omega]
      refine lc_if (p := none) (k.length - 1) (chgT k) (fun i => V.int (1 + (i : Int))) has_none (by omega) (fun i H3 hi s3 => hi) (fun H3 s3 => Nat.le_refl _) (fun i x H3 H4 C1 C0 hi s3 _ hy hC hC0 => ?_) fun Da H3 nDa s3 hDa => ?_
      · obtain ⟨rfl, rfl⟩ := hy
        refine ⟨rfl, r_tt (r_op (r_op (r_op ⟨_, rfl, r_op ⟨_, rfl, _, _, rfl, rfl, ?_⟩⟩)))⟩
        refine ⟨false, Dk, k.map V.int, (i : Int), V.int (k.getD i 0), rfl, congrArg V.int (by omega), qk _ s3.same, ixL (by omega), _, _, rfl, rfl, r_op (r_op ⟨_, rfl, _, rfl, ?_⟩)⟩
        refine ⟨false, Dk, k.map V.int, ((i + 1 : Nat) : Int), V.int (k.getD (i + 1) 0), rfl, congrArg V.int (by omega), qk _ s3.same, ixL (by omega), _, _, rfl, rfl, rfl, _, rfl, ?_⟩
        have ec : chgT k i = (!decide (V.bl (decide (k.getD i 0 > 0)) = V.bl (decide (k.getD (i + 1) 0 > 0)))) := by
          unfold chgT
          cases decide (k.getD i 0 > 0) <;> cases decide (k.getD (i + 1) 0 > 0) <;> rfl
        show (if (!decide (V.bl (decide (k.getD i 0 > 0)) = V.bl (decide (k.getD (i + 1) 0 > 0)))) = true then _ else _)
        rw [← ec]
        cases hc : chgT k i with
        | true => exact iteT ⟨_, rfl, hC _ (RX.refl _) hc⟩
        | false => exact iteF (hC0 _ (RX.refl _) hc)
      · have S3 := S2.trans s3.same
        refine ⟨Da, _, rfl, .inl (.inl (.inl hDa)), ?_⟩
        rw [List.length_map, ← hk]
        have qa3 : ∀ H', Same H3 H' → SqV K H' true pa (l.map V.int) := fun H' u => qa _ (s2.same.trans (s3.same.trans u))
        refine r_next (r_nseq (r_asg (cb1 (tlc_call ⟨_, rfl, true, pa, _, rfl, qa3 _ (Same.refl _), ?_⟩))))
        refine lc_if (p := none) (n + 1) (fun i => decide (l.getD i 0 ≠ 0)) (fun i => V.int (i : Nat)) has_none (by omega) (fun i H4 hi s4 => ⟨_, _, qa3 H4 s4.same, ga i hi⟩) (fun H4 s4 => ⟨_, qa3 H4 s4.same, by rw [List.length_map, lp]; exact Nat.le_refl _⟩) (fun i x H4 H5 C1 C0 hi s4 _ hy hC hC0 => ?_) fun Dn' H4 nDn s4 hDn => ?_
        · obtain ⟨T2, y, rfl, nT, rfl, hu⟩ := hy
          have ey := hu _ (qa3 H4 s4.same)
          rw [ga i hi] at ey
          cases ey
          refine ⟨T2, _, rfl, .inl (.inl upd_same), rfl, _, _, rfl, _, _, rfl, rfl, rfl, ?_⟩
          refine ⟨_, rfl, rfl, _, rfl, ?_⟩
          by_cases z : l.getD i 0 = 0
          · rw [show (!decide (V.int (l.getD i 0) = V.int 0)) = false by rw [z]; rfl]
            exact iteF (hC0 _ (RX.new nT) (by simp only [z]; decide))
          · rw [show (!decide (V.int (l.getD i 0) = V.int 0)) = true by rw [decide_eq_false (fun e => z (V.int.inj e))]; rfl]
            exact iteT ⟨_, rfl, hC _ (RX.new nT) (by simp only [decide_eq_true_eq]; exact z)⟩
        · have S4 := S3.trans s4.same
          have emem : ∀ m : Int, m ∈ (((List.range (n + 1)).filter fun i => decide (l.getD i 0 ≠ 0)).map fun i : Nat => (i : Int)) ↔ ∃ z : Nat, z < n + 1 ∧ l.getD z 0 ≠ 0 ∧ (z : Int) = m := fun m => by
            rw [List.mem_map]
            constructor
            · rintro ⟨z, hz, e⟩
              rw [List.mem_filter, List.mem_range, decide_eq_true_eq] at hz
              exact ⟨z, hz.1, hz.2, e⟩
            · rintro ⟨z, a, b, e⟩
              exact ⟨z, by rw [List.mem_filter, List.mem_range, decide_eq_true_eq]; exact ⟨a, b⟩, e⟩
          refine ⟨Dn', ((List.range (n + 1)).filter fun i => decide (l.getD i 0 ≠ 0)).map fun i : Nat => (i : Int), rfl, .inl (.inl (by rw [hDn, List.map_map]; rfl)), ?_, fun m hm hle => ?_⟩
          · have : (n : Int) ∈ (((List.range (n + 1)).filter fun i => decide (l.getD i 0 ≠ 0)).map fun i : Nat => (i : Int)) := (emem _).mpr ⟨n, by omega, by rw [ll]; decide, rfl⟩
            exact List.length_pos_of_mem this
          · obtain ⟨z, hz, z0, rfl⟩ := (emem m).mp hm
            have isz : IsZ l z := ⟨by omega, z0, fun i hi => Classical.byContradiction fun c => by
              have := hle _ ((emem (i : Int)).mpr ⟨i, by omega, c, rfl⟩)
              omega⟩
            refine r_next (r_nret (r_tup ⟨_, rfl, r_cons (r_op (r_op ⟨_, rfl, p0, dx0, _, rfl, S4 _ _ hp0, .ref p0, M, rfl, hv.tab.same S4, ?_⟩))⟩))
            rw [hv.len]
            refine ⟨_, rfl, _, _, rfl, rfl, _, rfl, _, _, rfl, rfl, _, rfl, (by show 3 ≤ sizeLine; decide), fun t nt => ?_⟩
            exact q t _ z (S4.trans (same_new nt)) isz upd_same
end
end T22
set_option Elab.async false
set_option linter.all false
set_option maxRecDepth 100000
set_option maxHeartbeats 4000000
namespace T22
open PySem PySem.Spec PyProof.Rows L2 Gd Zn Rp Dn Tb Gn En Zs Ct Op Oc Rg Rt Ro Oa
/-- a global name that stands for a built-in -/
theorem pe_callV {X : Cx} {x : Str} {id : String} {r : List V → Hp → VK → Prop} {e : Expr} {es : List Expr} {t : TA} {p pos : Pos} (hc : CallR X (.builtin id) r) (hg : Gl X x) (hm : X.mg x = some (.builtin id)) (ha : PA X (e :: es) t) (hdb : (x == ("__debug__" : Str)) = false := by decide)
    (he : starEach (e :: es) X.env = (false, eval e X.env) :: starEach es X.env := by rfl) (hpl : (backTo pos (starEach es X.env)).any (·.1) = false := by rfl) : PE X (.Call (.Name x p) (e :: es) [] pos) (tCB r t) := by
  refine ⟨fun pins s σ H Q I h => ?_⟩
  refine wpAny_Call_Name_kw (ld_glob I hg hm ?_ hdb)
  exact callWith_method1 (thn (ha.run pos pins s σ H _ I h) fun us s1 ⟨vs, H1, I1, rv, q⟩ => hc pins s1 σ H1 vs us Q I1 rv q) he hpl
end T22
set_option Elab.async false
set_option linter.all false
set_option maxRecDepth 100000
set_option maxHeartbeats 4000000
namespace T22
open PySem PySem.Spec PyProof.Rows L2 Gd Zn Rp Dn Tb Gn En Zs Ct Op Oc Rg Rt Ro Oa
theorem ints_El {xs : List V} {R : Int → Prop} (h : ∀ (i : Nat) v, xs[i]? = some v → ∃ x : Int, v = .int x ∧ R x) : ∃ zs : List Int, xs = zs.map V.int ∧ ∀ x ∈ zs, R x := by
  induction xs with
  | nil => exact ⟨[], rfl, fun x hx => by cases hx⟩
  | cons r rs ih =>
    obtain ⟨x, rfl, hb⟩ := h 0 r rfl
    obtain ⟨zs, rfl, hbs⟩ := ih fun i v e => h (i + 1) v e
    refine ⟨x :: zs, rfl, fun y hy => ?_⟩
    rcases List.mem_cons.mp hy with rfl | hy
    · exact hb
    · exact hbs y hy
theorem eqv_rowsL : ∀ (M N : List (List Int)), PyData.eqvAll (M.map fun r => .list (iD r)) (N.map fun r => .list (iD r)) = decide (M = N)
  | [], [] => by simp [PyData.eqvAll]
  | [], _ :: _ => by simp [PyData.eqvAll]
  | _ :: _, [] => by simp [PyData.eqvAll]
  | x :: r, y :: t => by
    rw [List.map_cons, List.map_cons, PyData.eqvAll, eqv_rowsL r t, PyData.eqv]
    unfold iD
    rw [eqv_row]
    by_cases h : x = y <;> by_cases h2 : r = t <;> simp [h, h2]
theorem eqv_lm (M N : List (List Int)) : (lmD M).eqv (lmD N) = decide (M = N) := by
  show (PyData.list (M.map fun r => .list (iD r))).eqv (PyData.list (N.map fun r => .list (iD r))) = _
  rw [PyData.eqv, eqv_rowsL]
theorem dp_pys {K : PySem.W.Frag} {H : Hp} : ∀ {M : List (List Int)} {vs : List V}, PyVs H vs (M.map fun r => .list (iD r)) → DpAll K H vs (M.map fun r => .list (iD r))
  | [], _, .nil => .nil
  | r :: M, _, .cons h t => by
    obtain ⟨a, rfl, ha⟩ := li_at h
    exact .cons (.lst (.inl (.inl ha)) (dp_ints r)) (dp_pys t)
theorem dp_lm {K : PySem.W.Frag} {H : Hp} {v : V} {M : List (List Int)} (h : PyV H v (lmD M)) : Dp K H v (lmD M) := by
  unfold lmD at h ⊢
  cases h with
  | lst e q => exact .lst (.inl (.inl e)) (dp_pys q)
theorem depth_rowsL (M : List (List Int)) : PyData.depthAll (M.map fun r => .list (iD r)) ≤ 1 := by
  induction M with
  | nil => simp [PyData.depthAll]
  | cons x r ih =>
    rw [List.map_cons, PyData.depthAll, PyData.depth]
    unfold iD at ih ⊢
    rw [depth_row]
    omega
theorem lay_rowsL (M : List (List Int)) : PyData.canLayAll0 (M.map fun r => .list (iD r)) = true := by
  induction M with
  | nil => simp [PyData.canLayAll0]
  | cons x r ih =>
    rw [List.map_cons, PyData.canLayAll0, ih, PyData.canLay0]
    unfold iD
    rw [lay_row]
    rfl
theorem shaped_lm (M : List (List Int)) : SeqAt.shaped (lmD M) = true := by
  show SeqAt.shaped (PyData.list (M.map fun r => .list (iD r))) = true
  unfold SeqAt.shaped
  rw [PyData.canLay0, lay_rowsL, PyData.depth]
  have := depth_rowsL M
  simp
  omega
theorem r_eqLm {K : PySem.W.Frag} {H : Hp} {x y : V} {M N : List (List Int)} {Q : VK} (hx : PyV H x (lmD M)) (hy : PyV H y (lmD N)) (q : Q (.bl (decide (M = N))) H) : rEqD K x y H Q := by
  refine ⟨lmD M, lmD N, dp_lm hx, dp_lm hy, shaped_lm M, shaped_lm N, ?_⟩
  rw [eqv_lm]
  exact q
structure NewM (H H' : Hp) (D : Addr) (M : List (List Int)) : Prop where
  py : PyV H' (.ref D) (lmD M)
  hid : ∀ p, H p ≠ none → PyV (Dn.hid (some p) H') (.ref D) (lmD M)
theorem NewM.to {H H' H2 : Hp} {D : Addr} {M : List (List Int)} (h : NewM H H' D M) (s : Same H' H2) : NewM H H2 D M := ⟨h.py.mono s, fun p hp => PyV.mono (RX.of (p := some p) s).hid (h.hid p hp)⟩
theorem Same.some_ {H H' : Hp} (s : Same H H') : ∀ p, H p ≠ none → H' p ≠ none := fun p hp e => by
  cases h : H p with
  | none => exact hp h
  | some o => rw [s p o h] at e; cases e
def totM (n : Nat) (M : List (List Int)) (r : List Int) (i : Nat) : Int := ((List.range i).map fun k => r.getD k 0 * cofM n M 0 k).sum
theorem tot_succ (n : Nat) (M : List (List Int)) (r : List Int) (i : Nat) : totM n M r (i + 1) = totM n M r i + r.getD i 0 * cofM n M 0 i := by
  unfold totM
  rw [List.range_succ, List.map_append, List.sum_append]
  simp
theorem cof_sg (n : Nat) (M : List (List Int)) (x : Int) (i : Nat) : x * cofM n M 0 i = if i % 2 = 0 then x * detM n (outM M 0 i) else 0 - x * detM n (outM M 0 i) := by
  unfold cofM
  rw [Nat.zero_add]
  split <;> grind
section
variable {P : Program} {w : World} {K : PySem.W.Frag} {mg : Str → Option Value} {base : Heap} {C : Addr}
abbrev st_mi : Stmt := top 52
abbrev N_mi : List Str := ["_law_rows_here", "_law_total", "_law_place", "_law_part", "_law_row"]
theorem sc_mi : FnScope N_mi ["_law_rows_here"] (defScope st_mi) := ⟨rfl, rfl, rfl, by decide +kernel, rfl, by decide +kernel, by decide +kernel⟩
def sp_mi (n : Nat) : Sp := fun vs H Q _ => ∃ v M, vs = [v] ∧ PyV H v (lmD M) ∧ n ≤ 3 ∧ Sq n M ∧ ∀ H', Same H H' → Q (.int (detM n M)) H'
theorem ok_mi0 {f : Addr} {fd : FuncData} (F' : Fun K "_law_minor" "_law_minor" st_mi f fd) (T : Txt mg) : FnOk P w K mg base CX0 1 f fd ["_law_rows_here"] (sp_mi 0) := by
  refine F'.ok sc_mi (fun vs H Q E h => ?_) (fun cdv A outer s H vs Q E hr h => ?_)
  · obtain ⟨v, M, rfl, _⟩ := h
    rfl
  · obtain ⟨v, M, rfl, hv, hn, hS, q⟩ := h
    refine ⟨_, pss_cons (ps_if (pt_cmpR (op_eqD hr.units) (pv 0) (pe_lst pa_nil) (nomark _)) (pss_one (ps_ret pe_int)) pss_nil) pss_dead, ?_⟩
    have e : M = [] := List.length_eq_zero_iff.mp hS.len
    subst e
    refine r_seq (r_if (r_tt (r_op ⟨_, rfl, r_lst ⟨Nat.zero_le _, fun l nl => ?_⟩⟩)))
    have s1 : Same H (upd H l (.lst [])) := same_new nl
    refine r_eqLm (M := []) (N := []) (PyV.mono s1 hv) (.lst upd_same .nil) ⟨_, rfl, ?_⟩
    rw [decide_eq_true rfl]
    refine iteT ?_
    have := q _ s1
    unfold detM at this
    exact this
theorem ok_miS {f : Addr} {fd : FuncData} (n : Nat) (F' : Fun K "_law_minor" "_law_minor" st_mi f fd) (T : Txt mg) (D1 : Def P w K mg base "_law_minor" (n + 1) ["_law_rows_here"] (sp_mi n)) : FnOk P w K mg base CX0 (n + 2) f fd ["_law_rows_here"] (sp_mi (n + 1)) := by
  refine F'.ok sc_mi (fun vs H Q E h => ?_) (fun cdv A outer s H vs Q E hr h => ?_)
  · obtain ⟨v, M, rfl, _⟩ := h
    rfl
  · obtain ⟨v, M, rfl, hv, hn, hS, q⟩ := h
    obtain ⟨a, as, rfl, ha, hal, hae⟩ := lm_at hv
    refine ⟨_, pss_cons (ps_if (pt_cmpR (op_eqD hr.units) (pv 0) (pe_lst pa_nil) (nomark _)) pss_dead pss_nil)
      (pss_cons (ps_set (i := 1) sc_mi.nd rfl (Or.inl rfl) pe_int)
      (pss_cons (ps_for PassesOwn.never rfl (pi_range1 (by rfl) T.range (pa_cons (pe_callB (r := Dn.rLen K) c_len (by rfl) T.len PySem.boot_len (pa_cons (pv 0) pa_nil)) pa_nil)) (pg_name (i := 2) sc_mi.nd rfl (Or.inr rfl))
        (pss_cons (ps_set (i := 3) sc_mi.nd rfl (Or.inl rfl) (pe_def D1 hr (pa_cons (pe_lc (own := [("_law_row", 4)]) (wi := iSeq K (tSl (rSlL K) (tVar 0) (tPart (tC (.int 1))) tNoPart)) (g := gName 4) (tt := tYes)
            (te := tOp L2.rCat (tSl (rSlL K) (tVar 4) tNoPart (tPart (tVar 2))) (tSl (rSlL K) (tVar 4) (tPart (tOp (rI0 fun i j => .int (i + j)) (tVar 2) (tC (.int 1)))) tNoPart)) rfl sc_mi.nd
            (pi_seq (pe_slice sl_list (pv 0) (po_some pe_int) po_none)) (blkOk_by (N := N_mi) (sc := defScope st_mi) (by decide +kernel)) (fun _ _ _ _ _ => pg_name (i := 4) sc_mi.nd rfl (Or.inl rfl) (Or.inr rfl)) (fun _ _ _ _ _ => pts_nil)
            (fun _ _ _ _ _ => pe_op op_cat (pe_slice sl_list (pv 4) po_none (po_some (pv 2))) (pe_slice sl_list (pv 4) (po_some (pe_op op_add (pv 2) pe_int)) po_none))) pa_nil) (by omega)))
        (pss_one (ps_set (i := 1) sc_mi.nd rfl (Or.inl rfl) (pe_op op_add (pv 1) (pe_ifExp (pt_cmpR op_eq (pe_op op_mod (pe_callTy (r := rInt1) call_int1 (by rfl) T.int PyProof.Rows.boot_int (pa_cons (pv 2) pa_nil)) pe_int) pe_int (nomark _))
          (pe_op op_mulX (pe_ix ix_sq (pe_ix ix_sq (pv 0) pe_int (fun _ _ => rfl)) (pv 2) (fun _ _ => rfl)) (pv 3)) (pe_op op_sub pe_int (pe_op op_mulX (pe_ix ix_sq (pe_ix ix_sq (pv 0) pe_int (fun _ _ => rfl)) (pv 2) (fun _ _ => rfl)) (pv 3)))))))))
      (pss_one (ps_ret (pv 1))))), ?_⟩
    have as1 : as.length = n + 1 := by rw [hal]; exact hS.len
    have hvl : (as.map V.ref).length = n + 1 := by rw [List.length_map, as1]
    have neM : M ≠ [] := fun z => by have := hS.len; rw [z] at this; exact absurd this (by simp)
    refine r_seq (r_if (r_tt (r_op ⟨_, rfl, r_lst ⟨Nat.zero_le _, fun l nl => ?_⟩⟩)))
    have s1 : Same H (upd H l (.lst [])) := same_new nl
    have hl1 : upd H l (.lst []) l = some (.lst []) := upd_same
    generalize upd H l (.lst []) = H1 at s1 hl1
    refine r_eqLm (N := []) (PyV.mono s1 hv) (.lst hl1 .nil) ⟨_, rfl, ?_⟩
    rw [decide_eq_false neM]
    refine iteF ?_
    have e0 : as[0]? = some (as[0]'(by omega)) := List.getElem?_eq_getElem (by omega)
    have hb := hae 0 _ e0
    generalize as[0]'(by omega) = b at e0 hb
    have er : M[0]? = some (M.getD 0 []) := by
      have : 0 < M.length := by rw [hS.len]; omega
      rw [List.getD_eq_getElem?_getD, List.getElem?_eq_getElem this]; rfl
    have lr := hS.row _ (List.mem_of_getElem? er)
    have sr := hS.small _ (List.mem_of_getElem? er)
    generalize hr0 : M.getD 0 [] = r at hb lr sr er
    refine r_next (r_nseq (r_asg ?_))
    refine r_next (r_nseq (cb1 ⟨_, rfl, a, _, rfl, .inl (.inl (.inl (s1 _ _ ha))), ((n + 1 : Nat) : Int), by rw [hvl], by omega, by omega, ?_⟩))
    rw [Int.toNat_natCast]
    refine for_range (lo := 0) (n := n + 1) (fun i σ H' => ∃ x2 x3 x4, σ = [some (.ref a), some (.int (totM n M r i)), x2, x3, x4] ∧ Same H H') ⟨_, _, _, rfl, s1⟩ (fun i σ H' hi hP => ?_) (fun σ H' hP => ?_)
    · obtain ⟨x2, x3, x4, rfl, s3⟩ := hP
      rw [show (0 : Int) + (i : Int) = (i : Int) by omega]
      have hi' : i < r.length := by omega
      have eg : r.getD i 0 = r[i] := by rw [List.getD_eq_getElem?_getD, List.getElem?_eq_getElem hi']; rfl
      refine r_seq (r_asg (a1 (tlc_call ⟨_, rfl, _, rfl, a, _, rfl, .inl (.inl (s3 _ _ ha)), fun c nc => ?_⟩)))
      have sc : Same H' (upd H' c (.lst (cutV (as.map V.ref) (some 1) none))) := same_new nc
      have hc : upd H' c (.lst (cutV (as.map V.ref) (some 1) none)) c = some (.lst ((as.map V.ref).drop 1)) := by rw [upd_same, cutV_drop _ (by omega)]
      generalize upd H' c (.lst (cutV (as.map V.ref) (some 1) none)) = Hd at sc hc
      have s4 := s3.trans sc
      have dl : ((as.map V.ref).drop 1).length = n := by rw [List.length_drop, hvl]; omega
      have qc : ∀ H9, Same Hd H9 → SqV K H9 false c ((as.map V.ref).drop 1) := fun H9 s => .inl (.inl (s _ _ hc))
      have og : ∀ j, j < n → (outM M 0 i).getD j [] = cutAt i (M.getD (1 + j) []) := fun j hj => by
        have : 1 + j < M.length := by rw [hS.len]; omega
        rw [out0, List.getD_eq_getElem?_getD, List.getElem?_map, List.getElem?_drop, List.getElem?_eq_getElem this, List.getD_eq_getElem?_getD, List.getElem?_eq_getElem this]
        rfl
      refine ⟨false, c, (as.map V.ref).drop 1, rfl, qc _ (Same.refl _), ?_⟩
      refine lc_fresh (p := none) n (fun j => .lst (((outM M 0 i).getD j []).map V.int)) has_none (by omega) (fun j H5 hj s5 => its_go (qc H5 s5.same) (List.getElem?_eq_getElem (by omega))) (fun H5 s5 => its_stop (qc H5 s5.same) (by omega)) (fun j x H5 H6 C' hj s5 _ hy hC => ?_) fun Dl H9 ws nD s9 hD hwl hwE => ?_
      · obtain ⟨rfl, ex⟩ := its_yld hy (qc H5 s5.same)
        have lj : 1 + j < as.length := by omega
        have ea : as[1 + j]? = some as[1 + j] := List.getElem?_eq_getElem lj
        rw [List.getElem?_drop, List.getElem?_map, ea] at ex
        cases ex
        have hrow := hae _ _ ea
        have S5 := s4.trans s5.same
        have lrow : (M.getD (1 + j) []).length = n + 1 := by
          have : 1 + j < M.length := by rw [hS.len]; omega
          rw [List.getD_eq_getElem?_getD, List.getElem?_eq_getElem this]
          exact hS.row _ (List.getElem_mem this)
        generalize as[1 + j] = ra at hrow
        generalize hrw : M.getD (1 + j) [] = rw0 at hrow lrow
        refine ⟨rfl, _, rfl, _, rfl, _, rfl, ra, _, rfl, .inl (.inl (S5 _ _ hrow)), fun p1 np1 => ?_⟩
        rw [cutV_to rw0 i (by omega)] at *
        have u1 : Same H6 (upd H6 p1 (.lst ((rw0.take i).map V.int))) := same_new np1
        have y1 : upd H6 p1 (.lst ((rw0.take i).map V.int)) p1 = some (.lst ((rw0.take i).map V.int)) := upd_same
        generalize upd H6 p1 (.lst ((rw0.take i).map V.int)) = Hu at u1 y1
        refine ⟨_, rfl, _, rfl, _, _, rfl, rfl, _, rfl, ra, _, rfl, .inl (.inl (u1 _ _ (S5 _ _ hrow))), fun p2 np2 => ?_⟩
        rw [show ((i : Nat) : Int) + 1 = ((i + 1 : Nat) : Int) by omega, cutV_from rw0 (i + 1) (by omega)]
        have u2 : Same Hu (upd Hu p2 (.lst ((rw0.drop (i + 1)).map V.int))) := same_new np2
        refine ⟨p1, p2, _, _, rfl, rfl, u2 _ _ y1, upd_same, ?_, fun c2 nc2 => ?_⟩
        · refine Nat.le_trans ?_ (by decide : 1000 ≤ sizeLine)
          rw [List.length_map, List.length_map, List.length_take, List.length_drop]
          omega
        · refine hC c2 _ (RX.of (u1.trans (u2.trans (same_new nc2)))) (Same.free (u1.trans u2) nc2) ?_
          rw [upd_same, og j hj, hrw]
          unfold cutAt
          rw [List.map_append]
      · have pL : PyV H9 (.ref Dl) (lmD (outM M 0 i)) := py_lm hD (by rw [hwl, out0, List.length_map, List.length_drop, hS.len]; omega) hwE
        have hO := hS.out (Nat.zero_le n) (by omega : i ≤ n)
        refine ⟨.ref Dl, outM M 0 i, rfl, pL, by omega, hO, fun H10 s10 => ?_⟩
        have S10 := s4.trans (s9.same.trans s10)
        have wr : Wd.Wid (r.getD i 0) := by rw [eg]; exact (sr _ (List.getElem_mem hi')).w
        refine r_next (n_asg (r_op ⟨_, rfl, r_tt (r_op (r_op (cb1 ⟨_, rfl, .inl ⟨(i : Int), rfl, _, _, rfl, rfl, (show (0 : Int) < 2 by decide), rfl, _, rfl, ?_⟩⟩)))⟩))
        by_cases z : i % 2 = 0
        · rw [show decide (V.int (((i : Nat) : Int) % 2) = V.int 0) = true from decide_eq_true (congrArg V.int (by omega))]
          refine iteT (r_op (r_op (r_op ⟨_, rfl, false, a, _, (0 : Int), _, rfl, rfl, .inl (.inl (S10 _ _ ha)), ixR e0, _, rfl, false, b, r.map V.int, (i : Int), _, rfl, rfl, .inl (.inl (S10 _ _ hb)), ixL hi', _, rfl, _, _, rfl, rfl, Wd.mulW wr (det_wid (by omega) hO), _, _, rfl, rfl, ?_⟩)))
          refine ⟨some (.int (i : Nat)), some (.int (detM n (outM M 0 i))), x4, ?_, S10⟩
          rw [tot_succ, cof_sg, if_pos z]
          rfl
        · rw [show decide (V.int (((i : Nat) : Int) % 2) = V.int 0) = false from decide_eq_false (fun e => z (by have := V.int.inj e; omega))]
          refine iteF (r_op (r_op (r_op (r_op ⟨_, rfl, false, a, _, (0 : Int), _, rfl, rfl, .inl (.inl (S10 _ _ ha)), ixR e0, _, rfl, false, b, r.map V.int, (i : Int), _, rfl, rfl, .inl (.inl (S10 _ _ hb)), ixL hi', _, rfl, _, _, rfl, rfl, Wd.mulW wr (det_wid (by omega) hO), _, _, rfl, rfl, _, _, rfl, rfl, ?_⟩))))
          refine ⟨some (.int (i : Nat)), some (.int (detM n (outM M 0 i))), x4, ?_, S10⟩
          rw [tot_succ, cof_sg, if_neg z]
          rfl
    · obtain ⟨x2, x3, x4, rfl, s3⟩ := hP
      refine r_nret ⟨_, rfl, ?_⟩
      have := q H' s3
      unfold detM at this
      rw [hr0] at this
      exact this
end
end T22
set_option Elab.async false
set_option linter.all false
set_option maxRecDepth 100000
set_option maxHeartbeats 4000000
namespace T22
open PySem PySem.Spec PyProof.Rows L2 Gd Zn Rp Dn Tb Gn En Zs Ct Op Oc Rg Rt Ro Oa
section
variable {P : Program} {w : World} {K : PySem.W.Frag} {mg : Str → Option Value} {base : Heap} {C : Addr}
abbrev st_lbtw : Stmt := top 47
abbrev N_lbtw : List Str := ["_law_rows_here", "_law_row", "_law_other", "_law_total", "_law_near", "_law_far"]
theorem sc_lbtw : FnScope N_lbtw ["_law_rows_here", "_law_row", "_law_other"] (defScope st_lbtw) := ⟨rfl, rfl, rfl, by decide +kernel, rfl, by decide +kernel, by decide +kernel⟩
theorem ok_lbtw {f : Addr} {fd : FuncData} (F : Fun K "_law_between" "_law_between" st_lbtw f fd) (T : Txt mg) : FnOk P w K mg base CX0 1 f fd ["_law_rows_here", "_law_row", "_law_other"] sp_lbtw := by
  refine F.ok sc_lbtw (fun vs H Q E h => ?_) (fun cdv A outer s H vs Q E hr h => ?_)
  · obtain ⟨v, o, p, M, xs, ys, n, rfl, _⟩ := h
    rfl
  · obtain ⟨v, o, p, M, xs, ys, n, rfl, hv, ho, hp, h1, h3, hM, hx, hy, bx, by_, q⟩ := h
    refine ⟨_, pss_cons (ps_set (i := 3) sc_lbtw.nd rfl (Or.inl rfl) pe_int)
      (pss_cons (ps_for PassesOwn.never rfl (pi_range1 (by rfl) T.range (pa_cons (pe_callB (r := Dn.rLen K) c_len (by rfl) T.len PySem.boot_len (pa_cons (pv 0) pa_nil)) pa_nil)) (pg_name (i := 4) sc_lbtw.nd rfl (Or.inl rfl))
        (pss_one (ps_for PassesOwn.never rfl (pi_range1 (by rfl) T.range (pa_cons (pe_callB (r := Dn.rLen K) c_len (by rfl) T.len PySem.boot_len (pa_cons (pv 0) pa_nil)) pa_nil)) (pg_name (i := 5) sc_lbtw.nd rfl (Or.inl rfl))
          (pss_one (ps_set (i := 3) sc_lbtw.nd rfl (Or.inl rfl) (pe_op op_add (pv 3) (pe_op op_mulX (pe_op op_mulX (pe_ix ix_sq (pv 1) (pv 4) (fun _ _ => rfl)) (pe_ix ix_sq (pe_ix ix_sq (pv 0) (pv 4) (fun _ _ => rfl)) (pv 5) (fun _ _ => rfl))) (pe_ix ix_sq (pv 2) (pv 5) (fun _ _ => rfl)))))))))
      (pss_one (ps_ret (pv 3)))), ?_⟩
    obtain ⟨a, bs, rfl, ha, hbl, hb⟩ := lm_at hv
    obtain ⟨c, rfl, hc⟩ := li_at ho
    obtain ⟨d, rfl, hd⟩ := li_at hp
    have bl : bs.length = n := by rw [hbl, hM.len]
    have lenE : ((bs.map V.ref).length : Int).toNat = n := by rw [List.length_map, bl]; omega
    refine r_seq (r_asg (r_next (r_nseq ?_)))
    refine ⟨_, rfl, a, _, rfl, .inl (.inl (.inl ha)), ((bs.map V.ref).length : Int), rfl, by omega, by rw [List.length_map]; omega, ?_⟩
    rw [lenE]
    refine for_range (lo := 0) (n := n) (fun i σ H' => ∃ x4 x5, σ = [some (.ref a), some (.ref c), some (.ref d), some (.int (sI n M xs ys i)), x4, x5] ∧ H' = H) ⟨_, _, rfl, rfl⟩ (fun i σ H' hi hP => ?_) (fun σ H' hP => ?_)
    · obtain ⟨x4, x5, rfl, rfl⟩ := hP
      refine ⟨_, rfl, a, _, rfl, .inl (.inl (.inl ha)), ((bs.map V.ref).length : Int), rfl, by omega, by rw [List.length_map]; omega, ?_⟩
      rw [lenE, show (0 : Int) + (i : Int) = (i : Int) by omega]
      refine for_range (lo := 0) (n := n) (fun j σ H2 => ∃ x5, σ = [some (.ref a), some (.ref c), some (.ref d), some (.int (sI n M xs ys i + sJ M xs ys i j)), some (.int (i : Nat)), x5] ∧ H2 = H') ⟨x5, ?_, rfl⟩ (fun j σ H2 hj hP => ?_) (fun σ H2 hP => ?_)
      · rw [show sJ M xs ys i 0 = 0 from rfl, Int.add_zero]
        rfl
      · obtain ⟨x5, rfl, rfl⟩ := hP
        rw [show (0 : Int) + (j : Int) = (j : Int) by omega]
        have eb : bs[i]? = some (bs[i]'(by omega)) := List.getElem?_eq_getElem _
        have hbi := hb i _ eb
        have lr : (M.getD i []).length = n := getD_row hM.sh hi
        have b1 := rb_get bx (j := i) (by omega)
        have b2 := rb_get (sqe_row hM hi) (j := j) (by omega)
        have b3 := rb_get by_ (j := j) (by omega)
        refine ⟨_, rfl, _, rfl, _, rfl, false, c, _, _, _, rfl, rfl, .inl (.inl hc), ixL (by omega), _, rfl, _, rfl, false, a, _, _, _, rfl, rfl, .inl (.inl ha), ixR eb, _, rfl, false, _, _, _, _, rfl, rfl, .inl (.inl hbi), ixL (by omega), _, _, rfl, rfl, Wd.mulW ⟨5000, by decide, b1⟩ ⟨5000, by decide, b2⟩, _, rfl, _, rfl, false, d, _, _, _, rfl, rfl, .inl (.inl hd), ixL (by omega), _, _, rfl, rfl, Wd.mulW ⟨5000 + 5000, by decide, Wd.abs_mul b1 b2⟩ ⟨5000, by decide, b3⟩, _, _, rfl, rfl, ?_⟩
        refine ⟨some (.int (j : Nat)), ?_, rfl⟩
        rw [sJ_succ, ← Int.add_assoc]
        rfl
      · obtain ⟨x5, rfl, rfl⟩ := hP
        refine ⟨some (.int (i : Nat)), x5, ?_, rfl⟩
        rw [sI_succ]
    · obtain ⟨x4, x5, rfl, rfl⟩ := hP
      rw [sI_btw h1 h3 hM.sh hx hy]
      exact ⟨_, rfl, q _ (Same.refl _)⟩
abbrev st_lcol : Stmt := top 49
abbrev N_lcol : List Str := ["_law_rows_here", "_law_place", "_law_row"]
theorem sc_lcol : FnScope N_lcol ["_law_rows_here", "_law_place"] (defScope st_lcol) := ⟨rfl, rfl, rfl, by decide +kernel, rfl, by decide +kernel, by decide +kernel⟩
theorem ok_lcol {f : Addr} {fd : FuncData} (F : Fun K "_law_column" "_law_column" st_lcol f fd) (T : Txt mg) : FnOk P w K mg base CX0 1 f fd ["_law_rows_here", "_law_place"] sp_lcol := by
  refine F.ok sc_lcol (fun vs H Q E h => ?_) (fun cdv A outer s H vs Q E hr h => ?_)
  · obtain ⟨v, M, n, k, rfl, _⟩ := h
    rfl
  · obtain ⟨v, M, n, k, rfl, hv, hM, h3, hk, q⟩ := h
    refine ⟨_, pss_one (ps_ret (pe_lc (own := [("_law_row", 2)]) (g := gName 2) (tt := tYes) rfl sc_lcol.nd (pi_seq (pv 0))
        (blkOk_by (N := N_lcol) (sc := defScope st_lcol) (by decide +kernel)) (fun _ _ _ _ _ => pg_name (i := 2) sc_lcol.nd rfl (Or.inl rfl) (Or.inr rfl)) (fun _ _ _ _ _ => pts_nil)
        (fun _ _ _ _ _ => pe_ix (r := rIxS2 K) ix_sq (pv 2) (pv 1) (fun _ _ => rfl)))), ?_⟩
    obtain ⟨a, bs, rfl, ha, hbl, hb⟩ := lm_at hv
    have bl : bs.length = n := by rw [hbl, hM.len]
    have qa : ∀ H', Same H H' → SqV K H' false a (bs.map V.ref) := fun H' s => .inl (.inl (s _ _ ha))
    refine r_ret (tlc_call ?_)
    refine ⟨_, rfl, false, a, _, rfl, qa H (Same.refl H), ?_⟩
    refine lc_el (p := none) n (fun i v => v = .int ((M.getD i []).getD k 0)) has_none (by omega) (fun i H2 hi s2 => ?_) (fun H2 s2 => ?_) (fun i x H2 H3 C' hi s2 _ hy hC => ?_) fun Da H2 rs nD s2 hD hrl hE => ?_
    · exact its_go (qa H2 s2.same) (List.getElem?_eq_getElem (by rw [List.length_map, bl]; exact hi))
    · exact its_stop (qa H2 s2.same) (by rw [List.length_map, bl]; exact Nat.le_refl _)
    · obtain ⟨rfl, ex⟩ := its_yld hy (qa H2 s2.same)
      have eb : bs[i]? = some (bs[i]'(by omega)) := List.getElem?_eq_getElem _
      rw [List.getElem?_map, eb] at ex
      cases ex
      have lr : (M.getD i []).length = n := getD_row hM hi
      refine ⟨rfl, ?_⟩
      exact ⟨_, rfl, _, rfl, false, _, _, _, _, rfl, rfl, .inl (.inl (s2.same _ _ (hb i _ eb))), ixL (by omega), hC _ _ (RX.refl _) rfl⟩
    · refine q Da H2 s2.same nD ?_
      have e : rs = M.map fun r => V.int (r.getD k 0) := map_of_get (n := 0) _ (by rw [hrl, hM.len]) fun i v e => by
        have hi : i < n := by rw [← hrl]; exact (List.getElem?_eq_some_iff.mp e).1
        have hi' : i < M.length := by rw [hM.len]; exact hi
        refine ⟨M[i], List.getElem?_eq_getElem hi', ?_⟩
        rw [hE i v e, List.getD_eq_getElem?_getD (l := M), List.getElem?_eq_getElem hi']
        rfl
      rw [hD, e]
      unfold colsM
      rw [List.map_map]
      rfl
abbrev st_lled : Stmt := top 50
abbrev N_lled : List Str := ["_law_rows_here", "_law_table_here", "_law_places", "_law_found", "_law_near", "_law_far"]
theorem sc_lled : FnScope N_lled ["_law_rows_here", "_law_table_here"] (defScope st_lled) := ⟨rfl, rfl, rfl, by decide +kernel, rfl, by decide +kernel, by decide +kernel⟩
theorem ok_lled {f : Addr} {fd : FuncData} (F : Fun K "_law_led" "_law_led" st_lled f fd) (T : Txt mg) (D1 : Def P w K mg base "_law_between" 1 ["_law_rows_here", "_law_row", "_law_other"] sp_lbtw) (D2 : Def P w K mg base "_law_column" 1 ["_law_rows_here", "_law_place"] sp_lcol) :
    FnOk P w K mg base CX0 2 f fd ["_law_rows_here", "_law_table_here"] sp_lled := by
  refine F.ok sc_lled (fun vs H Q E h => ?_) (fun cdv A outer s H vs Q E hr h => ?_)
  · obtain ⟨v, o, G, M, n, rfl, _⟩ := h
    rfl
  · obtain ⟨v, o, G, M, n, rfl, hv, ho, h1, h3, hG, hM, q⟩ := h
    refine ⟨_, pss_cons (ps_set (i := 2) sc_lled.nd rfl (Or.inl rfl) (pe_listRg rfl (by rfl) T.list (prg_1 (by rfl) T.range (pe_callB (r := Dn.rLen K) c_len (by rfl) T.len PySem.boot_len (pa_cons (pv 0) pa_nil)))))
      (pss_cons (ps_set (i := 3) sc_lled.nd rfl (Or.inl rfl) (pe_lst pa_nil))
      (pss_cons (ps_for PassesOwn.never rfl (pi_seq (pv 2)) (pg_name (i := 4) sc_lled.nd rfl (Or.inr rfl))
        (pss_one (ps_expr (pe_bm PySem.F.plainAttrs_list PySem.F.slot_list_append PySem.F.type_list_append mt_append (pv 3) (pa_cons
          (pe_lc (own := [("_law_far", 5)]) (g := gName 5) (tt := tYes) rfl sc_lled.nd (pi_seq (pv 2))
            (blkOk_by (N := N_lled) (sc := defScope st_lled) (by decide +kernel)) (fun _ _ _ _ _ => pg_name (i := 5) sc_lled.nd rfl (Or.inl rfl) (Or.inr rfl)) (fun _ _ _ _ _ => pts_nil)
            (fun _ _ _ _ _ => pe_def (X := Cx.blk _ _ _ _ _ _) D1 hr (pa_cons (pv 0) (pa_cons (pe_def (X := Cx.blk _ _ _ _ _ _) D2 hr (pa_cons (pv 1) (pa_cons (pv 4) pa_nil))) (pa_cons (pe_def (X := Cx.blk _ _ _ _ _ _) D2 hr (pa_cons (pv 1) (pa_cons (pv 5) pa_nil))) pa_nil))))) pa_nil)))))
      (pss_one (ps_ret (pv 3))))), ?_⟩
    obtain ⟨a, bs, rfl, ha, hbl, hb⟩ := lm_at hv
    have bl : bs.length = n := by rw [hbl, hG.len]
    refine r_seq (r_asg (cb1 ⟨_, rfl, a, _, rfl, .inl (.inl (.inl ha)), _, rfl, ?_, fun pl npl => ?_⟩))
    · rw [List.length_map, bl]
      exact RgOk.of_le (by omega) (by omega) (by omega) (by omega)
    have e0 : rgV 0 (((bs.map V.ref).length : Nat) : Int) = (List.range n).map fun i => V.int (i : Nat) := by
      unfold rgV
      rw [List.length_map, bl, show (((n : Nat) : Int) - 0).toNat = n by omega]
      exact List.map_congr_left fun i _ => by rw [Int.zero_add]
    rw [e0] at *
    have s1 : Same H (upd H pl (.lst ((List.range n).map fun i => V.int (i : Nat)))) := same_new npl
    have hpl : upd H pl (.lst ((List.range n).map fun i => V.int (i : Nat))) pl = some (.lst ((List.range n).map fun i => V.int (i : Nat))) := upd_same
    generalize upd H pl (.lst ((List.range n).map fun i => V.int (i : Nat))) = H1 at s1 hpl
    refine r_next (r_nseq (r_asg (r_lst ⟨(by show 0 ≤ sizeLine; exact Nat.zero_le _), fun fo nfo => ?_⟩)))
    have nfH := Same.free s1 nfo
    have s2 : Same H1 (upd H1 fo (.lst [])) := same_new nfo
    have hfo : upd H1 fo (.lst []) fo = some (.lst (([] : List Addr).map V.ref)) := upd_same
    have pf : pl ≠ fo := ne_of_none hpl nfo
    generalize upd H1 fo (.lst []) = H2 at s2 hfo
    refine r_next (r_nseq ?_)
    have qp : ∀ H' : Hp, H' pl = some (.lst ((List.range n).map fun i => V.int (i : Nat))) → SqV K H' false pl ((List.range n).map fun i => V.int (i : Nat)) := fun H' e => .inl (.inl e)
    refine ⟨_, rfl, false, pl, _, rfl, qp _ (s2 _ _ hpl), ?_⟩
    have ge : ∀ i, i < n → ((List.range n).map fun i => V.int (i : Nat))[i]? = some (V.int (i : Nat)) := fun i hi => by rw [List.getElem?_map, List.getElem?_range hi]; rfl
    refine for_by n (fun i σ H' => ∃ x4 x5 cs, σ = [some (.ref a), some o, some (.ref pl), some (.ref fo), x4, x5] ∧ Same H H' ∧ H' pl = some (.lst ((List.range n).map fun i => V.int (i : Nat))) ∧ H' fo = some (.lst ((cs : List Addr).map V.ref)) ∧ cs.length = i ∧ ∀ k b, cs[k]? = some b → b ≠ fo ∧ H b = none ∧ H' b = some (.lst (((ldM n G M).getD k []).map V.int)))
      ⟨_, _, [], rfl, s1.trans s2, s2 _ _ hpl, hfo, rfl, fun k b e => by simp at e⟩ (fun i σ H' hi hP => ?_) (fun σ H' hP => ?_) (fun i x σ Hb Ha hi hP hy => ?_) (fun σ H' hP => ?_)
    · obtain ⟨_, _, _, rfl, _, h4, _⟩ := hP
      exact its_go (qp _ h4) (ge i hi)
    · obtain ⟨_, _, _, rfl, _, h4, _⟩ := hP
      exact its_stop (qp _ h4) (by simp)
    · obtain ⟨x4, x5, cs, rfl, s3, h4, h5, hcl, hcs⟩ := hP
      obtain ⟨rfl, ex⟩ := its_yld hy (qp _ h4)
      rw [ge i hi] at ex
      cases ex
      refine d_bm ⟨_, rfl, .inl ⟨rfl, _, .inl (.inl h5)⟩, r_cons (tlc_call ⟨_, rfl, false, pl, _, rfl, qp _ h4, ?_⟩)⟩
      refine lc_el (p := none) n (fun j v => v = .int (btwM G (colsM n M i) (colsM n M j))) has_none (by omega) (fun j H4 hj s4 => its_go (qp _ (s4.same _ _ h4)) (ge j hj)) (fun H4 s4 => its_stop (qp _ (s4.same _ _ h4)) (by simp)) (fun j x H4 H5 C' hj s4 _ hy hC => ?_) fun Dd H4 ys nDd s4 hDd hyl hyE => ?_
      · obtain ⟨rfl, ex⟩ := its_yld hy (qp _ (s4.same _ _ h4))
        rw [ge j hj] at ex
        cases ex
        have S4 := s3.trans s4.same
        refine ⟨rfl, ?_⟩
        refine ⟨_, rfl, _, rfl, _, rfl, o, M, n, i, rfl, ho.mono S4, hM.sh, h3, hi, fun d1 H6 s6 n6 e6 => ?_⟩
        refine ⟨_, rfl, _, rfl, o, M, n, j, rfl, ho.mono (S4.trans s6), hM.sh, h3, hj, fun d2 H7 s7 n7 e7 => ?_⟩
        have S7 := S4.trans (s6.trans s7)
        exact ⟨.ref a, .ref d1, .ref d2, G, _, _, n, rfl, hv.mono S7, li_of (s7 _ _ e6), li_of e7, h1, h3, hG, by rw [cols_len, hM.len], by rw [cols_len, hM.len], cols_rb hM hi, cols_rb hM hj, fun H8 s8 => hC _ _ (RX.of (s6.trans (s7.trans s8))) rfl⟩
      · have ey : ys = ((ldM n G M).getD i []).map V.int := by
          rw [ld_row h3 hG.sh hM.sh hi, List.map_map]
          exact map_of_get (n := 0) _ (by rw [hyl, List.length_range]) fun j v e => by
            have hj : j < n := by rw [← hyl]; exact (List.getElem?_eq_some_iff.mp e).1
            exact ⟨j, List.getElem?_range hj, hyE j v e⟩
        have S4 := s4.same
        have h54 := S4 _ _ h5
        have nDf : Dd ≠ fo := (ne_of_none h5 nDd).symm
        have npf := pf
        refine ⟨fo, _, _, rfl, rfl, h54, ?_, ?_⟩
        · rw [List.length_map, hcl]
          exact Nat.lt_of_lt_of_le (by omega : i < 4) (by decide)
        · refine ⟨_, _, cs ++ [Dd], rfl, ?_, ?_, ?_, by rw [List.length_append, hcl]; rfl, fun k b e => ?_⟩
          · exact fun c u e => by
              rw [upd_ne (fun z => by rw [z, nfH] at e; cases e)]
              exact (s3.trans S4) c u e
          · rw [upd_ne npf]
            exact S4 _ _ h4
          · rw [upd_same, List.map_append]
            rfl
          · by_cases hk : k < cs.length
            · rw [List.getElem?_append_left hk] at e
              obtain ⟨e1, e0, e2⟩ := hcs k b e
              exact ⟨e1, e0, by rw [upd_ne e1]; exact S4 _ _ e2⟩
            · rw [List.getElem?_append_right (by omega)] at e
              have z : k - cs.length = 0 := by
                by_cases w : k - cs.length = 0
                · exact w
                · rw [List.getElem?_eq_none (by simp; omega)] at e; cases e
              rw [z] at e
              cases e
              have : k = i := by omega
              subst this
              exact ⟨nDf, Same.free s3 nDd, by rw [upd_ne nDf, hDd, ey]⟩
    · obtain ⟨x4, x5, cs, rfl, s3, h4, h5, hcl, hcs⟩ := hP
      refine ⟨_, rfl, q fo H' s3 fun p hp => lm_of ?_ (by rw [hcl]; exact (ld_sh h1 h3 hG.sh hM.sh).len.symm) fun k b e => ?_⟩
      · rw [hid_at (fun z => hp (by cases z; exact nfH))]
        exact h5
      · obtain ⟨_, e0, e2⟩ := hcs k b e
        rw [hid_at (fun z => hp (by cases z; exact e0))]
        exact e2
end
end T22
set_option Elab.async false
set_option linter.all false
set_option maxRecDepth 100000
set_option maxHeartbeats 4000000
namespace T22
open PySem PySem.Spec PyProof.Rows L2 Gd Zn Rp Dn Tb Gn En Zs Ct Op Oc Rg Rt Ro Oa
section
variable {P : Program} {w : World} {K : PySem.W.Frag} {mg : Str → Option Value} {base : Heap} {C : Addr}
abbrev st_ltab : Stmt := top 48
abbrev N_ltab : List Str := ["_law_pot_here", "_law_size", "_law_found", "_law_turn", "_law_near", "_law_number", "_law_far", "_law_entry", "_law_at"]
theorem sc_ltab : FnScope N_ltab ["_law_pot_here", "_law_size"] (defScope st_ltab) := ⟨rfl, rfl, rfl, by decide +kernel, rfl, by decide +kernel, by decide +kernel⟩
theorem LM.py {p : Addr} {H : Hp} {a : Addr} {M : List (List Int)} {vs : List V} (h : LM H p a M vs) (hap : a ≠ p) : PyV (hid (some p) H) (.ref a) (lmD M) := by
  refine py_lm (by rw [hid_at (fun z => hap (by cases z; rfl))]; exact h.at_) h.len fun i v e => ?_
  obtain ⟨b, e1, e2, e3, e4⟩ := h.get i v e
  exact ⟨b, e1, by rw [hid_at (fun z => e4 (by cases z; rfl))]; exact e2⟩
theorem ok_ltab {f : Addr} {fd : FuncData} (F : Fun K "_law_table" "_law_table" st_ltab f fd) (T : Txt mg) (D1 : Def P w K mg base "_law_draw" 1 ["_law_pot_here", "_law_size"] sp_draw) : FnOk P w K mg base CX0 2 f fd ["_law_pot_here", "_law_size"] sp_ltab := by
  refine F.ok sc_ltab (fun vs H Q E h => ?_) (fun cdv A outer s H vs Q E hr h => ?_)
  · obtain ⟨p, n, rfl, _⟩ := h
    rfl
  · obtain ⟨p, n, rfl, hp, h1, h3, q⟩ := h
    refine ⟨_, pss_cons (ps_set (i := 2) sc_ltab.nd rfl (Or.inr rfl) (pe_lc (own := [("_law_near", 4)]) (g := gName 4) (tt := tYes) rfl sc_ltab.nd (pi_range1 (by rfl) T.range (pa_cons (pv 1) pa_nil))
        (blkOk_by (N := N_ltab) (sc := defScope st_ltab) (by decide +kernel)) (fun _ _ _ _ _ => pg_name (i := 4) sc_ltab.nd rfl (Or.inr rfl) (Or.inl rfl)) (fun _ _ _ _ _ => pts_nil)
        (fun s' H' C' cl' fp' => by
          refine pe_lc (own := [("_law_far", 6)]) (wi := iRng1 (tCons (tVar 1) tNil)) (g := gName 6) (tt := tYes) (te := tIf (tTest (tOp rEq (tVar 4) (tVar 6))) (tC (.int 1)) (tC (.int 0))) rfl sc_ltab.nd ?p1 ?p2 ?p3 ?p4 ?p5
          case p1 => exact pi_range1 (by rfl) T.range (pa_cons (pv 1) pa_nil)
          case p2 => exact blkOk_by (N := N_ltab) (by rfl)
          case p3 => exact (fun _ _ _ _ _ => pg_name (i := 6) sc_ltab.nd rfl (Or.inl rfl) (Or.inr rfl))
          case p4 => exact (fun _ _ _ _ _ => pts_nil)
          case p5 => exact (fun _ _ _ _ _ => pe_ifExp (pt_cmpR op_eq (pv 4) (pv 6) (nomark _)) pe_int pe_int))))
      (pss_cons (ps_for PassesOwn.never rfl (pi_range1 (by rfl) T.range (pa_cons (pe_op op_add pe_int (pe_def D1 hr (pa_cons (pv 0) (pa_cons pe_int pa_nil)))) pa_nil)) (pg_name (i := 3) sc_ltab.nd rfl (Or.inl rfl))
        (pss_cons (ps_asg (pe_tup (pa_cons (pe_def D1 hr (pa_cons (pv 0) (pa_cons (pv 1) pa_nil))) (pa_cons (pe_op op_sub (pe_def D1 hr (pa_cons (pv 0) (pa_cons pe_int pa_nil))) pe_int) pa_nil))) (pg_tup rfl (pgs_cons (pg_name (i := 4) sc_ltab.nd rfl (Or.inr rfl)) (pgs_cons (pg_name (i := 5) sc_ltab.nd rfl (Or.inr rfl)) pgs_nil))))
        (pss_cons (ps_set (i := 6) sc_ltab.nd rfl (Or.inr rfl) (pe_def D1 hr (pa_cons (pv 0) (pa_cons (pv 1) pa_nil))))
        (pss_one (ps_if (pt_cmpR op_eq (pv 4) (pv 6) (nomark _))
          (pss_one (ps_asg (pe_lc (own := [("_law_entry", 7)]) (g := gName 7) (tt := tYes) rfl sc_ltab.nd (pi_seq (pe_ix ix_sq (pv 2) (pv 4) (fun _ _ => rfl)))
            (blkOk_by (N := N_ltab) (sc := defScope st_ltab) (by decide +kernel)) (fun _ _ _ _ _ => pg_name (i := 7) sc_ltab.nd rfl (Or.inl rfl) (Or.inr rfl)) (fun _ _ _ _ _ => pts_nil)
            (fun _ _ _ _ _ => pe_op op_sub pe_int (pv 7))) (pg_sub (pv 2) (pv 4) set_list)))
          (pss_cons (ps_asg (pe_lc (own := [("_law_at", 8)]) (g := gName 8) (tt := tYes) rfl sc_ltab.nd (pi_range1 (by rfl) T.range (pa_cons (pv 1) pa_nil))
            (blkOk_by (N := N_ltab) (sc := defScope st_ltab) (by decide +kernel)) (fun _ _ _ _ _ => pg_name (i := 8) sc_ltab.nd rfl (Or.inl rfl) (Or.inr rfl)) (fun _ _ _ _ _ => pts_nil)
            (fun _ _ _ _ _ => pe_op op_add (pe_ix (r := rIxS2 K) ix_sq (pe_ix (r := rIxS2 K) ix_sq (pv 2) (pv 4) (fun _ _ => rfl)) (pv 8) (fun _ _ => rfl)) (pe_op op_mul (pv 5) (pe_ix (r := rIxS2 K) ix_sq (pe_ix (r := rIxS2 K) ix_sq (pv 2) (pv 6) (fun _ _ => rfl)) (pv 8) (fun _ _ => rfl))))) (pg_sub (pv 2) (pv 4) set_list))
          (pss_one (ps_asg (pe_tup (pa_cons (pe_ix ix_sq (pv 2) (pv 6) (fun _ _ => rfl)) (pa_cons (pe_ix ix_sq (pv 2) (pv 4) (fun _ _ => rfl)) pa_nil))) (pg_tup rfl (pgs_cons (pg_sub (pv 2) (pv 4) set_list) (pgs_cons (pg_sub (pv 2) (pv 6) set_list) pgs_nil))))))))))
      ) (pss_one (ps_ret (pv 2)))), ?_⟩
    have hh : Has (some p) H := fun q e => by cases e; exact hp
    refine r_seq (r_asg (tlc_call ⟨_, rfl, (n : Int), rfl, by omega, by omega, ?_⟩))
    rw [Int.toNat_natCast]
    refine lc_fresh2 (p := some p) n (fun i => .lst (((unitM n).getD i []).map V.int)) hh (by omega) (fun i H2 hi s2 => hi) (fun H2 s2 => Nat.le_refl _) (fun i x H2 H3 C' hi s2 hp2 hy hC => ?_) fun D H2 rs nD s2 hD hrl hE => ?_
    · obtain ⟨rfl, rfl⟩ := hy
      have eM : (unitM n)[i]? = some ((List.range n).map fun j => if j = i then 1 else 0) := by unfold unitM; rw [List.getElem?_map, List.getElem?_range hi]; rfl
      refine ⟨rfl, tlc_call ⟨_, rfl, (n : Int), rfl, by omega, by omega, ?_⟩⟩
      rw [Int.toNat_natCast]
      refine lc_el (p := none) n (fun j v => v = .int (if j = i then 1 else 0)) has_none (by omega) (fun j H4 hj s4 => hj) (fun H4 s4 => Nat.le_refl _) (fun j x H4 H5 C2 hj s4 _ hy2 hC2 => ?_) fun Db H4 ys nDb s4 hDb hyl hyE => ?_
      · obtain ⟨rfl, rfl⟩ := hy2
        refine ⟨rfl, ?_⟩
        refine ⟨_, rfl, _, rfl, rfl, _, rfl, ?_⟩
        by_cases z : j = i
        · rw [decide_eq_true (show V.int (0 + (i : Int)) = V.int (0 + (j : Int)) by rw [z])]
          exact iteT (hC2 _ _ (RX.refl _) (by rw [if_pos z]))
        · rw [decide_eq_false (show ¬ V.int (0 + (i : Int)) = V.int (0 + (j : Int)) from fun e => z (by have := V.int.inj e; omega))]
          exact iteF (hC2 _ _ (RX.refl _) (by rw [if_neg z]))
      · have ey : ys = (List.range n).map fun j => V.int (if j = i then 1 else 0) := map_of_get (n := 0) _ (by rw [hyl, List.length_range]) fun j v e => by
          have hj : j < n := by rw [← hyl]; exact (List.getElem?_eq_some_iff.mp e).1
          exact ⟨j, List.getElem?_range hj, hyE j v e⟩
        refine hC Db _ (RX.of s4.same) nDb ?_
        rw [hDb, ey, getD_of eM, List.map_map]
        rfl
    · have hL : LM H2 p D (unitM n) rs := ⟨hD, by rw [hrl, (unit_sq n).len], fun i v e => by
        obtain ⟨c, e1, e2, e3, e4, _⟩ := hE i v e
        exact ⟨c, e1, e2, e3, fun z => e4 (by rw [z])⟩⟩
      have hDp : D ≠ p := fun z => (hh.ne nD) (by rw [z])
      refine r_next (r_nseq ?_)
      refine ⟨_, rfl, p, 3, rfl, s2.pot p rfl hp, by decide, by decide, fun r H3 r0 r1 s3 => ?_⟩
      refine ⟨_, _, rfl, rfl, 1 + r, rfl, by omega, by omega, ?_⟩
      refine for_range (lo := 0) (n := (1 + r).toNat) (fun i σ H9 => ∃ (x3 x4 x5 x6 x7 x8 : Option V) (M : List (List Int)) (vs : List V), σ = [some (.ref p), some (.int n), some (.ref D), x3, x4, x5, x6, x7, x8] ∧ RX (some p) H H9 ∧ LM H9 p D M vs ∧ SqB n (3 ^ i) M ∧ (detM n M = 1 ∨ detM n M = -1))
        ⟨_, _, _, _, _, _, _, _, rfl, s2.trans s3, hL.mono s3 hDp, (by rw [Int.pow_zero]; exact unit_sqB n), .inl (det_unit n h3)⟩ (fun i σ H4 hi hP => ?_) (fun σ H4 hP => ?_)
      · obtain ⟨x3, x4, x5, x6, x7, x8, M, vs, rfl, s4, hM4, hB, hdet⟩ := hP
        have e3 : (3 : Int) ^ (i + 1) = 3 * 3 ^ i := by rw [Int.pow_succ]; omega
        have p3 : (0 : Int) < 3 ^ i := Int.pow_pos (by decide)
        have toB : ∀ {M' : List (List Int)}, SqB n (3 ^ i) M' → SqB n (3 ^ (i + 1)) M' := fun h => h.mono (by omega)
        refine r_seq (r_asg ?_)
        refine ⟨_, rfl, _, rfl, p, (n : Int), rfl, s4.pot p rfl hp, by omega, by omega, fun a H5 a0 a1 s5 => ?_⟩
        refine ⟨_, rfl, p, 5, rfl, (s4.trans s5).pot p rfl hp, by decide, by decide, fun c H6 c0 c1 s6 => ⟨_, _, rfl, rfl, (by show 2 ≤ sizeLine; decide), fun t nt => ?_⟩⟩
        have sT : RX (some p) H6 (upd H6 t (.tup [V.int a, V.int (c - 2)])) := RX.new nt
        refine ⟨t, _, rfl, .inl (.inl upd_same), rfl, _, _, rfl, _, _, rfl, rfl, ?_⟩
        generalize upd H6 t (.tup [V.int a, V.int (c - 2)]) = H7 at sT
        have s7 := s4.trans (s5.trans (s6.trans sT))
        have hM7 := hM4.mono (s5.trans (s6.trans sT)) hDp
        refine r_next (r_nseq (r_asg (a2 ⟨_, rfl, _, rfl, p, (n : Int), rfl, s7.pot p rfl hp, by omega, by omega, fun b H8 b0 b1 s8 => ?_⟩)))
        have s78 := s7.trans s8
        have hM8 := hM7.mono s8 hDp
        obtain ⟨i', rfl⟩ : ∃ i' : Nat, a = (i' : Int) := ⟨a.toNat, by omega⟩
        obtain ⟨j', rfl⟩ : ∃ j' : Nat, b = (j' : Int) := ⟨b.toNat, by omega⟩
        have hi' : i' < n := by omega
        have hj' : j' < n := by omega
        have hvi : i' < vs.length := by rw [hM8.len, hB.len]; exact hi'
        have hvj : j' < vs.length := by rw [hM8.len, hB.len]; exact hj'
        have hp8 := s78.pot p rfl hp
        obtain ⟨bi, ebi, hbi, bia, bip⟩ := hM8.row (i := i') (by rw [hB.len]; exact hi')
        obtain ⟨bj, ebj, hbj, bja, bjp⟩ := hM8.row (i := j') (by rw [hB.len]; exact hj')
        have lri := hB.row _ (getD_mem (M := M) (i := i') (by rw [hB.len]; exact hi'))
        have lrj := hB.row _ (getD_mem (M := M) (i := j') (by rw [hB.len]; exact hj'))
        refine r_next (n_if ⟨_, rfl, _, rfl, rfl, _, rfl, ?_⟩)
        by_cases z : i' = j'
        · rw [decide_eq_true (show V.int (i' : Int) = V.int (j' : Int) by rw [z])]
          refine iteT (r_asg (tlc_call ?_))
          generalize hr : M.getD i' [] = r2 at hbi lri
          have qb : ∀ H', Same H8 H' → SqV K H' false bi (r2.map V.int) := fun H' s => .inl (.inl (s _ _ hbi))
          refine ⟨_, rfl, _, rfl, false, D, vs, (i' : Int), _, rfl, rfl, .inl (.inl hM8.at_), atI_nat ebi, false, bi, _, rfl, qb H8 (Same.refl H8), ?_⟩
          refine lc_el (p := none) n (fun j v => ∃ x, r2[j]? = some x ∧ v = .int (0 - x)) has_none (by omega) (fun j H4 hj s4 => its_go (qb H4 s4.same) (List.getElem?_eq_getElem (by rw [List.length_map]; omega))) (fun H4 s4 => its_stop (qb H4 s4.same) (by rw [List.length_map]; omega)) (fun j x H4 H5 C2 hj s4 _ hy2 hC2 => ?_) fun Db H9 ys nDb s9 hDb hyl hyE => ?_
          · obtain ⟨rfl, ex2⟩ := its_yld hy2 (qb H4 s4.same)
            have hj2 : j < r2.length := by omega
            rw [List.getElem?_map, List.getElem?_eq_getElem hj2] at ex2
            cases ex2
            refine ⟨rfl, ?_⟩
            exact ⟨_, rfl, _, _, rfl, rfl, hC2 _ _ (RX.refl _) ⟨_, List.getElem?_eq_getElem hj2, rfl⟩⟩
          · have ey : ys = (negR r2).map V.int := by
              unfold negR
              rw [List.map_map]
              exact map_of_get (n := 0) _ (by rw [hyl, lri]) hyE
            have hM9 := hM8.mono (RX.of s9.same) hDp
            have nDa : Db ≠ D := (ne_of_none hM8.at_ nDb).symm
            refine ⟨_, rfl, _, rfl, D, vs, _, i', rfl, rfl, hM9.at_, ixN_at hvi, ?_⟩
            have hL9 : LM (upd H9 D (.lst (vs.set i' (.ref Db)))) p D (stepN M i') (vs.set i' (.ref Db)) := by
              have := hM9.put (i := i') (b := Db) (r := negR r2) (by rw [hDb, ey]) nDa (fun z => by subst z; exact hp8.some_ nDb)
              unfold stepN
              rw [hr]
              exact this
            exact ⟨_, _, _, _, _, _, _, _, rfl, (s78.trans (RX.of s9.same)).mut nD hh, hL9, toB (hB.neg hi'), by rw [det_neg hB h1 h3 hi']; omega⟩
        · rw [decide_eq_false (show ¬ V.int (i' : Int) = V.int (j' : Int) from fun e => z (by have := V.int.inj e; omega))]
          refine iteF (r_seq (r_asg (tlc_call ?_)))
          have cb : -2 ≤ c - 2 ∧ c - 2 ≤ 2 := by omega
          obtain ⟨c', ec⟩ : ∃ c' : Int, c - 2 = c' := ⟨_, rfl⟩
          rw [ec] at cb
          generalize hri : M.getD i' [] = ri at hbi lri
          generalize hrj : M.getD j' [] = rj at hbj lrj
          refine ⟨_, rfl, (n : Int), rfl, by omega, by omega, ?_⟩
          rw [Int.toNat_natCast]
          refine lc_el (p := none) n (fun l v => ∃ x y, ri[l]? = some x ∧ rj[l]? = some y ∧ v = .int (x + c' * y)) has_none (by omega) (fun j H4 hj s4 => hj) (fun H4 s4 => Nat.le_refl _) (fun l x H4 H5 C2 hl s4 _ hy2 hC2 => ?_) fun Db H9 ys nDb s9 hDb hyl hyE => ?_
          · obtain ⟨rfl, rfl⟩ := hy2
            have hMz := hM8.mono (RX.of s4.same) hDp
            have l1 : l < ri.length := by omega
            have l2 : l < rj.length := by omega
            rw [show (0 : Int) + (l : Int) = (l : Int) by omega]
            refine ⟨rfl, ?_⟩
            refine ⟨_, rfl, _, rfl, false, D, vs, _, _, rfl, rfl, .inl (.inl hMz.at_), atI_nat ebi, _, rfl, false, bi, _, _, _, rfl, rfl, .inl (.inl (s4.same _ _ hbi)), ixL l1, ?_⟩
            refine ⟨_, rfl, _, rfl, _, rfl, false, D, vs, _, _, rfl, rfl, .inl (.inl hMz.at_), atI_nat ebj, _, rfl, false, bj, _, _, _, rfl, rfl, .inl (.inl (s4.same _ _ hbj)), ixL l2, _, _, rfl, rfl, .inl ⟨by omega, by omega⟩, _, _, rfl, rfl, ?_⟩
            refine hC2 _ _ (RX.refl _) ⟨_, _, List.getElem?_eq_getElem l1, List.getElem?_eq_getElem l2, ?_⟩
            rw [List.getD_eq_getElem?_getD, List.getD_eq_getElem?_getD, List.getElem?_eq_getElem l1, List.getElem?_eq_getElem l2]
            show V.int (ri[l] + (c - 2) * rj[l]) = _
            rw [ec]
          · have ey : ys = (addR c' ri rj).map V.int := by
              unfold addR
              rw [List.map_map]
              exact map_of_get (n := 0) _ (by simp [hyl, lri, lrj]) fun i v e => by
                obtain ⟨x, y, e1, e2, e3⟩ := hyE i v e
                exact ⟨(x, y), by rw [List.getElem?_zip_eq_some]; exact ⟨e1, e2⟩, e3⟩
            have hM9 := hM8.mono (RX.of s9.same) hDp
            have nDa : Db ≠ D := (ne_of_none hM8.at_ nDb).symm
            refine ⟨_, rfl, _, rfl, D, vs, _, i', rfl, rfl, hM9.at_, ixN_at hvi, ?_⟩
            have hL9 : LM (upd H9 D (.lst (vs.set i' (.ref Db)))) p D (stepA M i' j' c') (vs.set i' (.ref Db)) := by
              have := hM9.put (i := i') (b := Db) (r := addR c' ri rj) (by rw [hDb, ey]) nDa (fun z => by subst z; exact hp8.some_ nDb)
              unfold stepA
              rw [hri, hrj]
              exact this
            have sA : RX (some p) H (upd H9 D (.lst (vs.set i' (.ref Db)))) := (s78.trans (RX.of s9.same)).mut nD hh
            have hBA : SqB n (3 * 3 ^ i) (stepA M i' j' c') := hB.add2 hi' hj' (by omega) cb
            have hdA : detM n (stepA M i' j' c') = detM n M := det_add hB h3 c' hi' hj' z
            generalize upd H9 D (.lst (vs.set i' (.ref Db))) = Ha at hL9 sA
            generalize hMA : stepA M i' j' c' = MA at hL9 hBA hdA
            generalize vs.set i' (.ref Db) = va at hL9
            obtain ⟨ci, eci, hci, cia, cip⟩ := hL9.row (i := i') (by rw [hBA.len]; exact hi')
            obtain ⟨cj, ecj, hcj, cja, cjp⟩ := hL9.row (i := j') (by rw [hBA.len]; exact hj')
            have hwi : i' < va.length := by rw [hL9.len, hBA.len]; exact hi'
            have hwj : j' < va.length := by rw [hL9.len, hBA.len]; exact hj'
            refine r_next (n_asg ?_)
            refine ⟨_, rfl, _, rfl, false, D, va, _, _, rfl, rfl, .inl (.inl hL9.at_), atI_nat ecj, _, rfl, _, rfl, false, D, va, _, _, rfl, rfl, .inl (.inl hL9.at_), atI_nat eci, (by show 2 ≤ sizeLine; decide), fun t nt => ?_⟩
            have sT : RX (some p) Ha (upd Ha t (.tup [V.ref cj, V.ref ci])) := RX.new nt
            have hLt := hL9.mono sT hDp
            have h1' := hLt.put (i := i') (b := cj) (r := MA.getD j' []) (sT.keep cj _ (fun z => cjp (by cases z; rfl)) hcj) cja cjp
            have hb1 : upd (upd Ha t (.tup [V.ref cj, V.ref ci])) D (.lst (va.set i' (.ref cj))) ci = some (.lst ((MA.getD i' []).map V.int)) := by
              rw [upd_ne cia]
              exact sT.keep ci _ (fun z => cip (by cases z; rfl)) hci
            have h2' := h1'.put (i := j') (b := ci) (r := MA.getD i' []) hb1 cia cip
            refine ⟨t, _, rfl, .inl (.inl upd_same), rfl, _, _, rfl, _, rfl, _, rfl, D, va, _, i', rfl, rfl, hLt.at_, ixN_at hwi, ?_⟩
            refine ⟨_, _, rfl, _, rfl, _, rfl, D, _, _, j', rfl, rfl, h1'.at_, ixN_at (by rw [List.length_set]; exact hwj), rfl, ?_⟩
            refine ⟨_, _, _, _, _, _, stepX MA i' j', (va.set i' (.ref cj)).set j' (.ref ci), rfl, ((sA.trans sT).mut nD hh).mut nD hh, h2', ?_, ?_⟩
            · rw [e3]
              exact hBA.exch hi' hj'
            · rw [det_exch hBA h3 hi' hj' z, hdA]
              omega
      · obtain ⟨x3, x4, x5, x6, x7, x8, M, vs, rfl, s4, hM4, hB, hdet⟩ := hP
        refine ⟨_, rfl, q D H4 M s4 (hM4.py hDp) (hB.mono ?_) hdet⟩
        have : (1 + r).toNat ≤ 3 := by omega
        exact pow3_mono this
end
end T22
set_option Elab.async false
set_option linter.all false
set_option maxRecDepth 100000
set_option maxHeartbeats 4000000
namespace T22
open PySem PySem.Spec PyProof.Rows L2 Gd Zn Rp Dn Tb Gn En Zs Ct Op Oc Rg Rt Ro Oa
/-- every row but that of zeros has a worth above 0 -/
def Pos (n : Nat) (M : List (List Int)) : Prop := ∀ xs : List Int, xs.length = n → (∃ x ∈ xs, x ≠ 0) → 0 < btwM M xs xs
theorem pos_bowl {n : Nat} {M : List (List Int)} (h3 : n ≤ 3) (hM : Sh n M) (e : transp n M = M) (h : Pos n M) : Bowl n M := by
  intro i
  induction i using Nat.strongRecOn with
  | _ i ih =>
    intro hi
    by_cases z : 0 < dC M i
    · exact z
    · obtain ⟨a, b, c⟩ := pit_ok h3 hM e hi (fun j hj => ih j hj (by omega)) (by unfold dC at z; omega)
      have := h _ a b
      omega
theorem dC_last {n : Nat} {M : List (List Int)} (h1 : 1 ≤ n) (hM : Sh n M) : dC M (n - 1) = detM n M := by
  unfold dC
  rw [show n - 1 + 1 = n by omega]
  have : leadM n M = M := by
    unfold leadM
    rw [List.take_of_length_le (by rw [hM.len]; exact Nat.le_refl _)]
    refine (List.map_congr_left fun r hr => ?_).trans (List.map_id _)
    rw [List.take_of_length_le (by rw [hM.row r hr]; exact Nat.le_refl _)]
    rfl
  rw [this]
theorem w1 (a x : Int) : btwM [[a]] [x] [x] = a * x * x := by
  simp [btwM, ledM, dot]
  grind
theorem w2 (a b c x y : Int) : btwM [[a, b], [b, c]] [x, y] [x, y] = a * x * x + 2 * b * x * y + c * y * y := by
  simp [btwM, ledM, dot]
  grind
theorem w3 (a b c d e f x y z : Int) : btwM [[a, b, c], [b, d, e], [c, e, f]] [x, y, z] [x, y, z] = a * x * x + d * y * y + f * z * z + 2 * b * x * y + 2 * c * x * z + 2 * e * y * z := by
  simp [btwM, ledM, dot]
  grind
theorem c1 (a : Int) : cofM 0 [[a]] 0 0 = 1 := by simp [cofM, detM, outM, outW, cutAt, List.range_succ]
theorem sq_nn (x : Int) : 0 ≤ x * x := by
  rcases Int.le_total 0 x with h | h
  · exact Int.mul_nonneg h h
  · exact Int.mul_nonneg_of_nonpos_of_nonpos h h
theorem nn {a b c : Int} (h : 0 ≤ c) (e : c = a * b) (ha : 0 < a) : 0 ≤ b := by
  by_cases z : 0 ≤ b
  · exact z
  · have := Int.mul_neg_of_pos_of_neg ha (by omega : b < 0)
    omega
theorem pp {a b c : Int} (h : 0 < c) (e : c = a * b) (ha : 0 < a) : 0 < b := by
  by_cases z : 0 < b
  · exact z
  · have := Int.mul_nonpos_of_nonneg_of_nonpos (Int.le_of_lt ha) (by omega : b ≤ 0)
    omega
end T22
set_option Elab.async false
set_option linter.all false
set_option maxRecDepth 100000
set_option maxHeartbeats 4000000
namespace T22
open PySem PySem.Spec PyProof.Rows L2 Gd Zn Rp Dn Tb Gn En Zs Ct Op Oc Rg Rt Ro Oa
theorem det_tr {n : Nat} {M : List (List Int)} (h1 : 1 ≤ n) (h3 : n ≤ 3) (hM : Sh n M) : detM n (transp n M) = detM n M := by
  have : n = 1 ∨ n = 2 ∨ n = 3 := by omega
  rcases this with rfl | rfl | rfl
  · obtain ⟨a, rfl⟩ := sh1 hM rfl
    rfl
  · obtain ⟨a, b, c, d, rfl⟩ := sh2 hM rfl
    rw [trE2, det2, det2]; grind
  · obtain ⟨a, b, c, d, e, f, g, h, i, rfl⟩ := sh3 hM rfl
    rw [trE3, det3, det3]; grind
theorem det_ld {n : Nat} {G S : List (List Int)} (h1 : 1 ≤ n) (h3 : n ≤ 3) (hG : Sh n G) (hS : Sh n S) (hd : detM n S = 1 ∨ detM n S = -1) : detM n (ldM n G S) = detM n G := by
  unfold ldM
  have tS := tr_sh hS h1 h3
  rw [mul_detS h1 h3 (mul_sh h1 h3 tS hG) hS, mul_detS h1 h3 tS hG, det_tr h1 h3 hS]
  rcases hd with e | e <;> rw [e] <;> omega
theorem btw_led {n : Nat} {G S : List (List Int)} {x y : List Int} (h1 : 1 ≤ n) (h3 : n ≤ 3) (hG : Sh n G) (hS : Sh n S) (hx : x.length = n) (hy : y.length = n) : btwM (ldM n G S) x y = btwM G (ledM S x) (ledM S y) := by
  have : n = 1 ∨ n = 2 ∨ n = 3 := by omega
  unfold ldM
  rcases this with rfl | rfl | rfl
  · obtain ⟨a, rfl⟩ := sh1 hG rfl
    obtain ⟨b, rfl⟩ := sh1 hS rfl
    obtain ⟨x, rfl⟩ := len1 hx
    obtain ⟨y, rfl⟩ := len1 hy
    rw [trE1, mulE1, mulE1]
    simp [btwM, ledM, dot]
    grind
  · obtain ⟨a, b, c, d, rfl⟩ := sh2 hG rfl
    obtain ⟨p, q, r, s, rfl⟩ := sh2 hS rfl
    obtain ⟨x, x', rfl⟩ := len2 hx
    obtain ⟨y, y', rfl⟩ := len2 hy
    rw [trE2, mulE2, mulE2]
    simp [btwM, ledM, dot]
    grind
  · obtain ⟨a, b, c, d, e, f, g, h, i, rfl⟩ := sh3 hG rfl
    obtain ⟨p, q, r, s, t, u, v, w, z, rfl⟩ := sh3 hS rfl
    obtain ⟨x, x', x'', rfl⟩ := len3 hx
    obtain ⟨y, y', y'', rfl⟩ := len3 hy
    rw [trE3, mulE3, mulE3]
    simp [btwM, ledM, dot]
    grind
theorem zz {d x : Int} (h : d = 1 ∨ d = -1) (e : d * x = 0) : x = 0 := by
  rcases h with rfl | rfl <;> omega
end T22
set_option Elab.async false
set_option linter.all false
set_option maxRecDepth 100000
set_option maxHeartbeats 4000000
namespace T22
open PySem PySem.Spec PyProof.Rows L2 Gd Zn Rp Dn Tb Gn En Zs Ct Op Oc Rg Rt Ro Oa
theorem hab {h a b : Int} (hh : 1 ≤ h ∧ h ≤ 3) (ha : -2 ≤ a ∧ a ≤ 2) (hb : -2 ≤ b ∧ b ≤ 2) : -12 ≤ h * a * b ∧ h * a * b ≤ 12 := by
  have h' : h = 1 ∨ h = 2 ∨ h = 3 := by omega
  have a' : a = -2 ∨ a = -1 ∨ a = 0 ∨ a = 1 ∨ a = 2 := by omega
  rcases h' with rfl | rfl | rfl <;> rcases a' with rfl | rfl | rfl | rfl | rfl <;> omega
end T22
set_option Elab.async false
set_option linter.all false
set_option maxRecDepth 100000
set_option maxHeartbeats 4000000
namespace T22
open PySem PySem.Spec PyProof.Rows L2 Gd Zn Rp Dn Tb Gn En Zs Ct Op Oc Rg Rt Ro Oa
section
variable {P : Program} {w : World} {K : PySem.W.Frag} {mg : Str → Option Value} {base : Heap} {C : Addr}
def sp_timesF (C : Addr) : Sp := fun vs H Q _ => ∃ v M, ∃ (k : Int) (n b c : Nat), vs = [v, .int k] ∧ Fv C H v n b M ∧ k.natAbs < 2 ^ c ∧ b ≤ 2000 ∧ c ≤ 2000 ∧ ∀ d H', Same H H' → Fv C H' (.ref d) n (c + b) (mulI k M) → Q (.ref d) H'
abbrev N_tm : List Str := ["self", "number", "row", "one"]
theorem sc_tm : FnScope N_tm ["self", "number"] (defScope (st_F 9)) := ⟨rfl, rfl, rfl, by decide +kernel, rfl, by decide +kernel, by decide +kernel⟩
theorem ok_timesF {f : Addr} {fd : FuncData} (F : Fun K "times" "Form.times" (st_F 9) f fd) (T : Txt mg) (Fc : Fcl K mg C) (D1 : Def P w K mg base "is_integer" 1 ["value"] sp_is_integer) (D3 : MkrF P w K mg base C) : FnOk P w K mg base CX0 10 f fd ["self", "number"] (sp_timesF C) := by
  refine F.ok sc_tm (fun vs H Q E h => ?_) (fun cdv A outer s H vs Q E hr h => ?_)
  · obtain ⟨v, M, k, n, b, c, rfl, _⟩ := h
    rfl
  · obtain ⟨v, M, k, n, b, c, rfl, hv, hk, lb, lc, q⟩ := h
    refine ⟨_, pss_cons (ps_if (pt_not (pt_val (pe_def D1 hr (pa_cons (pv 1) pa_nil)))) pss_dead pss_nil)
      (pss_one (ps_ret (pe_mkrF D3 Fc hr (pa_cons (pe_lc (own := [("row", 2)]) (g := gName 2) (tt := tYes) rfl sc_tm.nd (pi_seq (pe_fld (pv 0) rfl))
        (blkOk_by (N := N_tm) (sc := defScope (st_F 9)) (by decide +kernel))
        (fun _ _ _ _ _ => pg_name (i := 2) sc_tm.nd rfl (Or.inl rfl) (Or.inr rfl)) (fun _ _ _ _ _ => pts_nil)
        (fun s' H' C' cl' fp' => by
          refine pe_lc (own := [("one", 3)]) (wi := iSeq K (tVar 2)) (g := gName 3) (tt := tYes) (te := tOp (rI CMulX fun i j => .int (i * j)) (tVar 1) (tVar 3)) rfl sc_tm.nd ?p1 ?p2 ?p3 ?p4 ?p5
          case p1 => exact pi_seq (pv 2)
          case p2 => exact blkOk_by (N := N_tm) (by rfl)
          case p3 => exact (fun _ _ _ _ _ => pg_name (i := 3) sc_tm.nd rfl (Or.inl rfl) (Or.inr rfl))
          case p4 => exact (fun _ _ _ _ _ => pts_nil)
          case p5 => exact (fun _ _ _ _ _ => pe_op op_mulX (pv 1) (pv 3)))) pa_nil)))), ?_⟩
    have h1 := hv.h1
    have h3 := hv.h3
    have sM := hv.bd
    refine ⟨_, rfl, .int k, .int k, rfl, .inl (.int k), fun H1 s1 => ⟨_, rfl, ?_⟩⟩
    refine iteF ?_
    obtain ⟨p, dx, r, rfl, hp, hM⟩ := id hv.tab
    obtain ⟨a, vx, rfl, ha, hR⟩ := id hM
    have lx : vx.length = n := by rw [hR.len]; exact sM.len
    have qx : ∀ H', Same H1 H' → SqV K H' true a vx := fun H' s => .inl (.inl (s _ _ (s1 _ _ ha)))
    refine r_nret (mkF (tlc_call ?_))
    refine ⟨_, rfl, p, C, dx, _, _, rfl, s1 _ _ hp, Fc.cl, Fc.nR, fldsT_rows _, true, a, vx, rfl, qx H1 (Same.refl H1), ?_⟩
    refine lc_fresh (p := none) n (fun i => .lst (((mulI k M).getD i []).map V.int)) has_none (by omega) (fun i H2 hi s2 => ?_) (fun H2 s2 => ?_) (fun i x H2 H3 C' hi s2 _ hy hC => ?_) fun Da H2 rs nD s2 hD hrl hE => ?_
    · exact its_go (qx H2 s2.same) (List.getElem?_eq_getElem (by omega))
    · exact its_stop (qx H2 s2.same) (by omega)
    · obtain ⟨rfl, ex⟩ := its_yld hy (qx H2 s2.same)
      obtain ⟨rm, em, c', ec, hc⟩ := hR.get ex
      subst ec
      have lm := sM.row rm (List.mem_of_getElem? em)
      have bm := sM.bd rm (List.mem_of_getElem? em)
      have q1 : ∀ H', Same H3 H' → SqV K H' true c' (rm.map V.int) := fun H' s => .inl (.inl (s _ _ (s2.same _ _ (s1 _ _ hc))))
      refine ⟨rfl, ?_⟩
      refine tlc_of (Its true K c') (H1 := H3) (fun R hR' => ⟨_, rfl, true, c', _, rfl, q1 H3 (Same.refl H3), hR'⟩) ?_
      refine lc_el (p := none) n (fun j v => ∃ x, rm[j]? = some x ∧ v = .int (k * x)) has_none (by omega) (fun j H4 hj s4 => ?_) (fun H4 s4 => ?_) (fun j x H4 H5 C2 hj s4 _ hy2 hC2 => ?_) fun Db H4 ys nDb s4 hDb hyl hyE => ?_
      · exact its_go (q1 H4 s4.same) (List.getElem?_eq_getElem (by rw [List.length_map]; omega))
      · exact its_stop (q1 H4 s4.same) (by rw [List.length_map]; omega)
      · obtain ⟨rfl, ex2⟩ := its_yld hy2 (q1 H4 s4.same)
        have hj' : j < rm.length := by omega
        rw [List.getElem?_map, List.getElem?_eq_getElem hj'] at ex2
        cases ex2
        refine ⟨rfl, ?_⟩
        refine ⟨_, rfl, _, rfl, _, _, rfl, rfl, Wd.mul ⟨c, by omega, hk⟩ ⟨b, by omega, bm _ (List.getElem_mem hj')⟩, ?_⟩
        exact hC2 _ _ (RX.refl _) ⟨_, List.getElem?_eq_getElem hj', rfl⟩
      · refine hC Db _ s4 nDb ?_
        have ey : ys = rm.map fun x => V.int (k * x) := map_of_get (n := 0) _ (by rw [hyl, lm]) hyE
        rw [hDb, ey, getD_of (mulI_get em), List.map_map]
        rfl
    · have bA := sM.mulI hk
      have hpy : PyV H2 (.ref Da) (lmD (mulI k M)) := py_lm hD (by rw [hrl, bA.len]) hE
      exact MkF.of (.inl hpy) (grid_lm _) h1 h3 (mulI_sy h1 h3 sM.sh hv.eq) bA (by omega) fun d H4 s4 ht => q d H4 (s1.trans (s2.same.trans s4)) ht
end
end T22
set_option Elab.async false
set_option linter.all false
set_option maxRecDepth 100000
set_option maxHeartbeats 4000000
set_option Elab.async false
set_option linter.all false
set_option maxRecDepth 100000
set_option maxHeartbeats 4000000
namespace T22
open PySem PySem.Spec PyProof.Rows L2 Gd Zn Rp Dn Tb Gn En Zs Ct Op Oc Rg Rt Ro Oa
theorem ifF {b : Bool} {A B : Prop} (h : b = false) (x : B) : if b = true then A else B := by rw [h]; exact x
theorem ifT {b : Bool} {A B : Prop} (h : b = true) (x : A) : if b = true then A else B := by rw [if_pos h]; exact x
theorem LL.same {H H' : Hp} {a : Addr} {bs : List Addr} {M : List (List Int)} (h : LL H a bs M) (s : Same H H') : LL H' a bs M := ⟨s _ _ h.top, h.len, fun i b e => s _ _ (h.row i b e), h.nd, h.ne⟩
end T22
set_option Elab.async false
set_option linter.all false
set_option maxRecDepth 100000
set_option maxHeartbeats 4000000
namespace T22
open PySem PySem.Spec PyProof.Rows L2 Gd Zn Rp Dn Tb Gn En Zs Ct Op Oc Rg Rt Ro Oa
def leanM (M : List (List Int)) (a k : Nat) : List (List Int) := (M.take (a + 1)).map fun r => r.take a ++ [r.getD k 0]
section
variable {P : Program} {w : World} {K : PySem.W.Frag} {mg : Str → Option Value} {base : Heap} {C : Addr}
def ahd (n : Nat) (M : List (List Int)) (i : Nat) : Int := (1 :: crn n M).getD i 0
theorem crn_get {n i : Nat} {M : List (List Int)} (h : i < n) : (crn n M).getD i 0 = dC M i := by
  unfold crn
  rw [List.getD_eq_getElem?_getD, List.getElem?_map, List.getElem?_range h]
  rfl
def lnL (n : Nat) (M : List (List Int)) (i : Nat) : List Int := (List.range n).map fun k => detM (i + 1) (leanM M i k)
end
end T22
set_option Elab.async false
set_option linter.all false
set_option maxRecDepth 100000
set_option maxHeartbeats 4000000
namespace T22
open PySem PySem.Spec PyProof.Rows L2 Gd Zn Rp Dn Tb Gn En Zs Ct Op Oc Rg Rt Ro Oa
theorem r_forS {K : PySem.W.Frag} {tl : TE} {g : TG} {tb : TS} {D : Ends} {σ : L2.St} {H : Hp} (h : tl σ H fun x H1 => ∃ t a xs, x = .ref a ∧ SqV K H1 t a xs ∧ tFor (fun _ H R => R (Its t K a) H) g tb D σ H1) : tFor (iSeq K tl) g tb D σ H := h
theorem g_nm {i : Nat} {v : V} {σ : L2.St} {H : Hp} {k : L2.St → Hp → Prop} (h : k (σ.set i (some v)) H) : gName i v σ H k := h
def isTupD : PyData → Bool
  | .tuple _ => true
  | _ => false
theorem kit_tup (K : PySem.W.Frag) (d : PyData) : PySem.W.kitOne K (.type (tyD d)) (.type "tuple") = some (isTupD d) := by
  cases d <;> dsimp only [tyD, isTupD] <;> exact kit_ty (by decide +kernel)
def headB (k : Nat) (xs : List Int) : Bool := decide (xs.getD k 0 ≠ 0) && (xs.take k).all (fun x => decide (x = 0))
def intsD (ds : List PyData) : List Int := ds.map fun d => match d with | .int x => x | _ => 0
def sqAtB (n k : Nat) : PyData → Bool
  | .tuple [.int b, r] => decide (1 ≤ b) && rowOfB n r && headB k (intsD (items r))
  | _ => false
end T22
set_option Elab.async false
set_option linter.all false
set_option maxRecDepth 100000
set_option maxHeartbeats 4000000
namespace T22
open PySem PySem.Spec PyProof.Rows L2 Gd Zn Rp Dn Tb Gn En Zs Ct Op Oc Rg Rt Ro Oa
def GoodD (d : PyData) (p : Int × List Int) : Prop := ∃ dr, d = .tuple [.int p.1, dr] ∧ isSeq dr = true ∧ items dr = iD p.2
def Tol (H : Hp) (v : V) (ps : List (Int × List Int)) : Prop := ∃ ds, SeqV H v ds ∧ ds.length = ps.length ∧ ∀ (i : Nat) (d : PyData) (p : Int × List Int), ds[i]? = some d → ps[i]? = some p → GoodD d p
theorem Tol.mono {H H' : Hp} {v : V} {ps : List (Int × List Int)} (h : Tol H v ps) (s : Same H H') : Tol H' v ps := by
  obtain ⟨ds, a, b⟩ := h
  exact ⟨ds, SeqV.mono s a, b⟩
def prodP (ps : List (Int × List Int)) : Int := ps.foldl (fun w p => w * p.1) 1
def termP (W : Int) (a b : Nat) (p : Int × List Int) : Int := p.2.getD a 0 * p.2.getD b 0 * (W / p.1)
def sumP (ps : List (Int × List Int)) (a b : Nat) : Int := (ps.map (termP (prodP ps) a b)).sum
def addsB (n : Nat) (M : List (List Int)) (ps : List (Int × List Int)) : Bool := decide (∀ a, a < n → ∀ b, b < n → sumP ps a b = ent M a b * prodP ps)
end T22
set_option Elab.async false
set_option linter.all false
set_option maxRecDepth 100000
set_option maxHeartbeats 4000000
namespace T22
open PySem PySem.Spec PyProof.Rows L2 Gd Zn Rp Dn Tb Gn En Zs Ct Op Oc Rg Rt Ro Oa
def pairOf : PyData → Int × List Int
  | .tuple [.int b, r] => (b, intsD (items r))
  | _ => (0, [])
def toP (ds : List PyData) : List (Int × List Int) := ds.map pairOf
def allAt (n : Nat) (ds : List PyData) : Bool := (List.range ds.length).all fun k => sqAtB n k (ds.getD k .none)
def sqB (n : Nat) (M : List (List Int)) (d : PyData) : Bool := isSeq d && decide ((items d).length = n) && allAt n (items d) && addsB n M (toP (items d))
/-- what may be judged: nothing large in it -/
structure Fine (d : PyData) : Prop where
  l0 : (items d).length ≤ 200
  l1 : ∀ e ∈ items d, (items e).length ≤ 200
  l2 : ∀ e ∈ items d, ∀ c ∈ items e, (items c).length ≤ 200
  sm : ∀ e ∈ items d, ∀ p, GoodD e p → p.1.natAbs < 2 ^ 2000 ∧ Rb 2000 p.2
section
variable {P : Program} {w : World} {K : PySem.W.Frag} {mg : Str → Option Value} {base : Heap} {C : Addr}
/-- what is_squares says of v -/
def IsqV (C : Addr) (H : Hp) (n : Nat) (M : List (List Int)) (v : V) (b : Bool) : Prop := (∃ d, AnyV H v d ∧ Fine d ∧ sqB n M d = b) ∨ ((∃ N, Tab C H v N) ∧ b = false)
theorem IsqV.mono {C : Addr} {H H' : Hp} {n : Nat} {M : List (List Int)} {v : V} {b : Bool} (h : IsqV C H n M v b) (s : Same H H') : IsqV C H' n M v b := by
  rcases h with ⟨d, h1, h2, h3⟩ | ⟨⟨N, t⟩, h⟩
  · exact .inl ⟨d, h1.mono s, h2, h3⟩
  · exact .inr ⟨⟨N, T22.Tab.same s t⟩, h⟩
end
end T22
set_option Elab.async false
set_option linter.all false
set_option maxRecDepth 100000
set_option maxHeartbeats 4000000
namespace T22
open PySem PySem.Spec PyProof.Rows L2 Gd Zn Rp Dn Tb Gn En Zs Ct Op Oc Rg Rt Ro Oa
def HeadOk (k : Nat) (p : Int × List Int) : Prop := 1 ≤ p.1 ∧ p.2.getD k 0 ≠ 0 ∧ ∀ j, j < k → p.2.getD j 0 = 0
instance (k : Nat) (p : Int × List Int) : Decidable (HeadOk k p) := inferInstanceAs (Decidable (_ ∧ _ ∧ _))
def headsB (ps : List (Int × List Int)) : Bool := decide (∀ k, k < ps.length → HeadOk k (ps.getD k (0, [])))
def fitsB (n : Nat) (M : List (List Int)) (ps : List (Int × List Int)) : Bool := headsB ps && addsB n M ps
end T22
set_option Elab.async false
set_option linter.all false
set_option maxRecDepth 100000
set_option maxHeartbeats 4000000
set_option Elab.async false
set_option linter.all false
set_option maxRecDepth 100000
set_option maxHeartbeats 4000000
namespace T22
open PySem PySem.Spec PyProof.Rows L2 Gd Zn Rp Dn Tb Gn En Zs Ct Op Oc Rg Rt Ro Oa
theorem t0 {W a k : Int} (ha : 0 < a) (e : W = a * k) : W / a = k := by rw [e, Int.mul_ediv_cancel_left _ (by omega)]
theorem foldl_mul (ps : List (Int × List Int)) : ∀ w, ps.foldl (fun w p => w * p.1) w = w * prodP ps := by
  induction ps with
  | nil => intro w; show w = w * 1; omega
  | cons p ps ih =>
    intro w
    unfold prodP
    rw [List.foldl_cons, List.foldl_cons, ih, ih (1 * p.1)]
    grind
theorem prod_cons (p : Int × List Int) (ps : List (Int × List Int)) : prodP (p :: ps) = p.1 * prodP ps := by
  show ps.foldl (fun w p => w * p.1) (1 * p.1) = _
  rw [foldl_mul, Int.one_mul]
theorem prod_pos : ∀ {ps : List (Int × List Int)}, (∀ p ∈ ps, 1 ≤ p.1) → 0 < prodP ps
  | [], _ => by decide
  | p :: ps, h => by
    rw [prod_cons]
    exact Int.mul_pos (by have := h p List.mem_cons_self; omega) (prod_pos fun q hq => h q (List.mem_cons_of_mem _ hq))
theorem prod_dvd : ∀ {ps : List (Int × List Int)} {p : Int × List Int}, p ∈ ps → (∀ p ∈ ps, 1 ≤ p.1) → ∃ q, 0 < q ∧ prodP ps = p.1 * q
  | a :: ps, p, h, h1 => by
    rw [prod_cons]
    have h2 := fun q hq => h1 q (List.mem_cons_of_mem _ hq)
    rcases List.mem_cons.mp h with rfl | h
    · exact ⟨_, prod_pos h2, rfl⟩
    · obtain ⟨q, q0, e⟩ := prod_dvd h h2
      exact ⟨a.1 * q, Int.mul_pos (by have := h1 a List.mem_cons_self; omega) q0, by rw [e]; grind⟩
/-- how much a term weighs -/
def wtP (ps : List (Int × List Int)) (p : Int × List Int) : Int := prodP ps / p.1
theorem wt_pos {ps : List (Int × List Int)} {p : Int × List Int} (h : p ∈ ps) (h1 : ∀ p ∈ ps, 1 ≤ p.1) : 0 < wtP ps p := by
  obtain ⟨q, q0, e⟩ := prod_dvd h h1
  unfold wtP
  rw [t0 (by have := h1 p h; omega) e]
  exact q0
theorem sum_sq {α : Type} {f : α → Int} {l : List α} (h : ∀ x ∈ l, 0 ≤ f x) : 0 ≤ (l.map f).sum := by
  induction l with
  | nil => simp
  | cons x l ih =>
    rw [List.map_cons, List.sum_cons]
    have := h x List.mem_cons_self
    have := ih fun y hy => h y (List.mem_cons_of_mem _ hy)
    omega
theorem sum_sq0 {α : Type} {f : α → Int} {l : List α} (h : ∀ x ∈ l, 0 ≤ f x) (e : (l.map f).sum = 0) : ∀ x ∈ l, f x = 0 := by
  induction l with
  | nil => intro x hx; cases hx
  | cons x l ih =>
    rw [List.map_cons, List.sum_cons] at e
    have a := h x List.mem_cons_self
    have b := sum_sq fun y hy => h y (List.mem_cons_of_mem _ hy)
    intro y hy
    rcases List.mem_cons.mp hy with rfl | hy
    · omega
    · exact ih (fun y hy => h y (List.mem_cons_of_mem _ hy)) (by omega) y hy
theorem sum_add {α : Type} {f g : α → Int} {l : List α} : (l.map f).sum + (l.map g).sum = (l.map fun x => f x + g x).sum := by
  induction l with
  | nil => rfl
  | cons x l ih => rw [List.map_cons, List.map_cons, List.map_cons, List.sum_cons, List.sum_cons, List.sum_cons, ← ih]; omega
theorem sum_mul {α : Type} {f : α → Int} {l : List α} (c : Int) : (l.map f).sum * c = (l.map fun x => f x * c).sum := by
  induction l with
  | nil => simp
  | cons x l ih => rw [List.map_cons, List.map_cons, List.sum_cons, List.sum_cons, ← ih, Int.add_mul]
/-- worth, of what fits -/
theorem fit_worth {n : Nat} {M : List (List Int)} {ps : List (Int × List Int)} (h1 : 1 ≤ n) (h3 : n ≤ 3) (hM : Sh n M) (l : ∀ p ∈ ps, p.2.length = n) (hs : addsB n M ps = true) (xs : List Int) (hx : xs.length = n) :
    btwM M xs xs * prodP ps = (ps.map fun p => dot p.2 xs * dot p.2 xs * wtP ps p).sum := by
  unfold addsB at hs
  rw [decide_eq_true_eq] at hs
  have : n = 1 ∨ n = 2 ∨ n = 3 := by omega
  rcases this with rfl | rfl | rfl
  · obtain ⟨a, rfl⟩ := sh1 hM rfl
    obtain ⟨x, rfl⟩ := len1 hx
    have e00 : sumP ps 0 0 = a * prodP ps := hs 0 (by decide) 0 (by decide)
    unfold sumP at e00
    have : btwM [[a]] [x] [x] * prodP ps = a * prodP ps * (x * x) := by simp [btwM, ledM, dot]; grind
    rw [this, ← e00, sum_mul]
    refine congrArg List.sum (List.map_congr_left fun p hp => ?_)
    obtain ⟨u, eu⟩ := len1 (l p hp)
    unfold termP wtP
    rw [eu]
    simp [dot]
    grind
  · obtain ⟨a, b, c, d, rfl⟩ := sh2 hM rfl
    obtain ⟨x, y, rfl⟩ := len2 hx
    have e00 : sumP ps 0 0 = a * prodP ps := hs 0 (by decide) 0 (by decide)
    have e01 : sumP ps 0 1 = b * prodP ps := hs 0 (by decide) 1 (by decide)
    have e10 : sumP ps 1 0 = c * prodP ps := hs 1 (by decide) 0 (by decide)
    have e11 : sumP ps 1 1 = d * prodP ps := hs 1 (by decide) 1 (by decide)
    have : btwM [[a, b], [c, d]] [x, y] [x, y] * prodP ps = a * prodP ps * (x * x) + (b * prodP ps * (x * y) + (c * prodP ps * (y * x) + d * prodP ps * (y * y))) := by simp [btwM, ledM, dot]; grind
    rw [this, ← e00, ← e01, ← e10, ← e11]
    unfold sumP
    rw [sum_mul, sum_mul, sum_mul, sum_mul, sum_add, sum_add, sum_add]
    refine congrArg List.sum (List.map_congr_left fun p hp => ?_)
    obtain ⟨u, v, eu⟩ := len2 (l p hp)
    unfold termP wtP
    rw [eu]
    simp [dot]
    grind
  · obtain ⟨a, b, c, d, e, f, g, h', i, rfl⟩ := sh3 hM rfl
    obtain ⟨x, y, z, rfl⟩ := len3 hx
    have e00 : sumP ps 0 0 = a * prodP ps := hs 0 (by decide) 0 (by decide)
    have e01 : sumP ps 0 1 = b * prodP ps := hs 0 (by decide) 1 (by decide)
    have e02 : sumP ps 0 2 = c * prodP ps := hs 0 (by decide) 2 (by decide)
    have e10 : sumP ps 1 0 = d * prodP ps := hs 1 (by decide) 0 (by decide)
    have e11 : sumP ps 1 1 = e * prodP ps := hs 1 (by decide) 1 (by decide)
    have e12 : sumP ps 1 2 = f * prodP ps := hs 1 (by decide) 2 (by decide)
    have e20 : sumP ps 2 0 = g * prodP ps := hs 2 (by decide) 0 (by decide)
    have e21 : sumP ps 2 1 = h' * prodP ps := hs 2 (by decide) 1 (by decide)
    have e22 : sumP ps 2 2 = i * prodP ps := hs 2 (by decide) 2 (by decide)
    have : btwM [[a, b, c], [d, e, f], [g, h', i]] [x, y, z] [x, y, z] * prodP ps = a * prodP ps * (x * x) + (b * prodP ps * (x * y) + (c * prodP ps * (x * z) + (d * prodP ps * (y * x) + (e * prodP ps * (y * y) + (f * prodP ps * (y * z) + (g * prodP ps * (z * x) + (h' * prodP ps * (z * y) + i * prodP ps * (z * z)))))))) := by
      generalize prodP ps = W
      simp [btwM, ledM, dot]
      grind
    rw [this, ← e00, ← e01, ← e02, ← e10, ← e11, ← e12, ← e20, ← e21, ← e22]
    unfold sumP
    rw [sum_mul, sum_mul, sum_mul, sum_mul, sum_mul, sum_mul, sum_mul, sum_mul, sum_mul, sum_add, sum_add, sum_add, sum_add, sum_add, sum_add, sum_add, sum_add]
    refine congrArg List.sum (List.map_congr_left fun p hp => ?_)
    obtain ⟨u, v, w, eu⟩ := len3 (l p hp)
    unfold termP wtP
    generalize prodP ps / p.1 = W
    rw [eu]
    simp [dot]
    grind
end T22
set_option Elab.async false
set_option linter.all false
set_option maxRecDepth 100000
set_option maxHeartbeats 4000000
namespace T22
open PySem PySem.Spec PyProof.Rows L2 Gd Zn Rp Dn Tb Gn En Zs Ct Op Oc Rg Rt Ro Oa
theorem head_dot {n i : Nat} {l xs : List Int} (h3 : n ≤ 3) (hi : i < n) (ll : l.length = n) (hd : ∀ k, k < i → l.getD k 0 = 0) (hx : xs.length = n) (z : ∀ k, i + 1 ≤ k → xs.getD k 0 = 0) : dot l xs = l.getD i 0 * xs.getD i 0 := by
  rcases lt_cases h3 hi with ⟨rfl, rfl⟩ | ⟨rfl, hq⟩ | ⟨rfl, hq⟩
  · obtain ⟨x, rfl⟩ := len1 hx
    obtain ⟨u, rfl⟩ := len1 ll
    simp [dot]
  · obtain ⟨x, y, rfl⟩ := len2 hx
    obtain ⟨u, v, rfl⟩ := len2 ll
    rcases hq with rfl | rfl
    · have : y = 0 := z 1 (by decide)
      subst this
      simp [dot]
    · have : u = 0 := hd 0 (by decide)
      subst this
      simp [dot]
  · obtain ⟨x, y, w, rfl⟩ := len3 hx
    obtain ⟨u, v, t, rfl⟩ := len3 ll
    rcases hq with rfl | rfl | rfl
    · have e1 : y = 0 := z 1 (by decide)
      have e2 : w = 0 := z 2 (by decide)
      subst e1 e2
      simp [dot]
    · have e1 : u = 0 := hd 0 (by decide)
      have e2 : w = 0 := z 2 (by decide)
      subst e1 e2
      simp [dot]
    · have e1 : u = 0 := hd 0 (by decide)
      have e2 : v = 0 := hd 1 (by decide)
      subst e1 e2
      simp [dot]
theorem fits_head {n : Nat} {M : List (List Int)} {ps : List (Int × List Int)} (f : fitsB n M ps = true) {k : Nat} {p : Int × List Int} (e : ps[k]? = some p) : HeadOk k p := by
  unfold fitsB headsB at f
  rw [Bool.and_eq_true, decide_eq_true_eq] at f
  have := f.1 k (List.getElem?_eq_some_iff.mp e).1
  rwa [List.getD_eq_getElem?_getD, e] at this
theorem fit_pos {n : Nat} {M : List (List Int)} {ps : List (Int × List Int)} (h1 : 1 ≤ n) (h3 : n ≤ 3) (hM : Sh n M) (lp : ps.length = n) (l : ∀ p ∈ ps, p.2.length = n) (f : fitsB n M ps = true) : Pos n M := fun xs hx ⟨x, mx, nx⟩ => by
  have f2 := f
  unfold fitsB at f2
  rw [Bool.and_eq_true] at f2
  have b1 : ∀ p ∈ ps, 1 ≤ p.1 := fun p hp => by
    obtain ⟨i, hi, rfl⟩ := List.getElem_of_mem hp
    exact (fits_head f (List.getElem?_eq_getElem hi)).1
  have e := fit_worth h1 h3 hM l f2.2 xs hx
  have W0 := prod_pos b1
  have nn : ∀ p ∈ ps, 0 ≤ dot p.2 xs * dot p.2 xs * wtP ps p := fun p hp => Int.mul_nonneg (sq_nn _) (Int.le_of_lt (wt_pos hp b1))
  have s0 := sum_sq nn
  rw [← e] at s0
  have w0 : 0 ≤ btwM M xs xs := by
    by_cases z : 0 ≤ btwM M xs xs
    · exact z
    · have := Int.mul_neg_of_neg_of_pos (by omega : btwM M xs xs < 0) W0
      omega
  by_cases z : btwM M xs xs = 0
  · exfalso
    rw [z, Int.zero_mul] at e
    have d0 : ∀ p ∈ ps, dot p.2 xs = 0 := fun p hp => by
      have := sum_sq0 nn e.symm p hp
      rcases Int.mul_eq_zero.mp this with q | q
      · rcases Int.mul_eq_zero.mp q with q | q <;> exact q
      · have := wt_pos hp b1; omega
    have key : ∀ m, m ≤ n → ∀ k, n - m ≤ k → xs.getD k 0 = 0 := fun m => by
      induction m with
      | zero =>
        intro _ k hk
        rw [List.getD_eq_getElem?_getD, List.getElem?_eq_none (by omega)]
        rfl
      | succ m ih =>
        intro hm k hk
        have ihm := ih (by omega)
        by_cases c : k = n - (m + 1)
        · have hkn : k < n := by omega
          have ep : ps[k]? = some (ps[k]'(by omega)) := List.getElem?_eq_getElem _
          have mp := List.mem_of_getElem? ep
          have hh := fits_head f ep
          have hd := head_dot h3 hkn (l _ mp) hh.2.2 hx fun j hj => ihm j (by omega)
          rw [d0 _ mp] at hd
          rcases Int.mul_eq_zero.mp hd.symm with q | q
          · exact absurd q hh.2.1
          · exact q
        · exact ihm k (by omega)
    obtain ⟨i, hi, rfl⟩ := List.getElem_of_mem mx
    have := key n (Nat.le_refl n) i (by omega)
    rw [List.getD_eq_getElem?_getD, List.getElem?_eq_getElem hi] at this
    exact nx this
  · omega
def subM (M : List (List Int)) (sp : List Nat) : List (List Int) := sp.map fun a => sp.map fun b => ent M a b
def lotsB : Nat → Nat → List (List Nat)
  | _, 0 => [[]]
  | 0, _ + 1 => []
  | s + 1, k + 1 => lotsB s (k + 1) ++ (lotsB s k).map fun l => l ++ [s]
def mdlM (n : Nat) (M : List (List Int)) (k : Nat) : Int := ((lotsB n k).map fun sp => detM k (subM M sp)).sum
theorem m11 (a : Int) : mdlM 1 [[a]] 1 = a := by
  simp [mdlM, lotsB, subM, ent]
  exact det1 a
theorem m21 (a b c : Int) : mdlM 2 [[a, b], [b, c]] 1 = a + c := by
  simp [mdlM, lotsB, subM, ent]
  rw [det1, det1]
theorem m22 (a b c : Int) : mdlM 2 [[a, b], [b, c]] 2 = a * c - b * b := by
  simp [mdlM, lotsB, subM, ent]
  rw [det2]
theorem m31 (a b c d e f : Int) : mdlM 3 [[a, b, c], [b, d, e], [c, e, f]] 1 = a + d + f := by
  simp [mdlM, lotsB, subM, ent]
  rw [det1, det1, det1]
  omega
theorem m32 (a b c d e f : Int) : mdlM 3 [[a, b, c], [b, d, e], [c, e, f]] 2 = a * d - b * b + (a * f - c * c) + (d * f - e * e) := by
  simp [mdlM, lotsB, subM, ent]
  rw [det2, det2, det2]
  omega
theorem m33 (a b c d e f : Int) : mdlM 3 [[a, b, c], [b, d, e], [c, e, f]] 3 = detM 3 [[a, b, c], [b, d, e], [c, e, f]] := by
  simp [mdlM, lotsB, subM, ent]
theorem same_sign {a c b : Int} (h1 : 0 < a + c) (h2 : 0 < a * c - b * b) : 0 < a := by
  by_cases z : 0 < a
  · exact z
  · have hc : 0 < c := by omega
    have := Int.mul_nonpos_of_nonpos_of_nonneg (by omega : a ≤ 0) (Int.le_of_lt hc)
    have := sq_nn b
    omega
section
variable (a b c d e f x y z : Int)
def E2 : Int := a * d - b * b + (a * f - c * c) + (d * f - e * e)
def E3 : Int := a * (d * f - e * e) - b * (b * f - e * c) + c * (b * e - d * c)
theorem ch1 : a * (a * (a * x + b * y + c * z) + b * (b * x + d * y + e * z) + c * (c * x + e * y + f * z)) + b * (b * (a * x + b * y + c * z) + d * (b * x + d * y + e * z) + e * (c * x + e * y + f * z)) + c * (c * (a * x + b * y + c * z) + e * (b * x + d * y + e * z) + f * (c * x + e * y + f * z)) + E2 a b c d e f * (a * x + b * y + c * z)
    = (a + d + f) * (a * (a * x + b * y + c * z) + b * (b * x + d * y + e * z) + c * (c * x + e * y + f * z)) + E3 a b c d e f * x := by
  unfold E2 E3
  grind
theorem ch2 : b * (a * (a * x + b * y + c * z) + b * (b * x + d * y + e * z) + c * (c * x + e * y + f * z)) + d * (b * (a * x + b * y + c * z) + d * (b * x + d * y + e * z) + e * (c * x + e * y + f * z)) + e * (c * (a * x + b * y + c * z) + e * (b * x + d * y + e * z) + f * (c * x + e * y + f * z)) + E2 a b c d e f * (b * x + d * y + e * z)
    = (a + d + f) * (b * (a * x + b * y + c * z) + d * (b * x + d * y + e * z) + e * (c * x + e * y + f * z)) + E3 a b c d e f * y := by
  unfold E2 E3
  grind
theorem ch3 : c * (a * (a * x + b * y + c * z) + b * (b * x + d * y + e * z) + c * (c * x + e * y + f * z)) + e * (b * (a * x + b * y + c * z) + d * (b * x + d * y + e * z) + e * (c * x + e * y + f * z)) + f * (c * (a * x + b * y + c * z) + e * (b * x + d * y + e * z) + f * (c * x + e * y + f * z)) + E2 a b c d e f * (c * x + e * y + f * z)
    = (a + d + f) * (c * (a * x + b * y + c * z) + e * (b * x + d * y + e * z) + f * (c * x + e * y + f * z)) + E3 a b c d e f * z := by
  unfold E2 E3
  grind
end
end T22
set_option Elab.async false
set_option linter.all false
set_option maxRecDepth 100000
set_option maxHeartbeats 4000000
namespace T22
open PySem PySem.Spec PyProof.Rows L2 Gd Zn Rp Dn Tb Gn En Zs Ct Op Oc Rg Rt Ro Oa
theorem yAy (e1 e2 e3 u1 u2 u3 v1 v2 v3 x1 x2 x3 : Int) (h : x1 * v1 + x2 * v2 + x3 * v3 = u1 * u1 + u2 * u2 + u3 * u3) :
    (v1 + e2 * x1) * (e1 * v1 + e3 * x1) + (v2 + e2 * x2) * (e1 * v2 + e3 * x2) + (v3 + e2 * x3) * (e1 * v3 + e3 * x3) = e1 * (v1 * v1 + v2 * v2 + v3 * v3) + (e3 + e1 * e2) * (u1 * u1 + u2 * u2 + u3 * u3) + e2 * e3 * (x1 * x1 + x2 * x2 + x3 * x3) := by
  rw [← h]
  grind
theorem xAu (a b c d e f x y z : Int) : x * (a * (a * x + b * y + c * z) + b * (b * x + d * y + e * z) + c * (c * x + e * y + f * z)) + y * (b * (a * x + b * y + c * z) + d * (b * x + d * y + e * z) + e * (c * x + e * y + f * z)) + z * (c * (a * x + b * y + c * z) + e * (b * x + d * y + e * z) + f * (c * x + e * y + f * z))
    = (a * x + b * y + c * z) * (a * x + b * y + c * z) + (b * x + d * y + e * z) * (b * x + d * y + e * z) + (c * x + e * y + f * z) * (c * x + e * y + f * z) := by grind
theorem sq3_pos {x y z : Int} (h : x ≠ 0 ∨ y ≠ 0 ∨ z ≠ 0) : 0 < x * x + y * y + z * z := by
  have p : ∀ {t : Int}, t ≠ 0 → 0 < t * t := fun {t} ht => by
    rcases Int.lt_or_gt_of_ne ht with h | h
    · exact Int.mul_pos_of_neg_of_neg h h
    · exact Int.mul_pos h h
  have a := sq_nn x
  have b := sq_nn y
  have c := sq_nn z
  rcases h with h | h | h
  · have := p h; omega
  · have := p h; omega
  · have := p h; omega
theorem lin3 (a b c v1 v2 v3 x y z e2 : Int) : a * (v1 + e2 * x) + b * (v2 + e2 * y) + c * (v3 + e2 * z) = a * v1 + b * v2 + c * v3 + e2 * (a * x + b * y + c * z) := by grind
theorem btw3 (a b c d e f y1 y2 y3 : Int) : btwM [[a, b, c], [b, d, e], [c, e, f]] [y1, y2, y3] [y1, y2, y3] = y1 * (a * y1 + b * y2 + c * y3) + y2 * (b * y1 + d * y2 + e * y3) + y3 * (c * y1 + e * y2 + f * y3) := by
  simp [btwM, ledM, dot, Int.add_assoc]
theorem worthB0 {a b c d e f x y z u1 u2 u3 v1 v2 v3 e1 e2 e3 : Int} (hu1 : a * x + b * y + c * z = u1) (hu2 : b * x + d * y + e * z = u2) (hu3 : c * x + e * y + f * z = u3)
    (k1 : a * v1 + b * v2 + c * v3 + e2 * u1 = e1 * v1 + e3 * x) (k2 : b * v1 + d * v2 + e * v3 + e2 * u2 = e1 * v2 + e3 * y) (k3 : c * v1 + e * v2 + f * v3 + e2 * u3 = e1 * v3 + e3 * z)
    (k4 : x * v1 + y * v2 + z * v3 = u1 * u1 + u2 * u2 + u3 * u3) (h1 : 0 < e1) (h2 : 0 < e2) (h3 : 0 < e3) (hx : x ≠ 0 ∨ y ≠ 0 ∨ z ≠ 0) :
    0 < btwM [[a, b, c], [b, d, e], [c, e, f]] [v1 + e2 * x, v2 + e2 * y, v3 + e2 * z] [v1 + e2 * x, v2 + e2 * y, v3 + e2 * z] := by
  have A1 : a * (v1 + e2 * x) + b * (v2 + e2 * y) + c * (v3 + e2 * z) = e1 * v1 + e3 * x := by rw [lin3, hu1]; exact k1
  have A2 : b * (v1 + e2 * x) + d * (v2 + e2 * y) + e * (v3 + e2 * z) = e1 * v2 + e3 * y := by rw [lin3, hu2]; exact k2
  have A3 : c * (v1 + e2 * x) + e * (v2 + e2 * y) + f * (v3 + e2 * z) = e1 * v3 + e3 * z := by rw [lin3, hu3]; exact k3
  rw [btw3, A1, A2, A3, yAy e1 e2 e3 u1 u2 u3 v1 v2 v3 x y z k4]
  have s1 : 0 ≤ v1 * v1 + v2 * v2 + v3 * v3 := by have := sq_nn v1; have := sq_nn v2; have := sq_nn v3; omega
  have s2 : 0 ≤ u1 * u1 + u2 * u2 + u3 * u3 := by have := sq_nn u1; have := sq_nn u2; have := sq_nn u3; omega
  have p1 := Int.mul_nonneg (Int.le_of_lt h1) s1
  have p2 := Int.mul_nonneg (a := e3 + e1 * e2) (by have := Int.mul_pos h1 h2; omega) s2
  have p3 := Int.mul_pos (Int.mul_pos h2 h3) (sq3_pos hx)
  omega
/-- A A + e2 -/
def bM (a b c d e f e2 : Int) : List (List Int) := [[a * a + b * b + c * c + e2, a * b + b * d + c * e, a * c + b * e + c * f], [a * b + b * d + c * e, b * b + d * d + e * e + e2, b * c + d * e + e * f], [a * c + b * e + c * f, b * c + d * e + e * f, c * c + e * e + f * f + e2]]
theorem bM_worth (a b c d e f e2 x y z : Int) : btwM (bM a b c d e f e2) [x, y, z] [x, y, z] = (a * x + b * y + c * z) * (a * x + b * y + c * z) + (b * x + d * y + e * z) * (b * x + d * y + e * z) + (c * x + e * y + f * z) * (c * x + e * y + f * z) + e2 * (x * x + y * y + z * z) := by
  unfold bM
  rw [btw3]
  grind
theorem bM_pos {a b c d e f e2 : Int} (h : 0 < e2) : Pos 3 (bM a b c d e f e2) := fun xs hx ⟨w, mw, nw⟩ => by
  obtain ⟨x, y, z, rfl⟩ := len3 hx
  rw [bM_worth]
  have hz : x ≠ 0 ∨ y ≠ 0 ∨ z ≠ 0 := by
    simp at mw
    rcases mw with rfl | rfl | rfl
    · exact .inl nw
    · exact .inr (.inl nw)
    · exact .inr (.inr nw)
  have p := Int.mul_pos h (sq3_pos hz)
  have s1 := sq_nn (a * x + b * y + c * z)
  have s2 := sq_nn (b * x + d * y + e * z)
  have s3 := sq_nn (c * x + e * y + f * z)
  omega
/-- the adjugate of a symmetric form, applied -/
theorem adj3 (p q r s t u w1 w2 w3 : Int) :
    p * ((s * u - t * t) * w1 + (r * t - q * u) * w2 + (q * t - r * s) * w3) + q * ((r * t - q * u) * w1 + (p * u - r * r) * w2 + (q * r - p * t) * w3) + r * ((q * t - r * s) * w1 + (q * r - p * t) * w2 + (p * s - q * q) * w3) = (p * (s * u - t * t) - q * (q * u - t * r) + r * (q * t - s * r)) * w1 ∧
    q * ((s * u - t * t) * w1 + (r * t - q * u) * w2 + (q * t - r * s) * w3) + s * ((r * t - q * u) * w1 + (p * u - r * r) * w2 + (q * r - p * t) * w3) + t * ((q * t - r * s) * w1 + (q * r - p * t) * w2 + (p * s - q * q) * w3) = (p * (s * u - t * t) - q * (q * u - t * r) + r * (q * t - s * r)) * w2 ∧
    r * ((s * u - t * t) * w1 + (r * t - q * u) * w2 + (q * t - r * s) * w3) + t * ((r * t - q * u) * w1 + (p * u - r * r) * w2 + (q * r - p * t) * w3) + u * ((q * t - r * s) * w1 + (q * r - p * t) * w2 + (p * s - q * q) * w3) = (p * (s * u - t * t) - q * (q * u - t * r) + r * (q * t - s * r)) * w3 := by
  refine ⟨?_, ?_, ?_⟩ <;> grind
theorem btw_scale (a b c d e f k x y z : Int) : btwM [[a, b, c], [b, d, e], [c, e, f]] [k * x, k * y, k * z] [k * x, k * y, k * z] = k * k * btwM [[a, b, c], [b, d, e], [c, e, f]] [x, y, z] [x, y, z] := by
  rw [btw3, btw3]
  grind
theorem Bx1 (a b c d e f e2 x y z : Int) : (a * a + b * b + c * c + e2) * x + (a * b + b * d + c * e) * y + (a * c + b * e + c * f) * z = a * (a * x + b * y + c * z) + b * (b * x + d * y + e * z) + c * (c * x + e * y + f * z) + e2 * x := by grind
theorem Bx2 (a b c d e f e2 x y z : Int) : (a * b + b * d + c * e) * x + (b * b + d * d + e * e + e2) * y + (b * c + d * e + e * f) * z = b * (a * x + b * y + c * z) + d * (b * x + d * y + e * z) + e * (c * x + e * y + f * z) + e2 * y := by grind
theorem Bx3 (a b c d e f e2 x y z : Int) : (a * c + b * e + c * f) * x + (b * c + d * e + e * f) * y + (c * c + e * e + f * f + e2) * z = c * (a * x + b * y + c * z) + e * (b * x + d * y + e * z) + f * (c * x + e * y + f * z) + e2 * z := by grind
/-- where the middles are above 0 every row's worth is -/
theorem mid_pos3 {a b c d e f : Int} (h1 : 0 < a + d + f) (h2 : 0 < E2 a b c d e f) (h3 : 0 < E3 a b c d e f) : Pos 3 [[a, b, c], [b, d, e], [c, e, f]] := fun xs hx ⟨w, mw, nw⟩ => by
  obtain ⟨w1, w2, w3, rfl⟩ := len3 hx
  have hw : w1 ≠ 0 ∨ w2 ≠ 0 ∨ w3 ≠ 0 := by
    simp at mw
    rcases mw with rfl | rfl | rfl
    · exact .inl nw
    · exact .inr (.inl nw)
    · exact .inr (.inr nw)
  have bp := bM_pos (a := a) (b := b) (c := c) (d := d) (e := e) (f := f) h2
  have bsy : transp 3 (bM a b c d e f (E2 a b c d e f)) = bM a b c d e f (E2 a b c d e f) := rfl
  have bsh : Sh 3 (bM a b c d e f (E2 a b c d e f)) := ⟨rfl, by simp [bM]⟩
  have bd := pos_bowl (by decide) bsh bsy bp 2 (by decide)
  have el : dC (bM a b c d e f (E2 a b c d e f)) 2 = detM 3 (bM a b c d e f (E2 a b c d e f)) := dC_last (n := 3) (by decide) bsh
  rw [el] at bd
  unfold bM at bd
  rw [det3] at bd
  have b1 := Bx1 a b c d e f (E2 a b c d e f)
  have b2 := Bx2 a b c d e f (E2 a b c d e f)
  have b3 := Bx3 a b c d e f (E2 a b c d e f)
  generalize a * a + b * b + c * c + E2 a b c d e f = p at bd b1
  generalize a * b + b * d + c * e = q at bd b1 b2
  generalize a * c + b * e + c * f = r at bd b1 b3
  generalize b * b + d * d + e * e + E2 a b c d e f = s at bd b2
  generalize b * c + d * e + e * f = t at bd b2 b3
  generalize c * c + e * e + f * f + E2 a b c d e f = u at bd b3
  obtain ⟨a1, a2, a3⟩ := adj3 p q r s t u w1 w2 w3
  generalize p * (s * u - t * t) - q * (q * u - t * r) + r * (q * t - s * r) = k at bd a1 a2 a3
  generalize (s * u - t * t) * w1 + (r * t - q * u) * w2 + (q * t - r * s) * w3 = x at a1 a2 a3
  generalize (r * t - q * u) * w1 + (p * u - r * r) * w2 + (q * r - p * t) * w3 = y at a1 a2 a3
  generalize (q * t - r * s) * w1 + (q * r - p * t) * w2 + (p * s - q * q) * w3 = z at a1 a2 a3
  rw [b1] at a1
  rw [b2] at a2
  rw [b3] at a3
  have hx' : x ≠ 0 ∨ y ≠ 0 ∨ z ≠ 0 := by
    by_cases zx : x = 0 ∧ y = 0 ∧ z = 0
    · exfalso
      obtain ⟨rfl, rfl, rfl⟩ := zx
      simp only [Int.mul_zero, Int.add_zero] at a1 a2 a3
      rcases hw with h | h | h
      · exact h ((Int.mul_eq_zero.mp a1.symm).resolve_left (by omega))
      · exact h ((Int.mul_eq_zero.mp a2.symm).resolve_left (by omega))
      · exact h ((Int.mul_eq_zero.mp a3.symm).resolve_left (by omega))
    · by_cases x0 : x = 0
      · by_cases y0 : y = 0
        · exact .inr (.inr fun z0 => zx ⟨x0, y0, z0⟩)
        · exact .inr (.inl y0)
      · exact .inl x0
  have main := worthB0 (v1 := a * (a * x + b * y + c * z) + b * (b * x + d * y + e * z) + c * (c * x + e * y + f * z)) (v2 := b * (a * x + b * y + c * z) + d * (b * x + d * y + e * z) + e * (c * x + e * y + f * z)) (v3 := c * (a * x + b * y + c * z) + e * (b * x + d * y + e * z) + f * (c * x + e * y + f * z)) rfl rfl rfl (ch1 a b c d e f x y z) (ch2 a b c d e f x y z) (ch3 a b c d e f x y z) (xAu a b c d e f x y z) h1 h2 h3 hx'
  rw [a1, a2, a3, btw_scale] at main
  exact pp main rfl (Int.mul_pos bd bd)
end T22
set_option Elab.async false
set_option linter.all false
set_option maxRecDepth 100000
set_option maxHeartbeats 4000000
namespace T22
open PySem PySem.Spec PyProof.Rows L2 Gd Zn Rp Dn Tb Gn En Zs Ct Op Oc Rg Rt Ro Oa
theorem e3det (a b c d e f : Int) : E3 a b c d e f = detM 3 [[a, b, c], [b, d, e], [c, e, f]] := by
  rw [det3]
  rfl
theorem pos_of_mul {a b c : Int} (h : 0 ≤ c) (e : c < a * b) (ha : 0 < a) : 0 < b := by
  by_cases z : 0 < b
  · exact z
  · have := Int.mul_nonpos_of_nonneg_of_nonpos (Int.le_of_lt ha) (by omega : b ≤ 0)
    omega
theorem bowl_mid {n : Nat} {M : List (List Int)} (h1 : 1 ≤ n) (h3 : n ≤ 3) (hM : Sh n M) (sy : transp n M = M) : (∀ k, 1 ≤ k → k ≤ n → 0 < mdlM n M k) ↔ Bowl n M := by
  have : n = 1 ∨ n = 2 ∨ n = 3 := by omega
  rcases this with rfl | rfl | rfl
  · obtain ⟨a, rfl⟩ := sh1 hM rfl
    constructor
    · intro h i hi
      have := h 1 (by decide) (by decide)
      rw [m11] at this
      obtain rfl : i = 0 := by omega
      unfold dC
      rw [d1E1]
      exact this
    · intro h k k1 k2
      obtain rfl : k = 1 := by omega
      have := h 0 (by decide)
      unfold dC at this
      rw [d1E1] at this
      rw [m11]
      exact this
  · obtain ⟨a, b, c, rfl⟩ := sy2 hM sy
    constructor
    · intro h i hi
      have k1 := h 1 (by decide) (by decide)
      have k2 := h 2 (by decide) (by decide)
      rw [m21] at k1
      rw [m22] at k2
      have : i = 0 ∨ i = 1 := by omega
      unfold dC
      rcases this with rfl | rfl
      · rw [d1E2]; exact same_sign k1 k2
      · rw [d2E2]; exact k2
    · intro h k k1 k2
      have a0 := h 0 (by decide)
      have a1 := h 1 (by decide)
      unfold dC at a0 a1
      rw [d1E2] at a0
      rw [d2E2] at a1
      have : k = 1 ∨ k = 2 := by omega
      rcases this with rfl | rfl
      · rw [m21]
        have := pos_of_mul (b := c) (sq_nn b) (by omega : b * b < a * c) a0
        omega
      · rw [m22]; exact a1
  · obtain ⟨a, b, c, d, e, f, rfl⟩ := sy3 hM sy
    constructor
    · intro h
      have k1 := h 1 (by decide) (by decide)
      have k2 := h 2 (by decide) (by decide)
      have k3 := h 3 (by decide) (by decide)
      rw [m31] at k1
      rw [m32] at k2
      rw [m33, ← e3det] at k3
      exact pos_bowl (by decide) hM sy (mid_pos3 k1 k2 k3)
    · intro h k k1 k2
      have a0 := h 0 (by decide)
      have a1 := h 1 (by decide)
      have a2 := h 2 (by decide)
      unfold dC at a0 a1 a2
      rw [d1E3] at a0
      rw [d2E3] at a1
      rw [d3E3] at a2
      have hd := pos_of_mul (b := d) (sq_nn b) (by omega : b * b < a * d) a0
      have q1 : (a * d - b * b) * (a * f - c * c) = a * (a * (d * f - e * e) - b * (b * f - e * c) + c * (b * e - d * c)) + (a * e - b * c) * (a * e - b * c) := by grind
      have q2 : (a * d - b * b) * (d * f - e * e) = d * (a * (d * f - e * e) - b * (b * f - e * c) + c * (b * e - d * c)) + (b * e - c * d) * (b * e - c * d) := by grind
      have p1 := Int.mul_pos a0 a2
      have p2 := Int.mul_pos hd a2
      have s1 := sq_nn (a * e - b * c)
      have s2 := sq_nn (b * e - c * d)
      have g1 : 0 < a * f - c * c := pp (by omega) q1.symm a1
      have g2 : 0 < d * f - e * e := pp (by omega) q2.symm a1
      have hf := pos_of_mul (b := f) (sq_nn c) (by omega : c * c < a * f) a0
      have : k = 1 ∨ k = 2 ∨ k = 3 := by omega
      rcases this with rfl | rfl | rfl
      · rw [m31]; omega
      · rw [m32]; omega
      · rw [m33, det3]; exact a2
def sqL (n : Nat) (M : List (List Int)) : List (Int × List Int) := (List.range n).map fun k => (ahd n M k * dC M k, lnL n M k)
theorem ln1 (a : Int) : lnL 1 [[a]] 0 = [a] := by
  simp [lnL, leanM, List.range_succ]
  exact det1 a
theorem ln20 (a b c d : Int) : lnL 2 [[a, b], [c, d]] 0 = [a, b] := by
  simp [lnL, leanM, List.range_succ]
  exact ⟨det1 a, det1 b⟩
theorem ln21 (a b c : Int) : lnL 2 [[a, b], [b, c]] 1 = [0, a * c - b * b] := by
  simp [lnL, leanM, List.range_succ]
  rw [det2, det2]
  exact ⟨by grind, rfl⟩
theorem ln30 (a b c d e f : Int) : lnL 3 [[a, b, c], [b, d, e], [c, e, f]] 0 = [a, b, c] := by
  simp [lnL, leanM, List.range_succ]
  exact ⟨det1 a, det1 b, det1 c⟩
theorem ln31 (a b c d e f : Int) : lnL 3 [[a, b, c], [b, d, e], [c, e, f]] 1 = [0, a * d - b * b, a * e - c * b] := by
  simp [lnL, leanM, List.range_succ]
  rw [det2, det2, det2]
  exact ⟨by grind, rfl, rfl⟩
theorem ln32 (a b c d e f : Int) : lnL 3 [[a, b, c], [b, d, e], [c, e, f]] 2 = [0, 0, detM 3 [[a, b, c], [b, d, e], [c, e, f]]] := by
  simp [lnL, leanM, List.range_succ]
  rw [det3, det3]
  exact ⟨by grind, by grind⟩
theorem k11 (a b d k D x : Int) (e : a * d = k + b * b) : b * b * (k * D) + k * k * D + a * (0 * 0) = d * a * (k * D) := by
  rw [Int.mul_comm d a, e]
  grind
theorem k12 (a b c f k D x : Int) (e : a * f = x + b * c) : b * c * (k * D) + k * x * D + a * (0 * D) = f * a * (k * D) := by
  rw [Int.mul_comm f a, e]
  grind
theorem k21 (a b c f k D x : Int) (e : a * f = x + b * c) : c * b * (k * D) + x * k * D + a * (D * 0) = f * a * (k * D) := by
  rw [Int.mul_comm f a, e]
  grind
theorem k22 (a c g k D x : Int) (e : k * (a * g) = a * D + x * x + k * (c * c)) : c * c * (k * D) + x * x * D + a * (D * D) = g * a * (k * D) := by
  have : g * a * (k * D) = k * (a * g) * D := by grind
  rw [this, e]
  grind
theorem k0 (a r s k D z t u : Int) (hz : r * s = z * a) (ht : t = 0) (hu : u = 0) : r * s * (k * D) + t * D + a * u = z * a * (k * D) := by
  rw [hz, ht, hu]
  grind
theorem kg (a k D r0 s0 r1 s1 r2 s2 : Int) : r0 * s0 * (a * k * k * D) + (r1 * s1 * (a * k * D) + (r2 * s2 * (a * a * k) + 0)) = a * k * (r0 * s0 * (k * D) + r1 * s1 * D + a * (r2 * s2)) := by grind
theorem kz (a k D z : Int) : a * k * (z * a * (k * D)) = z * (1 * (1 * a) * (a * k) * (k * D)) := by grind
theorem kq1 (a k D : Int) : 1 * (1 * a) * (a * k) * (k * D) = 1 * a * (a * k * k * D) := by grind
theorem kq2 (a k D : Int) : 1 * (1 * a) * (a * k) * (k * D) = a * k * (a * k * D) := by grind
theorem kq3 (a k D : Int) : 1 * (1 * a) * (a * k) * (k * D) = k * D * (a * a * k) := by grind
theorem sq_fits {n : Nat} {M : List (List Int)} (h1 : 1 ≤ n) (h3 : n ≤ 3) (hM : Sh n M) (sy : transp n M = M) (hB : Bowl n M) : fitsB n M (sqL n M) = true := by
  have : n = 1 ∨ n = 2 ∨ n = 3 := by omega
  rcases this with rfl | rfl | rfl
  · obtain ⟨a, rfl⟩ := sh1 hM rfl
    have a0 : 0 < a := by have := hB 0 (by decide); unfold dC at this; rw [d1E1] at this; exact this
    have e : sqL 1 [[a]] = [(1 * a, [a])] := by
      show [(1 * dC [[a]] 0, lnL 1 [[a]] 0)] = _
      unfold dC
      rw [ln1, d1E1]
    rw [e]
    unfold fitsB headsB addsB
    rw [Bool.and_eq_true, decide_eq_true_eq, decide_eq_true_eq]
    refine ⟨fun k hk => ?_, fun i hi j hj => ?_⟩
    · have : k = 0 := by simp at hk; exact hk
      subst this
      refine ⟨by show 1 ≤ 1 * a; omega, by show a ≠ 0; omega, fun j hj => absurd hj (by omega)⟩
    · obtain rfl : i = 0 := by omega
      obtain rfl : j = 0 := by omega
      show a * a * (1 * (1 * a) / (1 * a)) + 0 = a * (1 * (1 * a))
      rw [t0 (k := 1) (by omega) (by omega)]
      grind
  · obtain ⟨a, b, c, rfl⟩ := sy2 hM sy
    have a0 : 0 < a := by have := hB 0 (by decide); unfold dC at this; rw [d1E2] at this; exact this
    have k0' : 0 < a * c - b * b := by have := hB 1 (by decide); unfold dC at this; rw [d2E2] at this; exact this
    have e : sqL 2 [[a, b], [b, c]] = [(1 * a, [a, b]), (a * (a * c - b * b), [0, a * c - b * b])] := by
      show [(1 * dC [[a, b], [b, c]] 0, lnL 2 [[a, b], [b, c]] 0), ((crn 2 [[a, b], [b, c]]).getD 0 0 * dC [[a, b], [b, c]] 1, lnL 2 [[a, b], [b, c]] 1)] = _
      rw [crn_get (by decide)]
      unfold dC
      rw [ln20, ln21, d1E2, d2E2]
    rw [e]
    unfold fitsB headsB addsB
    rw [Bool.and_eq_true, decide_eq_true_eq, decide_eq_true_eq]
    generalize hk : a * c - b * b = k at k0' ⊢
    have p1 : 0 < a * k := Int.mul_pos a0 k0'
    refine ⟨fun i hi => ?_, fun i hi j hj => ?_⟩
    · have hi' : i < 2 := hi
      have : i = 0 ∨ i = 1 := by omega
      rcases this with rfl | rfl
      · exact ⟨by show 1 ≤ 1 * a; omega, by show a ≠ 0; omega, fun j hj => absurd hj (by omega)⟩
      · refine ⟨p1, by show k ≠ 0; omega, fun j hj => ?_⟩
        obtain rfl : j = 0 := by omega
        rfl
    · have q1 : 1 * (1 * a) * (a * k) / (1 * a) = a * k := t0 (by omega) (by grind)
      have q2 : 1 * (1 * a) * (a * k) / (a * k) = a := t0 p1 (by grind)
      have gi : i = 0 ∨ i = 1 := by omega
      have gj : j = 0 ∨ j = 1 := by omega
      rcases gi with rfl | rfl <;> rcases gj with rfl | rfl
      · show a * a * (1 * (1 * a) * (a * k) / (1 * a)) + (0 * 0 * (1 * (1 * a) * (a * k) / (a * k)) + 0) = a * (1 * (1 * a) * (a * k))
        rw [q1, q2]; grind
      · show a * b * (1 * (1 * a) * (a * k) / (1 * a)) + (0 * k * (1 * (1 * a) * (a * k) / (a * k)) + 0) = b * (1 * (1 * a) * (a * k))
        rw [q1, q2]; grind
      · show b * a * (1 * (1 * a) * (a * k) / (1 * a)) + (k * 0 * (1 * (1 * a) * (a * k) / (a * k)) + 0) = b * (1 * (1 * a) * (a * k))
        rw [q1, q2]; grind
      · show b * b * (1 * (1 * a) * (a * k) / (1 * a)) + (k * k * (1 * (1 * a) * (a * k) / (a * k)) + 0) = c * (1 * (1 * a) * (a * k))
        rw [q1, q2]
        have : b * b + k = a * c := by omega
        have e2 : b * b * (a * k) + (k * k * a + 0) = a * k * (b * b + k) := by grind
        rw [e2, this]; grind
  · obtain ⟨a, b, c, d, f, g, rfl⟩ := sy3 hM sy
    have a0 : 0 < a := by have := hB 0 (by decide); unfold dC at this; rw [d1E3] at this; exact this
    have k0' : 0 < a * d - b * b := by have := hB 1 (by decide); unfold dC at this; rw [d2E3] at this; exact this
    have l0 : 0 < a * (d * g - f * f) - b * (b * g - f * c) + c * (b * f - d * c) := by have := hB 2 (by decide); unfold dC at this; rw [d3E3] at this; exact this
    have e : sqL 3 [[a, b, c], [b, d, f], [c, f, g]] = [(1 * a, [a, b, c]), (a * (a * d - b * b), [0, a * d - b * b, a * f - c * b]), ((a * d - b * b) * (a * (d * g - f * f) - b * (b * g - f * c) + c * (b * f - d * c)), [0, 0, a * (d * g - f * f) - b * (b * g - f * c) + c * (b * f - d * c)])] := by
      show [(1 * dC [[a, b, c], [b, d, f], [c, f, g]] 0, lnL 3 [[a, b, c], [b, d, f], [c, f, g]] 0), ((crn 3 [[a, b, c], [b, d, f], [c, f, g]]).getD 0 0 * dC [[a, b, c], [b, d, f], [c, f, g]] 1, lnL 3 [[a, b, c], [b, d, f], [c, f, g]] 1), ((crn 3 [[a, b, c], [b, d, f], [c, f, g]]).getD 1 0 * dC [[a, b, c], [b, d, f], [c, f, g]] 2, lnL 3 [[a, b, c], [b, d, f], [c, f, g]] 2)] = _
      rw [crn_get (by decide), crn_get (by decide)]
      unfold dC
      rw [ln30, ln31, ln32, d1E3, d2E3, d3E3, det3]
    have eM0 : (a * d - b * b) * (a * g - c * c) - (a * f - c * b) * (a * f - c * b) = a * (a * (d * g - f * f) - b * (b * g - f * c) + c * (b * f - d * c)) := by grind
    rw [e]
    unfold fitsB headsB addsB
    rw [Bool.and_eq_true, decide_eq_true_eq, decide_eq_true_eq]
    generalize hx : a * f - c * b = x at eM0 ⊢
    generalize hk : a * d - b * b = k at k0' eM0 ⊢
    generalize hD : a * (d * g - f * f) - b * (b * g - f * c) + c * (b * f - d * c) = D at l0 eM0 ⊢
    have p1 : 0 < a * k := Int.mul_pos a0 k0'
    have p2 : 0 < k * D := Int.mul_pos k0' l0
    refine ⟨fun i hi => ?_, fun i hi j hj => ?_⟩
    · have hi' : i < 3 := hi
      have : i = 0 ∨ i = 1 ∨ i = 2 := by omega
      rcases this with rfl | rfl | rfl
      · exact ⟨by show 1 ≤ 1 * a; omega, by show a ≠ 0; omega, fun j hj => absurd hj (by omega)⟩
      · refine ⟨p1, by show k ≠ 0; omega, fun j hj => ?_⟩
        obtain rfl : j = 0 := by omega
        rfl
      · refine ⟨p2, by show D ≠ 0; omega, fun j hj => ?_⟩
        have : j = 0 ∨ j = 1 := by omega
        rcases this with rfl | rfl <;> rfl
    · have q1 : 1 * (1 * a) * (a * k) * (k * D) / (1 * a) = a * k * k * D := t0 (by omega) (kq1 a k D)
      have q2 : 1 * (1 * a) * (a * k) * (k * D) / (a * k) = a * k * D := t0 p1 (kq2 a k D)
      have q3 : 1 * (1 * a) * (a * k) * (k * D) / (k * D) = a * a * k := t0 p2 (kq3 a k D)
      have gen : ∀ r0 s0 r1 s1 r2 s2 z : Int, r0 * s0 * (k * D) + r1 * s1 * D + a * (r2 * s2) = z * a * (k * D) → r0 * s0 * (1 * (1 * a) * (a * k) * (k * D) / (1 * a)) + (r1 * s1 * (1 * (1 * a) * (a * k) * (k * D) / (a * k)) + (r2 * s2 * (1 * (1 * a) * (a * k) * (k * D) / (k * D)) + 0)) = z * (1 * (1 * a) * (a * k) * (k * D)) := fun r0 s0 r1 s1 r2 s2 z hz => by
        rw [q1, q2, q3, kg, hz, kz]
      have gi : i = 0 ∨ i = 1 ∨ i = 2 := by omega
      have gj : j = 0 ∨ j = 1 ∨ j = 2 := by omega
      have eD : a * d = k + b * b := by omega
      have eX : a * f = x + b * c := by have : c * b = b * c := Int.mul_comm c b; omega
      have eM : k * (a * g) = a * D + x * x + k * (c * c) := by
        have : k * (a * g - c * c) = k * (a * g) - k * (c * c) := Int.mul_sub _ _ _
        omega
      rcases gi with rfl | rfl | rfl <;> rcases gj with rfl | rfl | rfl
      · show a * a * (1 * (1 * a) * (a * k) * (k * D) / (1 * a)) + (0 * 0 * (1 * (1 * a) * (a * k) * (k * D) / (a * k)) + (0 * 0 * (1 * (1 * a) * (a * k) * (k * D) / (k * D)) + 0)) = a * (1 * (1 * a) * (a * k) * (k * D))
        exact gen _ _ _ _ _ _ _ (k0 a a a k D a (0 * 0) (0 * 0) rfl rfl rfl)
      · show a * b * (1 * (1 * a) * (a * k) * (k * D) / (1 * a)) + (0 * k * (1 * (1 * a) * (a * k) * (k * D) / (a * k)) + (0 * 0 * (1 * (1 * a) * (a * k) * (k * D) / (k * D)) + 0)) = b * (1 * (1 * a) * (a * k) * (k * D))
        exact gen _ _ _ _ _ _ _ (k0 a a b k D b (0 * k) (0 * 0) (Int.mul_comm a b) (Int.zero_mul k) rfl)
      · show a * c * (1 * (1 * a) * (a * k) * (k * D) / (1 * a)) + (0 * x * (1 * (1 * a) * (a * k) * (k * D) / (a * k)) + (0 * D * (1 * (1 * a) * (a * k) * (k * D) / (k * D)) + 0)) = c * (1 * (1 * a) * (a * k) * (k * D))
        exact gen _ _ _ _ _ _ _ (k0 a a c k D c (0 * x) (0 * D) (Int.mul_comm a c) (Int.zero_mul x) (Int.zero_mul D))
      · show b * a * (1 * (1 * a) * (a * k) * (k * D) / (1 * a)) + (k * 0 * (1 * (1 * a) * (a * k) * (k * D) / (a * k)) + (0 * 0 * (1 * (1 * a) * (a * k) * (k * D) / (k * D)) + 0)) = b * (1 * (1 * a) * (a * k) * (k * D))
        exact gen _ _ _ _ _ _ _ (k0 a b a k D b (k * 0) (0 * 0) rfl (Int.mul_zero k) rfl)
      · show b * b * (1 * (1 * a) * (a * k) * (k * D) / (1 * a)) + (k * k * (1 * (1 * a) * (a * k) * (k * D) / (a * k)) + (0 * 0 * (1 * (1 * a) * (a * k) * (k * D) / (k * D)) + 0)) = d * (1 * (1 * a) * (a * k) * (k * D))
        exact gen _ _ _ _ _ _ _ (k11 a b d k D x eD)
      · show b * c * (1 * (1 * a) * (a * k) * (k * D) / (1 * a)) + (k * x * (1 * (1 * a) * (a * k) * (k * D) / (a * k)) + (0 * D * (1 * (1 * a) * (a * k) * (k * D) / (k * D)) + 0)) = f * (1 * (1 * a) * (a * k) * (k * D))
        exact gen _ _ _ _ _ _ _ (k12 a b c f k D x eX)
      · show c * a * (1 * (1 * a) * (a * k) * (k * D) / (1 * a)) + (x * 0 * (1 * (1 * a) * (a * k) * (k * D) / (a * k)) + (D * 0 * (1 * (1 * a) * (a * k) * (k * D) / (k * D)) + 0)) = c * (1 * (1 * a) * (a * k) * (k * D))
        exact gen _ _ _ _ _ _ _ (k0 a c a k D c (x * 0) (D * 0) rfl (Int.mul_zero x) (Int.mul_zero D))
      · show c * b * (1 * (1 * a) * (a * k) * (k * D) / (1 * a)) + (x * k * (1 * (1 * a) * (a * k) * (k * D) / (a * k)) + (D * 0 * (1 * (1 * a) * (a * k) * (k * D) / (k * D)) + 0)) = f * (1 * (1 * a) * (a * k) * (k * D))
        exact gen _ _ _ _ _ _ _ (k21 a b c f k D x eX)
      · show c * c * (1 * (1 * a) * (a * k) * (k * D) / (1 * a)) + (x * x * (1 * (1 * a) * (a * k) * (k * D) / (a * k)) + (D * D * (1 * (1 * a) * (a * k) * (k * D) / (k * D)) + 0)) = g * (1 * (1 * a) * (a * k) * (k * D))
        exact gen _ _ _ _ _ _ _ (k22 a c g k D x eM)
end T22
set_option Elab.async false
set_option linter.all false
set_option maxRecDepth 100000
set_option maxHeartbeats 4000000
namespace T22
open PySem PySem.Spec PyProof.Rows L2 Gd Zn Rp Dn Tb Gn En Zs Ct Op Oc Rg Rt Ro Oa
section
variable {P : Program} {w : World} {K : PySem.W.Frag} {mg : Str → Option Value} {base : Heap} {C : Addr}
abbrev st_lrows : Stmt := top 45
abbrev N_lrows : List Str := ["_law_pot_here", "_law_size", "_law_most", "_law_found", "_law_near", "_law_far", "_law_row"]
theorem sc_lrows : FnScope N_lrows ["_law_pot_here", "_law_size", "_law_most"] (defScope st_lrows) := ⟨rfl, rfl, rfl, by decide +kernel, rfl, by decide +kernel, by decide +kernel⟩
theorem ok_lrows {f : Addr} {fd : FuncData} (F : Fun K "_law_rows" "_law_rows" st_lrows f fd) (T : Txt mg) (D1 : Def P w K mg base "_law_draw" 1 ["_law_pot_here", "_law_size"] sp_draw) : FnOk P w K mg base CX0 2 f fd ["_law_pot_here", "_law_size", "_law_most"] sp_lrows := by
  refine F.ok sc_lrows (fun vs H Q E h => ?_) (fun cdv A outer s H vs Q E hr h => ?_)
  · obtain ⟨p, n, m, rfl, _⟩ := h
    rfl
  · obtain ⟨p, n, m, rfl, hp, h1, h3, hm, q⟩ := h
    refine ⟨_, pss_cons (ps_setLc (i := 3) (own := [("_law_row", 6)]) (g := gName 6) (tt := tYes) rfl sc_lrows.nd rfl rfl (sw_true rfl rfl rfl (by decide +kernel)) (pi_range1 (by rfl) T.range (pa_cons (pv 1) pa_nil))
        (blkOk_by (N := N_lrows) (sc := defScope st_lrows) (by decide +kernel)) (fun _ _ _ _ _ => pg_name (i := 6) sc_lrows.nd rfl (Or.inl rfl) (Or.inr rfl)) (fun _ _ _ _ _ => pts_nil)
        (fun _ _ _ _ _ => pe_op op_rep (pe_lst (pa_cons pe_int pa_nil)) (pv 1)))
      (pss_cons (ps_for PassesOwn.never rfl (pi_range1 (by rfl) T.range (pa_cons (pv 1) pa_nil)) (pg_name (i := 4) sc_lrows.nd rfl (Or.inl rfl))
        (pss_one (ps_for PassesOwn.never rfl (pi_range2 (by rfl) T.range (pa_cons (pv 4) (pa_cons (pv 1) pa_nil))) (pg_name (i := 5) sc_lrows.nd rfl (Or.inl rfl))
          (pss_cons (ps_asg (pe_op op_sub (pe_def D1 hr (pa_cons (pv 0) (pa_cons (pe_op op_add (pe_op op_mul pe_int (pv 2)) pe_int) pa_nil))) (pv 2)) (pg_sub (pe_ix ix_sq (pv 3) (pv 4) (fun _ _ => rfl)) (pv 5) set_list))
          (pss_one (ps_asg (pe_ix ix_sq (pe_ix ix_sq (pv 3) (pv 4) (fun _ _ => rfl)) (pv 5) (fun _ _ => rfl)) (pg_sub (pe_ix ix_sq (pv 3) (pv 5) (fun _ _ => rfl)) (pv 4) set_list)))))))
      (pss_one (ps_ret (pv 3)))), ?_⟩
    have hh : Has (some p) H := fun q e => by cases e; exact hp
    refine r_seq (r_asg (tlc_call ?_))
    refine ⟨_, rfl, (n : Int), rfl, by omega, by omega, ?_⟩
    rw [Int.toNat_natCast]
    refine lc_new (p := some p) n (fun i o => o = .lst ((List.replicate n (0 : Int)).map V.int)) hh (by omega) (fun i H2 hi s2 => hi) (fun H2 s2 => Nat.le_refl _) (fun i x H2 H3 C' hi s2 hp2 hy hC => ?_) fun Da H2 bs nD s2 hD hl nd nDb fr hE => ?_
    · obtain ⟨rfl, rfl⟩ := hy
      refine ⟨rfl, r_op (r_lst ⟨(by show 1 ≤ sizeLine; decide), fun l nl => ?_⟩)⟩
      have s5 : Same H3 (upd H3 l (.lst [V.int 0])) := same_new nl
      refine ⟨_, rfl, l, _, [V.int 0], rfl, rfl, upd_same, by omega, by omega, ?_, fun c nc => ?_⟩
      · rw [Int.toNat_natCast]
        exact Nat.le_trans (by simp; omega : _ ≤ 100) (by decide)
      · have nc2 := Same.free s5 nc
        refine hC c _ _ ((RX.of s5).trans (RX.new nc)) nc2 upd_same ?_
        rw [Int.toNat_natCast]
        show HO.lst (List.replicate n [V.int 0]).flatten = _
        rw [rep_flat, List.map_replicate]
    · have hL : LL H2 Da bs (zeroM n) := ⟨hD, by rw [hl]; exact (zero_sqB n 0 (by decide)).len.symm, fun i b e => by
        obtain ⟨o, e1, e2⟩ := hE i b e
        have hi : i < n := by rw [← hl]; exact (List.getElem?_eq_some_iff.mp e).1
        rw [e1, e2, zero_getD hi], nd, nDb⟩
      have np : p ∉ Da :: bs := by
        rw [List.mem_cons, not_or]
        refine ⟨fun z => (hh.ne nD) (by rw [z]), fun z => ?_⟩
        have := fr p z
        exact hp.some_ this
      have frA : ∀ b ∈ Da :: bs, H b = none := fun b hb => by
        rcases List.mem_cons.mp hb with rfl | hb
        · exact nD
        · exact fr b hb
      refine r_next (r_nseq ?_)
      refine ⟨_, rfl, (n : Int), rfl, by omega, by omega, ?_⟩
      rw [Int.toNat_natCast]
      refine for_range (lo := 0) (n := n) (fun i σ H' => ∃ x4 x5 x6 M, σ = [some (.ref p), some (.int n), some (.int m), some (.ref Da), x4, x5, x6] ∧ RX (some p) H H' ∧ LL H' Da bs M ∧ SqB n m M ∧ Sym n M) ⟨_, _, _, _, rfl, s2, hL, zero_sqB n m (by omega), zero_sym n⟩ (fun i σ H' hi hP => ?_) (fun σ H' hP => ?_)
      · obtain ⟨x4, x5, x6, M, rfl, s3, hM, hB, hS⟩ := hP
        rw [show (0 : Int) + (i : Int) = (i : Int) by omega]
        refine ⟨_, rfl, _, rfl, (i : Int), (n : Int), rfl, ⟨by omega, by omega, by omega, by omega⟩, ?_⟩
        refine for_range (lo := (i : Int)) (n := ((n : Int) - (i : Int)).toNat) (fun j σ H' => ∃ x5 x6 M, σ = [some (.ref p), some (.int n), some (.int m), some (.ref Da), some (.int (i : Nat)), x5, x6] ∧ RX (some p) H H' ∧ LL H' Da bs M ∧ SqB n m M ∧ Sym n M) ⟨x5, x6, M, rfl, s3, hM, hB, hS⟩ (fun j σ H' hj hP => ?_) (fun σ H' hP => ?_)
        · obtain ⟨x5, x6, M, rfl, s4, hM4, hB4, hS4⟩ := hP
          obtain ⟨k, ek, hk⟩ : ∃ k : Nat, (i : Int) + (j : Int) = (k : Int) ∧ k < n := ⟨i + j, by omega, by omega⟩
          rw [ek]
          have bi : bs[i]? = some (bs[i]'(by omega)) := List.getElem?_eq_getElem _
          have bk : bs[k]? = some (bs[k]'(by omega)) := List.getElem?_eq_getElem _
          refine r_seq (r_asg (r_op (a2 ⟨_, rfl, _, rfl, _, _, rfl, rfl, .inl ⟨by decide, by decide⟩, _, _, rfl, rfl, p, _, rfl, s4.pot p rfl hp, by omega, by omega, fun r H5 r0 r1 s5 => ⟨_, rfl, _, _, rfl, rfl, ?_⟩⟩)))
          have s45 := s4.trans s5
          have hM5 := hM4.rx s5 np
          have lr : (M.getD i []).length = n := getD_row hB4.sh hi
          have hri := hM5.row i _ bi
          refine ⟨_, rfl, _, rfl, false, Da, _, _, _, rfl, rfl, .inl (.inl hM5.top), ixR bi, _, rfl, _, _, _, k, rfl, rfl, hri, ixN_at (by rw [List.length_map]; omega), ?_⟩
          have hM6 := hM5.put (j := k) bi (r - (m : Int))
          have hB6 : SqB n m (setIJ M i k (r - (m : Int))) := hB4.setIJ hi ⟨by omega, by omega⟩
          have s6 : RX (some p) H (upd H5 (bs[i]'(by omega)) (.lst (((M.getD i []).map V.int).set k (.int (r - (m : Int)))))) := s45.mut (frA _ (List.mem_cons_of_mem _ (List.getElem_mem _))) hh
          generalize upd H5 (bs[i]'(by omega)) (.lst (((M.getD i []).map V.int).set k (.int (r - (m : Int))))) = H6 at hM6 s6
          have hri6 := hM6.row i _ bi
          have hrk6 := hM6.row k _ bk
          have lr6 : ((setIJ M i k (r - (m : Int))).getD i []).length = n := getD_row hB6.sh hi
          have lk6 : ((setIJ M i k (r - (m : Int))).getD k []).length = n := getD_row hB6.sh hk
          have val : ((setIJ M i k (r - (m : Int))).getD i []).getD k 0 = r - (m : Int) := by
            have := ent_set hB4.sh hi hk (r - (m : Int)) i k
            rw [if_pos ⟨rfl, rfl⟩] at this
            exact this
          refine r_next (n_asg ?_)
          refine ⟨_, rfl, _, rfl, false, Da, _, _, _, rfl, rfl, .inl (.inl hM6.top), ixR bi, _, rfl, false, _, _, _, _, rfl, rfl, .inl (.inl hri6), ixL (by omega), ?_⟩
          rw [val]
          refine ⟨_, rfl, _, rfl, false, Da, _, _, _, rfl, rfl, .inl (.inl hM6.top), ixR bk, _, rfl, _, _, _, i, rfl, rfl, hrk6, ixN_at (by rw [List.length_map]; omega), ?_⟩
          have hM7 := hM6.put (j := i) bk (r - (m : Int))
          exact ⟨_, _, _, rfl, s6.mut (frA _ (List.mem_cons_of_mem _ (List.getElem_mem _))) hh, hM7, hB6.setIJ hk ⟨by omega, by omega⟩, hS4.put hB4.sh hi hk _⟩
        · obtain ⟨x5, x6, M, rfl, s4, hM4, hB4, hS4⟩ := hP
          exact ⟨_, _, _, M, rfl, s4, hM4, hB4, hS4⟩
      · obtain ⟨x4, x5, x6, M, rfl, s3, hM, hB, hS⟩ := hP
        exact ⟨_, rfl, q Da H' M s3 (hM.py np) hB (hS.tr hB.sh h1 h3)⟩
end
end T22
set_option Elab.async false
set_option linter.all false
set_option maxRecDepth 100000
set_option maxHeartbeats 4000000
namespace T22
open PySem PySem.Spec PyProof.Rows L2 Gd Zn Rp Dn Tb Gn En Zs Ct Op Oc Rg Rt Ro Oa
/-- lists of places -/
def LotsV (H : Hp) (vs : List V) (L : List (List Nat)) : Prop := vs.length = L.length ∧ ∀ (i : Nat) (v : V), vs[i]? = some v → ∃ b, v = .ref b ∧ H b = some (.lst ((L.getD i []).map fun (j : Nat) => V.int (j : Int)))
theorem LotsV.mono {H H' : Hp} {vs : List V} {L : List (List Nat)} (h : LotsV H vs L) (s : Same H H') : LotsV H' vs L := ⟨h.1, fun i v e => by
  obtain ⟨b, e1, e2⟩ := h.2 i v e
  exact ⟨b, e1, s _ _ e2⟩⟩
theorem LotsV.app {H : Hp} {vs ws : List V} {L M : List (List Nat)} (h : LotsV H vs L) (g : LotsV H ws M) : LotsV H (vs ++ ws) (L ++ M) := ⟨by rw [List.length_append, List.length_append, h.1, g.1], fun i v e => by
  by_cases hi : i < vs.length
  · rw [List.getElem?_append_left hi] at e
    obtain ⟨b, e1, e2⟩ := h.2 i v e
    refine ⟨b, e1, ?_⟩
    rw [List.getD_eq_getElem?_getD, List.getElem?_append_left (by rw [← h.1]; exact hi), ← List.getD_eq_getElem?_getD]
    exact e2
  · rw [List.getElem?_append_right (by omega)] at e
    obtain ⟨b, e1, e2⟩ := g.2 _ v e
    refine ⟨b, e1, ?_⟩
    rw [List.getD_eq_getElem?_getD, List.getElem?_append_right (by rw [← h.1]; omega), ← h.1, ← List.getD_eq_getElem?_getD]
    exact e2⟩
theorem lotsB_zero {s : Nat} : lotsB s 0 = [[]] := by cases s <;> rfl
theorem lotsB_few : ∀ {s k : Nat}, s < k → lotsB s k = []
  | _, 0, h => absurd h (by omega)
  | 0, _ + 1, _ => rfl
  | s + 1, k + 1, h => by
    show lotsB s (k + 1) ++ (lotsB s k).map _ = []
    rw [lotsB_few (by omega : s < k + 1), lotsB_few (by omega : s < k)]
    rfl
theorem lotsB_len : ∀ {s k : Nat}, (lotsB s k).length ≤ 2 ^ s
  | s, 0 => by rw [lotsB_zero]; exact Nat.one_le_two_pow
  | 0, _ + 1 => Nat.zero_le _
  | s + 1, k + 1 => by
    have a := lotsB_len (s := s) (k := k + 1)
    have b := lotsB_len (s := s) (k := k)
    show (lotsB s (k + 1) ++ (lotsB s k).map _).length ≤ _
    rw [List.length_append, List.length_map, Nat.pow_succ]
    omega
theorem lotsB_mem : ∀ {s k : Nat} {l : List Nat}, l ∈ lotsB s k → l.length = k ∧ ∀ j ∈ l, j < s
  | s, 0, l, h => by
    rw [lotsB_zero, List.mem_singleton] at h
    subst h
    exact ⟨rfl, fun j hj => by cases hj⟩
  | 0, _ + 1, l, h => by cases h
  | s + 1, k + 1, l, h => by
    rcases List.mem_append.mp (show l ∈ lotsB s (k + 1) ++ (lotsB s k).map (fun l => l ++ [s]) from h) with h | h
    · obtain ⟨a, b⟩ := lotsB_mem h
      exact ⟨a, fun j hj => Nat.lt_succ_of_lt (b j hj)⟩
    · obtain ⟨l', h', rfl⟩ := List.mem_map.mp h
      obtain ⟨a, b⟩ := lotsB_mem h'
      refine ⟨by rw [List.length_append, a]; rfl, fun j hj => ?_⟩
      rcases List.mem_append.mp hj with hj | hj
      · exact Nat.lt_succ_of_lt (b j hj)
      · rw [List.mem_singleton.mp hj]; exact Nat.lt_succ_self _
section
variable {P : Program} {w : World} {K : PySem.W.Frag} {mg : Str → Option Value} {base : Heap} {C : Addr}
abbrev st_lb : Stmt := top 54
abbrev N_lb : List Str := ["_law_size", "_law_many", "_law_lot"]
theorem sc_lb : FnScope N_lb ["_law_size", "_law_many"] (defScope st_lb) := ⟨rfl, rfl, rfl, by decide +kernel, rfl, by decide +kernel, by decide +kernel⟩
def sp_lb (s : Nat) : Sp := fun vs H Q _ => ∃ k : Nat, vs = [.int s, .int k] ∧ s ≤ 3 ∧ k ≤ 4 ∧ ∀ D ws H', Same H H' → H' D = some (.lst ws) → LotsV H' ws (lotsB s k) → Q (.ref D) H'
theorem ok_lb0 {f : Addr} {fd : FuncData} (F : Fun K "_law_lots_below" "_law_lots_below" st_lb f fd) : FnOk P w K mg base CX0 1 f fd ["_law_size", "_law_many"] (sp_lb 0) := by
  refine F.ok sc_lb (fun vs H Q E h => ?_) (fun cdv A outer s H vs Q E hr h => ?_)
  · obtain ⟨k, rfl, _⟩ := h
    rfl
  · obtain ⟨k, rfl, hs, hk, q⟩ := h
    refine ⟨_, pss_cons (ps_if (pt_cmpR op_eq (pv 1) pe_int (nomark _)) (pss_one (ps_ret (pe_lst (pa_cons (pe_lst pa_nil) pa_nil)))) pss_nil)
      (pss_cons (ps_if (pt_cmpR op_lt (pv 0) (pv 1) (nomark _)) (pss_one (ps_ret (pe_lst pa_nil))) pss_nil) pss_dead), ?_⟩
    refine r_seq (r_if (r_tt (r_op ⟨_, rfl, rfl, _, rfl, ?_⟩)))
    by_cases z : k = 0
    · subst z
      refine ifT rfl (r_ret (r_lst (r_cons (r_lst ⟨Nat.zero_le _, fun l nl => ⟨(by show 1 ≤ sizeLine; decide), fun D nD => ?_⟩⟩))))
      refine q D _ _ ((same_new nl).trans (same_new nD)) upd_same ⟨by rw [lotsB_zero]; rfl, fun i v e => ?_⟩
      rw [lotsB_zero]
      cases i with
      | zero => cases e; exact ⟨l, rfl, same_new nD _ _ upd_same⟩
      | succ i => cases e
    · refine ifF (decide_eq_false fun e => z (by have := V.int.inj e; omega)) (r_next (r_nseq (r_if (r_tt (r_op ⟨_, rfl, _, rfl, _, _, rfl, rfl, _, rfl, ifT (decide_eq_true (by omega)) ?_⟩)))))
      refine r_ret (r_lst ⟨Nat.zero_le _, fun D nD => q D [] _ (same_new nD) upd_same ?_⟩)
      rw [lotsB_few (by omega)]
      exact ⟨rfl, fun i v e => by cases e⟩
theorem ok_lbS {f : Addr} {fd : FuncData} (m : Nat) (F : Fun K "_law_lots_below" "_law_lots_below" st_lb f fd) (D1 : Def P w K mg base "_law_lots_below" (m + 1) ["_law_size", "_law_many"] (sp_lb m)) : FnOk P w K mg base CX0 (m + 2) f fd ["_law_size", "_law_many"] (sp_lb (m + 1)) := by
  refine F.ok sc_lb (fun vs H Q E h => ?_) (fun cdv A outer s H vs Q E hr h => ?_)
  · obtain ⟨k, rfl, _⟩ := h
    rfl
  · obtain ⟨k, rfl, hs, hk, q⟩ := h
    refine ⟨_, pss_cons (ps_if (pt_cmpR op_eq (pv 1) pe_int (nomark _)) (pss_one (ps_ret (pe_lst (pa_cons (pe_lst pa_nil) pa_nil)))) pss_nil)
      (pss_cons (ps_if (pt_cmpR op_lt (pv 0) (pv 1) (nomark _)) (pss_one (ps_ret (pe_lst pa_nil))) pss_nil)
      (pss_one (ps_ret (pe_op op_cat (pe_def D1 hr (pa_cons (pe_op op_sub (pv 0) pe_int) (pa_cons (pv 1) pa_nil)) (by omega))
        (pe_lc (own := [("_law_lot", 2)]) (wi := iSeq K (tCall (sp_lb m) [] E0 (tCons (tOp (rI0 fun i j => .int (i - j)) (tVar 0) (tC (.int 1))) (tCons (tOp (rI0 fun i j => .int (i - j)) (tVar 1) (tC (.int 1))) tNil)))) (g := gName 2) (tt := tYes)
          (te := tOp L2.rCat (tVar 2) (tLst (tCons (tOp (rI0 fun i j => .int (i - j)) (tVar 0) (tC (.int 1))) tNil))) rfl sc_lb.nd (pi_seq (pe_def D1 hr (pa_cons (pe_op op_sub (pv 0) pe_int) (pa_cons (pe_op op_sub (pv 1) pe_int) pa_nil)) (by omega)))
          (blkOk_by (N := N_lb) (sc := defScope st_lb) (by decide +kernel)) (fun _ _ _ _ _ => pg_name (i := 2) sc_lb.nd rfl (Or.inl rfl) (Or.inr rfl)) (fun _ _ _ _ _ => pts_nil)
          (fun _ _ _ _ _ => pe_op op_cat (pv 2) (pe_lst (pa_cons (pe_op op_sub (pv 0) pe_int) pa_nil)))))))), ?_⟩
    refine r_seq (r_if (r_tt (r_op ⟨_, rfl, rfl, _, rfl, ?_⟩)))
    by_cases z : k = 0
    · subst z
      refine ifT rfl (r_ret (r_lst (r_cons (r_lst ⟨Nat.zero_le _, fun l nl => ⟨(by show 1 ≤ sizeLine; decide), fun D nD => ?_⟩⟩))))
      refine q D _ _ ((same_new nl).trans (same_new nD)) upd_same ⟨by rw [lotsB_zero]; rfl, fun i v e => ?_⟩
      rw [lotsB_zero]
      cases i with
      | zero => cases e; exact ⟨l, rfl, same_new nD _ _ upd_same⟩
      | succ i => cases e
    refine ifF (decide_eq_false fun e => z (by have := V.int.inj e; omega)) (r_next (r_nseq (r_if (r_tt (r_op ⟨_, rfl, _, rfl, _, _, rfl, rfl, _, rfl, ?_⟩)))))
    by_cases z2 : m + 1 < k
    · refine ifT (decide_eq_true (by omega)) (r_ret (r_lst ⟨Nat.zero_le _, fun D nD => q D [] _ (same_new nD) upd_same ?_⟩))
      rw [lotsB_few z2]
      exact ⟨rfl, fun i v e => by cases e⟩
    obtain ⟨k', rfl⟩ : ∃ k', k = k' + 1 := ⟨k - 1, by omega⟩
    refine ifF (decide_eq_false (by omega)) (r_next (r_nret (r_op (a2 ⟨_, rfl, _, _, rfl, rfl, _, rfl, k' + 1, ?_, by omega, hk, fun D1 ws1 H1 s1 hD1 hw1 => ?_⟩))))
    · exact congrArg (fun x => [V.int x, V.int ((k' + 1 : Nat) : Int)]) (by show ((m + 1 : Nat) : Int) - 1 = (m : Int); omega)
    refine tlc_call (a2 ⟨_, rfl, _, _, rfl, rfl, _, rfl, _, _, rfl, rfl, k', ?_, by omega, by omega, fun D2 ws2 H2 s2 hD2 hw2 => ?_⟩)
    · show [V.int (((m + 1 : Nat) : Int) - 1), V.int (((k' + 1 : Nat) : Int) - 1)] = [V.int (m : Int), V.int (k' : Int)]
      rw [show ((m + 1 : Nat) : Int) - 1 = (m : Int) by omega, show ((k' + 1 : Nat) : Int) - 1 = (k' : Int) by omega]
    have l2 := lotsB_len (s := m) (k := k')
    have l1 := lotsB_len (s := m) (k := k' + 1)
    have pw : 2 ^ m ≤ 8 := Nat.le_trans (Nat.pow_le_pow_right (by decide) (by omega : m ≤ 3)) (by decide)
    have q2 : ∀ H', Same H2 H' → SqV K H' false D2 ws2 := fun H' s => .inl (.inl (s _ _ hD2))
    refine ⟨false, D2, ws2, rfl, q2 _ (Same.refl _), ?_⟩
    refine lc_new (p := none) ws2.length (fun i o => o = .lst ((((lotsB m k').getD i []) ++ [m]).map fun (j : Nat) => V.int (j : Int))) has_none (by rw [hw2.1]; omega) (fun i H3 hi s3 => its_go (q2 _ s3.same) (List.getElem?_eq_getElem hi)) (fun H3 s3 => its_stop (q2 _ s3.same) (Nat.le_refl _)) (fun i x H3 H4 C' hi s3 _ hy hC => ?_) fun Da H3 bs nDa s3 hDa hbl nbs nDb frb hbE => ?_
    · obtain ⟨rfl, ex⟩ := its_yld hy (q2 _ s3.same)
      obtain ⟨b, rfl, hb⟩ := hw2.2 i x ex
      have mb : (lotsB m k').getD i [] ∈ lotsB m k' := by
        have : i < (lotsB m k').length := by rw [← hw2.1]; exact hi
        rw [List.getD_eq_getElem?_getD, List.getElem?_eq_getElem this]
        exact List.getElem_mem this
      have lm := (lotsB_mem mb).1
      refine ⟨rfl, r_op ⟨_, rfl, _, rfl, _, _, rfl, rfl, (by show 1 ≤ sizeLine; decide), fun l nl => ⟨b, l, _, _, rfl, rfl, same_new nl _ _ (s3.same _ _ hb), upd_same, ?_, fun c nc => ?_⟩⟩⟩
      · rw [List.length_map, lm]
        exact Nat.le_trans (by show k' + 1 ≤ 100; omega) (by decide)
      · refine hC c _ _ (RX.of ((same_new nl).trans (same_new nc))) (Same.free (same_new nl) nc) upd_same ?_
        rw [List.map_append]
        show HO.lst (_ ++ [V.int (((m + 1 : Nat) : Int) - 1)]) = HO.lst (_ ++ [V.int (m : Int)])
        rw [show ((m + 1 : Nat) : Int) - 1 = (m : Int) by omega]
    · have S3 := s2.trans s3.same
      refine ⟨D1, Da, _, _, rfl, rfl, S3 _ _ hD1, hDa, ?_, fun c nc => ?_⟩
      · rw [List.length_map, hbl, hw1.1, hw2.1]
        exact Nat.le_trans (by omega : _ ≤ 1000) (by decide)
      · have w2 : LotsV H3 (bs.map V.ref) ((lotsB m k').map fun l => l ++ [m]) := ⟨by rw [List.length_map, List.length_map, hbl, hw2.1], fun i v e => by
          rw [List.getElem?_map] at e
          obtain ⟨b, eb, rfl⟩ := Option.map_eq_some_iff.mp e
          obtain ⟨o, e1, e2⟩ := hbE i b eb
          have hi : i < (lotsB m k').length := by rw [← hw2.1, ← hbl]; exact (List.getElem?_eq_some_iff.mp eb).1
          refine ⟨b, rfl, ?_⟩
          rw [e1, e2, List.getD_eq_getElem?_getD, List.getD_eq_getElem?_getD, List.getElem?_map, List.getElem?_eq_getElem hi]
          rfl⟩
        exact q c _ _ (s1.trans (S3.trans (same_new nc))) upd_same (((hw1.mono S3).app w2).mono (same_new nc))
end
end T22
set_option Elab.async false
set_option linter.all false
set_option maxRecDepth 100000
set_option maxHeartbeats 4000000
namespace T22
open PySem PySem.Spec PyProof.Rows L2 Gd Zn Rp Dn Tb Gn En Zs Ct Op Oc Rg Rt Ro Oa
theorem ent_mem {n a b : Nat} {L : List (List Int)} (h : Sh n L) (ha : a < n) (hb : b < n) : ∃ r ∈ L, ent L a b ∈ r := by
  have hr := getD_mem (M := L) (i := a) (by rw [h.len]; exact ha)
  have lr := h.row _ hr
  refine ⟨_, hr, ?_⟩
  unfold ent
  rw [List.getD_eq_getElem?_getD (l := L.getD a []), List.getElem?_eq_getElem (by omega : b < (L.getD a []).length)]
  exact List.getElem_mem _
theorem sub_sq {n k : Nat} {M : List (List Int)} {sp : List Nat} (h : Sq n M) (l : sp.length = k) (b : ∀ j ∈ sp, j < n) : Sq k (subM M sp) := by
  refine ⟨by unfold subM; rw [List.length_map]; exact l, fun r hr => ?_, fun r hr x hx => ?_⟩
  · unfold subM at hr
    obtain ⟨a, _, rfl⟩ := List.mem_map.mp hr
    rw [List.length_map]; exact l
  · unfold subM at hr
    obtain ⟨a, ma, rfl⟩ := List.mem_map.mp hr
    obtain ⟨c, mc, rfl⟩ := List.mem_map.mp hx
    obtain ⟨r, hr, hx⟩ := ent_mem h.sh (b a ma) (b c mc)
    exact h.small r hr _ hx
def midT (M : List (List Int)) (k : Nat) (L : List (List Nat)) : Int := (L.map fun sp => detM k (subM M sp)).sum
theorem midT_succ {M : List (List Int)} {k i : Nat} {L : List (List Nat)} (h : i < L.length) : midT M k (L.take (i + 1)) = midT M k (L.take i) + detM k (subM M (L.getD i [])) := by
  unfold midT
  rw [List.take_add_one, List.getElem?_eq_getElem h, List.map_append, List.sum_append, List.getD_eq_getElem?_getD, List.getElem?_eq_getElem h]
  simp
section
variable {P : Program} {w : World} {K : PySem.W.Frag} {mg : Str → Option Value} {base : Heap} {C : Addr}
abbrev st_mid : Stmt := top 55
abbrev N_mid : List Str := ["_law_rows_here", "_law_many", "_law_total", "_law_spots", "_law_near", "_law_far"]
theorem sc_mid : FnScope N_mid ["_law_rows_here", "_law_many"] (defScope st_mid) := ⟨rfl, rfl, rfl, by decide +kernel, rfl, by decide +kernel, by decide +kernel⟩
def sp_mid : Sp := fun vs H Q _ => ∃ (v : V) (M : List (List Int)) (n k : Nat), vs = [v, .int k] ∧ PyV H v (lmD M) ∧ Sq n M ∧ n ≤ 3 ∧ k ≤ 3 ∧ ∀ H', Same H H' → Q (.int (mdlM n M k)) H'
theorem ok_mid {f : Addr} {fd : FuncData} (F : Fun K "_law_middle" "_law_middle" st_mid f fd) (T : Txt mg) (DL : ∀ n, Def P w K mg base "_law_lots_below" (n + 1) ["_law_size", "_law_many"] (sp_lb n)) (DM : ∀ n, Def P w K mg base "_law_minor" (n + 1) ["_law_rows_here"] (sp_mi n)) : FnOk P w K mg base CX0 5 f fd ["_law_rows_here", "_law_many"] sp_mid := by
  refine F.ok sc_mid (fun vs H Q E h => ?_) (fun cdv A outer s H vs Q E hr h => ?_)
  · obtain ⟨v, M, n, k, rfl, _⟩ := h
    rfl
  · obtain ⟨v, M, n, k, rfl, hM, hS, h3, hk, q⟩ := h
    refine ⟨_, pss_cons (ps_set (i := 2) sc_mid.nd rfl (Or.inl rfl) pe_int)
      (pss_cons (ps_for PassesOwn.never rfl (pi_seq (pe_def (DL n) hr (pa_cons (pe_callB (r := Dn.rLen K) c_len (by rfl) T.len PySem.boot_len (pa_cons (pv 0) pa_nil)) (pa_cons (pv 1) pa_nil)) (by omega))) (pg_name (i := 3) sc_mid.nd rfl (Or.inr rfl))
        (pss_one (ps_set (i := 2) sc_mid.nd rfl (Or.inl rfl) (pe_op op_add (pv 2) (pe_def (DM k) hr (pa_cons (pe_lc (own := [("_law_near", 4)]) (g := gName 4) (tt := tYes) (te := tLc (iSeq K (tVar 3)) (gName 5) tYes (tOp (rIxS2 K) (tOp (rIxS2 K) (tVar 0) (tVar 4)) (tVar 5)) [5]) rfl sc_mid.nd (pi_seq (pv 3))
          (blkOk_by (N := N_mid) (sc := defScope st_mid) (by decide +kernel)) (fun _ _ _ _ _ => pg_name (i := 4) sc_mid.nd rfl (Or.inr rfl) (Or.inl rfl)) (fun _ _ _ _ _ => pts_nil)
          (fun s' H' C' cl' fp' => by
            refine pe_lc (own := [("_law_far", 5)]) (wi := iSeq K (tVar 3)) (g := gName 5) (tt := tYes) (te := tOp (rIxS2 K) (tOp (rIxS2 K) (tVar 0) (tVar 4)) (tVar 5)) rfl sc_mid.nd ?p1 ?p2 ?p3 ?p4 ?p5
            case p1 => exact pi_seq (pv 3)
            case p2 => exact blkOk_by (N := N_mid) (by rfl)
            case p3 => exact (fun _ _ _ _ _ => pg_name (i := 5) sc_mid.nd rfl (Or.inl rfl) (Or.inr rfl))
            case p4 => exact (fun _ _ _ _ _ => pts_nil)
            case p5 => exact (fun _ _ _ _ _ => pe_ix (r := rIxS2 K) ix_sq (pe_ix (r := rIxS2 K) ix_sq (pv 0) (pv 4) (fun _ _ => rfl)) (pv 5) (fun _ _ => rfl)))) pa_nil) (by omega))))))
      (pss_one (ps_ret (pv 2)))), ?_⟩
    obtain ⟨Dg, gs, rfl, hg, hgl, hge⟩ := lm_at hM
    have gl : gs.length = n := by rw [hgl, hS.len]
    refine r_seq (r_asg (r_k ?_))
    refine r_next (r_nseq (r_forS (a2 (cb1 ⟨_, rfl, Dg, _, rfl, .inl (.inl (.inl hg)), _, rfl, k, ?_, h3, by omega, fun D ws H1 s1 hD hw => ⟨false, D, ws, rfl, .inl (.inl hD), ?_⟩⟩))))
    · rw [List.length_map, gl]
    have qD : ∀ H', Same H1 H' → SqV K H' false D ws := fun H' s => .inl (.inl (s _ _ hD))
    refine for_by ws.length (fun i σ H' => ∃ x3 x4 x5, σ = [some (.ref Dg), some (.int (k : Int)), some (.int (midT M k ((lotsB n k).take i))), x3, x4, x5] ∧ Same H1 H')
      ⟨_, _, _, rfl, Same.refl _⟩ (fun i σ H' hi hP => ?_) (fun σ H' hP => ?_) (fun i x σ Hb Ha hi hP hy => ?_) (fun σ H' hP => ?_)
    · obtain ⟨_, _, _, _, s2⟩ := hP
      exact its_go (qD _ s2) (List.getElem?_eq_getElem hi)
    · obtain ⟨_, _, _, _, s2⟩ := hP
      exact its_stop (qD _ s2) (Nat.le_refl _)
    · obtain ⟨x3, x4, x5, rfl, s2⟩ := hP
      obtain ⟨rfl, ex⟩ := its_yld hy (qD _ s2)
      obtain ⟨b, rfl, hb⟩ := hw.2 i x ex
      have hi' : i < (lotsB n k).length := by rw [← hw.1]; exact hi
      have mb : (lotsB n k).getD i [] ∈ lotsB n k := by
        rw [List.getD_eq_getElem?_getD, List.getElem?_eq_getElem hi']
        exact List.getElem_mem hi'
      have esu := midT_succ (M := M) (k := k) hi'
      generalize (lotsB n k).getD i [] = sp at hb mb esu
      obtain ⟨lsp, bsp⟩ := lotsB_mem mb
      have qb : ∀ H', Same Ha H' → SqV K H' false b (sp.map fun (j : Nat) => V.int (j : Int)) := fun H' s => .inl (.inl (s _ _ (s2 _ _ hb)))
      refine r_asg (r_op ⟨_, rfl, a1 (tlc_call ⟨_, rfl, false, b, _, rfl, qb _ (Same.refl _), ?_⟩)⟩)
      refine lc_fresh (p := none) k (fun a => .lst (((subM M sp).getD a []).map V.int)) has_none (by omega) (fun a H3 ha s3 => its_go (qb _ s3.same) (List.getElem?_eq_getElem (by rw [List.length_map]; omega))) (fun H3 s3 => its_stop (qb _ s3.same) (by rw [List.length_map]; omega)) (fun a x H3 H4 C' ha s3 _ hy hC => ?_) fun Dl H3 us nDl s3 hDl hul huE => ?_
      · obtain ⟨rfl, ex2⟩ := its_yld hy (qb _ s3.same)
        have ea : sp[a]? = some (sp[a]'(by omega)) := List.getElem?_eq_getElem _
        rw [List.getElem?_map, ea] at ex2
        cases ex2
        have la := bsp _ (List.mem_of_getElem? ea)
        have egs : gs[sp[a]'(by omega)]? = some (gs[sp[a]'(by omega)]'(by omega)) := List.getElem?_eq_getElem _
        have S3 := s1.trans (s2.trans s3.same)
        refine ⟨rfl, tlc_call ⟨_, rfl, false, b, _, rfl, qb _ s3.same, ?_⟩⟩
        refine lc_el (p := none) k (fun c v => ∃ j, sp[c]? = some j ∧ v = .int (ent M (sp[a]'(by omega)) j)) has_none (by omega) (fun c H5 hc s5 => its_go (qb _ (s3.same.trans s5.same)) (List.getElem?_eq_getElem (by rw [List.length_map]; omega))) (fun H5 s5 => its_stop (qb _ (s3.same.trans s5.same)) (by rw [List.length_map]; omega)) (fun c x H5 H6 C2 hc s5 _ hy2 hC2 => ?_) fun Dz H5 ys nDz s5 hDz hyl hyE => ?_
        · obtain ⟨rfl, ex3⟩ := its_yld hy2 (qb _ (s3.same.trans s5.same))
          have ec : sp[c]? = some (sp[c]'(by omega)) := List.getElem?_eq_getElem _
          rw [List.getElem?_map, ec] at ex3
          cases ex3
          have lc := bsp _ (List.mem_of_getElem? ec)
          have S5 := S3.trans s5.same
          have lr : (M.getD (sp[a]'(by omega)) []).length = n := getD_row hS.sh la
          exact ⟨rfl, r_op (r_op ⟨_, rfl, _, rfl, false, Dg, _, _, _, rfl, rfl, .inl (.inl (S5 _ _ hg)), ixR egs, _, rfl, false, _, _, _, _, rfl, rfl, .inl (.inl (S5 _ _ (hge _ _ egs))), ixL (by omega), hC2 _ _ (RX.refl _) ⟨_, ec, rfl⟩⟩)⟩
        · refine hC Dz H5 s5 nDz ?_
          have ey : ys = (sp.map fun j => ent M (sp[a]'(by omega)) j).map V.int := by
            rw [List.map_map]
            exact map_of_get (n := 0) _ (by rw [hyl, lsp]) hyE
          rw [hDz, ey]
          refine congrArg (fun r : List Int => some (HO.lst (r.map V.int))) ?_
          unfold subM
          rw [List.getD_eq_getElem?_getD, List.getElem?_map, ea]
          rfl
      · have qs := sub_sq hS lsp bsp
        have pL : PyV H3 (.ref Dl) (lmD (subM M sp)) := py_lm hDl (by rw [hul, qs.len]) huE
        refine ⟨.ref Dl, subM M sp, rfl, pL, hk, qs, fun H4 s4 => ⟨_, _, rfl, rfl, ?_⟩⟩
        refine ⟨some (.ref b), x4, x5, ?_, s2.trans (s3.same.trans s4)⟩
        rw [esu]
        rfl
    · obtain ⟨x3, x4, x5, rfl, s2⟩ := hP
      refine r_nret ⟨_, rfl, ?_⟩
      have e : (lotsB n k).take ws.length = lotsB n k := List.take_of_length_le (by rw [hw.1]; exact Nat.le_refl _)
      rw [e]
      exact q _ (s1.trans s2)
end
end T22
set_option Elab.async false
set_option linter.all false
set_option maxRecDepth 100000
set_option maxHeartbeats 4000000
namespace T22
open PySem PySem.Spec PyProof.Rows L2 Gd Zn Rp Dn Tb Gn En Zs Ct Op Oc Rg Rt Ro Oa
def scaleM (n : Nat) (B : List (List Int)) (ss : List Int) : List (List Int) := (List.range n).map fun i => (B.getD i []).map fun x => x * ss.getD i 0
def diagM (n : Nat) (hs : List Int) : List (List Int) := (List.range n).map fun i => (List.range n).map fun j => if i = j then hs.getD i 0 else 0
theorem rng_get {α : Type} {n i : Nat} {f : Nat → List α} (h : i < n) : ((List.range n).map f).getD i [] = f i := by
  rw [List.getD_eq_getElem?_getD, List.getElem?_map, List.getElem?_range h]
  rfl
theorem scale_sqe {n : Nat} {B : List (List Int)} {ss : List Int} (h : SqB n 27 B) (hs : ∀ s ∈ ss, s = 1 ∨ s = 2) (l : ss.length = n) : SqE n 6 (scaleM n B ss) := by
  refine ⟨by simp [scaleM], fun r hr => ?_, fun r hr x hx => ?_⟩
  · unfold scaleM at hr
    obtain ⟨i, hi, rfl⟩ := List.mem_map.mp hr
    rw [List.length_map]
    exact getD_row h.sh (List.mem_range.mp hi)
  · unfold scaleM at hr
    obtain ⟨i, hi, rfl⟩ := List.mem_map.mp hr
    have hi := List.mem_range.mp hi
    obtain ⟨y, hy, rfl⟩ := List.mem_map.mp hx
    have b := h.bd _ (getD_mem (M := B) (i := i) (by rw [h.len]; exact hi)) y hy
    have s : ss.getD i 0 = 1 ∨ ss.getD i 0 = 2 := by
      rw [List.getD_eq_getElem?_getD, List.getElem?_eq_getElem (by omega : i < ss.length)]
      exact hs _ (List.getElem_mem _)
    rcases s with s | s <;> rw [s] <;> omega
theorem diag_sqe {n : Nat} {hs : List Int} (hb : ∀ x ∈ hs, -6 ≤ x ∧ x ≤ 6) (l : hs.length = n) : SqE n 3 (diagM n hs) := by
  refine ⟨by simp [diagM], fun r hr => ?_, fun r hr x hx => ?_⟩
  · unfold diagM at hr
    obtain ⟨i, hi, rfl⟩ := List.mem_map.mp hr
    simp
  · unfold diagM at hr
    obtain ⟨i, hi, rfl⟩ := List.mem_map.mp hr
    have hi := List.mem_range.mp hi
    obtain ⟨j, hj, rfl⟩ := List.mem_map.mp hx
    by_cases e : i = j
    · rw [if_pos e, List.getD_eq_getElem?_getD, List.getElem?_eq_getElem (by omega : i < hs.length)]
      have := hb _ (List.getElem_mem (by omega : i < hs.length))
      show (hs[i]).natAbs < 8
      omega
    · rw [if_neg e]
      decide
theorem diag_ent {n i j : Nat} {hs : List Int} (hi : i < n) (hj : j < n) : ent (diagM n hs) i j = if i = j then hs.getD i 0 else 0 := by
  unfold ent diagM
  rw [rng_get hi, List.getD_eq_getElem?_getD, List.getElem?_map, List.getElem?_range hj]
  rfl
theorem diag_sy {n : Nat} {hs : List Int} (h1 : 1 ≤ n) (h3 : n ≤ 3) : transp n (diagM n hs) = diagM n hs := by
  refine Sym.tr (fun i j hi hj => ?_) ⟨by simp [diagM], fun r hr => ?_⟩ h1 h3
  · rw [diag_ent hi hj, diag_ent hj hi]
    by_cases e : i = j
    · rw [if_pos e, if_pos e.symm, e]
    · rw [if_neg e, if_neg (fun z => e z.symm)]
  · unfold diagM at hr
    obtain ⟨i, hi, rfl⟩ := List.mem_map.mp hr
    simp
theorem scale_det {n : Nat} {B : List (List Int)} {ss : List Int} (h1 : 1 ≤ n) (h3 : n ≤ 3) (hB : Sh n B) (hd : detM n B = 1 ∨ detM n B = -1) (hs : ∀ s ∈ ss, s = 1 ∨ s = 2) (l : ss.length = n) : detM n (scaleM n B ss) ≠ 0 := by
  have : n = 1 ∨ n = 2 ∨ n = 3 := by omega
  rcases this with rfl | rfl | rfl
  · obtain ⟨a, rfl⟩ := sh1 hB rfl
    obtain ⟨s, rfl⟩ := len1 l
    rw [det1] at hd
    have e : scaleM 1 [[a]] [s] = [[a * s]] := by simp [scaleM, List.range_succ]
    rw [e, det1]
    rcases hs s (by simp) with rfl | rfl <;> omega
  · obtain ⟨a, b, c, d, rfl⟩ := sh2 hB rfl
    obtain ⟨s, t, rfl⟩ := len2 l
    rw [det2] at hd
    have e : scaleM 2 [[a, b], [c, d]] [s, t] = [[a * s, b * s], [c * t, d * t]] := by simp [scaleM, List.range_succ]
    have e2 : a * s * (d * t) - b * s * (c * t) = s * t * (a * d - b * c) := by grind
    rw [e, det2, e2]
    generalize a * d - b * c = w at hd
    rcases hs s (by simp) with rfl | rfl <;> rcases hs t (by simp) with rfl | rfl <;> omega
  · obtain ⟨a, b, c, d, e, f, g, h, i, rfl⟩ := sh3 hB rfl
    obtain ⟨s, t, u, rfl⟩ := len3 l
    rw [det3] at hd
    have e1 : scaleM 3 [[a, b, c], [d, e, f], [g, h, i]] [s, t, u] = [[a * s, b * s, c * s], [d * t, e * t, f * t], [g * u, h * u, i * u]] := by simp [scaleM, List.range_succ]
    have e2 : a * s * (e * t * (i * u) - f * t * (h * u)) - b * s * (d * t * (i * u) - f * t * (g * u)) + c * s * (d * t * (h * u) - e * t * (g * u)) = s * t * u * (a * (e * i - f * h) - b * (d * i - f * g) + c * (d * h - e * g)) := by grind
    rw [e1, det3, e2]
    generalize a * (e * i - f * h) - b * (d * i - f * g) + c * (d * h - e * g) = w at hd
    rcases hs s (by simp) with rfl | rfl <;> rcases hs t (by simp) with rfl | rfl <;> rcases hs u (by simp) with rfl | rfl <;> omega
section
variable {P : Program} {w : World} {K : PySem.W.Frag} {mg : Str → Option Value} {base : Heap} {C : Addr}
abbrev st_lblt : Stmt := top 57
def sp_lblt : Sp := fun vs H Q _ => ∃ (p h : Addr) (n : Nat) (hs : List Int), vs = [.ref p, .int n, .ref h] ∧ PotOk H p ∧ 1 ≤ n ∧ n ≤ 3 ∧ PyV (hid (some p) H) (.ref h) (.list (iD hs)) ∧ hs.length = n ∧ (∀ x ∈ hs, -6 ≤ x ∧ x ≤ 6) ∧
  ∀ D H' Bs, RX (some p) H H' → PyV (hid (some p) H') (.ref D) (lmD (ldM n (diagM n hs) Bs)) → SqE n 19 (ldM n (diagM n hs) Bs) → transp n (ldM n (diagM n hs) Bs) = ldM n (diagM n hs) Bs → Sh n Bs → detM n Bs ≠ 0 → Q (.ref D) H'
abbrev N_lblt : List Str := ["_law_pot_here", "_law_size", "_law_heads", "_law_base", "_law_stretch", "_law_middle_here", "_law_place", "_law_at", "_law_entry", "_law_near", "_law_far"]
theorem sc_lblt : FnScope N_lblt ["_law_pot_here", "_law_size", "_law_heads"] (defScope st_lblt) := ⟨rfl, rfl, rfl, by decide +kernel, rfl, by decide +kernel, by decide +kernel⟩
theorem ok_lblt {f : Addr} {fd : FuncData} (F : Fun K "_law_built" "_law_built" st_lblt f fd) (T : Txt mg) (D1 : Def P w K mg base "_law_draw" 1 ["_law_pot_here", "_law_size"] sp_draw) (D2 : Def P w K mg base "_law_table" 2 ["_law_pot_here", "_law_size"] sp_ltab)
    (D3 : Def P w K mg base "_law_led" 2 ["_law_rows_here", "_law_table_here"] sp_lled) : FnOk P w K mg base CX0 3 f fd ["_law_pot_here", "_law_size", "_law_heads"] sp_lblt := by
  refine F.ok sc_lblt (fun vs H Q E h => ?_) (fun cdv A outer s H vs Q E hr h => ?_)
  · obtain ⟨p, h, n, hs, rfl, _⟩ := h
    rfl
  · obtain ⟨p, ha, n, hs, rfl, hp, h1, h3, hh', lh, bh, q⟩ := h
    refine ⟨_, pss_cons (ps_set (i := 3) sc_lblt.nd rfl (Or.inr rfl) (pe_def D2 hr (pa_cons (pv 0) (pa_cons (pv 1) pa_nil))))
      (pss_cons (ps_set (i := 4) sc_lblt.nd rfl (Or.inr rfl) (pe_lc (own := [("_law_place", 6)]) (g := gName 6) (tt := tYes) rfl sc_lblt.nd (pi_range1 (by rfl) T.range (pa_cons (pv 1) pa_nil))
        (blkOk_by (N := N_lblt) (sc := defScope st_lblt) (by decide +kernel)) (fun _ _ _ _ _ => pg_name (i := 6) sc_lblt.nd rfl (Or.inl rfl) (Or.inr rfl)) (fun _ _ _ _ _ => pts_nil)
        (fun _ _ _ _ _ => pe_op op_add pe_int (pe_def (X := Cx.blk _ _ _ _ _ _) D1 hr (pa_cons (pv 0) (pa_cons pe_int pa_nil))))))
      (pss_cons (ps_set (i := 3) sc_lblt.nd rfl (Or.inr rfl) (pe_lc (own := [("_law_at", 7)]) (g := gName 7) (tt := tYes) rfl sc_lblt.nd (pi_range1 (by rfl) T.range (pa_cons (pv 1) pa_nil))
        (blkOk_by (N := N_lblt) (sc := defScope st_lblt) (by decide +kernel)) (fun _ _ _ _ _ => pg_name (i := 7) sc_lblt.nd rfl (Or.inr rfl) (Or.inl rfl)) (fun _ _ _ _ _ => pts_nil)
        (fun s' H' C' cl' fp' => by
          refine pe_lc (own := [("_law_entry", 8)]) (wi := iSeq K (tOp (rIxS2 K) (tVar 3) (tVar 7))) (g := gName 8) (tt := tYes) (te := tOp (rI CMul fun i j => .int (i * j)) (tVar 8) (tOp (rIxS2 K) (tVar 4) (tVar 7))) rfl sc_lblt.nd ?p1 ?p2 ?p3 ?p4 ?p5
          case p1 => exact pi_seq (pe_ix ix_sq (pv 3) (pv 7) (fun _ _ => rfl))
          case p2 => exact blkOk_by (N := N_lblt) (by rfl)
          case p3 => exact (fun _ _ _ _ _ => pg_name (i := 8) sc_lblt.nd rfl (Or.inl rfl) (Or.inr rfl))
          case p4 => exact (fun _ _ _ _ _ => pts_nil)
          case p5 => exact (fun _ _ _ _ _ => pe_op op_mul (pv 8) (pe_ix ix_sq (pv 4) (pv 7) (fun _ _ => rfl))))))
      (pss_cons (ps_setLc (i := 5) (own := [("_law_near", 9)]) (g := gName 9) (tt := tYes) rfl sc_lblt.nd rfl rfl (sw_true rfl rfl rfl (by decide +kernel)) (pi_range1 (by rfl) T.range (pa_cons (pv 1) pa_nil))
        (blkOk_by (N := N_lblt) (sc := defScope st_lblt) (by decide +kernel)) (fun _ _ _ _ _ => pg_name (i := 9) sc_lblt.nd rfl (Or.inr rfl) (Or.inl rfl)) (fun _ _ _ _ _ => pts_nil)
        (fun s' H' C' cl' fp' => by
          refine pe_lc (own := [("_law_far", 10)]) (wi := iRng1 (tCons (tVar 1) tNil)) (g := gName 10) (tt := tYes) (te := tIf (tTest (tOp rEq (tVar 9) (tVar 10))) (tOp (rIxS2 K) (tVar 2) (tVar 9)) (tC (.int 0))) rfl sc_lblt.nd ?p1 ?p2 ?p3 ?p4 ?p5
          case p1 => exact pi_range1 (by rfl) T.range (pa_cons (pv 1) pa_nil)
          case p2 => exact blkOk_by (N := N_lblt) (by rfl)
          case p3 => exact (fun _ _ _ _ _ => pg_name (i := 10) sc_lblt.nd rfl (Or.inl rfl) (Or.inr rfl))
          case p4 => exact (fun _ _ _ _ _ => pts_nil)
          case p5 => exact (fun _ _ _ _ _ => pe_ifExp (pt_cmpR op_eq (pv 9) (pv 10) (nomark _)) (pe_ix ix_sq (pv 2) (pv 9) (fun _ _ => rfl)) pe_int)))
      (pss_one (ps_ret (pe_def D3 hr (pa_cons (pv 5) (pa_cons (pv 3) pa_nil)))))))), ?_⟩
    have hh : Has (some p) H := fun q e => by cases e; exact hp
    refine r_seq (r_asg (a2 ⟨_, rfl, _, rfl, p, n, rfl, hp, h1, h3, fun Db H1 B s1 pB bB dB => ?_⟩))
    have hp1 := s1.pot p rfl hp
    have hh1 := hh.to s1
    refine r_next (r_nseq (r_asg (tlc_call ⟨_, rfl, (n : Int), rfl, by omega, by omega, ?_⟩)))
    rw [Int.toNat_natCast]
    refine lc_el (p := some p) n (fun i v => ∃ x : Int, v = .int x ∧ (x = 1 ∨ x = 2)) hh1 (by omega) (fun i H2 hi s2 => hi) (fun H2 s2 => Nat.le_refl _) (fun i x H2 H3 C' hi s2 hp2 hy hC => ?_) fun Ds H2 rs nDs s2 hDs hrl hE => ?_
    · obtain ⟨rfl, rfl⟩ := hy
      refine ⟨rfl, ⟨_, rfl, p, 2, rfl, hp2 p rfl, by decide, by decide, fun r H4 r0 r1 s4 => ⟨_, _, rfl, rfl, hC _ _ s4 ⟨_, rfl, by omega⟩⟩⟩⟩
    obtain ⟨ss, rfl, bs⟩ : ∃ ss : List Int, rs = ss.map V.int ∧ ∀ x ∈ ss, x = 1 ∨ x = 2 := by
      clear hrl hDs
      induction rs with
      | nil => exact ⟨[], rfl, fun x hx => by cases hx⟩
      | cons r rs ih =>
        obtain ⟨x, rfl, hb⟩ := hE 0 r rfl
        obtain ⟨xs, rfl, hbs⟩ := ih fun i v e => hE (i + 1) v e
        refine ⟨x :: xs, rfl, fun y hy => ?_⟩
        rcases List.mem_cons.mp hy with rfl | hy
        · exact hb
        · exact hbs y hy
    have ls : ss.length = n := by rw [← hrl, List.length_map]
    have s02 := s1.trans s2
    have hp2 := s02.pot p rfl hp
    have pB2 := py_rx pB s2
    obtain ⟨ab, bb, eab, hab, lbb, hbb⟩ := lm_at (py_un pB2)
    cases eab
    have bl : bb.length = n := by rw [lbb, bB.len]
    have eS := scale_sqe bB bs ls
    refine r_next (r_nseq (r_asg (tlc_call ⟨_, rfl, (n : Int), rfl, by omega, by omega, ?_⟩)))
    rw [Int.toNat_natCast]
    refine lc_fresh (p := none) n (fun i => .lst (((scaleM n B ss).getD i []).map V.int)) has_none (by omega) (fun i H3 hi s3 => hi) (fun H3 s3 => Nat.le_refl _) (fun i x H3 H4 C' hi s3 _ hy hC => ?_) fun Dc H3 rs3 nDc s3 hDc hrl3 hE3 => ?_
    · obtain ⟨rfl, rfl⟩ := hy
      have eb : bb[i]? = some (bb[i]'(by omega)) := List.getElem?_eq_getElem _
      have hri := s3.same _ _ (hbb i _ eb)
      have lr : (B.getD i []).length = n := getD_row bB.sh hi
      have q1 : ∀ H', Same H4 H' → SqV K H' false (bb[i]'(by omega)) ((B.getD i []).map V.int) := fun H' s => .inl (.inl (s _ _ hri))
      rw [show (0 : Int) + (i : Int) = (i : Int) by omega]
      refine ⟨rfl, tlc_call ⟨_, rfl, _, rfl, false, Db, _, _, _, rfl, rfl, .inl (.inl (s3.same _ _ hab)), ixR eb, false, _, _, rfl, q1 H4 (Same.refl _), ?_⟩⟩
      refine lc_el (p := none) n (fun l v => ∃ x, (B.getD i [])[l]? = some x ∧ v = .int (x * ss.getD i 0)) has_none (by omega) (fun j H6 hj s6 => its_go (q1 H6 s6.same) (List.getElem?_eq_getElem (by rw [List.length_map, lr]; exact hj))) (fun H6 s6 => its_stop (q1 H6 s6.same) (by rw [List.length_map, lr]; exact Nat.le_refl _)) (fun j x H6 H7 C2 hj s6 _ hy2 hC2 => ?_) fun De H6 ys nDe s6 hDe hyl hyE => ?_
      · obtain ⟨rfl, ex2⟩ := its_yld hy2 (q1 H6 s6.same)
        have l1 : j < (B.getD i []).length := by omega
        rw [List.getElem?_map, List.getElem?_eq_getElem l1] at ex2
        cases ex2
        have bx := bB.bd _ (getD_mem (M := B) (i := i) (by rw [bB.len]; exact hi)) _ (List.getElem_mem l1)
        refine ⟨rfl, ?_⟩
        refine ⟨_, rfl, _, rfl, _, rfl, false, Ds, _, _, _, rfl, rfl, .inl (.inl ((s3.same.trans s6.same) _ _ hDs)), ixL (by omega), _, _, rfl, rfl, .inl ⟨by omega, by omega⟩, ?_⟩
        exact hC2 _ _ (RX.refl _) ⟨_, List.getElem?_eq_getElem l1, rfl⟩
      · refine hC De _ s6 nDe ?_
        have ey : ys = (B.getD i []).map fun x => V.int (x * ss.getD i 0) := map_of_get (n := 0) _ (by rw [hyl, lr]) hyE
        have eg : (scaleM n B ss).getD i [] = (B.getD i []).map fun x => x * ss.getD i 0 := by unfold scaleM; rw [rng_get hi]
        rw [hDe, ey, eg, List.map_map]
        rfl
    have pS : PyV H3 (.ref Dc) (lmD (scaleM n B ss)) := py_lm hDc (by rw [hrl3, eS.len]) hE3
    have hh3 := li_get (py_rx hh' (s02.trans (RX.of s3.same)))
    have eD := diag_sqe bh lh
    refine r_next (r_nseq (r_asg (tlc_call ⟨_, rfl, (n : Int), rfl, by omega, by omega, ?_⟩)))
    rw [Int.toNat_natCast]
    refine lc_fresh (p := none) n (fun i => .lst (((diagM n hs).getD i []).map V.int)) has_none (by omega) (fun i H4 hi s4 => hi) (fun H4 s4 => Nat.le_refl _) (fun i x H4 H5 C' hi s4 _ hy hC => ?_) fun Dm H4 rs4 nDm s4 hDm hrl4 hE4 => ?_
    · obtain ⟨rfl, rfl⟩ := hy
      rw [show (0 : Int) + (i : Int) = (i : Int) by omega]
      refine ⟨rfl, tlc_call ⟨_, rfl, (n : Int), rfl, by omega, by omega, ?_⟩⟩
      rw [Int.toNat_natCast]
      refine lc_el (p := none) n (fun j v => v = .int (if i = j then hs.getD i 0 else 0)) has_none (by omega) (fun j H6 hj s6 => hj) (fun H6 s6 => Nat.le_refl _) (fun j x H6 H7 C2 hj s6 _ hy2 hC2 => ?_) fun De H6 ys nDe s6 hDe hyl hyE => ?_
      · obtain ⟨rfl, rfl⟩ := hy2
        rw [show (0 : Int) + (j : Int) = (j : Int) by omega]
        refine ⟨rfl, ?_⟩
        refine ⟨_, rfl, _, rfl, rfl, _, rfl, ?_⟩
        by_cases z : i = j
        · rw [decide_eq_true (show V.int (i : Int) = V.int (j : Int) by rw [z])]
          refine iteT ⟨_, rfl, _, rfl, false, ha, _, _, _, rfl, rfl, .inl (.inl ((s4.same.trans s6.same) _ _ hh3)), ixL (by omega), hC2 _ _ (RX.refl _) (by rw [if_pos z])⟩
        · rw [decide_eq_false (show ¬ V.int (i : Int) = V.int (j : Int) from fun e => z (by have := V.int.inj e; omega))]
          exact iteF (hC2 _ _ (RX.refl _) (by rw [if_neg z]))
      · have ey : ys = (List.range n).map fun j => V.int (if i = j then hs.getD i 0 else 0) := map_of_get (n := 0) _ (by rw [hyl, List.length_range]) fun j v e => by
          have hj : j < n := by rw [← hyl]; exact (List.getElem?_eq_some_iff.mp e).1
          exact ⟨j, List.getElem?_range hj, hyE j v e⟩
        refine hC De _ s6 nDe ?_
        have eg : (diagM n hs).getD i [] = (List.range n).map fun j => if i = j then hs.getD i 0 else 0 := by unfold diagM; rw [rng_get hi]
        rw [hDe, ey, eg, List.map_map]
        rfl
    have pD : PyV H4 (.ref Dm) (lmD (diagM n hs)) := py_lm hDm (by rw [hrl4, eD.len]) hE4
    have s04 : RX (some p) H H4 := s02.trans (RX.of (s3.same.trans s4.same))
    refine r_next (r_nret (a2 ⟨_, rfl, _, rfl, .ref Dm, .ref Dc, diagM n hs, scaleM n B ss, n, rfl, pD, pS.mono s4.same, h1, h3, eD.mono (by decide), eS.mono (by decide), fun D H5 s5 pR => ?_⟩))
    exact q D H5 _ (s04.trans (RX.of s5)) (pR p (s04.pot p rfl hp).some_) (eD.ld eS h1 h3) (ld_sy h1 h3 eD.sh eS.sh (diag_sy h1 h3)) eS.sh (scale_det h1 h3 bB.sh dB bs ls)
end
end T22
set_option Elab.async false
set_option linter.all false
set_option maxRecDepth 100000
set_option maxHeartbeats 4000000
set_option Elab.async false
set_option linter.all false
set_option maxRecDepth 100000
set_option maxHeartbeats 4000000
namespace T22
open PySem PySem.Spec PyProof.Rows L2 Gd Zn Rp Dn Tb Gn En Zs Ct Op Oc Rg Rt Ro Oa
/-- a row of the box -/
def RowB (H : Hp) (v : V) (n : Nat) : Prop := ∃ (b : Addr) (xs : List Int), v = .ref b ∧ H b = some (.lst (xs.map V.int)) ∧ xs.length = n ∧ ∀ x ∈ xs, -2 ≤ x ∧ x ≤ 2
theorem RowB.same {H H' : Hp} {v : V} {n : Nat} (h : RowB H v n) (s : Same H H') : RowB H' v n := by
  obtain ⟨b, xs, e, e1, e2, e3⟩ := h
  exact ⟨b, xs, e, s _ _ e1, e2, e3⟩
end T22
set_option Elab.async false
set_option linter.all false
set_option maxRecDepth 100000
set_option maxHeartbeats 4000000
set_option Elab.async false
set_option linter.all false
set_option maxRecDepth 100000
set_option maxHeartbeats 4000000
set_option Elab.async false
set_option linter.all false
set_option maxRecDepth 100000
set_option maxHeartbeats 4000000
set_option Elab.async false
set_option linter.all false
set_option maxRecDepth 100000
set_option maxHeartbeats 4000000
namespace T22
open PySem PySem.Spec PyProof.Rows L2 Gd Zn Rp Dn Tb Gn En Zs Ct Op Oc Rg Rt Ro Oa
theorem bowl_pos {n : Nat} {M : List (List Int)} (h1 : 1 ≤ n) (h3 : n ≤ 3) (hM : Sh n M) (sy : transp n M = M) (hB : Bowl n M) : Pos n M := by
  refine fit_pos h1 h3 hM (ps := sqL n M) (by unfold sqL; simp) (fun p hp => ?_) (sq_fits h1 h3 hM sy hB)
  unfold sqL at hp
  obtain ⟨k, _, rfl⟩ := List.mem_map.mp hp
  simp [lnL]
def TV (H : Hp) (v : V) (n : Nat) (M : List (List Int)) : Prop := (Bowl n M ∧ v = .non) ∨ ∃ a, a < n ∧ (∀ i, i < a → 0 < dC M i) ∧ dC M a ≤ 0 ∧ RowV H v (pitM n a M)
theorem TV.same {H H' : Hp} {v : V} {n : Nat} {M : List (List Int)} (h : TV H v n M) (s : Same H H') : TV H' v n M := by
  rcases h with h | ⟨a, b, c, d, e⟩
  · exact .inl h
  · exact .inr ⟨a, b, c, d, e.mono (KS.of s)⟩
end T22
set_option Elab.async false
set_option linter.all false
set_option maxRecDepth 100000
set_option maxHeartbeats 8000000
namespace T22
open PySem PySem.Spec PyProof.Rows L2 Gd Zn Rp Dn Tb Gn En Zs Ct Op Oc Rg Rt Ro Oa
theorem c_led {F C : Addr} {E : XK} {H : Hp} {n b c : Nat} {G M : List (List Int)} {x y : V} {Q : VK} (hx : Fv F H x n b G) (hy : Tv C H y n c M) (q : ∀ d H', Same H H' → Fv F H' (.ref d) n ((c + b + 2) + c + 2) (ldM n G M) → Q (.ref d) H') (lb : b ≤ 2000 ∧ c ≤ 2000 := by decide) : sp_led F C [x, y] H Q E :=
  ⟨x, y, G, M, n, b, c, rfl, hx, hy, lb.1, lb.2, q⟩
theorem r_and {t u : TT} {σ : L2.St} {H : Hp} {Q : Bool → Hp → Prop} (h : t σ H fun c H1 => if c = true then u σ H1 Q else Q false H1) : tAnd t u σ H Q := h
theorem r_eqLi {K : PySem.W.Frag} {H : Hp} {a b : Addr} {xs ys : List Int} {Q : VK} (ha : H a = some (.lst (xs.map V.int))) (hb : H b = some (.lst (ys.map V.int))) (q : Q (.bl (decide (xs = ys))) H) : rEqD K (.ref a) (.ref b) H Q := by
  refine ⟨.list (xs.map PyData.int), .list (ys.map PyData.int), dp_listL ha, dp_listL hb, shaped_intsL xs, shaped_intsL ys, ?_⟩
  rw [PyData.eqv, eqv_row]
  exact q
theorem rows_len {H : Hp} {v : V} {M : List (List Int)} {n : Nat} (h : PyV H v (lmD M)) (hM : Sh n M) : ∃ a ws, v = .ref a ∧ H a = some (.lst ws) ∧ ws.length = n := by
  obtain ⟨a, bs, rfl, e, l, _⟩ := lm_at h
  exact ⟨a, _, rfl, e, by rw [List.length_map, l, hM.len]⟩
end T22
set_option Elab.async false
set_option linter.all false
set_option maxRecDepth 100000
set_option maxHeartbeats 4000000
set_option Elab.async false
set_option linter.all false
set_option maxRecDepth 100000
set_option maxHeartbeats 4000000
set_option Elab.async false
set_option linter.all false
set_option maxRecDepth 100000
set_option maxHeartbeats 4000000
namespace T22
open PySem PySem.Spec PyProof.Rows L2 Gd Zn Rp Dn Tb Gn En Zs Ct Op Oc Rg Rt Ro Oa
def Psd (n : Nat) (M : List (List Int)) : Prop := ∀ xs : List Int, xs.length = n → 0 ≤ btwM M xs xs
theorem btw2' (a b c x y : Int) : btwM [[a, b], [b, c]] [x, y] [x, y] = x * (a * x + b * y) + y * (b * x + c * y) := by
  rw [w2]
  grind
theorem nn_of {w s : Int} (h : ∀ k : Int, 0 ≤ k → 0 < k * w + s) : 0 ≤ w := by
  by_cases z : 0 ≤ w
  · exact z
  · exfalso
    by_cases hs : 0 ≤ s
    · have := h s hs
      have e : s * w ≤ s * (-1) := Int.mul_le_mul_of_nonneg_left (by omega) hs
      omega
    · have := h 0 (by decide)
      omega
theorem s2w (a b c k x y : Int) : btwM [[k * a + 1, k * b], [k * b, k * c + 1]] [x, y] [x, y] = k * btwM [[a, b], [b, c]] [x, y] [x, y] + (x * x + y * y) := by
  rw [btw2', btw2']
  grind
theorem s3w (a b c d e f k x y z : Int) : btwM [[k * a + 1, k * b, k * c], [k * b, k * d + 1, k * e], [k * c, k * e, k * f + 1]] [x, y, z] [x, y, z] = k * btwM [[a, b, c], [b, d, e], [c, e, f]] [x, y, z] [x, y, z] + (x * x + y * y + z * z) := by
  rw [btw3, btw3]
  grind
theorem sq2_pos {x y : Int} (h : x ≠ 0 ∨ y ≠ 0) : 0 < x * x + y * y := by
  have := sq3_pos (x := x) (y := y) (z := 0) (by rcases h with h | h <;> simp [h])
  omega
theorem sh_2 (a b c d : Int) : Sh 2 [[a, b], [c, d]] := ⟨rfl, by simp⟩
theorem sh_3 (a b c d e f g h i : Int) : Sh 3 [[a, b, c], [d, e, f], [g, h, i]] := ⟨rfl, by simp⟩
theorem mids2 {a b c : Int} : (∀ k, 1 ≤ k → k ≤ 2 → 0 < mdlM 2 [[a, b], [b, c]] k) ↔ (0 < a + c ∧ 0 < a * c - b * b) := by
  constructor
  · intro h
    have k1 := h 1 (by decide) (by decide)
    have k2 := h 2 (by decide) (by decide)
    rw [m21] at k1
    rw [m22] at k2
    exact ⟨k1, k2⟩
  · intro ⟨x, y⟩ k k1 k2
    have : k = 1 ∨ k = 2 := by omega
    rcases this with rfl | rfl
    · rw [m21]; exact x
    · rw [m22]; exact y
theorem mids3 {a b c d e f : Int} : (∀ k, 1 ≤ k → k ≤ 3 → 0 < mdlM 3 [[a, b, c], [b, d, e], [c, e, f]] k) ↔ (0 < a + d + f ∧ 0 < E2 a b c d e f ∧ 0 < E3 a b c d e f) := by
  constructor
  · intro h
    have k1 := h 1 (by decide) (by decide)
    have k2 := h 2 (by decide) (by decide)
    have k3 := h 3 (by decide) (by decide)
    rw [m31] at k1
    rw [m32] at k2
    rw [m33, ← e3det] at k3
    exact ⟨k1, k2, k3⟩
  · intro ⟨x, y, z⟩ k k1 k2
    have : k = 1 ∨ k = 2 ∨ k = 3 := by omega
    rcases this with rfl | rfl | rfl
    · rw [m31]; exact x
    · rw [m32]; exact y
    · rw [m33, ← e3det]; exact z
theorem pos2_iff {a b c : Int} : Pos 2 [[a, b], [b, c]] ↔ (0 < a + c ∧ 0 < a * c - b * b) := by
  rw [← mids2, bowl_mid (n := 2) (M := [[a, b], [b, c]]) (by decide) (by decide) (sh_2 _ _ _ _) rfl]
  exact ⟨pos_bowl (by decide) (sh_2 _ _ _ _) rfl, bowl_pos (by decide) (by decide) (sh_2 _ _ _ _) rfl⟩
theorem pos3_iff {a b c d e f : Int} : Pos 3 [[a, b, c], [b, d, e], [c, e, f]] ↔ (0 < a + d + f ∧ 0 < E2 a b c d e f ∧ 0 < E3 a b c d e f) := by
  rw [← mids3, bowl_mid (n := 3) (M := [[a, b, c], [b, d, e], [c, e, f]]) (by decide) (by decide) (sh_3 _ _ _ _ _ _ _ _ _) rfl]
  exact ⟨pos_bowl (by decide) (sh_3 _ _ _ _ _ _ _ _ _) rfl, bowl_pos (by decide) (by decide) (sh_3 _ _ _ _ _ _ _ _ _) rfl⟩
theorem psd2 {a b c : Int} : Psd 2 [[a, b], [b, c]] ↔ (0 ≤ a + c ∧ 0 ≤ a * c - b * b) := by
  have sd : ∀ k : Int, (k * a + 1) * (k * c + 1) - k * b * (k * b) = k * k * (a * c - b * b) + k * (a + c) + 1 := fun k => by grind
  have st : ∀ k : Int, k * a + 1 + (k * c + 1) = k * (a + c) + 2 := fun k => by grind
  constructor
  · intro h
    have P : ∀ k : Int, 0 ≤ k → 0 < k * (a + c) + 2 ∧ 0 < k * k * (a * c - b * b) + k * (a + c) + 1 := fun k hk => by
      have := (pos2_iff (a := k * a + 1) (b := k * b) (c := k * c + 1)).mp fun xs hx ⟨w, mw, nw⟩ => by
        obtain ⟨x, y, rfl⟩ := len2 hx
        rw [s2w]
        have p := Int.mul_nonneg hk (h [x, y] rfl)
        have q := sq2_pos (x := x) (y := y) (by
          simp at mw
          rcases mw with rfl | rfl
          · exact .inl nw
          · exact .inr nw)
        omega
      rw [sd, st] at this
      exact this
    have t0 : 0 ≤ a + c := nn_of fun k hk => (P k hk).1
    refine ⟨t0, ?_⟩
    by_cases z : 0 ≤ a * c - b * b
    · exact z
    · exfalso
      have := (P (a + c + 1) (by omega)).2
      generalize a + c = t at this t0
      generalize a * c - b * b = D at this z
      have e : (t + 1) * (t + 1) * D ≤ (t + 1) * (t + 1) * (-1) := Int.mul_le_mul_of_nonneg_left (by omega) (sq_nn _)
      have e2 : (t + 1) * (t + 1) * (-1) + (t + 1) * t + 1 = -t := by grind
      omega
  · intro ⟨h1, h2⟩ xs hx
    obtain ⟨x, y, rfl⟩ := len2 hx
    by_cases zz : x ≠ 0 ∨ y ≠ 0
    · refine nn_of (s := x * x + y * y) fun k hk => ?_
      rw [← s2w]
      refine (pos2_iff (a := k * a + 1) (b := k * b) (c := k * c + 1)).mpr ?_ [x, y] rfl ?_
      · rw [sd, st]
        have p1 := Int.mul_nonneg hk h1
        have p2 := Int.mul_nonneg (sq_nn k) h2
        omega
      · rcases zz with h | h
        · exact ⟨x, by simp, h⟩
        · exact ⟨y, by simp, h⟩
    · have hx : x = 0 := Decidable.byContradiction fun k => zz (.inl k)
      have hy : y = 0 := Decidable.byContradiction fun k => zz (.inr k)
      subst hx hy
      rw [btw2']
      omega
theorem psd3 {a b c d e f : Int} : Psd 3 [[a, b, c], [b, d, e], [c, e, f]] ↔ (0 ≤ a + d + f ∧ 0 ≤ E2 a b c d e f ∧ 0 ≤ E3 a b c d e f) := by
  have s1 : ∀ k : Int, k * a + 1 + (k * d + 1) + (k * f + 1) = k * (a + d + f) + 3 := fun k => by grind
  have s2 : ∀ k : Int, E2 (k * a + 1) (k * b) (k * c) (k * d + 1) (k * e) (k * f + 1) = k * k * E2 a b c d e f + 2 * (k * (a + d + f)) + 3 := fun k => by unfold E2; grind
  have s3 : ∀ k : Int, E3 (k * a + 1) (k * b) (k * c) (k * d + 1) (k * e) (k * f + 1) = k * (k * k) * E3 a b c d e f + k * k * E2 a b c d e f + k * (a + d + f) + 1 := fun k => by unfold E2 E3; grind
  constructor
  · intro h
    have P : ∀ k : Int, 0 ≤ k → 0 < k * (a + d + f) + 3 ∧ 0 < k * k * E2 a b c d e f + 2 * (k * (a + d + f)) + 3 ∧ 0 < k * (k * k) * E3 a b c d e f + k * k * E2 a b c d e f + k * (a + d + f) + 1 := fun k hk => by
      have := (pos3_iff (a := k * a + 1) (b := k * b) (c := k * c) (d := k * d + 1) (e := k * e) (f := k * f + 1)).mp fun xs hx ⟨w, mw, nw⟩ => by
        obtain ⟨x, y, z, rfl⟩ := len3 hx
        rw [s3w]
        have p := Int.mul_nonneg hk (h [x, y, z] rfl)
        have q := sq3_pos (x := x) (y := y) (z := z) (by
          simp at mw
          rcases mw with rfl | rfl | rfl
          · exact .inl nw
          · exact .inr (.inl nw)
          · exact .inr (.inr nw))
        omega
      rw [s1, s2, s3] at this
      exact this
    clear s1 s2 s3 h
    have t0 : 0 ≤ a + d + f := nn_of fun k hk => (P k hk).1
    generalize a + d + f = t at P t0
    generalize E2 a b c d e f = u at P
    generalize E3 a b c d e f = v at P
    have u0 : 0 ≤ u := by
      by_cases z : 0 ≤ u
      · exact z
      · exfalso
        have := (P (2 * t + 3) (by omega)).2.1
        have e : (2 * t + 3) * (2 * t + 3) * u ≤ (2 * t + 3) * (2 * t + 3) * (-1) := Int.mul_le_mul_of_nonneg_left (by omega) (sq_nn _)
        have e2 : (2 * t + 3) * (2 * t + 3) * (-1) + 2 * ((2 * t + 3) * t) + 3 = -(6 * t + 6) := by grind
        omega
    refine ⟨t0, u0, ?_⟩
    by_cases z : 0 ≤ v
    · exact z
    · exfalso
      have := (P (u + t + 2) (by omega)).2.2
      obtain ⟨k, hk⟩ : ∃ k, k = u + t + 2 := ⟨_, rfl⟩
      rw [← hk] at this
      have k2 : 2 ≤ k := by omega
      have kk := sq_nn k
      have e : k * (k * k) * v ≤ k * (k * k) * (-1) := Int.mul_le_mul_of_nonneg_left (by omega) (Int.mul_nonneg (by omega) kk)
      have e2 : k * t ≤ k * k * t := by
        have : k * k * t - k * t = k * ((k - 1) * t) := by grind
        have := Int.mul_nonneg (a := k) (by omega) (Int.mul_nonneg (a := k - 1) (by omega) t0)
        omega
      have e3 : k * (k * k) * (-1) + k * k * u + k * k * t = -(2 * (k * k)) := by
        have : u = k - t - 2 := by omega
        rw [this]
        grind
      have : 4 ≤ k * k := by
        have := Int.mul_le_mul k2 k2 (by decide) (by omega)
        omega
      omega
  · intro ⟨h1, h2, h3⟩ xs hx
    obtain ⟨x, y, z, rfl⟩ := len3 hx
    by_cases zz : x ≠ 0 ∨ y ≠ 0 ∨ z ≠ 0
    · refine nn_of (s := x * x + y * y + z * z) fun k hk => ?_
      rw [← s3w]
      refine (pos3_iff (a := k * a + 1) (b := k * b) (c := k * c) (d := k * d + 1) (e := k * e) (f := k * f + 1)).mpr ?_ [x, y, z] rfl ?_
      · rw [s1, s2, s3]
        have p1 := Int.mul_nonneg hk h1
        have p2 := Int.mul_nonneg (sq_nn k) h2
        have p3 := Int.mul_nonneg (Int.mul_nonneg hk (sq_nn k)) h3
        omega
      · rcases zz with h | h | h
        · exact ⟨x, by simp, h⟩
        · exact ⟨y, by simp, h⟩
        · exact ⟨z, by simp, h⟩
    · have hx : x = 0 := Decidable.byContradiction fun k => zz (.inl k)
      have hy : y = 0 := Decidable.byContradiction fun k => zz (.inr (.inl k))
      have hz : z = 0 := Decidable.byContradiction fun k => zz (.inr (.inr k))
      subst hx hy hz
      rw [btw3]
      omega
end T22
set_option Elab.async false
set_option linter.all false
set_option maxRecDepth 100000
set_option maxHeartbeats 4000000
namespace T22
open PySem PySem.Spec PyProof.Rows L2 Gd Zn Rp Dn Tb Gn En Zs Ct Op Oc Rg Rt Ro Oa
def Nsd (n : Nat) (M : List (List Int)) : Prop := ∀ xs : List Int, xs.length = n → btwM M xs xs ≤ 0
def Gmd (n : Nat) (M : List (List Int)) : Prop := ∃ xs ys : List Int, xs.length = n ∧ ys.length = n ∧ 0 < btwM M xs xs * btwM M ys ys - btwM M xs ys * btwM M xs ys
theorem neg2 (a b c x y : Int) : btwM [[-a, -b], [-b, -c]] [x, y] [x, y] = -btwM [[a, b], [b, c]] [x, y] [x, y] := by
  rw [btw2', btw2']
  grind
theorem neg3 (a b c d e f x y z : Int) : btwM [[-a, -b, -c], [-b, -d, -e], [-c, -e, -f]] [x, y, z] [x, y, z] = -btwM [[a, b, c], [b, d, e], [c, e, f]] [x, y, z] [x, y, z] := by
  rw [btw3, btw3]
  grind
theorem nsd2 {a b c : Int} : Nsd 2 [[a, b], [b, c]] ↔ (a + c ≤ 0 ∧ 0 ≤ a * c - b * b) := by
  have k : Nsd 2 [[a, b], [b, c]] ↔ Psd 2 [[-a, -b], [-b, -c]] := by
    constructor
    · intro h xs hx
      obtain ⟨x, y, rfl⟩ := len2 hx
      rw [neg2]
      have := h [x, y] rfl
      omega
    · intro h xs hx
      obtain ⟨x, y, rfl⟩ := len2 hx
      have := h [x, y] rfl
      rw [neg2] at this
      omega
  rw [k, psd2]
  have e : -a * -c - -b * -b = a * c - b * b := by grind
  rw [e]
  constructor <;> (intro ⟨x, y⟩; exact ⟨by omega, y⟩)
theorem nsd3 {a b c d e f : Int} : Nsd 3 [[a, b, c], [b, d, e], [c, e, f]] ↔ (a + d + f ≤ 0 ∧ 0 ≤ E2 a b c d e f ∧ E3 a b c d e f ≤ 0) := by
  have k : Nsd 3 [[a, b, c], [b, d, e], [c, e, f]] ↔ Psd 3 [[-a, -b, -c], [-b, -d, -e], [-c, -e, -f]] := by
    constructor
    · intro h xs hx
      obtain ⟨x, y, z, rfl⟩ := len3 hx
      rw [neg3]
      have := h [x, y, z] rfl
      omega
    · intro h xs hx
      obtain ⟨x, y, z, rfl⟩ := len3 hx
      have := h [x, y, z] rfl
      rw [neg3] at this
      omega
  rw [k, psd3]
  have e1 : E2 (-a) (-b) (-c) (-d) (-e) (-f) = E2 a b c d e f := by unfold E2; grind
  have e2 : E3 (-a) (-b) (-c) (-d) (-e) (-f) = -E3 a b c d e f := by unfold E3; grind
  rw [e1, e2]
  constructor <;> (intro ⟨x, y, z⟩; exact ⟨by omega, y, by omega⟩)
theorem bc3 (x1 x2 x3 y1 y2 y3 u1 u2 u3 v1 v2 v3 : Int) : (x1 * u1 + x2 * u2 + x3 * u3) * (y1 * v1 + y2 * v2 + y3 * v3) - (x1 * v1 + x2 * v2 + x3 * v3) * (y1 * u1 + y2 * u2 + y3 * u3)
    = (x2 * y3 - x3 * y2) * (u2 * v3 - u3 * v2) + (x3 * y1 - x1 * y3) * (u3 * v1 - u1 * v3) + (x1 * y2 - x2 * y1) * (u1 * v2 - u2 * v1) := by grind
theorem btw3g (a b c d e f x1 x2 x3 y1 y2 y3 : Int) : btwM [[a, b, c], [b, d, e], [c, e, f]] [x1, x2, x3] [y1, y2, y3] = x1 * (a * y1 + b * y2 + c * y3) + x2 * (b * y1 + d * y2 + e * y3) + x3 * (c * y1 + e * y2 + f * y3) := by
  simp [btwM, ledM, dot, Int.add_assoc]
theorem cr1 (b d e c f x1 x2 x3 y1 y2 y3 : Int) : (b * x1 + d * x2 + e * x3) * (c * y1 + e * y2 + f * y3) - (c * x1 + e * x2 + f * x3) * (b * y1 + d * y2 + e * y3)
    = (d * f - e * e) * (x2 * y3 - x3 * y2) + (c * e - b * f) * (x3 * y1 - x1 * y3) + (b * e - c * d) * (x1 * y2 - x2 * y1) := by grind
theorem cr2 (a b c e f x1 x2 x3 y1 y2 y3 : Int) : (c * x1 + e * x2 + f * x3) * (a * y1 + b * y2 + c * y3) - (a * x1 + b * x2 + c * x3) * (c * y1 + e * y2 + f * y3)
    = (c * e - b * f) * (x2 * y3 - x3 * y2) + (a * f - c * c) * (x3 * y1 - x1 * y3) + (b * c - a * e) * (x1 * y2 - x2 * y1) := by grind
theorem cr3 (a b c d e x1 x2 x3 y1 y2 y3 : Int) : (a * x1 + b * x2 + c * x3) * (b * y1 + d * y2 + e * y3) - (b * x1 + d * x2 + e * x3) * (a * y1 + b * y2 + c * y3)
    = (b * e - c * d) * (x2 * y3 - x3 * y2) + (b * c - a * e) * (x3 * y1 - x1 * y3) + (a * d - b * b) * (x1 * y2 - x2 * y1) := by grind
/-- two rows' worths less what is between them, by the adjugate -/
theorem gram3 (a b c d e f x1 x2 x3 y1 y2 y3 : Int) : btwM [[a, b, c], [b, d, e], [c, e, f]] [x1, x2, x3] [x1, x2, x3] * btwM [[a, b, c], [b, d, e], [c, e, f]] [y1, y2, y3] [y1, y2, y3] - btwM [[a, b, c], [b, d, e], [c, e, f]] [x1, x2, x3] [y1, y2, y3] * btwM [[a, b, c], [b, d, e], [c, e, f]] [x1, x2, x3] [y1, y2, y3]
    = btwM [[d * f - e * e, c * e - b * f, b * e - c * d], [c * e - b * f, a * f - c * c, b * c - a * e], [b * e - c * d, b * c - a * e, a * d - b * b]] [x2 * y3 - x3 * y2, x3 * y1 - x1 * y3, x1 * y2 - x2 * y1] [x2 * y3 - x3 * y2, x3 * y1 - x1 * y3, x1 * y2 - x2 * y1] := by
  have sy : btwM [[a, b, c], [b, d, e], [c, e, f]] [x1, x2, x3] [y1, y2, y3] = y1 * (a * x1 + b * x2 + c * x3) + y2 * (b * x1 + d * x2 + e * x3) + y3 * (c * x1 + e * x2 + f * x3) := by
    rw [btw3g]
    grind
  rw [show btwM [[a, b, c], [b, d, e], [c, e, f]] [x1, x2, x3] [y1, y2, y3] * btwM [[a, b, c], [b, d, e], [c, e, f]] [x1, x2, x3] [y1, y2, y3] = (x1 * (a * y1 + b * y2 + c * y3) + x2 * (b * y1 + d * y2 + e * y3) + x3 * (c * y1 + e * y2 + f * y3)) * (y1 * (a * x1 + b * x2 + c * x3) + y2 * (b * x1 + d * x2 + e * x3) + y3 * (c * x1 + e * x2 + f * x3)) by rw [← sy, ← btw3g]]
  rw [btw3, btw3, btw3, bc3, cr1, cr2, cr3]
theorem adj_e2 (a b c d e f : Int) : E2 (d * f - e * e) (c * e - b * f) (b * e - c * d) (a * f - c * c) (b * c - a * e) (a * d - b * b) = (a + d + f) * E3 a b c d e f := by unfold E2 E3; grind
theorem adj_e3 (a b c d e f : Int) : E3 (d * f - e * e) (c * e - b * f) (b * e - c * d) (a * f - c * c) (b * c - a * e) (a * d - b * b) = E3 a b c d e f * E3 a b c d e f := by unfold E3; grind
theorem gmd3 {a b c d e f : Int} (h : E3 a b c d e f = 0) : Gmd 3 [[a, b, c], [b, d, e], [c, e, f]] ↔ 0 < E2 a b c d e f := by
  constructor
  · intro ⟨xs, ys, lx, ly, g⟩
    obtain ⟨x1, x2, x3, rfl⟩ := len3 lx
    obtain ⟨y1, y2, y3, rfl⟩ := len3 ly
    rw [gram3] at g
    by_cases z : 0 < E2 a b c d e f
    · exact z
    · exfalso
      have := (nsd3 (a := d * f - e * e) (b := c * e - b * f) (c := b * e - c * d) (d := a * f - c * c) (e := b * c - a * e) (f := a * d - b * b)).mpr ⟨by unfold E2 at z; omega, by rw [adj_e2, h]; omega, by rw [adj_e3, h]; decide⟩
      have := this [x2 * y3 - x3 * y2, x3 * y1 - x1 * y3, x1 * y2 - x2 * y1] rfl
      omega
  · intro g
    have i1 : btwM [[a, b, c], [b, d, e], [c, e, f]] [1, 0, 0] [1, 0, 0] = a := by rw [btw3]; omega
    have i2 : btwM [[a, b, c], [b, d, e], [c, e, f]] [0, 1, 0] [0, 1, 0] = d := by rw [btw3]; omega
    have i3 : btwM [[a, b, c], [b, d, e], [c, e, f]] [0, 0, 1] [0, 0, 1] = f := by rw [btw3]; omega
    have j1 : btwM [[a, b, c], [b, d, e], [c, e, f]] [1, 0, 0] [0, 1, 0] = b := by rw [btw3g]; omega
    have j2 : btwM [[a, b, c], [b, d, e], [c, e, f]] [1, 0, 0] [0, 0, 1] = c := by rw [btw3g]; omega
    have j3 : btwM [[a, b, c], [b, d, e], [c, e, f]] [0, 1, 0] [0, 0, 1] = e := by rw [btw3g]; omega
    unfold E2 at g
    by_cases q1 : 0 < a * d - b * b
    · exact ⟨[1, 0, 0], [0, 1, 0], rfl, rfl, by rw [i1, i2, j1]; exact q1⟩
    · by_cases q2 : 0 < a * f - c * c
      · exact ⟨[1, 0, 0], [0, 0, 1], rfl, rfl, by rw [i1, i3, j2]; exact q2⟩
      · exact ⟨[0, 1, 0], [0, 0, 1], rfl, rfl, by rw [i2, i3, j3]; omega⟩
/-- the two facts of numbers -/
theorem f1_2 (a b c : Int) : 0 ≤ (a + c) * (a + c) - 2 * (a * c - b * b) := by
  have : (a + c) * (a + c) - 2 * (a * c - b * b) = a * a + c * c + 2 * (b * b) := by grind
  have := sq_nn a; have := sq_nn b; have := sq_nn c
  omega
theorem f1_3 (a b c d e f : Int) : (a + d + f) * (a + d + f) - 2 * E2 a b c d e f = a * a + d * d + f * f + 2 * (b * b) + 2 * (c * c) + 2 * (e * e) := by unfold E2; grind
theorem sq_z {x : Int} (h : x * x ≤ 0) : x = 0 := by
  by_cases z : x = 0
  · exact z
  · have := sq3_pos (x := x) (y := 0) (z := 0) (.inl z)
    omega
theorem f3_3 {a b c d e f : Int} (h1 : a + d + f = 0) (h2 : E2 a b c d e f = 0) : E3 a b c d e f = 0 := by
  have := f1_3 a b c d e f
  rw [h1, h2] at this
  have q1 := sq_nn a; have q2 := sq_nn b; have q3 := sq_nn c; have q4 := sq_nn d; have q5 := sq_nn e; have q6 := sq_nn f
  have a0 := sq_z (x := a) (by omega)
  have b0 := sq_z (x := b) (by omega)
  have c0 := sq_z (x := c) (by omega)
  have d0 := sq_z (x := d) (by omega)
  have e0 := sq_z (x := e) (by omega)
  have g0 := sq_z (x := f) (by omega)
  subst a0 b0 c0 d0 e0 g0
  rfl
end T22
set_option Elab.async false
set_option linter.all false
set_option maxRecDepth 100000
set_option maxHeartbeats 4000000
set_option synthInstance.maxSize 10000
set_option synthInstance.maxHeartbeats 2000000
namespace T22
open PySem PySem.Spec PyProof.Rows L2 Gd Zn Rp Dn Tb Gn En Zs Ct Op Oc Rg Rt Ro Oa
theorem sgn3 (x : Int) : x.sign = -1 ∧ x < 0 ∨ x.sign = 0 ∧ x = 0 ∨ x.sign = 1 ∧ 0 < x := by
  rcases Int.lt_trichotomy x 0 with h | h | h
  · exact .inl ⟨Int.sign_eq_neg_one_of_neg h, h⟩
  · exact .inr (.inl ⟨by rw [h]; rfl, h⟩)
  · exact .inr (.inr ⟨Int.sign_eq_one_of_pos h, h⟩)
def S3 : List Int := [-1, 0, 1]
theorem sgn_mem (x : Int) : x.sign ∈ S3 := by
  rcases sgn3 x with ⟨h, _⟩ | ⟨h, _⟩ | ⟨h, _⟩ <;> rw [h] <;> decide
theorem sgn_pos {x : Int} : 0 < x.sign ↔ 0 < x := by
  rcases sgn3 x with ⟨h, h'⟩ | ⟨h, h'⟩ | ⟨h, h'⟩ <;> rw [h] <;> constructor <;> intro <;> omega
theorem sgn_nn {x : Int} : 0 ≤ x.sign ↔ 0 ≤ x := by
  rcases sgn3 x with ⟨h, h'⟩ | ⟨h, h'⟩ | ⟨h, h'⟩ <;> rw [h] <;> constructor <;> intro <;> omega
theorem sgn_np {x : Int} : x.sign ≤ 0 ↔ x ≤ 0 := by
  rcases sgn3 x with ⟨h, h'⟩ | ⟨h, h'⟩ | ⟨h, h'⟩ <;> rw [h] <;> constructor <;> intro <;> omega
theorem sgn_z {x : Int} : x.sign = 0 ↔ x = 0 := by
  rcases sgn3 x with ⟨h, h'⟩ | ⟨h, h'⟩ | ⟨h, h'⟩ <;> rw [h] <;> constructor <;> intro <;> omega
theorem kpt_sign (l : List Int) : kpt (l.map Int.sign) = (kpt l).map Int.sign := by
  induction l with
  | nil => rfl
  | cons x l ih =>
    unfold kpt at ih ⊢
    rw [List.map_cons]
    by_cases z : x = 0
    · subst z
      rw [List.filter_cons_of_neg (by decide), List.filter_cons_of_neg (by decide), ih]
    · have z' : x.sign ≠ 0 := fun h => z (sgn_z.mp h)
      rw [List.filter_cons_of_pos (by simpa using z'), List.filter_cons_of_pos (by simpa using z), ih, List.map_cons]
theorem getD_sign (l : List Int) (i : Nat) : (l.map Int.sign).getD i 0 = (l.getD i 0).sign := by
  rw [List.getD_eq_getElem?_getD, List.getD_eq_getElem?_getD, List.getElem?_map]
  cases l[i]? <;> rfl
theorem chg_sign (l : List Int) (i : Nat) : chgT (l.map Int.sign) i = chgT l i := by
  unfold chgT
  rw [getD_sign, getD_sign, decide_eq_decide.mpr (sgn_pos (x := l.getD i 0)), decide_eq_decide.mpr (sgn_pos (x := l.getD (i + 1) 0))]
theorem sgA_sign (l : List Int) : sgA (l.map Int.sign) = sgA l := by
  unfold sgA
  rw [kpt_sign, List.length_map, show chgT ((kpt l).map Int.sign) = chgT (kpt l) from funext (chg_sign _)]
theorem isZ_sign {l : List Int} {z : Nat} : IsZ (l.map Int.sign) z ↔ IsZ l z := by
  unfold IsZ
  rw [List.length_map, getD_sign]
  constructor
  · intro ⟨a, b, c⟩
    exact ⟨a, fun h => b (sgn_z.mpr h), fun i hi => sgn_z.mp (by rw [← getD_sign]; exact c i hi)⟩
  · intro ⟨a, b, c⟩
    exact ⟨a, fun h => b (sgn_z.mp h), fun i hi => by rw [getD_sign]; exact sgn_z.mpr (c i hi)⟩
instance (l : List Int) (z : Nat) : Decidable (IsZ l z) := inferInstanceAs (Decidable (z < l.length ∧ l.getD z 0 ≠ 0 ∧ ∀ i, i < z → l.getD i 0 = 0))
def ok3 (s1 s2 s3 : Int) : Prop := (s1 = 0 → s2 ≤ 0) ∧ (s1 = 0 → s2 = 0 → s3 = 0) ∧ (s2 = 0 → ¬ (0 < s1 ∧ 0 < s3) ∧ ¬ (s1 < 0 ∧ s3 < 0))
instance (s1 s2 s3 : Int) : Decidable (ok3 s1 s2 s3) := inferInstanceAs (Decidable (_ ∧ _ ∧ _))
theorem fin3 : ∀ s3 ∈ S3, ∀ s1 ∈ S3, ∀ s2 ∈ S3, ok3 s1 s2 s3 → ∀ t1 ∈ S3, ∀ t2 ∈ S3, ok3 t1 t2 s3 → ((0 ≤ s1 ∧ 0 ≤ s2 ∧ 0 ≤ s3) ↔ (0 ≤ t1 ∧ 0 ≤ t2 ∧ 0 ≤ s3)) → ((s1 ≤ 0 ∧ 0 ≤ s2 ∧ s3 ≤ 0) ↔ (t1 ≤ 0 ∧ 0 ≤ t2 ∧ s3 ≤ 0)) → (s3 = 0 → (0 < s2 ↔ 0 < t2)) →
    sgA [-s3, s2, -s1, 1] = sgA [-s3, t2, -t1, 1] ∧ ∀ z, z < 4 → IsZ [-s3, s2, -s1, 1] z → IsZ [-s3, t2, -t1, 1] z := by decide +kernel
theorem fin2 : ∀ s2 ∈ S3, ∀ s1 ∈ S3, (s1 = 0 → s2 ≤ 0) → ∀ t1 ∈ S3, (t1 = 0 → s2 ≤ 0) → ((0 ≤ s1 ∧ 0 ≤ s2) ↔ (0 ≤ t1 ∧ 0 ≤ s2)) → ((s1 ≤ 0 ∧ 0 ≤ s2) ↔ (t1 ≤ 0 ∧ 0 ≤ s2)) →
    sgA [s2, -s1, 1] = sgA [s2, -t1, 1] ∧ ∀ z, z < 3 → IsZ [s2, -s1, 1] z → IsZ [s2, -t1, 1] z := by decide +kernel
theorem neg3f : ∀ s3 ∈ S3, ∀ s1 ∈ S3, ∀ s2 ∈ S3, ok3 s1 s2 s3 → ∀ z, z < 4 → IsZ [-s3, s2, -s1, 1] z → (sgA [s3, s2, s1, 1] : Int) = 3 - (sgA [-s3, s2, -s1, 1] : Int) - (z : Int) ∧ IsZ [s3, s2, s1, 1] z := by decide +kernel
theorem neg2f : ∀ s2 ∈ S3, ∀ s1 ∈ S3, (s1 = 0 → s2 ≤ 0) → ∀ z, z < 3 → IsZ [s2, -s1, 1] z → (sgA [s2, s1, 1] : Int) = 2 - (sgA [s2, -s1, 1] : Int) - (z : Int) ∧ IsZ [s2, s1, 1] z := by decide +kernel
theorem neg1f : ∀ s1 ∈ S3, ∀ z, z < 2 → IsZ [-s1, 1] z → (sgA [s1, 1] : Int) = 1 - (sgA [-s1, 1] : Int) - (z : Int) ∧ IsZ [s1, 1] z := by decide +kernel
theorem poly3 (a b c d e f : Int) : polyM 3 [[a, b, c], [b, d, e], [c, e, f]] = [-E3 a b c d e f, E2 a b c d e f, -(a + d + f), 1] := by
  rw [show polyM 3 [[a, b, c], [b, d, e], [c, e, f]] = [-detM 3 [[a, b, c], [b, d, e], [c, e, f]], midM [[a, b, c], [b, d, e], [c, e, f]], -trM 3 [[a, b, c], [b, d, e], [c, e, f]], 1] from rfl, ← e3det, midE, trmE3]
  have h1 : d * f - e * e + (a * f - c * c) + (a * d - b * b) = E2 a b c d e f := by unfold E2; omega
  rw [h1]
theorem ok3_of (a b c d e f : Int) : ok3 (a + d + f).sign (E2 a b c d e f).sign (E3 a b c d e f).sign := by
  refine ⟨fun h => ?_, fun h h' => ?_, fun h => ?_⟩
  · rw [sgn_z] at h
    rw [sgn_np]
    have := f1_3 a b c d e f
    rw [h] at this
    have := sq_nn a; have := sq_nn b; have := sq_nn c; have := sq_nn d; have := sq_nn e; have := sq_nn f
    omega
  · rw [sgn_z] at h h' ⊢
    exact f3_3 h h'
  · rw [sgn_z] at h
    have k := f1_3 (d * f - e * e) (c * e - b * f) (b * e - c * d) (a * f - c * c) (b * c - a * e) (a * d - b * b)
    rw [adj_e2] at k
    have h' : d * f - e * e + (a * f - c * c) + (a * d - b * b) = 0 := by unfold E2 at h; omega
    rw [h'] at k
    have q1 := sq_nn (d * f - e * e); have q2 := sq_nn (c * e - b * f); have q3 := sq_nn (b * e - c * d); have q4 := sq_nn (a * f - c * c); have q5 := sq_nn (b * c - a * e); have q6 := sq_nn (a * d - b * b)
    have le : (a + d + f) * E3 a b c d e f ≤ 0 := by omega
    rw [sgn_pos, sgn_pos]
    refine ⟨fun ⟨x, y⟩ => ?_, fun ⟨x, y⟩ => ?_⟩
    · have := Int.mul_pos x y
      omega
    · have x' : a + d + f < 0 := by
        rcases sgn3 (a + d + f) with ⟨u, v⟩ | ⟨u, v⟩ | ⟨u, v⟩
        · exact v
        · rw [u] at x; omega
        · rw [u] at x; omega
      have y' : E3 a b c d e f < 0 := by
        rcases sgn3 (E3 a b c d e f) with ⟨u, v⟩ | ⟨u, v⟩ | ⟨u, v⟩
        · exact v
        · rw [u] at y; omega
        · rw [u] at y; omega
      have := Int.mul_pos_of_neg_of_neg x' y'
      omega
theorem ok2_of (a b c : Int) : (a + c).sign = 0 → (a * c - b * b).sign ≤ 0 := fun h => by
  rw [sgn_z] at h
  rw [sgn_np]
  have := f1_2 a b c
  rw [h] at this
  omega
theorem map3 (x y z : Int) : [-x, y, -z, 1].map Int.sign = [-x.sign, y.sign, -z.sign, 1] := by simp [Int.sign_neg]
theorem map2 (x y : Int) : [x, -y, 1].map Int.sign = [x.sign, -y.sign, 1] := by simp [Int.sign_neg]
theorem map1 (x : Int) : [-x, 1].map Int.sign = [-x.sign, 1] := by simp [Int.sign_neg]
/-- signs hang on what is above, below, on the determinant's sign and on two rows together -/
theorem inert {n : Nat} {M N : List (List Int)} (h1 : 1 ≤ n) (h3 : n ≤ 3) (hM : Sh n M) (sM : transp n M = M) (hN : Sh n N) (sN : transp n N = N) (p : Psd n M ↔ Psd n N) (q : Nsd n M ↔ Nsd n N) (g : Gmd n M ↔ Gmd n N) (dd : (detM n M).sign = (detM n N).sign) :
    sgA (polyM n M) = sgA (polyM n N) ∧ ∀ z, IsZ (polyM n M) z → IsZ (polyM n N) z := by
  have : n = 1 ∨ n = 2 ∨ n = 3 := by omega
  rcases this with rfl | rfl | rfl
  · obtain ⟨a, rfl⟩ := sh1 hM rfl
    obtain ⟨b, rfl⟩ := sh1 hN rfl
    rw [det1, det1] at dd
    rw [polyE1, polyE1, ← sgA_sign, ← sgA_sign [-b, 1], map1, map1, dd]
    refine ⟨rfl, fun z hz => ?_⟩
    rw [← isZ_sign, map1] at hz ⊢
    rw [← dd]
    exact hz
  · obtain ⟨a, b, c, rfl⟩ := sy2 hM sM
    obtain ⟨a', b', c', rfl⟩ := sy2 hN sN
    rw [psd2, psd2, ← sgn_nn, ← sgn_nn (x := a * c - b * b), ← sgn_nn (x := a' + c'), ← sgn_nn (x := a' * c' - b' * b')] at p
    rw [nsd2, nsd2, ← sgn_np, ← sgn_nn (x := a * c - b * b), ← sgn_np (x := a' + c'), ← sgn_nn (x := a' * c' - b' * b')] at q
    rw [det2, det2] at dd
    rw [← dd] at p q
    have F := fin2 _ (sgn_mem (a * c - b * b)) _ (sgn_mem (a + c)) (ok2_of a b c) _ (sgn_mem (a' + c')) (by rw [dd]; exact ok2_of a' b' c') p q
    rw [polyE2, polyE2, ← sgA_sign, ← sgA_sign [a' * c' - b' * b', -(a' + c'), 1], map2, map2, ← dd]
    refine ⟨F.1, fun z hz => ?_⟩
    rw [← isZ_sign, map2] at hz ⊢
    rw [← dd]
    exact F.2 z hz.1 hz
  · obtain ⟨a, b, c, d, e, f, rfl⟩ := sy3 hM sM
    obtain ⟨a', b', c', d', e', f', rfl⟩ := sy3 hN sN
    rw [← e3det, ← e3det] at dd
    have gg : (E3 a b c d e f).sign = 0 → (0 < (E2 a b c d e f).sign ↔ 0 < (E2 a' b' c' d' e' f').sign) := fun h => by
      have h' := h
      rw [dd] at h'
      rw [sgn_z] at h h'
      rw [sgn_pos, sgn_pos, ← gmd3 h, ← gmd3 h']
      exact g
    rw [psd3, psd3, ← sgn_nn, ← sgn_nn (x := E2 a b c d e f), ← sgn_nn (x := E3 a b c d e f), ← sgn_nn (x := a' + d' + f'), ← sgn_nn (x := E2 a' b' c' d' e' f'), ← sgn_nn (x := E3 a' b' c' d' e' f')] at p
    rw [nsd3, nsd3, ← sgn_np, ← sgn_nn (x := E2 a b c d e f), ← sgn_np (x := E3 a b c d e f), ← sgn_np (x := a' + d' + f'), ← sgn_nn (x := E2 a' b' c' d' e' f'), ← sgn_np (x := E3 a' b' c' d' e' f')] at q
    have o' := ok3_of a' b' c' d' e' f'
    rw [← dd] at p q o'
    have F := fin3 _ (sgn_mem (E3 a b c d e f)) _ (sgn_mem (a + d + f)) _ (sgn_mem (E2 a b c d e f)) (ok3_of a b c d e f) _ (sgn_mem (a' + d' + f')) _ (sgn_mem (E2 a' b' c' d' e' f')) o' p q gg
    rw [poly3, poly3, ← sgA_sign, ← sgA_sign [-E3 a' b' c' d' e' f', E2 a' b' c' d' e' f', -(a' + d' + f'), 1], map3, map3, ← dd]
    refine ⟨F.1, fun z hz => ?_⟩
    rw [← isZ_sign, map3] at hz ⊢
    rw [← dd]
    exact F.2 z hz.1 hz
end T22
set_option Elab.async false
set_option linter.all false
set_option maxRecDepth 100000
set_option maxHeartbeats 4000000
set_option synthInstance.maxSize 10000
set_option synthInstance.maxHeartbeats 2000000
namespace T22
open PySem PySem.Spec PyProof.Rows L2 Gd Zn Rp Dn Tb Gn En Zs Ct Op Oc Rg Rt Ro Oa
theorem back {n : Nat} {P : List (List Int)} {xs : List Int} (h1 : 1 ≤ n) (h3 : n ≤ 3) (hP : Sh n P) (hx : xs.length = n) : ∃ ys : List Int, ys.length = n ∧ ledM P ys = xs.map (detM n P * ·) := by
  have : n = 1 ∨ n = 2 ∨ n = 3 := by omega
  rcases this with rfl | rfl | rfl
  · obtain ⟨p, rfl⟩ := sh1 hP rfl
    obtain ⟨x, rfl⟩ := len1 hx
    exact ⟨[x], rfl, by rw [det1]; simp [ledM, dot]⟩
  · obtain ⟨p, q, r, s, rfl⟩ := sh2 hP rfl
    obtain ⟨x, y, rfl⟩ := len2 hx
    refine ⟨[s * x - q * y, p * y - r * x], rfl, ?_⟩
    rw [det2]
    simp [ledM, dot]
    constructor <;> grind
  · obtain ⟨a, b, c, d, e, f, g, h, i, rfl⟩ := sh3 hP rfl
    obtain ⟨x, y, z, rfl⟩ := len3 hx
    refine ⟨[(e * i - f * h) * x + (c * h - b * i) * y + (b * f - c * e) * z, (f * g - d * i) * x + (a * i - c * g) * y + (c * d - a * f) * z, (d * h - e * g) * x + (b * g - a * h) * y + (a * e - b * d) * z], rfl, ?_⟩
    rw [det3]
    simp [ledM, dot]
    refine ⟨?_, ?_, ?_⟩ <;> grind
theorem btw_mul2 {n : Nat} {M : List (List Int)} {c : Int} {xs ys : List Int} (h1 : 1 ≤ n) (h3 : n ≤ 3) (hM : Sh n M) (hx : xs.length = n) (hy : ys.length = n) : btwM M (xs.map (c * ·)) (ys.map (c * ·)) = c * c * btwM M xs ys := by
  have : n = 1 ∨ n = 2 ∨ n = 3 := by omega
  rcases this with rfl | rfl | rfl
  · obtain ⟨a, rfl⟩ := sh1 hM rfl
    obtain ⟨x, rfl⟩ := len1 hx
    obtain ⟨y, rfl⟩ := len1 hy
    simp [btwM, ledM, dot]
    grind
  · obtain ⟨a, b, d, e, rfl⟩ := sh2 hM rfl
    obtain ⟨x, x', rfl⟩ := len2 hx
    obtain ⟨y, y', rfl⟩ := len2 hy
    simp [btwM, ledM, dot]
    grind
  · obtain ⟨a, b, d, e, f, g, h, i, j, rfl⟩ := sh3 hM rfl
    obtain ⟨x, x', x'', rfl⟩ := len3 hx
    obtain ⟨y, y', y'', rfl⟩ := len3 hy
    simp [btwM, ledM, dot]
    grind
theorem sq_p {x : Int} (h : x ≠ 0) : 0 < x * x := by
  have := sq_nn x
  by_cases z : x * x ≤ 0
  · exact absurd (sq_z z) h
  · omega
theorem nn_cut {c w : Int} (hc : 0 < c) (h : 0 ≤ c * w) : 0 ≤ w := by
  by_cases z : 0 ≤ w
  · exact z
  · have := Int.mul_neg_of_pos_of_neg hc (by omega : w < 0)
    omega
section
variable {n : Nat} {M P : List (List Int)}
theorem psd_led (h1 : 1 ≤ n) (h3 : n ≤ 3) (hM : Sh n M) (hP : Sh n P) (hd : detM n P ≠ 0) : Psd n M ↔ Psd n (ldM n M P) := by
  constructor
  · intro h xs hx
    rw [btw_led h1 h3 hM hP hx hx]
    exact h _ (by rw [led_len, hP.len])
  · intro h xs hx
    obtain ⟨ys, ly, e⟩ := back h1 h3 hP hx
    have := h ys ly
    rw [btw_led h1 h3 hM hP ly ly, e, btw_mul2 h1 h3 hM hx hx] at this
    exact nn_cut (sq_p hd) this
theorem nsd_led (h1 : 1 ≤ n) (h3 : n ≤ 3) (hM : Sh n M) (hP : Sh n P) (hd : detM n P ≠ 0) : Nsd n M ↔ Nsd n (ldM n M P) := by
  constructor
  · intro h xs hx
    rw [btw_led h1 h3 hM hP hx hx]
    exact h _ (by rw [led_len, hP.len])
  · intro h xs hx
    obtain ⟨ys, ly, e⟩ := back h1 h3 hP hx
    have := h ys ly
    rw [btw_led h1 h3 hM hP ly ly, e, btw_mul2 h1 h3 hM hx hx] at this
    have := nn_cut (c := detM n P * detM n P) (w := -btwM M xs xs) (sq_p hd) (by rw [Int.mul_neg]; omega)
    omega
theorem gmd_led (h1 : 1 ≤ n) (h3 : n ≤ 3) (hM : Sh n M) (hP : Sh n P) (hd : detM n P ≠ 0) : Gmd n M ↔ Gmd n (ldM n M P) := by
  constructor
  · intro ⟨xs, zs, hx, hz, g⟩
    obtain ⟨ys, ly, e⟩ := back h1 h3 hP hx
    obtain ⟨us, lu, e'⟩ := back h1 h3 hP hz
    refine ⟨ys, us, ly, lu, ?_⟩
    rw [btw_led h1 h3 hM hP ly ly, btw_led h1 h3 hM hP lu lu, btw_led h1 h3 hM hP ly lu, e, e', btw_mul2 h1 h3 hM hx hx, btw_mul2 h1 h3 hM hz hz, btw_mul2 h1 h3 hM hx hz]
    have p := sq_p hd
    generalize detM n P * detM n P = t at p
    have : t * btwM M xs xs * (t * btwM M zs zs) - t * btwM M xs zs * (t * btwM M xs zs) = t * t * (btwM M xs xs * btwM M zs zs - btwM M xs zs * btwM M xs zs) := by grind
    rw [this]
    exact Int.mul_pos (Int.mul_pos p p) g
  · intro ⟨xs, zs, hx, hz, g⟩
    rw [btw_led h1 h3 hM hP hx hx, btw_led h1 h3 hM hP hz hz, btw_led h1 h3 hM hP hx hz] at g
    exact ⟨_, _, by rw [led_len, hP.len], by rw [led_len, hP.len], g⟩
theorem detS_led (h1 : 1 ≤ n) (h3 : n ≤ 3) (hM : Sh n M) (hP : Sh n P) (hd : detM n P ≠ 0) : (detM n M).sign = (detM n (ldM n M P)).sign := by
  unfold ldM
  have tP := tr_sh hP h1 h3
  rw [mul_detS h1 h3 (mul_sh h1 h3 tP hM) hP, mul_detS h1 h3 tP hM, det_tr h1 h3 hP, Int.sign_mul, Int.sign_mul]
  rcases sgn3 (detM n P) with ⟨u, _⟩ | ⟨_, v⟩ | ⟨u, _⟩
  · rw [u]; omega
  · exact absurd v hd
  · rw [u]; omega
/-- signs of a led form -/
theorem sg_led (h1 : 1 ≤ n) (h3 : n ≤ 3) (hM : Sh n M) (sM : transp n M = M) (hP : Sh n P) (hd : detM n P ≠ 0) (hL : Sh n (ldM n M P)) : sgA (polyM n (ldM n M P)) = sgA (polyM n M) ∧ ∀ z, IsZ (polyM n (ldM n M P)) z → IsZ (polyM n M) z :=
  inert h1 h3 hL (ld_sy h1 h3 hM hP sM) hM sM (psd_led h1 h3 hM hP hd).symm (nsd_led h1 h3 hM hP hd).symm (gmd_led h1 h3 hM hP hd).symm (detS_led h1 h3 hM hP hd).symm
end
theorem isz_uniq {l : List Int} {z z' : Nat} (h : IsZ l z) (h' : IsZ l z') : z = z' := by
  obtain ⟨_, b, c⟩ := h
  obtain ⟨_, b', c'⟩ := h'
  rcases Nat.lt_trichotomy z z' with q | q | q
  · exact absurd (c' z q) b
  · exact q
  · exact absurd (c z' q) b'
theorem sg_neg {n z : Nat} {M : List (List Int)} {c : Int} (h1 : 1 ≤ n) (h3 : n ≤ 3) (hM : Sh n M) (sM : transp n M = M) (hc : c < 0) (hz : IsZ (polyM n M) z) : (sgA (polyM n (mulI c M)) : Int) = (n : Int) - sgA (polyM n M) - z ∧ IsZ (polyM n (mulI c M)) z := by
  have sc : c.sign = -1 := Int.sign_eq_neg_one_of_neg hc
  have : n = 1 ∨ n = 2 ∨ n = 3 := by omega
  rcases this with rfl | rfl | rfl
  · obtain ⟨a, rfl⟩ := sh1 hM rfl
    rw [show mulI c [[a]] = [[c * a]] from rfl]
    rw [polyE1] at hz ⊢
    rw [polyE1, ← sgA_sign, ← sgA_sign [-a, 1], ← isZ_sign (l := [-(c * a), 1])]
    rw [← isZ_sign] at hz
    rw [map1] at hz ⊢
    rw [map1, Int.sign_mul, sc]
    have F := neg1f _ (sgn_mem a) z hz.1 hz
    rw [show -(-1 * a.sign) = a.sign by omega]
    exact F
  · obtain ⟨a, b, d, rfl⟩ := sy2 hM sM
    rw [show mulI c [[a, b], [b, d]] = [[c * a, c * b], [c * b, c * d]] from rfl]
    rw [polyE2] at hz ⊢
    have e1 : c * a + c * d = c * (a + d) := by grind
    have e2 : c * a * (c * d) - c * b * (c * b) = c * c * (a * d - b * b) := by grind
    rw [polyE2, e1, e2, ← sgA_sign, ← sgA_sign [a * d - b * b, -(a + d), 1], ← isZ_sign (l := [c * c * (a * d - b * b), -(c * (a + d)), 1])]
    rw [← isZ_sign] at hz
    rw [map2] at hz ⊢
    rw [map2, Int.sign_mul, Int.sign_mul, Int.sign_mul, sc]
    have F := neg2f _ (sgn_mem (a * d - b * b)) _ (sgn_mem (a + d)) (ok2_of a b d) z hz.1 hz
    rw [show -(-1 * (a + d).sign) = (a + d).sign by omega, show (-1 : Int) * -1 * (a * d - b * b).sign = (a * d - b * b).sign by omega]
    exact F
  · obtain ⟨a, b, d, e, f, g, rfl⟩ := sy3 hM sM
    rw [show mulI c [[a, b, d], [b, e, f], [d, f, g]] = [[c * a, c * b, c * d], [c * b, c * e, c * f], [c * d, c * f, c * g]] from rfl]
    rw [poly3] at hz ⊢
    have e1 : c * a + c * e + c * g = c * (a + e + g) := by grind
    have e2 : E2 (c * a) (c * b) (c * d) (c * e) (c * f) (c * g) = c * c * E2 a b d e f g := by unfold E2; grind
    have e3 : E3 (c * a) (c * b) (c * d) (c * e) (c * f) (c * g) = c * (c * c) * E3 a b d e f g := by unfold E3; grind
    rw [poly3, e1, e2, e3, ← sgA_sign, ← sgA_sign [-E3 a b d e f g, E2 a b d e f g, -(a + e + g), 1], ← isZ_sign (l := [-(c * (c * c) * E3 a b d e f g), c * c * E2 a b d e f g, -(c * (a + e + g)), 1])]
    rw [← isZ_sign] at hz
    rw [map3] at hz ⊢
    rw [map3]
    simp only [Int.sign_mul, sc]
    have F := neg3f _ (sgn_mem (E3 a b d e f g)) _ (sgn_mem (a + e + g)) _ (sgn_mem (E2 a b d e f g)) (ok3_of a b d e f g) z hz.1 hz
    rw [show -(-1 * (a + e + g).sign) = (a + e + g).sign by omega, show (-1 : Int) * -1 * (E2 a b d e f g).sign = (E2 a b d e f g).sign by omega, show -(-1 * (-1 * -1) * (E3 a b d e f g).sign) = (E3 a b d e f g).sign by omega]
    exact F
def H6 : List Int := [1, 2, -1, -3, 0, 6]
def posC (hs : List Int) : Nat := (hs.filter fun x => decide (0 < x)).length
def nulC (hs : List Int) : Nat := (hs.filter fun x => decide (x = 0)).length
def negC (hs : List Int) : Nat := (hs.filter fun x => decide (x < 0)).length
theorem dg1 : ∀ a ∈ H6, sgA [-a, 1] = posC [a] ∧ IsZ [-a, 1] (nulC [a]) := by decide +kernel
theorem dg2 : ∀ a ∈ H6, ∀ b ∈ H6, sgA [a * b - 0 * 0, -(a + b), 1] = posC [a, b] ∧ IsZ [a * b - 0 * 0, -(a + b), 1] (nulC [a, b]) := by decide +kernel
theorem dg3 : ∀ a ∈ H6, ∀ b ∈ H6, ∀ c ∈ H6, sgA [-E3 a 0 0 b 0 c, E2 a 0 0 b 0 c, -(a + b + c), 1] = posC [a, b, c] ∧ IsZ [-E3 a 0 0 b 0 c, E2 a 0 0 b 0 c, -(a + b + c), 1] (nulC [a, b, c]) := by decide +kernel
theorem dg {n : Nat} {hs : List Int} (h1 : 1 ≤ n) (h3 : n ≤ 3) (l : hs.length = n) (h : ∀ x ∈ hs, x ∈ H6) : sgA (polyM n (diagM n hs)) = posC hs ∧ IsZ (polyM n (diagM n hs)) (nulC hs) := by
  have : n = 1 ∨ n = 2 ∨ n = 3 := by omega
  rcases this with rfl | rfl | rfl
  · obtain ⟨a, rfl⟩ := len1 l
    rw [show diagM 1 [a] = [[a]] from rfl, polyE1]
    exact dg1 a (h a (by simp))
  · obtain ⟨a, b, rfl⟩ := len2 l
    rw [show diagM 2 [a, b] = [[a, 0], [0, b]] from rfl, polyE2]
    exact dg2 a (h a (by simp)) b (h b (by simp))
  · obtain ⟨a, b, c, rfl⟩ := len3 l
    rw [show diagM 3 [a, b, c] = [[a, 0, 0], [0, b, 0], [0, 0, c]] from rfl, poly3]
    exact dg3 a (h a (by simp)) b (h b (by simp)) c (h c (by simp))
theorem cnt3 (hs : List Int) : posC hs + negC hs + nulC hs = hs.length := by
  unfold posC negC nulC
  induction hs with
  | nil => rfl
  | cons x l ih =>
    rcases Int.lt_trichotomy x 0 with h | h | h
    · rw [List.filter_cons_of_neg (by simp; omega), List.filter_cons_of_pos (by simp; omega), List.filter_cons_of_neg (by simp; omega)]
      simp only [List.length_cons]
      omega
    · rw [List.filter_cons_of_neg (by simp; omega), List.filter_cons_of_neg (by simp; omega), List.filter_cons_of_pos (by simp; omega)]
      simp only [List.length_cons]
      omega
    · rw [List.filter_cons_of_pos (by simp; omega), List.filter_cons_of_neg (by simp; omega), List.filter_cons_of_neg (by simp; omega)]
      simp only [List.length_cons]
      omega
end T22
set_option Elab.async false
set_option linter.all false
set_option maxRecDepth 100000
set_option maxHeartbeats 4000000
namespace T22
open PySem PySem.Spec PyProof.Rows L2 Gd Zn Rp Dn Tb Gn En Zs Ct Op Oc Rg Rt Ro Oa
def gL (l : List Int) (g : Nat) : Nat := l.foldl (fun g x => Nat.gcd g x.natAbs) g
def dvM (M : List (List Int)) : Nat := gL M.flatten 0
theorem gL_app (l r : List Int) (g : Nat) : gL (l ++ r) g = gL r (gL l g) := by unfold gL; rw [List.foldl_append]
theorem gL_snoc (l : List Int) (x : Int) (g : Nat) : gL (l ++ [x]) g = Nat.gcd (gL l g) x.natAbs := by rw [gL_app]; rfl
theorem gL_dvd (l : List Int) (g k : Nat) : k ∣ gL l g ↔ k ∣ g ∧ ∀ x ∈ l, (k : Int) ∣ x := by
  induction l generalizing g with
  | nil => exact ⟨fun h => ⟨h, fun x hx => by cases hx⟩, fun h => h.1⟩
  | cons y l ih =>
    rw [show gL (y :: l) g = gL l (Nat.gcd g y.natAbs) from rfl, ih, Nat.dvd_gcd_iff, ← Int.ofNat_dvd_left]
    constructor
    · intro ⟨⟨a, b⟩, c⟩
      refine ⟨a, fun x hx => ?_⟩
      rcases List.mem_cons.mp hx with rfl | hx
      · exact b
      · exact c x hx
    · intro ⟨a, c⟩
      exact ⟨⟨a, c y List.mem_cons_self⟩, fun x hx => c x (List.mem_cons_of_mem _ hx)⟩
def Alld (k : Nat) (M : List (List Int)) : Prop := ∀ r ∈ M, ∀ x ∈ r, (k : Int) ∣ x
theorem dv_dvd {M : List (List Int)} {k : Nat} : k ∣ dvM M ↔ Alld k M := by
  unfold dvM Alld
  rw [gL_dvd]
  constructor
  · intro ⟨_, h⟩ r hr x hx
    exact h x (List.mem_flatten.mpr ⟨r, hr, hx⟩)
  · intro h
    refine ⟨Nat.dvd_zero k, fun x hx => ?_⟩
    obtain ⟨r, hr, hx⟩ := List.mem_flatten.mp hx
    exact h r hr x hx
theorem dvd_dotL {k : Int} {r : List Int} (h : ∀ x ∈ r, k ∣ x) : ∀ ys : List Int, k ∣ dot r ys := by
  induction r with
  | nil => intro ys; exact Int.dvd_zero k
  | cons x r ih =>
    intro ys
    cases ys with
    | nil => exact Int.dvd_zero k
    | cons y ys =>
      show k ∣ ((((x, y) :: r.zip ys).map fun p => p.1 * p.2).sum)
      rw [List.map_cons, List.sum_cons]
      exact Int.dvd_add (Int.dvd_mul_of_dvd_left (h x List.mem_cons_self)) (ih (fun z hz => h z (List.mem_cons_of_mem _ hz)) ys)
theorem dvd_dotR {k : Int} {r : List Int} (h : ∀ x ∈ r, k ∣ x) : ∀ ys : List Int, k ∣ dot ys r := by
  induction r with
  | nil => intro ys; cases ys <;> exact Int.dvd_zero k
  | cons x r ih =>
    intro ys
    cases ys with
    | nil => exact Int.dvd_zero k
    | cons y ys =>
      show k ∣ ((((y, x) :: ys.zip r).map fun p => p.1 * p.2).sum)
      rw [List.map_cons, List.sum_cons]
      exact Int.dvd_add (Int.dvd_mul_of_dvd_right (h x List.mem_cons_self)) (ih (fun z hz => h z (List.mem_cons_of_mem _ hz)) ys)
theorem alld_btw {n k : Nat} {M : List (List Int)} (h1 : 1 ≤ n) (h3 : n ≤ 3) (hM : Sh n M) : Alld k M ↔ ∀ xs ys : List Int, xs.length = n → ys.length = n → (k : Int) ∣ btwM M xs ys := by
  constructor
  · intro h xs ys _ _
    unfold btwM
    refine dvd_dotR (fun x hx => ?_) xs
    unfold ledM at hx
    obtain ⟨r, hr, rfl⟩ := List.mem_map.mp hx
    exact dvd_dotL (h r hr) ys
  · intro h r hr x hx
    have : n = 1 ∨ n = 2 ∨ n = 3 := by omega
    rcases this with rfl | rfl | rfl
    · obtain ⟨a, rfl⟩ := sh1 hM rfl
      have q := h [1] [1] rfl rfl
      simp [btwM, ledM, dot] at q
      simp at hr
      subst hr
      simp at hx
      subst hx
      exact q
    · obtain ⟨a, b, c, d, rfl⟩ := sh2 hM rfl
      have q1 := h [1, 0] [1, 0] rfl rfl
      have q2 := h [1, 0] [0, 1] rfl rfl
      have q3 := h [0, 1] [1, 0] rfl rfl
      have q4 := h [0, 1] [0, 1] rfl rfl
      simp [btwM, ledM, dot] at q1 q2 q3 q4
      simp at hr
      rcases hr with rfl | rfl <;> simp at hx <;> rcases hx with rfl | rfl <;> assumption
    · obtain ⟨a, b, c, d, e, f, g, i, j, rfl⟩ := sh3 hM rfl
      have q1 := h [1, 0, 0] [1, 0, 0] rfl rfl
      have q2 := h [1, 0, 0] [0, 1, 0] rfl rfl
      have q3 := h [1, 0, 0] [0, 0, 1] rfl rfl
      have q4 := h [0, 1, 0] [1, 0, 0] rfl rfl
      have q5 := h [0, 1, 0] [0, 1, 0] rfl rfl
      have q6 := h [0, 1, 0] [0, 0, 1] rfl rfl
      have q7 := h [0, 0, 1] [1, 0, 0] rfl rfl
      have q8 := h [0, 0, 1] [0, 1, 0] rfl rfl
      have q9 := h [0, 0, 1] [0, 0, 1] rfl rfl
      simp [btwM, ledM, dot] at q1 q2 q3 q4 q5 q6 q7 q8 q9
      simp at hr
      rcases hr with rfl | rfl | rfl <;> simp at hx <;> rcases hx with rfl | rfl | rfl <;> assumption
theorem dv_led {n : Nat} {M U : List (List Int)} (hM : Sh n M) (g : Gr n U) (hL : Sh n (ldM n M U)) : dvM (ldM n M U) = dvM M := by
  have key : ∀ k : Nat, Alld k (ldM n M U) ↔ Alld k M := fun k => by
    rw [alld_btw g.h1 g.h3 hL, alld_btw g.h1 g.h3 hM]
    constructor
    · intro h xs ys hx hy
      obtain ⟨us, lu, e⟩ := back g.h1 g.h3 g.sh hx
      obtain ⟨vs, lv, e'⟩ := back g.h1 g.h3 g.sh hy
      have := h us vs lu lv
      rw [btw_led g.h1 g.h3 hM g.sh lu lv, e, e', btw_mul2 g.h1 g.h3 hM hx hy] at this
      rcases g.d with d | d <;> rw [d] at this <;> simpa using this
    · intro h xs ys hx hy
      rw [btw_led g.h1 g.h3 hM g.sh hx hy]
      exact h _ _ (by rw [led_len, g.sh.len]) (by rw [led_len, g.sh.len])
  exact Nat.dvd_antisymm (dv_dvd.mpr ((key _).mp (dv_dvd.mp (Nat.dvd_refl _)))) (dv_dvd.mpr ((key _).mpr (dv_dvd.mp (Nat.dvd_refl _))))
theorem gL_mul (c : Int) (l : List Int) (g : Nat) : gL (l.map (c * ·)) (c.natAbs * g) = c.natAbs * gL l g := by
  induction l generalizing g with
  | nil => rfl
  | cons x l ih =>
    rw [List.map_cons]
    show gL (l.map (c * ·)) (Nat.gcd (c.natAbs * g) (c * x).natAbs) = c.natAbs * gL l (Nat.gcd g x.natAbs)
    rw [Int.natAbs_mul, Nat.gcd_mul_left, ih]
theorem dv_mul (c : Int) (M : List (List Int)) : dvM (mulI c M) = c.natAbs * dvM M := by
  unfold dvM mulI
  have e : (M.map fun r => r.map fun x => c * x).flatten = M.flatten.map (c * ·) := by
    rw [List.map_flatten]
  rw [e]
  exact gL_mul c M.flatten 0
/-- the form less its divisor -/
def snM (M : List (List Int)) (g : Int) : List (List Int) := M.map fun r => r.map fun x => x / g
theorem sg_mul {M : List (List Int)} (h : 0 < dvM M) : mulI (dvM M : Int) (snM M (dvM M : Int)) = M := by
  have a := dv_dvd.mp (Nat.dvd_refl (dvM M))
  unfold mulI snM
  rw [List.map_map]
  refine (List.map_congr_left fun r hr => ?_).trans (List.map_id _)
  show (r.map fun x => x / (dvM M : Int)).map (fun x => (dvM M : Int) * x) = r
  rw [List.map_map]
  refine (List.map_congr_left fun x hx => ?_).trans (List.map_id _)
  exact Int.mul_ediv_cancel' (a r hr x hx)
theorem sg_one {M : List (List Int)} (h : 0 < dvM M) : dvM (snM M (dvM M : Int)) = 1 := by
  have e := congrArg dvM (sg_mul h)
  rw [dv_mul, Int.natAbs_natCast] at e
  exact Nat.eq_of_mul_eq_mul_left h (by rw [e, Nat.mul_one])
theorem sg_sh {n : Nat} {M : List (List Int)} {g : Int} (hM : Sh n M) : Sh n (snM M g) := by
  refine ⟨by unfold snM; rw [List.length_map, hM.len], fun r hr => ?_⟩
  unfold snM at hr
  obtain ⟨a, h, rfl⟩ := List.mem_map.mp hr
  rw [List.length_map]
  exact hM.row a h
theorem sg_sy {n : Nat} {M : List (List Int)} {g : Int} (h1 : 1 ≤ n) (h3 : n ≤ 3) (hM : Sh n M) (e : transp n M = M) : transp n (snM M g) = snM M g := by
  have : n = 1 ∨ n = 2 ∨ n = 3 := by omega
  rcases this with rfl | rfl | rfl
  · obtain ⟨a, rfl⟩ := sh1 hM rfl
    rfl
  · obtain ⟨a, b, c, rfl⟩ := sy2 hM e
    rfl
  · obtain ⟨a, b, c, d, e, f, rfl⟩ := sy3 hM e
    rfl
theorem sg_bits {n b : Nat} {M : List (List Int)} (h : SqE n b M) (hd : 0 < dvM M) : SqE n b (snM M (dvM M : Int)) := by
  have s := sg_sh (g := (dvM M : Int)) h.sh
  refine ⟨s.len, s.row, fun r hr x hx => ?_⟩
  have a := dv_dvd.mp (Nat.dvd_refl (dvM M))
  unfold snM at hr
  obtain ⟨r0, h0, rfl⟩ := List.mem_map.mp hr
  obtain ⟨y, hy, rfl⟩ := List.mem_map.mp hx
  have e := Int.mul_ediv_cancel' (a r0 h0 y hy)
  have b0 := h.bd r0 h0 y hy
  rw [← e, Int.natAbs_mul, Int.natAbs_natCast] at b0
  exact Nat.lt_of_le_of_lt (Nat.le_mul_of_pos_left _ hd) b0
theorem dv_le {n b : Nat} {M : List (List Int)} (h : SqE n b M) : dvM M < 2 ^ b := by
  by_cases z : dvM M = 0
  · rw [z]; exact Nat.pow_pos (by decide)
  · have a := dv_dvd.mp (Nat.dvd_refl (dvM M))
    by_cases q : ∃ r ∈ M, ∃ x ∈ r, x ≠ 0
    · obtain ⟨r, hr, x, hx, nx⟩ := q
      have d := a r hr x hx
      have := Int.le_of_dvd (b := (x.natAbs : Int)) (by omega) (Int.dvd_natAbs.mpr d)
      have := h.bd r hr x hx
      omega
    · exfalso
      have : 2 * dvM M ∣ dvM M := dv_dvd.mpr fun r hr x hx => by
        have : x = 0 := Decidable.byContradiction fun k => q ⟨r, hr, x, hx, k⟩
        rw [this]
        exact Int.dvd_zero _
      have := Nat.le_of_dvd (by omega) this
      omega
theorem dv_zero {M : List (List Int)} (h : dvM M = 0) : ∀ r ∈ M, ∀ x ∈ r, x = 0 := fun r hr x hx => by
  have a := dv_dvd.mp (Nat.dvd_refl (dvM M)) r hr x hx
  rw [h] at a
  exact Int.zero_dvd.mp a
end T22
set_option Elab.async false
set_option linter.all false
set_option maxRecDepth 100000
set_option maxHeartbeats 4000000
namespace T22
open PySem PySem.Spec PyProof.Rows L2 Gd Zn Rp Dn Tb Gn En Zs Ct Op Oc Rg Rt Ro Oa
theorem take_flat {M : List (List Int)} {i : Nat} {r : List Int} (e : M[i]? = some r) : (M.take (i + 1)).flatten = (M.take i).flatten ++ r := by
  rw [List.take_add_one, e, List.flatten_append]
  simp
theorem gL_at {l : List Int} {i : Nat} {x : Int} {g : Nat} (e : l[i]? = some x) : gL (l.take (i + 1)) g = Nat.gcd (gL (l.take i) g) x.natAbs := by
  rw [List.take_add_one, e]
  exact gL_snoc _ _ _
def snX (M : List (List Int)) : List (List Int) := if dvM M = 0 then M else snM M (dvM M : Int)
section
variable {P : Program} {w : World} {K : PySem.W.Frag} {mg : Str → Option Value} {base : Heap} {C : Addr}
def sp_dv (C : Addr) : Sp := fun vs H Q _ => ∃ v M, ∃ n b : Nat, vs = [v] ∧ Fv C H v n b M ∧ ∀ H', Same H H' → Q (.int (dvM M : Int)) H'
abbrev N_dv : List Str := ["self", "told", "row", "number"]
theorem sc_dv : FnScope N_dv ["self"] (defScope (st_F 11)) := ⟨rfl, rfl, rfl, by decide +kernel, rfl, by decide +kernel, by decide +kernel⟩
theorem ok_dv {f : Addr} {fd : FuncData} (F : Fun K "divisor" "Form.divisor" (st_F 11) f fd) (hg : mg "gcd" = some (.builtin "math.gcd")) (Fc : Fcl K mg C) : FnOk P w K mg base CX0 1 f fd ["self"] (sp_dv C) := by
  refine F.ok sc_dv (fun vs H Q E h => ?_) (fun cdv A outer s H vs Q E hr h => ?_)
  · obtain ⟨v, M, n, b, rfl, _⟩ := h
    rfl
  · obtain ⟨v, M, n, b, rfl, hv, q⟩ := h
    refine ⟨_, pss_cons (ps_set (i := 1) sc_dv.nd rfl (Or.inl rfl) pe_int)
      (pss_cons (ps_for PassesOwn.never rfl (pi_seq (pe_fld (pv 0) rfl)) (pg_name (i := 2) sc_dv.nd rfl (Or.inl rfl))
        (pss_one (ps_for PassesOwn.never rfl (pi_seq (pv 2)) (pg_name (i := 3) sc_dv.nd rfl (Or.inl rfl))
          (pss_one (ps_set (i := 1) sc_dv.nd rfl (Or.inl rfl) (pe_callV cr_gcd (by rfl) hg (pa_cons (pv 1) (pa_cons (pv 3) pa_nil))))))))
      (pss_one (ps_ret (pv 1)))), ?_⟩
    obtain ⟨p, dx, r, rfl, hp, hM⟩ := id hv.tab
    obtain ⟨a, vx, rfl, ha, hR⟩ := id hM
    have lx : vx.length = n := by rw [hR.len]; exact hv.bd.len
    have qx : SqV K H true a vx := .inl (.inl ha)
    refine r_seq (r_asg (r_next (r_nseq (r_forS ?_))))
    refine ⟨_, rfl, p, C, dx, _, _, rfl, hp, Fc.cl, Fc.nR, fldsT_rows _, true, a, vx, rfl, qx, ?_⟩
    refine for_by n (fun i σ H' => ∃ x2 x3, σ = [some (.ref p), some (.int (gL (M.take i).flatten 0 : Nat)), x2, x3] ∧ H' = H) ⟨_, _, rfl, rfl⟩ (fun i σ H' hi hP => ?_) (fun σ H' hP => ?_) (fun i x σ Ha Hb hi hP hy => ?_) (fun σ H' hP => ?_)
    · obtain ⟨_, _, _, rfl⟩ := hP
      exact its_go qx (List.getElem?_eq_getElem (by omega))
    · obtain ⟨_, _, _, rfl⟩ := hP
      exact its_stop qx (by omega)
    · obtain ⟨x2, x3, rfl, rfl⟩ := hP
      obtain ⟨rfl, ex⟩ := its_yld hy qx
      obtain ⟨rm, em, c', rfl, hc⟩ := hR.get ex
      have lm := hv.bd.row rm (List.mem_of_getElem? em)
      have q1 : SqV K Hb true c' (rm.map V.int) := .inl (.inl hc)
      refine g_nm (r_forS ⟨_, rfl, true, c', _, rfl, q1, ?_⟩)
      refine for_by n (fun j σ H' => ∃ x3, σ = [some (.ref p), some (.int (gL ((M.take i).flatten ++ rm.take j) 0 : Nat)), some (.ref c'), x3] ∧ H' = Hb) ⟨x3, ?_, rfl⟩ (fun j σ H' hj hP => ?_) (fun σ H' hP => ?_) (fun j x σ Hc Hd hj hP hy2 => ?_) (fun σ H' hP => ?_)
      · rw [List.take_zero, List.append_nil]
        rfl
      · obtain ⟨_, _, rfl⟩ := hP
        exact its_go q1 (List.getElem?_eq_getElem (by rw [List.length_map]; omega))
      · obtain ⟨_, _, rfl⟩ := hP
        exact its_stop q1 (by rw [List.length_map]; omega)
      · obtain ⟨x3, rfl, rfl⟩ := hP
        obtain ⟨rfl, ex2⟩ := its_yld hy2 q1
        have l1 : j < rm.length := by omega
        rw [List.getElem?_map, List.getElem?_eq_getElem l1] at ex2
        cases ex2
        refine g_nm (r_asg (r_cb ⟨_, rfl, _, rfl, _, _, rfl, ?_⟩))
        refine ⟨some (.int rm[j]), ?_, rfl⟩
        rw [gL_app, gL_app, gL_at (List.getElem?_eq_getElem l1), Int.natAbs_natCast]
        rfl
      · obtain ⟨x3, rfl, rfl⟩ := hP
        refine ⟨some (.ref c'), x3, ?_, rfl⟩
        rw [take_flat em, show rm.take n = rm from List.take_of_length_le (by omega)]
    · obtain ⟨x2, x3, rfl, rfl⟩ := hP
      rw [List.take_of_length_le (by rw [hv.bd.len]; exact Nat.le_refl _)]
      exact r_nret ⟨_, rfl, q _ (Same.refl _)⟩
def sp_sn (C : Addr) : Sp := fun vs H Q _ => ∃ v M, ∃ n b : Nat, vs = [v] ∧ Fv C H v n b M ∧ 1 ≤ b ∧ b ≤ 8000 ∧ ∀ u H', Same H H' → Fv C H' u n b (snX M) → Q u H'
abbrev N_sn : List Str := ["self", "by", "row", "number"]
theorem sc_sn : FnScope N_sn ["self"] (defScope (st_F 12)) := ⟨rfl, rfl, rfl, by decide +kernel, rfl, by decide +kernel, by decide +kernel⟩
theorem ok_sn {f : Addr} {fd : FuncData} (F : Fun K "single" "Form.single" (st_F 12) f fd) (T : Txt mg) (Fc : Fcl K mg C) (D1 : Mtd P w K mg base C "divisor" 1 ["self"] (sp_dv C)) (D3 : MkrF P w K mg base C) : FnOk P w K mg base CX0 10 f fd ["self"] (sp_sn C) := by
  refine F.ok sc_sn (fun vs H Q E h => ?_) (fun cdv A outer s H vs Q E hr h => ?_)
  · obtain ⟨v, M, n, b, rfl, _⟩ := h
    rfl
  · obtain ⟨v, M, n, b, rfl, hv, b1, lb, q⟩ := h
    obtain ⟨gu, gud, mu, Gu, bu⟩ := D1.ex
    refine ⟨_, pss_cons (ps_set (i := 1) sc_sn.nd rfl (Or.inr rfl) (pe_meth0 (pv 0) Fc.cl mu Gu (hr.mono (by decide)) bu .nil pass0))
      (pss_cons (ps_if (pt_cmpR op_eq (pv 1) pe_int (nomark _)) (pss_one (ps_ret (pv 0))) pss_nil)
      (pss_one (ps_ret (pe_mkrF D3 Fc hr (pa_cons (pe_lc (own := [("row", 2)]) (g := gName 2) (tt := tYes) rfl sc_sn.nd (pi_seq (pe_fld (pv 0) rfl))
        (blkOk_by (N := N_sn) (sc := defScope (st_F 12)) (by decide +kernel))
        (fun _ _ _ _ _ => pg_name (i := 2) sc_sn.nd rfl (Or.inl rfl) (Or.inr rfl)) (fun _ _ _ _ _ => pts_nil)
        (fun s' H' C' cl' fp' => by
          refine pe_lc (own := [("number", 3)]) (wi := iSeq K (tVar 2)) (g := gName 3) (tt := tYes) (te := tOp (rI CDivW fun i j => .int (i / j)) (tVar 3) (tVar 1)) rfl sc_sn.nd ?p1 ?p2 ?p3 ?p4 ?p5
          case p1 => exact pi_seq (pv 2)
          case p2 => exact blkOk_by (N := N_sn) (by rfl)
          case p3 => exact (fun _ _ _ _ _ => pg_name (i := 3) sc_sn.nd rfl (Or.inl rfl) (Or.inr rfl))
          case p4 => exact (fun _ _ _ _ _ => pts_nil)
          case p5 => exact (fun _ _ _ _ _ => pe_op op_fdivW (pv 3) (pv 1)))) pa_nil))))), ?_⟩
    have h1 := hv.h1
    have h3 := hv.h3
    have sM := hv.bd
    refine r_seq (r_asg (r_meth0 ⟨_, rfl, mth hv.tab ⟨v, M, n, b, rfl, hv, fun H1 s1 => ?_⟩⟩))
    refine r_next (r_nseq (r_if (r_tt (r_op ⟨_, rfl, rfl, _, rfl, ?_⟩))))
    by_cases z : dvM M = 0
    · refine ifT (by rw [z]; rfl) (r_ret ⟨_, rfl, ?_⟩)
      refine q _ _ s1 ?_
      unfold snX
      rw [if_pos z]
      exact hv.same s1
    refine ifF (decide_eq_false fun e => z (by have := V.int.inj e; omega)) ?_
    have z' : 0 < dvM M := Nat.pos_of_ne_zero z
    obtain ⟨p, dx, r, rfl, hp, hM⟩ := id hv.tab
    obtain ⟨a, vx, rfl, ha, hR⟩ := id hM
    have lx : vx.length = n := by rw [hR.len]; exact sM.len
    have qx : ∀ H', Same H1 H' → SqV K H' true a vx := fun H' s => .inl (.inl (s _ _ (s1 _ _ ha)))
    have cd : ∀ x : Int, CDivW x (dvM M : Int) := fun x => wide_div (by omega) (b := b) (by rw [Int.natAbs_natCast]; exact dv_le sM) (by omega) (by omega)
    refine r_next (r_nret (mkF (tlc_call ?_)))
    refine ⟨_, rfl, p, C, dx, _, _, rfl, s1 _ _ hp, Fc.cl, Fc.nR, fldsT_rows _, true, a, vx, rfl, qx H1 (Same.refl H1), ?_⟩
    have bA := sg_bits sM z'
    refine lc_fresh (p := none) n (fun i => .lst (((snM M (dvM M : Int)).getD i []).map V.int)) has_none (by omega) (fun i H2 hi s2 => ?_) (fun H2 s2 => ?_) (fun i x H2 H3 C' hi s2 _ hy hC => ?_) fun Da H2 rs nD s2 hD hrl hE => ?_
    · exact its_go (qx H2 s2.same) (List.getElem?_eq_getElem (by omega))
    · exact its_stop (qx H2 s2.same) (by omega)
    · obtain ⟨rfl, ex⟩ := its_yld hy (qx H2 s2.same)
      obtain ⟨rm, em, c', ec, hc⟩ := hR.get ex
      subst ec
      have lm := sM.row rm (List.mem_of_getElem? em)
      have q1 : ∀ H', Same H3 H' → SqV K H' true c' (rm.map V.int) := fun H' s => .inl (.inl (s _ _ (s2.same _ _ (s1 _ _ hc))))
      refine ⟨rfl, ?_⟩
      refine tlc_of (Its true K c') (H1 := H3) (fun R hR' => ⟨_, rfl, true, c', _, rfl, q1 H3 (Same.refl H3), hR'⟩) ?_
      refine lc_el (p := none) n (fun j v => ∃ x, rm[j]? = some x ∧ v = .int (x / (dvM M : Int))) has_none (by omega) (fun j H4 hj s4 => ?_) (fun H4 s4 => ?_) (fun j x H4 H5 C2 hj s4 _ hy2 hC2 => ?_) fun Db H4 ys nDb s4 hDb hyl hyE => ?_
      · exact its_go (q1 H4 s4.same) (List.getElem?_eq_getElem (by rw [List.length_map]; omega))
      · exact its_stop (q1 H4 s4.same) (by rw [List.length_map]; omega)
      · obtain ⟨rfl, ex2⟩ := its_yld hy2 (q1 H4 s4.same)
        have hj' : j < rm.length := by omega
        rw [List.getElem?_map, List.getElem?_eq_getElem hj'] at ex2
        cases ex2
        refine ⟨rfl, ?_⟩
        refine ⟨_, rfl, _, rfl, _, _, rfl, rfl, cd _, ?_⟩
        exact hC2 _ _ (RX.refl _) ⟨_, List.getElem?_eq_getElem hj', rfl⟩
      · refine hC Db _ s4 nDb ?_
        have ey : ys = rm.map fun x => V.int (x / (dvM M : Int)) := map_of_get (n := 0) _ (by rw [hyl, lm]) hyE
        have eg : (snM M (dvM M : Int)).getD i [] = rm.map fun x => x / (dvM M : Int) := by
          unfold snM
          rw [List.getD_eq_getElem?_getD, List.getElem?_map, em]
          rfl
        rw [hDb, ey, eg, List.map_map]
        rfl
    · have hpy : PyV H2 (.ref Da) (lmD (snM M (dvM M : Int))) := py_lm hD (by rw [hrl, bA.len]) hE
      refine MkF.of (.inl hpy) (grid_lm _) h1 h3 (sg_sy h1 h3 sM.sh hv.eq) bA (by omega) fun d H4 s4 ht => q _ _ (s1.trans (s2.same.trans s4)) ?_
      unfold snX
      rw [if_neg z]
      exact ht
end
end T22
set_option Elab.async false
set_option linter.all false
set_option maxRecDepth 100000
set_option maxHeartbeats 4000000
namespace T22
open PySem PySem.Spec PyProof.Rows L2 Gd Zn Rp Dn Tb Gn En Zs Ct Op Oc Rg Rt Ro Oa
def tlM (n : Nat) (M : List (List Int)) : List Int := (List.range (n + 1)).map fun k => if k % 2 = 0 then mdlM n M k else 0 - mdlM n M k
theorem mid0 (n : Nat) (M : List (List Int)) : mdlM n M 0 = 1 := by
  have : lotsB n 0 = [[]] := by cases n <;> rfl
  unfold mdlM
  rw [this]
  simp [subM, detM]
theorem tl_rev {n : Nat} {M : List (List Int)} (h1 : 1 ≤ n) (h3 : n ≤ 3) (hM : Sh n M) (sy : transp n M = M) : tlM n M = (polyM n M).reverse := by
  have : n = 1 ∨ n = 2 ∨ n = 3 := by omega
  unfold tlM
  rcases this with rfl | rfl | rfl
  · obtain ⟨a, rfl⟩ := sh1 hM rfl
    rw [polyE1]
    simp [List.range_succ, mid0, m11]
  · obtain ⟨a, b, c, rfl⟩ := sy2 hM sy
    rw [polyE2]
    simp [List.range_succ, mid0, m21, m22]
  · obtain ⟨a, b, c, d, e, f, rfl⟩ := sy3 hM sy
    rw [poly3]
    simp [List.range_succ, mid0, m31, m32, m33, ← e3det]
    rfl
theorem rv3 : ∀ s1 ∈ S3, ∀ s2 ∈ S3, ∀ s3 ∈ S3, sgA [1, -s1, s2, -s3] = sgA [-s3, s2, -s1, 1] := by decide +kernel
theorem rv2 : ∀ s1 ∈ S3, ∀ s2 ∈ S3, sgA [1, -s1, s2] = sgA [s2, -s1, 1] := by decide +kernel
theorem rv1 : ∀ s1 ∈ S3, sgA [1, -s1] = sgA [-s1, 1] := by decide +kernel
theorem sg_tl {n : Nat} {M : List (List Int)} (h1 : 1 ≤ n) (h3 : n ≤ 3) (hM : Sh n M) (sy : transp n M = M) : sgA (tlM n M) = sgA (polyM n M) := by
  rw [tl_rev h1 h3 hM sy]
  have : n = 1 ∨ n = 2 ∨ n = 3 := by omega
  rcases this with rfl | rfl | rfl
  · obtain ⟨a, rfl⟩ := sh1 hM rfl
    rw [polyE1, ← sgA_sign, ← sgA_sign [-a, 1], map1]
    show sgA [Int.sign 1, (-a).sign] = _
    rw [Int.sign_neg]
    exact rv1 _ (sgn_mem a)
  · obtain ⟨a, b, c, rfl⟩ := sy2 hM sy
    rw [polyE2, ← sgA_sign, ← sgA_sign [a * c - b * b, -(a + c), 1], map2]
    show sgA [Int.sign 1, (-(a + c)).sign, (a * c - b * b).sign] = _
    rw [Int.sign_neg]
    exact rv2 _ (sgn_mem _) _ (sgn_mem _)
  · obtain ⟨a, b, c, d, e, f, rfl⟩ := sy3 hM sy
    rw [poly3, ← sgA_sign, ← sgA_sign [-E3 a b c d e f, E2 a b c d e f, -(a + d + f), 1], map3]
    show sgA [Int.sign 1, (-(a + d + f)).sign, (E2 a b c d e f).sign, (-E3 a b c d e f).sign] = _
    rw [Int.sign_neg, Int.sign_neg]
    exact rv3 _ (sgn_mem _) _ (sgn_mem _) _ (sgn_mem _)
theorem tl_len (n : Nat) (M : List (List Int)) : (tlM n M).length = n + 1 := by simp [tlM]
theorem tl_at {n i : Nat} {M : List (List Int)} (h1 : 1 ≤ n) (h3 : n ≤ 3) (hM : Sh n M) (sy : transp n M = M) (hi : i ≤ n) : (tlM n M).getD (n - i) 0 = (polyM n M).getD i 0 := by
  rw [tl_rev h1 h3 hM sy, List.getD_eq_getElem?_getD, List.getD_eq_getElem?_getD, List.getElem?_reverse (by rw [poly_len h1 h3]; omega), poly_len h1 h3]
  congr 2
  omega
section
variable {P : Program} {w : World} {K : PySem.W.Frag} {mg : Str → Option Value} {base : Heap} {C : Addr}
abbrev st_ltold : Stmt := top 51
theorem sc_ltold : FnScope ["_law_rows_here", "_law_row"] ["_law_rows_here"] (defScope st_ltold) := ⟨rfl, rfl, rfl, by decide +kernel, rfl, by decide +kernel, by decide +kernel⟩
theorem ok_ltold {f : Addr} {fd : FuncData} (F : Fun K "_law_told" "_law_told" st_ltold f fd) (T : Txt mg) : FnOk P w K mg base CX0 1 f fd ["_law_rows_here"] sp_copied := by
  refine F.ok sc_ltold (fun vs H Q E h => ?_) (fun cdv A outer s H vs Q E hr h => ?_)
  · obtain ⟨v, d, M, rfl, _⟩ := h
    rfl
  · obtain ⟨v, d, M, rfl, av, ⟨g1, g2, g3⟩, hb, q⟩ := h
    refine ⟨_, pss_one (ps_ret (pe_callTy (r := rTup K) c_tup (by rfl) T.tuple PyProof.Rows.boot_tuple (pa_cons (pe_lc (own := [("_law_row", 1)]) (g := gName 1) (tt := tYes) rfl sc_ltold.nd (pi_seq (pv 0))
        (blkOk_by (N := ["_law_rows_here", "_law_row"]) (sc := defScope st_ltold) (by decide +kernel))
        (fun _ _ _ _ _ => pg_name (i := 1) sc_ltold.nd rfl (Or.inl rfl) (Or.inr rfl)) (fun _ _ _ _ _ => pts_nil)
        (fun _ _ _ _ _ => pe_callTy (r := rTup K) c_tup (by rfl) T.tuple PyProof.Rows.boot_tuple (pa_cons (pv 1) pa_nil))) pa_nil))), ?_⟩
    obtain ⟨t, a, vx, rfl, qx, px⟩ := (seq_of av g1).at K
    have hvl : vx.length = M.length := by rw [pyVs_len px]; exact g2
    refine r_ret (r_cb (r_cons ?_))
    refine tlc_of (Its t K a) (H1 := H) (fun R hR => ⟨_, rfl, t, a, vx, rfl, qx H (Same.refl H), hR⟩) ?_
    refine lc_ks (p := none) M.length (fun i v H => ∃ r, M[i]? = some r ∧ RowV H v r) (fun i v H H' k h => ?_) has_none (by omega) (fun i H2 hi s2 => ?_) (fun H2 s2 => ?_) (fun i x H2 H3 C hi s2 _ hy hC => ?_) fun Da H2 rs nD s2 hD hrl hE => ?_
    · obtain ⟨r, e, h⟩ := h
      exact ⟨r, e, h.mono k⟩
    · exact its_go (qx H2 s2.same) (List.getElem?_eq_getElem (by rw [hvl]; exact hi))
    · exact its_stop (qx H2 s2.same) (by rw [hvl]; exact Nat.le_refl _)
    · obtain ⟨rfl, ex⟩ := its_yld hy (qx H2 s2.same)
      obtain ⟨d', ed, pd⟩ := pyVs_get px ex
      obtain ⟨r, er, hd⟩ := g3 i d' ed
      refine ⟨rfl, ?_⟩
      refine r_cb (r_cons ?_)
      refine ⟨_, rfl, ?_⟩
      rcases hd with rfl | rfl
      · cases pd with
        | lst e p =>
          have ez := pyVs_ints p
          subst ez
          exact ⟨_, _, rfl, .inl ⟨.inl (.inl (s2.same _ _ e)), fun l nl => hC _ _ (RX.new nl) ⟨r, er, l, rfl, upd_same⟩⟩⟩
      · cases pd with
        | tup e p =>
          have ez := pyVs_ints p
          subst ez
          exact ⟨_, _, rfl, .inr ⟨.inl (.inl (s2.same _ _ e)), hC _ _ (RX.refl _) ⟨r, er, _, rfl, s2.same _ _ e⟩⟩⟩
    · refine ⟨Da, rs, rfl, .inl ⟨.inl (.inl hD), fun l nl => ?_⟩⟩
      have k : Same H2 (upd H2 l (.tup rs)) := same_new nl
      refine q _ _ (s2.same.trans k) ⟨l, rs, rfl, upd_same, ?_⟩
      exact (rows_of hrl hE).mono (KS.of k)
abbrev st_cor : Stmt := top 53
abbrev N_cor : List Str := ["_law_rows_here", "_law_many", "_law_row"]
theorem sc_cor : FnScope N_cor ["_law_rows_here", "_law_many"] (defScope st_cor) := ⟨rfl, rfl, rfl, by decide +kernel, rfl, by decide +kernel, by decide +kernel⟩
def sp_cor : Sp := fun vs H Q _ => ∃ (v : V) (M : List (List Int)) (n m : Nat), vs = [v, .int m] ∧ PyV H v (lmD M) ∧ Sq n M ∧ n ≤ 3 ∧ m ≤ n ∧ ∀ H', Same H H' → Q (.int (detM m (leadM m M))) H'
theorem ok_cor {f : Addr} {fd : FuncData} (F : Fun K "_law_corner" "_law_corner" st_cor f fd) (T : Txt mg) (DM : ∀ n, Def P w K mg base "_law_minor" (n + 1) ["_law_rows_here"] (sp_mi n)) : FnOk P w K mg base CX0 5 f fd ["_law_rows_here", "_law_many"] sp_cor := by
  refine F.ok sc_cor (fun vs H Q E h => ?_) (fun cdv A outer s H vs Q E hr h => ?_)
  · obtain ⟨v, M, n, m, rfl, _⟩ := h
    rfl
  · obtain ⟨v, M, n, m, rfl, hM, hS, h3, hm, q⟩ := h
    refine ⟨_, pss_one (ps_ret (pe_def (DM m) hr (pa_cons (pe_lc (own := [("_law_row", 2)]) (wi := iSeq K (tSl (rSlL K) (tVar 0) tNoPart (tPart (tVar 1)))) (g := gName 2) (tt := tYes) (te := tSl (rSlL K) (tVar 2) tNoPart (tPart (tVar 1))) rfl sc_cor.nd (pi_seq (pe_slice sl_list (pv 0) po_none (po_some (pv 1))))
        (blkOk_by (N := N_cor) (sc := defScope st_cor) (by decide +kernel)) (fun _ _ _ _ _ => pg_name (i := 2) sc_cor.nd rfl (Or.inl rfl) (Or.inr rfl)) (fun _ _ _ _ _ => pts_nil)
        (fun _ _ _ _ _ => pe_slice sl_list (pv 2) po_none (po_some (pv 1)))) pa_nil) (by omega))), ?_⟩
    obtain ⟨a, as, rfl, ha, hal, hae⟩ := lm_at hM
    have asl : as.length = n := by rw [hal, hS.len]
    refine r_ret (a1 (tlc_call ⟨_, rfl, _, rfl, _, rfl, a, _, rfl, .inl (.inl ha), fun c nc => ?_⟩))
    rw [show cutV (as.map V.ref) none (some (m : Int)) = (as.take m).map V.ref by
      unfold cutV
      rw [HT.sIx_none, HT.sIx_nat, List.length_map, List.drop_zero, Nat.min_eq_left (by omega), Nat.sub_zero, List.map_take]] at *
    have sc : Same H (upd H c (.lst ((as.take m).map V.ref))) := same_new nc
    have hc : upd H c (.lst ((as.take m).map V.ref)) c = some (.lst ((as.take m).map V.ref)) := upd_same
    generalize upd H c (.lst ((as.take m).map V.ref)) = H1 at sc hc
    have lt : ((as.take m).map V.ref).length = m := by rw [List.length_map, List.length_take]; omega
    have qc : ∀ H', Same H1 H' → SqV K H' false c ((as.take m).map V.ref) := fun H' s => .inl (.inl (s _ _ hc))
    refine ⟨false, c, _, rfl, qc _ (Same.refl _), ?_⟩
    have hL := lead_sq hS hm
    refine lc_fresh (p := none) m (fun i => .lst (((leadM m M).getD i []).map V.int)) has_none (by omega) (fun i H2 hi s2 => its_go (qc H2 s2.same) (List.getElem?_eq_getElem (by omega))) (fun H2 s2 => its_stop (qc H2 s2.same) (by omega)) (fun i x H2 H3 C' hi s2 _ hy hC => ?_) fun Da H2 rs nD s2 hD hrl hE => ?_
    · obtain ⟨rfl, ex⟩ := its_yld hy (qc H2 s2.same)
      have ea : as[i]? = some (as[i]'(by omega)) := List.getElem?_eq_getElem _
      rw [List.getElem?_map, List.getElem?_take_of_lt hi, ea] at ex
      cases ex
      have hrow := hae _ _ ea
      have lrow : (M.getD i []).length = n := getD_row hS.sh (by omega)
      have eg : (leadM m M).getD i [] = (M.getD i []).take m := by
        unfold leadM
        have : i < M.length := by rw [hS.len]; omega
        rw [List.getD_eq_getElem?_getD, List.getElem?_map, List.getElem?_take_of_lt hi, List.getElem?_eq_getElem this, List.getD_eq_getElem?_getD, List.getElem?_eq_getElem this]
        rfl
      refine ⟨rfl, _, rfl, _, rfl, _, rfl, _, _, rfl, .inl (.inl ((sc.trans s2.same) _ _ hrow)), fun p1 np1 => ?_⟩
      rw [cutV_to (M.getD i []) m (by omega), ← eg]
      exact hC p1 _ (RX.new np1) np1 upd_same
    · have pL : PyV H2 (.ref Da) (lmD (leadM m M)) := py_lm hD (by rw [hrl, hL.len]) hE
      exact ⟨.ref Da, leadM m M, rfl, pL, by omega, hL, fun H3 s3 => q _ (sc.trans (s2.same.trans s3))⟩
abbrev st_ldv : Stmt := top 58
abbrev N_ldv : List Str := ["_law_rows_here", "_law_found", "_law_row", "_law_number", "_law_one", "_law_other"]
theorem sc_ldv : FnScope N_ldv ["_law_rows_here"] (defScope st_ldv) := ⟨rfl, rfl, rfl, by decide +kernel, rfl, by decide +kernel, by decide +kernel⟩
def sp_ldv : Sp := fun vs H Q _ => ∃ (v : V) (M : List (List Int)) (n : Nat), vs = [v] ∧ PyV H v (lmD M) ∧ Sh n M ∧ ∀ H', Same H H' → Q (.int (dvM M : Int)) H'
theorem ok_ldv {f : Addr} {fd : FuncData} (F : Fun K "_law_divisor" "_law_divisor" st_ldv f fd) (T : Txt mg) : FnOk P w K mg base CX0 1 f fd ["_law_rows_here"] sp_ldv := by
  refine F.ok sc_ldv (fun vs H Q E h => ?_) (fun cdv A outer s H vs Q E hr h => ?_)
  · obtain ⟨v, M, n, rfl, _⟩ := h
    rfl
  · obtain ⟨v, M, n, rfl, hM, hS, q⟩ := h
    refine ⟨_, pss_cons (ps_set (i := 1) sc_ldv.nd rfl (Or.inl rfl) pe_int)
      (pss_cons (ps_for PassesOwn.never rfl (pi_seq (pv 0)) (pg_name (i := 2) sc_ldv.nd rfl (Or.inl rfl))
        (pss_one (ps_for PassesOwn.never rfl (pi_seq (pv 2)) (pg_name (i := 3) sc_ldv.nd rfl (Or.inl rfl))
          (pss_cons (ps_par (i := 4) (j := 5) rfl sc_ldv.nd rfl rfl (by decide) rfl rfl (pa_cons (pv 1) (pa_cons (pe_callB call_abs (by rfl) T.abs boot_abs (pa_cons (pv 3) pa_nil)) pa_nil)) (by rfl))
          (pss_cons (ps_while PassesOwn.never (pt_cmpR op_gt (pv 5) pe_int (nomark _))
            (pss_one (ps_par (i := 4) (j := 5) rfl sc_ldv.nd rfl rfl (by decide) rfl rfl (pa_cons (pv 5) (pa_cons (pe_op op_mod (pe_callTy (r := rInt1) call_int1 (by rfl) T.int PyProof.Rows.boot_int (pa_cons (pv 4) pa_nil)) (pv 5)) pa_nil)) (by rfl))))
          (pss_one (ps_set (i := 1) sc_ldv.nd rfl (Or.inl rfl) (pv 4))))))))
      (pss_one (ps_ret (pv 1)))), ?_⟩
    obtain ⟨a, as, rfl, ha, hal, hae⟩ := lm_at hM
    have asl : as.length = n := by rw [hal, hS.len]
    have qa : SqV K H false a (as.map V.ref) := .inl (.inl ha)
    refine r_seq (r_asg (r_next (r_nseq (r_forS ⟨_, rfl, false, a, _, rfl, qa, ?_⟩))))
    refine for_by n (fun i σ H' => ∃ x2 x3 x4 x5, σ = [some (.ref a), some (.int (gL (M.take i).flatten 0 : Nat)), x2, x3, x4, x5] ∧ H' = H) ⟨_, _, _, _, rfl, rfl⟩ (fun i σ H' hi hP => ?_) (fun σ H' hP => ?_) (fun i x σ Ha Hb hi hP hy => ?_) (fun σ H' hP => ?_)
    · obtain ⟨_, _, _, _, _, rfl⟩ := hP
      exact its_go qa (List.getElem?_eq_getElem (by rw [List.length_map]; omega))
    · obtain ⟨_, _, _, _, _, rfl⟩ := hP
      exact its_stop qa (by rw [List.length_map]; omega)
    · obtain ⟨x2, x3, x4, x5, rfl, rfl⟩ := hP
      obtain ⟨rfl, ex⟩ := its_yld hy qa
      have ea : as[i]? = some (as[i]'(by omega)) := List.getElem?_eq_getElem _
      rw [List.getElem?_map, ea] at ex
      cases ex
      have hc := hae _ _ ea
      have em : M[i]? = some (M.getD i []) := by
        have : i < M.length := by rw [hS.len]; omega
        rw [List.getD_eq_getElem?_getD, List.getElem?_eq_getElem this]
        rfl
      have lm := hS.row _ (List.mem_of_getElem? em)
      generalize M.getD i [] = rm at hc em lm
      generalize as[i]'(by omega) = c' at hc
      have q1 : SqV K Hb false c' (rm.map V.int) := .inl (.inl hc)
      refine g_nm (r_forS ⟨_, rfl, false, c', _, rfl, q1, ?_⟩)
      refine for_by n (fun j σ H' => ∃ x3 x4 x5, σ = [some (.ref a), some (.int (gL ((M.take i).flatten ++ rm.take j) 0 : Nat)), some (.ref c'), x3, x4, x5] ∧ H' = Hb) ⟨x3, x4, x5, ?_, rfl⟩ (fun j σ H' hj hP => ?_) (fun σ H' hP => ?_) (fun j x σ Hc Hd hj hP hy2 => ?_) (fun σ H' hP => ?_)
      · rw [List.take_zero, List.append_nil]
        rfl
      · obtain ⟨_, _, _, _, rfl⟩ := hP
        exact its_go q1 (List.getElem?_eq_getElem (by rw [List.length_map]; omega))
      · obtain ⟨_, _, _, _, rfl⟩ := hP
        exact its_stop q1 (by rw [List.length_map]; omega)
      · obtain ⟨x3, x4, x5, rfl, rfl⟩ := hP
        obtain ⟨rfl, ex2⟩ := its_yld hy2 q1
        have l1 : j < rm.length := by omega
        rw [List.getElem?_map, List.getElem?_eq_getElem l1] at ex2
        cases ex2
        have eG : gL ((M.take i).flatten ++ rm.take (j + 1)) 0 = Nat.gcd (gL ((M.take i).flatten ++ rm.take j) 0) (rm[j]).natAbs := by
          rw [gL_app, gL_app, gL_at (List.getElem?_eq_getElem l1)]
        rw [eG]
        generalize gL ((M.take i).flatten ++ rm.take j) 0 = g0
        generalize rm[j] = y
        refine g_nm (r_seq (r_par2 (r_cons ⟨_, rfl, r_cons (cb1 ⟨_, rfl, y, rfl, _, _, rfl, ?_⟩)⟩)))
        rw [show (if y < 0 then -y else y) = ((y.natAbs : Nat) : Int) by split <;> omega]
        refine r_next (r_nseq ?_)
        refine while_by (fun σ H' => ∃ u v : Nat, σ = [some (.ref a), some (.int (g0 : Nat)), some (.ref c'), some (.int y), some (.int (u : Nat)), some (.int (v : Nat))] ∧ Nat.gcd u v = Nat.gcd g0 y.natAbs ∧ H' = Hd) (fun σ _ => match (σ[5]? : Option (Option V)) with | some (some (V.int b)) => b.natAbs | _ => 0) ⟨g0, y.natAbs, rfl, rfl, rfl⟩ (fun σ H' hP => ?_) (fun σ H Q Q' h ⟨v, e, i, j, e1, e2, k, e3, q⟩ => ⟨v, e, i, j, e1, e2, k, e3, h _ _ q⟩)
        obtain ⟨u, v, rfl, eg, rfl⟩ := hP
        refine r_tt (r_op ⟨_, rfl, _, _, rfl, rfl, _, rfl, ?_⟩)
        by_cases z : (0 : Int) < (v : Int)
        · refine ifT (decide_eq_true z) (r_par2 (r_cons ⟨_, rfl, r_cons (r_op (cb1 ⟨_, rfl, .inl ⟨(u : Int), rfl, _, rfl, _, _, rfl, rfl, z, _, _, rfl, ?_⟩⟩))⟩))
          refine ⟨⟨v, u % v, rfl, ?_, rfl⟩, ?_⟩
          · rw [← eg, Nat.gcd_comm v, ← Nat.gcd_rec, Nat.gcd_comm]
          · show (u % v) < v
            exact Nat.mod_lt _ (by omega)
        · refine ifF (decide_eq_false z) (r_next (n_asg ⟨_, rfl, ?_⟩))
          have : v = 0 := by omega
          subst this
          rw [Nat.gcd_zero_right] at eg
          refine ⟨some (.int y), some (.int (u : Nat)), some (.int (0 : Nat)), ?_, rfl⟩
          rw [eg]
          rfl
      · obtain ⟨x3, x4, x5, rfl, rfl⟩ := hP
        refine ⟨some (.ref c'), x3, x4, x5, ?_, rfl⟩
        rw [take_flat em, show rm.take n = rm from List.take_of_length_le (by omega)]
    · obtain ⟨x2, x3, x4, x5, rfl, rfl⟩ := hP
      rw [List.take_of_length_le (by rw [hS.len]; exact Nat.le_refl _)]
      exact r_nret ⟨_, rfl, q _ (Same.refl _)⟩
end
end T22
set_option Elab.async false
set_option linter.all false
set_option maxRecDepth 100000
set_option maxHeartbeats 4000000
namespace T22
open PySem PySem.Spec PyProof.Rows L2 Gd Zn Rp Dn Tb Gn En Zs Ct Op Oc Rg Rt Ro Oa
theorem r_andT {t u : TT} {σ : L2.St} {H : Hp} {Q : Bool → Hp → Prop} {c1 c2 : Bool} (ht : ∀ Q : Bool → Hp → Prop, Q c1 H → t σ H Q) (hu : c1 = true → ∀ Q : Bool → Hp → Prop, Q c2 H → u σ H Q) (q : Q (c1 && c2) H) : tAnd t u σ H Q := by
  refine r_and (ht _ ?_)
  cases c1 with
  | true => rw [if_pos rfl]; exact hu rfl _ q
  | false => rw [if_neg (by decide)]; exact q
theorem dec_int {x y : Int} : decide (V.int x = V.int y) = decide (x = y) := by
  by_cases z : x = y
  · rw [z, decide_eq_true rfl, decide_eq_true rfl]
  · rw [decide_eq_false z, decide_eq_false fun e => z (V.int.inj e)]
section
variable {P : Program} {w : World} {K : PySem.W.Frag} {mg : Str → Option Value} {base : Heap} {C : Addr}
abbrev st_lsg : Stmt := top 56
abbrev N_lsg : List Str := ["_law_rows_here", "_law_size", "_law_told_here", "_law_nought", "_law_held", "_law_above", "_law_many", "_law_number", "_law_at"]
theorem sc_lsg : FnScope N_lsg ["_law_rows_here"] (defScope st_lsg) := ⟨rfl, rfl, rfl, by decide +kernel, rfl, by decide +kernel, by decide +kernel⟩
def sp_lsg : Sp := fun vs H Q _ => ∃ (v : V) (M : List (List Int)) (n : Nat), vs = [v] ∧ PyV H v (lmD M) ∧ Sq n M ∧ 1 ≤ n ∧ n ≤ 3 ∧ transp n M = M ∧ ∀ p H' z, Same H H' → IsZ (polyM n M) z → H' p = some (.tup [.int (sgA (polyM n M)), .int ((n : Int) - sgA (polyM n M) - z), .int z]) → Q (.ref p) H'
theorem ok_lsg {f : Addr} {fd : FuncData} (F : Fun K "_law_signs" "_law_signs" st_lsg f fd) (T : Txt mg) (D1 : Def P w K mg base "_law_middle" 5 ["_law_rows_here", "_law_many"] sp_mid) : FnOk P w K mg base CX0 6 f fd ["_law_rows_here"] sp_lsg := by
  refine F.ok sc_lsg (fun vs H Q E h => ?_) (fun cdv A outer s H vs Q E hr h => ?_)
  · obtain ⟨v, M, n, rfl, _⟩ := h
    rfl
  · obtain ⟨v, M, n, rfl, hM, hS, h1, h3, sy, q⟩ := h
    refine ⟨_, pss_cons (ps_set (i := 1) sc_lsg.nd rfl (Or.inl rfl) (pe_callB (r := Dn.rLen K) c_len (by rfl) T.len PySem.boot_len (pa_cons (pv 0) pa_nil)))
      (pss_cons (ps_setLc (i := 2) (own := [("_law_many", 6)]) (g := gName 6) (tt := tYes) rfl sc_lsg.nd rfl rfl (sw_true rfl rfl rfl (by decide +kernel)) (pi_range1 (by rfl) T.range (pa_cons (pe_op op_add (pv 1) pe_int) pa_nil))
        (blkOk_by (N := N_lsg) (sc := defScope st_lsg) (by decide +kernel)) (fun _ _ _ _ _ => pg_name (i := 6) sc_lsg.nd rfl (Or.inl rfl) (Or.inr rfl)) (fun _ _ _ _ _ => pts_nil)
        (fun _ _ _ _ _ => pe_ifExp (pt_cmpR op_eq (pe_op op_mod (pe_callTy (r := rInt1) call_int1 (by rfl) T.int PyProof.Rows.boot_int (pa_cons (pv 6) pa_nil)) pe_int) pe_int (nomark _)) (pe_def (X := Cx.blk _ _ _ _ _ _) D1 hr (pa_cons (pv 0) (pa_cons (pv 6) pa_nil))) (pe_op op_sub pe_int (pe_def (X := Cx.blk _ _ _ _ _ _) D1 hr (pa_cons (pv 0) (pa_cons (pv 6) pa_nil))))))
      (pss_cons (ps_set (i := 3) sc_lsg.nd rfl (Or.inl rfl) pe_int)
      (pss_cons (ps_while PassesOwn.never (PW.pt (pw_and (pt_cmpR op_lt (pv 3) (pv 1) (nomark _)) (pw_and1 (pt_cmpR op_eq (pe_ix (r := rIxS2 K) ix_sq (pv 2) (pe_op op_sub (pv 1) (pv 3)) (fun _ _ => rfl)) pe_int (nomark _)))))
        (pss_one (ps_set (i := 3) sc_lsg.nd rfl (Or.inl rfl) (pe_op op_add (pv 3) pe_int))))
      (pss_cons (ps_set (i := 4) sc_lsg.nd rfl (Or.inr rfl) (pe_lc (own := [("_law_number", 7)]) (g := gName 7) rfl sc_lsg.nd (pi_seq (pv 2))
        (blkOk_by (N := N_lsg) (sc := defScope st_lsg) (by decide +kernel)) (fun _ _ _ _ _ => pg_name (i := 7) sc_lsg.nd rfl (Or.inl rfl) (Or.inr rfl)) (fun _ _ _ _ _ => pts_one (pt_cmpR op_ne (pv 7) pe_int (nomark _))) (fun _ _ _ _ _ => pv 7)))
      (pss_cons (ps_set (i := 5) sc_lsg.nd rfl (Or.inl rfl) (pe_callB (r := Dn.rLen K) c_len (by rfl) T.len PySem.boot_len (pa_cons (pe_lc (own := [("_law_at", 8)]) (g := gName 8) rfl sc_lsg.nd (pi_range2 (by rfl) T.range (pa_cons pe_int (pa_cons (pe_callB (r := Dn.rLen K) c_len (by rfl) T.len PySem.boot_len (pa_cons (pv 4) pa_nil)) pa_nil)))
        (blkOk_by (N := N_lsg) (sc := defScope st_lsg) (by decide +kernel)) (fun _ _ _ _ _ => pg_name (i := 8) sc_lsg.nd rfl (Or.inl rfl) (Or.inr rfl))
        (fun _ _ _ _ _ => pts_one (pt_cmpR op_ne (pe_cmpR op_gt (pe_ix (r := rIxS2 K) ix_sq (pv 4) (pv 8) (fun _ _ => rfl)) pe_int (nomark _)) (pe_cmpR op_gt (pe_ix (r := rIxS2 K) ix_sq (pv 4) (pe_op op_sub (pv 8) pe_int) (fun _ _ => rfl)) pe_int (nomark _)) (nomark _))) (fun _ _ _ _ _ => pv 8)) pa_nil)))
      (pss_one (ps_ret (pe_tup (pa_cons (pv 5) (pa_cons (pe_op op_sub (pe_op op_sub (pv 1) (pv 3)) (pv 5)) (pa_cons (pv 3) pa_nil)))))))))))
      , ?_⟩
    obtain ⟨ra, rw', rfl, hra, hrl⟩ := rows_len hM hS.sh
    refine r_seq (r_asg (cb1 ⟨_, rfl, ra, _, rfl, .inl (.inl (.inl hra)), ?_⟩))
    rw [hrl]
    refine r_next (r_nseq (r_asg (tlc_call ⟨_, rfl, _, _, rfl, rfl, ((n : Int) + 1), rfl, by omega, by omega, ?_⟩)))
    rw [show ((n : Int) + 1).toNat = n + 1 by omega]
    refine lc_el (p := none) (n + 1) (fun k v => v = .int (if k % 2 = 0 then mdlM n M k else 0 - mdlM n M k)) has_none (by omega) (fun i H2 hi s2 => hi) (fun H2 s2 => Nat.le_refl _) (fun i x H2 H3 C' hi s2 _ hy hC => ?_) fun D H1 rs nD s1 hD hrs hE => ?_
    · obtain ⟨rfl, rfl⟩ := hy
      rw [show (0 : Int) + (i : Int) = (i : Int) by omega]
      refine ⟨rfl, r_tt (r_op (r_op (cb1 ⟨_, rfl, .inl ⟨(i : Int), rfl, _, _, rfl, rfl, (show (0 : Int) < 2 by decide), rfl, _, rfl, ?_⟩⟩)))⟩
      by_cases z : i % 2 = 0
      · rw [show decide (V.int (((i : Nat) : Int) % 2) = V.int 0) = true from decide_eq_true (congrArg V.int (by omega))]
        exact iteT (a2 ⟨_, rfl, _, rfl, .ref ra, M, n, i, rfl, hM.mono s2.same, hS, h3, by omega, fun H4 s4 => hC _ _ (RX.of s4) (by rw [if_pos z])⟩)
      · rw [show decide (V.int (((i : Nat) : Int) % 2) = V.int 0) = false from decide_eq_false (fun e => z (by have := V.int.inj e; omega))]
        exact iteF (r_op (a2 ⟨_, rfl, _, rfl, .ref ra, M, n, i, rfl, hM.mono s2.same, hS, h3, by omega, fun H4 s4 => ⟨_, _, rfl, rfl, hC _ _ (RX.of s4) (by rw [if_neg z])⟩⟩))
    have er : rs = (tlM n M).map V.int := by
      unfold tlM
      rw [List.map_map]
      refine map_of_get (n := 0) _ (by rw [hrs, List.length_range]) fun j v e => ?_
      have hj : j < n + 1 := by rw [← hrs]; exact (List.getElem?_eq_some_iff.mp e).1
      exact ⟨j, List.getElem?_range hj, hE j v e⟩
    subst er
    have s1 := s1.same
    have qD : ∀ H', Same H1 H' → SqV K H' false D ((tlM n M).map V.int) := fun H' u => .inl (.inl (u _ _ hD))
    have ll := tl_len n M
    have ga : ∀ i, i < n + 1 → ((tlM n M).map V.int)[i]? = some (V.int ((tlM n M).getD i 0)) := fun i hi => by
      rw [List.getElem?_map, List.getElem?_eq_getElem (by omega : i < (tlM n M).length), List.getD_eq_getElem?_getD, List.getElem?_eq_getElem (by omega : i < (tlM n M).length)]
      rfl
    refine r_next (r_nseq (r_asg (r_k (r_next (r_nseq ?_)))))
    refine while_by (fun σ H' => ∃ i : Nat, σ = [some (.ref ra), some (.int (n : Nat)), some (.ref D), some (.int (i : Nat)), none, none, none, none, none] ∧ i ≤ n ∧ (∀ j, j < i → (polyM n M).getD j 0 = 0) ∧ H' = H1) (fun σ _ => match (σ[3]? : Option (Option V)) with | some (some (V.int b)) => (n - b).toNat | _ => 0) ⟨0, rfl, Nat.zero_le _, fun j hj => by omega, rfl⟩ (fun σ H' hP => ?_) (fun σ H Q Q' h q => ?_)
    · obtain ⟨i, rfl, hi, hz, rfl⟩ := hP
      refine r_andT (c1 := decide ((i : Int) < (n : Int))) (c2 := decide ((polyM n M).getD i 0 = 0)) (fun Q h => r_tt (r_op ⟨_, rfl, _, rfl, _, _, rfl, rfl, _, rfl, h⟩)) (fun hc Q h => ?_) ?_
      · have zi := of_decide_eq_true hc
        refine r_tt (r_op (r_op ⟨_, rfl, r_op ⟨_, rfl, _, rfl, _, _, rfl, rfl, ?_⟩⟩))
        refine ⟨false, D, _, ((n - i : Nat) : Int), _, rfl, congrArg V.int (by omega), qD _ (Same.refl _), atI_nat (ga (n - i) (by omega)), rfl, _, rfl, ?_⟩
        rw [tl_at h1 h3 hS.sh sy hi, dec_int]
        exact h
      by_cases zz : (decide ((i : Int) < (n : Int)) && decide ((polyM n M).getD i 0 = 0)) = true
      · refine ifT zz (r_asg (r_op ⟨_, rfl, _, _, rfl, rfl, ?_⟩))
        have z1 := of_decide_eq_true (Bool.and_eq_true_iff.mp zz).1
        have z0 := of_decide_eq_true (Bool.and_eq_true_iff.mp zz).2
        refine ⟨⟨i + 1, ?_, by omega, fun j hj => ?_, rfl⟩, ?_⟩
        · rfl
        · by_cases e : j = i
          · rw [e]; exact z0
          · exact hz j (by omega)
        · show ((n : Int) - ((i : Int) + 1)).toNat < ((n : Int) - (i : Int)).toNat
          omega
      refine ifF (by simpa using zz) ?_
      have isz : IsZ (polyM n M) i := by
        refine ⟨by rw [poly_len h1 h3]; omega, fun e => ?_, hz⟩
        by_cases c : i = n
        · rw [c, poly_last h1 h3] at e
          cases e
        · exact zz (by rw [e, decide_eq_true rfl, decide_eq_true (by omega : (i : Int) < (n : Int))]; rfl)
      clear hz zz
      have esg := sg_tl h1 h3 hS.sh sy
      generalize tlM n M = l at hD qD ll ga esg
      -- what is held
      refine r_next (r_nseq (r_asg (tlc_call ⟨_, rfl, false, D, _, rfl, qD _ (Same.refl _), ?_⟩)))
      refine lc_if (p := none) (n + 1) (fun i => decide (l.getD i 0 ≠ 0)) (fun i => V.int (l.getD i 0)) has_none (by omega) (fun i H2 hi s2 => its_go (t := false) (qD _ s2.same) (ga i hi)) (fun H2 s2 => its_stop (t := false) (qD _ s2.same) (by rw [List.length_map, ll]; exact Nat.le_refl _)) (fun i x H2 H3 C1 C0 hi s2 _ hy hC hC0 => ?_) fun Dk H2 nDk s2 hDk => ?_
      · obtain ⟨e2, ex⟩ := its_yld (t := false) hy (qD _ s2.same)
        subst e2
        rw [ga i hi] at ex
        cases ex
        refine ⟨rfl, _, rfl, rfl, _, rfl, ?_⟩
        by_cases z : l.getD i 0 = 0
        · rw [show (!decide (V.int (l.getD i 0) = V.int 0)) = false by rw [z]; rfl]
          exact iteF (hC0 _ (RX.refl _) (by simp only [z]; decide))
        · rw [show (!decide (V.int (l.getD i 0) = V.int 0)) = true by rw [decide_eq_false (fun e => z (V.int.inj e))]; rfl]
          exact iteT ⟨_, rfl, hC _ (RX.refl _) (by simp only [decide_eq_true_eq]; exact z)⟩
      rw [filter_ints l (n + 1) (by omega), List.take_of_length_le (by omega)] at hDk
      have hk : sgA l = ((List.range ((kpt l).length - 1)).filter (chgT (kpt l))).length := rfl
      rw [esg] at hk
      have lk : (kpt l).length ≤ n + 1 := by rw [← ll]; exact List.length_filter_le _ _
      generalize kpt l = k at hDk hk lk
      have qk : ∀ H', Same H2 H' → SqV K H' false Dk (k.map V.int) := fun H' u => .inl (.inl (u _ _ hDk))
      have S2 := s1.trans s2.same
      refine r_next (r_nseq (r_asg (cb1 (tlc_call ⟨_, rfl, Dk, _, rfl, .inl (.inl (.inl hDk)), 1, _, rfl, ⟨by omega, by omega, by omega, by rw [List.length_map]; omega⟩, ?_⟩))))
      rw [show ((((k.map V.int).length : Nat) : Int) - 1).toNat = k.length - 1 by rw [List.length_map]; omega]
      refine lc_if (p := none) (k.length - 1) (chgT k) (fun i => V.int (1 + (i : Int))) has_none (by omega) (fun i H3 hi s3 => hi) (fun H3 s3 => Nat.le_refl _) (fun i x H3 H4 C1 C0 hi s3 _ hy hC hC0 => ?_) fun Da H3 nDa s3 hDa => ?_
      · obtain ⟨rfl, rfl⟩ := hy
        refine ⟨rfl, r_tt (r_op (r_op (r_op ⟨_, rfl, _, rfl, ?_⟩)))⟩
        refine ⟨false, Dk, k.map V.int, ((i + 1 : Nat) : Int), V.int (k.getD (i + 1) 0), rfl, congrArg V.int (by omega), qk _ s3.same, ixL (by omega), _, _, rfl, rfl, r_op (r_op ⟨_, rfl, r_op ⟨_, rfl, _, _, rfl, rfl, ?_⟩⟩)⟩
        refine ⟨false, Dk, k.map V.int, (i : Int), V.int (k.getD i 0), rfl, congrArg V.int (by omega), qk _ s3.same, ixL (by omega), _, _, rfl, rfl, rfl, _, rfl, ?_⟩
        have ec : chgT k i = (!decide (V.bl (decide (k.getD (i + 1) 0 > 0)) = V.bl (decide (k.getD i 0 > 0)))) := by
          unfold chgT
          cases decide (k.getD i 0 > 0) <;> cases decide (k.getD (i + 1) 0 > 0) <;> rfl
        show (if (!decide (V.bl (decide (k.getD (i + 1) 0 > 0)) = V.bl (decide (k.getD i 0 > 0)))) = true then _ else _)
        rw [← ec]
        cases hc : chgT k i with
        | true => exact iteT ⟨_, rfl, hC _ (RX.refl _) hc⟩
        | false => exact iteF (hC0 _ (RX.refl _) hc)
      have S3 := S2.trans s3.same
      refine ⟨Da, _, rfl, .inl (.inl (.inl hDa)), ?_⟩
      rw [List.length_map, ← hk]
      refine r_next (r_nret (r_tup (r_cons ⟨_, rfl, r_cons (r_op (r_op ⟨_, rfl, _, rfl, _, _, rfl, rfl, _, rfl, _, _, rfl, rfl, _, rfl, (by show 3 ≤ sizeLine; decide), fun t nt => ?_⟩))⟩)))
      refine q t _ i (S3.trans (same_new nt)) isz ?_
      rw [upd_same]
      show some (HO.tup [_, V.int ((n : Int) - (i : Int) - (sgA (polyM n M) : Int)), _]) = _
      rw [show ((n : Int) - (i : Int) - (sgA (polyM n M) : Int)) = (n : Int) - (sgA (polyM n M) : Int) - (i : Int) by omega]
    · obtain ⟨v, e, v', e', i, j, e1, e2, k, e3, q⟩ := q
      refine ⟨v, e, v', e', i, j, e1, e2, k, e3, ?_⟩
      cases k with
      | true =>
        rw [if_pos rfl] at q ⊢
        obtain ⟨w, f, a, f1, b, f2, i, j, g1, g2, t, D, xs, kk, x, u1, u2, u3, u4, sc, k2, e4, q⟩ := q
        exact ⟨w, f, a, f1, b, f2, i, j, g1, g2, t, D, xs, kk, x, u1, u2, u3, u4, sc, k2, e4, h _ _ q⟩
      | false =>
        rw [if_neg (by decide)] at q ⊢
        exact h _ _ q
end
end T22
set_option Elab.async false
set_option linter.all false
set_option maxRecDepth 100000
set_option maxHeartbeats 8000000
namespace T22
open PySem PySem.Spec PyProof.Rows L2 Gd Zn Rp Dn Tb Gn En Zs Ct Op Oc Rg Rt Ro Oa
theorem r_orV {ta tb : TE} {σ : L2.St} {H : Hp} {Q : VK} (h : ta σ H fun x H1 => ∃ c, x = .bl c ∧ if c = true then Q (.bl true) H1 else tb σ H1 Q) : tOrV ta tb σ H Q := h
theorem atI_last {xs : List V} {n : Nat} {x : V} (l : xs.length = n) (h : 1 ≤ n) (e : xs[n - 1]? = some x) : atI xs (-1) = some x := by
  unfold atI ixN
  rw [l, if_neg (by omega), if_pos (by omega)]
  show xs[((n : Int) + -1).toNat]? = some x
  rw [show ((n : Int) + -1).toNat = n - 1 by omega]
  exact e
theorem sn_all {M : List (List Int)} : mulI (dvM M : Int) (snX M) = M := by
  unfold snX
  by_cases z : dvM M = 0
  · rw [if_pos z, z]
    unfold mulI
    refine (List.map_congr_left fun r hr => ?_).trans (List.map_id _)
    refine (List.map_congr_left fun x hx => ?_).trans (List.map_id _)
    rw [dv_zero z r hr x hx]
    rfl
  · rw [if_neg z]
    exact sg_mul (Nat.pos_of_ne_zero z)
theorem sn_min {M : List (List Int)} : (dvM (snX M) : Int) = if (1 : Int) < (dvM M : Int) then 1 else (dvM M : Int) := by
  unfold snX
  by_cases z : dvM M = 0
  · rw [if_pos z, z]
    rfl
  · rw [if_neg z, sg_one (Nat.pos_of_ne_zero z)]
    split <;> omega
section
variable {P : Program} {w : World} {K : PySem.W.Frag} {mg : Str → Option Value} {base : Heap} {C F : Addr}
def sp_cornersN (C : Addr) : Sp := fun vs H Q _ => ∃ v M, ∃ n b : Nat, vs = [v] ∧ Fv C H v n b M ∧ b ≤ 5000 ∧ ∀ D H', Same H H' → H D = none → H' D = some (.lst ((crn n M).map V.int)) → Q (.ref D) H'
theorem ok_cornersN {f : Addr} {fd : FuncData} (F : Fun K "corners" "corners" st_corners f fd) (T : Txt mg) (Fc : Fcl K mg C) (D1 : Def P w K mg base "check_form" 1 ["form"] (sp_check_form C)) (D2 : Def P w K mg base "determinant_of" 7 ["rows"] sp_detA) (D3 : Def P w K mg base "leading" 1 ["rows", "many"] sp_leading)
    (D4 : Prp P w K mg base C "rows" 1 (sp_rows C)) (D5 : Prp P w K mg base C "size" 1 (sp_size C)) : FnOk P w K mg base CX0 8 f fd ["form"] (sp_cornersN C) := by
  refine F.ok sc_corners (fun vs H Q E h => ?_) (fun cdv A outer s H vs Q E hr h => ?_)
  · obtain ⟨v, M, n, b, rfl, _⟩ := h
    rfl
  · obtain ⟨v, M, n, b, rfl, hv, lb, q⟩ := h
    refine ⟨_, pss_cons (ps_expr (pe_def D1 hr (pa_cons (pv 0) pa_nil)))
      (pss_one (ps_ret (pe_lc (own := [("many", 1)]) (g := gName 1) (tt := tYes) rfl sc_corners.nd (pi_range2 (by rfl) T.range (pa_cons pe_int (pa_cons (pe_op op_add (pe_prp D5 Fc.cl hr (pv 0)) pe_int) pa_nil)))
        (blkOk_by (N := N_corners) (sc := defScope st_corners) (by decide +kernel)) (fun _ _ _ _ _ => pg_name (i := 1) sc_corners.nd rfl (Or.inl rfl) (Or.inr rfl)) (fun _ _ _ _ _ => pts_nil)
        (fun _ _ _ _ _ => pe_def (X := Cx.blk _ _ _ _ _ _) D2 hr (pa_cons (pe_def (X := Cx.blk _ _ _ _ _ _) D3 hr (pa_cons (pe_prp (X := Cx.blk _ _ _ _ _ _) D4 Fc.cl hr (pv 0)) (pa_cons (pv 1) pa_nil))) pa_nil))))), ?_⟩
    have h1 := hv.h1
    have h3 := hv.h3
    have hM := hv.bd
    refine r_seq (a1 ⟨_, rfl, v, M, rfl, hv.tab, ?_⟩)
    refine r_next (r_nret (tlc_call (r_cons (r_k (r_cons (r_op (r_prop ⟨_, rfl, p_size hv.tab ⟨_, _, rfl, rfl, _, _, rfl, ⟨by decide, by decide, by omega, ?_⟩, ?_⟩⟩)))))))
    · rw [hM.len]; omega
    rw [show ((M.length : Int) + 1 - 1).toNat = n by rw [hM.len]; omega]
    refine lc_el (p := none) n (fun i v => v = .int (detM (i + 1) (leadM (i + 1) M))) has_none (by omega) (fun i H2 hi s2 => hi) (fun H2 s2 => Nat.le_refl _) (fun i x H2 H3 C' hi s2 _ hy hC => ?_) fun Da H2 rs nD s2 hD hrl hE => ?_
    · obtain ⟨rfl, rfl⟩ := hy
      refine ⟨rfl, a1 (a2 (r_prop ⟨_, rfl, p_rows (hv.same s2.same).tab fun r mr => ⟨_, rfl, r, M, n, i + 1, ?_, mr, hM.sh, h3, by omega, fun v4 H4 s4 m4 => ?_⟩⟩))⟩
      · rw [show (1 : Int) + (i : Int) = ((i + 1 : Nat) : Int) by omega]
      · exact ⟨i + 1, by omega, v4, _, rfl, m4, by omega, lead_sq (hM.sq (by omega)) (by omega), fun H5 s5 => hC _ _ (RX.of (s4.trans s5)) rfl⟩
    · refine q Da H2 s2.same nD ?_
      have e : rs = (List.range n).map fun i => V.int (detM (i + 1) (leadM (i + 1) M)) := map_of_get (n := 0) _ (by rw [hrl, List.length_range]) fun i v e => by
        have hi : i < n := by rw [← hrl]; exact (List.getElem?_eq_some_iff.mp e).1
        exact ⟨i, List.getElem?_range hi, hE i v e⟩
      rw [hD, e]
      unfold crn
      rw [List.map_map]
      rfl
abbrev st_on : Stmt := top 59
abbrev N_oon : List Str := ["_law_pot_here", "_law_rows_here", "_law_form", "_law_size", "_law_due", "_law_found", "_law_part", "_law_led_here", "_law_single", "_law_told_here", "_law_many"]
theorem sc_on : FnScope N_oon ["_law_pot_here", "_law_rows_here"] (defScope st_on) := ⟨rfl, rfl, rfl, by decide +kernel, rfl, by decide +kernel, by decide +kernel⟩
def sp_on : Sp := fun vs H Q _ => ∃ (p : Addr) (rv : V) (M : List (List Int)) (n : Nat), vs = [.ref p, rv] ∧ PotOk H p ∧ PyV (hid (some p) H) rv (lmD M) ∧ 1 ≤ n ∧ n ≤ 3 ∧ SqE n 19 M ∧ transp n M = M ∧ ∀ H', RX (some p) H H' → Q (.bl true) H'
theorem ok_or {f : Addr} {fd : FuncData} (F' : Fun K "_law_one_right" "_law_one_right" st_on f fd) (T : Txt mg) (hmin : mg "min" = none) (Fc : Fcl K mg F) (Tc : Tcl K mg C) (DF : MkrF P w K mg base F) (DM : Mkr P w K mg base C)
    (D1 : Def P w K mg base "_law_passed" 2 ["_law_pot_here", "_law_rows_here"] sp_lpass) (D2 : Def P w K mg base "_law_corner" 5 ["_law_rows_here", "_law_many"] sp_cor) (D3 : DefK P w K mg base "corners" 8 ["form"] ["form"] (sp_cornersN F) gU1 gV1) (D4 : DefK P w K mg base "signs" 9 ["form"] ["form"] (sp_sg F) gU1 gV1)
    (D5 : Def P w K mg base "_law_signs" 6 ["_law_rows_here"] sp_lsg) (D6 : Def P w K mg base "_law_divisor" 1 ["_law_rows_here"] sp_ldv) (D7 : Prp P w K mg base F "determinant" 8 (sp_detP F)) (D8 : Prp P w K mg base F "rows" 1 (sp_rows F))
    (D9 : Def P w K mg base "_law_table" 2 ["_law_pot_here", "_law_size"] sp_ltab) (D10 : Mtd P w K mg base F "led" 10 ["self", "table"] (sp_led F C)) (DT : Mtd P w K mg base F "times" 10 ["self", "number"] (sp_timesF F)) (DV : Mtd P w K mg base F "divisor" 1 ["self"] (sp_dv F)) (DS : Mtd P w K mg base F "single" 10 ["self"] (sp_sn F))
    (DE : EqP P w K mg base F) (DTo : Def P w K mg base "_law_told" 1 ["_law_rows_here"] sp_copied) :
    FnOk P w K mg base CX0 11 f fd ["_law_pot_here", "_law_rows_here"] sp_on := by
  refine F'.ok sc_on (fun vs H Q E h => ?_) (fun cdv A outer s H vs Q E hr h => ?_)
  · obtain ⟨p, rv, M, n, rfl, _⟩ := h
    rfl
  · obtain ⟨p, rv, M, n, rfl, hp, rG, h1, h3, eM, sy, q⟩ := h
    obtain ⟨fL, fdL, mL, GL', bL⟩ := D10.ex
    obtain ⟨fT, fdT, mT, GT, bT⟩ := DT.ex
    obtain ⟨fV, fdV, mV, GV, bV⟩ := DV.ex
    obtain ⟨fS, fdS, mS, GS, bS⟩ := DS.ex
    have hr10 : Room 10 _ := hr
    have hr1 : Room 1 _ := hr10.mono (by decide)
    refine ⟨_, pss_cons (ps_par (i := 2) (j := 3) rfl sc_on.nd rfl rfl (by decide) rfl rfl (pa_cons (pe_mkrF DF Fc hr (pa_cons (pe_def D1 hr (pa_cons (pv 0) (pa_cons (pv 1) pa_nil))) pa_nil)) (pa_cons (pe_callB (r := Dn.rLen K) c_len (by rfl) T.len PySem.boot_len (pa_cons (pv 1) pa_nil)) pa_nil)) (by rfl))
      (pss_cons (ps_setLc (i := 4) (own := [("_law_many", 10)]) (g := gName 10) (tt := tYes) rfl sc_on.nd rfl rfl (sw_true rfl rfl rfl (by decide +kernel)) (pi_range2 (by rfl) T.range (pa_cons pe_int (pa_cons (pe_op op_add (pv 3) pe_int) pa_nil)))
        (blkOk_by (N := N_oon) (sc := defScope st_on) (by decide +kernel)) (fun _ _ _ _ _ => pg_name (i := 10) sc_on.nd rfl (Or.inl rfl) (Or.inr rfl)) (fun _ _ _ _ _ => pts_nil)
        (fun _ _ _ _ _ => pe_def (X := Cx.blk _ _ _ _ _ _) D2 hr (pa_cons (pv 1) (pa_cons (pv 10) pa_nil))))
      (pss_cons (ps_if (PW.pt (pw_or (pt_cmpR (op_neD hr.units) (pe_def D3.d hr (pa_cons (pv 2) pa_nil)) (pv 4) (nomark _)) (pw_or (pt_cmpR (op_neD hr.units) (pe_defN D3 hr (pk_cons (pv 2) pk_nil)) (pv 4) (nomark _))
          (pw_or1 (pt_cmpR op_ne (pe_prp D7 Fc.cl hr (pv 2)) (pe_ix (r := rIxS2 K) ix_sq (pv 4) (pe_un un_neg pe_int) (fun _ _ => rfl)) (nomark _)))))) pss_dead pss_nil)
      (pss_cons (ps_par (i := 5) (j := 6) rfl sc_on.nd rfl rfl (by decide) rfl rfl (pa_cons (pe_def D5 hr (pa_cons (pv 1) pa_nil)) (pa_cons (pe_def D6 hr (pa_cons (pv 1) pa_nil)) pa_nil)) (by rfl))
      (pss_cons (ps_if (PW.pt (pw_or (pt_cmpR (op_neD hr.units) (pe_def D4.d hr (pa_cons (pv 2) pa_nil)) (pv 5) (nomark _)) (pw_or (pt_cmpR (op_neD hr.units) (pe_defN D4 hr (pk_cons (pv 2) pk_nil)) (pv 5) (nomark _))
          (pw_or1 (pt_not (pt_val (pe_callB (r := rIsi K) call_isi (by rfl) T.isi boot_isinstance (pa_cons (pe_def D4.d hr (pa_cons (pv 2) pa_nil)) (pa_cons (pe_bltn (v := .ty "tuple") (by rfl) T.tuple PyProof.Rows.boot_tuple rfl) pa_nil))))))))) pss_dead pss_nil)
      (pss_cons (ps_if (pt_cmpR (op_neD hr.units) (pe_def D4.d hr (pa_cons (pe_meth (pv 2) Fc.cl mT GT hr10 bT .nil pass0 (pa_cons (pe_un un_neg pe_int) pa_nil)) pa_nil))
          (pe_tup (pa_cons (pe_ix (r := rIxS2 K) ix_sq (pv 5) pe_int (fun _ _ => rfl)) (pa_cons (pe_ix (r := rIxS2 K) ix_sq (pv 5) pe_int (fun _ _ => rfl)) (pa_cons (pe_ix (r := rIxS2 K) ix_sq (pv 5) pe_int (fun _ _ => rfl)) pa_nil)))) (nomark _)) pss_dead pss_nil)
      (pss_cons (ps_set (i := 7) sc_on.nd rfl (Or.inl rfl) (pe_meth (pv 2) Fc.cl mL GL' hr10 bL .nil pass0 (pa_cons (pe_mkr DM Tc hr (pa_cons (pe_def D9 hr (pa_cons (pv 0) (pa_cons (pv 3) pa_nil))) pa_nil)) pa_nil)))
      (pss_cons (ps_if (PW.pt (pw_or (pt_cmpR (op_neD hr.units) (pe_def D4.d hr (pa_cons (pv 7) pa_nil)) (pv 5) (nomark _)) (pw_or (pt_cmpR op_ne (pe_prp D7 Fc.cl hr (pv 7)) (pe_ix (r := rIxS2 K) ix_sq (pv 4) (pe_un un_neg pe_int) (fun _ _ => rfl)) (nomark _))
          (pw_or (pt_cmpR op_ne (pe_meth0 (pv 7) Fc.cl mV GV hr1 bV .nil pass0) (pv 6) (nomark _)) (pw_or1 (pt_cmpR op_ne (pe_meth0 (pv 2) Fc.cl mV GV hr1 bV .nil pass0) (pv 6) (nomark _))))))) pss_dead pss_nil)
      (pss_cons (ps_set (i := 8) sc_on.nd rfl (Or.inl rfl) (pe_meth0 (pv 2) Fc.cl mS GS hr10 bS .nil pass0))
      (pss_cons (ps_if (PW.pt (pw_or (PW.pt (pw_and (pt_cmpR (opNe DE hr) (pe_meth (pv 8) Fc.cl mT GT hr10 bT .nil pass0 (pa_cons (pv 6) pa_nil)) (pv 2) (nomark _)) (pw_and1 (pt_cmpR op_gt (pv 6) pe_int (nomark _)))))
          (pw_or (pt_cmpR op_ne (pe_meth0 (pv 8) Fc.cl mV GV hr1 bV .nil pass0) (pe_callB (call_min2 rfl) (by rfl) hmin boot_min (pa_cons (pv 6) (pa_cons pe_int pa_nil))) (nomark _))
          (pw_or1 (pt_cmpR op_ne (pe_meth0 (pe_meth (pv 2) Fc.cl mT GT hr10 bT .nil pass0 (pa_cons pe_int pa_nil)) Fc.cl mV GV hr1 bV .nil pass0) (pe_op op_mulX pe_int (pv 6)) (nomark _)))))) pss_dead pss_nil)
      (pss_cons (ps_set (i := 9) sc_on.nd rfl (Or.inl rfl) (pe_def D3.d hr (pa_cons (pv 2) pa_nil)))
      (pss_cons (ps_expr (pe_bm PySem.F.plainAttrs_list PySem.F.slot_list_append PySem.F.type_list_append mt_append (pv 9) (pa_cons pe_non pa_nil)))
      (pss_one (ps_ret (pe_and (pe_cmpR (op_eqD hr.units) (pe_def D3.d hr (pa_cons (pv 2) pa_nil)) (pv 4) (nomark _)) (pe_and (pe_cmpR (op_eqD hr.units) (pe_prp D8 Fc.cl hr (pv 2)) (pe_def DTo hr (pa_cons (pv 1) pa_nil)) (nomark _))
        (pe_one (pe_or (pe_cmpR op_gt (pv 6) pe_int (nomark _)) (pe_one (pe_cmpR (opEq DE hr) (pv 8) (pv 2) (nomark _)))))))))))))))))))), ?_⟩
    have hh : Has (some p) H := fun q e => by cases e; exact hp
    obtain ⟨ra, rw', rfl, hra, hrl⟩ := rows_len (py_un rG) eM.sh
    have hS : Sq n M := eM.sq (by decide)
    refine r_seq (r_par2 (r_cons (mkF (a2 ⟨_, rfl, _, rfl, p, .ref ra, M, n, rfl, hp, rG, eM.sh, h3, fun v' d H1 s1 gv => MkF.of (.inl (py_un gv.py)) gv.gr h1 h3 sy eM (by decide) fun c1 H2 s2 f2 => ?_⟩))))
    have S2 := s1.trans (RX.of (p := some p) s2)
    have rG2 := py_rx rG S2
    have rU2 := py_un rG2
    obtain ⟨ra2, rw2, e2, hra2, hrl2⟩ := rows_len rU2 eM.sh
    cases e2
    refine r_cons (cb1 ⟨_, rfl, ra, _, rfl, .inl (.inl (.inl hra2)), _, _, rfl, ?_⟩)
    rw [hrl2]
    have hp2 := S2.pot p rfl hp
    -- due
    refine r_next (r_nseq (r_asg (tlc_call ⟨_, rfl, _, _, rfl, rfl, 1, _, rfl, ⟨by omega, by omega, by omega, by omega⟩, ?_⟩)))
    rw [show ((n : Int) + 1 - 1).toNat = n by omega]
    refine lc_el (p := none) n (fun i v => v = .int (dC M i)) has_none (by omega) (fun i H3 hi s3 => hi) (fun H3 s3 => Nat.le_refl _) (fun i x H3 H4 C' hi s3 _ hy hC => ?_) fun D3 H3 rs nD3 s3 hD3 hrs hE => ?_
    · obtain ⟨rfl, rfl⟩ := hy
      rw [show (1 : Int) + (i : Int) = ((i + 1 : Nat) : Int) by omega]
      exact ⟨rfl, a2 ⟨_, rfl, _, rfl, .ref ra, M, n, i + 1, rfl, rU2.mono s3.same, hS, h3, by omega, fun H5 s5 => hC _ _ (RX.of s5) rfl⟩⟩
    have er : rs = (crn n M).map V.int := by
      unfold crn
      rw [List.map_map]
      refine map_of_get (n := 0) _ (by rw [hrs, List.length_range]) fun j v e => ?_
      have hj : j < n := by rw [← hrs]; exact (List.getElem?_eq_some_iff.mp e).1
      exact ⟨j, List.getElem?_range hj, hE j v e⟩
    subst er
    have s3 := s3.same
    have f3 := f2.same s3
    have D3p : D3 ≠ p := fun z => by subst z; exact hp2.some_ nD3
    have pD3 : some p ≠ some D3 := fun z => D3p (by cases z; rfl)
    have lcr : ((crn n M).map V.int).length = n := by rw [List.length_map]; unfold crn; simp
    have lastE : atI ((crn n M).map V.int) (-1) = some (.int (detM n M)) := by
      refine atI_last lcr h1 ?_
      rw [← dC_last h1 eM.sh]
      unfold crn
      rw [List.getElem?_map, List.getElem?_map, List.getElem?_range (by omega)]
      rfl
    -- corners, the determinant
    refine r_next (r_nseq (r_if (r_or (r_tt (r_op (a1 ⟨_, rfl, .ref c1, M, n, 19, rfl, f3, by decide, fun D4 H4 s4 _ hD4 => ⟨_, rfl, r_neLi hD4 (s4 _ _ hD3) ⟨_, rfl, ifF (ne_noL rfl) ?_⟩⟩⟩))))))
    refine r_or (r_tt (r_op (n1 ⟨_, rfl, .ref c1, M, n, 19, rfl, f3.same s4, by decide, fun D5 H5 s5 _ hD5 => ⟨_, rfl, r_neLi hD5 ((s4.trans s5) _ _ hD3) ⟨_, rfl, ifF (ne_noL rfl) ?_⟩⟩⟩)))
    have s35 := s4.trans s5
    refine r_tt (r_op (r_prop ⟨_, rfl, p_det (f3.same s35).tab hS h3 fun H6 s6 => ⟨_, rfl, 1, rfl, false, D3, _, _, _, rfl, rfl, .inl (.inl ((s35.trans s6) _ _ hD3)), lastE, rfl, _, rfl, ifF (by simp) ?_⟩⟩))
    have s36 := s35.trans s6
    have f6 := f3.same s36
    have rU6 := rU2.mono (s3.trans s36)
    -- signs, divisor by the law
    refine r_next (r_nseq (r_par2 (r_cons (a1 ⟨_, rfl, .ref ra, M, n, rfl, rU6, hS, h1, h3, sy, fun pf H7 z s7 hz hpf => ?_⟩))))
    refine r_cons (a1 ⟨_, rfl, .ref ra, M, n, rfl, rU6.mono s7, eM.sh, fun H8 s8 => ⟨_, _, rfl, ?_⟩⟩)
    have f8 := f6.same (s7.trans s8)
    have hpf8 := s8 _ _ hpf
    have rv : ∀ H', Same H8 H' → RowV H' (.ref pf) [(sgA (polyM n M) : Int), (n : Int) - sgA (polyM n M) - z, (z : Int)] := fun H' t => ⟨pf, rfl, t _ _ hpf8⟩
    have row : ∀ (pt : Addr) (H' : Hp) (k z' : Nat), H' pt = some (.tup [.int (k : Nat), .int ((n : Int) - k - z'), .int (z' : Nat)]) → RowV H' (.ref pt) [(k : Int), (n : Int) - k - z', (z' : Int)] := fun pt H' k z' e => ⟨pt, rfl, e⟩
    refine r_next (r_nseq (r_if (r_or (r_tt (r_op (a1 ⟨_, rfl, .ref c1, M, n, 19, rfl, f8, by decide, fun pt H9 z' s9 hz' hpt => ⟨_, rfl, r_neRow (row pt _ _ _ hpt) (rv _ s9) ⟨_, rfl, ifF (ne_noR (by rw [isz_uniq hz' hz])) ?_⟩⟩⟩))))))
    refine r_or (r_tt (r_op (n1 ⟨_, rfl, .ref c1, M, n, 19, rfl, f8.same s9, by decide, fun pt2 H10 z2 s10 hz2 hpt2 => ⟨_, rfl, r_neRow (row pt2 _ _ _ hpt2) (rv _ (s9.trans s10)) ⟨_, rfl, ifF (ne_noR (by rw [isz_uniq hz2 hz])) ?_⟩⟩⟩)))
    have s810 := s9.trans s10
    refine r_not (r_b (r_cb (a1 ⟨_, rfl, .ref c1, M, n, 19, rfl, f8.same s810, by decide, fun pt3 H11 z3 s11 hz3 hpt3 => ⟨.ref pt3, .ty "tuple", _, _, _, rfl, .ty _, (show AnyV H11 (.ref pt3) (.tuple (iD [(sgA (polyM n M) : Int), (n : Int) - sgA (polyM n M) - z3, (z3 : Int)])) from .inl (.tup hpt3 (py_ints [(sgA (polyM n M) : Int), (n : Int) - sgA (polyM n M) - z3, (z3 : Int)]))).ty, kit_tup K (.tuple (iD [(sgA (polyM n M) : Int), (n : Int) - sgA (polyM n M) - z3, (z3 : Int)])), _, rfl, iteF ?_⟩⟩)))
    have s811 := s810.trans s11
    clear hpt hpt2 hpt3 hz' hz2 hz3
    -- times -3
    refine r_next (r_nseq (r_if (r_tt (r_op (a1 (r_meth1 ⟨_, rfl, mth (f8.same s811).tab ⟨3, rfl, .ref c1, M, -3, n, 19, 2, rfl, f8.same s811, by decide, by decide, by decide, fun d3 H12 s12 fd => ⟨.ref d3, _, n, _, rfl, fd, by decide, fun pt H13 z' s13 hz' hpt => ?_⟩⟩⟩))))))
    obtain ⟨ns, nz⟩ := sg_neg (c := -3) h1 h3 eM.sh sy (by decide) hz
    have hzz := isz_uniq hz' nz
    have s813 := s811.trans (s12.trans s13)
    have qf : SqV K H13 true pf [.int (sgA (polyM n M) : Nat), .int ((n : Int) - sgA (polyM n M) - z), .int (z : Nat)] := .inl (.inl (s813 _ _ hpf8))
    refine r_tup (r_cons ⟨_, rfl, true, pf, _, ((1 : Nat) : Int), _, rfl, rfl, qf, atI_nat (j := 1) rfl, r_cons ⟨_, rfl, true, pf, _, ((0 : Nat) : Int), _, rfl, rfl, qf, atI_nat (j := 0) rfl, r_cons ⟨_, rfl, true, pf, _, ((2 : Nat) : Int), _, rfl, rfl, qf, atI_nat (j := 2) rfl, (by show 3 ≤ sizeLine; decide), fun t2 nt2 => ?_⟩⟩⟩)
    refine r_neRow (s := [(n : Int) - sgA (polyM n M) - z, (sgA (polyM n M) : Int), (z : Int)]) (row pt _ _ _ (same_new nt2 _ _ hpt)) ⟨t2, rfl, upd_same⟩ ⟨_, rfl, ifF (ne_noR ?_) ?_⟩
    · rw [hzz, ns, show (n : Int) - ((n : Int) - (sgA (polyM n M) : Int) - (z : Int)) - (z : Int) = (sgA (polyM n M) : Int) by omega]
    have s814 := s813.trans (same_new (o := .tup [.int ((n : Int) - sgA (polyM n M) - z), .int (sgA (polyM n M) : Nat), .int (z : Nat)]) nt2)
    generalize upd H13 t2 (.tup [.int ((n : Int) - sgA (polyM n M) - z), .int (sgA (polyM n M) : Nat), .int (z : Nat)]) = H14 at s814
    clear qf hpt hz' hzz nz ns fd
    have s314 := s36.trans (s7.trans (s8.trans s814))
    have S14 := S2.trans (RX.of (s3.trans s314))
    have hp14 := S14.pot p rfl hp
    have hh14 : Has (some p) H14 := fun q e => by cases e; exact hp14
    have f14 := f8.same s814
    -- led
    refine r_next (r_nseq (r_asg (r_meth1 ⟨_, rfl, mth f14.tab (mkA (a2 ⟨_, rfl, _, rfl, p, n, rfl, hp14, h1, h3, fun Dt H15 U s15 pU bU dU => ?_⟩))⟩)))
    have gU : Gr n U := ⟨h1, h3, bU.sh, dU⟩
    have eU : SqE n 5 U := bU.e (by decide)
    have k15 := KS.rx s15 hh14
    refine MkA.of (.inl (py_un pU)) (grid_lm U) gU eU (by decide) fun d4 H16 s16 t16 => c_led ((f14.ks k15).same s16) t16 fun d5 H17 s17 f17 => ?_
    have s1517 := s16.trans s17
    have S17 := S14.trans (s15.trans (RX.of s1517))
    have f17c := (f14.ks k15).same s1517
    have dne : detM n U ≠ 0 := by rcases dU with e | e <;> rw [e] <;> decide
    obtain ⟨ls, lz⟩ := sg_led h1 h3 eM.sh sy gU.sh dne f17.bd.sh
    have ks1417 : ∀ (c : Addr) (o : HO), some p ≠ some c → H14 c = some o → H17 c = some o := fun c o ne e => s1517 _ _ (s15.keep c o ne e)
    have pfne : some p ≠ some pf := fun z => by
      cases z
      obtain ⟨x, y, e, _⟩ := hp14
      rw [s814 _ _ hpf8] at e
      cases e
    have hpf17 := ks1417 pf _ pfne (s814 _ _ hpf8)
    have hD317 := ks1417 D3 _ pD3 (s314 _ _ hD3)
    have rv17 : ∀ H', Same H17 H' → RowV H' (.ref pf) [(sgA (polyM n M) : Int), (n : Int) - sgA (polyM n M) - z, (z : Int)] := fun H' t => ⟨pf, rfl, t _ _ hpf17⟩
    refine r_next (r_nseq (r_if (r_or (r_tt (r_op (a1 ⟨_, rfl, .ref d5, _, n, _, rfl, f17, by decide, fun pt H18 z' s18 hz' hpt => ⟨_, rfl, r_neRow (row pt _ _ _ hpt) (rv17 _ s18) ⟨_, rfl, ifF (ne_noR (by rw [isz_uniq (lz _ hz') hz, ls])) ?_⟩⟩⟩))))))
    have hSl : Sq n (ldM n M U) := f17.bd.sq (by decide)
    refine r_or (r_tt (r_op (r_prop ⟨_, rfl, p_det (f17.same s18).tab hSl h3 fun H19 s19 => ⟨_, rfl, 1, rfl, false, D3, _, _, _, rfl, rfl, .inl (.inl ((s18.trans s19) _ _ hD317)), lastE, rfl, _, rfl, ifF (by rw [det_ld h1 h3 eM.sh gU.sh dU]; simp) ?_⟩⟩)))
    have s1719 := s18.trans s19
    refine r_or (r_tt (r_op (r_meth0 ⟨_, rfl, mth (f17.same s1719).tab ⟨.ref d5, _, n, _, rfl, f17.same s1719, fun H20 s20 => ⟨_, rfl, rfl, _, rfl, ifF (by rw [dv_led eM.sh gU f17.bd.sh]; simp) ?_⟩⟩⟩)))
    have s1720 := s1719.trans s20
    refine r_tt (r_op (r_meth0 ⟨_, rfl, mth (f17c.same s1720).tab ⟨.ref c1, M, n, 19, rfl, f17c.same s1720, fun H21 s21 => ⟨_, rfl, rfl, _, rfl, ifF (by simp) ?_⟩⟩⟩))
    have s1721 := s1720.trans s21
    have f21 := f17c.same s1721
    clear hpt hz' ls lz
    -- single
    refine r_next (r_nseq (r_asg (r_meth0 ⟨_, rfl, mth f21.tab ⟨.ref c1, M, n, 19, rfl, f21, by decide, by decide, fun u H22 s22 fu => ?_⟩⟩)))
    have f22 := f21.same s22
    have dvb : ((dvM M : Int)).natAbs < 2 ^ 19 := by rw [Int.natAbs_natCast]; exact dv_le eM
    refine r_next (r_nseq (r_if (r_or (r_and (r_tt (r_op (r_meth1 ⟨_, rfl, mth fu.tab ⟨_, rfl, u, snX M, (dvM M : Int), n, 19, 19, rfl, fu, dvb, by decide, by decide, fun d6 H23 s23 fd => ⟨_, rfl, rd_ne fd.tab (f22.same s23).tab ⟨_, rfl, ifF (ne_no sn_all) (ifF rfl ?_)⟩⟩⟩⟩)))))))
    refine r_or (r_tt (r_op (r_meth0 ⟨_, rfl, mth (fu.same s23).tab ⟨u, snX M, n, 19, rfl, fu.same s23, fun H24 s24 => ?_⟩⟩)))
    refine r_cb ⟨_, rfl, _, _, rfl, rfl, _, rfl, ifF (by rw [← sn_min]; simp) ?_⟩
    have s2224 := s23.trans s24
    refine r_tt (r_op (r_meth0 (r_meth1 ⟨_, rfl, mth (f22.same s2224).tab ⟨.ref c1, M, 4, n, 19, 3, rfl, f22.same s2224, by decide, by decide, by decide, fun d7 H25 s25 fd7 => ?_⟩⟩)))
    refine mth fd7.tab ⟨.ref d7, _, n, _, rfl, fd7, fun H26 s26 => ?_⟩
    refine r_op ⟨_, rfl, _, _, rfl, rfl, Wd.mul ⟨3, by decide, by decide⟩ ⟨19, by decide, dvb⟩, rfl, _, rfl, ifF (by rw [dv_mul]; simp) ?_⟩
    have s2226 := s2224.trans (s25.trans s26)
    have f26 := f22.same s2226
    have fu26 := fu.same s2226
    have s1726 := s1721.trans (s22.trans s2226)
    have S26 := S17.trans (RX.of s1726)
    have hp26 := S26.pot p rfl hp
    have hh26 : Has (some p) H26 := fun q e => by cases e; exact hp26
    -- corners told, changed
    refine r_next (r_nseq (r_asg (a1 ⟨_, rfl, .ref c1, M, n, 19, rfl, f26, by decide, fun D8 H27 s27 nD8 hD8 => ?_⟩)))
    refine r_next (r_nseq (d_bm ⟨_, rfl, .inl ⟨rfl, _, .inl (.inl hD8)⟩, r_cons (r_k ⟨D8, _, .non, rfl, rfl, hD8, Nat.lt_of_lt_of_le (by rw [lcr]; omega : _ < 1001) (by decide), ?_⟩)⟩))
    have R28 : RX (some p) H26 (upd H27 D8 (.lst ((crn n M).map V.int ++ [V.non]))) := (RX.of s27).mut nD8 hh26
    generalize upd H27 D8 (.lst ((crn n M).map V.int ++ [V.non])) = H28 at R28
    have k28 := KS.rx R28 hh26
    have f28 := f26.ks k28
    have fu28 := fu26.ks k28
    have S28 := S26.trans R28
    have hD328 := R28.keep D3 _ pD3 (s1726 _ _ hD317)
    have rU28 := py_un (py_rx rG S28)
    -- the end
    refine r_next (r_nret (r_andV (r_op (a1 ⟨_, rfl, .ref c1, M, n, 19, rfl, f28, by decide, fun D9 H29 s29 _ hD9 => ⟨_, rfl, r_eqLi hD9 (s29 _ _ hD328) ⟨_, rfl, ifT (decide_eq_true rfl) ?_⟩⟩⟩))))
    refine r_andV (r_op (r_prop ⟨_, rfl, p_rows (f28.same s29).tab fun r mr => ?_⟩))
    refine a1 ⟨_, rfl, .ref ra, lmD M, M, rfl, .inl (rU28.mono s29), grid_lm M, by rw [eM.len]; omega, fun v' H30 s30 mx => ?_⟩
    refine r_eqMx (mr.mono (KS.of s30)) mx ⟨_, rfl, ifT (decide_eq_true rfl) ?_⟩
    have S30 := S28.trans (RX.of (s29.trans s30))
    refine r_orV (r_op ⟨_, rfl, _, _, rfl, rfl, _, rfl, ?_⟩)
    by_cases zp : (0 : Int) < (dvM M : Int)
    · exact ifT (decide_eq_true zp) (q _ S30)
    · refine ifF (decide_eq_false zp) (r_op ⟨_, rfl, _, rfl, rd_eq (fu28.same (s29.trans s30)).tab (f28.same (s29.trans s30)).tab ?_⟩)
      have : snX M = M := by
        unfold snX
        rw [if_pos (by omega)]
      rw [decide_eq_true this]
      exact q _ S30
end
end T22
set_option Elab.async false
set_option linter.all false
set_option maxRecDepth 100000
set_option maxHeartbeats 8000000
namespace T22
open PySem PySem.Spec PyProof.Rows L2 Gd Zn Rp Dn Tb Gn En Zs Ct Op Oc Rg Rt Ro Oa
theorem ints_E6 {n : Nat} {xs : List V} (hl : xs.length = n) (hE : ∀ (i : Nat) (v : V), xs[i]? = some v → ∃ x : Int, v = .int x ∧ x ∈ H6) : ∃ hs : List Int, xs = hs.map V.int ∧ hs.length = n ∧ ∀ x ∈ hs, x ∈ H6 := by
  obtain ⟨zs, rfl, h⟩ := ints_El hE
  exact ⟨zs, rfl, by rw [← hl, List.length_map], h⟩
theorem h6_bd {x : Int} (h : x ∈ H6) : -6 ≤ x ∧ x ≤ 6 := by
  unfold H6 at h
  simp only [List.mem_cons, List.not_mem_nil, or_false] at h
  omega
theorem zero_sqe {n : Nat} : SqE n 19 (List.replicate n (List.replicate n (0 : Int))) := by
  refine ⟨by simp, fun r hr => ?_, fun r hr x hx => ?_⟩
  · rw [(List.mem_replicate.mp hr).2, List.length_replicate]
  · rw [(List.mem_replicate.mp hr).2] at hx
    rw [(List.mem_replicate.mp hx).2]
    decide
theorem zero_tr {n : Nat} (h1 : 1 ≤ n) (h3 : n ≤ 3) : transp n (List.replicate n (List.replicate n (0 : Int))) = List.replicate n (List.replicate n 0) := by
  have : n = 1 ∨ n = 2 ∨ n = 3 := by omega
  rcases this with rfl | rfl | rfl <;> decide
theorem cnt_take (f : Int → Bool) (l : List Int) : ∀ m, m ≤ l.length → ((List.range m).filter fun i => f (l.getD i 0)).length = ((l.take m).filter f).length
  | 0, _ => by simp
  | m + 1, h => by
    have hm : m < l.length := h
    rw [List.range_succ, List.filter_append, List.length_append, cnt_take f l m (by omega), List.take_add_one, List.getElem?_eq_getElem hm, List.filter_append, List.length_append]
    have e : l.getD m 0 = l[m] := by rw [List.getD_eq_getElem?_getD, List.getElem?_eq_getElem hm]; rfl
    congr 1
    cases z : f l[m] with
    | true => rw [List.filter_cons_of_pos (by rw [e]; exact z), Option.toList_some, List.filter_cons_of_pos z]; rfl
    | false => rw [List.filter_cons_of_neg (by rw [e, z]; decide), Option.toList_some, List.filter_cons_of_neg (by rw [z]; decide)]; rfl
theorem cnt_all (f : Int → Bool) {l : List Int} {n : Nat} (h : l.length = n) : ((List.range n).filter fun i => f (l.getD i 0)).length = (l.filter f).length := by
  rw [cnt_take f l n (by omega), List.take_of_length_le (by omega)]
section
variable {P : Program} {w : World} {K : PySem.W.Frag} {mg : Str → Option Value} {base : Heap} {C F : Addr}
abbrev st_ri : Stmt := top 60
abbrev N_ri : List Str := ["_law_pot_here", "_law_size", "_law_rows_here", "_law_heads", "_law_made", "_law_due", "_law_place", "_law_one", "_law_row"]
theorem sc_ri : FnScope N_ri ["_law_pot_here"] (defScope st_ri) := ⟨rfl, rfl, rfl, by decide +kernel, rfl, by decide +kernel, by decide +kernel⟩
theorem ok_ri {f : Addr} {fd : FuncData} (F' : Fun K "_law_right" "_law_right" st_ri f fd) (T : Txt mg) (Fc : Fcl K mg F) (DF : MkrF P w K mg base F) (D1 : Def P w K mg base "_law_draw" 1 ["_law_pot_here", "_law_size"] sp_draw) (D2 : Def P w K mg base "_law_rows" 2 ["_law_pot_here", "_law_size", "_law_most"] sp_lrows) (D3 : Def P w K mg base "_law_pick" 2 ["_law_pot_here", "_law_some"] sp_pick)
    (D4 : Def P w K mg base "_law_built" 3 ["_law_pot_here", "_law_size", "_law_heads"] sp_lblt) (D5 : Def P w K mg base "_law_one_right" 11 ["_law_pot_here", "_law_rows_here"] sp_on) (D6 : Def P w K mg base "signs" 9 ["form"] (sp_sg F)) :
    FnG P w K mg base CX0 12 f fd ["_law_pot_here"] sp_right := by
  refine okG F' sc_ri (fun vs H Q E h => ?_) (fun cdv A outer s H vs Q E hst hr h => ?_)
  · obtain ⟨p, rfl, _⟩ := h
    rfl
  · obtain ⟨p, rfl, hp, q⟩ := h
    refine ⟨_, pss_cons (ps_set (i := 1) sc_ri.nd rfl (Or.inr rfl) (pe_op op_add pe_int (pe_def D1 hr (pa_cons (pv 0) (pa_cons pe_int pa_nil)))))
      (pss_cons (ps_set (i := 2) sc_ri.nd rfl (Or.inl rfl) (pe_def D2 hr (pa_cons (pv 0) (pa_cons (pv 1) (pa_cons (pe_def D3 hr (pa_cons (pv 0) (pa_cons (pe_lst (pa_cons pe_int (pa_cons pe_int (pa_cons pe_int pa_nil)))) pa_nil))) pa_nil)))))
      (pss_cons (ps_if (pt_not (pt_val (pe_def D5 hr (pa_cons (pv 0) (pa_cons (pv 2) pa_nil))))) pss_dead pss_nil)
      (pss_cons (ps_setLc (i := 3) (own := [("_law_place", 6)]) (g := gName 6) (tt := tYes) rfl sc_ri.nd rfl rfl (sw_true rfl rfl rfl (by decide +kernel)) (pi_range1 (by rfl) T.range (pa_cons (pv 1) pa_nil))
          (blkOk_by (N := N_ri) (sc := defScope st_ri) (by decide +kernel)) (fun _ _ _ _ _ => pg_name (i := 6) sc_ri.nd rfl (Or.inl rfl) (Or.inr rfl)) (fun _ _ _ _ _ => pts_nil)
          (fun _ _ _ _ _ => pe_def (X := Cx.blk _ _ _ _ _ _) D3 hr (pa_cons (pv 0) (pa_cons (pe_lst (pa_cons pe_int (pa_cons pe_int (pa_cons (pe_un un_neg pe_int) (pa_cons (pe_un un_neg pe_int) (pa_cons pe_int (pa_cons pe_int pa_nil))))))) pa_nil))))
      (pss_cons (ps_set (i := 4) sc_ri.nd rfl (Or.inl rfl) (pe_def D4 hr (pa_cons (pv 0) (pa_cons (pv 1) (pa_cons (pv 3) pa_nil)))))
      (pss_cons (ps_set (i := 5) sc_ri.nd rfl (Or.inl rfl) (pe_tup (pa_cons (pe_callB (r := Dn.rLen K) c_len (by rfl) T.len PySem.boot_len (pa_cons (pe_lc (own := [("_law_one", 7)]) (g := gName 7) rfl sc_ri.nd (pi_seq (pv 3))
            (blkOk_by (N := N_ri) (sc := defScope st_ri) (by decide +kernel)) (fun _ _ _ _ _ => pg_name (i := 7) sc_ri.nd rfl (Or.inl rfl) (Or.inr rfl)) (fun _ _ _ _ _ => pts_one (pt_cmpR op_gt (pv 7) pe_int (nomark _))) (fun _ _ _ _ _ => pv 7)) pa_nil))
          (pa_cons (pe_callB (r := Dn.rLen K) c_len (by rfl) T.len PySem.boot_len (pa_cons (pe_lc (own := [("_law_one", 7)]) (g := gName 7) rfl sc_ri.nd (pi_seq (pv 3))
            (blkOk_by (N := N_ri) (sc := defScope st_ri) (by decide +kernel)) (fun _ _ _ _ _ => pg_name (i := 7) sc_ri.nd rfl (Or.inl rfl) (Or.inr rfl)) (fun _ _ _ _ _ => pts_one (pt_cmpR op_lt (pv 7) pe_int (nomark _))) (fun _ _ _ _ _ => pv 7)) pa_nil))
          (pa_cons (pe_callB (r := Dn.rLen K) c_len (by rfl) T.len PySem.boot_len (pa_cons (pe_lc (own := [("_law_one", 7)]) (g := gName 7) rfl sc_ri.nd (pi_seq (pv 3))
            (blkOk_by (N := N_ri) (sc := defScope st_ri) (by decide +kernel)) (fun _ _ _ _ _ => pg_name (i := 7) sc_ri.nd rfl (Or.inl rfl) (Or.inr rfl)) (fun _ _ _ _ _ => pts_one (pt_cmpR op_eq (pv 7) pe_int (nomark _))) (fun _ _ _ _ _ => pv 7)) pa_nil)) pa_nil)))))
      (pss_cons (ps_if (pt_cmpR (op_neD hr.units) (pe_def D6 hr (pa_cons (pe_mkrF DF Fc hr (pa_cons (pv 4) pa_nil)) pa_nil)) (pv 5) (nomark _)) pss_dead pss_nil)
      (pss_one (ps_ret (pe_and (pe_def D5 hr (pa_cons (pv 0) (pa_cons (pv 4) pa_nil))) (pe_one (pe_def D5 hr (pa_cons (pv 0) (pa_cons (pe_lc (own := [("_law_row", 8)]) (g := gName 8) (tt := tYes) rfl sc_ri.nd (pi_range1 (by rfl) T.range (pa_cons (pv 1) pa_nil))
          (blkOk_by (N := N_ri) (sc := defScope st_ri) (by decide +kernel)) (fun _ _ _ _ _ => pg_name (i := 8) sc_ri.nd rfl (Or.inl rfl) (Or.inr rfl)) (fun _ _ _ _ _ => pts_nil) (fun _ _ _ _ _ => pe_op op_rep (pe_lst (pa_cons pe_int pa_nil)) (pv 1))) pa_nil))))))))))))), ?_⟩
    have hh : Has (some p) H := fun q e => by cases e; exact hp
    refine r_seq (r_asg (r_op ⟨_, rfl, p, 3, rfl, hp, by decide, by decide, fun r H1 r0 r1 s1 => ⟨_, _, rfl, rfl, ?_⟩⟩))
    obtain ⟨n, en⟩ : ∃ n : Nat, 1 + r = (n : Int) := ⟨(1 + r).toNat, by omega⟩
    have h1 : 1 ≤ n := by omega
    have h3 : n ≤ 3 := by omega
    have ev : (fun i j : Int => V.int (i + j)) 1 r = V.int (n : Int) := congrArg V.int en
    rw [ev]
    have hp1 := s1.pot p rfl hp
    refine r_next (r_nseq (r_asg (a3 ⟨_, rfl, _, rfl, a2 ⟨_, rfl, r_lst ⟨(by show 3 ≤ sizeLine; decide), fun l nl => ?_⟩⟩⟩)))
    refine ⟨p, l, _, rfl, (RX.new (p := some p) nl).pot p rfl hp1, upd_same, fun z => by subst z; exact hp1.some_ nl, (by show 0 < 3; decide), (by show 3 < 1000; decide), fun j x H2 ex s2 => ?_⟩
    obtain ⟨m, rfl, hm⟩ : ∃ m : Nat, x = .int m ∧ m ≤ 6 := by
      have mm := List.mem_of_getElem? ex
      simp only [List.mem_cons, List.not_mem_nil, or_false] at mm
      rcases mm with rfl | rfl | rfl
      · exact ⟨1, rfl, by decide⟩
      · exact ⟨2, rfl, by decide⟩
      · exact ⟨6, rfl, by decide⟩
    have S2 := s1.trans ((RX.new nl).trans s2)
    refine ⟨p, n, m, rfl, S2.pot p rfl hp, h1, h3, by omega, fun D3 H3 M s3 pM bM tM => ?_⟩
    have S3 := S2.trans s3
    refine r_next (r_nseq (r_if (r_not (r_b (a2 ⟨_, rfl, _, rfl, p, .ref D3, M, n, rfl, S3.pot p rfl hp, pM, h1, h3, bM.e (Nat.lt_of_le_of_lt (by omega : _ ≤ 6) (by decide)), tM, fun H4 s4 => ⟨_, rfl, ifF rfl ?_⟩⟩)))))
    have S4 := S3.trans s4
    have hp4 := S4.pot p rfl hp
    have hh4 : Has (some p) H4 := fun q e => by cases e; exact hp4
    -- heads
    refine r_next (r_nseq (r_asg (tlc_call ⟨_, rfl, (n : Int), rfl, by omega, by omega, ?_⟩)))
    rw [Int.toNat_natCast]
    refine lc_el (p := some p) n (fun i v => ∃ x : Int, v = .int x ∧ x ∈ H6) hh4 (by omega) (fun i H2 hi s2 => hi) (fun H2 s2 => Nat.le_refl _) (fun i x H5 H6' C' hi s5 hp5 hy hC => ?_) fun Dh H5 xs nDh s5 hDh hxl hE => ?_
    · obtain ⟨rfl, rfl⟩ := hy
      have hpo := hp5 p rfl
      refine ⟨rfl, a2 ⟨_, rfl, r_lst (r_k (r_cons (r_k (r_cons ⟨1, rfl, r_cons ⟨3, rfl, r_k (r_cons (r_k ⟨(by show 6 ≤ sizeLine; decide), fun l nl => ?_⟩))⟩⟩))))⟩⟩
      refine ⟨p, l, _, rfl, (RX.new (p := some p) nl).pot p rfl hpo, upd_same, fun z => by subst z; exact hpo.some_ nl, (by show 0 < 6; decide), (by show 6 < 1000; decide), fun j x H6 ex s6 => hC _ _ ((RX.new nl).trans s6) ?_⟩
      have mm := List.mem_of_getElem? ex
      simp only [List.mem_cons, List.not_mem_nil, or_false] at mm
      rcases mm with rfl | rfl | rfl | rfl | rfl | rfl <;> exact ⟨_, rfl, by decide⟩
    obtain ⟨hs, rfl, lh, bh⟩ := ints_E6 hxl hE
    have S5 := S4.trans s5
    have hp5 := S5.pot p rfl hp
    have dne : Dh ≠ p := fun z => by subst z; exact hp4.some_ nDh
    -- made
    refine r_next (r_nseq (r_asg (a3 ⟨_, rfl, _, rfl, _, rfl, p, Dh, n, hs, rfl, hp5, h1, h3, li_hid hDh dne, lh, fun x hx => h6_bd (bh x hx), fun D6 H6 Bs s6 pL bL tL hB dB => ?_⟩)))
    have S6 := S5.trans s6
    have hD6 := s6.keep Dh _ (fun z => dne (by cases z; rfl)) hDh
    have gh : ∀ i, i < n → (hs.map V.int)[i]? = some (V.int (hs.getD i 0)) := fun i hi => by
      rw [List.getElem?_map, List.getElem?_eq_getElem (by omega : i < hs.length), List.getD_eq_getElem?_getD, List.getElem?_eq_getElem (by omega : i < hs.length)]
      rfl
    have qh : ∀ H', Same H6 H' → SqV K H' false Dh (hs.map V.int) := fun H' t => .inl (.inl (t _ _ hD6))
    have lhm : (hs.map V.int).length = n := by rw [List.length_map, lh]
    -- due
    refine r_next (r_nseq (r_asg (r_tup (r_cons (cb1 (tlc_call ⟨_, rfl, false, Dh, _, rfl, qh _ (Same.refl _), ?_⟩))))))
    refine lc_if (p := none) n (fun i => decide (0 < hs.getD i 0)) (fun i => V.int (hs.getD i 0)) has_none (by omega) (fun i H2 hi s2 => its_go (qh _ s2.same) (gh i hi)) (fun H2 s2 => its_stop (qh _ s2.same) (by omega)) (fun i x H2 H3 C1 C0 hi s2 _ hy hC hC0 => ?_) fun D7 H7 nD7 s7 hD7 => ?_
    · obtain ⟨rfl, ex⟩ := its_yld hy (qh _ s2.same)
      rw [gh i hi] at ex
      cases ex
      refine ⟨rfl, _, rfl, _, _, rfl, rfl, _, rfl, ?_⟩
      by_cases z : 0 < hs.getD i 0
      · exact ifT (decide_eq_true z) ⟨_, rfl, hC _ (RX.refl _) (decide_eq_true z)⟩
      · exact ifF (decide_eq_false z) (hC0 _ (RX.refl _) (decide_eq_false z))
    refine ⟨D7, _, rfl, .inl (.inl (.inl hD7)), ?_⟩
    rw [List.length_map, cnt_all (fun x => decide (0 < x)) lh]
    refine r_cons (cb1 (tlc_call ⟨_, rfl, false, Dh, _, rfl, qh _ s7.same, ?_⟩))
    refine lc_if (p := none) n (fun i => decide (hs.getD i 0 < 0)) (fun i => V.int (hs.getD i 0)) has_none (by omega) (fun i H2 hi s2 => its_go (qh _ (s7.same.trans s2.same)) (gh i hi)) (fun H2 s2 => its_stop (qh _ (s7.same.trans s2.same)) (by omega)) (fun i x H2 H3 C1 C0 hi s2 _ hy hC hC0 => ?_) fun D8 H8 nD8 s8 hD8 => ?_
    · obtain ⟨rfl, ex⟩ := its_yld hy (qh _ (s7.same.trans s2.same))
      rw [gh i hi] at ex
      cases ex
      refine ⟨rfl, _, rfl, _, _, rfl, rfl, _, rfl, ?_⟩
      by_cases z : hs.getD i 0 < 0
      · exact ifT (decide_eq_true z) ⟨_, rfl, hC _ (RX.refl _) (decide_eq_true z)⟩
      · exact ifF (decide_eq_false z) (hC0 _ (RX.refl _) (decide_eq_false z))
    refine ⟨D8, _, rfl, .inl (.inl (.inl hD8)), ?_⟩
    rw [List.length_map, cnt_all (fun x => decide (x < 0)) lh]
    have s68 := s7.same.trans s8.same
    refine r_cons (cb1 (tlc_call ⟨_, rfl, false, Dh, _, rfl, qh _ s68, ?_⟩))
    refine lc_if (p := none) n (fun i => decide (hs.getD i 0 = 0)) (fun i => V.int (hs.getD i 0)) has_none (by omega) (fun i H2 hi s2 => its_go (qh _ (s68.trans s2.same)) (gh i hi)) (fun H2 s2 => its_stop (qh _ (s68.trans s2.same)) (by omega)) (fun i x H2 H3 C1 C0 hi s2 _ hy hC hC0 => ?_) fun D9 H9 nD9 s9 hD9 => ?_
    · obtain ⟨rfl, ex⟩ := its_yld hy (qh _ (s68.trans s2.same))
      rw [gh i hi] at ex
      cases ex
      refine ⟨rfl, _, rfl, rfl, _, rfl, ?_⟩
      rw [dec_int]
      by_cases z : hs.getD i 0 = 0
      · exact ifT (decide_eq_true z) ⟨_, rfl, hC _ (RX.refl _) (decide_eq_true z)⟩
      · exact ifF (decide_eq_false z) (hC0 _ (RX.refl _) (decide_eq_false z))
    refine ⟨D9, _, rfl, .inl (.inl (.inl hD9)), ?_⟩
    rw [List.length_map, cnt_all (fun x => decide (x = 0)) lh]
    refine ⟨(by show 3 ≤ sizeLine; decide), fun td ntd => ?_⟩
    have s69 := s68.trans (s9.same.trans (same_new (o := .tup [.int (posC hs : Nat), .int (negC hs : Nat), .int (nulC hs : Nat)]) ntd))
    have htd : upd H9 td (.tup [.int (posC hs : Nat), .int (negC hs : Nat), .int (nulC hs : Nat)]) td = some (.tup [.int (posC hs : Nat), .int (negC hs : Nat), .int (nulC hs : Nat)]) := upd_same
    show Ends.nx _ _ (upd H9 td (.tup [.int (posC hs : Nat), .int (negC hs : Nat), .int (nulC hs : Nat)]))
    generalize upd H9 td (.tup [.int (posC hs : Nat), .int (negC hs : Nat), .int (nulC hs : Nat)]) = H10 at s69 htd
    have S10 := S6.trans (RX.of s69)
    have pL10 := py_rx pL (RX.of s69)
    clear hD7 hD8 hD9 qh
    -- signs of the made form
    refine r_next (r_nseq (r_if (r_tt (r_op (a1 (mkF ⟨_, rfl, MkF.of (.inl (py_un pL10)) (grid_lm _) h1 h3 tL bL (by decide) fun c H11 s11 f11 => ⟨.ref c, _, n, 19, rfl, f11, by decide, fun pt H12 z s12 hz hpt => ?_⟩⟩))))))
    obtain ⟨e1, e2⟩ := sg_led h1 h3 (diag_sqe (fun x hx => h6_bd (bh x hx)) lh).sh (diag_sy h1 h3) hB dB bL.sh
    obtain ⟨g1, g2⟩ := dg h1 h3 lh bh
    have ez := isz_uniq (e2 z hz) g2
    have ec := cnt3 hs
    refine ⟨_, rfl, r_neRow (r := [(sgA (polyM n (ldM n (diagM n hs) Bs)) : Int), (n : Int) - sgA (polyM n (ldM n (diagM n hs) Bs)) - z, (z : Int)]) (s := [(posC hs : Int), (negC hs : Int), (nulC hs : Int)]) ⟨pt, rfl, hpt⟩ ⟨td, rfl, (s11.trans s12) _ _ htd⟩ ⟨_, rfl, ifF (ne_noR ?_) ?_⟩⟩
    · rw [e1, g1, ez, show (n : Int) - (posC hs : Int) - (nulC hs : Int) = (negC hs : Int) by omega]
    have s1012 := s11.trans s12
    have S12 := S10.trans (RX.of s1012)
    refine r_next (r_nret (r_andV (a2 ⟨_, rfl, _, rfl, p, .ref D6, _, n, rfl, S12.pot p rfl hp, py_rx pL10 (RX.of s1012), h1, h3, bL, tL, fun H13 s13 => ⟨_, rfl, ifT rfl ?_⟩⟩)))
    have S13 := S12.trans s13
    have hp13 := S13.pot p rfl hp
    -- noughts
    refine a2 ⟨_, rfl, tlc_call ⟨_, rfl, (n : Int), rfl, by omega, by omega, ?_⟩⟩
    rw [Int.toNat_natCast]
    refine lc_new (p := none) n (fun i o => o = .lst ((List.replicate n (0 : Int)).map V.int)) has_none (by omega) (fun i H2 hi s2 => hi) (fun H2 s2 => Nat.le_refl _) (fun i x H2 H3 C' hi s2 _ hy hC => ?_) fun Da H14 cs nD s14 hD hl nd nDb fr hE => ?_
    · obtain ⟨rfl, rfl⟩ := hy
      refine ⟨rfl, r_op (r_lst ⟨(by show 1 ≤ sizeLine; decide), fun l nl => ⟨_, rfl, l, _, [V.int 0], rfl, rfl, upd_same, by omega, by omega, ?_, fun c nc => ?_⟩⟩)⟩
      · rw [Int.toNat_natCast]
        exact Nat.le_trans (by simp; omega : _ ≤ 100) (by decide)
      · rw [Int.toNat_natCast, rep_flat]
        refine hC c _ _ (RX.of ((same_new nl).trans (same_new nc))) (Same.free (same_new nl) nc) upd_same ?_
        rw [List.map_replicate]
    have hk : ∀ (b : Addr), H13 b = none → hid (some p) H14 b = H14 b := fun b e => hid_at (fun z => by cases z; exact hp13.some_ e)
    have pz : PyV (hid (some p) H14) (.ref Da) (lmD (List.replicate n (List.replicate n (0 : Int)))) := by
      refine lm_of (bs := cs) (by rw [hk Da nD]; exact hD) (by rw [hl, List.length_replicate]) fun i b e => ?_
      obtain ⟨o, g1, g2⟩ := hE i b e
      have hi : i < n := by rw [← hl]; exact (List.getElem?_eq_some_iff.mp e).1
      rw [hk b (fr b (List.mem_of_getElem? e)), g1, g2]
      rw [List.getD_eq_getElem?_getD, List.getElem?_replicate, if_pos hi]
      rfl
    have S14 := S13.trans (RX.of s14.same)
    exact ⟨p, .ref Da, _, n, rfl, S14.pot p rfl hp, pz, h1, h3, zero_sqe, zero_tr h1 h3, fun H15 s15 => q _ (S14.trans s15)⟩
end
section
variable {K : PySem.W.Frag} {P : Program} {w : World} {mg : Str → Option Value} {base : Heap} {F C : Addr}
abbrev st_law : Stmt := top 61
abbrev N_law : List Str := ["_law_script", "_law_k"]
theorem sc_law : FnScope N_law ["_law_script"] (defScope st_law) := ⟨rfl, rfl, rfl, by decide +kernel, rfl, by decide +kernel, by decide +kernel⟩
theorem ok_law {f : Addr} {fd : FuncData} (F' : Fun K "law" "law" st_law f fd) (T : Txt mg) (hmin : mg "min" = none) (D1 : Def P w K mg base "_law_pot" 1 ["_law_script", "_law_k"] (sp_pot K)) (D2 : DefG P w K mg base "_law_right" 12 ["_law_pot_here"] sp_right) :
    FnG P w K mg base CX0 13 f fd ["_law_script"] (sp_law K) := by
  refine okG F' sc_law (fun vs H Q E h => ?_) (fun cdv A outer s H vs Q E hst hr h => ?_)
  · obtain ⟨a, ns, rfl, _⟩ := h
    rfl
  · obtain ⟨a, ns, rfl, hS, hl, q⟩ := h
    refine ⟨_, pss_cons (ps_for PassesOwn.never rfl (pi_range1 (by rfl) T.range (pa_cons (pe_callB (call_max2 rfl) (by rfl) T.max boot_max (pa_cons pe_int (pa_cons (pe_callB (call_min2 rfl) (by rfl) hmin boot_min (pa_cons pe_int (pa_cons (pe_callB (r := Dn.rLen K) c_len (by rfl) T.len PySem.boot_len (pa_cons (pv 0) pa_nil)) pa_nil))) pa_nil))) pa_nil)) (pg_name (i := 1) sc_law.nd rfl (Or.inl rfl))
        (pss_one (ps_if (pt_not (pt_val (pe_defG D2 hst hr (pa_cons (pe_def D1 hr (pa_cons (pv 0) (pa_cons (pv 1) pa_nil))) pa_nil)))) (pss_one (ps_ret pe_bl)) pss_nil)))
      (pss_one (ps_ret pe_bl)), ?_⟩
    obtain ⟨m, em, m2⟩ := count_of ((ns.map V.int).length) 2 (by decide)
    refine ⟨_, rfl, a, _, rfl, .inl hS, _, _, rfl, _, _, rfl, (m : Int), congrArg (fun x => [V.int x]) em, by omega, by omega, ?_⟩
    rw [Int.toNat_natCast]
    refine for_range (lo := 0) (n := m) (fun i σ H' => ∃ x1, σ = [some (.ref a), x1] ∧ Same H H') ⟨_, rfl, Same.refl H⟩ (fun i σ H' hi hP => ?_) (fun σ H' hP => ?_)
    · obtain ⟨x1, rfl, s0⟩ := hP
      refine r_if (r_not (r_tt (a1 (a2 ⟨_, rfl, _, rfl, a, ns, _, rfl, Same.seq s0 hS, hl, by omega, by omega, fun p H4 np s4 hp4 => ?_⟩))))
      refine ⟨p, rfl, hp4, fun H5 s5 => ⟨_, rfl, iteF ?_⟩⟩
      refine ⟨_, rfl, fun c o e => ?_⟩
      have e0 := s0 c o e
      have nc : p ≠ c := fun z => by subst z; rw [e0] at np; cases np
      exact s5.keep c o (by intro z; cases z; exact nc rfl) (s4 c o e0)
    · obtain ⟨x1, rfl, s0⟩ := hP
      exact q H'
end
end T22
set_option Elab.async false
set_option linter.all false
set_option maxRecDepth 100000
set_option maxHeartbeats 4000000
namespace T22
open PySem PySem.Spec PyProof.Rows L2 Gd Zn Rp Dn Tb Gn En Zs Ct Op Oc Rg Rt Ro Oa
theorem all_mk {l : PySem.W.OpenLaw} {w : World} {K : PySem.W.Frag} {h : Heap} {mg : Str → Option Value} {fa : Addr} (X : K.In h) (G : h.Ns mainGlobals mg) (hfa : mg "law" = some (.ref fa))
    {C f_is_integer f_is_list f_is_row f_is_row_of f_is_grid f_copied f_across f_scalar f_led_row f_multiplied f_without f_leading f_determinant_of f_cofactor f_trace_of f_polynomial_of f_check_table f_check_alike f_check_form f_corners f_signs f__law_pot f__law_draw f__law_pick f__law_rows f__law_passed f__law_between f__law_table f__law_column f__law_led f__law_told f__law_minor f__law_corner f__law_lots_below f__law_middle f__law_signs f__law_built f__law_divisor f__law_one_right f__law_right f_law f_T___init__ f_T_rows f_T_size f_Fm___init__ f_Fm_rows f_Fm_size f_Fm_determinant f_Fm___eq__ f_Fm_times f_Fm_led f_Fm_divisor f_Fm_single : Addr}
    {od_is_integer an_is_integer od_is_list an_is_list od_is_row an_is_row od_is_row_of an_is_row_of od_is_grid an_is_grid od_copied an_copied od_across an_across od_scalar an_scalar od_led_row an_led_row od_multiplied an_multiplied od_without an_without od_leading an_leading od_determinant_of an_determinant_of od_cofactor an_cofactor od_trace_of an_trace_of od_polynomial_of an_polynomial_of od_check_table an_check_table od_check_alike an_check_alike od_check_form an_check_form od_corners an_corners od_signs an_signs od__law_pot an__law_pot od__law_draw an__law_draw od__law_pick an__law_pick od__law_rows an__law_rows od__law_passed an__law_passed od__law_between an__law_between od__law_table an__law_table od__law_column an__law_column od__law_led an__law_led od__law_told an__law_told od__law_minor an__law_minor od__law_corner an__law_corner od__law_lots_below an__law_lots_below od__law_middle an__law_middle od__law_signs an__law_signs od__law_built an__law_built od__law_divisor an__law_divisor od__law_one_right an__law_one_right od__law_right an__law_right od_law an_law od_T___init__ an_T___init__ od_T_rows an_T_rows od_T_size an_T_size od_Fm___init__ an_Fm___init__ od_Fm_rows an_Fm_rows od_Fm_size an_Fm_size od_Fm_determinant an_Fm_determinant od_Fm___eq__ an_Fm___eq__ od_Fm_times an_Fm_times od_Fm_led an_Fm_led od_Fm_divisor an_Fm_divisor od_Fm_single an_Fm_single : Option Addr}
    {sl_is_integer sl_is_list sl_is_row sl_is_row_of sl_is_grid sl_copied sl_across sl_scalar sl_led_row sl_multiplied sl_without sl_leading sl_determinant_of sl_cofactor sl_trace_of sl_polynomial_of sl_check_table sl_check_alike sl_check_form sl_corners sl_signs sl__law_pot sl__law_draw sl__law_pick sl__law_rows sl__law_passed sl__law_between sl__law_table sl__law_column sl__law_led sl__law_told sl__law_minor sl__law_corner sl__law_lots_below sl__law_middle sl__law_signs sl__law_built sl__law_divisor sl__law_one_right sl__law_right sl_law sl_T___init__ sl_T_rows sl_T_size sl_Fm___init__ sl_Fm_rows sl_Fm_size sl_Fm_determinant sl_Fm___eq__ sl_Fm_times sl_Fm_led sl_Fm_divisor sl_Fm_single : Array (Option Value)}
    {oc_is_integer kV_is_integer dc_is_integer pm_is_integer cd_is_integer ct_is_integer oc_is_list kV_is_list dc_is_list pm_is_list cd_is_list ct_is_list oc_is_row kV_is_row dc_is_row pm_is_row cd_is_row ct_is_row oc_is_row_of kV_is_row_of dc_is_row_of pm_is_row_of cd_is_row_of ct_is_row_of oc_is_grid kV_is_grid dc_is_grid pm_is_grid cd_is_grid ct_is_grid oc_copied kV_copied dc_copied pm_copied cd_copied ct_copied oc_across kV_across dc_across pm_across cd_across ct_across oc_scalar kV_scalar dc_scalar pm_scalar cd_scalar ct_scalar oc_led_row kV_led_row dc_led_row pm_led_row cd_led_row ct_led_row oc_multiplied kV_multiplied dc_multiplied pm_multiplied cd_multiplied ct_multiplied oc_without kV_without dc_without pm_without cd_without ct_without oc_leading kV_leading dc_leading pm_leading cd_leading ct_leading oc_determinant_of kV_determinant_of dc_determinant_of pm_determinant_of cd_determinant_of ct_determinant_of oc_cofactor kV_cofactor dc_cofactor pm_cofactor cd_cofactor ct_cofactor oc_trace_of kV_trace_of dc_trace_of pm_trace_of cd_trace_of ct_trace_of oc_polynomial_of kV_polynomial_of dc_polynomial_of pm_polynomial_of cd_polynomial_of ct_polynomial_of oc_check_table kV_check_table dc_check_table pm_check_table cd_check_table ct_check_table oc_check_alike kV_check_alike dc_check_alike pm_check_alike cd_check_alike ct_check_alike oc_check_form kV_check_form dc_check_form pm_check_form cd_check_form ct_check_form oc_corners kV_corners dc_corners pm_corners cd_corners ct_corners oc_signs kV_signs dc_signs pm_signs cd_signs ct_signs oc__law_pot kV__law_pot dc__law_pot pm__law_pot cd__law_pot ct__law_pot oc__law_draw kV__law_draw dc__law_draw pm__law_draw cd__law_draw ct__law_draw oc__law_pick kV__law_pick dc__law_pick pm__law_pick cd__law_pick ct__law_pick oc__law_rows kV__law_rows dc__law_rows pm__law_rows cd__law_rows ct__law_rows oc__law_passed kV__law_passed dc__law_passed pm__law_passed cd__law_passed ct__law_passed oc__law_between kV__law_between dc__law_between pm__law_between cd__law_between ct__law_between oc__law_table kV__law_table dc__law_table pm__law_table cd__law_table ct__law_table oc__law_column kV__law_column dc__law_column pm__law_column cd__law_column ct__law_column oc__law_led kV__law_led dc__law_led pm__law_led cd__law_led ct__law_led oc__law_told kV__law_told dc__law_told pm__law_told cd__law_told ct__law_told oc__law_minor kV__law_minor dc__law_minor pm__law_minor cd__law_minor ct__law_minor oc__law_corner kV__law_corner dc__law_corner pm__law_corner cd__law_corner ct__law_corner oc__law_lots_below kV__law_lots_below dc__law_lots_below pm__law_lots_below cd__law_lots_below ct__law_lots_below oc__law_middle kV__law_middle dc__law_middle pm__law_middle cd__law_middle ct__law_middle oc__law_signs kV__law_signs dc__law_signs pm__law_signs cd__law_signs ct__law_signs oc__law_built kV__law_built dc__law_built pm__law_built cd__law_built ct__law_built oc__law_divisor kV__law_divisor dc__law_divisor pm__law_divisor cd__law_divisor ct__law_divisor oc__law_one_right kV__law_one_right dc__law_one_right pm__law_one_right cd__law_one_right ct__law_one_right oc__law_right kV__law_right dc__law_right pm__law_right cd__law_right ct__law_right oc_law kV_law dc_law pm_law cd_law ct_law oc_T___init__ kV_T___init__ dc_T___init__ pm_T___init__ cd_T___init__ ct_T___init__ oc_T_rows kV_T_rows dc_T_rows pm_T_rows cd_T_rows ct_T_rows oc_T_size kV_T_size dc_T_size pm_T_size cd_T_size ct_T_size oc_Fm___init__ kV_Fm___init__ dc_Fm___init__ pm_Fm___init__ cd_Fm___init__ ct_Fm___init__ oc_Fm_rows kV_Fm_rows dc_Fm_rows pm_Fm_rows cd_Fm_rows ct_Fm_rows oc_Fm_size kV_Fm_size dc_Fm_size pm_Fm_size cd_Fm_size ct_Fm_size oc_Fm_determinant kV_Fm_determinant dc_Fm_determinant pm_Fm_determinant cd_Fm_determinant ct_Fm_determinant oc_Fm___eq__ kV_Fm___eq__ dc_Fm___eq__ pm_Fm___eq__ cd_Fm___eq__ ct_Fm___eq__ oc_Fm_times kV_Fm_times dc_Fm_times pm_Fm_times cd_Fm_times ct_Fm_times oc_Fm_led kV_Fm_led dc_Fm_led pm_Fm_led cd_Fm_led ct_Fm_led oc_Fm_divisor kV_Fm_divisor dc_Fm_divisor pm_Fm_divisor cd_Fm_divisor ct_Fm_divisor oc_Fm_single kV_Fm_single dc_Fm_single pm_Fm_single cd_Fm_single ct_Fm_single : Value}
    {pp_T_rows pp_T_size pp_Fm_rows pp_Fm_size pp_Fm_determinant : Addr} {rs_T_rows rs_T_size rs_Fm_rows rs_Fm_size rs_Fm_determinant : List Value}
    {cld : ClassData} {mrest : List Value}
    {CF : Addr} {cldF : ClassData} {mrestF : List Value}
    (aC : PySem.W.nsIn K mainGlobals "Table" = some (some (.ref C)))
    (aCF : PySem.W.nsIn K mainGlobals "Form" = some (some (.ref CF)))
    (a_is_integer : PySem.W.nsIn K mainGlobals "is_integer" = some (some (.ref f_is_integer)))
    (l_is_integer : K.lookup f_is_integer = some ⟨oc_is_integer, od_is_integer, .func (PySem.W.fnOf "is_integer" "is_integer" (defArgs st_is_integer) (defBody st_is_integer) (defScope st_is_integer) .none kV_is_integer dc_is_integer pm_is_integer an_is_integer cd_is_integer ct_is_integer), sl_is_integer⟩)
    (c_is_integer : PySem.W.codeIn K cd_is_integer "is_integer" = true)
    (k_is_integer : PySem.W.keepIn K (.ref f_is_integer) = true)
    (a_is_list : PySem.W.nsIn K mainGlobals "is_list" = some (some (.ref f_is_list)))
    (l_is_list : K.lookup f_is_list = some ⟨oc_is_list, od_is_list, .func (PySem.W.fnOf "is_list" "is_list" (defArgs st_is_list) (defBody st_is_list) (defScope st_is_list) .none kV_is_list dc_is_list pm_is_list an_is_list cd_is_list ct_is_list), sl_is_list⟩)
    (c_is_list : PySem.W.codeIn K cd_is_list "is_list" = true)
    (k_is_list : PySem.W.keepIn K (.ref f_is_list) = true)
    (a_is_row : PySem.W.nsIn K mainGlobals "is_row" = some (some (.ref f_is_row)))
    (l_is_row : K.lookup f_is_row = some ⟨oc_is_row, od_is_row, .func (PySem.W.fnOf "is_row" "is_row" (defArgs st_is_row) (defBody st_is_row) (defScope st_is_row) .none kV_is_row dc_is_row pm_is_row an_is_row cd_is_row ct_is_row), sl_is_row⟩)
    (c_is_row : PySem.W.codeIn K cd_is_row "is_row" = true)
    (k_is_row : PySem.W.keepIn K (.ref f_is_row) = true)
    (a_is_row_of : PySem.W.nsIn K mainGlobals "is_row_of" = some (some (.ref f_is_row_of)))
    (l_is_row_of : K.lookup f_is_row_of = some ⟨oc_is_row_of, od_is_row_of, .func (PySem.W.fnOf "is_row_of" "is_row_of" (defArgs st_is_row_of) (defBody st_is_row_of) (defScope st_is_row_of) .none kV_is_row_of dc_is_row_of pm_is_row_of an_is_row_of cd_is_row_of ct_is_row_of), sl_is_row_of⟩)
    (c_is_row_of : PySem.W.codeIn K cd_is_row_of "is_row_of" = true)
    (k_is_row_of : PySem.W.keepIn K (.ref f_is_row_of) = true)
    (a_is_grid : PySem.W.nsIn K mainGlobals "is_grid" = some (some (.ref f_is_grid)))
    (l_is_grid : K.lookup f_is_grid = some ⟨oc_is_grid, od_is_grid, .func (PySem.W.fnOf "is_grid" "is_grid" (defArgs st_is_grid) (defBody st_is_grid) (defScope st_is_grid) .none kV_is_grid dc_is_grid pm_is_grid an_is_grid cd_is_grid ct_is_grid), sl_is_grid⟩)
    (c_is_grid : PySem.W.codeIn K cd_is_grid "is_grid" = true)
    (k_is_grid : PySem.W.keepIn K (.ref f_is_grid) = true)
    (a_copied : PySem.W.nsIn K mainGlobals "copied" = some (some (.ref f_copied)))
    (l_copied : K.lookup f_copied = some ⟨oc_copied, od_copied, .func (PySem.W.fnOf "copied" "copied" (defArgs st_copied) (defBody st_copied) (defScope st_copied) .none kV_copied dc_copied pm_copied an_copied cd_copied ct_copied), sl_copied⟩)
    (c_copied : PySem.W.codeIn K cd_copied "copied" = true)
    (k_copied : PySem.W.keepIn K (.ref f_copied) = true)
    (a_across : PySem.W.nsIn K mainGlobals "across" = some (some (.ref f_across)))
    (l_across : K.lookup f_across = some ⟨oc_across, od_across, .func (PySem.W.fnOf "across" "across" (defArgs st_across) (defBody st_across) (defScope st_across) .none kV_across dc_across pm_across an_across cd_across ct_across), sl_across⟩)
    (c_across : PySem.W.codeIn K cd_across "across" = true)
    (k_across : PySem.W.keepIn K (.ref f_across) = true)
    (a_scalar : PySem.W.nsIn K mainGlobals "scalar" = some (some (.ref f_scalar)))
    (l_scalar : K.lookup f_scalar = some ⟨oc_scalar, od_scalar, .func (PySem.W.fnOf "scalar" "scalar" (defArgs st_scalar) (defBody st_scalar) (defScope st_scalar) .none kV_scalar dc_scalar pm_scalar an_scalar cd_scalar ct_scalar), sl_scalar⟩)
    (c_scalar : PySem.W.codeIn K cd_scalar "scalar" = true)
    (k_scalar : PySem.W.keepIn K (.ref f_scalar) = true)
    (a_led_row : PySem.W.nsIn K mainGlobals "led_row" = some (some (.ref f_led_row)))
    (l_led_row : K.lookup f_led_row = some ⟨oc_led_row, od_led_row, .func (PySem.W.fnOf "led_row" "led_row" (defArgs st_led_row) (defBody st_led_row) (defScope st_led_row) .none kV_led_row dc_led_row pm_led_row an_led_row cd_led_row ct_led_row), sl_led_row⟩)
    (c_led_row : PySem.W.codeIn K cd_led_row "led_row" = true)
    (k_led_row : PySem.W.keepIn K (.ref f_led_row) = true)
    (a_multiplied : PySem.W.nsIn K mainGlobals "multiplied" = some (some (.ref f_multiplied)))
    (l_multiplied : K.lookup f_multiplied = some ⟨oc_multiplied, od_multiplied, .func (PySem.W.fnOf "multiplied" "multiplied" (defArgs st_multiplied) (defBody st_multiplied) (defScope st_multiplied) .none kV_multiplied dc_multiplied pm_multiplied an_multiplied cd_multiplied ct_multiplied), sl_multiplied⟩)
    (c_multiplied : PySem.W.codeIn K cd_multiplied "multiplied" = true)
    (k_multiplied : PySem.W.keepIn K (.ref f_multiplied) = true)
    (a_without : PySem.W.nsIn K mainGlobals "without" = some (some (.ref f_without)))
    (l_without : K.lookup f_without = some ⟨oc_without, od_without, .func (PySem.W.fnOf "without" "without" (defArgs st_without) (defBody st_without) (defScope st_without) .none kV_without dc_without pm_without an_without cd_without ct_without), sl_without⟩)
    (c_without : PySem.W.codeIn K cd_without "without" = true)
    (k_without : PySem.W.keepIn K (.ref f_without) = true)
    (a_leading : PySem.W.nsIn K mainGlobals "leading" = some (some (.ref f_leading)))
    (l_leading : K.lookup f_leading = some ⟨oc_leading, od_leading, .func (PySem.W.fnOf "leading" "leading" (defArgs st_leading) (defBody st_leading) (defScope st_leading) .none kV_leading dc_leading pm_leading an_leading cd_leading ct_leading), sl_leading⟩)
    (c_leading : PySem.W.codeIn K cd_leading "leading" = true)
    (k_leading : PySem.W.keepIn K (.ref f_leading) = true)
    (a_determinant_of : PySem.W.nsIn K mainGlobals "determinant_of" = some (some (.ref f_determinant_of)))
    (l_determinant_of : K.lookup f_determinant_of = some ⟨oc_determinant_of, od_determinant_of, .func (PySem.W.fnOf "determinant_of" "determinant_of" (defArgs st_det) (defBody st_det) (defScope st_det) .none kV_determinant_of dc_determinant_of pm_determinant_of an_determinant_of cd_determinant_of ct_determinant_of), sl_determinant_of⟩)
    (c_determinant_of : PySem.W.codeIn K cd_determinant_of "determinant_of" = true)
    (k_determinant_of : PySem.W.keepIn K (.ref f_determinant_of) = true)
    (a_cofactor : PySem.W.nsIn K mainGlobals "cofactor" = some (some (.ref f_cofactor)))
    (l_cofactor : K.lookup f_cofactor = some ⟨oc_cofactor, od_cofactor, .func (PySem.W.fnOf "cofactor" "cofactor" (defArgs st_cofactor) (defBody st_cofactor) (defScope st_cofactor) .none kV_cofactor dc_cofactor pm_cofactor an_cofactor cd_cofactor ct_cofactor), sl_cofactor⟩)
    (c_cofactor : PySem.W.codeIn K cd_cofactor "cofactor" = true)
    (k_cofactor : PySem.W.keepIn K (.ref f_cofactor) = true)
    (a_trace_of : PySem.W.nsIn K mainGlobals "trace_of" = some (some (.ref f_trace_of)))
    (l_trace_of : K.lookup f_trace_of = some ⟨oc_trace_of, od_trace_of, .func (PySem.W.fnOf "trace_of" "trace_of" (defArgs st_trace_of) (defBody st_trace_of) (defScope st_trace_of) .none kV_trace_of dc_trace_of pm_trace_of an_trace_of cd_trace_of ct_trace_of), sl_trace_of⟩)
    (c_trace_of : PySem.W.codeIn K cd_trace_of "trace_of" = true)
    (k_trace_of : PySem.W.keepIn K (.ref f_trace_of) = true)
    (a_polynomial_of : PySem.W.nsIn K mainGlobals "polynomial_of" = some (some (.ref f_polynomial_of)))
    (l_polynomial_of : K.lookup f_polynomial_of = some ⟨oc_polynomial_of, od_polynomial_of, .func (PySem.W.fnOf "polynomial_of" "polynomial_of" (defArgs st_pol_of) (defBody st_pol_of) (defScope st_pol_of) .none kV_polynomial_of dc_polynomial_of pm_polynomial_of an_polynomial_of cd_polynomial_of ct_polynomial_of), sl_polynomial_of⟩)
    (c_polynomial_of : PySem.W.codeIn K cd_polynomial_of "polynomial_of" = true)
    (k_polynomial_of : PySem.W.keepIn K (.ref f_polynomial_of) = true)
    (a_check_table : PySem.W.nsIn K mainGlobals "check_table" = some (some (.ref f_check_table)))
    (l_check_table : K.lookup f_check_table = some ⟨oc_check_table, od_check_table, .func (PySem.W.fnOf "check_table" "check_table" (defArgs st_check_table) (defBody st_check_table) (defScope st_check_table) .none kV_check_table dc_check_table pm_check_table an_check_table cd_check_table ct_check_table), sl_check_table⟩)
    (c_check_table : PySem.W.codeIn K cd_check_table "check_table" = true)
    (k_check_table : PySem.W.keepIn K (.ref f_check_table) = true)
    (a_check_alike : PySem.W.nsIn K mainGlobals "check_alike" = some (some (.ref f_check_alike)))
    (l_check_alike : K.lookup f_check_alike = some ⟨oc_check_alike, od_check_alike, .func (PySem.W.fnOf "check_alike" "check_alike" (defArgs st_check_alike) (defBody st_check_alike) (defScope st_check_alike) .none kV_check_alike dc_check_alike pm_check_alike an_check_alike cd_check_alike ct_check_alike), sl_check_alike⟩)
    (c_check_alike : PySem.W.codeIn K cd_check_alike "check_alike" = true)
    (k_check_alike : PySem.W.keepIn K (.ref f_check_alike) = true)
    (a_check_form : PySem.W.nsIn K mainGlobals "check_form" = some (some (.ref f_check_form)))
    (l_check_form : K.lookup f_check_form = some ⟨oc_check_form, od_check_form, .func (PySem.W.fnOf "check_form" "check_form" (defArgs st_check_form) (defBody st_check_form) (defScope st_check_form) .none kV_check_form dc_check_form pm_check_form an_check_form cd_check_form ct_check_form), sl_check_form⟩)
    (c_check_form : PySem.W.codeIn K cd_check_form "check_form" = true)
    (k_check_form : PySem.W.keepIn K (.ref f_check_form) = true)
    (a_corners : PySem.W.nsIn K mainGlobals "corners" = some (some (.ref f_corners)))
    (l_corners : K.lookup f_corners = some ⟨oc_corners, od_corners, .func (PySem.W.fnOf "corners" "corners" (defArgs st_corners) (defBody st_corners) (defScope st_corners) .none kV_corners dc_corners pm_corners an_corners cd_corners ct_corners), sl_corners⟩)
    (c_corners : PySem.W.codeIn K cd_corners "corners" = true)
    (k_corners : PySem.W.keepIn K (.ref f_corners) = true)
    (a_signs : PySem.W.nsIn K mainGlobals "signs" = some (some (.ref f_signs)))
    (l_signs : K.lookup f_signs = some ⟨oc_signs, od_signs, .func (PySem.W.fnOf "signs" "signs" (defArgs st_sg) (defBody st_sg) (defScope st_sg) .none kV_signs dc_signs pm_signs an_signs cd_signs ct_signs), sl_signs⟩)
    (c_signs : PySem.W.codeIn K cd_signs "signs" = true)
    (k_signs : PySem.W.keepIn K (.ref f_signs) = true)
    (a__law_pot : PySem.W.nsIn K mainGlobals "_law_pot" = some (some (.ref f__law_pot)))
    (l__law_pot : K.lookup f__law_pot = some ⟨oc__law_pot, od__law_pot, .func (PySem.W.fnOf "_law_pot" "_law_pot" (defArgs st_pot) (defBody st_pot) (defScope st_pot) .none kV__law_pot dc__law_pot pm__law_pot an__law_pot cd__law_pot ct__law_pot), sl__law_pot⟩)
    (c__law_pot : PySem.W.codeIn K cd__law_pot "_law_pot" = true)
    (k__law_pot : PySem.W.keepIn K (.ref f__law_pot) = true)
    (a__law_draw : PySem.W.nsIn K mainGlobals "_law_draw" = some (some (.ref f__law_draw)))
    (l__law_draw : K.lookup f__law_draw = some ⟨oc__law_draw, od__law_draw, .func (PySem.W.fnOf "_law_draw" "_law_draw" (defArgs st_draw) (defBody st_draw) (defScope st_draw) .none kV__law_draw dc__law_draw pm__law_draw an__law_draw cd__law_draw ct__law_draw), sl__law_draw⟩)
    (c__law_draw : PySem.W.codeIn K cd__law_draw "_law_draw" = true)
    (k__law_draw : PySem.W.keepIn K (.ref f__law_draw) = true)
    (a__law_pick : PySem.W.nsIn K mainGlobals "_law_pick" = some (some (.ref f__law_pick)))
    (l__law_pick : K.lookup f__law_pick = some ⟨oc__law_pick, od__law_pick, .func (PySem.W.fnOf "_law_pick" "_law_pick" (defArgs st_pick) (defBody st_pick) (defScope st_pick) .none kV__law_pick dc__law_pick pm__law_pick an__law_pick cd__law_pick ct__law_pick), sl__law_pick⟩)
    (c__law_pick : PySem.W.codeIn K cd__law_pick "_law_pick" = true)
    (k__law_pick : PySem.W.keepIn K (.ref f__law_pick) = true)
    (a__law_rows : PySem.W.nsIn K mainGlobals "_law_rows" = some (some (.ref f__law_rows)))
    (l__law_rows : K.lookup f__law_rows = some ⟨oc__law_rows, od__law_rows, .func (PySem.W.fnOf "_law_rows" "_law_rows" (defArgs st_lrows) (defBody st_lrows) (defScope st_lrows) .none kV__law_rows dc__law_rows pm__law_rows an__law_rows cd__law_rows ct__law_rows), sl__law_rows⟩)
    (c__law_rows : PySem.W.codeIn K cd__law_rows "_law_rows" = true)
    (k__law_rows : PySem.W.keepIn K (.ref f__law_rows) = true)
    (a__law_passed : PySem.W.nsIn K mainGlobals "_law_passed" = some (some (.ref f__law_passed)))
    (l__law_passed : K.lookup f__law_passed = some ⟨oc__law_passed, od__law_passed, .func (PySem.W.fnOf "_law_passed" "_law_passed" (defArgs st_lpass) (defBody st_lpass) (defScope st_lpass) .none kV__law_passed dc__law_passed pm__law_passed an__law_passed cd__law_passed ct__law_passed), sl__law_passed⟩)
    (c__law_passed : PySem.W.codeIn K cd__law_passed "_law_passed" = true)
    (k__law_passed : PySem.W.keepIn K (.ref f__law_passed) = true)
    (a__law_between : PySem.W.nsIn K mainGlobals "_law_between" = some (some (.ref f__law_between)))
    (l__law_between : K.lookup f__law_between = some ⟨oc__law_between, od__law_between, .func (PySem.W.fnOf "_law_between" "_law_between" (defArgs st_lbtw) (defBody st_lbtw) (defScope st_lbtw) .none kV__law_between dc__law_between pm__law_between an__law_between cd__law_between ct__law_between), sl__law_between⟩)
    (c__law_between : PySem.W.codeIn K cd__law_between "_law_between" = true)
    (k__law_between : PySem.W.keepIn K (.ref f__law_between) = true)
    (a__law_table : PySem.W.nsIn K mainGlobals "_law_table" = some (some (.ref f__law_table)))
    (l__law_table : K.lookup f__law_table = some ⟨oc__law_table, od__law_table, .func (PySem.W.fnOf "_law_table" "_law_table" (defArgs st_ltab) (defBody st_ltab) (defScope st_ltab) .none kV__law_table dc__law_table pm__law_table an__law_table cd__law_table ct__law_table), sl__law_table⟩)
    (c__law_table : PySem.W.codeIn K cd__law_table "_law_table" = true)
    (k__law_table : PySem.W.keepIn K (.ref f__law_table) = true)
    (a__law_column : PySem.W.nsIn K mainGlobals "_law_column" = some (some (.ref f__law_column)))
    (l__law_column : K.lookup f__law_column = some ⟨oc__law_column, od__law_column, .func (PySem.W.fnOf "_law_column" "_law_column" (defArgs st_lcol) (defBody st_lcol) (defScope st_lcol) .none kV__law_column dc__law_column pm__law_column an__law_column cd__law_column ct__law_column), sl__law_column⟩)
    (c__law_column : PySem.W.codeIn K cd__law_column "_law_column" = true)
    (k__law_column : PySem.W.keepIn K (.ref f__law_column) = true)
    (a__law_led : PySem.W.nsIn K mainGlobals "_law_led" = some (some (.ref f__law_led)))
    (l__law_led : K.lookup f__law_led = some ⟨oc__law_led, od__law_led, .func (PySem.W.fnOf "_law_led" "_law_led" (defArgs st_lled) (defBody st_lled) (defScope st_lled) .none kV__law_led dc__law_led pm__law_led an__law_led cd__law_led ct__law_led), sl__law_led⟩)
    (c__law_led : PySem.W.codeIn K cd__law_led "_law_led" = true)
    (k__law_led : PySem.W.keepIn K (.ref f__law_led) = true)
    (a__law_told : PySem.W.nsIn K mainGlobals "_law_told" = some (some (.ref f__law_told)))
    (l__law_told : K.lookup f__law_told = some ⟨oc__law_told, od__law_told, .func (PySem.W.fnOf "_law_told" "_law_told" (defArgs st_ltold) (defBody st_ltold) (defScope st_ltold) .none kV__law_told dc__law_told pm__law_told an__law_told cd__law_told ct__law_told), sl__law_told⟩)
    (c__law_told : PySem.W.codeIn K cd__law_told "_law_told" = true)
    (k__law_told : PySem.W.keepIn K (.ref f__law_told) = true)
    (a__law_minor : PySem.W.nsIn K mainGlobals "_law_minor" = some (some (.ref f__law_minor)))
    (l__law_minor : K.lookup f__law_minor = some ⟨oc__law_minor, od__law_minor, .func (PySem.W.fnOf "_law_minor" "_law_minor" (defArgs st_mi) (defBody st_mi) (defScope st_mi) .none kV__law_minor dc__law_minor pm__law_minor an__law_minor cd__law_minor ct__law_minor), sl__law_minor⟩)
    (c__law_minor : PySem.W.codeIn K cd__law_minor "_law_minor" = true)
    (k__law_minor : PySem.W.keepIn K (.ref f__law_minor) = true)
    (a__law_corner : PySem.W.nsIn K mainGlobals "_law_corner" = some (some (.ref f__law_corner)))
    (l__law_corner : K.lookup f__law_corner = some ⟨oc__law_corner, od__law_corner, .func (PySem.W.fnOf "_law_corner" "_law_corner" (defArgs st_cor) (defBody st_cor) (defScope st_cor) .none kV__law_corner dc__law_corner pm__law_corner an__law_corner cd__law_corner ct__law_corner), sl__law_corner⟩)
    (c__law_corner : PySem.W.codeIn K cd__law_corner "_law_corner" = true)
    (k__law_corner : PySem.W.keepIn K (.ref f__law_corner) = true)
    (a__law_lots_below : PySem.W.nsIn K mainGlobals "_law_lots_below" = some (some (.ref f__law_lots_below)))
    (l__law_lots_below : K.lookup f__law_lots_below = some ⟨oc__law_lots_below, od__law_lots_below, .func (PySem.W.fnOf "_law_lots_below" "_law_lots_below" (defArgs st_lb) (defBody st_lb) (defScope st_lb) .none kV__law_lots_below dc__law_lots_below pm__law_lots_below an__law_lots_below cd__law_lots_below ct__law_lots_below), sl__law_lots_below⟩)
    (c__law_lots_below : PySem.W.codeIn K cd__law_lots_below "_law_lots_below" = true)
    (k__law_lots_below : PySem.W.keepIn K (.ref f__law_lots_below) = true)
    (a__law_middle : PySem.W.nsIn K mainGlobals "_law_middle" = some (some (.ref f__law_middle)))
    (l__law_middle : K.lookup f__law_middle = some ⟨oc__law_middle, od__law_middle, .func (PySem.W.fnOf "_law_middle" "_law_middle" (defArgs st_mid) (defBody st_mid) (defScope st_mid) .none kV__law_middle dc__law_middle pm__law_middle an__law_middle cd__law_middle ct__law_middle), sl__law_middle⟩)
    (c__law_middle : PySem.W.codeIn K cd__law_middle "_law_middle" = true)
    (k__law_middle : PySem.W.keepIn K (.ref f__law_middle) = true)
    (a__law_signs : PySem.W.nsIn K mainGlobals "_law_signs" = some (some (.ref f__law_signs)))
    (l__law_signs : K.lookup f__law_signs = some ⟨oc__law_signs, od__law_signs, .func (PySem.W.fnOf "_law_signs" "_law_signs" (defArgs st_lsg) (defBody st_lsg) (defScope st_lsg) .none kV__law_signs dc__law_signs pm__law_signs an__law_signs cd__law_signs ct__law_signs), sl__law_signs⟩)
    (c__law_signs : PySem.W.codeIn K cd__law_signs "_law_signs" = true)
    (k__law_signs : PySem.W.keepIn K (.ref f__law_signs) = true)
    (a__law_built : PySem.W.nsIn K mainGlobals "_law_built" = some (some (.ref f__law_built)))
    (l__law_built : K.lookup f__law_built = some ⟨oc__law_built, od__law_built, .func (PySem.W.fnOf "_law_built" "_law_built" (defArgs st_lblt) (defBody st_lblt) (defScope st_lblt) .none kV__law_built dc__law_built pm__law_built an__law_built cd__law_built ct__law_built), sl__law_built⟩)
    (c__law_built : PySem.W.codeIn K cd__law_built "_law_built" = true)
    (k__law_built : PySem.W.keepIn K (.ref f__law_built) = true)
    (a__law_divisor : PySem.W.nsIn K mainGlobals "_law_divisor" = some (some (.ref f__law_divisor)))
    (l__law_divisor : K.lookup f__law_divisor = some ⟨oc__law_divisor, od__law_divisor, .func (PySem.W.fnOf "_law_divisor" "_law_divisor" (defArgs st_ldv) (defBody st_ldv) (defScope st_ldv) .none kV__law_divisor dc__law_divisor pm__law_divisor an__law_divisor cd__law_divisor ct__law_divisor), sl__law_divisor⟩)
    (c__law_divisor : PySem.W.codeIn K cd__law_divisor "_law_divisor" = true)
    (k__law_divisor : PySem.W.keepIn K (.ref f__law_divisor) = true)
    (a__law_one_right : PySem.W.nsIn K mainGlobals "_law_one_right" = some (some (.ref f__law_one_right)))
    (l__law_one_right : K.lookup f__law_one_right = some ⟨oc__law_one_right, od__law_one_right, .func (PySem.W.fnOf "_law_one_right" "_law_one_right" (defArgs st_on) (defBody st_on) (defScope st_on) .none kV__law_one_right dc__law_one_right pm__law_one_right an__law_one_right cd__law_one_right ct__law_one_right), sl__law_one_right⟩)
    (c__law_one_right : PySem.W.codeIn K cd__law_one_right "_law_one_right" = true)
    (k__law_one_right : PySem.W.keepIn K (.ref f__law_one_right) = true)
    (a__law_right : PySem.W.nsIn K mainGlobals "_law_right" = some (some (.ref f__law_right)))
    (l__law_right : K.lookup f__law_right = some ⟨oc__law_right, od__law_right, .func (PySem.W.fnOf "_law_right" "_law_right" (defArgs st_ri) (defBody st_ri) (defScope st_ri) .none kV__law_right dc__law_right pm__law_right an__law_right cd__law_right ct__law_right), sl__law_right⟩)
    (c__law_right : PySem.W.codeIn K cd__law_right "_law_right" = true)
    (k__law_right : PySem.W.keepIn K (.ref f__law_right) = true)
    (a_law : PySem.W.nsIn K mainGlobals "law" = some (some (.ref f_law)))
    (l_law : K.lookup f_law = some ⟨oc_law, od_law, .func (PySem.W.fnOf "law" "law" (defArgs st_law) (defBody st_law) (defScope st_law) .none kV_law dc_law pm_law an_law cd_law ct_law), sl_law⟩)
    (c_law : PySem.W.codeIn K cd_law "law" = true)
    (k_law : PySem.W.keepIn K (.ref f_law) = true)
    (a_T___init__ : PySem.W.findIn K (.ref C) "__init__" = some (some (.ref f_T___init__)))
    (i_T___init__ : PySem.W.isFn K (.ref f_T___init__) = true)
    (l_T___init__ : K.lookup f_T___init__ = some ⟨oc_T___init__, od_T___init__, .func (PySem.W.fnOf "__init__" "Table.__init__" (defArgs (st_T 0)) (defBody (st_T 0)) (defScope (st_T 0)) .none kV_T___init__ dc_T___init__ pm_T___init__ an_T___init__ cd_T___init__ ct_T___init__), sl_T___init__⟩)
    (c_T___init__ : PySem.W.codeIn K cd_T___init__ "Table.__init__" = true)
    (k_T___init__ : PySem.W.keepIn K (.ref f_T___init__) = true)
    (p_T_rows : PySem.W.findIn K (.ref C) "rows" = some (some (.ref pp_T_rows)))
    (g_T_rows : PySem.W.specialIn K (.ref pp_T_rows) "__get__" = some (some (.builtin "property.__get__")))
    (t_T_rows : PySem.W.takesIn K (.ref pp_T_rows) = some true)
    (r_T_rows : PySem.W.recIn K pp_T_rows "property" = some (.ref f_T_rows :: rs_T_rows))
    (l_T_rows : K.lookup f_T_rows = some ⟨oc_T_rows, od_T_rows, .func (PySem.W.fnOf "rows" "Table.rows" (defArgs (st_T 1)) (defBody (st_T 1)) (defScope (st_T 1)) .none kV_T_rows dc_T_rows pm_T_rows an_T_rows cd_T_rows ct_T_rows), sl_T_rows⟩)
    (c_T_rows : PySem.W.codeIn K cd_T_rows "Table.rows" = true)
    (k_T_rows : PySem.W.keepIn K (.ref f_T_rows) = true)
    (p_T_size : PySem.W.findIn K (.ref C) "size" = some (some (.ref pp_T_size)))
    (g_T_size : PySem.W.specialIn K (.ref pp_T_size) "__get__" = some (some (.builtin "property.__get__")))
    (t_T_size : PySem.W.takesIn K (.ref pp_T_size) = some true)
    (r_T_size : PySem.W.recIn K pp_T_size "property" = some (.ref f_T_size :: rs_T_size))
    (l_T_size : K.lookup f_T_size = some ⟨oc_T_size, od_T_size, .func (PySem.W.fnOf "size" "Table.size" (defArgs (st_T 2)) (defBody (st_T 2)) (defScope (st_T 2)) .none kV_T_size dc_T_size pm_T_size an_T_size cd_T_size ct_T_size), sl_T_size⟩)
    (c_T_size : PySem.W.codeIn K cd_T_size "Table.size" = true)
    (k_T_size : PySem.W.keepIn K (.ref f_T_size) = true)
    (a_Fm___init__ : PySem.W.findIn K (.ref CF) "__init__" = some (some (.ref f_Fm___init__)))
    (i_Fm___init__ : PySem.W.isFn K (.ref f_Fm___init__) = true)
    (l_Fm___init__ : K.lookup f_Fm___init__ = some ⟨oc_Fm___init__, od_Fm___init__, .func (PySem.W.fnOf "__init__" "Form.__init__" (defArgs (st_F 0)) (defBody (st_F 0)) (defScope (st_F 0)) .none kV_Fm___init__ dc_Fm___init__ pm_Fm___init__ an_Fm___init__ cd_Fm___init__ ct_Fm___init__), sl_Fm___init__⟩)
    (c_Fm___init__ : PySem.W.codeIn K cd_Fm___init__ "Form.__init__" = true)
    (k_Fm___init__ : PySem.W.keepIn K (.ref f_Fm___init__) = true)
    (p_Fm_rows : PySem.W.findIn K (.ref CF) "rows" = some (some (.ref pp_Fm_rows)))
    (g_Fm_rows : PySem.W.specialIn K (.ref pp_Fm_rows) "__get__" = some (some (.builtin "property.__get__")))
    (t_Fm_rows : PySem.W.takesIn K (.ref pp_Fm_rows) = some true)
    (r_Fm_rows : PySem.W.recIn K pp_Fm_rows "property" = some (.ref f_Fm_rows :: rs_Fm_rows))
    (l_Fm_rows : K.lookup f_Fm_rows = some ⟨oc_Fm_rows, od_Fm_rows, .func (PySem.W.fnOf "rows" "Form.rows" (defArgs (st_F 1)) (defBody (st_F 1)) (defScope (st_F 1)) .none kV_Fm_rows dc_Fm_rows pm_Fm_rows an_Fm_rows cd_Fm_rows ct_Fm_rows), sl_Fm_rows⟩)
    (c_Fm_rows : PySem.W.codeIn K cd_Fm_rows "Form.rows" = true)
    (k_Fm_rows : PySem.W.keepIn K (.ref f_Fm_rows) = true)
    (p_Fm_size : PySem.W.findIn K (.ref CF) "size" = some (some (.ref pp_Fm_size)))
    (g_Fm_size : PySem.W.specialIn K (.ref pp_Fm_size) "__get__" = some (some (.builtin "property.__get__")))
    (t_Fm_size : PySem.W.takesIn K (.ref pp_Fm_size) = some true)
    (r_Fm_size : PySem.W.recIn K pp_Fm_size "property" = some (.ref f_Fm_size :: rs_Fm_size))
    (l_Fm_size : K.lookup f_Fm_size = some ⟨oc_Fm_size, od_Fm_size, .func (PySem.W.fnOf "size" "Form.size" (defArgs (st_F 2)) (defBody (st_F 2)) (defScope (st_F 2)) .none kV_Fm_size dc_Fm_size pm_Fm_size an_Fm_size cd_Fm_size ct_Fm_size), sl_Fm_size⟩)
    (c_Fm_size : PySem.W.codeIn K cd_Fm_size "Form.size" = true)
    (k_Fm_size : PySem.W.keepIn K (.ref f_Fm_size) = true)
    (p_Fm_determinant : PySem.W.findIn K (.ref CF) "determinant" = some (some (.ref pp_Fm_determinant)))
    (g_Fm_determinant : PySem.W.specialIn K (.ref pp_Fm_determinant) "__get__" = some (some (.builtin "property.__get__")))
    (t_Fm_determinant : PySem.W.takesIn K (.ref pp_Fm_determinant) = some true)
    (r_Fm_determinant : PySem.W.recIn K pp_Fm_determinant "property" = some (.ref f_Fm_determinant :: rs_Fm_determinant))
    (l_Fm_determinant : K.lookup f_Fm_determinant = some ⟨oc_Fm_determinant, od_Fm_determinant, .func (PySem.W.fnOf "determinant" "Form.determinant" (defArgs (st_F 3)) (defBody (st_F 3)) (defScope (st_F 3)) .none kV_Fm_determinant dc_Fm_determinant pm_Fm_determinant an_Fm_determinant cd_Fm_determinant ct_Fm_determinant), sl_Fm_determinant⟩)
    (c_Fm_determinant : PySem.W.codeIn K cd_Fm_determinant "Form.determinant" = true)
    (k_Fm_determinant : PySem.W.keepIn K (.ref f_Fm_determinant) = true)
    (a_Fm___eq__ : PySem.W.findIn K (.ref CF) "__eq__" = some (some (.ref f_Fm___eq__)))
    (i_Fm___eq__ : PySem.W.isFn K (.ref f_Fm___eq__) = true)
    (l_Fm___eq__ : K.lookup f_Fm___eq__ = some ⟨oc_Fm___eq__, od_Fm___eq__, .func (PySem.W.fnOf "__eq__" "Form.__eq__" (defArgs (st_F 4)) (defBody (st_F 4)) (defScope (st_F 4)) .none kV_Fm___eq__ dc_Fm___eq__ pm_Fm___eq__ an_Fm___eq__ cd_Fm___eq__ ct_Fm___eq__), sl_Fm___eq__⟩)
    (c_Fm___eq__ : PySem.W.codeIn K cd_Fm___eq__ "Form.__eq__" = true)
    (k_Fm___eq__ : PySem.W.keepIn K (.ref f_Fm___eq__) = true)
    (a_Fm_times : PySem.W.findIn K (.ref CF) "times" = some (some (.ref f_Fm_times)))
    (i_Fm_times : PySem.W.isFn K (.ref f_Fm_times) = true)
    (l_Fm_times : K.lookup f_Fm_times = some ⟨oc_Fm_times, od_Fm_times, .func (PySem.W.fnOf "times" "Form.times" (defArgs (st_F 9)) (defBody (st_F 9)) (defScope (st_F 9)) .none kV_Fm_times dc_Fm_times pm_Fm_times an_Fm_times cd_Fm_times ct_Fm_times), sl_Fm_times⟩)
    (c_Fm_times : PySem.W.codeIn K cd_Fm_times "Form.times" = true)
    (k_Fm_times : PySem.W.keepIn K (.ref f_Fm_times) = true)
    (a_Fm_led : PySem.W.findIn K (.ref CF) "led" = some (some (.ref f_Fm_led)))
    (i_Fm_led : PySem.W.isFn K (.ref f_Fm_led) = true)
    (l_Fm_led : K.lookup f_Fm_led = some ⟨oc_Fm_led, od_Fm_led, .func (PySem.W.fnOf "led" "Form.led" (defArgs (st_F 10)) (defBody (st_F 10)) (defScope (st_F 10)) .none kV_Fm_led dc_Fm_led pm_Fm_led an_Fm_led cd_Fm_led ct_Fm_led), sl_Fm_led⟩)
    (c_Fm_led : PySem.W.codeIn K cd_Fm_led "Form.led" = true)
    (k_Fm_led : PySem.W.keepIn K (.ref f_Fm_led) = true)
    (a_Fm_divisor : PySem.W.findIn K (.ref CF) "divisor" = some (some (.ref f_Fm_divisor)))
    (i_Fm_divisor : PySem.W.isFn K (.ref f_Fm_divisor) = true)
    (l_Fm_divisor : K.lookup f_Fm_divisor = some ⟨oc_Fm_divisor, od_Fm_divisor, .func (PySem.W.fnOf "divisor" "Form.divisor" (defArgs (st_F 11)) (defBody (st_F 11)) (defScope (st_F 11)) .none kV_Fm_divisor dc_Fm_divisor pm_Fm_divisor an_Fm_divisor cd_Fm_divisor ct_Fm_divisor), sl_Fm_divisor⟩)
    (c_Fm_divisor : PySem.W.codeIn K cd_Fm_divisor "Form.divisor" = true)
    (k_Fm_divisor : PySem.W.keepIn K (.ref f_Fm_divisor) = true)
    (a_Fm_single : PySem.W.findIn K (.ref CF) "single" = some (some (.ref f_Fm_single)))
    (i_Fm_single : PySem.W.isFn K (.ref f_Fm_single) = true)
    (l_Fm_single : K.lookup f_Fm_single = some ⟨oc_Fm_single, od_Fm_single, .func (PySem.W.fnOf "single" "Form.single" (defArgs (st_F 12)) (defBody (st_F 12)) (defScope (st_F 12)) .none kV_Fm_single dc_Fm_single pm_Fm_single an_Fm_single cd_Fm_single ct_Fm_single), sl_Fm_single⟩)
    (c_Fm_single : PySem.W.codeIn K cd_Fm_single "Form.single" = true)
    (k_Fm_single : PySem.W.keepIn K (.ref f_Fm_single) = true)
    (pg : PySem.W.plainGet K C Str.empty = true)
    (hd : PySem.W.hasDictIn K C = true)
    (po : PySem.W.plainOver K C = true)
    (sa : PySem.W.findIn K (.ref C) "__setattr__" = some (some (.builtin "object.__setattr__")))
    (mk : PySem.W.makesIn K C = true)
    (kc : PySem.W.keepIn K (.ref C) = true)
    (nR : PySem.W.findIn K (.ref C) "_rows" = some none)
    (cc : PySem.W.findIn K (.ref C) "__class__" = some (some (.builtin "object.__class__")))
    (cg : PySem.W.specialIn K (.builtin "object.__class__") "__get__" = some (some (.builtin "getset_descriptor.__get__")))
    (ct : PySem.W.takesIn K (.builtin "object.__class__") = some true)
    (cm : PySem.W.mroIn K C (.type "object") = some true)
    (hcl : PySem.W.clsIn K C = some cld)
    (hmr : cld.mro = Value.ref C :: mrest)
    (pgF : PySem.W.plainGet K CF Str.empty = true)
    (hdF : PySem.W.hasDictIn K CF = true)
    (poF : PySem.W.plainOver K CF = true)
    (saF : PySem.W.findIn K (.ref CF) "__setattr__" = some (some (.builtin "object.__setattr__")))
    (mkF : PySem.W.makesIn K CF = true)
    (kcF : PySem.W.keepIn K (.ref CF) = true)
    (nRF : PySem.W.findIn K (.ref CF) "_rows" = some none)
    (ccF : PySem.W.findIn K (.ref CF) "__class__" = some (some (.builtin "object.__class__")))
    (cmF : PySem.W.mroIn K CF (.type "object") = some true)
    (hclF : PySem.W.clsIn K CF = some cldF)
    (hmrF : cldF.mro = Value.ref CF :: mrestF)
    (hneF : PySem.W.findIn K (.ref CF) "__ne__" = some (some (.builtin "object.__ne__")))
    (hgcd : PySem.W.nsIn K mainGlobals "gcd" = some (some (.builtin "math.gcd")))
    (z0 : PySem.W.nsIn K mainGlobals "isinstance" = some none)
    (z1 : PySem.W.nsIn K mainGlobals "int" = some none)
    (z2 : PySem.W.nsIn K mainGlobals "bool" = some none)
    (z3 : PySem.W.nsIn K mainGlobals "list" = some none)
    (z4 : PySem.W.nsIn K mainGlobals "tuple" = some none)
    (z5 : PySem.W.nsIn K mainGlobals "all" = some none)
    (z6 : PySem.W.nsIn K mainGlobals "sum" = some none)
    (z7 : PySem.W.nsIn K mainGlobals "zip" = some none)
    (z8 : PySem.W.nsIn K mainGlobals "len" = some none)
    (z9 : PySem.W.nsIn K mainGlobals "range" = some none)
    (z10 : PySem.W.nsIn K mainGlobals "repr" = some none)
    (z11 : PySem.W.nsIn K mainGlobals "abs" = some none)
    (z12 : PySem.W.nsIn K mainGlobals "max" = some none)
    (z13 : PySem.W.nsIn K mainGlobals "divmod" = some none)
    (z14 : PySem.W.nsIn K mainGlobals "dict" = some none)
    (z15 : PySem.W.nsIn K mainGlobals "enumerate" = some none)
    (zz_min : PySem.W.nsIn K mainGlobals "min" = some none)
    : ∃ fd : FuncData, (∀ (s : Shared) (v : Value), BindsTo s fd ⟨[v], []⟩ [("_law_script", v)]) ∧ ∀ base : Heap, K.In base → base.Ns mainGlobals mg → FnG l.prog w K mg base CX0 13 fa fd ["_law_script"] (sp_law K) := by
  have e := hfa.symm.trans (PySem.W.mg_of X G a_law)
  cases e
  have T : Txt mg := ⟨PySem.W.mg_none_of X G z0, PySem.W.mg_none_of X G z1, PySem.W.mg_none_of X G z2, PySem.W.mg_none_of X G z3, PySem.W.mg_none_of X G z4, PySem.W.mg_none_of X G z5, PySem.W.mg_none_of X G z6, PySem.W.mg_none_of X G z7, PySem.W.mg_none_of X G z8, PySem.W.mg_none_of X G z9, PySem.W.mg_none_of X G z10, PySem.W.mg_none_of X G z11, PySem.W.mg_none_of X G z12, PySem.W.mg_none_of X G z13, PySem.W.mg_none_of X G z14, PySem.W.mg_none_of X G z15⟩
  have Cl : Cls K C := ⟨pg, hd, po, sa⟩
  have Tc : Tcl K mg C := ⟨Cl, nR, PySem.W.mg_of X G aC, cc, cg, ct, cm⟩
  have ClF : Cls K CF := ⟨pgF, hdF, poF, saF⟩
  have Fc : Fcl K mg CF := ⟨ClF, nRF, PySem.W.mg_of X G aCF, ccF, cg, ct, cmF⟩
  have F_is_integer := fun_mk (st := st_is_integer) l_is_integer c_is_integer k_is_integer
  have b_is_integer := F_is_integer.binds (ps := ["value"]) fun _ _ _ _ _ _ us hl => match us, hl with | [_], _ => rfl
  have F_is_list := fun_mk (st := st_is_list) l_is_list c_is_list k_is_list
  have b_is_list := F_is_list.binds (ps := ["value"]) fun _ _ _ _ _ _ us hl => match us, hl with | [_], _ => rfl
  have F_is_row := fun_mk (st := st_is_row) l_is_row c_is_row k_is_row
  have b_is_row := F_is_row.binds (ps := ["value"]) fun _ _ _ _ _ _ us hl => match us, hl with | [_], _ => rfl
  have F_is_row_of := fun_mk (st := st_is_row_of) l_is_row_of c_is_row_of k_is_row_of
  have b_is_row_of := F_is_row_of.binds (ps := ["size", "value"]) fun _ _ _ _ _ _ us hl => match us, hl with | [_, _], _ => rfl
  have F_is_grid := fun_mk (st := st_is_grid) l_is_grid c_is_grid k_is_grid
  have b_is_grid := F_is_grid.binds (ps := ["value"]) fun _ _ _ _ _ _ us hl => match us, hl with | [_], _ => rfl
  have F_copied := fun_mk (st := st_copied) l_copied c_copied k_copied
  have b_copied := F_copied.binds (ps := ["rows"]) fun _ _ _ _ _ _ us hl => match us, hl with | [_], _ => rfl
  have F_across := fun_mk (st := st_across) l_across c_across k_across
  have b_across := F_across.binds (ps := ["rows"]) fun _ _ _ _ _ _ us hl => match us, hl with | [_], _ => rfl
  have F_scalar := fun_mk (st := st_scalar) l_scalar c_scalar k_scalar
  have b_scalar := F_scalar.binds (ps := ["row", "other"]) fun _ _ _ _ _ _ us hl => match us, hl with | [_, _], _ => rfl
  have F_led_row := fun_mk (st := st_led_row) l_led_row c_led_row k_led_row
  have b_led_row := F_led_row.binds (ps := ["rows", "row"]) fun _ _ _ _ _ _ us hl => match us, hl with | [_, _], _ => rfl
  have F_multiplied := fun_mk (st := st_multiplied) l_multiplied c_multiplied k_multiplied
  have b_multiplied := F_multiplied.binds (ps := ["rows", "others"]) fun _ _ _ _ _ _ us hl => match us, hl with | [_, _], _ => rfl
  have F_without := fun_mk (st := st_without) l_without c_without k_without
  have b_without := F_without.binds (ps := ["rows", "at", "place"]) fun _ _ _ _ _ _ us hl => match us, hl with | [_, _, _], _ => rfl
  have F_leading := fun_mk (st := st_leading) l_leading c_leading k_leading
  have b_leading := F_leading.binds (ps := ["rows", "many"]) fun _ _ _ _ _ _ us hl => match us, hl with | [_, _], _ => rfl
  have F_determinant_of := fun_mk (st := st_det) l_determinant_of c_determinant_of k_determinant_of
  have b_determinant_of := F_determinant_of.binds (ps := ["rows"]) fun _ _ _ _ _ _ us hl => match us, hl with | [_], _ => rfl
  have F_cofactor := fun_mk (st := st_cofactor) l_cofactor c_cofactor k_cofactor
  have b_cofactor := F_cofactor.binds (ps := ["rows", "at", "place"]) fun _ _ _ _ _ _ us hl => match us, hl with | [_, _, _], _ => rfl
  have F_trace_of := fun_mk (st := st_trace_of) l_trace_of c_trace_of k_trace_of
  have b_trace_of := F_trace_of.binds (ps := ["rows"]) fun _ _ _ _ _ _ us hl => match us, hl with | [_], _ => rfl
  have F_polynomial_of := fun_mk (st := st_pol_of) l_polynomial_of c_polynomial_of k_polynomial_of
  have b_polynomial_of := F_polynomial_of.binds (ps := ["rows"]) fun _ _ _ _ _ _ us hl => match us, hl with | [_], _ => rfl
  have F_check_table := fun_mk (st := st_check_table) l_check_table c_check_table k_check_table
  have b_check_table := F_check_table.binds (ps := ["table"]) fun _ _ _ _ _ _ us hl => match us, hl with | [_], _ => rfl
  have F_check_alike := fun_mk (st := st_check_alike) l_check_alike c_check_alike k_check_alike
  have b_check_alike := F_check_alike.binds (ps := ["one", "other"]) fun _ _ _ _ _ _ us hl => match us, hl with | [_, _], _ => rfl
  have F_check_form := fun_mk (st := st_check_form) l_check_form c_check_form k_check_form
  have b_check_form := F_check_form.binds (ps := ["form"]) fun _ _ _ _ _ _ us hl => match us, hl with | [_], _ => rfl
  have F_corners := fun_mk (st := st_corners) l_corners c_corners k_corners
  have b_corners := F_corners.binds (ps := ["form"]) fun _ _ _ _ _ _ us hl => match us, hl with | [_], _ => rfl
  have F_signs := fun_mk (st := st_sg) l_signs c_signs k_signs
  have b_signs := F_signs.binds (ps := ["form"]) fun _ _ _ _ _ _ us hl => match us, hl with | [_], _ => rfl
  have F__law_pot := fun_mk (st := st_pot) l__law_pot c__law_pot k__law_pot
  have b__law_pot := F__law_pot.binds (ps := ["_law_script", "_law_k"]) fun _ _ _ _ _ _ us hl => match us, hl with | [_, _], _ => rfl
  have F__law_draw := fun_mk (st := st_draw) l__law_draw c__law_draw k__law_draw
  have b__law_draw := F__law_draw.binds (ps := ["_law_pot_here", "_law_size"]) fun _ _ _ _ _ _ us hl => match us, hl with | [_, _], _ => rfl
  have F__law_pick := fun_mk (st := st_pick) l__law_pick c__law_pick k__law_pick
  have b__law_pick := F__law_pick.binds (ps := ["_law_pot_here", "_law_some"]) fun _ _ _ _ _ _ us hl => match us, hl with | [_, _], _ => rfl
  have F__law_rows := fun_mk (st := st_lrows) l__law_rows c__law_rows k__law_rows
  have b__law_rows := F__law_rows.binds (ps := ["_law_pot_here", "_law_size", "_law_most"]) fun _ _ _ _ _ _ us hl => match us, hl with | [_, _, _], _ => rfl
  have F__law_passed := fun_mk (st := st_lpass) l__law_passed c__law_passed k__law_passed
  have b__law_passed := F__law_passed.binds (ps := ["_law_pot_here", "_law_rows_here"]) fun _ _ _ _ _ _ us hl => match us, hl with | [_, _], _ => rfl
  have F__law_between := fun_mk (st := st_lbtw) l__law_between c__law_between k__law_between
  have b__law_between := F__law_between.binds (ps := ["_law_rows_here", "_law_row", "_law_other"]) fun _ _ _ _ _ _ us hl => match us, hl with | [_, _, _], _ => rfl
  have F__law_table := fun_mk (st := st_ltab) l__law_table c__law_table k__law_table
  have b__law_table := F__law_table.binds (ps := ["_law_pot_here", "_law_size"]) fun _ _ _ _ _ _ us hl => match us, hl with | [_, _], _ => rfl
  have F__law_column := fun_mk (st := st_lcol) l__law_column c__law_column k__law_column
  have b__law_column := F__law_column.binds (ps := ["_law_rows_here", "_law_place"]) fun _ _ _ _ _ _ us hl => match us, hl with | [_, _], _ => rfl
  have F__law_led := fun_mk (st := st_lled) l__law_led c__law_led k__law_led
  have b__law_led := F__law_led.binds (ps := ["_law_rows_here", "_law_table_here"]) fun _ _ _ _ _ _ us hl => match us, hl with | [_, _], _ => rfl
  have F__law_told := fun_mk (st := st_ltold) l__law_told c__law_told k__law_told
  have b__law_told := F__law_told.binds (ps := ["_law_rows_here"]) fun _ _ _ _ _ _ us hl => match us, hl with | [_], _ => rfl
  have F__law_minor := fun_mk (st := st_mi) l__law_minor c__law_minor k__law_minor
  have b__law_minor := F__law_minor.binds (ps := ["_law_rows_here"]) fun _ _ _ _ _ _ us hl => match us, hl with | [_], _ => rfl
  have F__law_corner := fun_mk (st := st_cor) l__law_corner c__law_corner k__law_corner
  have b__law_corner := F__law_corner.binds (ps := ["_law_rows_here", "_law_many"]) fun _ _ _ _ _ _ us hl => match us, hl with | [_, _], _ => rfl
  have F__law_lots_below := fun_mk (st := st_lb) l__law_lots_below c__law_lots_below k__law_lots_below
  have b__law_lots_below := F__law_lots_below.binds (ps := ["_law_size", "_law_many"]) fun _ _ _ _ _ _ us hl => match us, hl with | [_, _], _ => rfl
  have F__law_middle := fun_mk (st := st_mid) l__law_middle c__law_middle k__law_middle
  have b__law_middle := F__law_middle.binds (ps := ["_law_rows_here", "_law_many"]) fun _ _ _ _ _ _ us hl => match us, hl with | [_, _], _ => rfl
  have F__law_signs := fun_mk (st := st_lsg) l__law_signs c__law_signs k__law_signs
  have b__law_signs := F__law_signs.binds (ps := ["_law_rows_here"]) fun _ _ _ _ _ _ us hl => match us, hl with | [_], _ => rfl
  have F__law_built := fun_mk (st := st_lblt) l__law_built c__law_built k__law_built
  have b__law_built := F__law_built.binds (ps := ["_law_pot_here", "_law_size", "_law_heads"]) fun _ _ _ _ _ _ us hl => match us, hl with | [_, _, _], _ => rfl
  have F__law_divisor := fun_mk (st := st_ldv) l__law_divisor c__law_divisor k__law_divisor
  have b__law_divisor := F__law_divisor.binds (ps := ["_law_rows_here"]) fun _ _ _ _ _ _ us hl => match us, hl with | [_], _ => rfl
  have F__law_one_right := fun_mk (st := st_on) l__law_one_right c__law_one_right k__law_one_right
  have b__law_one_right := F__law_one_right.binds (ps := ["_law_pot_here", "_law_rows_here"]) fun _ _ _ _ _ _ us hl => match us, hl with | [_, _], _ => rfl
  have F__law_right := fun_mk (st := st_ri) l__law_right c__law_right k__law_right
  have b__law_right := F__law_right.binds (ps := ["_law_pot_here"]) fun _ _ _ _ _ _ us hl => match us, hl with | [_], _ => rfl
  have F_law := fun_mk (st := st_law) l_law c_law k_law
  have b_law := F_law.binds (ps := ["_law_script"]) fun _ _ _ _ _ _ us hl => match us, hl with | [_], _ => rfl
  have F_T___init__ := fun_mk (st := (st_T 0)) l_T___init__ c_T___init__ k_T___init__
  have b_T___init__ := F_T___init__.binds (ps := ["self", "rows"]) fun _ _ _ _ _ _ us hl => match us, hl with | [_, _], _ => rfl
  have F_T_rows := fun_mk (st := (st_T 1)) l_T_rows c_T_rows k_T_rows
  have b_T_rows := F_T_rows.binds (ps := ["self"]) fun _ _ _ _ _ _ us hl => match us, hl with | [_], _ => rfl
  have F_T_size := fun_mk (st := (st_T 2)) l_T_size c_T_size k_T_size
  have b_T_size := F_T_size.binds (ps := ["self"]) fun _ _ _ _ _ _ us hl => match us, hl with | [_], _ => rfl
  have F_Fm___init__ := fun_mk (st := (st_F 0)) l_Fm___init__ c_Fm___init__ k_Fm___init__
  have b_Fm___init__ := F_Fm___init__.binds (ps := ["self", "rows"]) fun _ _ _ _ _ _ us hl => match us, hl with | [_, _], _ => rfl
  have F_Fm_rows := fun_mk (st := (st_F 1)) l_Fm_rows c_Fm_rows k_Fm_rows
  have b_Fm_rows := F_Fm_rows.binds (ps := ["self"]) fun _ _ _ _ _ _ us hl => match us, hl with | [_], _ => rfl
  have F_Fm_size := fun_mk (st := (st_F 2)) l_Fm_size c_Fm_size k_Fm_size
  have b_Fm_size := F_Fm_size.binds (ps := ["self"]) fun _ _ _ _ _ _ us hl => match us, hl with | [_], _ => rfl
  have F_Fm_determinant := fun_mk (st := (st_F 3)) l_Fm_determinant c_Fm_determinant k_Fm_determinant
  have b_Fm_determinant := F_Fm_determinant.binds (ps := ["self"]) fun _ _ _ _ _ _ us hl => match us, hl with | [_], _ => rfl
  have F_Fm___eq__ := fun_mk (st := (st_F 4)) l_Fm___eq__ c_Fm___eq__ k_Fm___eq__
  have b_Fm___eq__ := F_Fm___eq__.binds (ps := ["self", "other"]) fun _ _ _ _ _ _ us hl => match us, hl with | [_, _], _ => rfl
  have F_Fm_times := fun_mk (st := (st_F 9)) l_Fm_times c_Fm_times k_Fm_times
  have b_Fm_times := F_Fm_times.binds (ps := ["self", "number"]) fun _ _ _ _ _ _ us hl => match us, hl with | [_, _], _ => rfl
  have F_Fm_led := fun_mk (st := (st_F 10)) l_Fm_led c_Fm_led k_Fm_led
  have b_Fm_led := F_Fm_led.binds (ps := ["self", "table"]) fun _ _ _ _ _ _ us hl => match us, hl with | [_, _], _ => rfl
  have F_Fm_divisor := fun_mk (st := (st_F 11)) l_Fm_divisor c_Fm_divisor k_Fm_divisor
  have b_Fm_divisor := F_Fm_divisor.binds (ps := ["self"]) fun _ _ _ _ _ _ us hl => match us, hl with | [_], _ => rfl
  have F_Fm_single := fun_mk (st := (st_F 12)) l_Fm_single c_Fm_single k_Fm_single
  have b_Fm_single := F_Fm_single.binds (ps := ["self"]) fun _ _ _ _ _ _ us hl => match us, hl with | [_], _ => rfl
  refine ⟨PySem.W.fnOf "law" "law" (defArgs st_law) (defBody st_law) (defScope st_law) .none kV_law dc_law pm_law an_law cd_law ct_law, fun s v => .of_eq rfl, fun base _ _ => ?_⟩
  have D_is_integer : Def l.prog w K mg base "is_integer" 1 ["value"] sp_is_integer := ⟨f_is_integer, _, ok_is_integer F_is_integer T, PySem.W.mg_of X G a_is_integer, k_is_integer, b_is_integer⟩
  have D_is_list : Def l.prog w K mg base "is_list" 1 ["value"] sp_is_list := ⟨f_is_list, _, ok_is_list F_is_list T, PySem.W.mg_of X G a_is_list, k_is_list, b_is_list⟩
  have D_is_row : Def l.prog w K mg base "is_row" 2 ["value"] sp_is_row := ⟨f_is_row, _, ok_is_row F_is_row T D_is_list D_is_integer, PySem.W.mg_of X G a_is_row, k_is_row, b_is_row⟩
  have D_is_row_of : Def l.prog w K mg base "is_row_of" 3 ["size", "value"] sp_is_row_of := ⟨f_is_row_of, _, ok_is_row_of F_is_row_of T D_is_row, PySem.W.mg_of X G a_is_row_of, k_is_row_of, b_is_row_of⟩
  have D_is_grid : Def l.prog w K mg base "is_grid" 4 ["value"] sp_is_grid := ⟨f_is_grid, _, ok_is_grid F_is_grid T D_is_list D_is_row_of, PySem.W.mg_of X G a_is_grid, k_is_grid, b_is_grid⟩
  have D_copied : Def l.prog w K mg base "copied" 1 ["rows"] sp_copied := ⟨f_copied, _, ok_copied F_copied T, PySem.W.mg_of X G a_copied, k_copied, b_copied⟩
  have D_across : Def l.prog w K mg base "across" 1 ["rows"] sp_across := ⟨f_across, _, ok_across F_across T, PySem.W.mg_of X G a_across, k_across, b_across⟩
  have D_scalar : Def l.prog w K mg base "scalar" 1 ["row", "other"] sp_scalar := ⟨f_scalar, _, ok_scalar F_scalar T, PySem.W.mg_of X G a_scalar, k_scalar, b_scalar⟩
  have D_acrossG : Def l.prog w K mg base "across" 1 ["rows"] sp_acrossG := ⟨f_across, _, ok_acrossG F_across T, PySem.W.mg_of X G a_across, k_across, b_across⟩
  have D_led_row : Def l.prog w K mg base "led_row" 2 ["rows", "row"] sp_led_row := ⟨f_led_row, _, ok_led_row F_led_row T D_scalar, PySem.W.mg_of X G a_led_row, k_led_row, b_led_row⟩
  have D_multiplied : Def l.prog w K mg base "multiplied" 3 ["rows", "others"] sp_multiplied := ⟨f_multiplied, _, ok_multiplied F_multiplied T D_across D_led_row, PySem.W.mg_of X G a_multiplied, k_multiplied, b_multiplied⟩
  have D_without : Def l.prog w K mg base "without" 1 ["rows", "at", "place"] sp_without := ⟨f_without, _, ok_without F_without T, PySem.W.mg_of X G a_without, k_without, b_without⟩
  have D_leading : Def l.prog w K mg base "leading" 1 ["rows", "many"] sp_leading := ⟨f_leading, _, ok_leading F_leading T, PySem.W.mg_of X G a_leading, k_leading, b_leading⟩
  have DD := ok_dets (P := l.prog) (w := w) (base := base) F_determinant_of F_cofactor T D_without (PySem.W.mg_of X G a_determinant_of) k_determinant_of b_determinant_of (PySem.W.mg_of X G a_cofactor) k_cofactor b_cofactor
  have D_detA : Def l.prog w K mg base "determinant_of" 7 ["rows"] sp_detA := ⟨f_determinant_of, _, ok_detA F_determinant_of F_cofactor T D_without DD, PySem.W.mg_of X G a_determinant_of, k_determinant_of, b_determinant_of⟩
  have D_trace_of : Def l.prog w K mg base "trace_of" 1 ["rows"] sp_trace_of := ⟨f_trace_of, _, ok_trace_of F_trace_of T, PySem.W.mg_of X G a_trace_of, k_trace_of, b_trace_of⟩
  have D_polynomial_of : Def l.prog w K mg base "polynomial_of" 8 ["rows"] sp_pol_of := ⟨f_polynomial_of, _, ok_pol_of F_polynomial_of T (fun n => (DD n).1) D_trace_of (fun n => (DD n).2), PySem.W.mg_of X G a_polynomial_of, k_polynomial_of, b_polynomial_of⟩
  have Dmk : Mkr l.prog w K mg base C := ⟨f_T___init__, _, ⟨mk, a_T___init__, i_T___init__, kc⟩, ok_init F_T___init__ T Tc D_is_grid D_copied (fun n => (DD n).1), b_T___init__⟩
  have P_rows : Prp l.prog w K mg base C "rows" 1 (sp_rows C) := ⟨pp_T_rows, f_T_rows, _, ⟨p_T_rows, g_T_rows, t_T_rows, ⟨_, r_T_rows⟩⟩, ok_rows F_T_rows Tc, b_T_rows⟩
  have P_size : Prp l.prog w K mg base C "size" 1 (sp_size C) := ⟨pp_T_size, f_T_size, _, ⟨p_T_size, g_T_size, t_T_size, ⟨_, r_T_size⟩⟩, ok_size F_T_size T Tc, b_T_size⟩
  have D_check_table : Def l.prog w K mg base "check_table" 1 ["table"] (sp_check_table C) := ⟨f_check_table, _, ok_check_table F_check_table T Tc, PySem.W.mg_of X G a_check_table, k_check_table, b_check_table⟩
  have Fmk : MkrF l.prog w K mg base CF := ⟨f_Fm___init__, _, ⟨mkF, a_Fm___init__, i_Fm___init__, kcF⟩, ok_initF F_Fm___init__ T Fc D_is_grid D_copied D_acrossG, b_Fm___init__⟩
  have FP_rows : Prp l.prog w K mg base CF "rows" 1 (sp_rows CF) := ⟨pp_Fm_rows, f_Fm_rows, _, ⟨p_Fm_rows, g_Fm_rows, t_Fm_rows, ⟨_, r_Fm_rows⟩⟩, ok_rowsF F_Fm_rows Fc, b_Fm_rows⟩
  have FP_size : Prp l.prog w K mg base CF "size" 1 (sp_size CF) := ⟨pp_Fm_size, f_Fm_size, _, ⟨p_Fm_size, g_Fm_size, t_Fm_size, ⟨_, r_Fm_size⟩⟩, ok_sizeF F_Fm_size T Fc, b_Fm_size⟩
  have FP_determinant : Prp l.prog w K mg base CF "determinant" 8 (sp_detP CF) := ⟨pp_Fm_determinant, f_Fm_determinant, _, ⟨p_Fm_determinant, g_Fm_determinant, t_Fm_determinant, ⟨_, r_Fm_determinant⟩⟩, ok_detF F_Fm_determinant Fc (fun n => (DD n).1), b_Fm_determinant⟩
  have Feq : EqP l.prog w K mg base CF := ⟨f_Fm___eq__, _, a_Fm___eq__, i_Fm___eq__, ok_eqF F_Fm___eq__ T Fc, b_Fm___eq__, hneF, cmF⟩
  have D_check_form : Def l.prog w K mg base "check_form" 1 ["form"] (sp_check_form CF) := ⟨f_check_form, _, ok_check_form F_check_form T Fc, PySem.W.mg_of X G a_check_form, k_check_form, b_check_form⟩
  have D_alFT : Def l.prog w K mg base "check_alike" 3 ["one", "other"] (sp_check_alike2 CF C) := ⟨f_check_alike, _, ok_check_alike2 F_check_alike Fc.cl Tc.cl FP_size P_size, PySem.W.mg_of X G a_check_alike, k_check_alike, b_check_alike⟩
  have FM_times : Mtd l.prog w K mg base CF "times" 10 ["self", "number"] (sp_timesF CF) := ⟨f_Fm_times, _, ⟨a_Fm_times, i_Fm_times, k_Fm_times⟩, ok_timesF F_Fm_times T Fc D_is_integer Fmk, b_Fm_times⟩
  have FM_led : Mtd l.prog w K mg base CF "led" 10 ["self", "table"] (sp_led CF C) := ⟨f_Fm_led, _, ⟨a_Fm_led, i_Fm_led, k_Fm_led⟩, ok_led F_Fm_led Fc Tc D_check_table D_alFT D_multiplied D_across Fmk P_rows, b_Fm_led⟩
  have FM_divisor : Mtd l.prog w K mg base CF "divisor" 1 ["self"] (sp_dv CF) := ⟨f_Fm_divisor, _, ⟨a_Fm_divisor, i_Fm_divisor, k_Fm_divisor⟩, ok_dv F_Fm_divisor (PySem.W.mg_of X G hgcd) Fc, b_Fm_divisor⟩
  have FM_single : Mtd l.prog w K mg base CF "single" 10 ["self"] (sp_sn CF) := ⟨f_Fm_single, _, ⟨a_Fm_single, i_Fm_single, k_Fm_single⟩, ok_sn F_Fm_single T Fc FM_divisor Fmk, b_Fm_single⟩
  have kb_corners : KBinds K (PySem.W.fnOf "corners" "corners" (defArgs st_corners) (defBody st_corners) (defScope st_corners) .none kV_corners dc_corners pm_corners an_corners cd_corners ct_corners) ["form"] ["form"] gU1 gV1 := by
    refine KBinds.mk (fun s us ws _ hl => ?_) (fun {vs us zs ws} r1 r2 => ?_)
    · match us, ws, hl with
      | [], [a0], _ => exact .of_eq rfl
    · cases r1 with
      | cons _ _ =>
        cases r2 with
        | nil => exact .nil
        | cons _ _ => exact .nil
      | nil =>
        cases r2 with
        | nil => exact .nil
        | cons x0 u0 =>
          cases u0 with
          | cons _ _ => exact .nil
          | nil => exact .cons x0 .nil
  have K_corners : DefK l.prog w K mg base "corners" 8 ["form"] ["form"] (sp_cornersN CF) gU1 gV1 := ⟨f_corners, _, ok_cornersN F_corners T Fc D_check_form D_detA D_leading FP_rows FP_size, PySem.W.mg_of X G a_corners, k_corners, b_corners, kb_corners⟩
  have D_corners := K_corners.d
  have kb_signs : KBinds K (PySem.W.fnOf "signs" "signs" (defArgs st_sg) (defBody st_sg) (defScope st_sg) .none kV_signs dc_signs pm_signs an_signs cd_signs ct_signs) ["form"] ["form"] gU1 gV1 := by
    refine KBinds.mk (fun s us ws _ hl => ?_) (fun {vs us zs ws} r1 r2 => ?_)
    · match us, ws, hl with
      | [], [a0], _ => exact .of_eq rfl
    · cases r1 with
      | cons _ _ =>
        cases r2 with
        | nil => exact .nil
        | cons _ _ => exact .nil
      | nil =>
        cases r2 with
        | nil => exact .nil
        | cons x0 u0 =>
          cases u0 with
          | cons _ _ => exact .nil
          | nil => exact .cons x0 .nil
  have K_signs : DefK l.prog w K mg base "signs" 9 ["form"] ["form"] (sp_sg CF) gU1 gV1 := ⟨f_signs, _, ok_sg F_signs T (PySem.W.mg_none_of X G zz_min) Fc D_check_form D_polynomial_of FP_rows FP_size, PySem.W.mg_of X G a_signs, k_signs, b_signs, kb_signs⟩
  have D_signs := K_signs.d
  have D__law_pot : Def l.prog w K mg base "_law_pot" 1 ["_law_script", "_law_k"] (sp_pot K) := ⟨f__law_pot, _, ok_pot F__law_pot T, PySem.W.mg_of X G a__law_pot, k__law_pot, b__law_pot⟩
  have D__law_draw : Def l.prog w K mg base "_law_draw" 1 ["_law_pot_here", "_law_size"] sp_draw := ⟨f__law_draw, _, ok_draw F__law_draw T, PySem.W.mg_of X G a__law_draw, k__law_draw, b__law_draw⟩
  have D__law_pick : Def l.prog w K mg base "_law_pick" 2 ["_law_pot_here", "_law_some"] sp_pick := ⟨f__law_pick, _, ok_pick F__law_pick T D__law_draw, PySem.W.mg_of X G a__law_pick, k__law_pick, b__law_pick⟩
  have D__law_rows : Def l.prog w K mg base "_law_rows" 2 ["_law_pot_here", "_law_size", "_law_most"] sp_lrows := ⟨f__law_rows, _, ok_lrows F__law_rows T D__law_draw, PySem.W.mg_of X G a__law_rows, k__law_rows, b__law_rows⟩
  have D__law_passed : Def l.prog w K mg base "_law_passed" 2 ["_law_pot_here", "_law_rows_here"] sp_lpass := ⟨f__law_passed, _, ok_lpass F__law_passed T D__law_draw, PySem.W.mg_of X G a__law_passed, k__law_passed, b__law_passed⟩
  have D__law_between : Def l.prog w K mg base "_law_between" 1 ["_law_rows_here", "_law_row", "_law_other"] sp_lbtw := ⟨f__law_between, _, ok_lbtw F__law_between T, PySem.W.mg_of X G a__law_between, k__law_between, b__law_between⟩
  have D__law_table : Def l.prog w K mg base "_law_table" 2 ["_law_pot_here", "_law_size"] sp_ltab := ⟨f__law_table, _, ok_ltab F__law_table T D__law_draw, PySem.W.mg_of X G a__law_table, k__law_table, b__law_table⟩
  have D__law_column : Def l.prog w K mg base "_law_column" 1 ["_law_rows_here", "_law_place"] sp_lcol := ⟨f__law_column, _, ok_lcol F__law_column T, PySem.W.mg_of X G a__law_column, k__law_column, b__law_column⟩
  have D__law_led : Def l.prog w K mg base "_law_led" 2 ["_law_rows_here", "_law_table_here"] sp_lled := ⟨f__law_led, _, ok_lled F__law_led T D__law_between D__law_column, PySem.W.mg_of X G a__law_led, k__law_led, b__law_led⟩
  have DM : ∀ n, Def l.prog w K mg base "_law_minor" (n + 1) ["_law_rows_here"] (sp_mi n) := fun n => by
    induction n with
    | zero => exact ⟨f__law_minor, _, ok_mi0 F__law_minor T, PySem.W.mg_of X G a__law_minor, k__law_minor, b__law_minor⟩
    | succ n ih => exact ⟨f__law_minor, _, ok_miS n F__law_minor T ih, PySem.W.mg_of X G a__law_minor, k__law_minor, b__law_minor⟩
  have DL : ∀ n, Def l.prog w K mg base "_law_lots_below" (n + 1) ["_law_size", "_law_many"] (sp_lb n) := fun n => by
    induction n with
    | zero => exact ⟨f__law_lots_below, _, ok_lb0 F__law_lots_below, PySem.W.mg_of X G a__law_lots_below, k__law_lots_below, b__law_lots_below⟩
    | succ n ih => exact ⟨f__law_lots_below, _, ok_lbS n F__law_lots_below ih, PySem.W.mg_of X G a__law_lots_below, k__law_lots_below, b__law_lots_below⟩
  have D__law_built : Def l.prog w K mg base "_law_built" 3 ["_law_pot_here", "_law_size", "_law_heads"] sp_lblt := ⟨f__law_built, _, ok_lblt F__law_built T D__law_draw D__law_table D__law_led, PySem.W.mg_of X G a__law_built, k__law_built, b__law_built⟩
  have D__law_middle : Def l.prog w K mg base "_law_middle" 5 ["_law_rows_here", "_law_many"] sp_mid := ⟨f__law_middle, _, ok_mid F__law_middle T DL DM, PySem.W.mg_of X G a__law_middle, k__law_middle, b__law_middle⟩
  have D__law_told : Def l.prog w K mg base "_law_told" 1 ["_law_rows_here"] sp_copied := ⟨f__law_told, _, ok_ltold F__law_told T, PySem.W.mg_of X G a__law_told, k__law_told, b__law_told⟩
  have D__law_corner : Def l.prog w K mg base "_law_corner" 5 ["_law_rows_here", "_law_many"] sp_cor := ⟨f__law_corner, _, ok_cor F__law_corner T DM, PySem.W.mg_of X G a__law_corner, k__law_corner, b__law_corner⟩
  have D__law_signs : Def l.prog w K mg base "_law_signs" 6 ["_law_rows_here"] sp_lsg := ⟨f__law_signs, _, ok_lsg F__law_signs T D__law_middle, PySem.W.mg_of X G a__law_signs, k__law_signs, b__law_signs⟩
  have D__law_divisor : Def l.prog w K mg base "_law_divisor" 1 ["_law_rows_here"] sp_ldv := ⟨f__law_divisor, _, ok_ldv F__law_divisor T, PySem.W.mg_of X G a__law_divisor, k__law_divisor, b__law_divisor⟩
  have D__law_one_right : Def l.prog w K mg base "_law_one_right" 11 ["_law_pot_here", "_law_rows_here"] sp_on := ⟨f__law_one_right, _, ok_or F__law_one_right T (PySem.W.mg_none_of X G zz_min) Fc Tc Fmk Dmk D__law_passed D__law_corner K_corners K_signs D__law_signs D__law_divisor FP_determinant FP_rows D__law_table FM_led FM_times FM_divisor FM_single Feq D__law_told, PySem.W.mg_of X G a__law_one_right, k__law_one_right, b__law_one_right⟩
  have D__law_right : DefG l.prog w K mg base "_law_right" 12 ["_law_pot_here"] sp_right := ⟨f__law_right, _, ok_ri F__law_right T Fc Fmk D__law_draw D__law_rows D__law_pick D__law_built D__law_one_right D_signs, PySem.W.mg_of X G a__law_right, k__law_right, b__law_right⟩
  exact ok_law F_law T (PySem.W.mg_none_of X G zz_min) D__law_pot D__law_right
theorem walk {l : PySem.W.OpenLaw} {q : Program} {loose : List Str} {XP : (Str → Option Value) → Heap → Prop} {YP : World → Heap → Prop} {d : DefRec} {K : Params → PySem.W.Frag} (hn : l.most = some 63) (hdf : d.params.defaults = [])
    (hY : ∀ (w : World) (h : Heap), YP w h → (K w.params).In h)
    (F : ∀ (w : World) (mg : Str → Option Value) (fa : Addr) (h : Heap), (K w.params).In h → h.Ns mainGlobals mg → mg d.name = some (.ref fa) →
      ∃ fd : FuncData, (∀ (s : Shared) (u : Value), BindsTo s fd ⟨[u], []⟩ [("_law_script", u)]) ∧ ∀ base : Heap, (K w.params).In base → base.Ns mainGlobals mg → FnG l.prog w (K w.params) mg base CX0 13 fa fd ["_law_script"] (sp_law (K w.params))) :
    PySem.W.WalkO q loose XP YP l.row.toRowW d [] (fun f vs => PySem.call f vs) :=
  walkG (n := 63) (k := 13) (x := "_law_script") (sp := fun w => sp_law (K w.params)) hn (by decide) hdf ⟨rfl, by decide, by decide⟩ hY F (fun _ _ a ns hl _ hS => ⟨a, ns, rfl, hS, hl, fun _ => rfl⟩)
end T22
open PySem PySem.W PyProof.Rows
set_option maxRecDepth 100000 in
set_option maxHeartbeats 0 in
theorem PySem.Challenge.cw_keptbowls_k22_whole_corners_signs_diviso_holds : PySem.Challenge.rw_keptbowls_k22_whole_corners_signs_diviso.Holds := by
  w_on; o_law; k_head; (case hw => w_witness2)
  k_fill
  refine T22.walk (l := PySem.Challenge.rw_keptbowls_k22_whole_corners_signs_diviso) rfl rfl (fun w h Y => PySem.W.kIn_of Y) ?F
  case F =>
    intro w mg fa h KX G hmg
    refine' T22.all_mk KX G hmg ?aC ?aCF ?a_is_integer ?l_is_integer ?c_is_integer ?k_is_integer ?a_is_list ?l_is_list ?c_is_list ?k_is_list ?a_is_row ?l_is_row ?c_is_row ?k_is_row ?a_is_row_of ?l_is_row_of ?c_is_row_of ?k_is_row_of ?a_is_grid ?l_is_grid ?c_is_grid ?k_is_grid ?a_copied ?l_copied ?c_copied ?k_copied ?a_across ?l_across ?c_across ?k_across ?a_scalar ?l_scalar ?c_scalar ?k_scalar ?a_led_row ?l_led_row ?c_led_row ?k_led_row ?a_multiplied ?l_multiplied ?c_multiplied ?k_multiplied ?a_without ?l_without ?c_without ?k_without ?a_leading ?l_leading ?c_leading ?k_leading ?a_determinant_of ?l_determinant_of ?c_determinant_of ?k_determinant_of ?a_cofactor ?l_cofactor ?c_cofactor ?k_cofactor ?a_trace_of ?l_trace_of ?c_trace_of ?k_trace_of ?a_polynomial_of ?l_polynomial_of ?c_polynomial_of ?k_polynomial_of ?a_check_table ?l_check_table ?c_check_table ?k_check_table ?a_check_alike ?l_check_alike ?c_check_alike ?k_check_alike ?a_check_form ?l_check_form ?c_check_form ?k_check_form ?a_corners ?l_corners ?c_corners ?k_corners ?a_signs ?l_signs ?c_signs ?k_signs ?a__law_pot ?l__law_pot ?c__law_pot ?k__law_pot ?a__law_draw ?l__law_draw ?c__law_draw ?k__law_draw ?a__law_pick ?l__law_pick ?c__law_pick ?k__law_pick ?a__law_rows ?l__law_rows ?c__law_rows ?k__law_rows ?a__law_passed ?l__law_passed ?c__law_passed ?k__law_passed ?a__law_between ?l__law_between ?c__law_between ?k__law_between ?a__law_table ?l__law_table ?c__law_table ?k__law_table ?a__law_column ?l__law_column ?c__law_column ?k__law_column ?a__law_led ?l__law_led ?c__law_led ?k__law_led ?a__law_told ?l__law_told ?c__law_told ?k__law_told ?a__law_minor ?l__law_minor ?c__law_minor ?k__law_minor ?a__law_corner ?l__law_corner ?c__law_corner ?k__law_corner ?a__law_lots_below ?l__law_lots_below ?c__law_lots_below ?k__law_lots_below ?a__law_middle ?l__law_middle ?c__law_middle ?k__law_middle ?a__law_signs ?l__law_signs ?c__law_signs ?k__law_signs ?a__law_built ?l__law_built ?c__law_built ?k__law_built ?a__law_divisor ?l__law_divisor ?c__law_divisor ?k__law_divisor ?a__law_one_right ?l__law_one_right ?c__law_one_right ?k__law_one_right ?a__law_right ?l__law_right ?c__law_right ?k__law_right ?a_law ?l_law ?c_law ?k_law ?a_T___init__ ?i_T___init__ ?l_T___init__ ?c_T___init__ ?k_T___init__ ?p_T_rows ?g_T_rows ?t_T_rows ?r_T_rows ?l_T_rows ?c_T_rows ?k_T_rows ?p_T_size ?g_T_size ?t_T_size ?r_T_size ?l_T_size ?c_T_size ?k_T_size ?a_Fm___init__ ?i_Fm___init__ ?l_Fm___init__ ?c_Fm___init__ ?k_Fm___init__ ?p_Fm_rows ?g_Fm_rows ?t_Fm_rows ?r_Fm_rows ?l_Fm_rows ?c_Fm_rows ?k_Fm_rows ?p_Fm_size ?g_Fm_size ?t_Fm_size ?r_Fm_size ?l_Fm_size ?c_Fm_size ?k_Fm_size ?p_Fm_determinant ?g_Fm_determinant ?t_Fm_determinant ?r_Fm_determinant ?l_Fm_determinant ?c_Fm_determinant ?k_Fm_determinant ?a_Fm___eq__ ?i_Fm___eq__ ?l_Fm___eq__ ?c_Fm___eq__ ?k_Fm___eq__ ?a_Fm_times ?i_Fm_times ?l_Fm_times ?c_Fm_times ?k_Fm_times ?a_Fm_led ?i_Fm_led ?l_Fm_led ?c_Fm_led ?k_Fm_led ?a_Fm_divisor ?i_Fm_divisor ?l_Fm_divisor ?c_Fm_divisor ?k_Fm_divisor ?a_Fm_single ?i_Fm_single ?l_Fm_single ?c_Fm_single ?k_Fm_single ?pg ?hd ?po ?sa ?mk ?kc ?nR ?cc ?cg ?ct ?cm ?hcl ?hmr ?pgF ?hdF ?poF ?saF ?mkF ?kcF ?nRF ?ccF ?cmF ?hclF ?hmrF ?hneF ?hgcd ?z0 ?z1 ?z2 ?z3 ?z4 ?z5 ?z6 ?z7 ?z8 ?z9 ?z10 ?z11 ?z12 ?z13 ?z14 ?z15 ?zz_min
    (case aC => k_is)
    (case aCF => k_is)
    (case a_is_integer => k_is)
    (case l_is_integer => k_is)
    (case c_is_integer => k_is)
    (case k_is_integer => k_is)
    (case a_is_list => k_is)
    (case l_is_list => k_is)
    (case c_is_list => k_is)
    (case k_is_list => k_is)
    (case a_is_row => k_is)
    (case l_is_row => k_is)
    (case c_is_row => k_is)
    (case k_is_row => k_is)
    (case a_is_row_of => k_is)
    (case l_is_row_of => k_is)
    (case c_is_row_of => k_is)
    (case k_is_row_of => k_is)
    (case a_is_grid => k_is)
    (case l_is_grid => k_is)
    (case c_is_grid => k_is)
    (case k_is_grid => k_is)
    (case a_copied => k_is)
    (case l_copied => k_is)
    (case c_copied => k_is)
    (case k_copied => k_is)
    (case a_across => k_is)
    (case l_across => k_is)
    (case c_across => k_is)
    (case k_across => k_is)
    (case a_scalar => k_is)
    (case l_scalar => k_is)
    (case c_scalar => k_is)
    (case k_scalar => k_is)
    (case a_led_row => k_is)
    (case l_led_row => k_is)
    (case c_led_row => k_is)
    (case k_led_row => k_is)
    (case a_multiplied => k_is)
    (case l_multiplied => k_is)
    (case c_multiplied => k_is)
    (case k_multiplied => k_is)
    (case a_without => k_is)
    (case l_without => k_is)
    (case c_without => k_is)
    (case k_without => k_is)
    (case a_leading => k_is)
    (case l_leading => k_is)
    (case c_leading => k_is)
    (case k_leading => k_is)
    (case a_determinant_of => k_is)
    (case l_determinant_of => k_is)
    (case c_determinant_of => k_is)
    (case k_determinant_of => k_is)
    (case a_cofactor => k_is)
    (case l_cofactor => k_is)
    (case c_cofactor => k_is)
    (case k_cofactor => k_is)
    (case a_trace_of => k_is)
    (case l_trace_of => k_is)
    (case c_trace_of => k_is)
    (case k_trace_of => k_is)
    (case a_polynomial_of => k_is)
    (case l_polynomial_of => k_is)
    (case c_polynomial_of => k_is)
    (case k_polynomial_of => k_is)
    (case a_check_table => k_is)
    (case l_check_table => k_is)
    (case c_check_table => k_is)
    (case k_check_table => k_is)
    (case a_check_alike => k_is)
    (case l_check_alike => k_is)
    (case c_check_alike => k_is)
    (case k_check_alike => k_is)
    (case a_check_form => k_is)
    (case l_check_form => k_is)
    (case c_check_form => k_is)
    (case k_check_form => k_is)
    (case a_corners => k_is)
    (case l_corners => k_is)
    (case c_corners => k_is)
    (case k_corners => k_is)
    (case a_signs => k_is)
    (case l_signs => k_is)
    (case c_signs => k_is)
    (case k_signs => k_is)
    (case a__law_pot => k_is)
    (case l__law_pot => k_is)
    (case c__law_pot => k_is)
    (case k__law_pot => k_is)
    (case a__law_draw => k_is)
    (case l__law_draw => k_is)
    (case c__law_draw => k_is)
    (case k__law_draw => k_is)
    (case a__law_pick => k_is)
    (case l__law_pick => k_is)
    (case c__law_pick => k_is)
    (case k__law_pick => k_is)
    (case a__law_rows => k_is)
    (case l__law_rows => k_is)
    (case c__law_rows => k_is)
    (case k__law_rows => k_is)
    (case a__law_passed => k_is)
    (case l__law_passed => k_is)
    (case c__law_passed => k_is)
    (case k__law_passed => k_is)
    (case a__law_between => k_is)
    (case l__law_between => k_is)
    (case c__law_between => k_is)
    (case k__law_between => k_is)
    (case a__law_table => k_is)
    (case l__law_table => k_is)
    (case c__law_table => k_is)
    (case k__law_table => k_is)
    (case a__law_column => k_is)
    (case l__law_column => k_is)
    (case c__law_column => k_is)
    (case k__law_column => k_is)
    (case a__law_led => k_is)
    (case l__law_led => k_is)
    (case c__law_led => k_is)
    (case k__law_led => k_is)
    (case a__law_told => k_is)
    (case l__law_told => k_is)
    (case c__law_told => k_is)
    (case k__law_told => k_is)
    (case a__law_minor => k_is)
    (case l__law_minor => k_is)
    (case c__law_minor => k_is)
    (case k__law_minor => k_is)
    (case a__law_corner => k_is)
    (case l__law_corner => k_is)
    (case c__law_corner => k_is)
    (case k__law_corner => k_is)
    (case a__law_lots_below => k_is)
    (case l__law_lots_below => k_is)
    (case c__law_lots_below => k_is)
    (case k__law_lots_below => k_is)
    (case a__law_middle => k_is)
    (case l__law_middle => k_is)
    (case c__law_middle => k_is)
    (case k__law_middle => k_is)
    (case a__law_signs => k_is)
    (case l__law_signs => k_is)
    (case c__law_signs => k_is)
    (case k__law_signs => k_is)
    (case a__law_built => k_is)
    (case l__law_built => k_is)
    (case c__law_built => k_is)
    (case k__law_built => k_is)
    (case a__law_divisor => k_is)
    (case l__law_divisor => k_is)
    (case c__law_divisor => k_is)
    (case k__law_divisor => k_is)
    (case a__law_one_right => k_is)
    (case l__law_one_right => k_is)
    (case c__law_one_right => k_is)
    (case k__law_one_right => k_is)
    (case a__law_right => k_is)
    (case l__law_right => k_is)
    (case c__law_right => k_is)
    (case k__law_right => k_is)
    (case a_law => k_is)
    (case l_law => k_is)
    (case c_law => k_is)
    (case k_law => k_is)
    (case a_T___init__ => k_is)
    (case i_T___init__ => k_is)
    (case l_T___init__ => k_is)
    (case c_T___init__ => k_is)
    (case k_T___init__ => k_is)
    (case p_T_rows => k_is)
    (case g_T_rows => k_is)
    (case t_T_rows => k_is)
    (case r_T_rows => k_is)
    (case l_T_rows => k_is)
    (case c_T_rows => k_is)
    (case k_T_rows => k_is)
    (case p_T_size => k_is)
    (case g_T_size => k_is)
    (case t_T_size => k_is)
    (case r_T_size => k_is)
    (case l_T_size => k_is)
    (case c_T_size => k_is)
    (case k_T_size => k_is)
    (case a_Fm___init__ => k_is)
    (case i_Fm___init__ => k_is)
    (case l_Fm___init__ => k_is)
    (case c_Fm___init__ => k_is)
    (case k_Fm___init__ => k_is)
    (case p_Fm_rows => k_is)
    (case g_Fm_rows => k_is)
    (case t_Fm_rows => k_is)
    (case r_Fm_rows => k_is)
    (case l_Fm_rows => k_is)
    (case c_Fm_rows => k_is)
    (case k_Fm_rows => k_is)
    (case p_Fm_size => k_is)
    (case g_Fm_size => k_is)
    (case t_Fm_size => k_is)
    (case r_Fm_size => k_is)
    (case l_Fm_size => k_is)
    (case c_Fm_size => k_is)
    (case k_Fm_size => k_is)
    (case p_Fm_determinant => k_is)
    (case g_Fm_determinant => k_is)
    (case t_Fm_determinant => k_is)
    (case r_Fm_determinant => k_is)
    (case l_Fm_determinant => k_is)
    (case c_Fm_determinant => k_is)
    (case k_Fm_determinant => k_is)
    (case a_Fm___eq__ => k_is)
    (case i_Fm___eq__ => k_is)
    (case l_Fm___eq__ => k_is)
    (case c_Fm___eq__ => k_is)
    (case k_Fm___eq__ => k_is)
    (case a_Fm_times => k_is)
    (case i_Fm_times => k_is)
    (case l_Fm_times => k_is)
    (case c_Fm_times => k_is)
    (case k_Fm_times => k_is)
    (case a_Fm_led => k_is)
    (case i_Fm_led => k_is)
    (case l_Fm_led => k_is)
    (case c_Fm_led => k_is)
    (case k_Fm_led => k_is)
    (case a_Fm_divisor => k_is)
    (case i_Fm_divisor => k_is)
    (case l_Fm_divisor => k_is)
    (case c_Fm_divisor => k_is)
    (case k_Fm_divisor => k_is)
    (case a_Fm_single => k_is)
    (case i_Fm_single => k_is)
    (case l_Fm_single => k_is)
    (case c_Fm_single => k_is)
    (case k_Fm_single => k_is)
    (case pg => k_is)
    (case hd => k_is)
    (case po => k_is)
    (case sa => k_is)
    (case mk => k_is)
    (case kc => k_is)
    (case nR => k_is)
    (case cc => k_is)
    (case cg => k_is)
    (case ct => k_is)
    (case cm => k_is)
    (case hcl => k_is)
    (case hmr => rfl)
    (case pgF => k_is)
    (case hdF => k_is)
    (case poF => k_is)
    (case saF => k_is)
    (case mkF => k_is)
    (case kcF => k_is)
    (case nRF => k_is)
    (case ccF => k_is)
    (case cmF => k_is)
    (case hclF => k_is)
    (case hmrF => rfl)
    (case hneF => k_is)
    (case hgcd => k_is)
    (case z0 => k_is)
    (case z1 => k_is)
    (case z2 => k_is)
    (case z3 => k_is)
    (case z4 => k_is)
    (case z5 => k_is)
    (case z6 => k_is)
    (case z7 => k_is)
    (case z8 => k_is)
    (case z9 => k_is)
    (case z10 => k_is)
    (case z11 => k_is)
    (case z12 => k_is)
    (case z13 => k_is)
    (case z14 => k_is)
    (case z15 => k_is)
    (case zz_min => k_is)
#print axioms PySem.Challenge.cw_keptbowls_k22_whole_corners_signs_diviso_holds
