import PyProof.Rows.All
import Wide.All
import OpenK.AllK
import Wide.FinOn
import HandS.ForMost
import HandS.IsInst
import HandS.Wide
import HandS.OwnEq
import HandS.Strs
import HandS.SetFor
import HandS.SortInts
import HandS.TupAny
import HandS.Conv
import HandS.Flow
import HandS.Walk
import KE.GoesEnum
import HandS.Evl
import HandS.Zip
import HandS.Style
import PySem.Challenge.RW_takenjoined_k06_whole_bridges
set_option Elab.async false
set_option linter.all false
set_option maxRecDepth 100000
set_option maxHeartbeats 4000000
/-! Rules of my own over the hand layer: a tuple counted through. -/
namespace Rl
open PySem PySem.Spec PyProof.Rows L2
/-! ### for i, x in enumerate(t), t a tuple -/
theorem meets_enT (u : Addr) (vs : Array Value) (nn : Nat) (dd : Option Addr) (ss : Array (Option Value)) :
    Meets (Builtin.«enumerate.__new__» ⟨[.type "enumerate", .ref u], []⟩) (fun _ R s =>
      s.heap.get? u = some { cls := .type "tuple", dict := dd, data := .seq vs nn, slots := ss } ∧
      R (.ok (.ret (.ref (s.heap.push { cls := .type "tuple_iterator", data := .fields #[.ref u, .int 0 0] }).objs.size)))
        { s with heap := ((s.heap.push { cls := .type "tuple_iterator", data := .fields #[.ref u, .int 0 0] }).push
            ({ cls := .type "enumerate", data := .fields #[.none, .bool false, .ref s.heap.objs.size, rawInt 0, .none, .none] } : Obj)) }) :=
  .of_wp fun prog w A R s hy => by
    obtain ⟨hp, gg, dw, tk, oo⟩ := s; obtain ⟨hu, fin⟩ := hy
    have sb := sub_enumerate
    have tt : Heap.IsTuple (Shared.heap ⟨hp, gg, dw, tk, oo⟩) u vs := ⟨_, hu, rfl, nn, rfl⟩
    wp_walk using AutoSeq1.wpAny_loadPart' hu
    refine wpAny_stack_any fun stk => wpAny_pure ?_
    split
    · rename_i cc _ _ _ _ _
      cases (cc == Value.type "enumerate")
      · wp_walk using AutoSeq1.wpAny_loadPart' hu, wpAny_pyIter_tuple tt
        exact ⟨_, rfl, fin⟩
      · wp_walk using AutoSeq1.wpAny_loadPart' hu, wpAny_pyIter_tuple tt
        exact ⟨_, rfl, fin⟩
    · wp_walk using AutoSeq1.wpAny_loadPart' hu, wpAny_pyIter_tuple tt
      exact ⟨_, rfl, fin⟩
section
variable {prog : Program} {w : World} {A : Around} {E : Value → Shared → Prop} {s : Shared}
theorem call_enT {u : Addr} {vs : Array Value} {Q : Value → Shared → Prop} (ht : s.heap.IsTuple u vs)
    (fin : ∀ g, IsEnum g (s.heap.objs.size + 1) s.heap.objs.size 0 .none → g.IsTupleIter s.heap.objs.size u 0 → g.objs.size = s.heap.objs.size + 2 →
      (∀ b o, s.heap.get? b = some o → g.get? b = some o) → Q (.ref (s.heap.objs.size + 1)) { s with heap := g }) :
    wpAny (model prog w) A (call (.type "enumerate") [.ref u]) Q E s := by
  obtain ⟨⟨cc, dd, da, ss⟩, hu, ec, nn, ed⟩ := ht
  replace ec : cc = .type "tuple" := ec
  replace ed : da = .seq vs nn := ed
  subst ec ed
  refine callType_new F.called_enumerate (by decide) (F.typeCall_enumerate_1 _) (F.newCall_enumerate_1 _)
    (fun ob => F.args_object_init_2 ob _) F.entry_enumerate_new (meets_enT u vs nn dd ss) ⟨hu, ?_⟩
  have sz : (s.heap.push { cls := .type "tuple_iterator", data := .fields #[.ref u, .int 0 0] }).objs.size
      = s.heap.objs.size + 1 := Heap.size_push ..
  show _ ∧ _
  rw [sz]
  have en : IsEnum ((s.heap.push { cls := .type "tuple_iterator", data := .fields #[.ref u, .int 0 0] }).push
      { cls := .type "enumerate", data := .fields #[.none, .bool false, .ref s.heap.objs.size, rawInt 0, .none, .none] })
      (s.heap.objs.size + 1) s.heap.objs.size 0 .none := by
    have q := Heap.get?_push_size (s.heap.push { cls := .type "tuple_iterator", data := .fields #[.ref u, .int 0 0] })
      (o := { cls := .type "enumerate", data := .fields #[.none, .bool false, .ref s.heap.objs.size, rawInt 0, .none, .none] }) rfl
    rw [sz] at q
    exact q
  refine ⟨⟨_, en, rfl⟩, fin _ en ?_ (by rw [Heap.size_push, sz])
    fun b o x => Heap.get?_push_of_some _ (Heap.get?_push_of_some _ x)⟩
  have q0 := Heap.get?_push_size s.heap (o := { cls := .type "tuple_iterator", data := .fields #[.ref u, .int 0 0] }) rfl
  exact ⟨_, Heap.get?_push_of_some _ q0, rfl, rfl⟩
end
/-- the tuple at a, each item with its number in a new pair -/
def Iet (K : PySem.W.Frag) (a : Addr) : It :=
  ⟨fun i H => ∃ (ys : List V) (y : V), SqT K H a ys ∧ ys[i]? = some y,
   fun i H v H' => ∃ T y, v = .ref T ∧ H T = none ∧ H' = upd H T (.tup [.int (i : Nat), y]) ∧ ∀ ys, SqT K H a ys → ys[i]? = some y,
   fun i H => ∃ ys : List V, SqT K H a ys ∧ ys.length = i⟩
theorem turn_enT {P : Program} {w : World} {K : PySem.W.Frag} {elts : List Expr} {kk : Nat} {tp : Pos} (a e it : Addr) :
    Turn P w K (.Tuple elts kk tp) (Iet K a) [e, it] e
      (fun i h => (∃ old, IsEnum h e it ((i : Nat) : Int) old) ∧ h.IsTupleIter it a i ∧ e ≠ it) where
  mem := by simp
  obj := fun i h st b hb => by
    obtain ⟨⟨old, en⟩, ⟨o, ho, _, hd⟩, _⟩ := st
    have z : b = e ∨ b = it := by simpa using hb
    rcases z with z | z
    · rw [z]
      exact ⟨_, en, fun v q => nomatch q⟩
    · rw [z]
      exact ⟨o, ho, fun v q => by rw [hd] at q; cases q⟩
  keep := fun i h h' st k => by
    obtain ⟨⟨old, en⟩, ti, ne⟩ := st
    exact ⟨⟨old, k e (by simp) _ en⟩, ti.at fun o q => k it (by simp) o q, ne⟩
  item := by
    intro X eP ew eK hc i pins s σ H E I fk st go
    subst eP ew eK
    obtain ⟨⟨old, en⟩, ti, ne⟩ := st
    obtain ⟨ys, y, hq, hy⟩ := go
    obtain ⟨its, rv, pt, hz⟩ := I.tuple hq
    obtain ⟨u, hu, ru⟩ := rv.get hy
    have le : e < s.heap.objs.size := Heap.lt_size en
    have li : it < s.heap.objs.size := by obtain ⟨_, q, _⟩ := ti; exact Heap.lt_size q
    have hlt : i < its.toArray.size := by
      have q := (List.getElem?_eq_some_iff.mp hu).1
      simpa using q
    have nai : a ≠ it := fun z => by
      obtain ⟨o, ho, hcl, _⟩ := ti
      obtain ⟨o2, ho2, hcl2, _⟩ := pt
      rw [z] at ho2
      rw [ho] at ho2
      cases ho2
      rw [hcl] at hcl2
      exact absurd hcl2 (by simp)
    have nae : e ∉ [it, a] := fun z => by
      have z' : e = it ∨ e = a := by simpa using z
      rcases z' with z' | z'
      · exact ne z'
      · obtain ⟨o2, ho2, hcl2, _⟩ := pt
        rw [← z'] at ho2
        have q := en
        unfold IsEnum at q
        rw [q] at ho2
        cases ho2
        exact absurd hcl2 (by simp)
    have hh : X.A.in1.handled = none := by
      have q := I.ok.hd hc
      simpa using q
    refine wpAny_pyNext_enum_itemC (Draws.tuple hh it a nai its.toArray) en ⟨ti, pt⟩ hlt ne nae
      fun x h' tk ex out hst hT hsz hk => ?_
    have exu : u = x := by
      have q : its.toArray[i]? = some u := by simpa using hu
      exact Option.some.inj (q.symm.trans ex)
    subst exu
    refine ⟨_, rfl, wpAny_letOwnedTupleGo_enum (s := { s with heap := h', toks := tk + 1 }) out fun h2 en2 sb => ?_⟩
    have hT2 : h2.get? s.heap.objs.size = some { cls := .type "tuple", data := .seq #[.int i tk, u] } :=
      (sb.2 _ (Nat.ne_of_gt le)).trans hT
    have new : ObjOk X.prog X.w (upd H s.heap.objs.size (.tup [.int (i : Nat), y])) h2 s.heap.objs.size (.tup [.int (i : Nat), y]) :=
      ⟨by show 2 ≤ sizeLine; decide, [.int i tk, u], .cons ⟨_, rfl⟩ (.cons ru .nil), ⟨_, hT2, rfl, _, rfl⟩⟩
    have I1 : Inv X pins σ (upd H s.heap.objs.size (.tup [.int (i : Nat), y])) { s with heap := h2, toks := tk + 1 } :=
      I.turnedNew (ch := [e, it]) (fun b ob hb q => (sb.2 b (fun z => hb (by simp [z]))).trans
        (hk b ob (fun z => hb (by simp [z])) (fun z => hb (by simp [z])) q)) fk (Nat.le_refl _) new
    refine ⟨.ref s.heap.objs.size, _, I1, rfl, ⟨_, y, rfl, I.hok.fresh (Nat.le_refl _), rfl, fun zs hzs => by rw [I.tuple_inj hzs hq]; exact hy⟩,
      ⟨⟨u, ?_⟩, hst.1.at fun o q => (sb.2 it (Ne.symm ne)).trans q, ne⟩, fun b hb => ?_⟩
    · have e1 : ((i + 1 : Nat) : Int) = (i : Int) + 1 := by omega
      rw [e1]
      exact en2
    · have z : b = e ∨ b = it := by simpa using hb
      have hb' : b < s.heap.objs.size := by
        rcases z with z | z
        · rw [z]; exact le
        · rw [z]; exact li
      rw [upd_ne (Nat.ne_of_lt hb')]
      exact (fk b hb).1
  done := by
    intro X eP ew eK hc i pins s σ H E I fk st go
    subst eP ew eK
    obtain ⟨⟨old, en⟩, ti, ne⟩ := st
    obtain ⟨ys, hq, hl⟩ := go
    obtain ⟨its, rv, pt, hz⟩ := I.tuple hq
    obtain ⟨f0, f1, f2, f3, f4, f5⟩ := fk it (by simp)
    have ln := rv.length
    have hh : X.A.in1.handled = none := by
      have q := I.ok.hd hc
      simpa using q
    have nai : a ≠ it := fun z => by
      obtain ⟨o, ho, hcl, _⟩ := ti
      obtain ⟨o2, ho2, hcl2, _⟩ := pt
      rw [z] at ho2
      rw [ho] at ho2
      cases ho2
      rw [hcl] at hcl2
      exact absurd hcl2 (by simp)
    have ei : its.toArray.size = i := by
      rw [List.size_toArray, ← ln]
      exact hl
    refine wpAny_pyNext_enum_endD (Draws.tuple hh it a nai its.toArray) en (by rw [ei]; exact ⟨ti, pt⟩)
      fun h' eb => ⟨rfl, ?_⟩
    exact I.turned (t' := s.toks) (fun b o hb q => eb b o hb q) f0 f1 f3 f4 f5
  self := fun A i s Q E st h => let ⟨⟨_, en⟩, _⟩ := st; wpAny_pyIter_enum en h
def iEnT (K : PySem.W.Frag) (ta : TA) : TI := fun σ H R => ta σ H fun vs H1 => ∃ a ys, vs = [.ref a] ∧ SqT K H1 a ys ∧ R (Iet K a) H1
theorem pi_enT {X : Cx} {e : Expr} {ta : TA} {p pos tpos : Pos} {elts : List Expr} {kk : Nat} (hg : Gl X "enumerate") (hm : X.mg "enumerate" = none)
    (ha : PA X [e] ta) (hs : starEach [e] X.env = [(false, eval e X.env)] := by rfl) :
    PI X (.Tuple elts kk tpos) (.Call (.Name "enumerate" p) [e] [] pos) (iEnT X.K ta) := by
  refine ⟨fun pins s σ H R I hy => ?_⟩
  refine Call_ (ld_blt I hg hm boot_enumerate (PyProof.Rows.callWith_type1
    (thn (ha.run pos pins s σ H _ I hy) fun us s1 ⟨vs, H1, I1, r1, q1⟩ => ?_) hs rfl))
  obtain ⟨a, ys, ex, hq, q⟩ := q1
  subst ex
  cases r1 with
  | cons r rr =>
    cases rr
    cases r
    obtain ⟨its, rv, pt, hz⟩ := I1.tuple hq
    refine call_enT (show s1.heap.IsTuple a its.toArray from pt) fun g en ti hsz hk => wpAny_pyIter_enum en ?_
    have I2 : Inv X pins σ H1 { s1 with heap := g } := I1.kept (t' := s1.toks) hk
    refine ⟨s1.heap.objs.size + 1, [s1.heap.objs.size + 1, s1.heap.objs.size], _, _, H1, rfl, I2,
      turn_enT a (s1.heap.objs.size + 1) s1.heap.objs.size, ⟨⟨.none, en⟩, ti, Nat.succ_ne_self _⟩, fun b hb => ?_, q⟩
    have z : b = s1.heap.objs.size + 1 ∨ b = s1.heap.objs.size := by simpa using hb
    have le : s1.heap.objs.size ≤ b := by
      rcases z with z | z
      · rw [z]; exact Nat.le_succ _
      · exact Nat.le_of_eq z.symm
    exact I1.fpOk le (I1.hok.fresh le)
/-- the loop over it: each turn's pair is a new tuple at T -/
theorem for_enT {K : PySem.W.Frag} {a : Addr} {xs : List V} {g : TG} {tb : TS} {D : Ends} {σ : L2.St} {H : Hp}
    (Pv : Nat → L2.St → Hp → Prop) (h0 : Pv 0 σ H) (hq : ∀ i σ H, Pv i σ H → SqT K H a xs)
    (hs : ∀ (i : Nat) (x : V) (T : Addr) (σ : L2.St) (H : Hp), xs[i]? = some x → Pv i σ H → H T = none →
      g (.ref T) σ (upd H T (.tup [.int (i : Nat), x])) fun σ2 H2 => tb { D with nx := Pv (i + 1), ct := Pv (i + 1), bk := D.nx } σ2 H2)
    (hd : ∀ σ H, Pv xs.length σ H → D.nx σ H) :
    ∃ W : Nat → Nat → L2.St → Hp → Prop, (∃ m, W 0 m σ H) ∧ ∀ i m σ H, W i m σ H → ((Iet K a).stop i H ∧ D.nx σ H) ∨
      ((Iet K a).go i H ∧ ∃ N : L2.St → Hp → Prop, (∀ σ' H', N σ' H' → ∃ m', m' < m ∧ W (i + 1) m' σ' H') ∧
        ∀ v H', (Iet K a).yld i H v H' → g v σ H' fun σ2 H2 => tb { D with nx := N, ct := N, bk := D.nx } σ2 H2) := by
  refine ⟨fun i m σ H => m = xs.length - i ∧ i ≤ xs.length ∧ Pv i σ H, ⟨xs.length, rfl, Nat.zero_le _, h0⟩, fun i m σ H hw => ?_⟩
  obtain ⟨em, hi, p⟩ := hw
  subst em
  have qx := hq i σ H p
  by_cases lt : i < xs.length
  · refine .inr ⟨⟨xs, _, qx, List.getElem?_eq_getElem lt⟩, Pv (i + 1), fun σ' H' p' => ⟨xs.length - (i + 1), by omega, rfl, lt, p'⟩, fun v H' y => ?_⟩
    obtain ⟨T, x, ev, hT, eH, f⟩ := y
    subst ev eH
    exact hs i x T σ H (f xs qx) p hT
  · have e : i = xs.length := by omega
    subst e
    exact .inl ⟨⟨xs, qx, rfl⟩, hd σ H p⟩
theorem walk_enT {K : PySem.W.Frag} {a : Addr} {xs : List V} : Walk (Iet K a) xs.length (fun H => SqT K H a xs) (YPair (fun i => some (.int (i : Nat))) (fun i => xs[i]?)) := by
  refine ⟨fun i _ lt q => ⟨xs, _, q, List.getElem?_eq_getElem lt⟩, fun _ q => ⟨xs, q, rfl⟩, fun i H v H' _ q y => ?_⟩
  obtain ⟨T, x, g1, g2, g3, g4⟩ := y
  exact ⟨T, .int (i : Nat), x, g1, g2, g3, rfl, g4 xs q⟩
end Rl
set_option Elab.async false
set_option linter.all false
set_option maxRecDepth 100000
set_option maxHeartbeats 4000000
/-! Rules of my own over the hand layer: sorted of a tuple, t.index, set of a list, of ints. -/
namespace Rl
open PySem PySem.Spec PyProof.Rows L2
section
variable {prog : Program} {w : World} {A : Around} {E : Value → Shared → Prop} {s : Shared}
theorem collect_tupT {l : Addr} {vs : List Value} {Q : List Value → Shared → Prop} (hl : s.heap.IsTuple l vs.toArray)
    (fin : Q vs { s with heap := (s.heap.push (seqObj "list" #[] 0)).update s.heap.objs.size (Obj.mapSeq (· ++ vs.toArray)) })
    (sz : vs.length ≤ sizeLine) : wpAny (model prog w) A (collect (.ref l)) Q E s := by
  obtain ⟨ob, hb, hcl, nn, hda⟩ := id hl
  unfold collect
  refine wpAny_bind (wpAny_runValue (codeAny_builtin entry_proto_collect' ?_))
  show wpAny _ _ (do again (.builtin "list.__iadd__" ⟨[← newList [], .ref l], []⟩)) _ _ s
  refine wpAny_bind (wpAny_newList (wpAny_pure ⟨Code.quiet_builtin _ (by decide +kernel), codeAny_builtin entry_list_iadd' ?_⟩))
  show wpAny _ _ (Builtin.List.listExtendWith (.ref s.heap.objs.size) (.ref l) (.ref s.heap.objs.size)) _ _
    { s with heap := s.heap.push (seqObj "list" #[] 0) }
  unfold Builtin.List.listExtendWith
  have hb' : (s.heap.push (seqObj "list" #[] 0)).get? l = some ob := Heap.get?_push_of_some _ hb
  refine wpAny_bind (wpAny_typeOf (T := "tuple") ⟨ob, hb', hcl⟩ ?_)
  have et : (Value.type "tuple" == Value.type "tuple") = true := by rfl
  rw [if_pos (by rw [et]; simp)]
  refine wpAny_bind (listItems_at hb' hda ?_)
  refine wpAny_bind (listItems_at (xs := #[]) (n := 0) (Heap.get?_push_size _ rfl) rfl ?_)
  rw [if_neg (by simp)]
  refine wpAny_bind (listUpdate_at (xs := #[]) (n := 0) (Heap.get?_push_size _ rfl) rfl ?_ (Nat.zero_le _)
    (by show (#[] ++ vs.toArray).size ≤ sizeLine + 1; simp only [Array.size_append, List.size_toArray, List.length_nil]; omega))
  refine wpAny_pure ?_
  show wpAny (model prog w) A (do
      let ob ← load s.heap.objs.size
      match ob.data with
      | .seq ys _ => pure ys.toList
      | _ => unsupported "internal:collect") Q E
    { s with heap := (s.heap.push (seqObj "list" #[] 0)).update s.heap.objs.size (Obj.mapSeq (· ++ vs.toArray)) }
  refine wpAny_bind (wpAny_load (get?_update_seq (Heap.get?_push_size _ rfl) _) ?_)
  show wpAny _ _ (pure ((#[] : Array Value) ++ vs.toArray).toList) Q E _
  rw [show ((#[] : Array Value) ++ vs.toArray).toList = vs by simp]
  exact wpAny_pure fin
open SrtO in
theorem sorted_ordT {l : Addr} {vs : List Value} {lt : Value → Value → Bool} {Q : Value → Shared → Prop} (O : Swo lt)
    (hl : s.heap.IsTuple l vs.toArray) (sz : vs.length ≤ sizeLine)
    (hS : 2 ≤ vs.length → ∀ (g : Heap) (a : Addr), g.get? a = some (seqObj "list" vs.toArray 0) →
      (∀ b o, s.heap.get? b = some o → b ≠ a ∧ g.get? b = some o) → SortableO prog w A.in1.in1 { s with heap := g } a vs lt)
    (fin : ∀ out : List Value, Srtd lt out → Stb lt out vs → Q (.ref (s.heap.objs.size + 1)) { s with heap := sortedAll s.heap vs out.toArray }) :
    wpAny (model prog w) A (call (.builtin "sorted") [.ref l]) Q E s := by
  refine Calls.call_function_entry kind_sorted plain_sorted entry_sorted (args_sorted1 _) ?_
  unfold Builtin.«sorted»
  refine wpAny_bind (m := checkCount "sorted" 1 1 _) (wpAny_pure ?_)
  refine wpAny_bind (collect_tupT hl ?_ sz)
  refine wpAny_bind (wpAny_newList ?_ sz)
  have e1 : ((s.heap.push (seqObj "list" #[] 0)).update s.heap.objs.size (Obj.mapSeq (· ++ vs.toArray))).objs.size
      = s.heap.objs.size + 1 := by
    rw [Heap.size_update, size_push']
  have e2 : (((s.heap.push (seqObj "list" #[] 0)).update s.heap.objs.size (Obj.mapSeq (· ++ vs.toArray))).push
      (seqObj "list" vs.toArray 0)).get? (s.heap.objs.size + 1) = some (seqObj "list" vs.toArray 0) := by
    rw [← e1]
    exact Heap.get?_push_size _ rfl
  have kp : ∀ b o, s.heap.get? b = some o → b ≠ s.heap.objs.size + 1 ∧
      (((s.heap.push (seqObj "list" #[] 0)).update s.heap.objs.size (Obj.mapSeq (· ++ vs.toArray))).push (seqObj "list" vs.toArray 0)).get? b
        = some o := fun b o q => by
    have lt' : b < s.heap.objs.size := Heap.lt_size q
    refine ⟨Nat.ne_of_lt (Nat.lt_succ_of_lt lt'), Heap.get?_push_of_some _ ?_⟩
    rw [Heap.get?_update_ne _ _ _ _ (Nat.ne_of_lt lt')]
    exact Heap.get?_push_of_some _ q
  show wpAny _ _ _ _ _
    { s with heap := ((s.heap.push (seqObj "list" #[] 0)).update s.heap.objs.size (Obj.mapSeq (· ++ vs.toArray))).push (seqObj "list" vs.toArray 0) }
  rw [e1]
  refine wpAny_bind (wpAny_holding (wpAny_call_entry slot_list_sort ⟨_, e2, rfl⟩ entry_list_sort
    (list_sort_ord O e2 sz (fun q => hS q _ _ e2 kp) fun out a1 a2 => ⟨_, rfl, ?_⟩) (args_list_sort _)))
  exact wpAny_pure ⟨_, rfl, fin out a1 a2⟩
end
section
variable {X : Cx}
/-- sorted(t), t a tuple of ints -/
def rSortedTI (K : PySem.W.Frag) : List V → Hp → VK → Prop := fun vs H Q => ∃ (a : Addr) (ns : List Int), vs = [V.ref a] ∧ SqT K H a (ns.map V.int) ∧
  ∀ (ms : List Int) (p : Addr), ms.Perm ns → ms.Pairwise (· ≤ ·) → H p = none → Q (.ref p) (upd H p (.lst (ms.map V.int)))
theorem cr_sortedTI : CallR X (.builtin "sorted") (rSortedTI X.K) := by
  intro pins s σ H vs us Q I r hy
  obtain ⟨a, ns, ex, hs, q⟩ := hy
  subst ex
  obtain ⟨its, rv, pt, hz⟩ := I.tuple hs
  rw [Vals.ref1 r]
  have hi := rv.ints
  refine sorted_ordT SrtO.swo_int (show s.heap.IsTuple a its.toArray from pt) (by rw [← rv.length]; exact hz)
    (fun h2 g b _ _ => SrtO.ints_sortable hi h2) fun out g1 g2 => ?_
  obtain ⟨k1, k2, k3⟩ := SrtO.ints_out hi g1 g2
  obtain ⟨ep, hep⟩ := PyProof.Rows.sortedAll_at s.heap its out.toArray
  have ln : ((out.map SrtO.iv).map V.int).length ≤ sizeLine := by
    rw [List.length_map, k2.length_eq]
    rw [List.length_map] at hz
    exact hz
  refine ⟨.ref _, upd H (s.heap.objs.size + 1) (.lst ((out.map SrtO.iv).map V.int)), ?_, rfl, q _ _ k2 k3 (I.hok.fresh (Nat.le_succ _))⟩
  exact I.laid (t' := s.toks) (fun _ _ => PyProof.Rows.sortedAll_old) (Nat.le_succ _) ⟨ln, out, ep, vals_of_ints k1, hep⟩
/-- t.index(k), the first place, ints -/
theorem flat_ints (ns : List Int) : (ns.map V.int).all flatV = true := by
  rw [List.all_map]
  exact List.all_eq_true.mpr fun _ _ => rfl
def rTIx (K : PySem.W.Frag) : V → List V → Hp → VK → Prop := fun x xs H Q => ∃ (p : Addr) (ys : List Int) (z : Int) (j : Nat), x = .ref p ∧ xs = [.int z] ∧
  SqT K H p (ys.map V.int) ∧ ys[j]? = some z ∧ (∀ m, m < j → ys[m]? ≠ some z) ∧ Q (.int (j : Nat)) H
theorem mt_tup_indexI : MtR X "tuple.index" (rTIx X.K) := by
  intro pins s σ H x xs v us Q I rx rs hy
  obtain ⟨p, ys, z, j, e1, e2, hq, hj, hno, q⟩ := hy
  subst e1 e2
  cases rx
  obtain ⟨u, e3, tk, e4⟩ := vals1 rs
  subst e3 e4
  obtain ⟨its, r, pl, hz⟩ := I.tuple hq
  obtain ⟨⟨cc, dd, da, sl⟩, ho, hc, nn, hd⟩ := pl
  simp only at hc hd
  subst hc hd
  have ln : its.toArray.size = ys.length := by rw [List.size_toArray, ← r.length, List.length_map]
  have lj : j < its.toArray.size := by rw [ln]; exact (List.getElem?_eq_some_iff.mp hj).1
  have at1 : ∀ (m : Nat) (hm : m < its.toArray.size), ∃ y tk', ys[m]? = some y ∧ its.toArray[m] = Value.int y tk' := fun m hm => by
    have lm : m < ys.length := by rw [← ln]; exact hm
    obtain ⟨w1, hw, tk', ew⟩ := r.get (i := m) (x := .int ys[m]) (by simp [lm])
    refine ⟨ys[m], tk', List.getElem?_eq_getElem lm, ?_⟩
    have e := (List.getElem?_eq_some_iff.mp hw).2
    rw [← ew, ← e]
    simp
  refine call_meets PySem.F.slot_tuple_index ⟨_, ho, rfl⟩ PySem.F.entry_tuple_index (PySem.F.args_tuple_index_2 _ _)
    (TI.tuple_indexAt p its.toArray nn dd sl (.int z tk) (eqU (.int z)) j lj ?_ ?_)
    ⟨ho, fun w1 hw => mem_eqAt (x := .int z) ⟨tk, rfl⟩ rfl r (flat_ints ys) w1 (by simpa using hw), ⟨.int (j : Nat), H, I.tok _, ⟨_, rfl⟩, q⟩⟩
  · obtain ⟨y, tk', g1, g2⟩ := at1 j lj
    rw [hj] at g1
    cases g1
    rw [g2]
    show (z == z) = true
    exact beq_self_eq_true z
  · intro m hm hmj
    obtain ⟨y, tk', g1, g2⟩ := at1 m hm
    rw [g2]
    show (y == z) = false
    exact beq_eq_false_iff_ne.mpr fun e => hno m hmj (e ▸ g1)
end
end Rl
set_option Elab.async false
set_option linter.all false
set_option maxRecDepth 100000
set_option maxHeartbeats 4000000
/-! Rules of my own over the hand layer: set(xs), xs a list of ints. -/
namespace Rl
open PySem PySem.Spec PyProof.Rows L2
abbrev newSetO (w : World) : Obj := { cls := .type "set", dict := none, data := .set #[] 0 (.fresh 0 0 (!w.params.followText "set-order")) }
section
variable {P : Program} {w : World} {A : Around} {E : Value → Shared → Prop} {s : Shared}
set_option maxHeartbeats 6400000 in
theorem call_setL {l : Addr} {items : Array Value} (ns : List Int) {Q : Value → Shared → Prop} (hh : A.handled = none)
    (hl : s.heap.IsList l items) (hit : IntsAre items.toList ns) (hb : ns.length + 1 < scanBound)
    (fin : ∀ (g : Heap) (tk c : Nat), SetR w g s.heap.objs.size (fun j => decide (j ∈ ns)) c → c ≤ ns.length →
      (∀ b o, s.heap.get? b = some o → g.get? b = some o) → Q (.ref s.heap.objs.size) { s with heap := g, toks := tk }) :
    wpAny (model P w) A (call (.type "set") [.ref l]) Q E s := by
  have esz : items.size = ns.length := by
    have q := IntsAre.length hit
    rw [Array.length_toList] at q
    exact q
  obtain ⟨cc, tl', hmr⟩ := F.called_set.mro
  have hmd := F.called_set.made
  have hsb := F.called_set.sub
  refine wpAny_call (codeAny_of_tree ?_)
  show wpAny _ _ (callAny (.type "set") _) _ _ _
  refine wpAny_pure ⟨Code.quiet_builtin _ (by decide +kernel), codeAny_builtin F.entry_type_call ?_⟩
  rw [Around.under_plain (weight_type_call_type "set" [.ref l] []) rfl]
  have g1 := F.called_set.notType
  have g2 := F.called_set.canCreate
  have g3 := F.typeCall_set_1 (.ref l)
  repeat (any_goals (first | assumption | wp_step))

  refine codeAny_mono (code_set_led1 (.ref l) (E := E)
    (Q₁ := fun ob s1 => ob = .ref s.heap.objs.size ∧ s1 = { s with heap := s.heap.push (newSetO w) }) ⟨rfl, rfl⟩) fun r s1 hr => ?_
  cases r with
  | error e => exact hr
  | ok fl =>
    cases fl with
    | ret ob =>
      obtain ⟨e1, e2⟩ := hr
      subst e1 e2
      have hS : (s.heap.push (newSetO w)).get? s.heap.objs.size = some (newSetO w) := Heap.get?_push_size _ rfl
      have hT : Shared.TypeIs { s with heap := s.heap.push (newSetO w) } (.ref s.heap.objs.size) "set" := ⟨_, hS, rfl⟩
      have g4 := F.called_set.init.lookup
      have g5 := F.called_set.init.bind (.ref s.heap.objs.size)
      repeat (any_goals (first | assumption | wp_step))

      refine codeAny_mono (codeAny_call_builtin (R := wants (fun r s2 => r = .none ∧ ∃ g tk c, s2 = { s with heap := g, toks := tk } ∧
          SetR w g s.heap.objs.size (fun j => decide (j ∈ ns)) c ∧ c ≤ ns.length ∧
          (∀ b o, s.heap.get? b = some o → g.get? b = some o)) E) F.called_set.init.plain F.entry_set_init (check_set_init_1 hT ?_)) fun r2 s2 hr2 => ?_
      · obtain ⟨ol, hol, ecl, nl, eda⟩ := hl
        obtain ⟨ocls, odct, oda, osl⟩ := ol
        simp only at ecl eda
        subst ecl; subst eda
        have hol2 : (s.heap.push (newSetO w)).get? l = some { cls := .type "list", dict := odct, data := .seq items nl, slots := osl } :=
          Heap.get?_push_of_some _ hol
        have g6 := F.sub_list_set
        have g7 := F.sub_list_frozenset
        have g8 : (Value.type "list" == Value.type "dict") = false := by decide
        have hl1 : (s.heap.push (newSetO w)).IsList l items := ⟨_, hol2, rfl, nl, rfl⟩
        unfold Builtin.«set.__init__» noKeywords Builtin.Frozenset.updateFrom
        generalize ePI : pyIter = PI
        wp_walk
        subst ePI

        refine wpAny_pyIter_list hl1 ?_
        refine wpAny_bind (wpAny_runValue ?_)
        have ltS : l < s.heap.objs.size := Heap.lt_size hol
        have hh3 : A.in1.in1.in1.handled = none := by simp [hh]
        have ne1 : l ≠ (s.heap.push (newSetO w)).objs.size := by
          rw [Heap.size_push]
          exact Nat.ne_of_lt (Nat.lt_succ_of_lt ltS)
        have nf : s.heap.objs.size ∉ [(s.heap.push (newSetO w)).objs.size, l] := by
          rw [Heap.size_push]
          simp only [List.mem_cons, List.mem_singleton, List.not_mem_nil, or_false, not_or]
          exact ⟨Nat.ne_of_lt (Nat.lt_succ_self _), Nat.ne_of_gt ltS⟩
        have vl : ∀ (i : Nat) (v : Value), items[i]? = some v → ∃ k t, ns[i]? = some k ∧ v = .int k t := fun i v hv => by
          have hi : i < ns.length := by rw [← esz]; exact (Array.getElem?_eq_some_iff.mp hv).1
          obtain ⟨t, e⟩ := PyProof.Rows.IntsAre.int_at hit i v (by rw [Array.getElem?_toList]; exact hv)
          refine ⟨ns[i], t, List.getElem?_eq_getElem hi, ?_⟩
          rw [e, List.getD_eq_getElem?_getD, List.getElem?_eq_getElem hi] <;> rfl
        refine set_update_ints ((Walks.list hh3 _ l ne1 items).toS) s.heap.objs.size
          nf ns esz hb vl (items.size - 0) 0 _ (by omega) (Nat.zero_le _)
          ⟨⟨_, Heap.get?_push_size _ rfl, rfl, rfl⟩, (hl1.push _)⟩ ?hS0 ?hR
        case hS0 =>
          have hg : ((s.heap.push (newSetO w)).push { cls := .type "list_iterator", data := .fields #[.ref l, .int 0 0] }).get? s.heap.objs.size
              = some (newSetO w) := Heap.get?_push_of_some _ hS
          exact ⟨0, Nat.le_refl 0, setR_new_at hg⟩
        case hR =>
          intro s' c' hm hc' hS'
          obtain ⟨g, gs, dr, tk', os'⟩ := s'
          have eg : gs = s.gens := hm.gens
          have ed : dr = s.drawn := hm.drawn
          have eo : os' = s.os := hm.os
          subst eg; subst ed; subst eo
          show wpAny _ _ _ _ _ _
          refine wpAny_pure ?_
          show wpAny _ _ (ret Value.none) _ _ _
          rw [esz] at hc'
          refine wpAny_pure ⟨rfl, g, tk', c', rfl, hS', hc', fun b o e => ?_⟩
          have b0 : b < s.heap.objs.size := Heap.lt_size e
          have b2 : b ≠ (s.heap.push (newSetO w)).objs.size := by
            rw [Heap.size_push]
            exact Nat.ne_of_lt (Nat.lt_succ_of_lt b0)
          exact hm.heap b o (by simp only [List.mem_cons, List.mem_singleton, List.not_mem_nil, or_false, not_or]; exact ⟨Nat.ne_of_lt b0, b2⟩)
            (Heap.get?_push_of_some _ (Heap.get?_push_of_some _ e))
      · cases r2 with
        | error e => exact hr2
        | ok fl2 =>
          cases fl2 with
          | ret r =>
            obtain ⟨e3, g, tk, c', e4, hS', hc', hk'⟩ := hr2
            subst e3 e4
            repeat (any_goals (first | assumption | wp_step))
            exact fin _ _ _ hS' hc' hk'
          | _ => exact hr2.elim
    | _ => exact hr.elim
end
section
variable {X : Cx}
/-- set(xs) of a list of ints -/
def rSetI (K : PySem.W.Frag) (w : World) : List V → Hp → VK → Prop := fun xs H Q => ∃ (l : Addr) (ns : List Int), xs = [V.ref l] ∧ SqL K H l (ns.map V.int) ∧ ns.length ≤ 1000 ∧
  ∀ a c, H a = none → c ≤ ns.length → Q (.ref a) (upd H a (SetO w a (fun j => decide (j ∈ ns)) c))
theorem cr_setI (hc : X.calm = true) : CallR X (.type "set") (rSetI X.K X.w) := by
  intro pins s σ H xs us Q I r hy
  obtain ⟨l, ns, ex, hq, hl, q⟩ := hy
  subst ex
  obtain ⟨its, rv, pl, hz⟩ := I.list hq
  rw [Vals.ref1 r]
  refine call_setL ns (I.ok.hd hc) pl.isList (show IntsAre its.toArray.toList ns from rv.ints) (by unfold scanBound; omega)
    fun g tk c R hcn k => ?_
  have J : Inv X pins σ (upd H s.heap.objs.size (SetO X.w s.heap.objs.size (fun j => decide (j ∈ ns)) c)) { s with heap := g, toks := tk } :=
    I.laid (t' := tk) k (Nat.le_refl _) (setO_new R)
  exact ⟨.ref _, _, J, rfl, q _ c (I.hok.fresh (Nat.le_refl _)) hcn⟩
end
end Rl
set_option Elab.async false
set_option linter.all false
set_option maxRecDepth 100000
set_option maxHeartbeats 4000000
/-! Rules of my own: a tuple that is kept whole, so that its methods are called. -/
namespace Rl
open PySem PySem.Spec PyProof.Rows L2
section
variable {X : Cx}
/-- tuple(xs), the new object told with it -/
def rTupF (K : PySem.W.Frag) : List V → Hp → VK → Prop := fun xs H Q => ∃ p ys, xs = [V.ref p] ∧ SqL K H p ys ∧ ∀ l o, H l = none → o.dict = none → Q (.ref l) (upd H l (.frz o (.tup ys)))
theorem call_tupF : CallR X (.type "tuple") (rTupF X.K) := by
  intro pins s σ H xs us Q I r hy
  obtain ⟨p, ys, ex, hq, q⟩ := hy
  subst ex
  obtain ⟨u, eu, rx⟩ := vals1 r
  subst eu
  cases rx
  obtain ⟨its, rv, pl, hz⟩ := I.list hq
  have ln := rv.length
  refine call_tuple_list pl.isList (fun g kp => ?_) (by simp only [List.size_toArray] <;> omega)
  have I1 : Inv X pins σ H { s with heap := g } := I.kept (t' := s.toks) kp
  have hg : (g.push { cls := .type "tuple", data := .seq its.toArray }).get? g.objs.size = some { cls := .type "tuple", data := .seq its.toArray } :=
    Heap.get?_push_size _ rfl
  have I2 : Inv X pins σ (upd H g.objs.size (.frz { cls := .type "tuple", data := .seq its.toArray } (.tup ys)))
      { s with heap := g.push { cls := .type "tuple", data := .seq its.toArray } } :=
    I1.laid (t' := s.toks) (fun b o e => Heap.get?_push_of_some _ e) (Nat.le_refl _) ⟨hg, hz, its, rv, IsTup.new _ _⟩
  exact ⟨.ref g.objs.size, _, I2, rfl, q _ _ (I1.hok.fresh (Nat.le_refl _)) rfl⟩
/-- t.index(e), t such a tuple of ints -/
def tTix (K : PySem.W.Frag) (to : TE) (t : TA) : TE := fun σ H Q => to σ H fun x H1 => (∃ p o ys, x = V.ref p ∧ H1 p = some (.frz o (.tup ys)) ∧ o.dict = none) ∧ t σ H1 fun xs H2 => rTIx K x xs H2 Q
variable {o e : Expr} {es : List Expr} {to : TE} {t : TA} {apos cpos : Pos}
theorem pe_tix (ho : PE X o to) (ha : PA X (e :: es) t)
    (hbase : attributeBase o "index" X.env (eval o X.env) = eval o X.env := by rfl)
    (hfew : ((backTo cpos (starEach (e :: es) X.env)).all (fun z => !z.1) && (backToKw cpos (keywordEach [] X.env)).all (fun z => z.1.isSome)
      && decide ((e :: es).length + ([] : List Keyword).length + (if ([] : List Keyword).isEmpty then 0 else 1) < 30)) = true := by rfl)
    (hline : (apos.endLine == cpos.line) = true := by rfl) (hs : starEach (e :: es) X.env = (false, eval e X.env) :: starEach es X.env := by rfl)
    (hpl : (backTo cpos (starEach es X.env)).any (·.1) = false := by rfl) :
    PE X (.Call (.Attribute o "index" apos) (e :: es) [] cpos) (tTix X.K to t) := by
  refine ⟨fun pins s σ H Q I hy => ?_⟩
  refine wpAny_Call_method_late hbase hfew hline rfl (thn (ho.run pins s σ H _ I hy) fun v s1 ⟨x, H1, I1, r1, tt, q1⟩ => ?_)
  obtain ⟨p, ob, ys, ex, hp, hd⟩ := tt
  subst ex
  cases r1
  have hq : SqT X.K H1 p ys := .inl (.inr ⟨ob, hp⟩)
  obtain ⟨its, rv, pt, hz⟩ := I1.tuple hq
  have hgo : s1.heap.get? p = some ob := (I1.hok p _ hp).1
  have hT : s1.TypeIs (.ref p) "tuple" := by
    obtain ⟨o2, ho2, hc2, _⟩ := pt
    exact ⟨o2, ho2, hc2⟩
  refine ⟨"tuple", "tuple.index", PySem.F.plainAttrs_tuple, PySem.F.slot_tuple_index, PySem.F.type_tuple_index, hT, fun a ea => ?_, ?_⟩
  · cases ea
    exact ⟨ob, hgo, hd⟩
  have hA := ha.run cpos pins s1 σ H1 _ I1 q1
  rw [hs] at hA ⊢
  refine Calls.callWith_builtin (by show (false || (backTo cpos (starEach es X.env)).any (·.1)) = false; rw [hpl] <;> rfl) (Calls.evalArgs_plain ?_)
  exact thn hA fun us s2 ⟨vs, H2, I2, r2, q2⟩ => mt_tup_indexI pins s2 σ H2 (.ref p) vs (.ref p) us Q I2 rfl r2 q2
end
end Rl
set_option Elab.async false
set_option linter.all false
set_option maxRecDepth 100000
set_option maxHeartbeats 4000000
/-! A rule of my own: a list of tuples of ints, of any lengths and any number, put in order. -/
namespace Rl
open PySem PySem.Spec PyProof.Rows L2
/-- a tuple of ints, of one or more -/
def TupI (h : Heap) (v : Value) : Prop := ∃ (b : Addr) (ob : Obj) (zs : Array Value) (k : Nat), v = .ref b ∧ h.get? b = some ob ∧ ob.cls = .type "tuple" ∧ ob.data = .seq zs k ∧ 0 < zs.size ∧ ∀ z ∈ zs.toList, ∃ (i : Int) (t : Tok), z = Value.int i t
theorem TupI.stays {h g : Heap} {v : Value} (p : TupI h v) (st : ∀ b ob, h.get? b = some ob → ob.cls = .type "tuple" → g.get? b = some ob) : TupI g v := by
  obtain ⟨b, ob, zs, k, e, h1, h2, h3⟩ := p
  exact ⟨b, ob, zs, k, e, st _ _ h1 h2, h2, h3⟩
section
variable {prog : Program} {w : World} {A : Around} {s : Shared} {b fin : Bool}
theorem lex_tell : ∀ (l : List (Value × Value)) (i : Nat), (∀ p ∈ l, (∃ (x : Int) (t : Tok), p.1 = Value.int x t) ∧ ∃ (y : Int) (u : Tok), p.2 = Value.int y u) →
    ∃ r : Bool, PySem.W.KatLex prog w A b fin (fun c z => z = s ∧ c = r) l i s
  | [], i, _ => ⟨fin, PySem.W.kat_nil ⟨rfl, rfl⟩⟩
  | (p, q) :: l, i, h => by
    obtain ⟨⟨x, t, e1⟩, y, u, e2⟩ := h (p, q) List.mem_cons_self
    have e1' : p = Value.int x t := e1
    have e2' : q = Value.int y u := e2
    subst e1' e2'
    obtain ⟨r, hr⟩ := lex_tell l (i + 1) fun z hz => h z (List.mem_cons_of_mem _ hz)
    by_cases c : x = y
    · refine ⟨r, PySem.W.kat_cons (SeqAt.EqAt.int_int x t y u prog w _ _ ?_)⟩
      refine PySem.W.kat_go (fun _ => PySem.W.kat_yes hr) fun e => ?_
      rw [c] at e
      simp at e
    · refine ⟨decide (x < y), PySem.W.kat_cons (SeqAt.EqAt.int_int x t y u prog w _ _ ?_)⟩
      refine PySem.W.kat_go (fun e => absurd (by simpa using e) c) fun _ => PySem.W.kat_no ?_
      cases hb : (b && i == 0) with
      | true => exact oneLt_int ⟨rfl, rfl⟩
      | false => exact PySem.W.kat_one _ _ (PyProof.Rows.lt_int (Q := PySem.W.BoolBack fun c z => z = s ∧ c = decide (x < y)) ⟨rfl, rfl⟩)
theorem firstI : ∀ {h : Heap} {vs : List Value}, (∀ v ∈ vs, TupI h v) → ∃ fs : List Value, PySem.W.KatTups h vs fs ∧ fs.length = vs.length ∧ ∀ f ∈ fs, ∃ (x : Int) (t : Tok), f = Value.int x t
  | _, [], _ => ⟨[], PySem.W.KatTups.nil, rfl, fun _ hm => nomatch hm⟩
  | h, v :: vs, hp => by
    obtain ⟨fs, g1, g2, g3⟩ := firstI (vs := vs) fun z hz => hp z (List.mem_cons_of_mem _ hz)
    obtain ⟨b, ob, zs, k, e, h1, h2, h3, h4, h5⟩ := hp v List.mem_cons_self
    subst e
    have e0 : zs[0]? = some zs[0] := Array.getElem?_eq_getElem h4
    refine ⟨zs[0] :: fs, PySem.W.KatTups.cons h1 h2 h3 e0 g1, by rw [List.length_cons, List.length_cons, g2], fun f hf => ?_⟩
    rcases List.mem_cons.mp hf with z | z
    · rw [z]
      exact h5 _ (Array.mem_toList_iff.mpr (Array.getElem_mem h4))
    · exact g3 f z
theorem totI {vs : List Value} (hp : ∀ v ∈ vs, TupI s.heap v) : Srt.Tot prog w A s (tuples' true) (fun p => p.1 ∈ vs) := by
  intro p q hm hn
  obtain ⟨b, ob, zs, k, e, h1, h2, h3, h4, h5⟩ := hp _ hm
  obtain ⟨b', ob', zs', k', e', h1', h2', h3', h4', h5'⟩ := hp _ hn
  rw [e, e']
  obtain ⟨r, hr⟩ := lex_tell (prog := prog) (w := w) (A := A) (s := s) (b := true) (fin := decide (zs.size < zs'.size)) (zs.toList.zip zs'.toList) 0 fun z hz => by
    obtain ⟨m1, m2⟩ := List.of_mem_zip (a := z.1) (b := z.2) hz
    exact ⟨h5 _ m1, h5' _ m2⟩
  exact ⟨r, PySem.W.kat_lt h1 h3 h1' h3' hr⟩
theorem ableI {a : Addr} {vs : List Value} (h0 : 0 < vs.length) (hp : ∀ v ∈ vs, TupI s.heap v) (ha : ∀ ob, s.heap.get? a = some ob → ob.cls ≠ .type "tuple") : Srt.Sortable prog w A s a vs := by
  intro g keep
  have hg : ∀ v ∈ vs, TupI g v := fun v hm => (hp v hm).stays fun b ob e c => keep b ob (fun z => by subst z; exact ha ob e c) e
  obtain ⟨fs, g1, g2, g3⟩ := firstI hg
  refine ⟨tuples' true, fun Q E hq => ?_, totI hg⟩
  refine PySem.W.kat_kind (T := .type "int") g1 (by omega) (fun f hm => ?_) (by rfl) ?_
  · obtain ⟨x, t, e⟩ := g3 f hm
    rw [e]
    exact PySem.W.Looks.now
  · have e : (Value.type "int" != Value.type "tuple") = true := by decide +kernel
    rw [e]
    exact hq
end
section
variable {X : Cx}
/-- sorted(xs), xs a list of tuples of ints: a new list of the same ones -/
def rSortedTs (K : PySem.W.Frag) : List V → Hp → VK → Prop := fun vs H Q => ∃ (a : Addr) (xs : List V), vs = [V.ref a] ∧ SqL K H a xs ∧ (∀ x ∈ xs, ∃ (t : Addr) (i : Int) (ns : List Int), x = V.ref t ∧ H t = some (.tup ((i :: ns).map V.int))) ∧
  ∀ ys p, ys.Perm xs → H p = none → Q (.ref p) (upd H p (.lst ys))
theorem ints_of : ∀ {ns : List Int} {its : List Value}, Vals (ns.map V.int) its → ∀ z ∈ its, ∃ (i : Int) (t : Tok), z = Value.int i t
  | [], [], _, z, hz => nomatch hz
  | n :: ns, u :: us, .cons r t, z, hz => by
    rcases List.mem_cons.mp hz with e | e
    · obtain ⟨tk, eu⟩ := (show ∃ t, u = Value.int n t from r)
      exact ⟨n, tk, e.trans eu⟩
    · exact ints_of t z e
theorem cr_sortedTs : CallR X (.builtin "sorted") (rSortedTs X.K) := by
  intro pins s σ H vs us Q I r h
  obtain ⟨a, xs, e0, hs, hx, q⟩ := h
  subst e0
  obtain ⟨its, rv, hl, hz⟩ := I.list hs
  obtain ⟨u, eu, ru⟩ := vals1 r
  subst eu
  obtain rfl : u = Value.ref a := ru
  obtain ⟨e1, e2⟩ := refs_back rv fun x m => by
    obtain ⟨t, _, _, e, _⟩ := hx x m
    exact ⟨t, e⟩
  have tp : ∀ v ∈ its, TupI s.heap v := fun v hv => by
    obtain ⟨t, rfl⟩ := e2 v hv
    have hm : V.ref t ∈ xs := by
      rw [e1]
      exact List.mem_map.mpr ⟨_, hv, rfl⟩
    obtain ⟨t', i, ns, e, ht⟩ := hx _ hm
    cases e
    obtain ⟨_, its2, r2, ob, h1, h2, k, h3⟩ := I.hok _ _ ht
    have ln := r2.length
    rw [List.length_map, List.length_cons] at ln
    exact ⟨t, ob, its2.toArray, k, rfl, h1, h2, h3, by rw [List.size_toArray]; omega, ints_of r2⟩
  refine Srt.sorted_any hl.isList (by rw [← rv.length]; exact hz) (fun h2 g b hb kp => ?_) fun out hp => ?_
  · refine ableI (s := { s with heap := g }) (by omega) (fun v hv => (tp v hv).stays fun c ob e _ => (kp c ob e).2) fun ob e => ?_
    have e' := e.symm.trans hb
    cases e'
    intro c
    exact absurd (Value.type.inj c) (by decide)
  · have h3 : ∀ u ∈ out, ∃ a, u = Value.ref a := fun u hu => e2 u (hp.mem_iff.mp hu)
    obtain ⟨k, hn⟩ := sortedAll_at s.heap its out.toArray
    have hn' : (sortedAll s.heap its out.toArray).get? (s.heap.objs.size + 1) = some { cls := .type "list", data := .seq out.toArray k } := hn
    refine ⟨.ref (s.heap.objs.size + 1), upd H (s.heap.objs.size + 1) (.lst (out.map backV)), I.laid (t' := s.toks) (fun c ob e => sortedAll_old e) (Nat.le_succ _) ⟨?_, out, k, vals_back h3, hn'⟩, rfl, q _ _ ?_ (I.hok.fresh (Nat.le_succ _))⟩
    · rw [List.length_map, hp.length_eq, ← rv.length]
      exact hz
    · rw [e1]
      exact hp.map backV
end
end Rl
set_option Elab.async false
set_option linter.all false
set_option maxRecDepth 100000
set_option maxHeartbeats 4000000
/-! What hangs together, and rings: the mathematics. -/
namespace Gx
/-- tie k is between p and q -/
def At (ps : List (Int × Int)) (k : Nat) (p q : Int) : Prop := ∃ r, ps[k]? = some r ∧ ((r.1 = p ∧ r.2 = q) ∨ (r.1 = q ∧ r.2 = p))
theorem At.symm {ps : List (Int × Int)} {k : Nat} {p q : Int} (h : At ps k p q) : At ps k q p := by
  obtain ⟨r, e, h⟩ := h
  exact ⟨r, e, h.symm⟩
theorem At.two {ps : List (Int × Int)} {k : Nat} {p q x y : Int} (h : At ps k p q) (g : At ps k x y) : (x = p ∧ y = q) ∨ (x = q ∧ y = p) := by
  obtain ⟨r, e, h⟩ := h
  obtain ⟨r', e', g⟩ := g
  rw [e] at e'
  cases e'
  omega
inductive Conn (ps : List (Int × Int)) (A : Nat → Prop) : Int → Int → Prop
  | refl (p : Int) : Conn ps A p p
  | step {p q r : Int} {k : Nat} : Conn ps A p q → A k → At ps k q r → Conn ps A p r
section
variable {ps : List (Int × Int)} {A B : Nat → Prop}
theorem Conn.one {p q : Int} {k : Nat} (a : A k) (h : At ps k p q) : Conn ps A p q := .step (.refl p) a h
theorem Conn.trans {p q r : Int} (h : Conn ps A p q) (g : Conn ps A q r) : Conn ps A p r := by
  induction g with
  | refl => exact h
  | step _ a t ih => exact .step ih a t
theorem Conn.symm {p q : Int} (h : Conn ps A p q) : Conn ps A q p := by
  induction h with
  | refl => exact .refl _
  | step _ a t ih => exact (Conn.one a t.symm).trans ih
theorem Conn.mono {p q : Int} (h : Conn ps A p q) (i : ∀ k, A k → B k) : Conn ps B p q := by
  induction h with
  | refl => exact .refl _
  | step _ a t ih => exact .step ih (i _ a) t
/-! ### paths -/
def Pth (ps : List (Int × Int)) (A : Nat → Prop) : Int → List (Nat × Int) → Int → Prop
  | p, [], e => e = p
  | p, (k, q) :: r, e => A k ∧ At ps k p q ∧ Pth ps A q r e
def pl (s : List (Nat × Int)) : List Int := s.map (·.2)
def ti (s : List (Nat × Int)) : List Nat := s.map (·.1)
theorem pl_app (s t : List (Nat × Int)) : pl (s ++ t) = pl s ++ pl t := List.map_append
theorem ti_app (s t : List (Nat × Int)) : ti (s ++ t) = ti s ++ ti t := List.map_append
theorem pth_app : ∀ {p e : Int} {s t : List (Nat × Int)}, Pth ps A p (s ++ t) e ↔ ∃ x, Pth ps A p s x ∧ Pth ps A x t e
  | p, e, [], t => ⟨fun h => ⟨p, rfl, h⟩, fun ⟨x, h1, h2⟩ => by
      have h1' : x = p := h1
      rw [h1'] at h2
      exact h2⟩
  | p, e, (k, q) :: s, t => by
    have ih := pth_app (p := q) (e := e) (s := s) (t := t)
    show (A k ∧ At ps k p q ∧ Pth ps A q (s ++ t) e) ↔ ∃ x, (A k ∧ At ps k p q ∧ Pth ps A q s x) ∧ Pth ps A x t e
    rw [ih]
    constructor
    · intro ⟨h1, h2, x, h3, h4⟩
      exact ⟨x, ⟨h1, h2, h3⟩, h4⟩
    · intro ⟨x, ⟨h1, h2, h3⟩, h4⟩
      exact ⟨h1, h2, x, h3, h4⟩
theorem Pth.mono : ∀ {p e : Int} {s : List (Nat × Int)}, Pth ps A p s e → (∀ k ∈ ti s, A k → B k) → Pth ps B p s e
  | _, _, [], h, _ => h
  | _, _, (k, q) :: r, ⟨h1, h2, h3⟩, i => ⟨i k List.mem_cons_self h1, h2, Pth.mono h3 fun j hj => i j (List.mem_cons_of_mem _ hj)⟩
theorem Pth.conn : ∀ {p e : Int} {s : List (Nat × Int)}, Pth ps A p s e → Conn ps A p e
  | p, e, [], h => by
    have h' : e = p := h
    rw [h']
    exact .refl p
  | p, e, (k, q) :: r, ⟨h1, h2, h3⟩ => (Conn.one h1 h2).trans (Pth.conn h3)
theorem Pth.end_mem : ∀ {p e : Int} {s : List (Nat × Int)}, Pth ps A p s e → e ∈ p :: pl s
  | p, e, [], h => by
    have h' : e = p := h
    rw [h']
    exact List.mem_cons_self
  | p, e, (k, q) :: r, ⟨h1, h2, h3⟩ => List.mem_cons_of_mem _ (Pth.end_mem h3)
theorem Pth.all : ∀ {p e : Int} {s : List (Nat × Int)}, Pth ps A p s e → ∀ k ∈ ti s, A k
  | _, _, [], _, k, hk => nomatch hk
  | p, e, (k, q) :: r, ⟨h1, h2, h3⟩, j, hj => by
    rcases List.mem_cons.mp hj with z | z
    · rw [z]
      exact h1
    · exact Pth.all h3 j z
theorem mem_ti {s : List (Nat × Int)} {k : Nat} (h : k ∈ ti s) : ∃ s1 q s2, s = s1 ++ (k, q) :: s2 := by
  obtain ⟨⟨k', q⟩, hm, e⟩ := List.mem_map.mp h
  obtain ⟨s1, s2, e2⟩ := List.append_of_mem hm
  have e' : k' = k := e
  rw [e'] at e2
  exact ⟨s1, q, s2, e2⟩
theorem mem_pl {s : List (Nat × Int)} {p : Int} (h : p ∈ pl s) : ∃ s1 k s2, s = s1 ++ (k, p) :: s2 := by
  obtain ⟨⟨k, p'⟩, hm, e⟩ := List.mem_map.mp h
  obtain ⟨s1, s2, e2⟩ := List.append_of_mem hm
  have e' : p' = p := e
  rw [e'] at e2
  exact ⟨s1, k, s2, e2⟩
theorem conn_pth {p e : Int} (h : Conn ps A p e) : ∃ s, Pth ps A p s e ∧ (p :: pl s).Nodup := by
  induction h with
  | refl => exact ⟨[], rfl, List.nodup_cons.mpr ⟨List.not_mem_nil, List.nodup_nil⟩⟩
  | @step q r k h1 a t ih =>
    obtain ⟨s, hs, nd⟩ := ih
    by_cases c : r ∈ p :: pl s
    · rcases List.mem_cons.mp c with z | z
      · exact ⟨[], z, List.nodup_cons.mpr ⟨List.not_mem_nil, List.nodup_nil⟩⟩
      · obtain ⟨s1, j, s2, e2⟩ := mem_pl z
        subst e2
        have e3 : s1 ++ (j, r) :: s2 = (s1 ++ [(j, r)]) ++ s2 := by rw [List.append_assoc]; rfl
        rw [e3] at hs nd
        obtain ⟨x, g1, g2⟩ := pth_app.mp hs
        refine ⟨s1 ++ [(j, r)], ?_, ?_⟩
        · obtain ⟨y, g3, g4, g5, g6⟩ := pth_app.mp g1
          have g6' : x = r := g6
          rw [g6'] at g1
          exact g1
        · rw [pl_app, ← List.cons_append] at nd
          exact (List.nodup_append.mp nd).1
    · refine ⟨s ++ [(k, r)], pth_app.mpr ⟨q, hs, a, t, rfl⟩, ?_⟩
      rw [pl_app, ← List.cons_append]
      refine List.nodup_append.mpr ⟨nd, List.nodup_cons.mpr ⟨List.not_mem_nil, List.nodup_nil⟩, fun x hx y hy e => c ?_⟩
      have hy' : y = r := List.mem_singleton.mp hy
      rw [← hy', ← e]
      exact hx
theorem pth_rev : ∀ {p e : Int} {s : List (Nat × Int)}, Pth ps A p s e → ∃ s', Pth ps A e s' p ∧ (e :: pl s').Perm (p :: pl s) ∧ (ti s').Perm (ti s)
  | p, e, [], h => by
    have h' : e = p := h
    rw [h']
    exact ⟨[], rfl, .refl _, .refl _⟩
  | p, e, (k, q) :: r, ⟨h1, h2, h3⟩ => by
    obtain ⟨s', g1, g2, g3⟩ := pth_rev h3
    refine ⟨s' ++ [(k, p)], pth_app.mpr ⟨q, g1, h1, h2.symm, rfl⟩, ?_, ?_⟩
    · rw [pl_app, ← List.cons_append]
      exact (List.Perm.append_right [p] g2).trans List.perm_append_comm
    · rw [ti_app]
      exact (List.Perm.append_right [k] g3).trans List.perm_append_comm
/-- a tie stands in a path of unlike places just once -/
theorem split_avoid {p e q : Int} {t : Nat} {s1 s2 : List (Nat × Int)} (h : Pth ps A p (s1 ++ (t, q) :: s2) e) (nd : (p :: pl (s1 ++ (t, q) :: s2)).Nodup) :
    (∀ k ∈ ti s1, k ≠ t) ∧ (∀ k ∈ ti s2, k ≠ t) := by
  obtain ⟨x, g1, g2, g3, g4⟩ := pth_app.mp h
  rw [pl_app, ← List.cons_append] at nd
  obtain ⟨n1, n2, n3⟩ := List.nodup_append.mp nd
  have xm := g1.end_mem
  constructor
  · intro k hk e1
    subst e1
    obtain ⟨b1, z, b2, eb⟩ := mem_ti hk
    subst eb
    obtain ⟨y, k1, k2, k3, k4⟩ := pth_app.mp g1
    have ym := k1.end_mem
    have qm : q ∈ p :: pl (b1 ++ (k, z) :: b2) := by
      rw [pl_app]
      rcases g3.two k3 with c | c
      · rw [← c.2]
        exact List.mem_cons_of_mem _ (List.mem_append.mpr (.inr List.mem_cons_self))
      · rw [← c.1]
        rcases List.mem_cons.mp ym with d | d
        · rw [d]
          exact List.mem_cons_self
        · exact List.mem_cons_of_mem _ (List.mem_append.mpr (.inl d))
    exact n3 q qm q List.mem_cons_self rfl
  · intro k hk e1
    subst e1
    obtain ⟨b1, z, b2, eb⟩ := mem_ti hk
    subst eb
    obtain ⟨y, k1, k2, k3, k4⟩ := pth_app.mp g4
    have ym := k1.end_mem
    have xm2 : x ∈ q :: pl (b1 ++ (k, z) :: b2) := by
      rw [pl_app]
      rcases g3.two k3 with c | c
      · rw [← c.1]
        rcases List.mem_cons.mp ym with d | d
        · rw [d]
          exact List.mem_cons_self
        · exact List.mem_cons_of_mem _ (List.mem_append.mpr (.inl d))
      · rw [← c.2]
        exact List.mem_cons_of_mem _ (List.mem_append.mpr (.inr List.mem_cons_self))
    exact n3 x xm x xm2 rfl
/-- a tie's two places hang together without it -/
def Rnd (ps : List (Int × Int)) (t : Nat) : Prop := ∃ r, ps[t]? = some r ∧ Conn ps (· ≠ t) r.1 r.2
theorem Rnd.of {t : Nat} {x y : Int} (h : At ps t x y) (c : Conn ps (· ≠ t) x y) : Rnd ps t := by
  obtain ⟨r, e, h⟩ := h
  refine ⟨r, e, ?_⟩
  rcases h with h | h
  · rw [h.1, h.2]
    exact c
  · rw [h.1, h.2]
    exact c.symm
theorem Rnd.conn {t : Nat} {x y : Int} (h : Rnd ps t) (g : At ps t x y) : Conn ps (· ≠ t) x y := by
  obtain ⟨r, e, c⟩ := h
  obtain ⟨r', e', h⟩ := g
  rw [e] at e'
  cases e'
  rcases h with h | h
  · rw [← h.1, ← h.2]
    exact c
  · rw [← h.1, ← h.2]
    exact c.symm
theorem rnd_of_ring {f : Nat} {g b : Int} {s : List (Nat × Int)} (hf : ps[f]? = some (g, b)) (h : Pth ps (f < ·) b s g) (nd : (b :: pl s).Nodup) : ∀ t ∈ f :: ti s, Rnd ps t := by
  intro t ht
  have af : At ps f g b := ⟨_, hf, .inl ⟨rfl, rfl⟩⟩
  rcases List.mem_cons.mp ht with e | hm
  · subst e
    exact Rnd.of af (h.conn.mono fun k hk => Nat.ne_of_gt hk).symm
  · have lt := h.all t hm
    obtain ⟨s1, q, s2, e⟩ := mem_ti hm
    subst e
    obtain ⟨a1, a2⟩ := split_avoid h nd
    obtain ⟨x, g1, g2, g3, g4⟩ := pth_app.mp h
    have c1 : Conn ps (· ≠ t) b x := (g1.mono (B := (· ≠ t)) fun k hk _ => a1 k hk).conn
    have c2 : Conn ps (· ≠ t) q g := (g4.mono (B := (· ≠ t)) fun k hk _ => a2 k hk).conn
    have c3 : Conn ps (· ≠ t) g b := Conn.one (A := (· ≠ t)) (Nat.ne_of_lt lt) af
    exact Rnd.of g3 ((c2.trans c3).trans c1).symm
theorem least_mem : ∀ {l : List Nat} {t : Nat}, ∃ f ∈ t :: l, ∀ k ∈ t :: l, f ≤ k
  | [], t => ⟨t, List.mem_cons_self, fun k hk => by rw [List.mem_singleton.mp hk]; exact Nat.le_refl _⟩
  | a :: l, t => by
    obtain ⟨f, hf, h⟩ := least_mem (l := l) (t := a)
    rcases Nat.le_total f t with c | c
    · refine ⟨f, List.mem_cons_of_mem _ hf, fun k hk => ?_⟩
      rcases List.mem_cons.mp hk with e | e
      · rw [e]
        exact c
      · exact h k e
    · refine ⟨t, List.mem_cons_self, fun k hk => ?_⟩
      rcases List.mem_cons.mp hk with e | e
      · rw [e]
        exact Nat.le_refl _
      · exact Nat.le_trans c (h k e)
/-- a ring in the form in which it is gone through from its least tie -/
def Ring (ps : List (Int × Int)) (f : Nat) (s : List (Nat × Int)) : Prop := ∃ g b, ps[f]? = some (g, b) ∧ Pth ps (f < ·) b s g ∧ (b :: pl s).Nodup
theorem ring_turn {f : Nat} {x q : Int} {s : List (Nat × Int)} (af : At ps f x q) (h : Pth ps (f < ·) q s x) (nd : (q :: pl s).Nodup) : ∃ s', Ring ps f s' ∧ ∀ k, k ∈ ti s → k ∈ ti s' := by
  obtain ⟨⟨g, b⟩, e, c⟩ := af
  rcases c with c | c
  · have c1 : g = x := c.1
    have c2 : b = q := c.2
    subst c1 c2
    exact ⟨s, ⟨_, _, e, h, nd⟩, fun k hk => hk⟩
  · have c1 : g = q := c.1
    have c2 : b = x := c.2
    subst c1 c2
    obtain ⟨s', g1, g2, g3⟩ := pth_rev h
    exact ⟨s', ⟨_, _, e, g1, g2.nodup_iff.mpr nd⟩, fun k hk => g3.mem_iff.mpr hk⟩
theorem ring_of_rnd {t : Nat} (h : Rnd ps t) : ∃ f s, Ring ps f s ∧ t ∈ f :: ti s := by
  obtain ⟨⟨u, v⟩, e, c⟩ := h
  have at0 : At ps t u v := ⟨_, e, .inl ⟨rfl, rfl⟩⟩
  obtain ⟨s, hs, nd⟩ := conn_pth c.symm
  have at1 : Pth ps (· ≠ t) v s u := hs
  obtain ⟨f, hf, le⟩ := least_mem (l := ti s) (t := t)
  have ne := hs.all
  rcases List.mem_cons.mp hf with e1 | hm
  · subst e1
    have h2 : Pth ps (f < ·) v s u := hs.mono fun k hk hne => Nat.lt_of_le_of_ne (le k (List.mem_cons_of_mem _ hk)) (Ne.symm hne)
    obtain ⟨s', r, _⟩ := ring_turn at0 h2 nd
    exact ⟨f, s', r, List.mem_cons_self⟩
  · have ft : f ≠ t := ne f hm
    have flt : f < t := Nat.lt_of_le_of_ne (le t List.mem_cons_self) ft
    obtain ⟨s1, q, s2, es⟩ := mem_ti hm
    subst es
    obtain ⟨a1, a2⟩ := split_avoid hs nd
    obtain ⟨x, g1, g2, g3, g4⟩ := pth_app.mp hs
    have up1 : Pth ps (f < ·) v s1 x := g1.mono fun k hk _ => Nat.lt_of_le_of_ne (le k (List.mem_cons_of_mem _ (by rw [ti_app]; exact List.mem_append.mpr (.inl hk)))) (Ne.symm (a1 k hk))
    have up2 : Pth ps (f < ·) q s2 u := g4.mono fun k hk _ => Nat.lt_of_le_of_ne (le k (List.mem_cons_of_mem _ (by rw [ti_app]; exact List.mem_append.mpr (.inr (List.mem_cons_of_mem _ hk))))) (Ne.symm (a2 k hk))
    have w : Pth ps (f < ·) q (s2 ++ (t, v) :: s1) x := pth_app.mpr ⟨u, up2, flt, at0, up1⟩
    have nd2 : (q :: pl (s2 ++ (t, v) :: s1)).Nodup := by
      have pm : (q :: pl (s2 ++ (t, v) :: s1)).Perm (v :: pl (s1 ++ (f, q) :: s2)) := by
        rw [pl_app, pl_app, ← List.cons_append, ← List.cons_append]
        exact List.perm_append_comm
      exact pm.nodup_iff.mpr nd
    obtain ⟨s', r, hi⟩ := ring_turn g3 w nd2
    refine ⟨f, s', r, List.mem_cons_of_mem _ (hi t ?_)⟩
    rw [ti_app]
    exact List.mem_append.mpr (.inr List.mem_cons_self)
theorem rnd_iff {t : Nat} : Rnd ps t ↔ ∃ f s, Ring ps f s ∧ t ∈ f :: ti s := by
  refine ⟨ring_of_rnd, fun ⟨f, s, ⟨g, b, h1, h2, h3⟩, h⟩ => rnd_of_ring h1 h2 h3 t h⟩
end
end Gx
set_option Elab.async false
set_option linter.all false
set_option maxRecDepth 100000
set_option maxHeartbeats 4000000
/-! The text by places, and what its top has written. -/
namespace K6
open PySem L2
def top (i : Nat) : Stmt := PySem.Challenge.pw_takenjoined_k06_whole_bridges.main.body.getD i (.Pass ⟨0, 0, 0, 0⟩)
abbrev s_is_integer : Stmt := top 4
abbrev N_is_integer : List Str := ["thing"]
theorem sc_is_integer : FnScope N_is_integer ["thing"] (defScope s_is_integer) := ⟨rfl, rfl, rfl, by decide +kernel, rfl, by decide +kernel, by decide +kernel⟩
abbrev s_is_between : Stmt := top 5
abbrev N_is_between : List Str := ["thing", "least", "most"]
theorem sc_is_between : FnScope N_is_between ["thing", "least", "most"] (defScope s_is_between) := ⟨rfl, rfl, rfl, by decide +kernel, rfl, by decide +kernel, by decide +kernel⟩
abbrev s_is_below : Stmt := top 6
abbrev N_is_below : List Str := ["thing", "bound"]
theorem sc_is_below : FnScope N_is_below ["thing", "bound"] (defScope s_is_below) := ⟨rfl, rfl, rfl, by decide +kernel, rfl, by decide +kernel, by decide +kernel⟩
abbrev s_is_pair : Stmt := top 7
abbrev N_is_pair : List Str := ["thing"]
theorem sc_is_pair : FnScope N_is_pair ["thing"] (defScope s_is_pair) := ⟨rfl, rfl, rfl, by decide +kernel, rfl, by decide +kernel, by decide +kernel⟩
abbrev s_rings : Stmt := top 9
abbrev N_rings : List Str := ["web", "found", "first"]
theorem sc_rings : FnScope N_rings ["web"] (defScope s_rings) := ⟨rfl, rfl, rfl, by decide +kernel, rfl, by decide +kernel, by decide +kernel⟩
abbrev s_rings_from : Stmt := top 10
abbrev N_rings_from : List Str := ["web", "first", "goal", "begin", "found", "walks", "place", "gone", "met"]
theorem sc_rings_from : FnScope N_rings_from ["web", "first"] (defScope s_rings_from) := ⟨rfl, rfl, rfl, by decide +kernel, rfl, by decide +kernel, by decide +kernel⟩
abbrev s_steps : Stmt := top 11
abbrev N_steps : List Str := ["web", "place", "gone", "met", "longer", "tie", "u", "v", "ahead"]
theorem sc_steps : FnScope N_steps ["web", "place", "gone", "met"] (defScope s_steps) := ⟨rfl, rfl, rfl, by decide +kernel, rfl, by decide +kernel, by decide +kernel⟩
abbrev s_bridges : Stmt := top 12
abbrev N_bridges : List Str := ["web", "ringed", "ring", "tie"]
theorem sc_bridges : FnScope N_bridges ["web"] (defScope s_bridges) := ⟨rfl, rfl, rfl, by decide +kernel, rfl, by decide +kernel, by decide +kernel⟩
abbrev s_webI : Stmt := inClass (top 16) 0
abbrev N_webI : List Str := ["self", "many", "ties", "number", "tie"]
theorem sc_webI : FnScope N_webI ["self", "many", "ties"] (defScope s_webI) := ⟨rfl, rfl, rfl, by decide +kernel, rfl, by decide +kernel, by decide +kernel⟩
abbrev s_webE : Stmt := inClass (top 16) 1
abbrev N_webE : List Str := ["self", "other"]
theorem sc_webE : FnScope N_webE ["self", "other"] (defScope s_webE) := ⟨rfl, rfl, rfl, by decide +kernel, rfl, by decide +kernel, by decide +kernel⟩
abbrev s_is_tie : Stmt := top 17
abbrev N_is_tie : List Str := ["thing", "many"]
theorem sc_is_tie : FnScope N_is_tie ["thing", "many"] (defScope s_is_tie) := ⟨rfl, rfl, rfl, by decide +kernel, rfl, by decide +kernel, by decide +kernel⟩
abbrev s_l_hand : Stmt := top 19
abbrev N_l_hand : List Str := ["script", "cells", "cell"]
theorem sc_l_hand : FnScope N_l_hand ["script"] (defScope s_l_hand) := ⟨rfl, rfl, rfl, by decide +kernel, rfl, by decide +kernel, by decide +kernel⟩
abbrev s_l_draw : Stmt := top 20
abbrev N_l_draw : List Str := ["hand", "many", "cell", "figure", "number"]
theorem sc_l_draw : FnScope N_l_draw ["hand", "many"] (defScope s_l_draw) := ⟨rfl, rfl, rfl, by decide +kernel, rfl, by decide +kernel, by decide +kernel⟩
abbrev s_l_some : Stmt := top 21
abbrev N_l_some : List Str := ["hand", "things"]
theorem sc_l_some : FnScope N_l_some ["hand", "things"] (defScope s_l_some) := ⟨rfl, rfl, rfl, by decide +kernel, rfl, by decide +kernel, by decide +kernel⟩
abbrev s_l_pair : Stmt := top 22
abbrev N_l_pair : List Str := ["one", "other"]
theorem sc_l_pair : FnScope N_l_pair ["one", "other"] (defScope s_l_pair) := ⟨rfl, rfl, rfl, by decide +kernel, rfl, by decide +kernel, by decide +kernel⟩
abbrev s_l_ties : Stmt := top 23
abbrev N_l_ties : List Str := ["hand", "many", "kind", "found", "few", "turn", "one", "order", "at", "to", "place"]
theorem sc_l_ties : FnScope N_l_ties ["hand", "many", "kind"] (defScope s_l_ties) := ⟨rfl, rfl, rfl, by decide +kernel, rfl, by decide +kernel, by decide +kernel⟩
abbrev s_l_parts : Stmt := top 24
abbrev N_l_parts : List Str := ["many", "ties", "lot", "heads", "tie", "one", "other", "head", "place"]
theorem sc_l_parts : FnScope N_l_parts ["many", "ties", "lot"] (defScope s_l_parts) := ⟨rfl, rfl, rfl, by decide +kernel, rfl, by decide +kernel, by decide +kernel⟩
abbrev s_l_is : Stmt := top 25
abbrev N_l_is : List Str := ["told", "due", "one", "two"]
theorem sc_l_is : FnScope N_l_is ["told", "due"] (defScope s_l_is) := ⟨rfl, rfl, rfl, by decide +kernel, rfl, by decide +kernel, by decide +kernel⟩
abbrev s_l_bridges : Stmt := top 26
abbrev N_l_bridges : List Str := ["many", "ties", "every", "apart", "tie"]
theorem sc_l_bridges : FnScope N_l_bridges ["many", "ties"] (defScope s_l_bridges) := ⟨rfl, rfl, rfl, by decide +kernel, rfl, by decide +kernel, by decide +kernel⟩
abbrev s_l_is_round : Stmt := top 27
abbrev N_l_is_round : List Str := ["many", "ties", "tie", "one", "other", "seen", "waiting", "here", "at", "low", "high"]
theorem sc_l_is_round : FnScope N_l_is_round ["many", "ties", "tie"] (defScope s_l_is_round) := ⟨rfl, rfl, rfl, by decide +kernel, rfl, by decide +kernel, by decide +kernel⟩
abbrev s_l_strung : Stmt := top 28
abbrev N_l_strung : List Str := ["hand", "turn", "sizes", "found", "many", "ahead", "size", "here", "place", "names", "order", "ties", "one", "other", "at"]
theorem sc_l_strung : FnScope N_l_strung ["hand"] (defScope s_l_strung) := ⟨rfl, rfl, rfl, by decide +kernel, rfl, by decide +kernel, by decide +kernel⟩
abbrev s_l_right : Stmt := top 29
abbrev N_l_right : List Str := ["many", "ties", "web", "due", "tie"]
theorem sc_l_right : FnScope N_l_right ["many", "ties"] (defScope s_l_right) := ⟨rfl, rfl, rfl, by decide +kernel, rfl, by decide +kernel, by decide +kernel⟩
abbrev s_law : Stmt := top 30
abbrev N_law : List Str := ["script", "hand", "turn", "many", "ties", "tree", "place"]
theorem sc_law : FnScope N_law ["script"] (defScope s_law) := ⟨rfl, rfl, rfl, by decide +kernel, rfl, by decide +kernel, by decide +kernel⟩
/-- what the top has written -/
structure Tx (K : PySem.W.Frag) (mg : Str → Option Value) where
  f_is_integer : Addr
  d_is_integer : FuncData
  F_is_integer : Fun K "is_integer" "is_integer" s_is_integer f_is_integer d_is_integer
  b_is_integer : Binds K d_is_integer ["thing"] []
  m_is_integer : mg "is_integer" = some (.ref f_is_integer)
  f_is_between : Addr
  d_is_between : FuncData
  F_is_between : Fun K "is_between" "is_between" s_is_between f_is_between d_is_between
  b_is_between : Binds K d_is_between ["thing", "least", "most"] []
  m_is_between : mg "is_between" = some (.ref f_is_between)
  f_is_below : Addr
  d_is_below : FuncData
  F_is_below : Fun K "is_below" "is_below" s_is_below f_is_below d_is_below
  b_is_below : Binds K d_is_below ["thing", "bound"] []
  m_is_below : mg "is_below" = some (.ref f_is_below)
  f_is_pair : Addr
  d_is_pair : FuncData
  F_is_pair : Fun K "is_pair" "is_pair" s_is_pair f_is_pair d_is_pair
  b_is_pair : Binds K d_is_pair ["thing"] []
  m_is_pair : mg "is_pair" = some (.ref f_is_pair)
  f_rings : Addr
  d_rings : FuncData
  F_rings : Fun K "rings" "rings" s_rings f_rings d_rings
  b_rings : Binds K d_rings ["web"] []
  m_rings : mg "rings" = some (.ref f_rings)
  f_rings_from : Addr
  d_rings_from : FuncData
  F_rings_from : Fun K "_rings_from" "_rings_from" s_rings_from f_rings_from d_rings_from
  b_rings_from : Binds K d_rings_from ["web", "first"] []
  m_rings_from : mg "_rings_from" = some (.ref f_rings_from)
  f_steps : Addr
  d_steps : FuncData
  F_steps : Fun K "_steps" "_steps" s_steps f_steps d_steps
  b_steps : Binds K d_steps ["web", "place", "gone", "met"] []
  m_steps : mg "_steps" = some (.ref f_steps)
  f_bridges : Addr
  d_bridges : FuncData
  F_bridges : Fun K "bridges" "bridges" s_bridges f_bridges d_bridges
  b_bridges : Binds K d_bridges ["web"] []
  m_bridges : mg "bridges" = some (.ref f_bridges)
  f_webI : Addr
  d_webI : FuncData
  F_webI : Fun K "__init__" "Web.__init__" s_webI f_webI d_webI
  b_webI : Binds K d_webI ["self", "many", "ties"] []
  f_webE : Addr
  d_webE : FuncData
  F_webE : Fun K "__eq__" "Web.__eq__" s_webE f_webE d_webE
  b_webE : Binds K d_webE ["self", "other"] []
  f_is_tie : Addr
  d_is_tie : FuncData
  F_is_tie : Fun K "_is_tie" "_is_tie" s_is_tie f_is_tie d_is_tie
  b_is_tie : Binds K d_is_tie ["thing", "many"] []
  m_is_tie : mg "_is_tie" = some (.ref f_is_tie)
  f_l_hand : Addr
  d_l_hand : FuncData
  F_l_hand : Fun K "_law_hand" "_law_hand" s_l_hand f_l_hand d_l_hand
  b_l_hand : Binds K d_l_hand ["script"] []
  m_l_hand : mg "_law_hand" = some (.ref f_l_hand)
  f_l_draw : Addr
  d_l_draw : FuncData
  F_l_draw : Fun K "_law_draw" "_law_draw" s_l_draw f_l_draw d_l_draw
  b_l_draw : Binds K d_l_draw ["hand", "many"] []
  m_l_draw : mg "_law_draw" = some (.ref f_l_draw)
  f_l_some : Addr
  d_l_some : FuncData
  F_l_some : Fun K "_law_some" "_law_some" s_l_some f_l_some d_l_some
  b_l_some : Binds K d_l_some ["hand", "things"] []
  m_l_some : mg "_law_some" = some (.ref f_l_some)
  f_l_pair : Addr
  d_l_pair : FuncData
  F_l_pair : Fun K "_law_pair" "_law_pair" s_l_pair f_l_pair d_l_pair
  b_l_pair : Binds K d_l_pair ["one", "other"] []
  m_l_pair : mg "_law_pair" = some (.ref f_l_pair)
  f_l_ties : Addr
  d_l_ties : FuncData
  F_l_ties : Fun K "_law_ties" "_law_ties" s_l_ties f_l_ties d_l_ties
  b_l_ties : Binds K d_l_ties ["hand", "many", "kind"] []
  m_l_ties : mg "_law_ties" = some (.ref f_l_ties)
  f_l_parts : Addr
  d_l_parts : FuncData
  F_l_parts : Fun K "_law_parts" "_law_parts" s_l_parts f_l_parts d_l_parts
  b_l_parts : Binds K d_l_parts ["many", "ties", "lot"] []
  m_l_parts : mg "_law_parts" = some (.ref f_l_parts)
  f_l_is : Addr
  d_l_is : FuncData
  F_l_is : Fun K "_law_is" "_law_is" s_l_is f_l_is d_l_is
  b_l_is : Binds K d_l_is ["told", "due"] []
  m_l_is : mg "_law_is" = some (.ref f_l_is)
  f_l_bridges : Addr
  d_l_bridges : FuncData
  F_l_bridges : Fun K "_law_bridges" "_law_bridges" s_l_bridges f_l_bridges d_l_bridges
  b_l_bridges : Binds K d_l_bridges ["many", "ties"] []
  m_l_bridges : mg "_law_bridges" = some (.ref f_l_bridges)
  f_l_is_round : Addr
  d_l_is_round : FuncData
  F_l_is_round : Fun K "_law_is_round" "_law_is_round" s_l_is_round f_l_is_round d_l_is_round
  b_l_is_round : Binds K d_l_is_round ["many", "ties", "tie"] []
  m_l_is_round : mg "_law_is_round" = some (.ref f_l_is_round)
  f_l_strung : Addr
  d_l_strung : FuncData
  F_l_strung : Fun K "_law_strung" "_law_strung" s_l_strung f_l_strung d_l_strung
  b_l_strung : Binds K d_l_strung ["hand"] []
  m_l_strung : mg "_law_strung" = some (.ref f_l_strung)
  f_l_right : Addr
  d_l_right : FuncData
  F_l_right : Fun K "_law_right" "_law_right" s_l_right f_l_right d_l_right
  b_l_right : Binds K d_l_right ["many", "ties"] []
  m_l_right : mg "_law_right" = some (.ref f_l_right)
  f_law : Addr
  d_law : FuncData
  F_law : Fun K "law" "law" s_law f_law d_law
  b_law : Binds K d_law ["script"] []
  m_law : mg "law" = some (.ref f_law)
  C_Web : Addr
  m_Web : mg "Web" = some (.ref C_Web)
  cl_Web : Cls K C_Web
  mk_Web : Mk K C_Web f_webI
  eq_Web : PySem.W.findIn K (.ref C_Web) "__eq__" = some (some (.ref f_webE))
  eqf_Web : PySem.W.isFn K (.ref f_webE) = true
  ic_Web : PySem.W.findIn K (.ref C_Web) "__class__" = some (some (.builtin "object.__class__"))
  im_Web : PySem.W.mroIn K C_Web (.type "object") = some true
  no_Web_many : NoAttr K C_Web "many"
  no_Web_ties : NoAttr K C_Web "ties"
  ia : PySem.W.specialIn K (.builtin "object.__class__") "__get__" = some (some (.builtin "getset_descriptor.__get__"))
  ib : PySem.W.takesIn K (.builtin "object.__class__") = some true
  t_MOST_PLACES : Tok
  m_MOST_PLACES : mg "MOST_PLACES" = some (.int 10 t_MOST_PLACES)
  t_MOST_TIES : Tok
  m_MOST_TIES : mg "MOST_TIES" = some (.int 16 t_MOST_TIES)
  g_abs : mg "abs" = none
  g_all : mg "all" = none
  g_bool : mg "bool" = none
  g_enumerate : mg "enumerate" = none
  g_int : mg "int" = none
  g_isinstance : mg "isinstance" = none
  g_len : mg "len" = none
  g_list : mg "list" = none
  g_max : mg "max" = none
  g_min : mg "min" = none
  g_range : mg "range" = none
  g_set : mg "set" = none
  g_sorted : mg "sorted" = none
  g_tuple : mg "tuple" = none
  g_zip : mg "zip" = none
end K6
set_option Elab.async false
set_option linter.all false
set_option maxRecDepth 100000
set_option maxHeartbeats 4000000
/-! The judges of kinds, and a web made. -/
namespace K6
open PySem L2 Rl
/-! ### promises -/
def spInt1 : Sp := fun vs H Q _ => ∃ i : Int, vs = [.int i] ∧ Q (.bl true) H
def spBetw : Sp := fun vs H Q _ => ∃ i l m : Int, vs = [.int i, .int l, .int m] ∧ Q (.bl (decide (l ≤ i) && decide (i ≤ m))) H
def spBelow : Sp := fun vs H Q _ => ∃ i m : Int, vs = [.int i, .int m] ∧ Q (.bl (decide (0 ≤ i) && decide (i < m))) H
def spPair : Sp := fun vs H Q _ => ∃ (a : Addr) (x y : V), vs = [.ref a] ∧ H a = some (.tup [x, y]) ∧ Q (.bl true) H
def spTie : Sp := fun vs H Q _ => ∃ (a : Addr) (u v n : Int), vs = [.ref a, .int n] ∧ H a = some (.tup [.int u, .int v]) ∧ 0 ≤ u ∧ u ≤ v ∧ v < n ∧ Q (.bl true) H
section
variable {P : Program} {w : World} {K : PySem.W.Frag} {mg : Str → Option Value} {base : Heap}
theorem ok_is_integer (T : Tx K mg) : FnOk P w K mg base CX0 1 T.f_is_integer T.d_is_integer ["thing"] spInt1 := by
  refine T.F_is_integer.ok sc_is_integer (fun vs H Q E h => ?_) (fun cdv A outer s H vs Q E hr h => ?_)
  · obtain ⟨i, rfl, _⟩ := h
    rfl
  obtain ⟨i, rfl, q⟩ := h
  refine ⟨_, (pss_one (ps_ret (pe_and (pe_callB call_isi (by rfl) T.g_isinstance (by decide +kernel) (pa_cons (pv 0) (pa_cons (pe_bltn (v := .ty "int") (by rfl) T.g_int (by decide +kernel) rfl) pa_nil))) (pe_one (pe_not (pe_callB call_isi (by rfl) T.g_isinstance (by decide +kernel) (pa_cons (pv 0) (pa_cons (pe_bltn (v := .ty "bool") (by rfl) T.g_bool (by decide +kernel) rfl) pa_nil)))))))), ?_⟩
  refine ⟨_, rfl, _, _, _, _, _, rfl, .ty _, .base (.int i), kit_ty (by decide +kernel), true, rfl, iteT ?_⟩
  refine ⟨_, rfl, _, _, _, _, _, rfl, .ty _, .base (.int i), kit_ty (b := "bool") (r := false) (by decide +kernel), false, rfl, ?_⟩
  exact q
theorem ok_is_between (T : Tx K mg) : FnOk P w K mg base CX0 2 T.f_is_between T.d_is_between ["thing", "least", "most"] spBetw := by
  refine T.F_is_between.ok sc_is_between (fun vs H Q E h => ?_) (fun cdv A outer s H vs Q E hr h => ?_)
  · obtain ⟨i, l, m, rfl, _⟩ := h
    rfl
  obtain ⟨i, l, m, rfl, q⟩ := h
  refine ⟨_, (pss_one (ps_ret (pe_and (pe_call (ok_is_integer T) (hr.mono (by decide)) (by rfl) T.m_is_integer T.F_is_integer.kp T.b_is_integer .nil pass0 (pa_cons (pv 0) pa_nil)) (pe_one (pe_chain op_le op_le (pv 1) (pv 0) (pv 2)))))), ?_⟩
  refine ⟨_, rfl, i, rfl, true, rfl, iteT ?_⟩
  refine ⟨_, rfl, _, rfl, l, i, rfl, rfl, _, rfl, ?_⟩
  cases hd : decide (l ≤ i) with
  | true =>
    rw [hd] at q
    exact iteT ⟨_, rfl, i, m, rfl, rfl, q⟩
  | false =>
    rw [hd] at q
    exact iteF q
theorem ok_is_below (T : Tx K mg) : FnOk P w K mg base CX0 2 T.f_is_below T.d_is_below ["thing", "bound"] spBelow := by
  refine T.F_is_below.ok sc_is_below (fun vs H Q E h => ?_) (fun cdv A outer s H vs Q E hr h => ?_)
  · obtain ⟨i, m, rfl, _⟩ := h
    rfl
  obtain ⟨i, m, rfl, q⟩ := h
  refine ⟨_, (pss_one (ps_ret (pe_and (pe_call (ok_is_integer T) (hr.mono (by decide)) (by rfl) T.m_is_integer T.F_is_integer.kp T.b_is_integer .nil pass0 (pa_cons (pv 0) pa_nil)) (pe_one (pe_chain op_le op_lt pe_int (pv 0) (pv 1)))))), ?_⟩
  refine ⟨_, rfl, i, rfl, true, rfl, iteT ?_⟩
  refine ⟨_, rfl, 0, i, rfl, rfl, _, rfl, ?_⟩
  cases hd : decide ((0 : Int) ≤ i) with
  | true =>
    rw [hd] at q
    exact iteT ⟨_, rfl, i, m, rfl, rfl, q⟩
  | false =>
    rw [hd] at q
    exact iteF q
theorem ok_is_pair (T : Tx K mg) : FnOk P w K mg base CX0 1 T.f_is_pair T.d_is_pair ["thing"] spPair := by
  refine T.F_is_pair.ok sc_is_pair (fun vs H Q E h => ?_) (fun cdv A outer s H vs Q E hr h => ?_)
  · obtain ⟨a, x, y, rfl, _⟩ := h
    rfl
  obtain ⟨a, x, y, rfl, ha, q⟩ := h
  refine ⟨_, (pss_one (ps_ret (pe_and (pe_callB call_isi (by rfl) T.g_isinstance (by decide +kernel) (pa_cons (pv 0) (pa_cons (pe_bltn (v := .ty "tuple") (by rfl) T.g_tuple (by decide +kernel) rfl) pa_nil))) (pe_one (pe_cmpR op_eq (pe_callB call_len_seq (by rfl) T.g_len PySem.boot_len (pa_cons (pv 0) pa_nil)) pe_int (nomark _)))))), ?_⟩
  refine ⟨_, rfl, _, _, _, _, _, rfl, .ty _, .base (.tup ha), kit_ty (by decide +kernel), true, rfl, iteT ?_⟩
  refine ⟨_, rfl, a, _, rfl, .inr (SqT.of ha), rfl, ?_⟩
  exact q
theorem ok_is_tie (T : Tx K mg) : FnOk P w K mg base CX0 3 T.f_is_tie T.d_is_tie ["thing", "many"] spTie := by
  refine T.F_is_tie.ok sc_is_tie (fun vs H Q E h => ?_) (fun cdv A outer s H vs Q E hr h => ?_)
  · obtain ⟨a, u, v, n, rfl, _⟩ := h
    rfl
  obtain ⟨a, u, v, n, rfl, ha, h0, h1, h2, q⟩ := h
  have sT : SqT K H a [.int u, .int v] := SqT.of ha
  refine ⟨_, (pss_one (ps_ret (pe_and (pe_call (ok_is_pair T) (hr.mono (by decide)) (by rfl) T.m_is_pair T.F_is_pair.kp T.b_is_pair .nil pass0 (pa_cons (pv 0) pa_nil)) (pe_and (pe_call (ok_is_below T) (hr.mono (by decide)) (by rfl) T.m_is_below T.F_is_below.kp T.b_is_below .nil pass0 (pa_cons (pe_ix ix_tup (pv 0) pe_int (fun _ _ => rfl)) (pa_cons (pv 1) pa_nil))) (pe_one (pe_call (ok_is_between T) (hr.mono (by decide)) (by rfl) T.m_is_between T.F_is_between.kp T.b_is_between .nil pass0 (pa_cons (pe_ix ix_tup (pv 0) pe_int (fun _ _ => rfl)) (pa_cons pe_int (pa_cons (pe_ix ix_tup (pv 0) pe_int (fun _ _ => rfl)) pa_nil))))))))), ?_⟩
  refine ⟨_, rfl, a, _, _, rfl, ha, true, rfl, iteT ?_⟩
  refine ⟨_, rfl, a, _, 1, .int v, rfl, rfl, sT, atI_nat (j := 1) rfl, _, rfl, v, n, rfl, _, rfl, ?_⟩
  have e1 : (decide (0 ≤ v) && decide (v < n)) = true := by
    rw [decide_eq_true (show (0 : Int) ≤ v by omega), decide_eq_true h2]
    rfl
  rw [e1]
  refine iteT ?_
  refine ⟨_, rfl, a, _, 0, .int u, rfl, rfl, sT, atI_nat (j := 0) rfl, _, rfl, a, _, 1, .int v, rfl, rfl, sT, atI_nat (j := 1) rfl, u, 0, v, rfl, ?_⟩
  have e2 : (decide (0 ≤ u) && decide (u ≤ v)) = true := by
    rw [decide_eq_true h0, decide_eq_true h1]
    rfl
  rw [e2]
  exact q
end
/-! ### webs -/
/-- the items of a list or tuple are pairs of ints, these -/
def PrsAt (H : Hp) (vs : List V) (ps : List (Int × Int)) : Prop := Paired (fun (v : V) (p : Int × Int) => ∃ a, v = .ref a ∧ H a = some (.tup [.int p.1, .int p.2])) vs ps
def TiesAt (H : Hp) (t : Addr) (ps : List (Int × Int)) : Prop := ∃ vs, H t = some (.tup vs) ∧ PrsAt H vs ps
def okP (n : Int) (p : Int × Int) : Prop := 0 ≤ p.1 ∧ p.1 ≤ p.2 ∧ p.2 < n
def wf (n : Int) (t : Addr) : List (Str × V) := putF "ties" (.ref t) (putF "many" (.int n) [])
def WebAt (C : Addr) (H : Hp) (x : Addr) (n : Int) (ps : List (Int × Int)) : Prop := ∃ dx t, H x = some (.ins C dx (wf n t)) ∧ TiesAt H t ps
theorem kmt : ¬ (("many" : Str) = "ties") := by decide +kernel
theorem wf_many (n : Int) (t : Addr) : (wf n t).lookup ("many" : Str) = some (.int n) := by
  unfold wf
  rw [lookup_putF, if_neg kmt, lookup_putF, if_pos rfl]
theorem wf_ties (n : Int) (t : Addr) : (wf n t).lookup ("ties" : Str) = some (.ref t) := by
  unfold wf
  rw [lookup_putF, if_pos rfl]
theorem PrsAt.get {H : Hp} : ∀ {vs : List V} {ps : List (Int × Int)} {i : Nat} {v : V}, PrsAt H vs ps → vs[i]? = some v → ∃ p a, ps[i]? = some p ∧ v = .ref a ∧ H a = some (.tup [.int p.1, .int p.2])
  | _, _, i, v, .nil, h => by simp at h
  | _, _, 0, v, .cons (a := x) (b := p) ⟨a, e, q⟩ _, h => by
    have e1 : x = v := Option.some.inj h
    exact ⟨p, a, rfl, e1.symm.trans e, q⟩
  | _, _, i + 1, v, .cons _ r, h => PrsAt.get (i := i) (v := v) r h
theorem PrsAt.mono {H H' : Hp} (e : ∀ a x y, H a = some (.tup [x, y]) → H' a = some (.tup [x, y])) : ∀ {vs : List V} {ps : List (Int × Int)}, PrsAt H vs ps → PrsAt H' vs ps
  | _, _, .nil => .nil
  | _, _, .cons ⟨a, e1, q⟩ r => .cons ⟨a, e1, e _ _ _ q⟩ (PrsAt.mono e r)
theorem PrsAt.len {H : Hp} {vs : List V} {ps : List (Int × Int)} (h : PrsAt H vs ps) : vs.length = ps.length := Paired.length h
theorem TiesAt.same {H H' : Hp} {t : Addr} {ps : List (Int × Int)} (e : Same H H') (h : TiesAt H t ps) : TiesAt H' t ps := by
  obtain ⟨vs, h1, h2⟩ := h
  exact ⟨vs, e _ _ h1, h2.mono fun a x y q => e _ _ q⟩
theorem WebAt.same {C : Addr} {H H' : Hp} {x : Addr} {n : Int} {ps : List (Int × Int)} (e : Same H H') (h : WebAt C H x n ps) : WebAt C H' x n ps := by
  obtain ⟨dx, t, h1, h2⟩ := h
  exact ⟨dx, t, e _ _ h1, h2.same e⟩
def spWebI (C : Addr) : Sp := fun vs H Q _ => ∃ (x dx t : Addr) (n : Int) (ps : List (Int × Int)), vs = [.ref x, .int n, .ref t] ∧ H x = some (.ins C dx []) ∧ 1 ≤ n ∧ n ≤ 10 ∧ TiesAt H t ps ∧ ps.length ≤ 16 ∧ (∀ p ∈ ps, okP n p) ∧
  ∀ H', (∀ b o, H b = some o → b ≠ x → H' b = some o) → H' x = some (.ins C dx (wf n t)) → Q .non H'
section
variable {P : Program} {w : World} {K : PySem.W.Frag} {mg : Str → Option Value} {base : Heap}
theorem same_new {H : Hp} {p : Addr} (h : H p = none) (o : HO) : Same H (upd H p o) := fun b u q => by
  rw [upd_ne (ne_of_none q h)]
  exact q
theorem ok_webI (T : Tx K mg) : FnOk P w K mg base CX0 4 T.f_webI T.d_webI ["self", "many", "ties"] (spWebI T.C_Web) := by
  refine T.F_webI.ok sc_webI (fun vs H Q E h => ?_) (fun cdv A outer s H vs Q E hr h => ?_)
  · obtain ⟨x, dx, t, n, ps, rfl, _⟩ := h
    rfl
  obtain ⟨x, dx, t, n, ps, rfl, hx, n1, n2, ht, hl, hp, q⟩ := h
  obtain ⟨vs, ht1, ht2⟩ := id ht
  refine ⟨_, (pss_cons (ps_if (pt_not (pt_val (pe_call (ok_is_between T) (hr.mono (by decide)) (by rfl) T.m_is_between T.F_is_between.kp T.b_is_between .nil pass0 (pa_cons (pv 1) (pa_cons pe_int (pa_cons (pe_glob (v := .int 10) rfl T.m_MOST_PLACES ⟨_, rfl⟩) pa_nil))))))
      (pss_one ps_never)
      pss_nil)
    (pss_cons (ps_if (PW.pt (pw_or (pt_not (pt_val (pe_callB call_isi (by rfl) T.g_isinstance (by decide +kernel) (pa_cons (pv 2) (pa_cons (pe_bltn (v := .ty "tuple") (by rfl) T.g_tuple (by decide +kernel) rfl) pa_nil))))) (pw_or1 (pt_cmpR op_gt (pe_callB call_len_seq (by rfl) T.g_len PySem.boot_len (pa_cons (pv 2) pa_nil)) (pe_glob (v := .int 16) rfl T.m_MOST_TIES ⟨_, rfl⟩) (nomark _)))))
      (pss_one ps_never)
      pss_nil)
    (pss_cons (ps_for PassesOwn.never rfl (pi_enT (by rfl) T.g_enumerate (pa_cons (pv 2) pa_nil)) (pg_tup rfl (pgs_cons (pg_name (i := 3) sc_webI.nd rfl (.inl rfl)) (pgs_cons (pg_name (i := 4) sc_webI.nd rfl (.inl rfl)) pgs_nil)))
      (pss_one (ps_if (pt_not (pt_val (pe_call (ok_is_tie T) (hr.mono (by decide)) (by rfl) T.m_is_tie T.F_is_tie.kp T.b_is_tie .nil pass0 (pa_cons (pv 4) (pa_cons (pv 1) pa_nil)))))
          (pss_one ps_never)
          pss_nil)))
    (pss_cons (ps_fld (pv 0) (pv 1) rfl)
    (pss_one (ps_fld (pv 0) (pv 2) rfl)))))), ?_⟩
  refine ⟨_, rfl, n, 1, 10, rfl, true, ?_, ?_⟩
  · rw [decide_eq_true n1, decide_eq_true n2]
    rfl
  refine iteF ?_
  refine ⟨_, rfl, _, _, _, _, _, rfl, .ty _, .base (.tup ht1), kit_ty (by decide +kernel), true, rfl, ?_⟩
  refine iteF ?_
  refine ⟨_, rfl, t, _, rfl, .inr (SqT.of ht1), _, 16, rfl, rfl, _, rfl, ?_⟩
  have e3 : ((vs.length : Nat) : Int) ≤ 16 := by
    rw [ht2.len]
    omega
  rw [decide_eq_false (show ¬ (16 : Int) < ((vs.length : Nat) : Int) by omega)]
  refine iteF ?_
  -- each tie is one
  refine ⟨_, rfl, t, _, rfl, SqT.of ht1, for_enT (fun i σ H' => ∃ y3 y4, σ = [some (.ref x), some (.int n), some (.ref t), y3, y4] ∧ Same H H')
    ⟨none, none, rfl, Same.refl H⟩ (fun i σ H' ⟨_, _, _, sm⟩ => SqT.of (sm _ _ ht1)) ?_ ?_⟩
  · intro i y S σ H' hi ⟨y3, y4, e, sm⟩ nS
    subst e
    obtain ⟨p, a, hpi, ey, ha⟩ := ht2.get hi
    subst ey
    have op := hp p (List.mem_of_getElem? hpi)
    have s2 : Same H (upd H' S (.tup [.int (i : Nat), .ref a])) := sm.trans (same_new nS _)
    refine ⟨S, _, rfl, SqT.of upd_same, rfl, _, _, rfl, _, _, rfl, rfl, ?_⟩
    refine ⟨_, rfl, _, rfl, a, p.1, p.2, n, rfl, s2 _ _ ha, op.1, op.2.1, op.2.2, true, rfl, ?_⟩
    exact iteF ⟨_, _, rfl, s2⟩
  · intro σ H' ⟨y3, y4, e, sm⟩
    subst e
    refine ⟨_, rfl, _, rfl, x, T.C_Web, dx, [], rfl, sm _ _ hx, T.cl_Web, T.no_Web_many, (by show 0 < 1000; decide), ?_⟩
    refine ⟨_, rfl, _, rfl, x, T.C_Web, dx, _, rfl, upd_same, T.cl_Web, T.no_Web_ties, (by show 1 < 1000; decide), ?_⟩
    refine q _ (fun b o hb nb => ?_) upd_same
    rw [upd_ne nb, upd_ne nb]
    exact sm _ _ hb
/-- Web(n, t): a right web, made -/
theorem web_made {C : Addr} {H : Hp} {t : Addr} {n : Int} {ps : List (Int × Int)} {Q : VK} {E : XK} (n1 : 1 ≤ n) (n2 : n ≤ 10) (ht : TiesAt H t ps) (hl : ps.length ≤ 16) (hp : ∀ p ∈ ps, okP n p)
    (q : ∀ x H', H x = none → Same H H' → WebAt C H' x n ps → Q (.ref x) H') :
    ∀ x dx, H x = none → H dx = none → dx ≠ x → spWebI C (.ref x :: ([.int n, .ref t] ++ [])) (upd (upd H dx (.own x)) x (.ins C dx [])) (fun v H2 => v = .non ∧ Q (.ref x) H2) E := by
  intro x dx nx nd nex
  have s0 : Same H (upd (upd H dx (.own x)) x (.ins C dx [])) := fun b o e => by
    rw [upd_ne (ne_of_none e nx), upd_ne (ne_of_none e nd)]
    exact e
  refine ⟨x, dx, t, n, ps, rfl, upd_same, n1, n2, ht.same s0, hl, hp, fun H' k hx => ⟨rfl, ?_⟩⟩
  have s1 : Same H H' := fun b o e => k b o (s0 b o e) (ne_of_none e nx)
  exact q x H' nx s1 ⟨dx, t, hx, ht.same s1⟩
end
end K6
set_option Elab.async false
set_option linter.all false
set_option maxRecDepth 100000
set_option maxHeartbeats 4000000
/-! Short answers. -/
namespace K6
open PySem L2 Rl
/-! ### short answers -/
theorem cut_hi (xs : List V) (k : Int) (h : 0 ≤ k) : cutV xs none (some k) = xs.take k.toNat := by
  obtain ⟨n, rfl⟩ := Int.eq_ofNat_of_zero_le h
  unfold cutV
  rw [HT.sIx_none, show HT.sIx xs.length xs.length (some (n : Int)) = min n xs.length from HT.sIx_nat _ _ n, List.drop_zero, Nat.sub_zero, Int.toNat_natCast]
  rcases Nat.le_total n xs.length with g | g
  · rw [Nat.min_eq_left g]
  · rw [Nat.min_eq_right g, List.take_of_length_le (Nat.le_refl _), List.take_of_length_le g]
theorem cut_lo (xs : List V) (k : Int) (h : 0 ≤ k) : cutV xs (some k) none = xs.drop k.toNat := by
  obtain ⟨n, rfl⟩ := Int.eq_ofNat_of_zero_le h
  unfold cutV
  rw [HT.sIx_none, show HT.sIx xs.length 0 (some (n : Int)) = min n xs.length from HT.sIx_nat _ _ n, Int.toNat_natCast]
  rcases Nat.le_total n xs.length with g | g
  · rw [Nat.min_eq_left g, List.take_of_length_le (by rw [List.length_drop]; exact Nat.le_refl _)]
  · rw [Nat.min_eq_right g, List.drop_of_length_le (Nat.le_refl _), List.drop_of_length_le g, List.take_nil]
theorem cut_all (xs : List V) (lo hi : Option Int) (h : HT.sIx xs.length 0 lo = 0 ∧ HT.sIx xs.length xs.length hi = xs.length) : cutV xs lo hi = xs := by
  unfold cutV
  rw [h.1, h.2, List.drop_zero, Nat.sub_zero, List.take_of_length_le (Nat.le_refl _)]
section
variable {K : PySem.W.Frag} {H : Hp} {Q : VK}
theorem sl_go {a : Addr} {xs : List V} {lo hi : Option Int} (ha : H a = some (.tup xs)) (q : ∀ p H', Same H H' → H' p = some (.tup (cutV xs lo hi)) → Q (.ref p) H') : rSlA K (.ref a) lo hi H Q :=
  ⟨a, xs, rfl, SqT.of ha, fun z => q a H (Same.refl H) (by rw [cut_all xs lo hi z]; exact ha), fun _ p np => q p _ (same_new np _) upd_same⟩
theorem cat_go {a b : Addr} {xs ys : List V} (ha : H a = some (.tup xs)) (hb : H b = some (.tup ys)) (hz : xs.length + ys.length ≤ 100000) (q : ∀ p H', Same H H' → H' p = some (.tup (xs ++ ys)) → Q (.ref p) H') : rCatA K (.ref a) (.ref b) H Q := by
  refine ⟨a, b, xs, ys, rfl, rfl, SqT.of ha, SqT.of hb, Nat.le_trans hz (by decide), fun e => ?_, fun _ e => ?_, fun _ _ p np => q p _ (same_new np _) upd_same⟩
  · subst e
    exact q b H (Same.refl H) hb
  · subst e
    exact q a H (Same.refl H) (by rw [List.append_nil]; exact ha)
end
theorem rd_same {H H' : Hp} (e : Same H H') {a : Addr} {u : HO} (h : L2.Rd H a u) : L2.Rd H' a u := by
  rcases h with h | ⟨o, h⟩
  · exact .inl (e _ _ h)
  · exact .inr ⟨o, e _ _ h⟩
theorem ty_tupR {K : PySem.W.Frag} {H : Hp} {a : Addr} {xs : List V} (h : L2.Rd H a (.tup xs)) : TyX K H (.ref a) (.type "tuple") := by
  rcases h with h | ⟨o, h⟩
  · exact .base (.tup h)
  · exact .fTuple h
theorem Same.tup {H H' : Hp} (e : Same H H') {a : Addr} {x y : V} (h : H a = some (.tup [x, y])) : H' a = some (.tup [x, y]) := e _ _ h
theorem PrsAt.same {H H' : Hp} {vs : List V} {ps : List (Int × Int)} (e : Same H H') (h : PrsAt H vs ps) : PrsAt H' vs ps := h.mono fun _ _ _ q => e _ _ q
theorem PrsAt.app {H : Hp} : ∀ {vs ws : List V} {ps qs : List (Int × Int)}, PrsAt H vs ps → PrsAt H ws qs → PrsAt H (vs ++ ws) (ps ++ qs)
  | _, _, _, _, .nil, h => h
  | _, _, _, _, .cons a r, h => .cons a (PrsAt.app r h)
theorem PrsAt.take {H : Hp} : ∀ {vs : List V} {ps : List (Int × Int)} (n : Nat), PrsAt H vs ps → PrsAt H (vs.take n) (ps.take n)
  | _, _, 0, _ => by rw [List.take_zero, List.take_zero]; exact .nil
  | _, _, _ + 1, .nil => .nil
  | _, _, n + 1, .cons a r => .cons a (PrsAt.take n r)
theorem PrsAt.drop {H : Hp} : ∀ {vs : List V} {ps : List (Int × Int)} (n : Nat), PrsAt H vs ps → PrsAt H (vs.drop n) (ps.drop n)
  | _, _, 0, h => h
  | _, _, _ + 1, .nil => .nil
  | _, _, n + 1, .cons a r => PrsAt.drop n r
/-- a list that is changed at an address that holds no tuple leaves the pairs -/
theorem PrsAt.upd {H : Hp} {D : Addr} {l : List V} {o : HO} {vs : List V} {ps : List (Int × Int)} (hD : H D = some (.lst l)) (h : PrsAt H vs ps) : PrsAt (upd H D o) vs ps :=
  h.mono fun a x y q => by
    rw [upd_ne (ne_of q hD (by intro z; cases z))]
    exact q
def Right (n : Int) (ps : List (Int × Int)) : Prop := 1 ≤ n ∧ n ≤ 10 ∧ ps.length ≤ 16 ∧ ∀ p ∈ ps, okP n p
/-- as min and max of two answer -/
def mn (i j : Int) : Int := if j < i then j else i
def mx (i j : Int) : Int := if j > i then j else i
def ix (ns : List Int) (k : Int) : Int := ns.getD k.toNat 0
def cal (ns : List Int) (p : Int × Int) : Int × Int := (mn (ix ns p.1) (ix ns p.2), mx (ix ns p.1) (ix ns p.2))
def inR (m : Nat) (p : Int × Int) : Prop := 0 ≤ p.1 ∧ p.1 < m ∧ 0 ≤ p.2 ∧ p.2 < m
theorem ix_at {ns : List Int} {k : Int} (h0 : 0 ≤ k) (h1 : k < ns.length) : atI (ns.map V.int) k = some (.int (ix ns k)) := by
  obtain ⟨n, rfl⟩ := Int.eq_ofNat_of_zero_le h0
  have hn : n < ns.length := by omega
  refine atI_nat ?_
  unfold ix
  rw [List.getElem?_map, Int.toNat_natCast, List.getD_eq_getElem?_getD, List.getElem?_eq_getElem hn]
  rfl
section
variable {P : Program} {w : World} {K : PySem.W.Frag} {mg : Str → Option Value} {base : Heap}
theorem ix_go {H : Hp} {m : Addr} {ns : List Int} {k : Int} {Q : VK} (hm : H m = some (.lst (ns.map V.int)) ∨ L2.Rd H m (.tup (ns.map V.int))) (h0 : 0 ≤ k) (h1 : k < ns.length) (q : Q (.int (ix ns k)) H) : rIx K (.ref m) (.int k) H Q := by
  rcases hm with hm | hm
  · exact .inl ⟨m, _, k, _, rfl, rfl, SqL.of hm, ix_at h0 h1, q⟩
  · exact .inr (.inl ⟨m, _, k, _, rfl, rfl, .inl hm, ix_at h0 h1, q⟩)
end
/-! ### data -/
def dI (ns : List Int) : List PyData := ns.map PyData.int
def dP (p : Int × Int) : PyData := .tuple [.int p.1, .int p.2]
theorem can_ints : ∀ ns : List Int, PyData.canLayAll0 (dI ns) = true
  | [] => by unfold dI; simp [PyData.canLayAll0]
  | n :: r => by
    have ih := can_ints r
    unfold dI at ih ⊢
    rw [List.map_cons]
    simp only [PyData.canLayAll0, PyData.canLay0, Bool.true_and]
    exact ih
theorem dep_ints : ∀ ns : List Int, PyData.depthAll (dI ns) = 0
  | [] => by unfold dI; simp [PyData.depthAll]
  | n :: r => by
    have ih := dep_ints r
    unfold dI at ih ⊢
    rw [List.map_cons]
    simp only [PyData.depthAll, PyData.depth]
    rw [ih]
    rfl
theorem can_pair (p : Int × Int) : (dP p).canLay0 = true := by
  unfold dP
  simp [PyData.canLay0, PyData.canLayAll0]
theorem dep_pair (p : Int × Int) : (dP p).depth = 1 := by
  unfold dP
  simp [PyData.depth, PyData.depthAll]
theorem can_prs : ∀ ps : List (Int × Int), PyData.canLayAll0 (ps.map dP) = true
  | [] => by simp [PyData.canLayAll0]
  | p :: r => by
    rw [List.map_cons]
    simp only [PyData.canLayAll0]
    rw [can_pair, can_prs r]
    rfl
theorem dep_prs : ∀ ps : List (Int × Int), PyData.depthAll (ps.map dP) ≤ 1
  | [] => by simp [PyData.depthAll]
  | p :: r => by
    rw [List.map_cons]
    simp only [PyData.depthAll]
    rw [dep_pair]
    exact Nat.max_le.mpr ⟨Nat.le_refl _, dep_prs r⟩
theorem shp_of {d : PyData} (h1 : d.canLay0 = true) (h2 : d.depth ≤ 64) : SeqAt.shaped d = true := Bool.and_eq_true_iff.mpr ⟨h1, decide_eq_true h2⟩
theorem shp_ints (ns : List Int) : SeqAt.shaped (.list (dI ns)) = true := shp_of
  (by simp only [PyData.canLay0]; exact can_ints ns) (by simp only [PyData.depth]; rw [dep_ints]; decide)
theorem shp_pair (p : Int × Int) : SeqAt.shaped (dP p) = true := shp_of (can_pair p) (by rw [dep_pair]; decide)
theorem shp_prs (ps : List (Int × Int)) : SeqAt.shaped (.tuple (ps.map dP)) = true := shp_of
  (by simp only [PyData.canLay0]; exact can_prs ps) (by simp only [PyData.depth]; have := dep_prs ps; omega)
theorem eqv_same {d : PyData} (h : SeqAt.shaped d = true) : PyData.eqv d d = true := SeqAt.eqv_refl d (SeqAt.canLay_of_shaped h)
theorem dpa_ints {K : PySem.W.Frag} {H : Hp} : ∀ ns : List Int, DpAll K H (ns.map V.int) (dI ns)
  | [] => .nil
  | n :: r => .cons (.int n) (dpa_ints r)
theorem dp_pair {K : PySem.W.Frag} {H : Hp} {a : Addr} {p : Int × Int} (h : H a = some (.tup [.int p.1, .int p.2])) : Dp K H (.ref a) (dP p) :=
  .tup (SqT.of h) (.cons (.int _) (.cons (.int _) .nil))
theorem dpa_prs {K : PySem.W.Frag} {H : Hp} : ∀ {vs : List V} {ps : List (Int × Int)}, PrsAt H vs ps → DpAll K H vs (ps.map dP)
  | _, _, .nil => .nil
  | _, _, .cons ⟨a, e, h⟩ r => by
    rw [e]
    exact .cons (dp_pair h) (dpa_prs r)
theorem dp_ties {K : PySem.W.Frag} {H : Hp} {t : Addr} {ps : List (Int × Int)} (h : TiesAt H t ps) : Dp K H (.ref t) (.tuple (ps.map dP)) := by
  obtain ⟨vs, h1, h2⟩ := h
  exact .tup (SqT.of h1) (dpa_prs h2)
/-! ### orders -/
def rn (n : Int) : List Int := (List.range n.toNat).map fun i : Nat => (i : Int)
theorem rg_rn (n : Int) : rgV 0 n = (rn n).map V.int := by
  unfold rgV rn
  rw [Int.sub_zero, List.map_map]
  refine List.map_congr_left fun i _ => ?_
  show V.int (0 + (i : Int)) = V.int (i : Int)
  rw [Int.zero_add]
theorem rn_len (n : Int) : (rn n).length = n.toNat := by
  unfold rn
  rw [List.length_map, List.length_range]
theorem mem_rn {n k : Int} : k ∈ rn n ↔ 0 ≤ k ∧ k < n := by
  unfold rn
  rw [List.mem_map]
  constructor
  · rintro ⟨i, hi, rfl⟩
    have := List.mem_range.mp hi
    omega
  · intro ⟨h0, h1⟩
    exact ⟨k.toNat, List.mem_range.mpr (by omega), by omega⟩
theorem rn_sorted (n : Int) : (rn n).Pairwise (· < ·) := by
  unfold rn
  refine List.pairwise_map.mpr ?_
  have q := List.pairwise_lt_range (n := n.toNat)
  exact q.imp fun {a b} h => by omega
theorem rn_get {n : Int} {i : Nat} (h : i < n.toNat) : (rn n)[i]? = some (i : Int) := by
  unfold rn
  rw [List.getElem?_map, List.getElem?_range h]
  rfl
def IsOrd (n : Int) (os : List Int) : Prop := os.Perm (rn n)
theorem ixN_of {m : Nat} {k : Int} (h0 : 0 ≤ k) (h1 : k.toNat < m) : ixN m k = some k.toNat := by
  obtain ⟨j, rfl⟩ := Int.eq_ofNat_of_zero_le h0
  rw [Int.toNat_natCast] at h1 ⊢
  exact Evl.ixN_nat h1
theorem getD_mem {ps : List (Int × Int)} {k : Nat} (h : k < ps.length) : ps.getD k (0, 0) ∈ ps := by
  rw [List.getD_eq_getElem?_getD, List.getElem?_eq_getElem h]
  exact List.getElem_mem h
theorem mn_mx {n a b : Int} (a0 : 0 ≤ a) (b0 : 0 ≤ b) (a1 : a < n) (b1 : b < n) : okP n (mn a b, mx a b) := by
  unfold okP mn mx
  by_cases h : b < a
  · rw [if_pos h, if_neg (by omega)]
    exact ⟨b0, by show b ≤ a; omega, a1⟩
  · rw [if_neg h]
    by_cases g : b > a
    · rw [if_pos g]
      exact ⟨a0, by show a ≤ b; omega, b1⟩
    · rw [if_neg g]
      exact ⟨a0, Int.le_refl _, a1⟩
theorem inR_of {n : Int} {p : Int × Int} {m : Nat} (h : okP n p) (e : m = n.toNat) : inR m p := by
  obtain ⟨h0, h1, h2⟩ := h
  unfold inR
  omega
def hstep (hs : List Int) (p : Int × Int) : List Int := hs.map fun h => if h = mx (ix hs p.1) (ix hs p.2) then mn (ix hs p.1) (ix hs p.2) else h
def hfold (n : Int) (ps : List (Int × Int)) : List Int := ps.foldl hstep (rn n)
def firstsL (n : Int) (hs : List Int) : List Int := (rn n).filter fun k => decide (k ∈ hs)
def hmOf (n : Int) (hs : List Int) : List Int := hs.map fun h => ((firstsL n hs).idxOf h : Int)
theorem mn_mem {hs : List Int} {a b : Int} (ha : a ∈ hs) (hb : b ∈ hs) : mn a b ∈ hs := by
  unfold mn
  split
  · exact hb
  · exact ha
theorem mx_mem {hs : List Int} {a b : Int} (ha : a ∈ hs) (hb : b ∈ hs) : mx a b ∈ hs := by
  unfold mx
  split
  · exact hb
  · exact ha
theorem mn_le (a b : Int) : mn a b ≤ mx a b := by
  unfold mn mx
  split <;> split <;> omega
theorem ix_mem {hs : List Int} {k : Int} (h0 : 0 ≤ k) (h1 : k < hs.length) : ix hs k ∈ hs := by
  have lt : k.toNat < hs.length := by omega
  unfold ix
  rw [List.getD_eq_getElem?_getD, List.getElem?_eq_getElem lt]
  exact List.getElem_mem lt
theorem ix_map {hs : List Int} (f : Int → Int) {k : Int} (h0 : 0 ≤ k) (h1 : k < hs.length) : ix (hs.map f) k = f (ix hs k) := by
  have lt : k.toNat < hs.length := by omega
  unfold ix
  rw [List.getD_eq_getElem?_getD, List.getD_eq_getElem?_getD, List.getElem?_map, List.getElem?_eq_getElem lt]
  rfl
theorem ix_rn {n k : Int} (h0 : 0 ≤ k) (h1 : k < n) : ix (rn n) k = k := by
  unfold ix
  rw [List.getD_eq_getElem?_getD, rn_get (by omega)]
  show ((k.toNat : Nat) : Int) = k
  omega
theorem hstep_len (hs : List Int) (p : Int × Int) : (hstep hs p).length = hs.length := by
  unfold hstep
  rw [List.length_map]
theorem hstep_sub {hs : List Int} {p : Int × Int} (hp : inR hs.length p) {k : Int} (h : k ∈ hstep hs p) : k ∈ hs := by
  unfold hstep at h
  obtain ⟨z, hz, ez⟩ := List.mem_map.mp h
  rw [← ez]
  split
  · exact mn_mem (ix_mem hp.1 hp.2.1) (ix_mem hp.2.2.1 hp.2.2.2)
  · exact hz
theorem hfold_ok {n : Int} : ∀ {ps : List (Int × Int)} {hs : List Int}, hs.length = n.toNat → (∀ k ∈ hs, 0 ≤ k ∧ k < n) → (∀ p ∈ ps, inR n.toNat p) → (ps.foldl hstep hs).length = n.toNat ∧ ∀ k ∈ ps.foldl hstep hs, 0 ≤ k ∧ k < n
  | [], hs, h1, h2, _ => ⟨h1, h2⟩
  | p :: r, hs, h1, h2, h3 => by
    have hp : inR hs.length p := by
      rw [h1]
      exact h3 p List.mem_cons_self
    exact hfold_ok (ps := r) (hs := hstep hs p) ((hstep_len hs p).trans h1) (fun k hk => h2 k (hstep_sub hp hk)) fun q hq => h3 q (List.mem_cons_of_mem _ hq)
theorem hfold_good {n : Int} {ps : List (Int × Int)} (h : ∀ p ∈ ps, inR n.toNat p) : (hfold n ps).length = n.toNat ∧ ∀ k ∈ hfold n ps, 0 ≤ k ∧ k < n :=
  hfold_ok (rn_len n) (fun _ hk => mem_rn.mp hk) h
theorem hfold_snoc (n : Int) (ps : List (Int × Int)) (p : Int × Int) : hfold n (ps ++ [p]) = hstep (hfold n ps) p := by
  unfold hfold
  rw [List.foldl_append]
  rfl
theorem firsts_sorted (n : Int) (hs : List Int) : (firstsL n hs).Pairwise (· < ·) := (rn_sorted n).filter _
theorem firsts_mem {n : Int} {hs : List Int} (h : ∀ k ∈ hs, 0 ≤ k ∧ k < n) (k : Int) : k ∈ firstsL n hs ↔ k ∈ hs := by
  unfold firstsL
  rw [List.mem_filter, decide_eq_true_eq]
  exact ⟨fun q => q.2, fun q => ⟨mem_rn.mpr (h k q), q⟩⟩
theorem sorted_unique {a b : List Int} (ha : a.Pairwise (· < ·)) (hb : b.Pairwise (· < ·)) (h : ∀ k, k ∈ a ↔ k ∈ b) : a = b := by
  have na : a.Nodup := ha.imp fun {x y} l e => by omega
  have nb : b.Nodup := hb.imp fun {x y} l e => by omega
  exact PySem.W.ksm_same ((List.perm_ext_iff_of_nodup na nb).mpr h) (ha.imp fun l => Int.le_of_lt l) (hb.imp fun l => Int.le_of_lt l)
/-! ### places in a rising list -/
theorem idx_lt {F : List Int} (hF : F.Pairwise (· < ·)) {x y : Int} (hx : x ∈ F) (hy : y ∈ F) (h : x < y) : F.idxOf x < F.idxOf y := by
  have lx := List.idxOf_lt_length_iff.mpr hx
  have ly := List.idxOf_lt_length_iff.mpr hy
  rcases Nat.lt_trichotomy (F.idxOf x) (F.idxOf y) with g | g | g
  · exact g
  · exfalso
    have e : F[F.idxOf x] = F[F.idxOf y] := by simp only [g]
    rw [List.getElem_idxOf, List.getElem_idxOf] at e
    omega
  · exfalso
    have l := List.pairwise_iff_getElem.mp hF _ _ ly lx g
    rw [List.getElem_idxOf, List.getElem_idxOf] at l
    omega
theorem idx_inj {F : List Int} (hF : F.Pairwise (· < ·)) {x y : Int} (hx : x ∈ F) (hy : y ∈ F) : (F.idxOf x = F.idxOf y ↔ x = y) ∧ (F.idxOf x < F.idxOf y ↔ x < y) := by
  rcases Int.lt_trichotomy x y with g | g | g
  · have a := idx_lt hF hx hy g
    omega
  · subst g
    omega
  · have a := idx_lt hF hy hx g
    omega
theorem idx_ne {a x : Int} {r : List Int} (h : a ≠ x) : (a :: r).idxOf x = r.idxOf x + 1 := by
  rw [List.idxOf_cons, beq_false_of_ne h]
  rfl
/-- without h, places behind it are one less -/
theorem idx_without : ∀ {F : List Int} (hF : F.Pairwise (· < ·)) {h x : Int}, h ∈ F → x ∈ F → x ≠ h → ((F.filter fun k => decide (k ≠ h)).idxOf x : Int) = if x < h then (F.idxOf x : Int) else (F.idxOf x : Int) - 1
  | [], _, _, _, hh, _, _ => by cases hh
  | a :: r, hF, h, x, hh, hx, hne => by
    have hr := (List.pairwise_cons.mp hF).2
    have ha := (List.pairwise_cons.mp hF).1
    by_cases e : a = h
    · subst e
      have hx' : x ∈ r := (List.mem_cons.mp hx).resolve_left hne
      have l := ha x hx'
      have ef : (List.filter (fun k => decide (k ≠ a)) (a :: r)) = r := by
        rw [List.filter_cons_of_neg (by simp)]
        refine List.filter_eq_self.mpr fun k hk => ?_
        have := ha k hk
        exact decide_eq_true (by omega)
      rw [ef, if_neg (by omega), idx_ne (show a ≠ x by omega)]
      omega
    · have hh' : h ∈ r := (List.mem_cons.mp hh).resolve_left fun z => e z.symm
      rw [List.filter_cons_of_pos (by simpa using e)]
      by_cases g : x = a
      · subst g
        have l := ha h hh'
        rw [if_pos l, List.idxOf_cons_self, List.idxOf_cons_self]
      · have hx' : x ∈ r := (List.mem_cons.mp hx).resolve_left g
        have ih := idx_without hr hh' hx' hne
        rw [idx_ne (fun z => g z.symm), idx_ne (fun z => g z.symm)]
        have e1 : ((List.idxOf x (List.filter (fun k => decide (k ≠ h)) r) + 1 : Nat) : Int) = (List.idxOf x (List.filter (fun k => decide (k ≠ h)) r) : Int) + 1 := by omega
        rw [e1, ih]
        split <;> omega
theorem len_without : ∀ {F : List Int} (hF : F.Pairwise (· < ·)) {h : Int}, h ∈ F → ((F.filter fun k => decide (k ≠ h)).length : Int) = (F.length : Int) - 1
  | [], _, _, hh => by cases hh
  | a :: r, hF, h, hh => by
    have hr := (List.pairwise_cons.mp hF).2
    have ha := (List.pairwise_cons.mp hF).1
    by_cases e : a = h
    · subst e
      have ef : (List.filter (fun k => decide (k ≠ a)) (a :: r)) = r := by
        rw [List.filter_cons_of_neg (by simp)]
        refine List.filter_eq_self.mpr fun k hk => ?_
        have := ha k hk
        exact decide_eq_true (by omega)
      rw [ef, List.length_cons]
      omega
    · have hh' : h ∈ r := (List.mem_cons.mp hh).resolve_left fun z => e z.symm
      rw [List.filter_cons_of_pos (by simpa using e), List.length_cons, List.length_cons]
      have ih := len_without hr hh'
      omega
/-! ### one pair more -/
def cnt (n : Int) (hs : List Int) : Int := ((firstsL n hs).length : Int)
theorem firsts_step {n : Int} {hs : List Int} (hg : ∀ k ∈ hs, 0 ≤ k ∧ k < n) {q : Int × Int} (hq : inR hs.length q) :
    firstsL n (hstep hs q) = if mn (ix hs q.1) (ix hs q.2) = mx (ix hs q.1) (ix hs q.2) then firstsL n hs else (firstsL n hs).filter fun k => decide (k ≠ mx (ix hs q.1) (ix hs q.2)) := by
  have ml : mn (ix hs q.1) (ix hs q.2) ∈ hs := mn_mem (ix_mem hq.1 hq.2.1) (ix_mem hq.2.2.1 hq.2.2.2)
  have hg2 : ∀ k ∈ hstep hs q, 0 ≤ k ∧ k < n := fun k hk => hg k (hstep_sub hq hk)
  split
  · rename_i e
    refine sorted_unique (firsts_sorted _ _) (firsts_sorted _ _) fun k => ?_
    rw [firsts_mem hg2, firsts_mem hg]
    refine ⟨fun h => hstep_sub hq h, fun h => ?_⟩
    refine List.mem_map.mpr ⟨k, h, ?_⟩
    by_cases c : k = mx (ix hs q.1) (ix hs q.2)
    · rw [if_pos c, e, c]
    · rw [if_neg c]
  · rename_i e
    refine sorted_unique (firsts_sorted _ _) ((firsts_sorted _ _).filter _) fun k => ?_
    rw [List.mem_filter, firsts_mem hg2, firsts_mem hg, decide_eq_true_eq]
    constructor
    · intro h
      refine ⟨hstep_sub hq h, fun c => ?_⟩
      obtain ⟨z, _, ez⟩ := List.mem_map.mp h
      by_cases d : z = mx (ix hs q.1) (ix hs q.2)
      · rw [if_pos d] at ez
        exact e (ez.trans c)
      · rw [if_neg d] at ez
        exact d (ez.trans c)
    · intro ⟨h, c⟩
      exact List.mem_map.mpr ⟨k, h, if_neg c⟩
end K6
set_option Elab.async false
set_option linter.all false
set_option maxRecDepth 100000
set_option maxHeartbeats 4000000
/-! The hand of draws. -/
namespace K6
open PySem L2 Rl
/-- all but the object at h is as it was -/
def Kp (h : Addr) (H H' : Hp) : Prop := ∀ b o, b ≠ h → H b = some o → H' b = some o
theorem Kp.refl (h : Addr) (H : Hp) : Kp h H H := fun _ _ _ e => e
theorem Kp.trans {h : Addr} {H H1 H2 : Hp} (a : Kp h H H1) (b : Kp h H1 H2) : Kp h H H2 := fun c o n e => b c o n (a c o n e)
theorem Same.kp {h : Addr} {H H' : Hp} (e : Same H H') : Kp h H H' := fun b o _ q => e b o q
theorem Kp.upd {h : Addr} {H H' : Hp} {o : HO} (k : Kp h H H') : Kp h H (upd H' h o) := fun b u n e => by
  rw [upd_ne n]
  exact k b u n e
theorem pos_of {c : Int} (h : 0 < c) : (0 : Int) < c := h
theorem m31 {x c : Int} (h0 : 0 < c) (h1 : c ≤ 2147483647) : -(2 ^ 64) < x % c ∧ x % c < 2 ^ 64 := by
  have a := Int.emod_nonneg x (show c ≠ 0 by omega)
  have b := Int.emod_lt_of_pos x h0
  omega
structure HandAt (H : Hp) (h c : Addr) : Prop where
  ex : ∃ (cs : List Int) (i b m n : Int), H h = some (.lst [.ref c, .int i, .int b, .int m, .int n]) ∧ H c = some (.lst (cs.map V.int)) ∧ c ≠ h ∧ 0 ≤ i ∧ 0 ≤ b ∧ ∀ z ∈ cs, 0 ≤ z
theorem HandAt.same {H H' : Hp} {h c : Addr} (e : Same H H') (a : HandAt H h c) : HandAt H' h c := by
  obtain ⟨cs, i, b, m, n, h1, h2, h3⟩ := a.ex
  exact ⟨cs, i, b, m, n, e _ _ h1, e _ _ h2, h3⟩
/-- what a hand is made of, a store later -/
theorem HandAt.of {H : Hp} {h c : Addr} {cs : List Int} {i b m n : Int} (h1 : H h = some (.lst [.ref c, .int i, .int b, .int m, .int n])) (h2 : H c = some (.lst (cs.map V.int))) (h3 : c ≠ h) (h4 : 0 ≤ i) (h5 : 0 ≤ b) (h6 : ∀ z ∈ cs, 0 ≤ z) : HandAt H h c :=
  ⟨cs, i, b, m, n, h1, h2, h3, h4, h5, h6⟩
def spDraw : Sp := fun vs H Q _ => ∃ (h c : Addr) (m : Int), vs = [.ref h, .int m] ∧ 0 < m ∧ m < 1073741824 ∧ HandAt H h c ∧
  ∀ d H', 0 ≤ d → d < m → Kp h H H' → HandAt H' h c → Q (.int d) H'
theorem at_in {ns : List Int} {k : Int} (h0 : 0 ≤ k) (h1 : k < ns.length) : ∃ z ∈ ns, atI (ns.map V.int) k = some (.int z) := by
  obtain ⟨n, rfl⟩ := Int.eq_ofNat_of_zero_le h0
  have hn : n < ns.length := by omega
  refine ⟨ns[n], List.getElem_mem hn, atI_nat ?_⟩
  rw [List.getElem?_map, List.getElem?_eq_getElem hn]
  rfl
section
variable {P : Program} {w : World} {K : PySem.W.Frag} {mg : Str → Option Value} {base : Heap}
theorem ok_l_draw (T : Tx K mg) : FnOk P w K mg base CX0 1 T.f_l_draw T.d_l_draw ["hand", "many"] spDraw := by
  refine T.F_l_draw.ok sc_l_draw (fun vs H Q E h => ?_) (fun cdv A outer s H vs Q E hr h => ?_)
  · obtain ⟨h, c, m, rfl, _⟩ := h
    rfl
  obtain ⟨h, c, many, rfl, m0, m1, ⟨cs, i, b, m, n, hh, hc, nch, i0, b0, z0⟩, q⟩ := h
  refine ⟨_, (Evl.pss_cut (ps_if (PW.pt (pw_and (pt_cmpR op_eq (pe_ix ix_list (pv 0) pe_int (fun _ _ => rfl)) pe_int (nomark _)) (pw_and1 (pt_cmpR op_lt (pe_ix ix_list (pv 0) pe_int (fun _ _ => rfl)) (pe_callB call_len_seq (by rfl) T.g_len PySem.boot_len (pa_cons (pe_ix ix_list (pv 0) pe_int (fun _ _ => rfl)) pa_nil)) (nomark _)))))
      (pss_cons (ps_set (i := 2) sc_l_draw.nd rfl (.inl rfl) (pe_ix ix_seq (pe_ix ix_list (pv 0) pe_int (fun _ _ => rfl)) (pe_ix ix_list (pv 0) pe_int (fun _ _ => rfl)) (fun _ _ => rfl)))
        (pss_cons (ps_asg (pe_op op_add (pe_ix ix_list (pv 0) pe_int (fun _ _ => rfl)) pe_int) (pg_sub (pv 0) pe_int set_list))
        (pss_cons (ps_asg (pe_op op_mod (pe_callTy call_int1 (by rfl) T.g_int (by decide +kernel) (pa_cons (pe_op op_add (pe_op op_add (pe_op op_mul (pe_ix ix_list (pv 0) pe_int (fun _ _ => rfl)) pe_int) (pv 2)) pe_int) pa_nil)) pe_int) (pg_sub (pv 0) pe_int set_list))
        (pss_one (ps_if (pt_cmpR op_ge (pv 2) (pe_op op_pow pe_int pe_int) (nomark _))
          (pss_one (ps_asg (pv 2) (pg_sub (pv 0) pe_int set_list)))
          pss_nil)))))
      pss_nil)
    (pss_cons (ps_if (pt_cmpR op_gt (pe_ix ix_list (pv 0) pe_int (fun _ _ => rfl)) pe_int (nomark _))
      (pss_cons (ps_set (i := 3) sc_l_draw.nd rfl (.inl rfl) (pe_op op_mod (pe_callTy call_int1 (by rfl) T.g_int (by decide +kernel) (pa_cons (pe_ix ix_list (pv 0) pe_int (fun _ _ => rfl)) pa_nil)) (pv 1)))
        (pss_cons (ps_asg (pe_op op_fdiv (pe_ix ix_list (pv 0) pe_int (fun _ _ => rfl)) (pv 1)) (pg_sub (pv 0) pe_int set_list))
        (pss_one (ps_ret (pv 3)))))
      pss_nil)
    (pss_cons (ps_asg (pe_op op_add (pe_ix ix_list (pv 0) pe_int (fun _ _ => rfl)) pe_int) (pg_sub (pv 0) pe_int set_list))
    (pss_cons (ps_set (i := 4) sc_l_draw.nd rfl (.inl rfl) (pe_op op_mod (pe_callTy call_int1 (by rfl) T.g_int (by decide +kernel) (pa_cons (pe_op op_mul (pe_callTy call_int1 (by rfl) T.g_int (by decide +kernel) (pa_cons (pe_op op_add (pe_ix ix_list (pv 0) pe_int (fun _ _ => rfl)) (pe_op op_mul pe_int (pe_ix ix_list (pv 0) pe_int (fun _ _ => rfl)))) pa_nil)) pe_int) pa_nil)) pe_int))
    (pss_cons (ps_set (i := 4) sc_l_draw.nd rfl (.inl rfl) (pe_op op_mod (pe_callTy call_int1 (by rfl) T.g_int (by decide +kernel) (pa_cons (pe_op op_mul (pv 4) (pe_op op_add (pe_op op_fdiv (pv 4) pe_int) pe_int)) pa_nil)) pe_int))
    (pss_cons (ps_set (i := 4) sc_l_draw.nd rfl (.inl rfl) (pe_op op_mod (pe_callTy call_int1 (by rfl) T.g_int (by decide +kernel) (pa_cons (pe_op op_mul (pv 4) (pe_op op_add (pe_op op_fdiv (pv 4) pe_int) pe_int)) pa_nil)) pe_int))
    (pss_one (ps_ret (pe_op op_mod (pe_callTy call_int1 (by rfl) T.g_int (by decide +kernel) (pa_cons (pe_op op_fdiv (pv 4) pe_int) pa_nil)) (pv 1)))))))))), ?_⟩
  refine ⟨fun σ' H' => ∃ y2, σ' = [some (.ref h), some (.int many), y2, none, none] ∧ Kp h H H' ∧ HandAt H' h c, ?_, ?_⟩
  · have a0 : HandAt H h c := .of hh hc nch i0 b0 z0
    refine ⟨_, rfl, h, _, 2, _, rfl, rfl, SqL.of hh, atI_nat (j := 2) rfl, rfl, _, rfl, ite2 (fun e => ?_) (fun e => ?_)⟩
    · refine ⟨_, rfl, h, _, 1, _, rfl, rfl, SqL.of hh, atI_nat (j := 1) rfl, _, rfl, h, _, 0, _, rfl, rfl, SqL.of hh, atI_nat (j := 0) rfl, c, _, rfl, .inl (SqL.of hc), i, _, rfl, rfl, _, rfl, ?_⟩
      refine ite2 (fun e2 => ?_) (fun e2 => ?_)
      · have lt : i < ((cs.length : Nat) : Int) := by
          have q1 := of_decide_eq_true e2
          rw [List.length_map] at q1
          exact q1
        obtain ⟨z, hz, hat⟩ := at_in i0 lt
        have zz := z0 z hz
        -- cell = ..
        refine ⟨_, rfl, h, _, 0, _, rfl, rfl, SqL.of hh, atI_nat (j := 0) rfl, _, rfl, h, _, 1, _, rfl, rfl, SqL.of hh, atI_nat (j := 1) rfl, .inl ⟨c, _, i, _, rfl, rfl, SqL.of hc, hat, ?_⟩⟩
        -- the next one's place
        refine ⟨_, rfl, h, _, 1, _, rfl, rfl, SqL.of hh, atI_nat (j := 1) rfl, i, 1, rfl, rfl, _, rfl, h, _, 1, 1, rfl, rfl, hh, rfl, ?_⟩
        -- the mix
        refine ⟨_, rfl, h, _, 3, _, rfl, rfl, SqL.of upd_same, atI_nat (j := 3) rfl, m, 48271, rfl, rfl, .inr ⟨by decide, by decide⟩, _, rfl, _, z, rfl, rfl, _, 29, rfl, rfl, .inl ⟨_, rfl, _, 2147483647, rfl, rfl, pos_of (by decide), ?_⟩⟩
        refine ⟨_, rfl, h, _, 3, 3, rfl, rfl, upd_same, rfl, ?_⟩
        -- a great cell
        refine ⟨_, rfl, 10, 18, rfl, rfl, ⟨by decide, by decide, by decide⟩, z, _, rfl, rfl, _, rfl, ite2 (fun e3 => ?_) (fun e3 => ?_)⟩
        · refine ⟨_, rfl, _, rfl, h, _, 2, 2, rfl, rfl, upd_same, rfl, ?_⟩
          refine ⟨_, rfl, (((Kp.refl h H).upd).upd).upd, .of upd_same ?_ nch ?_ zz z0⟩
          · rw [upd_ne nch, upd_ne nch, upd_ne nch]
            exact hc
          · omega
        · refine ⟨_, rfl, ((Kp.refl h H).upd).upd, .of upd_same ?_ nch ?_ b0 z0⟩
          · rw [upd_ne nch, upd_ne nch]
            exact hc
          · omega
      · exact ⟨_, rfl, Kp.refl h H, a0⟩
    · refine iteF ?_
      exact ⟨_, rfl, Kp.refl h H, a0⟩
  · intro σ' H1 ⟨y2, e, k1, a1⟩
    subst e
    clear hh hc nch i0 b0 z0
    obtain ⟨cs, i, b, m, n, hh, hc, nch, i0, b0, z0⟩ := a1
    refine ⟨_, rfl, h, _, 2, _, rfl, rfl, SqL.of hh, atI_nat (j := 2) rfl, b, 0, rfl, rfl, _, rfl, ite2 (fun e => ?_) (fun e => ?_)⟩
    · refine ⟨_, rfl, h, _, 2, _, rfl, rfl, SqL.of hh, atI_nat (j := 2) rfl, .inl ⟨b, rfl, _, rfl, b, many, rfl, rfl, m0, ?_⟩⟩
      refine ⟨_, rfl, h, _, 2, _, rfl, rfl, SqL.of hh, atI_nat (j := 2) rfl, _, rfl, b, many, rfl, rfl, ⟨m0, m1⟩, _, rfl, h, _, 2, 2, rfl, rfl, hh, rfl, ?_⟩
      refine ⟨_, rfl, q (b % many) _ (Int.emod_nonneg _ (by omega)) (Int.emod_lt_of_pos _ m0) k1.upd (.of upd_same ?_ nch i0 (Int.ediv_nonneg b0 (by omega)) z0)⟩
      rw [upd_ne nch]
      exact hc
    · refine ⟨_, rfl, h, _, 4, _, rfl, rfl, SqL.of hh, atI_nat (j := 4) rfl, n, 1, rfl, rfl, _, rfl, h, _, 4, 4, rfl, rfl, hh, rfl, ?_⟩
      have k2 := k1.upd (o := .lst [.ref c, .int i, .int b, .int m, .int (n + 1)])
      have a2 : HandAt (upd H1 h (.lst [.ref c, .int i, .int b, .int m, .int (n + 1)])) h c := .of upd_same (by rw [upd_ne nch]; exact hc) nch i0 b0 z0
      refine ⟨_, rfl, h, _, 3, _, rfl, rfl, SqL.of upd_same, atI_nat (j := 3) rfl, _, rfl, h, _, 4, _, rfl, rfl, SqL.of upd_same, atI_nat (j := 4) rfl, 6151, n + 1, rfl, rfl, .inl ⟨by decide, by decide⟩, m, _, rfl, rfl,
        .inl ⟨_, rfl, _, 40692, rfl, rfl, .inr ⟨by decide, by decide⟩, .inl ⟨_, rfl, _, 2147483399, rfl, rfl, pos_of (by decide), ?_⟩⟩⟩
      refine ⟨_, rfl, _, rfl, _, 1223, rfl, rfl, ⟨by decide, by decide⟩, _, 52027, rfl, rfl, _, _, rfl, rfl, .inl (m31 (by decide) (by decide)), .inl ⟨_, rfl, _, 2147483629, rfl, rfl, pos_of (by decide), ?_⟩⟩
      refine ⟨_, rfl, _, rfl, _, 2671, rfl, rfl, ⟨by decide, by decide⟩, _, 69621, rfl, rfl, _, _, rfl, rfl, .inl (m31 (by decide) (by decide)), .inl ⟨_, rfl, _, 2147483647, rfl, rfl, pos_of (by decide), ?_⟩⟩
      refine ⟨_, rfl, _, 32, rfl, rfl, ⟨by decide, by decide⟩, .inl ⟨_, rfl, _, rfl, _, many, rfl, rfl, m0, ?_⟩⟩
      exact q _ _ (Int.emod_nonneg _ (by omega)) (Int.emod_lt_of_pos _ m0) k2 a2
/-! ### the hand, one of some -/
def spSome (K : PySem.W.Frag) : Sp := fun vs H Q _ => ∃ (h c a : Addr) (xs : List V), vs = [.ref h, .ref a] ∧ SqL K H a xs ∧ a ≠ h ∧ 0 < xs.length ∧ xs.length < 1000000 ∧ HandAt H h c ∧
  ∀ v H', v ∈ xs → Kp h H H' → HandAt H' h c → Q v H'
theorem Kp.seqL {h : Addr} {H H' : Hp} {a : Addr} {xs : List V} (k : Kp h H H') (n : a ≠ h) (e : SqL K H a xs) : SqL K H' a xs := by
  rcases e with (e | ⟨o, e⟩) | e
  · exact .inl (.inl (k _ _ n e))
  · exact .inl (.inr ⟨o, k _ _ n e⟩)
  · exact .inr e
theorem ok_l_some (T : Tx K mg) : FnOk P w K mg base CX0 2 T.f_l_some T.d_l_some ["hand", "things"] (spSome K) := by
  refine T.F_l_some.ok sc_l_some (fun vs H Q E h => ?_) (fun cdv A outer s H vs Q E hr h => ?_)
  · obtain ⟨h, c, a, xs, rfl, _⟩ := h
    rfl
  obtain ⟨h, c, a, xs, rfl, ha, nah, l0, l1, hd, q⟩ := h
  refine ⟨_, (pss_one (ps_ret (pe_ix ix_list (pv 1) (pe_call (ok_l_draw T) (hr.mono (by decide)) (by rfl) T.m_l_draw T.F_l_draw.kp T.b_l_draw .nil pass0 (pa_cons (pv 0) (pa_cons (pe_callB call_len_seq (by rfl) T.g_len PySem.boot_len (pa_cons (pv 1) pa_nil)) pa_nil))) (fun _ _ => rfl)))), ?_⟩
  refine ⟨_, rfl, _, rfl, _, rfl, a, xs, rfl, .inl ha, h, c, _, rfl, by omega, by omega, hd, fun d H' d0 d1 k hd' => ?_⟩
  obtain ⟨j, rfl⟩ := Int.eq_ofNat_of_zero_le d0
  have lj : j < xs.length := by omega
  refine ⟨a, xs, _, _, rfl, rfl, k.seqL nah ha, atI_nat (List.getElem?_eq_getElem lj), ?_⟩
  exact q _ _ (List.getElem_mem lj) k hd'
def ab (i : Int) : Int := if i < 0 then -i else i
def spHand (K : PySem.W.Frag) : Sp := fun vs H Q _ => ∃ (a : Addr) (ns : List Int), vs = [.ref a] ∧ SqL K H a (ns.map V.int) ∧ ns.length ≤ 63 ∧ ∀ h c H', H h = none → H c = none → Same H H' → HandAt H' h c → Q (.ref h) H'
theorem ok_l_hand (T : Tx K mg) : FnOk P w K mg base CX0 1 T.f_l_hand T.d_l_hand ["script"] (spHand K) := by
  refine T.F_l_hand.ok sc_l_hand (fun vs H Q E h => ?_) (fun cdv A outer s H vs Q E hr h => ?_)
  · obtain ⟨a, ns, rfl, _⟩ := h
    rfl
  obtain ⟨a, ns, rfl, ha, hl, q⟩ := h
  refine ⟨_, (pss_cons (ps_setLc (i := 1) (own := [("cell", 2)]) (g := (gName 2)) (tt := tYes) (te := (tCB _ (tCons (tCB _ (tCons (tVar 2) tNil)) tNil))) rfl sc_l_hand.nd rfl rfl (sw_true rfl rfl rfl (by decide +kernel)) (pi_list (pe_slice sl_list (pv 0) po_none (po_some pe_int))) (blkOk_by (own := [("cell", 2)]) (N := N_l_hand) (sc := defScope s_l_hand) (by decide +kernel)) (fun _ _ _ _ _ => (pg_name (i := 2) sc_l_hand.nd rfl (.inl rfl))) (fun _ _ _ _ _ => pts_nil) (fun _ _ _ _ _ => (pe_callB call_abs (by rfl) T.g_abs (by decide +kernel) (pa_cons (pe_callTy call_int1 (by rfl) T.g_int (by decide +kernel) (pa_cons (pv 2) pa_nil)) pa_nil))))
    (pss_one (ps_ret (pe_lst (pa_cons (pv 1) (pa_cons pe_int (pa_cons pe_int (pa_cons (pe_op op_add pe_int (pe_callB call_len_seq (by rfl) T.g_len PySem.boot_len (pa_cons (pv 1) pa_nil))) (pa_cons pe_int pa_nil))))))))), ?_⟩
  refine ⟨_, rfl, 63, rfl, a, _, rfl, ha, fun p np => ?_⟩
  have s1 : Same H (upd H p (.lst (cutV (ns.map V.int) none (some 63)))) := same_new np _
  have hp : (upd H p (.lst (cutV (ns.map V.int) none (some 63)))) p = some (.lst (ns.map V.int)) := by
    rw [upd_same, cut_hi _ _ (by decide), List.take_of_length_le (by rw [List.length_map]; exact hl)]
  refine ⟨p, rfl, ⟨_, SqL.of hp⟩, fun D nD => lc_list (xs := ns.map V.int) (fun i H' => Same H H' ∧ H' p = some (.lst (ns.map V.int)) ∧ H' D = some (.lst (((ns.take i).map ab).map V.int))) ?_ (fun i H' _ ⟨_, hp', _⟩ => SqL.of hp') ?_ ?_⟩
  · exact ⟨s1.trans (same_new nD _), same_new nD _ _ _ hp, upd_same⟩
  · intro i y H' hi ⟨sm, hp', hD⟩
    have li : i < ns.length := by
      have q1 := (List.getElem?_eq_some_iff.mp hi).1
      rw [List.length_map] at q1
      exact q1
    have ey : y = .int ns[i] := by
      rw [List.getElem?_map, List.getElem?_eq_getElem li] at hi
      exact (Option.some.inj hi).symm
    subst ey
    refine ⟨rfl, ?_⟩
    refine ⟨_, rfl, .inl ⟨_, rfl, _, rfl, _, hD, small1000 ?_, fun b o hb => ?_, ?_, ?_⟩⟩
    · rw [List.length_map, List.length_map, List.length_take]
      omega
    · rw [upd_ne (ne_of_none hb (s1.free nD))]
      exact sm _ _ hb
    · rw [upd_ne (ne_of_none hp nD)]
      exact hp'
    · rw [upd_same, List.take_add_one, List.getElem?_eq_getElem li, List.map_append, List.map_append]
      rfl
  · intro H' ⟨sm, hp', hD⟩
    rw [List.length_map, List.take_of_length_le (Nat.le_refl _)] at hD
    have nDn : H D = none := s1.free nD
    refine ⟨_, rfl, _, rfl, D, _, rfl, .inl (SqL.of hD), 19, _, rfl, rfl, (by show 5 ≤ sizeLine; decide), fun h nh => ?_⟩
    have nDh : D ≠ h := ne_of_none hD nh
    refine q h D _ (sm.free nh) nDn (sm.trans (same_new nh _)) (.of (c := D) (cs := ns.map ab) upd_same (by rw [upd_ne nDh]; exact hD) nDh (by decide) (by decide) fun z hz => ?_)
    obtain ⟨y, _, ez⟩ := List.mem_map.mp hz
    rw [← ez]
    unfold ab
    split <;> omega
end
end K6
set_option Elab.async false
set_option linter.all false
set_option maxRecDepth 100000
set_option maxHeartbeats 4000000
/-! Heads, and what hangs together. -/
namespace K6
open PySem L2 Rl
def lb (u v z : Int) : Int := if z = v then u else z
def lb2 (u v a b z : Int) : Int := if lb u v z = mx (lb u v a) (lb u v b) then mn (lb u v a) (lb u v b) else lb u v z
theorem lb2_swap {u v a b : Int} (h1 : u ≤ v) (h2 : a ≤ b) (z : Int) : lb2 u v a b z = lb2 a b u v z := by
  unfold lb2 lb mn mx
  by_cases c1 : z = v <;> by_cases c2 : z = b <;> by_cases c3 : a = v <;> by_cases c4 : b = v <;> by_cases c5 : u = b <;>
    simp only [c1, c2, c3, c4, c5, if_true, if_false] <;> (repeat' split) <;> omega
theorem erase_map {α β : Type} (f : α → β) : ∀ (l : List α) (k : Nat), (l.map f).eraseIdx k = (l.eraseIdx k).map f
  | [], _ => rfl
  | _ :: _, 0 => rfl
  | a :: r, k + 1 => by
    show f a :: (r.map f).eraseIdx k = f a :: (r.eraseIdx k).map f
    rw [erase_map f r k]
def gt (ps : List (Int × Int)) (k : Nat) : Int × Int := ps.getD k (0, 0)
theorem lb2_mn {u v a b z : Int} : lb2 u v (mn a b) (mx a b) z = lb2 u v a b z := by
  have e : mn (lb u v (mn a b)) (lb u v (mx a b)) = mn (lb u v a) (lb u v b) ∧ mx (lb u v (mn a b)) (lb u v (mx a b)) = mx (lb u v a) (lb u v b) := by
    unfold lb mn mx
    by_cases c : b < a
    · rw [if_pos c, if_neg (show ¬ b > a by omega)]
      repeat' split
      all_goals omega
    · rw [if_neg c]
      by_cases d : b > a
      · rw [if_pos d]
        exact ⟨rfl, rfl⟩
      · have e : a = b := by omega
        rw [if_neg d, e]
        exact ⟨rfl, rfl⟩
  unfold lb2
  rw [e.1, e.2]
theorem hstep_lb (hs : List Int) (p : Int × Int) : hstep hs p = hs.map (lb (mn (ix hs p.1) (ix hs p.2)) (mx (ix hs p.1) (ix hs p.2))) := rfl
theorem hstep_two {hs : List Int} {p q : Int × Int} (hq : inR hs.length q) :
    hstep (hstep hs p) q = hs.map (lb2 (mn (ix hs p.1) (ix hs p.2)) (mx (ix hs p.1) (ix hs p.2)) (mn (ix hs q.1) (ix hs q.2)) (mx (ix hs q.1) (ix hs q.2))) := by
  have e : ∀ z, lb2 (mn (ix hs p.1) (ix hs p.2)) (mx (ix hs p.1) (ix hs p.2)) (mn (ix hs q.1) (ix hs q.2)) (mx (ix hs q.1) (ix hs q.2)) z = lb2 (mn (ix hs p.1) (ix hs p.2)) (mx (ix hs p.1) (ix hs p.2)) (ix hs q.1) (ix hs q.2) z := fun z => lb2_mn
  rw [List.map_congr_left fun z _ => e z, hstep_lb hs p]
  unfold hstep
  rw [ix_map _ hq.1 hq.2.1, ix_map _ hq.2.2.1 hq.2.2.2, List.map_map]
  rfl
theorem hstep_comm {hs : List Int} {p q : Int × Int} (hp : inR hs.length p) (hq : inR hs.length q) : hstep (hstep hs p) q = hstep (hstep hs q) p := by
  rw [hstep_two hq, hstep_two hp]
  exact List.map_congr_left fun z _ => lb2_swap (mn_le _ _) (mn_le _ _) z
theorem fold_mid : ∀ {B : List (Int × Int)} {hs : List Int} {r : Int × Int}, inR hs.length r → (∀ q ∈ B, inR hs.length q) → B.foldl hstep (hstep hs r) = hstep (B.foldl hstep hs) r
  | [], _, _, _, _ => rfl
  | b :: B, hs, r, hr, hB => by
    have hb := hB b List.mem_cons_self
    show B.foldl hstep (hstep (hstep hs r) b) = hstep (B.foldl hstep (hstep hs b)) r
    rw [hstep_comm hr hb]
    refine fold_mid (by rw [hstep_len]; exact hr) fun q hq => ?_
    rw [hstep_len]
    exact hB q (List.mem_cons_of_mem _ hq)
theorem split_at {α : Type} : ∀ {l : List α} {k : Nat} {r : α}, l[k]? = some r → ∃ A B, l = A ++ r :: B ∧ l.eraseIdx k = A ++ B
  | [], _, _, h => nomatch h
  | a :: l, 0, r, h => by
    have e : a = r := Option.some.inj h
    rw [e]
    exact ⟨[], l, rfl, rfl⟩
  | a :: l, k + 1, r, h => by
    obtain ⟨A, B, e1, e2⟩ := split_at (l := l) (k := k) (r := r) h
    refine ⟨a :: A, B, ?_, ?_⟩
    · rw [e1]
      rfl
    · show a :: l.eraseIdx k = _
      rw [e2]
      rfl
/-- a tie more, wherever it stands -/
theorem hfold_erase {n : Int} {ps : List (Int × Int)} {k : Nat} {r : Int × Int} (hk : ps[k]? = some r) (h : ∀ p ∈ ps, inR n.toNat p) : hfold n ps = hstep (hfold n (ps.eraseIdx k)) r := by
  obtain ⟨A, B, e1, e2⟩ := split_at hk
  rw [e2]
  subst e1
  have gA := hfold_good (n := n) (ps := A) fun p hp => h p (List.mem_append.mpr (.inl hp))
  unfold hfold at gA ⊢
  rw [List.foldl_append, List.foldl_append]
  show B.foldl hstep (hstep (A.foldl hstep (rn n)) r) = _
  refine fold_mid ?_ fun q hq => ?_
  · rw [gA.1]
    exact h r (List.mem_append.mpr (.inr List.mem_cons_self))
  · rw [gA.1]
    exact h q (List.mem_append.mpr (.inr (List.mem_cons_of_mem _ hq)))
theorem two_cut {a b x y : Int} : (if x = mx a b then mn a b else x) = (if y = mx a b then mn a b else y) ↔ x = y ∨ ((x = a ∨ x = b) ∧ (y = a ∨ y = b)) := by
  unfold mn mx
  repeat' split
  all_goals omega
theorem conn_more {ps : List (Int × Int)} {L : List Nat} {k : Nat} {r : Int × Int} (hk : ps[k]? = some r) {p q : Int} :
    Gx.Conn ps (· ∈ L ++ [k]) p q ↔ Gx.Conn ps (· ∈ L) p q ∨ ((Gx.Conn ps (· ∈ L) p r.1 ∨ Gx.Conn ps (· ∈ L) p r.2) ∧ (Gx.Conn ps (· ∈ L) q r.1 ∨ Gx.Conn ps (· ∈ L) q r.2)) := by
  constructor
  · intro h
    induction h with
    | refl => exact .inl (.refl _)
    | @step x y j h1 hj ha ih =>
      rcases List.mem_append.mp hj with m | m
      · have c1 : Gx.Conn ps (· ∈ L) x y := Gx.Conn.one (A := (· ∈ L)) m ha
        rcases ih with ih | ⟨i1, i2⟩
        · exact .inl (ih.trans c1)
        · exact .inr ⟨i1, i2.imp (fun z => c1.symm.trans z) (fun z => c1.symm.trans z)⟩
      · have e := List.mem_singleton.mp m
        subst e
        obtain ⟨r', e', c⟩ := ha
        rw [hk] at e'
        cases e'
        have yy : Gx.Conn ps (· ∈ L) y r.1 ∨ Gx.Conn ps (· ∈ L) y r.2 := by
          rcases c with c | c
          · rw [c.2]
            exact .inr (.refl _)
          · rw [c.1]
            exact .inl (.refl _)
        refine .inr ⟨?_, yy⟩
        rcases ih with ih | ⟨i1, i2⟩
        · rcases c with c | c
          · rw [c.1]
            exact .inl ih
          · rw [c.2]
            exact .inr ih
        · exact i1
  · have mo : ∀ {a b : Int}, Gx.Conn ps (· ∈ L) a b → Gx.Conn ps (· ∈ L ++ [k]) a b := fun h => h.mono fun j hj => List.mem_append.mpr (.inl hj)
    have c12 : Gx.Conn ps (· ∈ L ++ [k]) r.1 r.2 := Gx.Conn.one (A := (· ∈ L ++ [k])) (List.mem_append.mpr (.inr List.mem_cons_self)) ⟨r, hk, .inl ⟨rfl, rfl⟩⟩
    rintro (h | ⟨h1 | h1, h2 | h2⟩)
    · exact mo h
    · exact (mo h1).trans (mo h2).symm
    · exact ((mo h1).trans c12).trans (mo h2).symm
    · exact ((mo h1).trans c12.symm).trans (mo h2).symm
    · exact (mo h1).trans (mo h2).symm
theorem heads_step {n : Int} {ps : List (Int × Int)} (hr : ∀ p ∈ ps, inR n.toNat p) {L : List Nat} {k : Nat} {r : Int × Int} (hk : ps[k]? = some r) {hs : List Int} (hl : hs.length = n.toNat)
    (ih : ∀ p q, 0 ≤ p → p < n → 0 ≤ q → q < n → (ix hs p = ix hs q ↔ Gx.Conn ps (· ∈ L) p q)) : ∀ p q, 0 ≤ p → p < n → 0 ≤ q → q < n → (ix (hstep hs r) p = ix (hstep hs r) q ↔ Gx.Conn ps (· ∈ L ++ [k]) p q) := by
  intro p q p0 p1 q0 q1
  have rr := hr r (List.mem_of_getElem? hk)
  unfold inR at rr
  unfold hstep
  rw [ix_map _ p0 (by omega), ix_map _ q0 (by omega), conn_more hk, two_cut, ih p q p0 p1 q0 q1, ih p r.1 p0 p1 (by omega) (by omega), ih p r.2 p0 p1 (by omega) (by omega), ih q r.1 q0 q1 (by omega) (by omega), ih q r.2 q0 q1 (by omega) (by omega)]
theorem conn_nil {ps : List (Int × Int)} {p q : Int} (h : Gx.Conn ps (· ∈ ([] : List Nat)) p q) : p = q := by
  induction h with
  | refl => rfl
  | step _ a _ _ => cases a
theorem heads_conn {n : Int} {ps : List (Int × Int)} (hr : ∀ p ∈ ps, inR n.toNat p) {L : List Nat} (hL : ∀ k ∈ L, k < ps.length) :
    ∀ p q, 0 ≤ p → p < n → 0 ≤ q → q < n → (ix (hfold n (L.map (gt ps))) p = ix (hfold n (L.map (gt ps))) q ↔ Gx.Conn ps (· ∈ L) p q) := by
  have key : ∀ i, i ≤ L.length → ∀ p q, 0 ≤ p → p < n → 0 ≤ q → q < n → (ix (hfold n ((L.take i).map (gt ps))) p = ix (hfold n ((L.take i).map (gt ps))) q ↔ Gx.Conn ps (· ∈ L.take i) p q) := by
    intro i
    induction i with
    | zero =>
      intro _ p q p0 p1 q0 q1
      rw [List.take_zero]
      show ix (rn n) p = ix (rn n) q ↔ _
      rw [ix_rn p0 p1, ix_rn q0 q1]
      exact ⟨fun e => by rw [e]; exact .refl _, conn_nil⟩
    | succ i ih =>
      intro hi
      have li : i < L.length := hi
      have lk := hL _ (List.getElem_mem li)
      have hk : ps[L[i]]? = some (gt ps L[i]) := by
        unfold gt
        rw [List.getD_eq_getElem?_getD, List.getElem?_eq_getElem lk]
        rfl
      have et : L.take (i + 1) = L.take i ++ [L[i]] := by
        rw [List.take_add_one, List.getElem?_eq_getElem li]
        rfl
      have good := hfold_good (n := n) (ps := (L.take i).map (gt ps)) fun p hp => by
        obtain ⟨k, hk1, e⟩ := List.mem_map.mp hp
        rw [← e]
        exact hr _ (getD_mem (hL k (List.mem_of_mem_take hk1)))
      rw [et, List.map_append]
      show ∀ p q, 0 ≤ p → p < n → 0 ≤ q → q < n → (ix (hfold n ((L.take i).map (gt ps) ++ [gt ps L[i]])) p = ix (hfold n ((L.take i).map (gt ps) ++ [gt ps L[i]])) q ↔ _)
      rw [hfold_snoc]
      exact heads_step hr hk good.1 (ih (by omega))
  have z := key L.length (Nat.le_refl _)
  rw [List.take_of_length_le (Nat.le_refl _)] at z
  exact z
theorem rng_map (ps : List (Int × Int)) : (List.range ps.length).map (gt ps) = ps := by
  refine List.ext_getElem (by rw [List.length_map, List.length_range]) fun i h1 h2 => ?_
  rw [List.getElem_map, List.getElem_range]
  unfold gt
  rw [List.getD_eq_getElem?_getD, List.getElem?_eq_getElem h2]
  rfl
theorem mem_rng_erase {m t k : Nat} : k ∈ (List.range m).eraseIdx t ↔ k < m ∧ k ≠ t := by
  rw [List.mem_eraseIdx_iff_getElem?]
  constructor
  · rintro ⟨i, ne, e⟩
    have li : i < m := by
      have q := (List.getElem?_eq_some_iff.mp e).1
      rw [List.length_range] at q
      exact q
    rw [List.getElem?_range li] at e
    have e' : i = k := Option.some.inj e
    omega
  · intro ⟨h1, h2⟩
    exact ⟨k, h2, List.getElem?_range h1⟩
theorem conn_in {ps : List (Int × Int)} {t : Nat} {p q : Int} (h : Gx.Conn ps (· ≠ t) p q) : Gx.Conn ps (· ∈ (List.range ps.length).eraseIdx t) p q := by
  induction h with
  | refl => exact .refl _
  | step _ hk ha ih =>
    obtain ⟨r, e, _⟩ := id ha
    exact .step ih (mem_rng_erase.mpr ⟨(List.getElem?_eq_some_iff.mp e).1, hk⟩) ha
theorem rnd_heads {n : Int} {ps : List (Int × Int)} (hr : ∀ p ∈ ps, inR n.toNat p) {t : Nat} {r : Int × Int} (ht : ps[t]? = some r) :
    ix (hfold n (ps.eraseIdx t)) r.1 = ix (hfold n (ps.eraseIdx t)) r.2 ↔ Gx.Rnd ps t := by
  have rr := hr r (List.mem_of_getElem? ht)
  unfold inR at rr
  have z := heads_conn (n := n) hr (L := (List.range ps.length).eraseIdx t) (fun k hk => (mem_rng_erase.mp hk).1) r.1 r.2 rr.1 (by omega) (by omega) (by omega)
  rw [← erase_map, rng_map] at z
  rw [z]
  constructor
  · intro h
    exact ⟨r, ht, h.mono fun k hk => (mem_rng_erase.mp hk).2⟩
  · rintro ⟨r', e, h⟩
    rw [ht] at e
    cases e
    exact conn_in h
/-- just without a bridge there is a part more -/
theorem bridge_count {n : Int} {ps : List (Int × Int)} (hr : ∀ p ∈ ps, inR n.toNat p) {t : Nat} (lt : t < ps.length) :
    (firstsL n (hfold n ps)).length < (firstsL n (hfold n (ps.eraseIdx t))).length ↔ ¬ Gx.Rnd ps t := by
  have ht := List.getElem?_eq_getElem lt
  have rr := hr _ (List.getElem_mem lt)
  have g := hfold_good (n := n) (ps := ps.eraseIdx t) fun p hp => hr p (List.mem_of_mem_eraseIdx hp)
  have rr' : inR (hfold n (ps.eraseIdx t)).length ps[t] := by rw [g.1]; exact rr
  rw [hfold_erase ht hr, ← rnd_heads hr ht, firsts_step g.2 rr']
  have em : ∀ a b : Int, mn a b = mx a b ↔ a = b := fun a b => by
    unfold mn mx
    split <;> split <;> omega
  split
  · rename_i e
    have e' := (em _ _).mp e
    exact ⟨fun h => absurd h (Nat.lt_irrefl _), fun h => absurd e' h⟩
  · rename_i e
    have m := (firsts_mem g.2 _).mpr (mx_mem (ix_mem rr'.1 rr'.2.1) (ix_mem rr'.2.2.1 rr'.2.2.2))
    have l := len_without (firsts_sorted n (hfold n (ps.eraseIdx t))) m
    have e' : ¬ ix (hfold n (ps.eraseIdx t)) (ps[t]).1 = ix (hfold n (ps.eraseIdx t)) (ps[t]).2 := fun z => e ((em _ _).mpr z)
    exact ⟨fun _ => e', fun _ => by omega⟩
end K6
set_option Elab.async false
set_option linter.all false
set_option maxRecDepth 100000
set_option maxHeartbeats 4000000
/-! Rings gone through: the mathematics. -/
namespace K6
open PySem L2 Rl
abbrev Wk := Int × List Nat × List Int
def toQ (ps : List (Int × Int)) (p : Int) (k : Nat) : Int := (gt ps k).1 + (gt ps k).2 - p
def kidP (ps : List (Int × Int)) (p : Int) (M : List Int) (k : Nat) : Bool := (decide (p = (gt ps k).1) || decide (p = (gt ps k).2)) && !decide (toQ ps p k ∈ M)
def kidsTo (ps : List (Int × Int)) (f : Nat) (w : Wk) (j : Nat) : List Wk :=
  ((List.range j).filter fun k => decide (f < k) && kidP ps w.1 w.2.2 k).map fun k => (toQ ps w.1 k, w.2.1 ++ [k], w.2.2 ++ [toQ ps w.1 k])
def avP (ps : List (Int × Int)) (f : Nat) (M : List Int) (k : Nat) : Bool := decide (f < k) && (!decide ((gt ps k).1 ∈ M) && !decide ((gt ps k).2 ∈ M))
def av (ps : List (Int × Int)) (f : Nat) (M : List Int) : Nat := ((List.range ps.length).filter (avP ps f M.dropLast)).length
def wt (ps : List (Int × Int)) (f : Nat) (w : Wk) : Nat := 2 ^ av ps f w.2.2
def wts (ps : List (Int × Int)) (f : Nat) : List Wk → Nat
  | [] => 0
  | w :: r => wt ps f w + wts ps f r
theorem wts_app (ps : List (Int × Int)) (f : Nat) : ∀ (a b : List Wk), wts ps f (a ++ b) = wts ps f a + wts ps f b
  | [], b => (Nat.zero_add _).symm
  | w :: a, b => by
    have ih := wts_app ps f a b
    show wt ps f w + wts ps f (a ++ b) = wt ps f w + wts ps f a + wts ps f b
    omega
theorem wts_len (ps : List (Int × Int)) (f : Nat) : ∀ (a : List Wk), a.length ≤ wts ps f a
  | [] => Nat.le_refl _
  | w :: a => by
    have ih := wts_len ps f a
    have p : 0 < wt ps f w := Nat.two_pow_pos _
    show a.length + 1 ≤ wt ps f w + wts ps f a
    omega
theorem at_iff {ps : List (Int × Int)} {k : Nat} (hk : k < ps.length) {p q : Int} : Gx.At ps k p q ↔ (p = (gt ps k).1 ∨ p = (gt ps k).2) ∧ q = toQ ps p k := by
  have e : ps[k]? = some (gt ps k) := by
    unfold gt
    rw [List.getD_eq_getElem?_getD, List.getElem?_eq_getElem hk]
    rfl
  unfold Gx.At toQ
  constructor
  · rintro ⟨r, er, c⟩
    rw [e] at er
    cases er
    omega
  · intro ⟨c, d⟩
    exact ⟨_, e, by omega⟩
/-- a walk from the first tie on -/
def Walk (ps : List (Int × Int)) (f : Nat) (b : Int) (w : Wk) : Prop := ∃ s, Gx.Pth ps (f < ·) b s w.1 ∧ w.2.1 = f :: Gx.ti s ∧ w.2.2 = b :: Gx.pl s ∧ (b :: Gx.pl s).Nodup ∧ w.2.1.length + av ps f w.2.2 ≤ ps.length + 1
theorem mem_kids {ps : List (Int × Int)} {f : Nat} {w z : Wk} {j : Nat} : z ∈ kidsTo ps f w j ↔ ∃ k, k < j ∧ f < k ∧ kidP ps w.1 w.2.2 k = true ∧ z = (toQ ps w.1 k, w.2.1 ++ [k], w.2.2 ++ [toQ ps w.1 k]) := by
  unfold kidsTo
  rw [List.mem_map]
  constructor
  · rintro ⟨k, hk, e⟩
    obtain ⟨h1, h2⟩ := List.mem_filter.mp hk
    obtain ⟨h3, h4⟩ := Bool.and_eq_true_iff.mp h2
    exact ⟨k, List.mem_range.mp h1, of_decide_eq_true h3, h4, e.symm⟩
  · rintro ⟨k, h1, h2, h3, e⟩
    exact ⟨k, List.mem_filter.mpr ⟨List.mem_range.mpr h1, Bool.and_eq_true_iff.mpr ⟨decide_eq_true h2, h3⟩⟩, e.symm⟩
theorem kidP_iff {ps : List (Int × Int)} {p : Int} {M : List Int} {k : Nat} : kidP ps p M k = true ↔ (p = (gt ps k).1 ∨ p = (gt ps k).2) ∧ toQ ps p k ∉ M := by
  unfold kidP
  rw [Bool.and_eq_true, Bool.or_eq_true, decide_eq_true_eq, decide_eq_true_eq, Bool.not_eq_true', decide_eq_false_iff_not]
theorem avP_iff {ps : List (Int × Int)} {f : Nat} {M : List Int} {k : Nat} : avP ps f M k = true ↔ f < k ∧ (gt ps k).1 ∉ M ∧ (gt ps k).2 ∉ M := by
  unfold avP
  rw [Bool.and_eq_true, Bool.and_eq_true, decide_eq_true_eq, Bool.not_eq_true', Bool.not_eq_true', decide_eq_false_iff_not, decide_eq_false_iff_not]
theorem filter_two {α : Type} (P A B : α → Bool) : ∀ (l : List α), (∀ x ∈ l, A x = true → P x = true) → (∀ x ∈ l, B x = true → P x = true) → (∀ x ∈ l, A x = true → B x = false) → (l.filter A).length + (l.filter B).length ≤ (l.filter P).length
  | [], _, _, _ => Nat.le_refl _
  | x :: l, h1, h2, h3 => by
    have ih := filter_two P A B l (fun y hy => h1 y (List.mem_cons_of_mem _ hy)) (fun y hy => h2 y (List.mem_cons_of_mem _ hy)) (fun y hy => h3 y (List.mem_cons_of_mem _ hy))
    have a := h1 x List.mem_cons_self
    have b := h2 x List.mem_cons_self
    have c := h3 x List.mem_cons_self
    rw [List.filter_cons, List.filter_cons, List.filter_cons]
    cases hA : A x with
    | true =>
      rw [if_pos rfl, if_pos (a hA), c hA, if_neg Bool.false_ne_true, List.length_cons, List.length_cons]
      omega
    | false =>
      rw [if_neg Bool.false_ne_true]
      cases hB : B x with
      | true =>
        rw [if_pos rfl, if_pos (b hB), List.length_cons, List.length_cons]
        omega
      | false =>
        rw [if_neg Bool.false_ne_true]
        split
        · rw [List.length_cons]
          omega
        · exact ih
theorem last_walk {ps : List (Int × Int)} {A : Nat → Prop} : ∀ {b p : Int} {s : List (Nat × Int)}, Gx.Pth ps A b s p → ∃ pre, b :: Gx.pl s = pre ++ [p]
  | b, p, [], h => by
    have h' : p = b := h
    rw [h']
    exact ⟨[], rfl⟩
  | b, p, (k, q) :: s, ⟨_, _, h⟩ => by
    obtain ⟨pre, e⟩ := last_walk h
    refine ⟨b :: pre, ?_⟩
    show b :: (q :: Gx.pl s) = _
    rw [e]
    rfl
theorem kids_av {ps : List (Int × Int)} {f : Nat} {b : Int} {w : Wk} (hw : Walk ps f b w) :
    (kidsTo ps f w ps.length).length + ((List.range ps.length).filter (avP ps f w.2.2)).length ≤ av ps f w.2.2 := by
  obtain ⟨s, h1, h2, h3, h4, _⟩ := hw
  obtain ⟨pre, e⟩ := last_walk h1
  have eM : w.2.2 = pre ++ [w.1] := h3.trans e
  have nd := h4
  rw [e] at nd
  obtain ⟨_, _, n3⟩ := List.nodup_append.mp nd
  have np : w.1 ∉ pre := fun m => n3 _ m _ List.mem_cons_self rfl
  unfold kidsTo av
  rw [List.length_map]
  have ed : w.2.2.dropLast = pre := by rw [eM, List.dropLast_concat]
  refine filter_two _ _ _ _ (fun k hk hA => ?_) (fun k hk hB => ?_) (fun k hk hA => ?_)
  · obtain ⟨a1, a2⟩ := Bool.and_eq_true_iff.mp hA
    obtain ⟨c1, c2⟩ := kidP_iff.mp a2
    have a1' := of_decide_eq_true a1
    refine avP_iff.mpr ⟨a1', ?_⟩
    rw [ed]
    rw [eM] at c2
    have c3 : toQ ps w.1 k ∉ pre := fun m => c2 (List.mem_append.mpr (.inl m))
    unfold toQ at c3
    rcases c1 with c1 | c1
    · rw [show (gt ps k).1 + (gt ps k).2 - w.1 = (gt ps k).2 by omega] at c3
      exact ⟨by rw [← c1]; exact np, c3⟩
    · rw [show (gt ps k).1 + (gt ps k).2 - w.1 = (gt ps k).1 by omega] at c3
      exact ⟨c3, by rw [← c1]; exact np⟩
  · obtain ⟨a1, a2, a3⟩ := avP_iff.mp hB
    refine avP_iff.mpr ⟨a1, ?_⟩
    rw [ed]
    rw [eM] at a2 a3
    exact ⟨fun m => a2 (List.mem_append.mpr (.inl m)), fun m => a3 (List.mem_append.mpr (.inl m))⟩
  · obtain ⟨a1, a2⟩ := Bool.and_eq_true_iff.mp hA
    obtain ⟨c1, c2⟩ := kidP_iff.mp a2
    refine Bool.eq_false_iff.mpr fun hB => ?_
    obtain ⟨_, b2, b3⟩ := avP_iff.mp hB
    have pm : w.1 ∈ w.2.2 := by rw [eM]; exact List.mem_append.mpr (.inr List.mem_cons_self)
    rcases c1 with c1 | c1
    · rw [← c1] at b2
      exact b2 pm
    · rw [← c1] at b3
      exact b3 pm
theorem av_kid (ps : List (Int × Int)) (f : Nat) (M : List Int) (q : Int) : av ps f (M ++ [q]) = ((List.range ps.length).filter (avP ps f M)).length := by
  unfold av
  rw [List.dropLast_concat]
theorem wts_same {ps : List (Int × Int)} {f c : Nat} : ∀ {l : List Wk}, (∀ z ∈ l, wt ps f z = c) → wts ps f l = l.length * c
  | [], _ => by rw [List.length_nil, Nat.zero_mul]; rfl
  | z :: l, h => by
    have ih := wts_same (l := l) fun y hy => h y (List.mem_cons_of_mem _ hy)
    show wt ps f z + wts ps f l = (l.length + 1) * c
    rw [ih, h z List.mem_cons_self, Nat.succ_mul]
    omega
theorem kids_wt {ps : List (Int × Int)} {f : Nat} {b : Int} {w : Wk} (hw : Walk ps f b w) : wts ps f (kidsTo ps f w ps.length) < wt ps f w := by
  have ka := kids_av hw
  rw [wts_same (c := 2 ^ ((List.range ps.length).filter (avP ps f w.2.2)).length) fun z hz => ?_]
  · generalize (kidsTo ps f w ps.length).length = d at *
    generalize ((List.range ps.length).filter (avP ps f w.2.2)).length = a at *
    unfold wt
    have h1 : d < 2 ^ d := Nat.lt_two_pow_self
    have h2 : d * 2 ^ a < 2 ^ d * 2 ^ a := Nat.mul_lt_mul_of_pos_right h1 (Nat.two_pow_pos a)
    rw [← Nat.pow_add] at h2
    exact Nat.lt_of_lt_of_le h2 (Nat.pow_le_pow_right (by decide) ka)
  · obtain ⟨k, _, _, _, e⟩ := mem_kids.mp hz
    unfold wt
    rw [e]
    show 2 ^ av ps f (w.2.2 ++ [_]) = _
    rw [av_kid]
theorem walk_kid {ps : List (Int × Int)} {f : Nat} {b : Int} {w z : Wk} (hw : Walk ps f b w) (hz : z ∈ kidsTo ps f w ps.length) : Walk ps f b z := by
  have ka := kids_av hw
  have kl : 0 < (kidsTo ps f w ps.length).length := List.length_pos_of_mem hz
  obtain ⟨k, h1, h2, h3, e⟩ := mem_kids.mp hz
  obtain ⟨c1, c2⟩ := kidP_iff.mp h3
  obtain ⟨s, g1, g2, g3, g4, g5⟩ := hw
  subst e
  refine ⟨s ++ [(k, toQ ps w.1 k)], Gx.pth_app.mpr ⟨w.1, g1, h2, (at_iff h1).mpr ⟨c1, rfl⟩, rfl⟩, ?_, ?_, ?_, ?_⟩
  · show w.2.1 ++ [k] = _
    rw [g2, Gx.ti_app]
    rfl
  · show w.2.2 ++ [_] = _
    rw [g3, Gx.pl_app]
    rfl
  · rw [Gx.pl_app, ← List.cons_append]
    refine List.nodup_append.mpr ⟨g4, List.nodup_cons.mpr ⟨List.not_mem_nil, List.nodup_nil⟩, fun x hx y hy e => ?_⟩
    have hy' : y = toQ ps w.1 k := List.mem_singleton.mp hy
    rw [g3] at c2
    exact c2 (by rw [← hy', ← e]; exact hx)
  · show (w.2.1 ++ [k]).length + av ps f (w.2.2 ++ [_]) ≤ _
    rw [av_kid, List.length_append]
    show w.2.1.length + 1 + _ ≤ _
    omega
theorem av_lt {ps : List (Int × Int)} {f : Nat} (hf : f < ps.length) (M : List Int) : av ps f M + 1 ≤ ps.length := by
  unfold av
  have h := (List.length_filter_lt_length_iff_exists (p := avP ps f M.dropLast) (l := List.range ps.length)).mpr ⟨f, List.mem_range.mpr hf, fun e => ?_⟩
  · rw [List.length_range] at h
    exact h
  · have := (avP_iff.mp e).1
    omega
theorem walk_begin {ps : List (Int × Int)} {f : Nat} (hf : f < ps.length) (b : Int) : Walk ps f b (b, [f], [b]) := by
  refine ⟨[], rfl, rfl, rfl, List.nodup_cons.mpr ⟨List.not_mem_nil, List.nodup_nil⟩, ?_⟩
  have := av_lt hf [b]
  show 1 + av ps f [b] ≤ _
  omega
/-- what is true while walks are gone through -/
structure Dfs (ps : List (Int × Int)) (f : Nat) (g b : Int) (st : List Wk) (fd : List (List Nat)) : Prop where
  walks : ∀ w ∈ st, Walk ps f b w
  sound : ∀ z ∈ fd, ∃ s, Gx.Ring ps f s ∧ ∀ k, k ∈ z ↔ k ∈ f :: Gx.ti s
  whole : ∀ s, Gx.Ring ps f s → (∃ z ∈ fd, ∀ k ∈ f :: Gx.ti s, k ∈ z) ∨ ∃ s1 s2 x, s = s1 ++ s2 ∧ Gx.Pth ps (f < ·) b s1 x ∧ (x, f :: Gx.ti s1, b :: Gx.pl s1) ∈ st
  size : fd.length + wts ps f st ≤ 2 ^ av ps f [b]
theorem dfs_begin {ps : List (Int × Int)} {f : Nat} {g b : Int} (hf : f < ps.length) : Dfs ps f g b [(b, [f], [b])] [] where
  walks := fun w hw => by
    rw [List.mem_singleton.mp hw]
    exact walk_begin hf b
  sound := fun z hz => nomatch hz
  whole := fun s hs => .inr ⟨[], s, b, rfl, rfl, List.mem_cons_self⟩
  size := by
    show 0 + (2 ^ av ps f [b] + 0) ≤ 2 ^ av ps f [b]
    omega
theorem dfs_found {ps : List (Int × Int)} {f : Nat} {g b : Int} (hf : ps[f]? = some (g, b)) {st : List Wk} {w : Wk} {fd : List (List Nat)} (h : Dfs ps f g b (st ++ [w]) fd) (e : w.1 = g) {z : List Nat} (hz : z.Perm w.2.1) : Dfs ps f g b st (fd ++ [z]) where
  walks := fun v hv => h.walks v (List.mem_append.mpr (.inl hv))
  sound := fun y hy => by
    rcases List.mem_append.mp hy with m | m
    · exact h.sound y m
    · obtain ⟨s, h1, h2, h3, h4, _⟩ := h.walks w (List.mem_append.mpr (.inr List.mem_cons_self))
      rw [e] at h1
      refine ⟨s, ⟨g, b, hf, h1, h4⟩, fun k => ?_⟩
      rw [List.mem_singleton.mp m, hz.mem_iff, h2]
  whole := fun s hs => by
    rcases h.whole s hs with ⟨y, hy, c⟩ | ⟨s1, s2, x, e1, hp, m⟩
    · exact .inl ⟨y, List.mem_append.mpr (.inl hy), c⟩
    · rcases List.mem_append.mp m with m | m
      · exact .inr ⟨s1, s2, x, e1, hp, m⟩
      · have ew := List.mem_singleton.mp m
        obtain ⟨g', b', e2, hr, nd⟩ := hs
        rw [hf] at e2
        cases e2
        have xg : x = g := by rw [← e, ← ew]
        -- the path is at its end
        have e3 : s2 = [] := by
          cases s2 with
          | nil => rfl
          | cons a r =>
            exfalso
            subst e1
            obtain ⟨y, k1, k2⟩ := Gx.pth_app.mp hr
            have gm1 : g ∈ b :: Gx.pl s1 := by rw [← xg]; exact hp.end_mem
            obtain ⟨kk, qq⟩ := a
            obtain ⟨_, _, k3⟩ := k2
            have gm2 : g ∈ qq :: Gx.pl r := k3.end_mem
            rw [Gx.pl_app, ← List.cons_append] at nd
            exact (List.nodup_append.mp nd).2.2 g gm1 g gm2 rfl
        subst e3
        rw [List.append_nil] at e1
        subst e1
        refine .inl ⟨z, List.mem_append.mpr (.inr List.mem_cons_self), fun k hk => ?_⟩
        rw [hz.mem_iff, ← ew]
        exact hk
  size := by
    have := h.size
    have p : 0 < wt ps f w := Nat.two_pow_pos _
    rw [wts_app] at this
    rw [List.length_append]
    have e2 : wts ps f [w] = wt ps f w + 0 := rfl
    show fd.length + 1 + _ ≤ _
    omega
theorem dfs_steps {ps : List (Int × Int)} {f : Nat} {g b : Int} (hf : ps[f]? = some (g, b)) {st : List Wk} {w : Wk} {fd : List (List Nat)} (h : Dfs ps f g b (st ++ [w]) fd) (e : w.1 ≠ g) : Dfs ps f g b (st ++ kidsTo ps f w ps.length) fd where
  walks := fun v hv => by
    rcases List.mem_append.mp hv with m | m
    · exact h.walks v (List.mem_append.mpr (.inl m))
    · exact walk_kid (h.walks w (List.mem_append.mpr (.inr List.mem_cons_self))) m
  sound := h.sound
  whole := fun s hs => by
    rcases h.whole s hs with c | ⟨s1, s2, x, e1, hp, m⟩
    · exact .inl c
    · rcases List.mem_append.mp m with m | m
      · exact .inr ⟨s1, s2, x, e1, hp, List.mem_append.mpr (.inl m)⟩
      · have ew := List.mem_singleton.mp m
        obtain ⟨g', b', e2, hr, nd⟩ := hs
        rw [hf] at e2
        cases e2
        subst e1
        obtain ⟨y, k1, k2⟩ := Gx.pth_app.mp hr
        have yx : y = x := by
          obtain ⟨pre1, q1⟩ := last_walk k1
          obtain ⟨pre2, q2⟩ := last_walk hp
          have q3 := q1.symm.trans q2
          have q4 := congrArg List.getLast? q3
          rw [List.getLast?_concat, List.getLast?_concat] at q4
          exact Option.some.inj q4
        subst yx
        cases s2 with
        | nil =>
          have k2' : g = y := k2
          exact absurd (by rw [← ew]; exact k2'.symm) e
        | cons a r =>
          obtain ⟨k, q⟩ := a
          obtain ⟨c1, c2, c3⟩ := k2
          have hk : k < ps.length := by
            obtain ⟨_, er, _⟩ := id c2
            exact (List.getElem?_eq_some_iff.mp er).1
          obtain ⟨d1, d2⟩ := (at_iff hk).mp c2
          have nq : q ∉ b :: Gx.pl s1 := fun mq => by
            rw [Gx.pl_app, ← List.cons_append] at nd
            exact (List.nodup_append.mp nd).2.2 q mq q List.mem_cons_self rfl
          refine .inr ⟨s1 ++ [(k, q)], r, q, by rw [List.append_assoc]; rfl, Gx.pth_app.mpr ⟨y, k1, c1, c2, rfl⟩, List.mem_append.mpr (.inr (mem_kids.mpr ⟨k, hk, c1, ?_, ?_⟩))⟩
          · rw [← ew]
            refine kidP_iff.mpr ⟨d1, ?_⟩
            show toQ ps y k ∉ b :: Gx.pl s1
            rw [← d2]
            exact nq
          · rw [← ew, Gx.ti_app, Gx.pl_app]
            show _ = (toQ ps y k, _, _)
            rw [← d2]
            rfl
  size := by
    have := h.size
    rw [wts_app] at this ⊢
    have k := kids_wt (h.walks w (List.mem_append.mpr (.inr List.mem_cons_self)))
    have e2 : wts ps f [w] = wt ps f w + 0 := rfl
    omega
theorem dfs_less {ps : List (Int × Int)} {f : Nat} {b : Int} {st : List Wk} {w : Wk} (hw : Walk ps f b w) : wts ps f (st ++ kidsTo ps f w ps.length) < wts ps f (st ++ [w]) ∧ wts ps f st < wts ps f (st ++ [w]) := by
  have k := kids_wt hw
  have p : 0 < wt ps f w := Nat.two_pow_pos _
  rw [wts_app, wts_app]
  have e2 : wts ps f [w] = wt ps f w + 0 := rfl
  omega
theorem kids_snoc {ps : List (Int × Int)} {f : Nat} {w : Wk} (j : Nat) : kidsTo ps f w (j + 1) = kidsTo ps f w j ++ (if (decide (f < j) && kidP ps w.1 w.2.2 j) = true then [(toQ ps w.1 j, w.2.1 ++ [j], w.2.2 ++ [toQ ps w.1 j])] else []) := by
  unfold kidsTo
  rw [List.range_succ, List.filter_append, List.map_append]
  by_cases c : (decide (f < j) && kidP ps w.1 w.2.2 j) = true
  · rw [if_pos c]
    have e : [j].filter (fun k => decide (f < k) && kidP ps w.1 w.2.2 k) = [j] := List.filter_cons_of_pos (p := fun k => decide (f < k) && kidP ps w.1 w.2.2 k) c
    rw [e]
    rfl
  · rw [if_neg c]
    have e : [j].filter (fun k => decide (f < k) && kidP ps w.1 w.2.2 k) = [] := List.filter_cons_of_neg (p := fun k => decide (f < k) && kidP ps w.1 w.2.2 k) c
    rw [e]
    rfl
theorem kids_nil {ps : List (Int × Int)} {f : Nat} {w : Wk} : kidsTo ps f w (f + 1) = [] := by
  unfold kidsTo
  rw [List.filter_eq_nil_iff.mpr fun k hk e => ?_]
  · rfl
  · have := List.mem_range.mp hk
    have := of_decide_eq_true (Bool.and_eq_true_iff.mp e).1
    omega
end K6
set_option Elab.async false
set_option linter.all false
set_option maxRecDepth 100000
set_option maxHeartbeats 8000000
/-! Walks that are one tie longer. -/
namespace K6
open PySem L2 Rl
theorem pApp {α β : Type} {F : α → β → Prop} : ∀ {xs zs : List α} {ys ws : List β}, Paired F xs ys → Paired F zs ws → Paired F (xs ++ zs) (ys ++ ws)
  | _, _, _, _, .nil, h => h
  | _, _, _, _, .cons a r, h => .cons a (pApp r h)
theorem pSnoc {α β : Type} {F : α → β → Prop} : ∀ {xs : List α} {ys : List β} {y : β}, Paired F xs (ys ++ [y]) → ∃ xs' x, xs = xs' ++ [x] ∧ Paired F xs' ys ∧ F x y
  | _, [], y, .cons a .nil => ⟨[], _, rfl, .nil, a⟩
  | _, b :: ys, y, .cons a r => by
    obtain ⟨xs', x, e, h1, h2⟩ := pSnoc r
    exact ⟨_ :: xs', x, by rw [e]; rfl, .cons a h1, h2⟩
def nV (l : List Nat) : List V := l.map fun (k : Nat) => V.int (k : Int)
theorem nV_len (l : List Nat) : (nV l).length = l.length := List.length_map ..
theorem nV_app (a b : List Nat) : nV (a ++ b) = nV a ++ nV b := List.map_append
def WkAt (H : Hp) (v : V) (w : Wk) : Prop := ∃ a g m, v = .ref a ∧ H a = some (.tup [.int w.1, .ref g, .ref m]) ∧ H g = some (.tup (nV w.2.1)) ∧ H m = some (.tup (w.2.2.map V.int))
def WksAt (H : Hp) (vs : List V) (ws : List Wk) : Prop := Paired (WkAt H) vs ws
theorem WkAt.mono {H H' : Hp} (e : ∀ a xs, H a = some (.tup xs) → H' a = some (.tup xs)) {v : V} {w : Wk} (h : WkAt H v w) : WkAt H' v w := by
  obtain ⟨a, g, m, h1, h2, h3, h4⟩ := h
  exact ⟨a, g, m, h1, e _ _ h2, e _ _ h3, e _ _ h4⟩
theorem WksAt.mono {H H' : Hp} (e : ∀ a xs, H a = some (.tup xs) → H' a = some (.tup xs)) {vs : List V} {ws : List Wk} (h : WksAt H vs ws) : WksAt H' vs ws := L2.Paired.mapP h fun _ _ q => q.mono e
theorem tups_same {H H' : Hp} (s : Same H H') : ∀ a xs, H a = some (.tup xs) → H' a = some (.tup xs) := fun _ _ h => s _ _ h
theorem tups_upd {H : Hp} {D : Addr} {l : List V} {o : HO} (hD : H D = some (.lst l)) : ∀ a xs, H a = some (.tup xs) → (L2.upd H D o) a = some (.tup xs) := fun a xs q => by
  rw [upd_ne (ne_of q hD (by intro z; cases z))]
  exact q
theorem in_intsL {k : Int} {gs : List Int} : inV (.int k) (gs.map V.int) = decide (k ∈ gs) := by
  unfold inV
  rw [List.any_map]
  by_cases h : k ∈ gs
  · rw [decide_eq_true h]
    exact List.any_eq_true.mpr ⟨k, h, beq_self_eq_true k⟩
  · rw [decide_eq_false h]
    refine List.any_eq_false.mpr fun z hz e => h ?_
    have e' : z = k := eq_of_beq e
    rw [← e']
    exact hz
def spSteps (C : Addr) : Sp := fun vs H Q _ => ∃ (x gA mA : Addr) (n : Int) (ps : List (Int × Int)) (f : Nat) (w : Wk), vs = [.ref x, .int w.1, .ref gA, .ref mA] ∧ WebAt C H x n ps ∧ Right n ps ∧ f < ps.length ∧ H gA = some (.tup (nV w.2.1)) ∧ w.2.1.head? = some f ∧
  H mA = some (.tup (w.2.2.map V.int)) ∧ w.2.1.length ≤ 100 ∧ w.2.2.length ≤ 100 ∧ ∀ L us H', H L = none → Same H H' → H' L = some (.lst us) → WksAt H' us (kidsTo ps f w ps.length) → Q (.ref L) H'
section
variable {P : Program} {w : World} {K : PySem.W.Frag} {mg : Str → Option Value} {base : Heap}
theorem ok_steps (T : Tx K mg) : FnOk P w K mg base CX0 2 T.f_steps T.d_steps ["web", "place", "gone", "met"] (spSteps T.C_Web) := by
  refine T.F_steps.ok sc_steps (fun vs H Q E h => ?_) (fun cdv A outer s H vs Q E hr h => ?_)
  · obtain ⟨x, gA, mA, n, ps, f, wk, rfl, _⟩ := h
    rfl
  obtain ⟨x, gA, mA, n, ps, f, wk, rfl, ⟨dx, t, hx, vs, htv, hv⟩, R, hf, hg, hg0, hm, lg, lm, q⟩ := h
  have hvl := hv.len
  have l16 := R.2.2.1
  refine ⟨_, (pss_cons (ps_set (i := 4) sc_steps.nd rfl (.inl rfl) (pe_lst pa_nil))
    (pss_cons (ps_for PassesOwn.never rfl (pi_range2 (by rfl) T.g_range (pa_cons (pe_op op_add (pe_ix ix_tup (pv 2) pe_int (fun _ _ => rfl)) pe_int) (pa_cons (pe_callB call_len_seq (by rfl) T.g_len PySem.boot_len (pa_cons (pe_fld (pv 0) rfl) pa_nil)) pa_nil))) (pg_name (i := 5) sc_steps.nd rfl (.inl rfl))
      (pss_cons (ps_asg (pe_ix ix_tup (pe_fld (pv 0) rfl) (pv 5) (fun _ _ => rfl)) (pg_tup rfl (pgs_cons (pg_name (i := 6) sc_steps.nd rfl (.inl rfl)) (pgs_cons (pg_name (i := 7) sc_steps.nd rfl (.inl rfl)) pgs_nil))))
        (pss_one (ps_if (pt_cmpR op_in_seq (pv 1) (pe_tup (pa_cons (pv 6) (pa_cons (pv 7) pa_nil))) (by rfl))
          (pss_cons (ps_set (i := 8) sc_steps.nd rfl (.inl rfl) (pe_op op_sub (pe_op op_add (pv 6) (pv 7)) (pv 1)))
            (pss_one (ps_if (pt_cmpR op_notIn_seq (pv 8) (pv 3) (by rfl))
              (pss_one (ps_expr (pe_bm PySem.F.plainAttrs_list PySem.F.slot_list_append PySem.F.type_list_append mt_append (pv 4) (pa_cons (pe_tup (pa_cons (pv 8) (pa_cons (pe_op op_catA (pv 2) (pe_tup (pa_cons (pv 5) pa_nil))) (pa_cons (pe_op op_catA (pv 3) (pe_tup (pa_cons (pv 8) pa_nil))) pa_nil)))) pa_nil))))
              pss_nil)))
          pss_nil))))
    (pss_one (ps_ret (pv 4))))), ?_⟩
  refine ⟨(by show 0 ≤ sizeLine; decide), fun L nL => ?_⟩
  have s1 : Same H (L2.upd H L (.lst [])) := same_new nL _
  obtain ⟨gr, eg⟩ : ∃ gr, wk.2.1 = f :: gr := by
    cases h : wk.2.1 with
    | nil => rw [h] at hg0; cases hg0
    | cons a r =>
      rw [h] at hg0
      cases hg0
      exact ⟨r, rfl⟩
  have ag : atI (nV wk.2.1) 0 = some (.int (f : Int)) := by
    rw [eg]
    exact atI_nat (j := 0) rfl
  refine ⟨_, rfl, gA, _, 0, _, rfl, rfl, SqT.of (s1 _ _ hg), ag, (f : Int), 1, rfl, rfl, ?_⟩
  refine ⟨_, rfl, x, T.C_Web, dx, _, _, rfl, s1 _ _ hx, T.cl_Web, T.no_Web_ties, wf_ties n t, t, _, rfl, .inr (SqT.of (s1 _ _ htv)), _, _, rfl, ⟨by omega, by omega, by omega, by omega⟩, ?_⟩
  refine for_range (lo := (f : Int) + 1) (n := ((((vs.length : Nat) : Int)) - ((f : Int) + 1)).toNat) (fun i σ H' => ∃ y5 y6 y7 y8 us, σ = [some (.ref x), some (.int wk.1), some (.ref gA), some (.ref mA), some (.ref L), y5, y6, y7, y8] ∧ Same H H' ∧ H' L = some (.lst us) ∧ us.length ≤ i ∧ WksAt H' us (kidsTo ps f wk (f + 1 + i)))
    ⟨none, none, none, none, [], rfl, s1, upd_same, Nat.le_refl _, by rw [Nat.add_zero, kids_nil]; exact .nil⟩ ?_ ?_
  · intro i σ H1 hi ⟨y5, y6, y7, y8, us, e, sm, hL, lu, wu⟩
    subst e
    have lk : f + 1 + i < vs.length := by omega
    have ek : (f : Int) + 1 + (i : Int) = ((f + 1 + i : Nat) : Int) := by omega
    rw [ek]
    generalize hk : f + 1 + i = k at *
    obtain ⟨r, b, hri, eb, hb⟩ := (hv.same sm).get (List.getElem?_eq_getElem lk)
    have evk : vs[k]? = some (.ref b) := by rw [List.getElem?_eq_getElem lk, eb]
    have egt : gt ps k = r := by
      unfold gt
      rw [List.getD_eq_getElem?_getD, hri]
      rfl
    have ks := kids_snoc (ps := ps) (f := f) (w := wk) k
    refine ⟨_, rfl, x, T.C_Web, dx, _, _, rfl, sm _ _ hx, T.cl_Web, T.no_Web_ties, wf_ties n t, _, rfl, t, vs, (k : Int), .ref b, rfl, rfl, SqT.of (sm _ _ htv), atI_nat evk, b, _, rfl, SqT.of hb, rfl, _, _, rfl, _, _, rfl, rfl, ?_⟩
    have sm' := sm
    refine ⟨_, rfl, _, rfl, _, rfl, (by show 2 ≤ sizeLine; decide), fun S nS => ⟨S, _, rfl, .inr (SqT.of upd_same), rfl, flat_ints [r.1, r.2], _, rfl, ?_⟩⟩
    have sS := same_new nS (.tup [.int r.1, .int r.2])
    have hL1 := sS _ _ hL
    have sm1 := sm.trans sS
    have wu1 := wu.mono (tups_same sS)
    have e1 : inV (.int wk.1) [.int r.1, .int r.2] = decide (wk.1 ∈ [r.1, r.2]) := in_intsL (gs := [r.1, r.2])
    have stay : kidP ps wk.1 wk.2.2 k = false → WksAt (L2.upd H1 S (.tup [.int r.1, .int r.2])) us (kidsTo ps f wk (f + 1 + (i + 1))) := fun z => by
      rw [show f + 1 + (i + 1) = k + 1 by omega, ks, z, Bool.and_false, if_neg Bool.false_ne_true, List.append_nil]
      exact wu1
    rw [if_neg Bool.false_ne_true, e1]
    by_cases c1 : wk.1 ∈ [r.1, r.2]
    · rw [decide_eq_true c1]
      refine iteT ?_
      refine ⟨_, rfl, _, rfl, r.1, r.2, rfl, rfl, _, rfl, _, wk.1, rfl, rfl, ?_⟩
      have eq' : r.1 + r.2 - wk.1 = toQ ps wk.1 k := by
        unfold toQ
        rw [egt]
      dsimp only
      rw [eq']
      refine ⟨_, rfl, _, rfl, mA, _, rfl, .inr (SqT.of (sm1 _ _ hm)), rfl, flat_ints _, _, rfl, ?_⟩
      rw [if_pos rfl, in_intsL]
      have c1' : wk.1 = (gt ps k).1 ∨ wk.1 = (gt ps k).2 := by
        rw [egt]
        rcases List.mem_cons.mp c1 with z | z
        · exact .inl z
        · exact .inr (List.mem_singleton.mp z)
      by_cases c2 : toQ ps wk.1 k ∈ wk.2.2
      · rw [decide_eq_true c2]
        refine iteF ⟨_, _, _, _, us, rfl, sm1, hL1, by omega, stay ?_⟩
        exact Bool.eq_false_iff.mpr fun z => (kidP_iff.mp z).2 c2
      · rw [decide_eq_false c2]
        refine iteT ?_
        refine ⟨_, rfl, .inl ⟨rfl, _, SqL.of hL1⟩, _, rfl, _, rfl, _, rfl, (by show 1 ≤ sizeLine; decide), fun A nA => ?_⟩
        have sA := same_new nA (.tup [.int (k : Int)])
        refine cat_go (sA _ _ (sm1 _ _ hg)) upd_same (by rw [nV_len]; show _ + 1 ≤ _; omega) fun G H2 s2 hG => ?_
        refine ⟨_, rfl, _, rfl, (by show 1 ≤ sizeLine; decide), fun B nB => ?_⟩
        have sB := same_new nB (.tup [.int (toQ ps wk.1 k)])
        have sAB := sA.trans (s2.trans sB)
        refine cat_go (sAB _ _ (sm1 _ _ hm)) upd_same (by rw [List.length_map]; show _ + 1 ≤ _; omega) fun M' H3 s3 hM' => ?_
        refine ⟨(by show 3 ≤ sizeLine; decide), fun W nW => ?_⟩
        have sW := same_new nW (.tup [.int (toQ ps wk.1 k), .ref G, .ref M'])
        have s13 := (sAB.trans s3).trans sW
        have hL4 := s13 _ _ hL1
        refine ⟨L, us, _, rfl, rfl, hL4, small1000 (by omega), ?_⟩
        refine ⟨_, _, _, _, us ++ [.ref W], rfl, fun b o hb' => ?_, upd_same, by rw [List.length_append]; show us.length + 1 ≤ _; omega, ?_⟩
        · rw [upd_ne (ne_of_none hb' nL)]
          exact s13 _ _ (sm1 _ _ hb')
        · rw [show f + 1 + (i + 1) = k + 1 by omega, ks, if_pos (Bool.and_eq_true_iff.mpr ⟨decide_eq_true (by omega), kidP_iff.mpr ⟨c1', c2⟩⟩)]
          refine WksAt.mono (tups_upd hL4) (pApp (wu1.mono (tups_same s13)) (.cons ?_ .nil))
          refine ⟨W, G, M', rfl, upd_same, ?_, ?_⟩
          · rw [nV_app]
            exact (sB.trans (s3.trans sW)) _ _ hG
          · rw [List.map_append]
            exact sW _ _ hM'
    · rw [decide_eq_false c1]
      refine iteF ⟨_, _, _, _, us, rfl, sm1, hL1, by omega, stay ?_⟩
      refine Bool.eq_false_iff.mpr fun z => c1 ?_
      have z' := (kidP_iff.mp z).1
      rw [egt] at z'
      rcases z' with z' | z'
      · rw [z']
        exact List.mem_cons_self
      · rw [z']
        exact List.mem_cons_of_mem _ List.mem_cons_self
  · intro σ H1 ⟨y5, y6, y7, y8, us, e, sm, hL, lu, wu⟩
    subst e
    refine ⟨_, rfl, ?_⟩
    by_cases c : f + 1 ≤ ps.length
    · rw [show f + 1 + ((((vs.length : Nat) : Int)) - ((f : Int) + 1)).toNat = ps.length by omega] at wu
      exact q L us H1 nL sm hL wu
    · omega
end
end K6
set_option Elab.async false
set_option linter.all false
set_option maxRecDepth 100000
set_option maxHeartbeats 8000000
/-! Rings. -/
namespace K6
open PySem L2 Rl
def RgAt (H : Hp) (us : List V) (gs : List (List Nat)) : Prop := Paired (fun (u : V) (g : List Nat) => ∃ a, u = .ref a ∧ H a = some (.tup (nV g))) us gs
theorem RgAt.mono {H H' : Hp} (e : ∀ a xs, H a = some (.tup xs) → H' a = some (.tup xs)) {vs : List V} {ws : List (List Nat)} (h : RgAt H vs ws) : RgAt H' vs ws := L2.Paired.mapP h fun _ _ ⟨a, h1, h2⟩ => ⟨a, h1, e _ _ h2⟩
/-- a list of ints that is one of numbers put in another order -/
theorem nV_perm {l : List Nat} {ns : List Int} (h : ns.Perm (l.map fun k : Nat => (k : Int))) : ∃ z : List Nat, z.Perm l ∧ ns.map V.int = nV z := by
  refine ⟨ns.map Int.toNat, ?_, ?_⟩
  · have p := h.map Int.toNat
    rw [List.map_map] at p
    have e : l.map (Int.toNat ∘ fun k : Nat => (k : Int)) = l.map id := List.map_congr_left fun k _ => Int.toNat_natCast k
    rw [e, List.map_id] at p
    exact p
  · unfold nV
    rw [List.map_map]
    refine List.map_congr_left fun k hk => ?_
    obtain ⟨j, _, ej⟩ := List.mem_map.mp (h.mem_iff.mp hk)
    show V.int k = V.int ((k.toNat : Nat) : Int)
    rw [← ej, Int.toNat_natCast]
theorem nV_ints (l : List Nat) : nV l = (l.map fun k : Nat => (k : Int)).map V.int := by
  unfold nV
  rw [List.map_map]
  rfl
def spFrom (C : Addr) : Sp := fun vs H Q _ => ∃ (x : Addr) (n : Int) (ps : List (Int × Int)) (f : Nat), vs = [.ref x, .int (f : Int)] ∧ WebAt C H x n ps ∧ Right n ps ∧ f < ps.length ∧
  ∀ F us fd H', H F = none → Same H H' → H' F = some (.lst us) → RgAt H' us fd → fd.length ≤ 2 ^ 15 → (∀ z ∈ fd, 0 < z.length ∧ z.length ≤ 17) → (∀ z ∈ fd, ∃ s, Gx.Ring ps f s ∧ ∀ k, k ∈ z ↔ k ∈ f :: Gx.ti s) →
    (∀ s, Gx.Ring ps f s → ∃ z ∈ fd, ∀ k ∈ f :: Gx.ti s, k ∈ z) → Q (.ref F) H'
section
variable {P : Program} {w : World} {K : PySem.W.Frag} {mg : Str → Option Value} {base : Heap}
theorem ok_rings_from (T : Tx K mg) : FnOk P w K mg base CX0 3 T.f_rings_from T.d_rings_from ["web", "first"] (spFrom T.C_Web) := by
  refine T.F_rings_from.ok sc_rings_from (fun vs H Q E h => ?_) (fun cdv A outer s H vs Q E hr h => ?_)
  · obtain ⟨x, n, ps, f, rfl, _⟩ := h
    rfl
  obtain ⟨x, n, ps, f, rfl, hw, R, hf, q⟩ := h
  obtain ⟨dx, t, hx, vs, htv, hv⟩ := id hw
  have hvl := hv.len
  have l16 := R.2.2.1
  refine ⟨_, (pss_cons (ps_asg (pe_ix ix_tup (pe_fld (pv 0) rfl) (pv 1) (fun _ _ => rfl)) (pg_tup rfl (pgs_cons (pg_name (i := 2) sc_rings_from.nd rfl (.inl rfl)) (pgs_cons (pg_name (i := 3) sc_rings_from.nd rfl (.inl rfl)) pgs_nil))))
    (pss_cons (ps_set (i := 4) sc_rings_from.nd rfl (.inl rfl) (pe_lst pa_nil))
    (pss_cons (ps_set (i := 5) sc_rings_from.nd rfl (.inl rfl) (pe_lst (pa_cons (pe_tup (pa_cons (pv 3) (pa_cons (pe_tup (pa_cons (pv 1) pa_nil)) (pa_cons (pe_tup (pa_cons (pv 3) pa_nil)) pa_nil)))) pa_nil)))
    (pss_cons (ps_while PassesOwn.never (pt_truth (pv 5) (by intro _; rfl))
      (pss_cons (ps_asg (pe_bm0 PySem.F.plainAttrs_list PySem.F.slot_list_pop PySem.F.type_list_pop mt_pop (pv 5)) (pg_tup rfl (pgs_cons (pg_name (i := 6) sc_rings_from.nd rfl (.inl rfl)) (pgs_cons (pg_name (i := 7) sc_rings_from.nd rfl (.inl rfl)) (pgs_cons (pg_name (i := 8) sc_rings_from.nd rfl (.inl rfl)) pgs_nil)))))
        (pss_one (ps_if (pt_cmpR op_eq (pv 6) (pv 2) (nomark _))
          (pss_one (ps_expr (pe_bm PySem.F.plainAttrs_list PySem.F.slot_list_append PySem.F.type_list_append mt_append (pv 4) (pa_cons (pe_callTy call_tuple_of (by rfl) T.g_tuple (by decide +kernel) (pa_cons (pe_callB cr_sortedTI (by rfl) T.g_sorted (by decide +kernel) (pa_cons (pv 7) pa_nil)) pa_nil)) pa_nil))))
          (pss_one (ps_expr (pe_bm PySem.F.plainAttrs_list PySem.F.slot_list_extend PySem.F.type_list_extend mt_extend (pv 5) (pa_cons (pe_call (ok_steps T) (hr.mono (by decide)) (by rfl) T.m_steps T.F_steps.kp T.b_steps .nil pass0 (pa_cons (pv 0) (pa_cons (pv 6) (pa_cons (pv 7) (pa_cons (pv 8) pa_nil))))) pa_nil))))))))
    (pss_one (ps_ret (pv 4))))))), ?_⟩
  have lf : f < vs.length := by omega
  obtain ⟨⟨g, b⟩, a, hri, ea, ha⟩ := hv.get (List.getElem?_eq_getElem lf)
  have evf : vs[f]? = some (.ref a) := by rw [List.getElem?_eq_getElem lf, ea]
  refine ⟨_, rfl, x, T.C_Web, dx, _, _, rfl, hx, T.cl_Web, T.no_Web_ties, wf_ties n t, _, rfl, t, vs, (f : Int), .ref a, rfl, rfl, SqT.of htv, atI_nat evf, a, _, rfl, SqT.of ha, rfl, _, _, rfl, _, _, rfl, rfl, ?_⟩
  refine ⟨(by show 0 ≤ sizeLine; decide), fun F nF => ?_⟩
  have s1 := same_new nF (.lst [])
  refine ⟨_, rfl, _, rfl, (by show 1 ≤ sizeLine; decide), fun G nG => ⟨_, rfl, (by show 1 ≤ sizeLine; decide), fun M nM => ⟨(by show 3 ≤ sizeLine; decide), fun W nW => ⟨(by show 1 ≤ sizeLine; decide), fun L nL => ?_⟩⟩⟩⟩
  have sG := same_new nG (.tup [.int (f : Int)])
  have sM := same_new nM (.tup [.int b])
  have sW := same_new nW (.tup [.int b, .ref G, .ref M])
  have sL := same_new nL (.lst [.ref W])
  have sWL := sW.trans sL
  have sML := sM.trans sWL
  have sGL := sG.trans sML
  have s0 := s1.trans sGL
  have hF0 := sGL _ _ (show (L2.upd H F (.lst [])) F = some (.lst []) from upd_same)
  have hG0 := sML _ _ (show (L2.upd (L2.upd H F (.lst [])) G (.tup [.int (f : Int)])) G = some (.tup [.int (f : Int)]) from upd_same)
  have hM0 := sWL _ _ (show (L2.upd (L2.upd (L2.upd H F (.lst [])) G (.tup [.int (f : Int)])) M (.tup [.int b])) M = some (.tup [.int b]) from upd_same)
  have hW0 := sL _ _ (show (L2.upd (L2.upd (L2.upd (L2.upd H F (.lst [])) G (.tup [.int (f : Int)])) M (.tup [.int b])) W (.tup [.int b, .ref G, .ref M])) W = some (.tup [.int b, .ref G, .ref M]) from upd_same)
  have nHL : H L = none := (s1.trans (sG.trans (sM.trans sW))).free nL
  have nFL : F ≠ L := by
    have hF1 := (sG.trans (sM.trans sW)) _ _ (show (L2.upd H F (.lst [])) F = some (.lst []) from upd_same)
    exact ne_of_none hF1 nL
  have hL0 : (L2.upd (L2.upd (L2.upd (L2.upd (L2.upd H F (.lst [])) G (.tup [.int (f : Int)])) M (.tup [.int b])) W (.tup [.int b, .ref G, .ref M])) L (.lst [.ref W])) L = some (.lst [.ref W]) := upd_same
  dsimp only
  generalize L2.upd (L2.upd (L2.upd (L2.upd (L2.upd H F (.lst [])) G (.tup [.int (f : Int)])) M (.tup [.int b])) W (.tup [.int b, .ref G, .ref M])) L (.lst [.ref W]) = H0 at *
  clear sG sM sW sL sWL sML sGL s1 nG nM nW nL
  have hfr : ps[f]? = some (g, b) := hri
  have avf : av ps f [b] ≤ 15 := by
    have := av_lt hf [b]
    omega
  have pw : 2 ^ av ps f [b] ≤ 2 ^ 15 := Nat.pow_le_pow_right (by decide) avf
  have szl : (2 : Nat) ^ 15 + 2 ^ 15 ≤ sizeLine := by decide
  refine ⟨fun m σ H' => ∃ y6 y7 y8 us ws fs fd, σ = [some (.ref x), some (.int (f : Int)), some (.int g), some (.int b), some (.ref F), some (.ref L), y6, y7, y8] ∧ Same H H' ∧ H' L = some (.lst us) ∧ WksAt H' us ws ∧ H' F = some (.lst fs) ∧ RgAt H' fs fd ∧ Dfs ps f g b ws fd ∧ m = wts ps f ws ∧ ∀ z ∈ fd, 0 < z.length ∧ z.length ≤ 17,
    ⟨_, none, none, none, _, [(b, [f], [b])], _, [], rfl, s0, hL0, .cons ⟨W, G, M, rfl, hW0, hG0, hM0⟩ .nil, hF0, .nil, dfs_begin hf, rfl, fun z hz => nomatch hz⟩, ?_⟩
  intro m σ H1 ⟨y6, y7, y8, us, ws, fs, fd, e, sm, hL, wu, hF, ru, D, em, zl⟩
  subst e
  have lus : us.length = ws.length := Paired.length wu
  have lfs : fs.length = fd.length := Paired.length ru
  have Dsz := D.size
  have wl := wts_len ps f ws
  refine ⟨_, rfl, _, .inl ⟨_, SqL.of hL, rfl⟩, ?_⟩
  rcases List.eq_nil_or_concat ws with ew | ⟨st, wk, ew⟩
  · subst ew
    have eu : us = [] := List.length_eq_zero_iff.mp lus
    subst eu
    refine iteF ⟨_, rfl, ?_⟩
    refine q F fs fd H1 nF sm hF ru (by omega) zl D.sound fun s hs => ?_
    rcases D.whole s hs with c | ⟨_, _, _, _, _, c⟩
    · exact c
    · cases c
  · rw [List.concat_eq_append] at ew
    subst ew
    obtain ⟨us', u, eu, wu', wu1⟩ := pSnoc wu
    subst eu
    have ne : (!(us' ++ [u]).isEmpty) = true := by simp
    rw [ne]
    refine iteT ⟨_, fun _ _ z => z, ?_⟩
    obtain ⟨W, G, M, ew, hW, hG, hM⟩ := wu1
    subst ew
    have gl : (us' ++ [V.ref W])[(us' ++ [V.ref W]).length - 1]? = some (.ref W) := by
      rw [List.length_append]
      show (us' ++ [V.ref W])[us'.length + 1 - 1]? = _
      rw [Nat.add_sub_cancel, List.getElem?_append_right (Nat.le_refl _), Nat.sub_self]
      rfl
    have dl : (us' ++ [V.ref W]).dropLast = us' := List.dropLast_concat
    have tu := tups_upd (o := .lst us') hL
    refine ⟨_, rfl, .inl ⟨rfl, _, SqL.of hL⟩, L, _, .ref W, rfl, rfl, hL, gl, ?_⟩
    rw [dl]
    refine ⟨W, _, rfl, SqT.of (tu _ _ hW), rfl, _, _, rfl, _, _, rfl, _, _, rfl, rfl, ?_⟩
    have nHF : F ≠ L := nFL
    have sm2 : Same H (L2.upd H1 L (.lst us')) := fun c o hc => by
      rw [upd_ne (ne_of_none hc nHL)]
      exact sm _ _ hc
    have hF2 : (L2.upd H1 L (.lst us')) F = some (.lst fs) := by
      rw [upd_ne nFL]
      exact hF
    have hL2 : (L2.upd H1 L (.lst us')) L = some (.lst us') := upd_same
    have wu2 := WksAt.mono tu wu'
    have ru2 := ru.mono tu
    have hG2 := tu _ _ hG
    have hM2 := tu _ _ hM
    have dless := dfs_less (ps := ps) (f := f) (b := b) (st := st) (D.walks wk (List.mem_append.mpr (.inr List.mem_cons_self)))
    obtain ⟨sw, k1, k2, k3, k4, k5⟩ := D.walks wk (List.mem_append.mpr (.inr List.mem_cons_self))
    have lg : wk.2.1.length ≤ 17 := by omega
    have lm : wk.2.2.length ≤ 17 := by
      have e1 : wk.2.2.length = wk.2.1.length := by
        rw [k2, k3, List.length_cons, List.length_cons]
        unfold Gx.ti Gx.pl
        rw [List.length_map, List.length_map]
      omega
    clear hW hG hM wu wu' ru tu hF hL gl dl ne
    generalize L2.upd H1 L (.lst us') = H2 at *
    have ed : decide (V.int wk.1 = V.int g) = decide (wk.1 = g) := by
      rw [Bool.eq_iff_iff, decide_eq_true_eq, decide_eq_true_eq]
      exact ⟨fun e => V.int.inj e, fun e => by rw [e]⟩
    refine ⟨_, rfl, _, rfl, rfl, _, rfl, ?_⟩
    dsimp only
    rw [ed]
    by_cases c : wk.1 = g
    · rw [decide_eq_true c]
      refine iteT ?_
      refine ⟨_, rfl, .inl ⟨rfl, _, SqL.of hF2⟩, _, rfl, G, wk.2.1.map (fun k : Nat => (k : Int)), rfl, SqT.of (show H2 G = some (.tup ((wk.2.1.map fun k : Nat => (k : Int)).map V.int)) from by rw [← nV_ints]; exact hG2), fun ms p pm _ np => ?_⟩
      obtain ⟨z, zp, ez⟩ := nV_perm pm
      rw [ez]
      have s3 := same_new np (.lst (nV z))
      refine ⟨p, _, rfl, .inl ⟨SqL.of upd_same, fun T nT => ?_⟩⟩
      have s4 := s3.trans (same_new nT (.tup (nV z)))
      have hF4 := s4 _ _ hF2
      refine ⟨F, fs, _, rfl, rfl, hF4, by omega, ?_⟩
      refine ⟨_, by rw [em]; exact dless.2, _, _, _, us', st, fs ++ [.ref T], fd ++ [z], rfl, fun c o hc => ?_, ?_, ?_, upd_same, ?_, dfs_found hfr D c zp, rfl, fun y hy => ?_⟩
      · rw [upd_ne (ne_of_none hc nF)]
        exact s4 _ _ (sm2 _ _ hc)
      · rw [upd_ne nFL.symm]
        exact s4 _ _ hL2
      · exact WksAt.mono (tups_upd hF4) (wu2.mono (tups_same s4))
      · exact RgAt.mono (tups_upd hF4) (pApp (ru2.mono (tups_same s4)) (.cons ⟨T, rfl, upd_same⟩ .nil))
      · rcases List.mem_append.mp hy with m' | m'
        · exact zl y m'
        · rw [List.mem_singleton.mp m', zp.length_eq]
          refine ⟨?_, lg⟩
          rw [k2]
          exact Nat.succ_pos _
    · rw [decide_eq_false c]
      refine iteF ?_
      have hd0 : wk.2.1.head? = some f := by rw [k2]; rfl
      refine ⟨_, rfl, .inl ⟨rfl, _, SqL.of hL2⟩, _, rfl, _, rfl, _, rfl, _, rfl, x, G, M, n, ps, f, wk, rfl, hw.same sm2, R, hf, hG2, hd0, hM2, by omega, by omega, fun Z ks H3 nZ s3 hZ wks => ?_⟩
      have lks : ks.length = (kidsTo ps f wk ps.length).length := Paired.length wks
      have lkk := wts_len ps f (kidsTo ps f wk ps.length)
      have Dn := dfs_steps hfr D c
      have Dn2 := Dn.size
      rw [wts_app] at Dn2
      have lst := wts_len ps f st
      have lu' : us'.length = st.length := Paired.length wu2
      have hL3 := s3 _ _ hL2
      refine ⟨L, Z, _, _, rfl, rfl, hL3, hZ, by omega, ?_⟩
      refine ⟨_, by rw [em]; exact dless.1, _, _, _, us' ++ ks, _, fs, fd, rfl, fun c o hc => ?_, upd_same, ?_, ?_, ?_, Dn, rfl, zl⟩
      · rw [upd_ne (ne_of_none hc nHL)]
        exact s3 _ _ (sm2 _ _ hc)
      · exact WksAt.mono (tups_upd hL3) (pApp (wu2.mono (tups_same s3)) wks)
      · rw [upd_ne nFL]
        exact s3 _ _ hF2
      · exact RgAt.mono (tups_upd hL3) (ru2.mono (tups_same s3))
end
end K6
set_option Elab.async false
set_option linter.all false
set_option maxRecDepth 100000
set_option maxHeartbeats 8000000
/-! All rings; bridges. -/
namespace K6
open PySem L2 Rl
def RgOne (ps : List (Int × Int)) (H : Hp) (u : V) (g : List Nat) : Prop := (∃ a, u = .ref a ∧ H a = some (.tup (nV g))) ∧ 0 < g.length ∧ g.length ≤ 17 ∧ ∀ k ∈ g, Gx.Rnd ps k
def RgsOk (ps : List (Int × Int)) (H : Hp) (us : List V) : Prop := us.length ≤ 16 * 2 ^ 15 ∧ (∀ u ∈ us, ∃ g, RgOne ps H u g) ∧ ∀ t, Gx.Rnd ps t → ∃ u ∈ us, ∃ g, RgOne ps H u g ∧ t ∈ g
theorem RgOne.mono {ps : List (Int × Int)} {H H' : Hp} (e : ∀ a xs, H a = some (.tup xs) → H' a = some (.tup xs)) {u : V} {g : List Nat} (h : RgOne ps H u g) : RgOne ps H' u g := by
  obtain ⟨⟨a, h1, h2⟩, h3⟩ := h
  exact ⟨⟨a, h1, e _ _ h2⟩, h3⟩
theorem RgsOk.mono {ps : List (Int × Int)} {H H' : Hp} (e : ∀ a xs, H a = some (.tup xs) → H' a = some (.tup xs)) {us : List V} (h : RgsOk ps H us) : RgsOk ps H' us :=
  ⟨h.1, fun u hu => (h.2.1 u hu).imp fun g q => q.mono e, fun t ht => by
    obtain ⟨u, hu, g, q, m⟩ := h.2.2 t ht
    exact ⟨u, hu, g, q.mono e, m⟩⟩
theorem RgsOk.perm {ps : List (Int × Int)} {H : Hp} {us vs : List V} (h : RgsOk ps H us) (p : vs.Perm us) : RgsOk ps H vs :=
  ⟨by rw [p.length_eq]; exact h.1, fun u hu => h.2.1 u (p.mem_iff.mp hu), fun t ht => by
    obtain ⟨u, hu, q⟩ := h.2.2 t ht
    exact ⟨u, p.mem_iff.mpr hu, q⟩⟩
theorem pMemL {α β : Type} {F : α → β → Prop} : ∀ {xs : List α} {ys : List β}, Paired F xs ys → ∀ x ∈ xs, ∃ y ∈ ys, F x y
  | _, _, .nil, x, hx => nomatch hx
  | _, _, .cons a r, x, hx => by
    rcases List.mem_cons.mp hx with e | e
    · rw [e]
      exact ⟨_, List.mem_cons_self, a⟩
    · obtain ⟨y, hy, q⟩ := pMemL r x e
      exact ⟨y, List.mem_cons_of_mem _ hy, q⟩
theorem pMemR {α β : Type} {F : α → β → Prop} : ∀ {xs : List α} {ys : List β}, Paired F xs ys → ∀ y ∈ ys, ∃ x ∈ xs, F x y
  | _, _, .nil, x, hx => nomatch hx
  | _, _, .cons a r, x, hx => by
    rcases List.mem_cons.mp hx with e | e
    · rw [e]
      exact ⟨_, List.mem_cons_self, a⟩
    · obtain ⟨y, hy, q⟩ := pMemR r x e
      exact ⟨y, List.mem_cons_of_mem _ hy, q⟩
def spRings (K : PySem.W.Frag) (C : Addr) : Sp := fun vs H Q _ => ∃ (x : Addr) (n : Int) (ps : List (Int × Int)), vs = [.ref x] ∧ WebAt C H x n ps ∧ Right n ps ∧ ∀ L us H', H L = none → Same H H' → H' L = some (.lst us) → RgsOk ps H' us → Q (.ref L) H'
/-- the bridges as they are told -/
def BrOk (ps : List (Int × Int)) (l : List Nat) : Prop := ∃ p : Nat → Bool, (∀ k, k < ps.length → (p k = true ↔ ¬ Gx.Rnd ps k)) ∧ l = (List.range ps.length).filter p
theorem BrOk.one {ps : List (Int × Int)} {l m : List Nat} (a : BrOk ps l) (b : BrOk ps m) : l = m := by
  obtain ⟨p, h1, e1⟩ := a
  obtain ⟨q, h2, e2⟩ := b
  rw [e1, e2]
  refine List.filter_congr fun k hk => ?_
  have lk := List.mem_range.mp hk
  rw [Bool.eq_iff_iff, h1 k lk, h2 k lk]
theorem BrOk.len {ps : List (Int × Int)} {l : List Nat} (a : BrOk ps l) : l.length ≤ ps.length := by
  obtain ⟨p, h1, e1⟩ := a
  rw [e1]
  refine Nat.le_trans (List.length_filter_le ..) ?_
  rw [List.length_range]
  exact Nat.le_refl _
def spBridges (C : Addr) : Sp := fun vs H Q _ => ∃ (x : Addr) (n : Int) (ps : List (Int × Int)), vs = [.ref x] ∧ WebAt C H x n ps ∧ Right n ps ∧ ∀ o l H', Same H H' → H' o = some (.tup (nV l)) → BrOk ps l → Q (.ref o) H'
section
variable {P : Program} {w : World} {K : PySem.W.Frag} {mg : Str → Option Value} {base : Heap}
theorem ok_rings (T : Tx K mg) : FnOk P w K mg base CX0 4 T.f_rings T.d_rings ["web"] (spRings K T.C_Web) := by
  refine T.F_rings.ok sc_rings (fun vs H Q E h => ?_) (fun cdv A outer s H vs Q E hr h => ?_)
  · obtain ⟨x, n, ps, rfl, _⟩ := h
    rfl
  obtain ⟨x, n, ps, rfl, hw, R, q⟩ := h
  obtain ⟨dx, t, hx, vs, htv, hv⟩ := id hw
  have hvl := hv.len
  have l16 := R.2.2.1
  have szl : 16 * 2 ^ 15 + 2 ^ 15 ≤ sizeLine := by decide
  refine ⟨_, (pss_cons (ps_set (i := 1) sc_rings.nd rfl (.inl rfl) (pe_lst pa_nil))
    (pss_cons (ps_for PassesOwn.never rfl (pi_range1 (by rfl) T.g_range (pa_cons (pe_callB call_len_seq (by rfl) T.g_len PySem.boot_len (pa_cons (pe_fld (pv 0) rfl) pa_nil)) pa_nil)) (pg_name (i := 2) sc_rings.nd rfl (.inl rfl))
      (pss_one (ps_expr (pe_bm PySem.F.plainAttrs_list PySem.F.slot_list_extend PySem.F.type_list_extend mt_extend (pv 1) (pa_cons (pe_call (ok_rings_from T) (hr.mono (by decide)) (by rfl) T.m_rings_from T.F_rings_from.kp T.b_rings_from .nil pass0 (pa_cons (pv 0) (pa_cons (pv 2) pa_nil))) pa_nil)))))
    (pss_one (ps_ret (pe_callB cr_sortedTs (by rfl) T.g_sorted (by decide +kernel) (pa_cons (pv 1) pa_nil)))))), ?_⟩
  refine ⟨(by show 0 ≤ sizeLine; decide), fun F nF => ?_⟩
  have s1 := same_new nF (.lst [])
  refine ⟨_, rfl, x, T.C_Web, dx, _, _, rfl, s1 _ _ hx, T.cl_Web, T.no_Web_ties, wf_ties n t, t, _, rfl, .inr (SqT.of (s1 _ _ htv)), _, rfl, by omega, by omega, ?_⟩
  refine for_range (lo := 0) (n := (((vs.length : Nat) : Int)).toNat) (fun i σ H' => ∃ y2 fs fd, σ = [some (.ref x), some (.ref F), y2] ∧ Same H H' ∧ H' F = some (.lst fs) ∧ RgAt H' fs fd ∧ fd.length ≤ i * 2 ^ 15 ∧ (∀ z ∈ fd, 0 < z.length ∧ z.length ≤ 17 ∧ ∀ k ∈ z, Gx.Rnd ps k) ∧ ∀ f s, f < i → Gx.Ring ps f s → ∃ z ∈ fd, ∀ k ∈ f :: Gx.ti s, k ∈ z)
    ⟨none, _, [], rfl, s1, upd_same, .nil, Nat.zero_le _, (fun z hz => nomatch hz), fun f s hf => absurd hf (Nat.not_lt_zero f)⟩ ?_ ?_
  · intro i σ H1 hi ⟨y2, fs, fd, e, sm, hF, ru, lf, zs, wh⟩
    subst e
    have e0 : (0 : Int) + (i : Int) = (i : Int) := Int.zero_add _
    rw [e0]
    have li : i < ps.length := by omega
    have lfs : fs.length = fd.length := Paired.length ru
    refine ⟨_, rfl, .inl ⟨rfl, _, SqL.of hF⟩, _, rfl, _, rfl, x, n, ps, i, rfl, hw.same sm, R, li, fun G gs gd H2 nG s2 hG gu lg gz gsnd gwh => ?_⟩
    have lgs : gs.length = gd.length := Paired.length gu
    have i16 : i * 2 ^ 15 ≤ 15 * 2 ^ 15 := Nat.mul_le_mul_right _ (by omega)
    have hF2 := s2 _ _ hF
    refine ⟨F, G, _, _, rfl, rfl, hF2, hG, by omega, ?_⟩
    refine ⟨_, fs ++ gs, fd ++ gd, rfl, fun b o hb => ?_, upd_same, RgAt.mono (tups_upd hF2) (pApp (ru.mono (tups_same s2)) gu), by rw [List.length_append, Nat.succ_mul]; omega, fun z hz => ?_, fun f s hf hr' => ?_⟩
    · rw [upd_ne (ne_of_none hb nF)]
      exact s2 _ _ (sm _ _ hb)
    · rcases List.mem_append.mp hz with m | m
      · exact zs z m
      · refine ⟨(gz z m).1, (gz z m).2, fun k hk => ?_⟩
        obtain ⟨s, hs, hm⟩ := gsnd z m
        exact Gx.rnd_iff.mpr ⟨i, s, hs, (hm k).mp hk⟩
    · by_cases c : f = i
      · subst c
        obtain ⟨z, hz, hm⟩ := gwh s hr'
        exact ⟨z, List.mem_append.mpr (.inr hz), hm⟩
      · obtain ⟨z, hz, hm⟩ := wh f s (by omega) hr'
        exact ⟨z, List.mem_append.mpr (.inl hz), hm⟩
  · intro σ H1 ⟨y2, fs, fd, e, sm, hF, ru, lf, zs, wh⟩
    subst e
    have lfs : fs.length = fd.length := Paired.length ru
    have i16 : (((vs.length : Nat) : Int)).toNat * 2 ^ 15 ≤ 16 * 2 ^ 15 := Nat.mul_le_mul_right _ (by omega)
    have ok : RgsOk ps H1 fs := by
      refine ⟨by omega, fun u hu => ?_, fun k hk => ?_⟩
      · obtain ⟨g, hg, a⟩ := pMemL ru u hu
        exact ⟨g, a, zs g hg⟩
      · obtain ⟨f, s, hr', hm⟩ := Gx.rnd_iff.mp hk
        have lf' : f < ps.length := by
          obtain ⟨_, _, e, _⟩ := id hr'
          exact (List.getElem?_eq_some_iff.mp e).1
        obtain ⟨z, hz, hz'⟩ := wh f s (by omega) hr'
        obtain ⟨u, hu, a⟩ := pMemR ru z hz
        exact ⟨u, hu, z, ⟨a, zs z hz⟩, hz' k hm⟩
    refine ⟨_, rfl, F, fs, rfl, SqL.of hF, fun u hu => ?_, fun ys p pm np => ?_⟩
    · obtain ⟨g, ⟨a, e1, e2⟩, g0, _⟩ := ok.2.1 u hu
      cases g with
      | nil => cases g0
      | cons k r => exact ⟨a, (k : Int), r.map (fun k : Nat => (k : Int)), e1, by rw [e2, nV_ints]; rfl⟩
    · have nHp : H p = none := sm.free np
      have s3 := same_new np (.lst ys)
      exact q p ys _ nHp (sm.trans s3) upd_same ((ok.perm pm).mono (tups_same s3))
end
end K6
set_option Elab.async false
set_option linter.all false
set_option maxRecDepth 100000
set_option maxHeartbeats 8000000
/-! Bridges. -/
namespace K6
open PySem L2 Rl
theorem nV_get {g : List Nat} {j : Nat} {y : V} (h : (nV g)[j]? = some y) : ∃ k, g[j]? = some k ∧ y = .int (k : Int) := by
  unfold nV at h
  rw [List.getElem?_map] at h
  cases e : g[j]? with
  | none => rw [e] at h; cases h
  | some k =>
    rw [e] at h
    exact ⟨k, rfl, (Option.some.inj h).symm⟩
theorem filt_rng (f : Nat → Bool) (i : Nat) : (List.range (i + 1)).filter f = (List.range i).filter f ++ (if f i = true then [i] else []) := by
  rw [List.range_succ, List.filter_append]
  by_cases c : f i = true
  · rw [if_pos c, List.filter_cons_of_pos c]
    rfl
  · rw [if_neg c, List.filter_cons_of_neg c]
    rfl
def InR (ps : List (Int × Int)) (D : Addr) (us : List V) (H1 : Hp) (i : Nat) (H' : Hp) : Prop := Same H1 H' ∧ ∃ rs : List Nat, H' D = some (.lst (nV rs)) ∧ rs.length ≤ i * 17 ∧ (∀ k ∈ rs, Gx.Rnd ps k) ∧ ∀ j u, j < i → us[j]? = some u → ∀ g, RgOne ps H1 u g → ∀ k ∈ g, k ∈ rs
section
variable {P : Program} {w : World} {K : PySem.W.Frag} {mg : Str → Option Value} {base : Heap}
theorem ok_bridges (T : Tx K mg) : FnOk P w K mg base CX0 5 T.f_bridges T.d_bridges ["web"] (spBridges T.C_Web) := by
  refine T.F_bridges.ok sc_bridges (fun vs H Q E h => ?_) (fun cdv A outer s H vs Q E hr h => ?_)
  · obtain ⟨x, n, ps, rfl, _⟩ := h
    rfl
  obtain ⟨x, n, ps, rfl, hw, R, q⟩ := h
  obtain ⟨dx, t, hx, vs, htv, hv⟩ := id hw
  have hvl := hv.len
  have l16 := R.2.2.1
  refine ⟨_, (pss_cons (ps_asg (pe_lc2 (own := [("ring", 2), ("tie", 3)]) (vs1 := [3]) (g := (gName 2)) (g1 := (gName 3)) (tt := tYes) (tt1 := tYes) (wi1 := iTup K (tVar 2)) (te := (tVar 3)) rfl sc_bridges.nd
      (pi_list (pe_call (ok_rings T) (hr.mono (by decide)) (by rfl) T.m_rings T.F_rings.kp T.b_rings .nil pass0 (pa_cons (pv 0) pa_nil)))
      (blkOk_by (own := [("ring", 2), ("tie", 3)]) (N := N_bridges) (sc := defScope s_bridges) (by decide +kernel)) (by decide) (fun _ _ _ _ _ => (pg_name (i := 2) sc_bridges.nd rfl (.inl rfl))) (fun _ _ _ _ _ => pts_nil)
      (fun _ _ _ _ _ => (pi_tup (pv 2))) (fun _ _ _ _ _ => (pg_name (i := 3) sc_bridges.nd rfl (.inl rfl))) (fun _ _ _ _ _ => pts_nil) (fun _ _ _ _ _ => (pv 3)))
      (pg_name (i := 1) sc_bridges.nd rfl (by first | exact .inl rfl | exact .inr rfl)))
    (pss_one (ps_ret (pe_callTy call_tuple_of (by rfl) T.g_tuple (by decide +kernel) (pa_cons (pe_lc (own := [("tie", 3)]) (g := (gName 3)) (tt := (tTest (tOp (rIn K true) (tVar 3) (tVar 1)))) (te := (tVar 3)) rfl sc_bridges.nd (pi_range1 (by rfl) T.g_range (pa_cons (pe_callB call_len_seq (by rfl) T.g_len PySem.boot_len (pa_cons (pe_fld (pv 0) rfl) pa_nil)) pa_nil)) (blkOk_by (own := [("tie", 3)]) (N := N_bridges) (sc := defScope s_bridges) (by decide +kernel)) (fun _ _ _ _ _ => (pg_name (i := 3) sc_bridges.nd rfl (.inl rfl))) (fun _ _ _ _ _ => (pts_one (pt_cmpR op_notIn_seq (pv 3) (pv 1) (by rfl)))) (fun _ _ _ _ _ => (pv 3))) pa_nil))))), ?_⟩
  refine ⟨_, rfl, x, n, ps, rfl, hw, R, fun L us H1 nL s1 hL ok => ⟨L, rfl, ⟨_, SqL.of hL⟩, fun D nD => ?_⟩⟩
  have szl : 16 * 2 ^ 15 * 17 + 17 ≤ sizeLine := by decide
  refine ⟨fun i m H' => m = us.length - i ∧ i ≤ us.length ∧ InR ps D us H1 i H', ⟨us.length, (Nat.sub_zero _).symm, Nat.zero_le _, same_new nD _, [], upd_same, Nat.le_refl _, (fun k hk => nomatch hk), fun j u hj => absurd hj (Nat.not_lt_zero j)⟩, ?_⟩
  intro i m H2 ⟨em, li, sm, rs, hD, lrs, snd, whl⟩
  have sL : SqL K H2 L us := SqL.of (sm _ _ hL)
  by_cases c : i < us.length
  · refine .inr ⟨⟨us, us[i], sL, List.getElem?_eq_getElem c⟩, InR ps D us H1 (i + 1), fun H' p' => ⟨us.length - (i + 1), by omega, rfl, c, p'⟩, fun y H' yy => ?_⟩
    obtain ⟨e, yy⟩ := yy
    subst e
    have ey := yy us sL
    rw [List.getElem?_eq_getElem c] at ey
    have ey' : us[i] = y := Option.some.inj ey
    obtain ⟨g, ⟨⟨a, ea, hg⟩, g0, g17, gr⟩⟩ := ok.2.1 us[i] (List.getElem_mem c)
    rw [← ey', ea]
    refine ⟨rfl, ?_⟩
    have hg2 : H' a = some (.tup (nV g)) := sm _ _ hg
    refine ⟨_, rfl, a, rfl, ⟨_, SqT.of hg2⟩, ?_⟩
    refine ⟨fun j k H3 => k = g.length - j ∧ j ≤ g.length ∧ Same H1 H3 ∧ H3 D = some (.lst (nV (rs ++ g.take j))), ⟨g.length, (Nat.sub_zero _).symm, Nat.zero_le _, sm, by rw [List.take_zero, List.append_nil]; exact hD⟩, ?_⟩
    intro j k H3 ⟨ek, lj, sm3, hD3⟩
    have sT : SqT K H3 a (nV g) := SqT.of (sm3 _ _ hg)
    by_cases c2 : j < g.length
    · have l2 : j < (nV g).length := by rw [nV_len]; exact c2
      refine .inr ⟨⟨nV g, (nV g)[j], sT, List.getElem?_eq_getElem l2⟩, fun H4 => Same H1 H4 ∧ H4 D = some (.lst (nV (rs ++ g.take (j + 1)))), fun H4 p' => ⟨g.length - (j + 1), by omega, rfl, c2, p'⟩, fun z H4 zz => ?_⟩
      obtain ⟨e, zz⟩ := zz
      subst e
      obtain ⟨kk, e1, e2⟩ := nV_get (zz _ sT)
      subst e2
      refine ⟨rfl, ?_⟩
      refine ⟨_, rfl, _, hD3, ?_, fun b o hb => ?_, ?_⟩
      · rw [nV_len, List.length_append, List.length_take]
        have : i * 17 ≤ 16 * 2 ^ 15 * 17 := Nat.mul_le_mul_right _ (by have := ok.1; omega)
        omega
      · rw [upd_ne (ne_of_none hb nD)]
        exact sm3 _ _ hb
      · rw [upd_same, List.take_add_one, e1, ← List.append_assoc, nV_app (rs ++ g.take j)]
        rfl
    · have ej : j = g.length := by omega
      subst ej
      refine .inl ⟨⟨nV g, sT, by rw [nV_len]; exact Nat.le_refl _⟩, sm3, rs ++ g, ?_, by rw [List.length_append, Nat.succ_mul]; omega, fun k hk => ?_, fun j u hj hu g' hg' k hk => ?_⟩
      · rw [List.take_of_length_le (Nat.le_refl _)] at hD3
        exact hD3
      · rcases List.mem_append.mp hk with m' | m'
        · exact snd k m'
        · exact gr k m'
      · refine List.mem_append.mpr ?_
        by_cases c3 : j = i
        · subst c3
          rw [List.getElem?_eq_getElem c] at hu
          have hu' : us[j] = u := Option.some.inj hu
          obtain ⟨⟨a', ea', hg3⟩, _⟩ := hg'
          rw [← hu', ea] at ea'
          cases ea'
          have e4 : nV g = nV g' := by
            have z := hg.symm.trans hg3
            exact HO.tup.inj (Option.some.inj z)
          refine .inr ?_
          have inj : ∀ {l m : List Nat}, nV l = nV m → l = m := fun {l m} e => by
            refine List.ext_getElem (by rw [← nV_len l, e, nV_len]) fun i' h1 h2 => ?_
            have z : (nV l)[i']? = (nV m)[i']? := by rw [e]
            unfold nV at z
            rw [List.getElem?_map, List.getElem?_map, List.getElem?_eq_getElem h1, List.getElem?_eq_getElem h2] at z
            have z' := V.int.inj (Option.some.inj z)
            exact Int.ofNat.inj z'
          rw [inj e4]
          exact hk
        · exact .inl (whl j u (by omega) hu g' hg' k hk)
  · have ei : i = us.length := by omega
    subst ei
    refine .inl ⟨⟨us, sL, Nat.le_refl _⟩, ?_⟩
    have is : ∀ k, k < ps.length → (k ∈ rs ↔ Gx.Rnd ps k) := fun k _ => by
      refine ⟨snd k, fun hk => ?_⟩
      obtain ⟨u, hu, g, hg, m'⟩ := ok.2.2 k hk
      obtain ⟨j, hj, e⟩ := List.mem_iff_getElem.mp hu
      exact whl j u hj (by rw [List.getElem?_eq_getElem hj, e]) g hg k m'
    have sm0 := s1.trans sm
    refine ⟨_, rfl, x, T.C_Web, dx, _, _, rfl, sm0 _ _ hx, T.cl_Web, T.no_Web_ties, wf_ties n t, t, _, rfl, .inr (SqT.of (sm0 _ _ htv)), _, rfl, by omega, by omega, fun Z nZ => ?_⟩
    refine lc_range (lo := 0) (n := (((vs.length : Nat) : Int)).toNat) (fun i H' => Same H2 H' ∧ H' Z = some (.lst (nV ((List.range i).filter fun k => !decide (k ∈ rs))))) ⟨same_new nZ _, upd_same⟩ ?_ ?_
    · intro i H' hi ⟨s4, hZ⟩
      have e0 : (0 : Int) + (i : Int) = (i : Int) := Int.zero_add _
      have hD4 := s4 _ _ hD
      rw [nV_ints] at hD4
      refine ⟨rfl, ?_⟩
      refine ⟨_, rfl, _, rfl, D, _, rfl, .inl (SqL.of hD4), rfl, flat_ints _, _, rfl, ?_⟩
      rw [if_pos rfl, in_intsL, e0]
      have em2 : decide ((i : Int) ∈ rs.map (fun k : Nat => (k : Int))) = decide (i ∈ rs) := by
        rw [Bool.eq_iff_iff, decide_eq_true_eq, decide_eq_true_eq, List.mem_map]
        constructor
        · rintro ⟨k, hk, e⟩
          have e' : k = i := Int.ofNat.inj e
          rw [← e']
          exact hk
        · intro hk
          exact ⟨i, hk, rfl⟩
      rw [em2]
      have fs := filt_rng (fun k => !decide (k ∈ rs)) i
      cases c4 : decide (i ∈ rs) with
      | true =>
        refine iteF ⟨s4, ?_⟩
        rw [fs, c4, if_neg (by decide), List.append_nil]
        exact hZ
      | false =>
        refine iteT ⟨_, rfl, _, hZ, ?_, fun b o hb => ?_, ?_⟩
        · rw [nV_len]
          refine small1000 (Nat.le_trans (List.length_filter_le ..) ?_)
          rw [List.length_range]
          omega
        · rw [upd_ne (ne_of_none hb nZ)]
          exact s4 _ _ hb
        · rw [upd_same, fs, c4, if_pos (by decide), nV_app]
          rfl
    · intro H3 ⟨s4, hZ⟩
      refine ⟨Z, _, rfl, .inl ⟨SqL.of hZ, fun o no => ?_⟩⟩
      refine q o _ _ (sm0.trans (s4.trans (same_new no _))) upd_same ⟨fun k => !decide (k ∈ rs), fun k hk => ?_, by rw [Int.toNat_natCast, hvl]⟩
      rw [Bool.not_eq_true', decide_eq_false_iff_not, is k hk]
end
end K6
set_option Elab.async false
set_option linter.all false
set_option maxRecDepth 100000
set_option maxHeartbeats 8000000
/-! A pair; the parts by own heads. -/
namespace K6
open PySem L2 Rl
def spPairUp : Sp := fun vs H Q _ => ∃ a b : Int, vs = [.int a, .int b] ∧ ∀ p H', H p = none → Same H H' → H' p = some (.tup [.int (mn a b), .int (mx a b)]) → Q (.ref p) H'
def spParts (K : PySem.W.Frag) : Sp := fun vs H Q _ => ∃ (t o : Addr) (n : Int) (ps : List (Int × Int)) (ls : List Nat), vs = [.int n, .ref t, .ref o] ∧ TiesAt H t ps ∧ (∀ p ∈ ps, inR n.toNat p) ∧ 0 ≤ n ∧ n ≤ 10 ∧ H o = some (.tup (nV ls)) ∧ (∀ k ∈ ls, k < ps.length) ∧
  ∀ L us H', H L = none → Same H H' → H' L = some (.lst us) → us.length = (firstsL n (hfold n (ls.map (gt ps)))).length → Q (.ref L) H'
def scHead : Scope := { kind := .function, names := [(".0", .local), ("head", .cell), ("tuple", .globalImplicit), ("range", .globalImplicit), ("heads", .cell), ("many", .cell)], isGenerator := false, isCoroutine := false }
def rTupOf (K : PySem.W.Frag) : List V → Hp → VK → Prop := fun xs H Q => ∃ p ys, xs = [V.ref p] ∧ ((SqL K H p ys ∧ ∀ l, H l = none → Q (.ref l) (L2.upd H l (.tup ys))) ∨ (SqT K H p ys ∧ Q (.ref p) H))
theorem two_in {z a b : Int} : (if z ∈ [a, b] then mn a b else z) = (if z = mx a b then mn a b else z) := by
  by_cases c : z ∈ [a, b]
  · rw [if_pos c]
    rcases List.mem_cons.mp c with e | e
    · unfold mn mx
      repeat' split
      all_goals omega
    · have e := List.mem_singleton.mp e
      unfold mn mx
      repeat' split
      all_goals omega
  · rw [if_neg c]
    have h1 : z ≠ a := fun e => c (by rw [e]; exact List.mem_cons_self)
    have h2 : z ≠ b := fun e => c (by rw [e]; exact List.mem_cons_of_mem _ List.mem_cons_self)
    unfold mx
    repeat' split
    all_goals omega
section
variable {P : Program} {w : World} {K : PySem.W.Frag} {mg : Str → Option Value} {base : Heap}
theorem ok_l_pair (T : Tx K mg) : FnOk P w K mg base CX0 1 T.f_l_pair T.d_l_pair ["one", "other"] spPairUp := by
  refine T.F_l_pair.ok sc_l_pair (fun vs H Q E h => ?_) (fun cdv A outer s H vs Q E hr h => ?_)
  · obtain ⟨a, b, rfl, _⟩ := h
    rfl
  obtain ⟨a, b, rfl, q⟩ := h
  refine ⟨_, (pss_one (ps_ret (pe_tup (pa_cons (pe_callB (call_min2 rfl) (by rfl) T.g_min (by decide +kernel) (pa_cons (pv 0) (pa_cons (pv 1) pa_nil))) (pa_cons (pe_callB (call_max2 rfl) (by rfl) T.g_max (by decide +kernel) (pa_cons (pv 0) (pa_cons (pv 1) pa_nil))) pa_nil))))), ?_⟩
  refine ⟨_, rfl, _, rfl, _, _, rfl, _, rfl, _, rfl, _, _, rfl, (by show 2 ≤ sizeLine; decide), fun p np => q p _ np (same_new np _) upd_same⟩
theorem ok_l_parts (T : Tx K mg) : FnOk P w K mg base CX0 1 T.f_l_parts T.d_l_parts ["many", "ties", "lot"] (spParts K) := by
  refine T.F_l_parts.ok sc_l_parts (fun vs H Q E h => ?_) (fun cdv A outer s H vs Q E hr h => ?_)
  · obtain ⟨t, o, n, ps, ls, rfl, _⟩ := h
    rfl
  obtain ⟨t, o, n, ps, ls, rfl, ⟨vs, htv, hv⟩, hp, n0, n1, ho, hl, q⟩ := h
  have hvl := hv.len
  refine ⟨_, (pss_cons (ps_set (i := 3) sc_l_parts.nd rfl (.inr rfl) (pe_listRg rfl (by rfl) T.g_list (prg_1 (by rfl) T.g_range (pv 0))))
    (pss_cons (ps_for PassesOwn.never rfl (pi_tup (pv 2)) (pg_name (i := 4) sc_l_parts.nd rfl (.inl rfl))
      (pss_cons (ps_asg (pe_tup (pa_cons (pe_ix ix_list (pv 3) (pe_ix ix_seq (pe_ix ix_tup (pv 1) (pv 4) (fun _ _ => rfl)) pe_int (fun _ _ => rfl)) (fun _ _ => rfl)) (pa_cons (pe_ix ix_list (pv 3) (pe_ix ix_seq (pe_ix ix_tup (pv 1) (pv 4) (fun _ _ => rfl)) pe_int (fun _ _ => rfl)) (fun _ _ => rfl)) pa_nil))) (pg_tup rfl (pgs_cons (pg_name (i := 5) sc_l_parts.nd rfl (by first | exact .inl rfl | exact .inr rfl)) (pgs_cons (pg_name (i := 6) sc_l_parts.nd rfl (by first | exact .inl rfl | exact .inr rfl)) pgs_nil))))
        (pss_one (ps_asg (pe_lc (own := [("head", 7)]) (g := (gName 7)) (tt := tYes) (te := (tIf (tTest (tOp (rIn K false) (tVar 7) (tTup (tCons (tVar 5) (tCons (tVar 6) tNil))))) (tCB _ (tCons (tVar 5) (tCons (tVar 6) tNil))) (tVar 7))) rfl sc_l_parts.nd (pi_list (pv 3)) (blkOk_by (own := [("head", 7)]) (N := N_l_parts) (sc := defScope s_l_parts) (by decide +kernel)) (fun _ _ _ _ _ => (pg_name (i := 7) sc_l_parts.nd rfl (by first | exact .inl rfl | exact .inr rfl))) (fun _ _ _ _ _ => pts_nil) (fun _ _ _ _ _ => (pe_ifExp (pt_cmpR op_in_seq (pv 7) (pe_tup (pa_cons (pv 5) (pa_cons (pv 6) pa_nil))) (by rfl)) (pe_callB (call_min2 rfl) (by rfl) T.g_min (by decide +kernel) (pa_cons (pv 5) (pa_cons (pv 6) pa_nil))) (pv 7)))) (pg_name (i := 3) sc_l_parts.nd rfl (by first | exact .inl rfl | exact .inr rfl))))))
    (pss_one (ps_ret (pe_lc (own := [("head", 7)]) (g := (gName 7)) (tt := tYes) (te := (tCB (rTupOf K) (tCons (tLc (iRng1 (tCons (tVar 0) tNil)) (gName 8) (tTest (tOp rEq (tOp (rIxL K) (tVar 3) (tVar 8)) (tVar 7))) (tVar 8) [8]) tNil))) rfl sc_l_parts.nd (pi_list (pe_callB (cr_sortedSet rfl) (by rfl) T.g_sorted (by decide +kernel) (pa_cons (pe_callTy (cr_setI rfl) (by rfl) T.g_set (by decide +kernel) (pa_cons (pv 3) pa_nil)) pa_nil))) (blkOk_by (own := [("head", 7)]) (N := N_l_parts) (sc := defScope s_l_parts) (by decide +kernel)) (fun _ _ _ _ _ => (pg_name (i := 7) sc_l_parts.nd rfl (by first | exact .inl rfl | exact .inr rfl))) (fun _ _ _ _ _ => pts_nil) (fun _ _ _ _ _ => (pe_callTy call_tuple_of (by rfl) T.g_tuple (by decide +kernel) (pa_cons (pe_lc (own := [("place", 8)]) (g := (gName 8)) (tt := (tTest (tOp rEq (tOp (rIxL K) (tVar 3) (tVar 8)) (tVar 7)))) (te := (tVar 8)) rfl sc_l_parts.nd (pi_range1 (by rfl) T.g_range (pa_cons (pv 0) pa_nil)) (blkOk_by (own := [("place", 8)]) (N := N_l_parts) (sc := scHead) (by decide +kernel)) (fun _ _ _ _ _ => (pg_name (i := 8) sc_l_parts.nd rfl (.inl rfl))) (fun _ _ _ _ _ => (pts_one (pt_cmpR op_eq (pe_ix ix_list (pv 3) (pv 8) (fun _ _ => rfl)) (pv 7) (nomark _)))) (fun _ _ _ _ _ => (pv 8))) pa_nil)))))))), ?_⟩
  have good : ∀ i, (hfold n ((ls.take i).map (gt ps))).length = n.toNat ∧ ∀ k ∈ hfold n ((ls.take i).map (gt ps)), 0 ≤ k ∧ k < n := fun i => hfold_good (n := n) fun p hp' => by
    obtain ⟨k, hk1, e⟩ := List.mem_map.mp hp'
    rw [← e]
    exact hp _ (getD_mem (hl k (List.mem_of_mem_take hk1)))
  refine ⟨_, rfl, n, rfl, RgOk.of_le (by decide) (by omega) (by decide) n0, fun D nD => ?_⟩
  rw [rg_rn]
  have s1 : Same H (L2.upd H D (.lst ((rn n).map V.int))) := same_new nD _
  refine ⟨_, rfl, o, rfl, ⟨_, SqT.of (s1 _ _ ho)⟩, for_tup (xs := nV ls) (fun i σ H' => ∃ D y4 y5 y6, σ = [some (.int n), some (.ref t), some (.ref o), some (.ref D), y4, y5, y6, none, none] ∧ Same H H' ∧ H D = none ∧ H' D = some (.lst ((hfold n ((ls.take i).map (gt ps))).map V.int)))
    ⟨D, none, none, none, rfl, s1, nD, upd_same⟩ (fun i σ H' _ ⟨_, _, _, _, _, sm, _⟩ => SqT.of (sm _ _ ho)) ?_ ?_⟩
  · intro i y σ H1 hi ⟨D1, y4, y5, y6, e, sm, nD1, hD1⟩
    subst e
    obtain ⟨k, ek, ey⟩ := nV_get hi
    subst ey
    have hkl := hl k (List.mem_of_getElem? ek)
    have lv : k < vs.length := by omega
    obtain ⟨r, a, hri, ea, ha⟩ := (hv.same sm).get (List.getElem?_eq_getElem lv)
    have evk : vs[k]? = some (.ref a) := by rw [List.getElem?_eq_getElem lv, ea]
    have egt : gt ps k = r := by
      unfold gt
      rw [List.getD_eq_getElem?_getD, hri]
      rfl
    have gd := good i
    have ir : inR (hfold n ((ls.take i).map (gt ps))).length r := by
      rw [gd.1]
      exact hp r (List.mem_of_getElem? hri)
    have enext : (ls.take (i + 1)).map (gt ps) = (ls.take i).map (gt ps) ++ [r] := by
      rw [List.take_add_one, ek, List.map_append, ← egt]
      rfl
    have ef : hfold n ((ls.take (i + 1)).map (gt ps)) = hstep (hfold n ((ls.take i).map (gt ps))) r := by
      rw [enext, hfold_snoc]
    generalize eh : hfold n ((ls.take i).map (gt ps)) = hs at *
    have sT : SqT K H1 t vs := SqT.of (sm _ _ htv)
    have sA : SqT K H1 a [.int r.1, .int r.2] := SqT.of ha
    have sL : SqL K H1 D1 (hs.map V.int) := SqL.of hD1
    refine ⟨_, rfl, _, rfl, _, rfl, t, vs, _, _, rfl, rfl, sT, atI_nat evk, .inr (.inl ⟨a, _, 0, _, rfl, rfl, sA, atI_nat (j := 0) rfl, D1, _, _, _, rfl, rfl, sL, ix_at ir.1 ir.2.1, ?_⟩)⟩
    refine ⟨_, rfl, _, rfl, _, rfl, t, vs, _, _, rfl, rfl, sT, atI_nat evk, .inr (.inl ⟨a, _, 1, _, rfl, rfl, sA, atI_nat (j := 1) rfl, D1, _, _, _, rfl, rfl, sL, ix_at ir.2.2.1 ir.2.2.2, ?_⟩)⟩
    refine ⟨(by show 2 ≤ sizeLine; decide), fun S nS => ⟨S, _, rfl, SqT.of upd_same, rfl, _, _, rfl, _, _, rfl, rfl, ?_⟩⟩
    have s2 : Same H1 (L2.upd H1 S (.tup [.int (ix hs r.1), .int (ix hs r.2)])) := same_new nS _
    have hD2 := s2 _ _ hD1
    generalize L2.upd H1 S (.tup [.int (ix hs r.1), .int (ix hs r.2)]) = H2 at *
    refine ⟨_, rfl, D1, rfl, ⟨_, SqL.of hD2⟩, fun D2 nD2 => lc_list (xs := hs.map V.int) (fun j H' => Same H2 H' ∧ H' D2 = some (.lst (((hstep hs r).take j).map V.int))) ⟨same_new nD2 _, upd_same⟩ (fun j H' _ ⟨sj, _⟩ => SqL.of (sj _ _ hD2)) ?_ ?_⟩
    · intro j z H' hj ⟨sj, hDj⟩
      have lj : j < hs.length := by
        have q1 := (List.getElem?_eq_some_iff.mp hj).1
        rw [List.length_map] at q1
        exact q1
      have ez : z = .int hs[j] := by
        rw [List.getElem?_map, List.getElem?_eq_getElem lj] at hj
        exact (Option.some.inj hj).symm
      subst ez
      have fin : ∀ (z : Int) (H3 : Hp), Same H' H3 → z = (if hs[j] = mx (ix hs r.1) (ix hs r.2) then mn (ix hs r.1) (ix hs r.2) else hs[j]) → ∃ acc, H3 D2 = some (.lst acc) ∧ acc.length < sizeLine ∧ (Same H2 (L2.upd H3 D2 (.lst (acc ++ [.int z]))) ∧ (L2.upd H3 D2 (.lst (acc ++ [.int z]))) D2 = some (.lst (((hstep hs r).take (j + 1)).map V.int))) := fun z H3 s3 ez => by
        refine ⟨_, s3 _ _ hDj, small1000 ?_, fun b o hb => ?_, ?_⟩
        · rw [List.length_map, List.length_take, hstep_len, gd.1]
          omega
        · rw [upd_ne (ne_of_none hb nD2)]
          exact s3 _ _ (sj _ _ hb)
        · rw [upd_same, List.take_add_one, ez]
          unfold hstep
          rw [List.getElem?_map, List.getElem?_eq_getElem lj, List.map_append]
          rfl
      refine ⟨rfl, ?_⟩
      refine ⟨_, rfl, _, rfl, _, rfl, (by show 2 ≤ sizeLine; decide), fun S nS => ⟨S, _, rfl, .inr (SqT.of upd_same), rfl, flat_ints [ix hs r.1, ix hs r.2], _, rfl, ?_⟩⟩
      have sS := same_new nS (.tup [.int (ix hs r.1), .int (ix hs r.2)])
      have e1 : inV (.int hs[j]) [.int (ix hs r.1), .int (ix hs r.2)] = decide (hs[j] ∈ [ix hs r.1, ix hs r.2]) := in_intsL (gs := [ix hs r.1, ix hs r.2])
      rw [if_neg Bool.false_ne_true, e1]
      have tw := two_in (z := hs[j]) (a := ix hs r.1) (b := ix hs r.2)
      by_cases c : hs[j] ∈ [ix hs r.1, ix hs r.2]
      · rw [decide_eq_true c]
        rw [if_pos c] at tw
        exact iteT ⟨_, rfl, _, rfl, _, _, rfl, fin _ _ sS tw⟩
      · rw [decide_eq_false c]
        rw [if_neg c] at tw
        exact iteF ⟨_, rfl, fin _ _ sS tw⟩
    · intro H3 ⟨sj, hDj⟩
      rw [List.take_of_length_le (by rw [hstep_len, List.length_map]; exact Nat.le_refl _)] at hDj
      refine ⟨D2, _, _, _, rfl, sm.trans (s2.trans sj), (sm.trans s2).free nD2, ?_⟩
      rw [ef]
      exact hDj
  · intro σ H1 ⟨D1, y4, y5, y6, e, sm, nD1, hD1⟩
    subst e
    have gd := good (nV ls).length
    rw [nV_len, List.take_of_length_le (Nat.le_refl _)] at hD1 gd
    generalize eh : hfold n (ls.map (gt ps)) = hs at *
    have lh : hs.length ≤ 60 := by rw [gd.1]; omega
    refine ⟨_, rfl, D1, hs, rfl, SqL.of hD1, by omega, fun a c na hc => ?_⟩
    have s2 : Same H1 (L2.upd H1 a (SetO w a (fun j => decide (j ∈ hs)) c)) := same_new na _
    refine ⟨a, _, c, rfl, upd_same, by omega, fun fs F hsort hmem hlen nF => ?_⟩
    have ef : fs = firstsL n hs := sorted_unique hsort (firsts_sorted n hs) fun k => by
      rw [hmem k, firsts_mem gd.2 k, decide_eq_true_eq]
    subst ef
    have s3 : Same H1 (L2.upd (L2.upd H1 a (SetO w a (fun j => decide (j ∈ hs)) c)) F (.lst ((firstsL n hs).map V.int))) := s2.trans (same_new nF _)
    have hF : (L2.upd (L2.upd H1 a (SetO w a (fun j => decide (j ∈ hs)) c)) F (.lst ((firstsL n hs).map V.int))) F = some (.lst ((firstsL n hs).map V.int)) := upd_same
    refine ⟨F, rfl, ⟨_, SqL.of hF⟩, fun L nL' => ?_⟩
    obtain ⟨H2, e2⟩ : ∃ H2 : Hp, H2 = L2.upd (L2.upd H1 a (SetO w a (fun j => decide (j ∈ hs)) c)) F (.lst ((firstsL n hs).map V.int)) := ⟨_, rfl⟩
    rw [← e2] at s3 hF
    have nL : H2 L = none := by
      rw [e2]
      exact nL'
    have sL0 : Same H2 (L2.upd (L2.upd (L2.upd H1 a (SetO w a (fun j => decide (j ∈ hs)) c)) F (.lst ((firstsL n hs).map V.int))) L (.lst [])) := by
      rw [e2]
      exact same_new nL' _
    have hD2 := s3 _ _ hD1
    have fl : (firstsL n hs).length ≤ 60 := by
      have := List.length_filter_le (fun k => decide (k ∈ hs)) (rn n)
      rw [rn_len] at this
      show ((rn n).filter _).length ≤ 60
      omega
    refine lc_list (xs := (firstsL n hs).map V.int) (fun j H' => Same H2 H' ∧ ∃ acc, H' L = some (.lst acc) ∧ acc.length = j) ⟨sL0, [], upd_same, rfl⟩ (fun j H' _ ⟨sj, _⟩ => SqL.of (sj _ _ hF)) ?_ ?_
    · intro j y H' hj ⟨sj, acc, hL, la⟩
      have lj : j < (firstsL n hs).length := by
        have q1 := (List.getElem?_eq_some_iff.mp hj).1
        rw [List.length_map] at q1
        exact q1
      have ey : y = .int (firstsL n hs)[j] := by
        rw [List.getElem?_map, List.getElem?_eq_getElem lj] at hj
        exact (Option.some.inj hj).symm
      subst ey
      refine ⟨rfl, ?_⟩
      refine ⟨_, rfl, n, rfl, by omega, by omega, fun Z nZ => ?_⟩
      refine lc_range (lo := 0) (n := n.toNat) (fun i' H3 => Same H' H3 ∧ ∃ zc, H3 Z = some (.lst zc) ∧ zc.length ≤ i') ⟨same_new nZ _, [], upd_same, Nat.le_refl _⟩ ?_ ?_
      · intro i' H3 hi' ⟨s4, zc, hZ, lz⟩
        have hD3 := s4 _ _ (sj _ _ hD2)
        refine ⟨rfl, ?_⟩
        refine ⟨_, rfl, _, rfl, D1, _, _, _, rfl, rfl, SqL.of hD3, ix_at (by omega) (by omega), ?_⟩
        refine ⟨_, rfl, rfl, _, rfl, ?_⟩
        refine ite2 (fun _ => ?_) (fun _ => ⟨s4, zc, hZ, by omega⟩)
        refine ⟨_, rfl, zc, hZ, small1000 (by omega), fun b u hb => ?_, _, upd_same, by rw [List.length_append]; show zc.length + 1 ≤ _; omega⟩
        rw [upd_ne (ne_of_none hb nZ)]
        exact s4 _ _ hb
      · intro H3 ⟨s4, zc, hZ, lz⟩
        refine ⟨Z, zc, rfl, .inl ⟨SqL.of hZ, fun u nu => ?_⟩⟩
        have s5 := s4.trans (same_new nu (.tup zc))
        refine ⟨acc, s5 _ _ hL, small1000 (by omega), fun b u' hb => ?_, _, upd_same, by rw [List.length_append, la]; rfl⟩
        rw [upd_ne (ne_of_none hb nL)]
        exact s5 _ _ (sj _ _ hb)
    · intro H' ⟨sj, acc, hL, la⟩
      refine q L acc H' ((sm.trans s3).free nL) (sm.trans (s3.trans sj)) hL ?_
      rw [la, List.length_map]
end
end K6
set_option Elab.async false
set_option linter.all false
set_option maxRecDepth 100000
set_option maxHeartbeats 8000000
/-! Bridges by parts. -/
namespace K6
open PySem L2 Rl
theorem rg_nV (m : Nat) : rgV 0 ((m : Nat) : Int) = nV (List.range m) := by
  unfold rgV nV
  rw [Int.sub_zero, Int.toNat_natCast]
  exact List.map_congr_left fun i _ => by rw [Int.zero_add]
def spLBr : Sp := fun vs H Q _ => ∃ (t : Addr) (n : Int) (ps : List (Int × Int)), vs = [.int n, .ref t] ∧ TiesAt H t ps ∧ (∀ p ∈ ps, inR n.toNat p) ∧ 0 ≤ n ∧ n ≤ 10 ∧ ps.length ≤ 16 ∧ ∀ o l H', Same H H' → H' o = some (.tup (nV l)) → BrOk ps l → Q (.ref o) H'
section
variable {P : Program} {w : World} {K : PySem.W.Frag} {mg : Str → Option Value} {base : Heap}
theorem ok_l_bridges (T : Tx K mg) : FnOk P w K mg base CX0 2 T.f_l_bridges T.d_l_bridges ["many", "ties"] spLBr := by
  refine T.F_l_bridges.ok sc_l_bridges (fun vs H Q E h => ?_) (fun cdv A outer s H vs Q E hr h => ?_)
  · obtain ⟨t, n, ps, rfl, _⟩ := h
    rfl
  obtain ⟨t, n, ps, rfl, ht, hr', n0, n1, l16, q⟩ := h
  obtain ⟨vs, htv, hv⟩ := id ht
  have hvl := hv.len
  refine ⟨_, (pss_cons (ps_set (i := 2) sc_l_bridges.nd rfl (.inr rfl) (pe_tupRg rfl (by rfl) T.g_tuple (prg_1 (by rfl) T.g_range (pe_callB call_len_seq (by rfl) T.g_len PySem.boot_len (pa_cons (pv 1) pa_nil)))))
    (pss_cons (ps_set (i := 3) sc_l_bridges.nd rfl (.inr rfl) (pe_callB call_len_seq (by rfl) T.g_len PySem.boot_len (pa_cons (pe_call (ok_l_parts T) (hr.mono (by decide)) (by rfl) T.m_l_parts T.F_l_parts.kp T.b_l_parts .nil pass0 (pa_cons (pv 0) (pa_cons (pv 1) (pa_cons (pv 2) pa_nil)))) pa_nil)))
    (pss_one (ps_ret (pe_callTy call_tuple_of (by rfl) T.g_tuple (by decide +kernel) (pa_cons (pe_lc (own := [("tie", 4)]) (g := (gName 4)) (tt := (tTest (tOp (rI0 fun i j => .bl (decide (j < i))) (tCB (Evl.rLenS K) (tCons (tCall (spParts K) [] E0 (tCons (tVar 0) (tCons (tVar 1) (tCons (tOp (rCatA K) (tSl (rSlA K) (tVar 2) tNoPart (tPart (tVar 4))) (tSl (rSlA K) (tVar 2) (tPart (tOp (rI0 fun i j => .int (i + j)) (tVar 4) (tC (.int 1)))) tNoPart)) tNil)))) tNil)) (tVar 3)))) (te := (tVar 4)) rfl sc_l_bridges.nd (pi_tup (pv 2)) (blkOk_by (own := [("tie", 4)]) (N := N_l_bridges) (sc := defScope s_l_bridges) (by decide +kernel)) (fun _ _ _ _ _ => (pg_name (i := 4) sc_l_bridges.nd rfl (.inl rfl))) (fun _ _ _ _ _ => (pts_one (pt_cmpR op_gt (pe_callB call_len_seq (by rfl) T.g_len PySem.boot_len (pa_cons (pe_call (ok_l_parts T) (hr.mono (by decide)) (by rfl) T.m_l_parts T.F_l_parts.kp T.b_l_parts .nil pass0 (pa_cons (pv 0) (pa_cons (pv 1) (pa_cons (pe_op op_catA (pe_slice sl_tupA (pv 2) po_none (po_some (pv 4))) (pe_slice sl_tupA (pv 2) (po_some (pe_op op_add (pv 4) pe_int)) po_none)) pa_nil)))) pa_nil)) (pv 3) (nomark _)))) (fun _ _ _ _ _ => (pv 4))) pa_nil)))))), ?_⟩
  refine ⟨_, rfl, t, _, rfl, .inr (SqT.of htv), _, rfl, RgOk.of_le (by decide) (by omega) (by decide) (by omega), fun E nE => ?_⟩
  rw [rg_nV, hvl]
  have s1 := same_new nE (.tup (nV (List.range ps.length)))
  have hE0 : (L2.upd H E (.tup (nV (List.range ps.length)))) E = some (.tup (nV (List.range ps.length))) := upd_same
  generalize L2.upd H E (.tup (nV (List.range ps.length))) = H1 at *
  refine ⟨_, rfl, _, rfl, _, rfl, t, E, n, ps, List.range ps.length, rfl, ht.same s1, hr', n0, n1, hE0, fun k hk => List.mem_range.mp hk, fun L us H2 nL s2 hL lu => ⟨L, us, rfl, .inl (SqL.of hL), ?_⟩⟩
  rw [rng_map] at lu
  have hE2 := s2 _ _ hE0
  have s02 := s1.trans s2
  refine ⟨_, rfl, E, rfl, ⟨_, SqT.of hE2⟩, fun Z nZ => ?_⟩
  refine lc_tup (xs := nV (List.range ps.length)) (fun i H' => Same H2 H' ∧ H' Z = some (.lst (nV ((List.range i).filter fun k => decide ((firstsL n (hfold n ps)).length < (firstsL n (hfold n (ps.eraseIdx k))).length))))) ⟨same_new nZ _, upd_same⟩ (fun i H' _ ⟨sm, _⟩ => SqT.of (sm _ _ hE2)) ?_ ?_
  · intro i y H' hi ⟨sm, hZ⟩
    obtain ⟨k, ek, ey⟩ := nV_get hi
    subst ey
    have lk : i < ps.length := by
      have q1 := (List.getElem?_eq_some_iff.mp ek).1
      rw [List.length_range] at q1
      exact q1
    have eki : k = i := by
      rw [List.getElem?_range lk] at ek
      exact (Option.some.inj ek).symm
    subst eki
    have hE3 := sm _ _ hE2
    have k0 : (0 : Int) ≤ (k : Int) := by omega
    refine ⟨rfl, ?_⟩
    refine ⟨_, rfl, _, rfl, _, rfl, ?_⟩
    refine ⟨_, rfl, (k : Int), rfl, sl_go hE3 fun p1 H3 s3 h3 => ?_⟩
    refine ⟨_, rfl, _, rfl, (k : Int), 1, rfl, rfl, _, rfl, ?_⟩
    dsimp only [tNoPart]
    refine sl_go (s3 _ _ hE3) fun p2 H4 s4 h4 => ?_
    rw [cut_hi _ _ k0, Int.toNat_natCast] at h3
    rw [cut_lo _ _ (show (0 : Int) ≤ (k : Int) + 1 by omega), show ((k : Int) + 1).toNat = k + 1 by omega] at h4
    refine cat_go (s4 _ _ h3) h4 (by rw [List.length_take, List.length_drop, nV_len, List.length_range]; omega) fun p3 H5 s5 h5 => ?_
    have e5 : (nV (List.range ps.length)).take k ++ (nV (List.range ps.length)).drop (k + 1) = nV ((List.range ps.length).eraseIdx k) := by
      rw [← List.eraseIdx_eq_take_drop_succ]
      exact erase_map _ _ _
    rw [e5] at h5
    have s35 := s3.trans (s4.trans s5)
    refine ⟨t, p3, n, ps, _, rfl, (ht.same s02).same (sm.trans s35), hr', n0, n1, h5, fun j hj => (mem_rng_erase.mp hj).1, fun G gs H6 nG s6 hG lg => ⟨G, gs, rfl, .inl (SqL.of hG), ?_⟩⟩
    rw [← erase_map, rng_map] at lg
    have s36 := s35.trans s6
    refine ⟨_, rfl, _, _, rfl, rfl, _, rfl, ?_⟩
    have fs := filt_rng (fun k => decide ((firstsL n (hfold n ps)).length < (firstsL n (hfold n (ps.eraseIdx k))).length)) k
    have ec : decide (((us.length : Nat) : Int) < ((gs.length : Nat) : Int)) = decide ((firstsL n (hfold n ps)).length < (firstsL n (hfold n (ps.eraseIdx k))).length) := by
      rw [lu, lg, Bool.eq_iff_iff, decide_eq_true_eq, decide_eq_true_eq]
      omega
    rw [ec]
    cases c4 : decide ((firstsL n (hfold n ps)).length < (firstsL n (hfold n (ps.eraseIdx k))).length) with
    | false =>
      refine iteF ⟨sm.trans s36, ?_⟩
      rw [fs, if_neg (by rw [c4]; decide), List.append_nil]
      exact s36 _ _ hZ
    | true =>
      refine iteT ⟨_, rfl, _, s36 _ _ hZ, ?_, fun b o hb => ?_, ?_⟩
      · rw [nV_len]
        refine small1000 (Nat.le_trans (List.length_filter_le ..) ?_)
        rw [List.length_range]
        omega
      · rw [upd_ne (ne_of_none hb nZ)]
        exact s36 _ _ (sm _ _ hb)
      · rw [upd_same, fs, if_pos c4, nV_app]
        rfl
  · intro H' ⟨sm, hZ⟩
    rw [nV_len, List.length_range] at hZ
    refine ⟨Z, _, rfl, .inl ⟨SqL.of hZ, fun o no => ?_⟩⟩
    refine q o _ _ (s02.trans (sm.trans (same_new no _))) upd_same ⟨_, fun k hk => ?_, rfl⟩
    rw [decide_eq_true_eq]
    exact bridge_count hr' hk
end
end K6
set_option Elab.async false
set_option linter.all false
set_option maxRecDepth 100000
set_option maxHeartbeats 8000000
/-! Whether a tie lies in a ring, by own walks. -/
namespace K6
open PySem L2 Rl
theorem nodup_len {n : Int} {l : List Int} (nd : l.Nodup) (h : ∀ z ∈ l, 0 ≤ z ∧ z < n) : l.length ≤ n.toNat := by
  have rnd : (rn n).Nodup := (rn_sorted n).imp fun {x y} l e => by omega
  have p : ((rn n).filter fun k => decide (k ∈ l)).Perm l := (List.perm_ext_iff_of_nodup (rnd.filter _) nd).mpr fun k => by
    rw [List.mem_filter, decide_eq_true_eq]
    exact ⟨fun q => q.2, fun q => ⟨mem_rn.mpr (h k q), q⟩⟩
  have e := List.length_filter_le (fun k => decide (k ∈ l)) (rn n)
  rw [p.length_eq, rn_len] at e
  exact e
/-- what is true while places are met -/
structure Met (ps : List (Int × Int)) (n : Int) (k : Nat) (u : Int) (ss : List Int) : Prop where
  conn : ∀ z ∈ ss, Gx.Conn ps (· ≠ k) u z
  first : u ∈ ss
  nodup : ss.Nodup
  rng : ∀ z ∈ ss, 0 ≤ z ∧ z < n
def Shut (ps : List (Int × Int)) (k : Nat) (ss : List Int) (z : Int) : Prop := ∀ j q, j ≠ k → Gx.At ps j z q → q ∈ ss
theorem Met.more {ps : List (Int × Int)} {n : Int} {k : Nat} {u z q : Int} {ss : List Int} {j : Nat} (h : Met ps n k u ss) (hz : z ∈ ss) (hj : j ≠ k) (a : Gx.At ps j z q) (hq : q ∉ ss) (q0 : 0 ≤ q ∧ q < n) : Met ps n k u (ss ++ [q]) where
  conn := fun x hx => by
    rcases List.mem_append.mp hx with m | m
    · exact h.conn x m
    · rw [List.mem_singleton.mp m]
      exact .step (h.conn z hz) hj a
  first := List.mem_append.mpr (.inl h.first)
  nodup := List.nodup_append.mpr ⟨h.nodup, List.nodup_cons.mpr ⟨List.not_mem_nil, List.nodup_nil⟩, fun x hx y hy e => hq (by rw [← List.mem_singleton.mp hy, ← e]; exact hx)⟩
  rng := fun x hx => by
    rcases List.mem_append.mp hx with m | m
    · exact h.rng x m
    · rw [List.mem_singleton.mp m]
      exact q0
theorem met_all {ps : List (Int × Int)} {k : Nat} {u : Int} {ss : List Int} (hu : u ∈ ss) (h : ∀ z ∈ ss, Shut ps k ss z) {v : Int} (c : Gx.Conn ps (· ≠ k) u v) : v ∈ ss := by
  induction c with
  | refl => exact hu
  | step _ hj a ih => exact h _ ih _ _ hj a
def spRound : Sp := fun vs H Q _ => ∃ (t : Addr) (n : Int) (ps : List (Int × Int)) (k : Nat), vs = [.int n, .ref t, .int (k : Int)] ∧ TiesAt H t ps ∧ (∀ p ∈ ps, okP n p) ∧ n ≤ 10 ∧ ps.length ≤ 16 ∧ k < ps.length ∧ ∀ b H', Same H H' → (b = true ↔ Gx.Rnd ps k) → Q (.bl b) H'
section
variable {P : Program} {w : World} {K : PySem.W.Frag} {mg : Str → Option Value} {base : Heap}
theorem ok_l_is_round (T : Tx K mg) : FnOk P w K mg base CX0 1 T.f_l_is_round T.d_l_is_round ["many", "ties", "tie"] spRound := by
  refine T.F_l_is_round.ok sc_l_is_round (fun vs H Q E h => ?_) (fun cdv A outer s H vs Q E hr h => ?_)
  · obtain ⟨t, n, ps, k, rfl, _⟩ := h
    rfl
  obtain ⟨t, n, ps, k, rfl, ht, hp, n1, l16, lk, q⟩ := h
  obtain ⟨vs, htv, hv⟩ := id ht
  have hvl := hv.len
  refine ⟨_, (pss_cons (ps_asg (pe_ix ix_tup (pv 1) (pv 2) (fun _ _ => rfl)) (pg_tup rfl (pgs_cons (pg_name (i := 3) sc_l_is_round.nd rfl (.inl rfl)) (pgs_cons (pg_name (i := 4) sc_l_is_round.nd rfl (.inl rfl)) pgs_nil))))
    (pss_cons (ps_par (i := 5) (j := 6) rfl sc_l_is_round.nd rfl rfl (by decide) rfl rfl (pa_cons (pe_lst (pa_cons (pv 3) pa_nil)) (pa_cons (pe_lst (pa_cons (pv 3) pa_nil)) pa_nil)) (by rfl))
    (pss_cons (ps_while PassesOwn.never (pt_cmpR op_gt (pe_callB call_len_seq (by rfl) T.g_len PySem.boot_len (pa_cons (pv 6) pa_nil)) pe_int (nomark _))
      (pss_cons (ps_set (i := 7) sc_l_is_round.nd rfl (.inl rfl) (pe_bm0 PySem.F.plainAttrs_list PySem.F.slot_list_pop PySem.F.type_list_pop mt_pop (pv 6)))
        (pss_one (ps_for PassesOwn.never rfl (pi_enT (by rfl) T.g_enumerate (pa_cons (pv 1) pa_nil)) (pg_tup rfl (pgs_cons (pg_name (i := 8) sc_l_is_round.nd rfl (.inl rfl)) (pgs_cons (pg_tup rfl (pgs_cons (pg_name (i := 9) sc_l_is_round.nd rfl (.inl rfl)) (pgs_cons (pg_name (i := 10) sc_l_is_round.nd rfl (.inl rfl)) pgs_nil))) pgs_nil)))
          (pss_one (ps_if (PW.pt (pw_and (pt_cmpR op_ne (pv 8) (pv 2) (nomark _)) (pw_and (pt_cmpR op_in_seq (pv 7) (pe_tup (pa_cons (pv 9) (pa_cons (pv 10) pa_nil))) (by rfl)) (pw_and1 (pt_cmpR op_notIn_seq (pe_op op_sub (pe_op op_add (pv 9) (pv 10)) (pv 7)) (pv 5) (by rfl))))))
              (pss_cons (ps_expr (pe_bm PySem.F.plainAttrs_list PySem.F.slot_list_append PySem.F.type_list_append mt_append (pv 5) (pa_cons (pe_op op_sub (pe_op op_add (pv 9) (pv 10)) (pv 7)) pa_nil)))
                (pss_one (ps_expr (pe_bm PySem.F.plainAttrs_list PySem.F.slot_list_append PySem.F.type_list_append mt_append (pv 6) (pa_cons (pe_op op_sub (pe_op op_add (pv 9) (pv 10)) (pv 7)) pa_nil)))))
              pss_nil))))))
    (pss_one (ps_ret (pe_or (pe_cmpR op_eq (pv 3) (pv 4) (nomark _)) (pe_one (pe_cmpR op_in_seq (pv 4) (pv 5) (by rfl))))))))), ?_⟩
  have lv : k < vs.length := by omega
  obtain ⟨⟨u, v⟩, a, hri, ea, ha⟩ := hv.get (List.getElem?_eq_getElem lv)
  have evk : vs[k]? = some (.ref a) := by rw [List.getElem?_eq_getElem lv, ea]
  obtain ⟨u0, uv, v1⟩ := hp _ (List.mem_of_getElem? hri)
  refine ⟨_, rfl, _, rfl, t, vs, (k : Int), .ref a, rfl, rfl, SqT.of htv, atI_nat evk, a, _, rfl, SqT.of ha, rfl, _, _, rfl, _, _, rfl, rfl, ?_⟩
  refine ⟨_, rfl, (by show 1 ≤ sizeLine; decide), fun S nS => ⟨_, rfl, (by show 1 ≤ sizeLine; decide), fun W nW => ⟨_, _, rfl, ?_⟩⟩⟩
  have sS := same_new nS (.lst [.int u])
  have sW := same_new nW (.lst [.int u])
  have hS0 := sW _ _ (show (L2.upd H S (.lst [.int u])) S = some (.lst [.int u]) from upd_same)
  have hW0 : (L2.upd (L2.upd H S (.lst [.int u])) W (.lst [.int u])) W = some (.lst [.int u]) := upd_same
  have nSW : S ≠ W := ne_of_none (show (L2.upd H S (.lst [.int u])) S = some (.lst [.int u]) from upd_same) nW
  have nHW : H W = none := sS.free nW
  have s0 := sS.trans sW
  dsimp only
  generalize L2.upd (L2.upd H S (.lst [.int u])) W (.lst [.int u]) = H0 at *
  have u1 : u < n := by
    have uv' : u ≤ v := uv
    have v1' : v < n := v1
    omega
  refine ⟨fun m σ H' => ∃ y7 y8 y9 y10 ss ws, σ = [some (.int n), some (.ref t), some (.int (k : Int)), some (.int u), some (.int v), some (.ref S), some (.ref W), y7, y8, y9, y10] ∧ Same H H' ∧ H' S = some (.lst (ss.map V.int)) ∧ H' W = some (.lst (ws.map V.int)) ∧
      Met ps n k u ss ∧ (∀ z ∈ ws, z ∈ ss) ∧ (∀ z ∈ ss, z ∉ ws → Shut ps k ss z) ∧ ws.length ≤ ss.length ∧ m = 2 * (n.toNat - ss.length) + ws.length,
    ⟨_, none, none, none, none, [u], [u], rfl, s0, hS0, hW0, ⟨fun z hz => by rw [List.mem_singleton.mp hz]; exact .refl _, List.mem_cons_self, List.nodup_cons.mpr ⟨List.not_mem_nil, List.nodup_nil⟩, fun z hz => by rw [List.mem_singleton.mp hz]; exact ⟨u0, u1⟩⟩, fun z hz => hz, fun z hz h => absurd hz h, Nat.le_refl _, rfl⟩, ?_⟩
  intro m σ H1 ⟨y7, y8, y9, y10, ss, ws, e, sm, hS, hW, M, sub, shut, lws, em⟩
  subst e
  have lss := nodup_len M.nodup M.rng
  refine ⟨_, rfl, W, _, rfl, .inl (SqL.of hW), _, 0, rfl, rfl, _, rfl, ?_⟩
  rcases List.eq_nil_or_concat ws with ew | ⟨ws', hh, ew⟩
  · subst ew
    refine iteF ?_
    have hk : ps[k]? = some (u, v) := hri
    have rk : Gx.Rnd ps k ↔ v ∈ ss := by
      constructor
      · rintro ⟨r, er, c⟩
        rw [hk] at er
        cases er
        exact met_all M.first (fun z hz => shut z hz List.not_mem_nil) c
      · intro hm
        exact ⟨_, hk, M.conn v hm⟩
    have ed : decide (V.int u = V.int v) = decide (u = v) := by
      rw [Bool.eq_iff_iff, decide_eq_true_eq, decide_eq_true_eq]
      exact ⟨fun e => V.int.inj e, fun e => by rw [e]⟩
    refine ⟨_, rfl, _, rfl, rfl, _, rfl, ?_⟩
    dsimp only
    rw [ed]
    by_cases c : u = v
    · rw [decide_eq_true c]
      refine iteT (q true H1 sm ⟨fun _ => ⟨_, hk, by rw [c]; exact .refl _⟩, fun _ => rfl⟩)
    · rw [decide_eq_false c]
      refine iteF ⟨_, rfl, _, rfl, S, _, rfl, .inl (SqL.of hS), rfl, flat_ints _, ?_⟩
      rw [if_neg Bool.false_ne_true, in_intsL]
      exact q _ H1 sm (by rw [decide_eq_true_eq, rk])
  · rw [List.concat_eq_append] at ew
    subst ew
    have gt0 : decide ((0 : Int) < ((((ws' ++ [hh]).map V.int).length : Nat) : Int)) = true := by
      rw [List.length_map, List.length_append]
      exact decide_eq_true (by show (0 : Int) < ((ws'.length + 1 : Nat) : Int); omega)
    rw [gt0]
    refine iteT ⟨_, fun _ _ z => z, ?_⟩
    have gl : ((ws' ++ [hh]).map V.int)[((ws' ++ [hh]).map V.int).length - 1]? = some (.int hh) := by
      rw [List.length_map, List.length_append, List.map_append]
      show (ws'.map V.int ++ [V.int hh])[ws'.length + 1 - 1]? = _
      rw [Nat.add_sub_cancel, List.getElem?_append_right (by rw [List.length_map]; exact Nat.le_refl _), List.length_map, Nat.sub_self]
      rfl
    have dl : ((ws' ++ [hh]).map V.int).dropLast = ws'.map V.int := by rw [List.map_append]; exact List.dropLast_concat
    refine ⟨_, rfl, .inl ⟨rfl, _, SqL.of hW⟩, W, _, .int hh, rfl, rfl, hW, gl, ?_⟩
    rw [dl]
    have sm2 : Same H (L2.upd H1 W (.lst (ws'.map V.int))) := fun c o hc => by
      rw [upd_ne (ne_of_none hc nHW)]
      exact sm _ _ hc
    have hS2 : (L2.upd H1 W (.lst (ws'.map V.int))) S = some (.lst (ss.map V.int)) := by
      rw [upd_ne nSW]
      exact hS
    have hW2 : (L2.upd H1 W (.lst (ws'.map V.int))) W = some (.lst (ws'.map V.int)) := upd_same
    generalize L2.upd H1 W (.lst (ws'.map V.int)) = H2 at *
    have hin : hh ∈ ss := sub hh (List.mem_append.mpr (.inr List.mem_cons_self))
    have hhr := M.rng hh hin
    rw [List.length_append] at lws em
    have lws' : ws'.length + 1 ≤ ss.length := lws
    have em' : m = 2 * (n.toNat - ss.length) + (ws'.length + 1) := em
    refine ⟨_, rfl, t, _, rfl, SqT.of (sm2 _ _ htv), for_enT (fun i σ H' => ∃ y8 y9 y10 s2 w2, σ = [some (.int n), some (.ref t), some (.int (k : Int)), some (.int u), some (.int v), some (.ref S), some (.ref W), some (.int hh), y8, y9, y10] ∧ Same H H' ∧ H' S = some (.lst (s2.map V.int)) ∧ H' W = some (.lst (w2.map V.int)) ∧
        Met ps n k u s2 ∧ (∀ z ∈ w2, z ∈ s2) ∧ (∀ z ∈ s2, z ∉ w2 → z ≠ hh → Shut ps k s2 z) ∧ hh ∈ s2 ∧ (∀ j q, j < i → j ≠ k → Gx.At ps j hh q → q ∈ s2) ∧ w2.length + 1 ≤ s2.length ∧ 2 * (n.toNat - s2.length) + (w2.length + 1) ≤ m)
      ⟨y8, y9, y10, ss, ws', rfl, sm2, hS2, hW2, M, fun z hz => sub z (List.mem_append.mpr (.inl hz)), fun z hz h1 h2 => shut z hz fun h => by
        rcases List.mem_append.mp h with m' | m'
        · exact h1 m'
        · exact h2 (List.mem_singleton.mp m'), hin, fun j q hj => absurd hj (Nat.not_lt_zero j), lws', by omega⟩ (fun i σ H' ⟨_, _, _, _, _, _, sm, _⟩ => SqT.of (sm _ _ htv)) ?_ ?_⟩
    · intro i y Z σ H3 hi ⟨y8, y9, y10, s2, w2, e, sm3, hS3, hW3, M3, sub3, shut3, hin3, done3, lw3, em3⟩ nZ
      subst e
      obtain ⟨r, b, hri', ey, hb⟩ := (hv.same sm3).get hi
      subst ey
      have li : i < ps.length := by
        have q1 := (List.getElem?_eq_some_iff.mp hri').1
        exact q1
      have okr := hp r (List.mem_of_getElem? hri')
      have sZ := same_new nZ (.tup [.int (i : Nat), .ref b])
      have sm4 := sm3.trans sZ
      have hS4 := sZ _ _ hS3
      have hW4 := sZ _ _ hW3
      have hb4 := sZ _ _ hb
      refine ⟨Z, _, rfl, SqT.of upd_same, rfl, _, _, rfl, _, _, rfl, b, _, rfl, SqT.of hb4, rfl, _, _, rfl, _, _, rfl, rfl, rfl, ?_⟩
      generalize L2.upd H3 Z (.tup [.int (i : Nat), .ref b]) = H4 at *
      have egt : gt ps i = r := by
        unfold gt
        rw [List.getD_eq_getElem?_getD, hri']
        rfl
      have ati : ∀ q, Gx.At ps i hh q ↔ (hh = r.1 ∨ hh = r.2) ∧ q = r.1 + r.2 - hh := fun q => by
        rw [at_iff li, egt]
        unfold toQ
        rw [egt]
      have keep : ∀ H5, Same H4 H5 → (∀ q, i ≠ k → Gx.At ps i hh q → q ∈ s2) → ∃ (y8 y9 y10 : Option V) (s3 w3 : List Int), ([some (.int n), some (.ref t), some (.int (k : Int)), some (.int u), some (.int v), some (.ref S), some (.ref W), some (V.int hh), some (.int (i : Nat)), some (.int r.1), some (.int r.2)] : L2.St) = [some (.int n), some (.ref t), some (.int (k : Int)), some (.int u), some (.int v), some (.ref S), some (.ref W), some (.int hh), y8, y9, y10] ∧ Same H H5 ∧ H5 S = some (.lst (s3.map V.int)) ∧ H5 W = some (.lst (w3.map V.int)) ∧
          Met ps n k u s3 ∧ (∀ z ∈ w3, z ∈ s3) ∧ (∀ z ∈ s3, z ∉ w3 → z ≠ hh → Shut ps k s3 z) ∧ hh ∈ s3 ∧ (∀ j q, j < i + 1 → j ≠ k → Gx.At ps j hh q → q ∈ s3) ∧ w3.length + 1 ≤ s3.length ∧ 2 * (n.toNat - s3.length) + (w3.length + 1) ≤ m := fun H5 s5 hq =>
        ⟨_, _, _, s2, w2, rfl, sm4.trans s5, s5 _ _ hS4, s5 _ _ hW4, M3, sub3, shut3, hin3, fun j q hj hjk ha' => by
          by_cases c : j = i
          · subst c
            exact hq q hjk ha'
          · exact done3 j q (by omega) hjk ha', lw3, em3⟩
      have e1 : decide (V.int ((i : Nat) : Int) = V.int (k : Int)) = decide (i = k) := by
        rw [Bool.eq_iff_iff, decide_eq_true_eq, decide_eq_true_eq]
        exact ⟨fun e => Int.ofNat.inj (V.int.inj e), fun e => by rw [e]⟩
      refine ⟨_, rfl, _, rfl, rfl, _, rfl, ?_⟩
      rw [e1]
      by_cases c1 : i = k
      · rw [decide_eq_true c1]
        exact iteF (iteF (keep _ (fun _ _ e => e) fun q hik => absurd c1 hik))
      rw [decide_eq_false c1]
      refine iteT ⟨_, rfl, _, rfl, _, rfl, (by show 2 ≤ sizeLine; decide), fun Y nY => ⟨Y, _, rfl, .inr (SqT.of upd_same), rfl, flat_ints [r.1, r.2], _, rfl, ?_⟩⟩
      have sY := same_new nY (.tup [.int r.1, .int r.2])
      have e2 : inV (.int hh) [.int r.1, .int r.2] = decide (hh ∈ [r.1, r.2]) := in_intsL (gs := [r.1, r.2])
      rw [if_neg Bool.false_ne_true, e2]
      by_cases c2 : hh ∈ [r.1, r.2]
      · rw [decide_eq_true c2]
        have c2' : hh = r.1 ∨ hh = r.2 := by
          rcases List.mem_cons.mp c2 with z | z
          · exact .inl z
          · exact .inr (List.mem_singleton.mp z)
        have hS5 := sY _ _ hS4
        have hW5 := sY _ _ hW4
        refine iteT ⟨_, rfl, _, rfl, r.1, r.2, rfl, rfl, _, rfl, _, hh, rfl, rfl, _, rfl, S, _, rfl, .inl (SqL.of hS5), rfl, flat_ints _, _, rfl, ?_⟩
        dsimp only
        rw [if_pos rfl, in_intsL]
        by_cases c3 : r.1 + r.2 - hh ∈ s2
        · rw [decide_eq_true c3]
          exact iteF (keep _ sY fun q _ ha' => by rw [((ati q).mp ha').2]; exact c3)
        · rw [decide_eq_false c3]
          have qr : 0 ≤ r.1 + r.2 - hh ∧ r.1 + r.2 - hh < n := by
            obtain ⟨a1, a2, a3⟩ := okr
            omega
          have M4 := M3.more (j := i) hin3 c1 ((ati _).mpr ⟨c2', rfl⟩) c3 qr
          have l4 := nodup_len M4.nodup M4.rng
          rw [List.length_append] at l4
          have l4' : s2.length + 1 ≤ n.toNat := l4
          refine iteT ⟨_, rfl, .inl ⟨rfl, _, SqL.of hS5⟩, _, rfl, _, rfl, r.1, r.2, rfl, rfl, _, rfl, _, hh, rfl, rfl, ?_⟩
          refine ⟨S, _, _, rfl, rfl, hS5, small1000 (by rw [List.length_map]; omega), ?_⟩
          have hW6 : (L2.upd (L2.upd H4 Y (.tup [.int r.1, .int r.2])) S (.lst (s2.map V.int ++ [.int (r.1 + r.2 - hh)]))) W = some (.lst (w2.map V.int)) := by
            rw [upd_ne nSW.symm]
            exact hW5
          refine ⟨_, rfl, .inl ⟨rfl, _, SqL.of hW6⟩, _, rfl, _, rfl, r.1, r.2, rfl, rfl, _, rfl, _, hh, rfl, rfl, ?_⟩
          refine ⟨W, _, _, rfl, rfl, hW6, small1000 (by rw [List.length_map]; omega), ?_⟩
          refine ⟨_, _, _, s2 ++ [r.1 + r.2 - hh], w2 ++ [r.1 + r.2 - hh], rfl, fun c o hc => ?_, ?_, ?_, M4, fun z hz => ?_, fun z hz h1 h2 => ?_, List.mem_append.mpr (.inl hin3), fun j q hj hjk ha' => ?_, ?_, ?_⟩
          · rw [upd_ne (ne_of_none hc nHW), upd_ne (ne_of_none hc nS)]
            exact sY _ _ (sm4 _ _ hc)
          · rw [upd_ne nSW, upd_same, List.map_append]
            rfl
          · rw [upd_same, List.map_append]
            rfl
          · rcases List.mem_append.mp hz with m' | m'
            · exact List.mem_append.mpr (.inl (sub3 z m'))
            · exact List.mem_append.mpr (.inr m')
          · rcases List.mem_append.mp hz with m' | m'
            · intro j q hj ha'
              exact List.mem_append.mpr (.inl (shut3 z m' (fun h => h1 (List.mem_append.mpr (.inl h))) h2 j q hj ha'))
            · exact absurd (List.mem_append.mpr (.inr m')) h1
          · by_cases c : j = i
            · subst c
              rw [((ati q).mp ha').2]
              exact List.mem_append.mpr (.inr List.mem_cons_self)
            · exact List.mem_append.mpr (.inl (done3 j q (by omega) hjk ha'))
          · rw [List.length_append, List.length_append]
            show w2.length + 1 + 1 ≤ s2.length + 1
            omega
          · rw [List.length_append, List.length_append]
            show 2 * (n.toNat - (s2.length + 1)) + (w2.length + 1 + 1) ≤ m
            omega
      · rw [decide_eq_false c2]
        refine iteF (iteF (keep _ sY fun q _ ha' => ?_))
        exfalso
        rcases ((ati q).mp ha').1 with z | z
        · exact c2 (by rw [z]; exact List.mem_cons_self)
        · exact c2 (by rw [z]; exact List.mem_cons_of_mem _ List.mem_cons_self)
    · intro σ H3 ⟨y8, y9, y10, s2, w2, e, sm3, hS3, hW3, M3, sub3, shut3, hin3, done3, lw3, em3⟩
      subst e
      refine ⟨_, Nat.lt_of_lt_of_le (Nat.lt_succ_self _) em3, _, _, _, _, s2, w2, rfl, sm3, hS3, hW3, M3, sub3, fun z hz h1 => ?_, by omega, rfl⟩
      by_cases c : z = hh
      · subst c
        intro j q hj ha'
        have lj : j < ps.length := by
          obtain ⟨_, er, _⟩ := id ha'
          exact (List.getElem?_eq_some_iff.mp er).1
        exact done3 j q (by omega) hj ha'
      · exact shut3 z hz h1 c
end
end K6
set_option Elab.async false
set_option linter.all false
set_option maxRecDepth 100000
set_option maxHeartbeats 4000000
/-! Equal through and through. -/
namespace K6
open PySem L2 Rl
def IsA (A : Hp → V → V → Prop) (H : Hp) (x y : V) : Prop := (∃ i : Int, x = .int i ∧ y = .int i) ∨
  ∃ a b xs ys, x = .ref a ∧ y = .ref b ∧ H a = some (.tup xs) ∧ H b = some (.tup ys) ∧ xs.length ≤ 1000 ∧ Paired (A H) xs ys
def A0 : Hp → V → V → Prop := fun _ _ _ => False
def Stay (A : Hp → V → V → Prop) : Prop := ∀ H H' x y, Same H H' → A H x y → A H' x y
theorem Paired.getP {α β : Type} {F : α → β → Prop} : ∀ {xs : List α} {ys : List β} {i : Nat}, Paired F xs ys → (h : i < xs.length) → ∃ x y, xs[i]? = some x ∧ ys[i]? = some y ∧ F x y
  | _, _, i, .nil, h => absurd h (Nat.not_lt_zero i)
  | _, _, 0, .cons f _, _ => ⟨_, _, rfl, rfl, f⟩
  | _, _, i + 1, .cons _ r, h => Paired.getP (i := i) r (Nat.lt_of_succ_lt_succ h)
theorem stay0 : Stay A0 := fun _ _ _ _ _ h => h
theorem stayA {A : Hp → V → V → Prop} (h : Stay A) : Stay (IsA A) := fun H H' x y e d => by
  rcases d with d | ⟨a, b, xs, ys, ex, ey, ha, hb, hl, hp⟩
  · exact .inl d
  · exact .inr ⟨a, b, xs, ys, ex, ey, e _ _ ha, e _ _ hb, hl, L2.Paired.mapP hp fun u v q => h H H' u v e q⟩
def spA (A : Hp → V → V → Prop) : Sp := fun vs H Q _ => ∃ x y, vs = [x, y] ∧ A H x y ∧ ∀ H', Same H H' → Q (.bl true) H'
section
variable {P : Program} {w : World} {K : PySem.W.Frag} {mg : Str → Option Value} {base : Heap}
theorem kit_one {a b : String} {r : Bool} (h : PySem.W.kitOne K (.type a) (.type b) = some r) (cs : List Value) : PySem.W.kitAny K (.type a) (.type b :: cs) = (if r = true then some true else PySem.W.kitAny K (.type a) cs) := by
  rw [PySem.W.kitAny, h]
  cases r <;> rfl
theorem kit_tl : PySem.W.kitAny K (.type "tuple") [.type "tuple", .type "list"] = some true := by
  rw [kit_one (r := true) (kit_ty (by decide +kernel))]
  rfl
theorem kit_il : PySem.W.kitAny K (.type "int") [.type "tuple", .type "list"] = some false := by
  rw [kit_one (r := false) (kit_ty (by decide +kernel)), if_neg Bool.false_ne_true, kit_one (r := false) (kit_ty (by decide +kernel)), if_neg Bool.false_ne_true]
  rfl
theorem is_none (T : Tx K mg) : FnOk P w K mg base CX0 0 T.f_l_is T.d_l_is ["told", "due"] (spA A0) := by
  have no : ∀ vs H Q E, ¬ spA A0 vs H Q E := fun vs H Q E h => by
    obtain ⟨x, y, _, h1, _⟩ := h
    exact h1
  exact ⟨fun vs H Q E h => absurd h (no vs H Q E), fun A outer s H args us vs Q E _ _ _ _ h => absurd h (no vs H Q E)⟩
theorem is_step (T : Tx K mg) {m : Nat} {B : Hp → V → V → Prop} (hB : Stay B) (G : FnOk P w K mg base CX0 m T.f_l_is T.d_l_is ["told", "due"] (spA B)) :
    FnOk P w K mg base CX0 (m + 1) T.f_l_is T.d_l_is ["told", "due"] (spA (IsA B)) := by
  refine T.F_l_is.ok sc_l_is (fun vs H Q E h => ?_) (fun cdv A outer s H vs Q E hr h => ?_)
  · obtain ⟨x, y, rfl, _⟩ := h
    rfl
  obtain ⟨x, y, rfl, d, q⟩ := h
  refine ⟨_, (pss_cons (ps_if (pt_val (pe_callB call_isiT (by rfl) T.g_isinstance (by decide +kernel) (pa_cons (pv 1) (pa_cons (pe_tup (pa_cons (pe_bltn (v := .ty "tuple") (by rfl) T.g_tuple (by decide +kernel) rfl) (pa_cons (pe_bltn (v := .ty "list") (by rfl) T.g_list (by decide +kernel) rfl) pa_nil))) pa_nil))))
      (pss_cons (ps_if (PW.pt (pw_or (pt_cmpR op_ne (pe_callB call_isi (by rfl) T.g_isinstance (by decide +kernel) (pa_cons (pv 0) (pa_cons (pe_bltn (v := .ty "tuple") (by rfl) T.g_tuple (by decide +kernel) rfl) pa_nil))) (pe_callB call_isi (by rfl) T.g_isinstance (by decide +kernel) (pa_cons (pv 1) (pa_cons (pe_bltn (v := .ty "tuple") (by rfl) T.g_tuple (by decide +kernel) rfl) pa_nil))) (nomark _)) (pw_or1 (pt_not (pt_val (pe_callB call_isiT (by rfl) T.g_isinstance (by decide +kernel) (pa_cons (pv 0) (pa_cons (pe_tup (pa_cons (pe_bltn (v := .ty "tuple") (by rfl) T.g_tuple (by decide +kernel) rfl) (pa_cons (pe_bltn (v := .ty "list") (by rfl) T.g_list (by decide +kernel) rfl) pa_nil))) pa_nil))))))))
          (pss_one (ps_ret pe_bl))
          pss_nil)
        (pss_one (ps_ret (pe_and (pe_cmpR op_eq (pe_callB call_len_seq (by rfl) T.g_len PySem.boot_len (pa_cons (pv 0) pa_nil)) (pe_callB call_len_seq (by rfl) T.g_len PySem.boot_len (pa_cons (pv 1) pa_nil)) (nomark _)) (pe_one (pe_callB (cr_all rfl) (by rfl) T.g_all (by decide +kernel) (pa_cons (pe_lc (own := [("one", 2), ("two", 3)]) (g := (gTup K 2 (gCons (gName 2) (gCons (gName 3) gNil)))) (tt := tYes) (te := (tCall (spA B) [] E0 (tCons (tVar 2) (tCons (tVar 3) tNil)))) rfl sc_l_is.nd (RZ.pi_zipA (by rfl) T.g_zip (pa_cons (pv 0) (pa_cons (pv 1) pa_nil))) (blkOk_by (own := [("one", 2), ("two", 3)]) (N := N_l_is) (sc := defScope s_l_is) (by decide +kernel)) (fun _ _ _ _ _ => (pg_tup rfl (pgs_cons (pg_name (i := 2) sc_l_is.nd rfl (.inl rfl)) (pgs_cons (pg_name (i := 3) sc_l_is.nd rfl (.inl rfl)) pgs_nil)))) (fun _ _ _ _ _ => pts_nil) (fun _ _ _ _ _ => (pe_call G hr (by rfl) T.m_l_is T.F_l_is.kp T.b_l_is .nil pass0 (pa_cons (pv 2) (pa_cons (pv 3) pa_nil))))) pa_nil)))))))
      pss_nil)
    (pss_cons (ps_if (PW.pt (pw_or (pt_cmpR op_ne (pe_callB call_isi (by rfl) T.g_isinstance (by decide +kernel) (pa_cons (pv 0) (pa_cons (pe_bltn (v := .ty "int") (by rfl) T.g_int (by decide +kernel) rfl) pa_nil))) (pe_callB call_isi (by rfl) T.g_isinstance (by decide +kernel) (pa_cons (pv 1) (pa_cons (pe_bltn (v := .ty "int") (by rfl) T.g_int (by decide +kernel) rfl) pa_nil))) (nomark _)) (pw_or1 (pt_cmpR op_ne (pe_callB call_isi (by rfl) T.g_isinstance (by decide +kernel) (pa_cons (pv 0) (pa_cons (pe_bltn (v := .ty "bool") (by rfl) T.g_bool (by decide +kernel) rfl) pa_nil))) (pe_callB call_isi (by rfl) T.g_isinstance (by decide +kernel) (pa_cons (pv 1) (pa_cons (pe_bltn (v := .ty "bool") (by rfl) T.g_bool (by decide +kernel) rfl) pa_nil))) (nomark _)))))
      (pss_one (ps_ret pe_bl))
      pss_nil)
    (pss_one (ps_ret (pe_cmpR op_eq (pv 0) (pv 1) (nomark _)))))), ?_⟩
  rcases d with ⟨i, ex, ey⟩ | ⟨a, b, xs, ys, ex, ey, ha, hb, hl, hp⟩
  · subst ex ey
    refine ⟨_, rfl, (by show 2 ≤ sizeLine; decide), fun tp ntp => ?_⟩
    have s1 : Same H (upd H tp (.tup [.ty "tuple", .ty "list"])) := same_new ntp _
    refine ⟨_, tp, _, _, [.type "tuple", .type "list"], _, rfl, upd_same, .cons (.ty _) (.cons (.ty _) .nil), .base (.int i), kit_il, false, rfl, ?_⟩
    refine iteF ?_
    have r1 : ∀ z : String, ∀ r, kitB "int" z = some r → PySem.W.kitOne K (.type "int") (.type z) = some r := fun z r h => kit_ty h
    refine ⟨_, rfl, _, _, _, _, _, rfl, .ty _, .base (.int i), kit_ty (r := true) (by decide +kernel), _, rfl, _, _, _, _, _, rfl, .ty _, .base (.int i), kit_ty (r := true) (by decide +kernel), rfl, _, rfl, ?_⟩
    refine iteNS rfl ?_
    refine ⟨_, rfl, _, _, _, _, _, rfl, .ty _, .base (.int i), kit_ty (r := false) (by decide +kernel), _, rfl, _, _, _, _, _, rfl, .ty _, .base (.int i), kit_ty (r := false) (by decide +kernel), rfl, _, rfl, ?_⟩
    refine iteNS rfl ?_
    refine ⟨_, rfl, _, rfl, rfl, ?_⟩
    rw [decide_eq_true rfl]
    exact q _ s1
  · subst ex ey
    refine ⟨_, rfl, (by show 2 ≤ sizeLine; decide), fun tp ntp => ?_⟩
    have s1 : Same H (upd H tp (.tup [.ty "tuple", .ty "list"])) := same_new ntp _
    have ha1 := s1 _ _ ha
    have hb1 := s1 _ _ hb
    refine ⟨_, tp, _, _, [.type "tuple", .type "list"], _, rfl, upd_same, .cons (.ty _) (.cons (.ty _) .nil), .base (.tup hb1), kit_tl, true, rfl, ?_⟩
    refine iteT ?_
    refine ⟨_, rfl, _, _, _, _, _, rfl, .ty _, .base (.tup ha1), kit_ty (r := true) (by decide +kernel), _, rfl, _, _, _, _, _, rfl, .ty _, .base (.tup hb1), kit_ty (r := true) (by decide +kernel), rfl, _, rfl, ?_⟩
    refine iteNS rfl ?_
    refine ⟨_, rfl, (by show 2 ≤ sizeLine; decide), fun tq ntq => ?_⟩
    have s2 := same_new ntq (.tup [.ty "tuple", .ty "list"])
    have ha2 := s2 _ _ ha1
    have hb2 := s2 _ _ hb1
    have s12 := s1.trans s2
    refine ⟨_, tq, _, _, [.type "tuple", .type "list"], _, rfl, upd_same, .cons (.ty _) (.cons (.ty _) .nil), .base (.tup ha2), kit_tl, true, rfl, ?_⟩
    refine iteF ?_
    have el : xs.length = ys.length := Paired.length hp
    refine ⟨_, rfl, a, xs, rfl, .inr (SqT.of ha2), _, rfl, b, ys, rfl, .inr (SqT.of hb2), rfl, _, rfl, ?_⟩
    rw [decide_eq_true (by rw [el])]
    refine iteT ?_
    generalize L2.upd (L2.upd H tp (.tup [.ty "tuple", .ty "list"])) tq (.tup [.ty "tuple", .ty "list"]) = H2 at *
    refine ⟨_, rfl, _, rfl, a, b, xs, ys, rfl, .inr ⟨SqT.of ha2, SqT.of hb2, fun D nD => ?_⟩⟩
    refine ⟨fun i m H' => m = xs.length - i ∧ i ≤ xs.length ∧ Same H2 H' ∧ H' D = some (.lst ((List.replicate i true).map V.bl)), ⟨xs.length, rfl, Nat.zero_le _, same_new nD _, upd_same⟩, ?_⟩
    intro i m H' ⟨em, li, sm, hD⟩
    have sA : SqT K H' a xs := SqT.of (sm _ _ ha2)
    have sB : SqT K H' b ys := SqT.of (sm _ _ hb2)
    by_cases c : i < xs.length
    · have cy : i < ys.length := by omega
      refine .inr ⟨⟨xs, ys, xs[i], ys[i], sA, sB, List.getElem?_eq_getElem c, List.getElem?_eq_getElem cy⟩, fun H3 => Same H2 H3 ∧ H3 D = some (.lst ((List.replicate (i + 1) true).map V.bl)), fun H3 p' => ⟨xs.length - (i + 1), by omega, rfl, c, p'⟩, fun z H3 zz => ?_⟩
      obtain ⟨Z, x1, y1, e1, nZ, e3, f1, f2⟩ := zz
      subst e1 e3
      have s4 := same_new nZ (.tup [x1, y1])
      have gx := f1 xs sA
      have gy := f2 ys sB
      obtain ⟨u, v, hu, hv, f⟩ := Paired.getP (i := i) hp c
      rw [gx] at hu
      rw [gy] at hv
      cases hu
      cases hv
      refine ⟨Z, _, rfl, SqT.of upd_same, rfl, _, _, rfl, _, _, rfl, rfl, rfl, ?_⟩
      have sm4 := sm.trans s4
      refine ⟨_, rfl, _, rfl, x1, y1, rfl, hB _ _ _ _ (s12.trans sm4) f, fun H5 s5 => ⟨_, s5 _ _ (s4 _ _ hD), small1000 ?_, fun o w ho => ?_, ?_⟩⟩
      · rw [List.length_map, List.length_replicate]
        omega
      · rw [upd_ne (ne_of_none ho nD)]
        exact s5 _ _ (sm4 _ _ ho)
      · rw [upd_same, List.replicate_succ', List.map_append]
        rfl
    · have ei : i = xs.length := by omega
      subst ei
      refine .inl ⟨⟨xs, ys, sA, sB, .inl (Nat.le_refl _)⟩, ?_⟩
      refine ⟨D, _, rfl, SqL.of hD, ?_⟩
      have e2 : (List.replicate xs.length true).all id = true := by
        rw [List.all_replicate]
        cases xs.length <;> rfl
      rw [e2]
      exact q _ (s12.trans sm)
end
end K6
set_option Elab.async false
set_option linter.all false
set_option maxRecDepth 100000
set_option maxHeartbeats 4000000
/-! Whether bridges are told. -/
namespace K6
open PySem L2 Rl
theorem isA_mono {A A' : Hp → V → V → Prop} (h : ∀ H x y, A H x y → A' H x y) : ∀ H x y, IsA A H x y → IsA A' H x y := fun H x y d => by
  rcases d with d | ⟨a, b, xs, ys, ex, ey, ha, hb, hl, hp⟩
  · exact .inl d
  · exact .inr ⟨a, b, xs, ys, ex, ey, ha, hb, hl, L2.Paired.mapP hp fun u v q => h H u v q⟩
def IsI : Hp → V → V → Prop := IsA A0
def IsP : Hp → V → V → Prop := IsA IsI
def IsT : Hp → V → V → Prop := IsA IsP
def IsW : Hp → V → V → Prop := IsA IsT
theorem isPW {H : Hp} {x y : V} (h : IsP H x y) : IsW H x y := isA_mono (A := IsI) (isA_mono (A := A0) (A' := IsP) fun _ _ _ z => z.elim) H x y h
theorem isN_of {H : Hp} {a b : Addr} {l : List Nat} (ha : H a = some (.tup (nV l))) (hb : H b = some (.tup (nV l))) (hl : l.length ≤ 1000) : IsP H (.ref a) (.ref b) := by
  refine .inr ⟨a, b, _, _, rfl, rfl, ha, hb, by rw [nV_len]; exact hl, ?_⟩
  have go : ∀ m : List Nat, Paired (IsI H) (nV m) (nV m) := fun m => by
    induction m with
    | nil => exact .nil
    | cons k r ih => exact .cons (.inl ⟨_, rfl, rfl⟩) ih
  exact go l
theorem isP_of {H : Hp} {a b : Addr} {p : Int × Int} (ha : H a = some (.tup [.int p.1, .int p.2])) (hb : H b = some (.tup [.int p.1, .int p.2])) : IsP H (.ref a) (.ref b) :=
  .inr ⟨a, b, _, _, rfl, rfl, ha, hb, (by show 2 ≤ 1000; decide), .cons (.inl ⟨_, rfl, rfl⟩) (.cons (.inl ⟨_, rfl, rfl⟩) .nil)⟩
theorem isPs_of {H : Hp} : ∀ {vs ws : List V} {ps : List (Int × Int)}, PrsAt H vs ps → PrsAt H ws ps → Paired (IsP H) vs ws
  | _, _, _, .nil, .nil => .nil
  | _, _, _, .cons ⟨a, e, h⟩ r, .cons ⟨b, e2, h2⟩ r2 => by
    rw [e, e2]
    exact .cons (isP_of h h2) (isPs_of r r2)
theorem isT_of {H : Hp} {t u : Addr} {ps : List (Int × Int)} (h : TiesAt H t ps) (h2 : TiesAt H u ps) (hl : ps.length ≤ 1000) : IsT H (.ref t) (.ref u) := by
  obtain ⟨vs, h1, hv⟩ := h
  obtain ⟨ws, h3, hw⟩ := h2
  exact .inr ⟨t, u, vs, ws, rfl, rfl, h1, h3, by rw [hv.len]; exact hl, isPs_of hv hw⟩
theorem shp_tupI (ns : List Int) : SeqAt.shaped (.tuple (dI ns)) = true := shp_of
  (by simp only [PyData.canLay0]; exact can_ints ns) (by simp only [PyData.depth]; rw [dep_ints]; decide)
noncomputable def brP (ps : List (Int × Int)) (k : Nat) : Bool := @decide (¬ Gx.Rnd ps k) (Classical.propDecidable _)
theorem brP_iff {ps : List (Int × Int)} {k : Nat} : brP ps k = true ↔ ¬ Gx.Rnd ps k := by
  unfold brP
  exact @decide_eq_true_iff _ (Classical.propDecidable _)
def spRight : Sp := fun vs H Q _ => ∃ (t : Addr) (n : Int) (ps : List (Int × Int)), vs = [.int n, .ref t] ∧ TiesAt H t ps ∧ Right n ps ∧ ∀ H', Same H H' → Q (.bl true) H'
section
variable {P : Program} {w : World} {K : PySem.W.Frag} {mg : Str → Option Value} {base : Heap}
theorem ok_l_is (T : Tx K mg) : FnOk P w K mg base CX0 4 T.f_l_is T.d_l_is ["told", "due"] (spA IsW) :=
  is_step T (stayA (stayA (stayA stay0))) (is_step T (stayA (stayA stay0)) (is_step T (stayA stay0) (is_step T stay0 (is_none T))))
theorem ok_l_right (T : Tx K mg) : FnOk P w K mg base CX0 7 T.f_l_right T.d_l_right ["many", "ties"] spRight := by
  refine T.F_l_right.ok sc_l_right (fun vs H Q E h => ?_) (fun cdv A outer s H vs Q E hr h => ?_)
  · obtain ⟨t, n, ps, rfl, _⟩ := h
    rfl
  obtain ⟨t, n, ps, rfl, ht, R, q⟩ := h
  have n1 := R.1
  have n2 := R.2.1
  have l16 := R.2.2.1
  have inr : ∀ p ∈ ps, inR n.toNat p := fun p hp => inR_of (R.2.2.2 p hp) rfl
  refine ⟨_, (pss_cons (ps_par (i := 2) (j := 3) rfl sc_l_right.nd rfl rfl (by decide) rfl rfl (pa_cons (pe_make T.mk_Web (ok_webI T) (hr.mono (by decide)) (by rfl) T.m_Web T.b_webI .nil pass0 (pa_cons (pv 0) (pa_cons (pv 1) pa_nil))) (pa_cons (pe_call (ok_l_bridges T) (hr.mono (by decide)) (by rfl) T.m_l_bridges T.F_l_bridges.kp T.b_l_bridges .nil pass0 (pa_cons (pv 0) (pa_cons (pv 1) pa_nil))) pa_nil)) (by rfl))
    (pss_cons (ps_if (pt_cmpR (op_neD hr.units) (pv 3) (pe_callTy call_tuple_of (by rfl) T.g_tuple (by decide +kernel) (pa_cons (pe_lc (own := [("tie", 4)]) (g := (gName 4)) (tt := (tNot (tB (tCall spRound [] E0 (tCons (tVar 0) (tCons (tVar 1) (tCons (tVar 4) tNil))))))) (te := (tVar 4)) rfl sc_l_right.nd (pi_range1 (by rfl) T.g_range (pa_cons (pe_callB call_len_seq (by rfl) T.g_len PySem.boot_len (pa_cons (pv 1) pa_nil)) pa_nil)) (blkOk_by (own := [("tie", 4)]) (N := N_l_right) (sc := defScope s_l_right) (by decide +kernel)) (fun _ _ _ _ _ => (pg_name (i := 4) sc_l_right.nd rfl (.inl rfl))) (fun _ _ _ _ _ => (pts_one (pt_not (pt_val (pe_call (ok_l_is_round T) (hr.mono (by decide)) (by rfl) T.m_l_is_round T.F_l_is_round.kp T.b_l_is_round .nil pass0 (pa_cons (pv 0) (pa_cons (pv 1) (pa_cons (pv 4) pa_nil)))))))) (fun _ _ _ _ _ => (pv 4))) pa_nil)) (nomark _))
      (pss_one (ps_ret pe_bl))
      pss_nil)
    (pss_one (ps_ret (pe_and (pe_call (ok_l_is T) (hr.mono (by decide)) (by rfl) T.m_l_is T.F_l_is.kp T.b_l_is .nil pass0 (pa_cons (pe_call (ok_bridges T) (hr.mono (by decide)) (by rfl) T.m_bridges T.F_bridges.kp T.b_bridges .nil pass0 (pa_cons (pv 2) pa_nil)) (pa_cons (pv 3) pa_nil))) (pe_one (pe_call (ok_l_is T) (hr.mono (by decide)) (by rfl) T.m_l_is T.F_l_is.kp T.b_l_is .nil pass0 (pa_cons (pe_tup (pa_cons (pe_fld (pv 2) rfl) (pa_cons (pe_fld (pv 2) rfl) pa_nil))) (pa_cons (pe_tup (pa_cons (pv 0) (pa_cons (pv 1) pa_nil))) pa_nil))))))))), ?_⟩
  refine ⟨_, rfl, _, rfl, fun x2 d2 nx nd ne => ?_⟩
  have s0 : Same H (L2.upd (L2.upd H d2 (.own x2)) x2 (.ins T.C_Web d2 [])) := fun b o e => by
    rw [upd_ne (ne_of_none e nx), upd_ne (ne_of_none e nd)]
    exact e
  refine ⟨x2, d2, t, n, ps, rfl, upd_same, n1, n2, ht.same s0, l16, R.2.2.2, fun H1 k9 hx9 => ⟨rfl, ?_⟩⟩
  have s1 : Same H H1 := fun b o e => k9 b o (s0 b o e) (ne_of_none e nx)
  have w1 : WebAt T.C_Web H1 x2 n ps := ⟨d2, t, hx9, ht.same s1⟩
  have ht1 := ht.same s1
  clear s0 k9 hx9 nx nd ne
  refine ⟨_, rfl, _, rfl, t, n, ps, rfl, ht1, inr, by omega, n2, l16, fun o l H2 s2 ho br => ⟨_, _, rfl, ?_⟩⟩
  have ht2 := ht1.same s2
  obtain ⟨vs, htv, hv⟩ := id ht2
  have hvl := hv.len
  have s12 := s1.trans s2
  have w2 := w1.same s2
  refine ⟨_, rfl, _, rfl, t, _, rfl, .inr (SqT.of htv), _, rfl, by omega, by omega, fun Z nZ => ?_⟩
  refine lc_range (lo := 0) (n := (((vs.length : Nat) : Int)).toNat) (fun i H' => Same H2 H' ∧ H' Z = some (.lst (nV ((List.range i).filter (brP ps))))) ⟨same_new nZ _, upd_same⟩ ?_ ?_
  · intro i H' hi ⟨sm, hZ⟩
    have e0 : (0 : Int) + (i : Int) = (i : Int) := Int.zero_add _
    have li : i < ps.length := by omega
    refine ⟨rfl, ?_⟩
    refine ⟨_, rfl, _, rfl, _, rfl, t, n, ps, i, by rw [e0]; rfl, ?_⟩
    refine ⟨ht2.same sm, R.2.2.2, n2, l16, li, fun b H3 s3 hb => ⟨b, rfl, ?_⟩⟩
    have fs := filt_rng (brP ps) i
    have ep : brP ps i = !b := by
      rw [Bool.eq_iff_iff, brP_iff, ← hb]
      cases b <;> simp
    cases b with
    | true =>
      refine iteF ⟨sm.trans s3, ?_⟩
      rw [fs, ep, if_neg (by decide), List.append_nil]
      exact s3 _ _ hZ
    | false =>
      refine iteT ⟨_, rfl, _, s3 _ _ hZ, ?_, fun c o hc => ?_, ?_⟩
      · rw [nV_len]
        refine small1000 (Nat.le_trans (List.length_filter_le ..) ?_)
        rw [List.length_range]
        omega
      · rw [upd_ne (ne_of_none hc nZ)]
        exact s3 _ _ (sm _ _ hc)
      · rw [upd_same, fs, ep, if_pos (by decide), nV_app, e0]
        rfl
  · intro H3 ⟨sm, hZ⟩
    have em : (((vs.length : Nat) : Int)).toNat = ps.length := by omega
    rw [em] at hZ
    have brZ : BrOk ps ((List.range ps.length).filter (brP ps)) := ⟨brP ps, fun k _ => brP_iff, rfl⟩
    have el := br.one brZ
    rw [← el] at hZ
    refine ⟨Z, _, rfl, .inl ⟨SqL.of hZ, fun u nu => ?_⟩⟩
    have s4 := sm.trans (same_new nu (.tup (nV l)))
    have hu : (L2.upd H3 u (.tup (nV l))) u = some (.tup (nV l)) := upd_same
    generalize L2.upd H3 u (.tup (nV l)) = H4 at *
    have ho4 := s4 _ _ ho
    have dpO : ∀ {a : Addr}, H4 a = some (.tup (nV l)) → Dp K H4 (.ref a) (.tuple (dI (l.map fun k : Nat => (k : Int)))) := fun ha => by
      rw [nV_ints] at ha
      exact .tup (SqT.of ha) (dpa_ints _)
    refine ⟨_, _, dpO ho4, dpO hu, shp_tupI _, shp_tupI _, _, rfl, ?_⟩
    rw [eqv_same (shp_tupI _)]
    refine iteF ?_
    have w4 := w2.same s4
    refine ⟨_, rfl, x2, n, ps, rfl, w4, R, fun g l' H5 s5 hg br' => ?_⟩
    have el2 := br'.one br
    rw [el2] at hg
    have ll := br.len
    refine ⟨_, rfl, _, _, rfl, isPW (isN_of hg (s5 _ _ ho4) (by omega)), fun H6 s6 => ⟨true, rfl, iteT ?_⟩⟩
    have s26 := s4.trans (s5.trans s6)
    obtain ⟨dx, t', hx6, ht6⟩ := w2.same s26
    have ht26 := ht2.same s26
    refine ⟨_, rfl, x2, T.C_Web, dx, _, _, rfl, hx6, T.cl_Web, T.no_Web_many, wf_many n t', _, rfl, x2, T.C_Web, dx, _, _, rfl, hx6, T.cl_Web, T.no_Web_ties, wf_ties n t', (by show 2 ≤ sizeLine; decide), fun A nA => ?_⟩
    refine ⟨_, rfl, _, rfl, (by show 2 ≤ sizeLine; decide), fun B nB => ?_⟩
    have sA := same_new nA (.tup [.int n, .ref t'])
    have sB := same_new nB (.tup [.int n, .ref t])
    have sAB := sA.trans sB
    have hA := sB _ _ (show (L2.upd H6 A (.tup [.int n, .ref t'])) A = some (.tup [.int n, .ref t']) from upd_same)
    refine ⟨_, _, rfl, .inr ⟨A, B, _, _, rfl, rfl, hA, upd_same, (by show 2 ≤ 1000; decide), .cons (.inl ⟨n, rfl, rfl⟩) (.cons (isT_of (ht6.same sAB) (ht26.same sAB) (by omega)) .nil)⟩, fun H7 s7 => ?_⟩
    exact q H7 (s12.trans (s26.trans (sAB.trans s7)))
end
end K6
set_option Elab.async false
set_option linter.all false
set_option maxRecDepth 100000
set_option maxHeartbeats 4000000
/-! Ties drawn. -/
namespace K6
open PySem L2 Rl
def PrOk (H : Hp) (n : Int) (v : V) : Prop := ∃ (a : Addr) (p : Int × Int), v = .ref a ∧ H a = some (.tup [.int p.1, .int p.2]) ∧ okP n p
def AllOk (H : Hp) (n : Int) (vs : List V) : Prop := ∀ v ∈ vs, PrOk H n v
theorem PrOk.mono {H H' : Hp} {n : Int} {v : V} (e : ∀ a x y, H a = some (.tup [x, y]) → H' a = some (.tup [x, y])) (h : PrOk H n v) : PrOk H' n v := by
  obtain ⟨a, p, ev, ha, hp⟩ := h
  exact ⟨a, p, ev, e _ _ _ ha, hp⟩
theorem AllOk.mono {H H' : Hp} {n : Int} {vs : List V} (e : ∀ a x y, H a = some (.tup [x, y]) → H' a = some (.tup [x, y])) (h : AllOk H n vs) : AllOk H' n vs := fun v hv => (h v hv).mono e
theorem tup_same {H H' : Hp} (s : Same H H') : ∀ a x y, H a = some (.tup [x, y]) → H' a = some (.tup [x, y]) := fun _ _ _ h => s _ _ h
theorem tup_kp {H H' : Hp} {h c : Addr} (hd : HandAt H h c) (k : Kp h H H') : ∀ a x y, H a = some (.tup [x, y]) → H' a = some (.tup [x, y]) := fun a x y q => by
  obtain ⟨cs, i, b, m, n, h1, _⟩ := hd.ex
  exact k _ _ (ne_of q h1 (by intro z; cases z)) q
theorem tup_upd {H : Hp} {D : Addr} {l : List V} {o : HO} (hD : H D = some (.lst l)) : ∀ a x y, H a = some (.tup [x, y]) → (upd H D o) a = some (.tup [x, y]) := fun a x y q => by
  rw [upd_ne (ne_of q hD (by intro z; cases z))]
  exact q
theorem AllOk.nil {H : Hp} {n : Int} : AllOk H n [] := fun _ h => nomatch h
theorem AllOk.app {H : Hp} {n : Int} {vs ws : List V} (a : AllOk H n vs) (b : AllOk H n ws) : AllOk H n (vs ++ ws) := fun v h => (List.mem_append.mp h).elim (a v) (b v)
theorem AllOk.one {H : Hp} {n : Int} {v : V} (a : PrOk H n v) : AllOk H n [v] := fun x h => by
  rw [List.mem_singleton.mp h]
  exact a
theorem AllOk.prs {H : Hp} {n : Int} : ∀ {vs : List V}, AllOk H n vs → ∃ ps, PrsAt H vs ps ∧ ∀ p ∈ ps, okP n p
  | [], _ => ⟨[], .nil, fun _ h => nomatch h⟩
  | v :: r, h => by
    obtain ⟨ps, h1, h2⟩ := AllOk.prs (vs := r) fun x hx => h x (List.mem_cons_of_mem _ hx)
    obtain ⟨a, p, ev, ha, hp⟩ := h v List.mem_cons_self
    exact ⟨p :: ps, .cons ⟨a, ev, ha⟩ h1, fun q hq => (List.mem_cons.mp hq).elim (fun e => e ▸ hp) (h2 q)⟩
/-- an append (an insert) to a list of one's own, whatever it then holds -/
theorem HandAt.upd {H : Hp} {h c D : Addr} {o : HO} (hd : HandAt H h c) (nh : D ≠ h) (nc : D ≠ c) : HandAt (upd H D o) h c := by
  obtain ⟨cs, i, b, m, n, h1, h2, h3⟩ := hd.ex
  exact ⟨cs, i, b, m, n, by rw [upd_ne nh.symm]; exact h1, by rw [upd_ne nc.symm]; exact h2, h3⟩
/-- new to H: what stands there may change -/
theorem Kp.mut {h D : Addr} {H H' : Hp} {o : HO} (k : Kp h H H') (nD : H D = none) : Kp h H (L2.upd H' D o) := fun b u nb hb => by
  rw [upd_ne (ne_of_none hb nD)]
  exact k _ _ nb hb
theorem HandAt.ne {H : Hp} {h c D : Addr} (hd : HandAt H h c) (nD : H D = none) : D ≠ h ∧ D ≠ c := by
  obtain ⟨cs, i, b, m, n, h1, h2, _⟩ := hd.ex
  exact ⟨(ne_of_none h1 nD).symm, (ne_of_none h2 nD).symm⟩
theorem Kp.none {h c D : Addr} {H H' : Hp} (k : Kp h H H') (hd : HandAt H' h c) (nD : H' D = none) : H D = none := by
  cases e : H D with
  | none => rfl
  | some o =>
    rw [k _ _ (hd.ne nD).1 e] at nD
    cases nD
theorem HandAt.lst {H : Hp} {h c : Addr} (hd : HandAt H h c) : ∃ l, H h = some (.lst l) := by
  obtain ⟨cs, i, b, m, n, h1, _⟩ := hd.ex
  exact ⟨_, h1⟩
theorem TiesAt.kp {H H' : Hp} {h c t : Addr} {ps : List (Int × Int)} (hd : HandAt H h c) (k : Kp h H H') (a : TiesAt H t ps) : TiesAt H' t ps := by
  obtain ⟨l, hl⟩ := hd.lst
  obtain ⟨vs, h1, h2⟩ := a
  exact ⟨vs, k _ _ (ne_of h1 hl (by intro z; cases z)) h1, h2.mono (tup_kp hd k)⟩
def MidA (h c : Addr) (n kd : Int) (H : Hp) : L2.St → Hp → Prop := fun σ' H' => ∃ (L : Addr) (acc : List V) (few : Int) (y5 y6 y7 y8 y9 : Option V),
  σ' = [some (.ref h), some (.int n), some (.int kd), some (.ref L), some (.int few), y5, y6, y7, y8, y9, none] ∧ Kp h H H' ∧ HandAt H' h c ∧ L ≠ h ∧ L ≠ c ∧ H L = none ∧ H' L = some (.lst acc) ∧ acc.length ≤ 16 ∧ AllOk H' n acc ∧ 1 ≤ few ∧ few ≤ n
def MidB (h c : Addr) (n kd : Int) (H : Hp) : L2.St → Hp → Prop := fun σ' H' => ∃ (L : Addr) (acc : List V) (y4 y5 y6 y7 y8 y9 : Option V),
  σ' = [some (.ref h), some (.int n), some (.int kd), some (.ref L), y4, y5, y6, y7, y8, y9, none] ∧ Kp h H H' ∧ HandAt H' h c ∧ L ≠ h ∧ L ≠ c ∧ H L = none ∧ H' L = some (.lst acc) ∧ acc.length ≤ 100 ∧ AllOk H' n acc
def spTies : Sp := fun vs H Q _ => ∃ (h c : Addr) (n kd : Int), vs = [.ref h, .int n, .int kd] ∧ 1 ≤ n ∧ n ≤ 10 ∧ HandAt H h c ∧
  ∀ t ps H', Kp h H H' → HandAt H' h c → TiesAt H' t ps → ps.length ≤ 16 → (∀ p ∈ ps, okP n p) → Q (.ref t) H'
theorem rep_mem {k : Nat} {v x : V} (h : x ∈ (List.replicate k [v]).flatten) : x = v := by
  obtain ⟨l, hl, hx⟩ := List.mem_flatten.mp h
  rw [List.eq_of_mem_replicate hl] at hx
  exact List.mem_singleton.mp hx
theorem rep_len (k : Nat) (v : V) : (List.replicate k [v]).flatten.length = k := by
  induction k with
  | zero => rfl
  | succ k ih => rw [List.replicate_succ, List.flatten_cons, List.length_append, ih]; show 1 + k = k + 1; omega
theorem AllOk.rep {H : Hp} {n : Int} {k : Nat} {v : V} (h : PrOk H n v) : AllOk H n (List.replicate k [v]).flatten := fun x hx => by
  rw [rep_mem hx]
  exact h
section
variable {P : Program} {w : World} {K : PySem.W.Frag} {mg : Str → Option Value} {base : Heap}
theorem ok_l_ties (T : Tx K mg) : FnOk P w K mg base CX0 3 T.f_l_ties T.d_l_ties ["hand", "many", "kind"] spTies := by
  refine T.F_l_ties.ok sc_l_ties (fun vs H Q E h => ?_) (fun cdv A outer s H vs Q E hr h => ?_)
  · obtain ⟨h, c, n, kd, rfl, _⟩ := h
    rfl
  obtain ⟨h, c, n, kd, rfl, n1, n2, hd, q⟩ := h
  refine ⟨_, (Evl.pss_cut (ps_asg (pe_tup (pa_cons (pe_lst pa_nil) (pa_cons (pe_ifExp (pt_cmpR op_lt (pv 2) pe_int (nomark _)) (pv 1) (pe_op op_add pe_int (pe_call (ok_l_draw T) (hr.mono (by decide)) (by rfl) T.m_l_draw T.F_l_draw.kp T.b_l_draw .nil pass0 (pa_cons (pv 0) (pa_cons (pv 1) pa_nil))))) pa_nil))) (pg_tup rfl (pgs_cons (pg_name (i := 3) sc_l_ties.nd rfl (by first | exact .inl rfl | exact .inr rfl)) (pgs_cons (pg_name (i := 4) sc_l_ties.nd rfl (.inl rfl)) pgs_nil))))
    (Evl.pss_cut (ps_if (pt_cmpR op_eq (pv 2) pe_int (nomark _))
      (pss_one (ps_set (i := 3) sc_l_ties.nd rfl (.inr rfl) (pe_op op_rep (pe_lst (pa_cons (pe_call (ok_l_pair T) (hr.mono (by decide)) (by rfl) T.m_l_pair T.F_l_pair.kp T.b_l_pair .nil pass0 (pa_cons (pe_call (ok_l_draw T) (hr.mono (by decide)) (by rfl) T.m_l_draw T.F_l_draw.kp T.b_l_draw .nil pass0 (pa_cons (pv 0) (pa_cons (pv 1) pa_nil))) (pa_cons (pe_call (ok_l_draw T) (hr.mono (by decide)) (by rfl) T.m_l_draw T.F_l_draw.kp T.b_l_draw .nil pass0 (pa_cons (pv 0) (pa_cons (pv 1) pa_nil))) pa_nil))) pa_nil)) (pe_call (ok_l_some T) (hr.mono (by decide)) (by rfl) T.m_l_some T.F_l_some.kp T.b_l_some .nil pass0 (pa_cons (pv 0) (pa_cons (pe_lst (pa_cons pe_int (pa_cons pe_int (pa_cons pe_int (pa_cons pe_int (pa_cons pe_int pa_nil)))))) pa_nil))))))
      pss_nil)
    (Evl.pss_cut (ps_if (pt_cmpR op_eq (pv 2) pe_int (nomark _))
      (pss_one (ps_asg (pe_lc (own := [("place", 10)]) (g := (gName 10)) (tt := tYes) (te := (tTup (tCons (tCall spDraw [] E0 (tCons (tVar 0) (tCons (tVar 10) tNil))) (tCons (tVar 10) tNil)))) rfl sc_l_ties.nd (pi_range2 (by rfl) T.g_range (pa_cons pe_int (pa_cons (pv 1) pa_nil))) (blkOk_by (own := [("place", 10)]) (N := N_l_ties) (sc := defScope s_l_ties) (by decide +kernel)) (fun _ _ _ _ _ => (pg_name (i := 10) sc_l_ties.nd rfl (.inl rfl))) (fun _ _ _ _ _ => pts_nil) (fun _ _ _ _ _ => (pe_tup (pa_cons (pe_call (ok_l_draw T) (hr.mono (by decide)) (by rfl) T.m_l_draw T.F_l_draw.kp T.b_l_draw .nil pass0 (pa_cons (pv 0) (pa_cons (pv 10) pa_nil))) (pa_cons (pv 10) pa_nil))))) (pg_name (i := 3) sc_l_ties.nd rfl (by first | exact .inl rfl | exact .inr rfl))))
      pss_nil)
    (Evl.pss_cut (ps_if (pt_cmpR op_eq (pv 2) pe_int (nomark _))
      (pss_one (ps_asg (pe_lc (own := [("place", 10)]) (g := (gName 10)) (tt := tYes) (te := (tCall spPairUp [] E0 (tCons (tVar 10) (tCons (tOp _ (tCB _ (tCons (tOp _ (tVar 10) (tC _)) tNil)) (tVar 1)) tNil)))) rfl sc_l_ties.nd (pi_range1 (by rfl) T.g_range (pa_cons (pv 1) pa_nil)) (blkOk_by (own := [("place", 10)]) (N := N_l_ties) (sc := defScope s_l_ties) (by decide +kernel)) (fun _ _ _ _ _ => (pg_name (i := 10) sc_l_ties.nd rfl (.inl rfl))) (fun _ _ _ _ _ => pts_nil) (fun _ _ _ _ _ => (pe_call (ok_l_pair T) (hr.mono (by decide)) (by rfl) T.m_l_pair T.F_l_pair.kp T.b_l_pair .nil pass0 (pa_cons (pv 10) (pa_cons (pe_op op_mod (pe_callTy call_int1 (by rfl) T.g_int (by decide +kernel) (pa_cons (pe_op op_add (pv 10) pe_int) pa_nil)) (pv 1)) pa_nil))))) (pg_name (i := 3) sc_l_ties.nd rfl (by first | exact .inl rfl | exact .inr rfl))))
      pss_nil)
    (Evl.pss_cut (ps_for PassesOwn.never rfl (pi_range1 (by rfl) T.g_range (pa_cons (pe_ifExp (pt_chain op_lt op_lt pe_int (pv 2) pe_int) (pe_call (ok_l_some T) (hr.mono (by decide)) (by rfl) T.m_l_some T.F_l_some.kp T.b_l_some .nil pass0 (pa_cons (pv 0) (pa_cons (pe_lst (pa_cons pe_int (pa_cons pe_int (pa_cons pe_int (pa_cons pe_int (pa_cons pe_int (pa_cons pe_int (pa_cons pe_int (pa_cons pe_int pa_nil))))))))) pa_nil))) (pe_call (ok_l_draw T) (hr.mono (by decide)) (by rfl) T.m_l_draw T.F_l_draw.kp T.b_l_draw .nil pass0 (pa_cons (pv 0) (pa_cons pe_int pa_nil)))) pa_nil)) (pg_name (i := 5) sc_l_ties.nd rfl (.inl rfl))
      (pss_cons (ps_set (i := 6) sc_l_ties.nd rfl (.inl rfl) (pe_call (ok_l_draw T) (hr.mono (by decide)) (by rfl) T.m_l_draw T.F_l_draw.kp T.b_l_draw .nil pass0 (pa_cons (pv 0) (pa_cons (pv 4) pa_nil))))
        (pss_one (ps_expr (pe_bm PySem.F.plainAttrs_list PySem.F.slot_list_append PySem.F.type_list_append mt_append (pv 3) (pa_cons (pe_call (ok_l_pair T) (hr.mono (by decide)) (by rfl) T.m_l_pair T.F_l_pair.kp T.b_l_pair .nil pass0 (pa_cons (pv 6) (pa_cons (pe_ifExp (pt_cmpR op_eq (pe_call (ok_l_draw T) (hr.mono (by decide)) (by rfl) T.m_l_draw T.F_l_draw.kp T.b_l_draw .nil pass0 (pa_cons (pv 0) (pa_cons pe_int pa_nil))) pe_int (nomark _)) (pv 6) (pe_call (ok_l_draw T) (hr.mono (by decide)) (by rfl) T.m_l_draw T.F_l_draw.kp T.b_l_draw .nil pass0 (pa_cons (pv 0) (pa_cons (pv 4) pa_nil)))) pa_nil))) pa_nil))))))
    (pss_cons (ps_set (i := 7) sc_l_ties.nd rfl (.inl rfl) (pe_listRg rfl (by rfl) T.g_list (prg_1 (by rfl) T.g_range (pe_callB call_len_seq (by rfl) T.g_len PySem.boot_len (pa_cons (pv 3) pa_nil)))))
    (pss_cons (ps_for PassesOwn.never rfl (pi_range1 (by rfl) T.g_range (pa_cons (pe_callB call_len_seq (by rfl) T.g_len PySem.boot_len (pa_cons (pv 7) pa_nil)) pa_nil)) (pg_name (i := 8) sc_l_ties.nd rfl (.inl rfl))
      (pss_cons (ps_set (i := 9) sc_l_ties.nd rfl (.inl rfl) (pe_op op_add (pv 8) (pe_call (ok_l_draw T) (hr.mono (by decide)) (by rfl) T.m_l_draw T.F_l_draw.kp T.b_l_draw .nil pass0 (pa_cons (pv 0) (pa_cons (pe_op op_sub (pe_callB call_len_seq (by rfl) T.g_len PySem.boot_len (pa_cons (pv 7) pa_nil)) (pv 8)) pa_nil)))))
        (pss_one (ps_asg (pe_tup (pa_cons (pe_ix ix_list (pv 7) (pv 9) (fun _ _ => rfl)) (pa_cons (pe_ix ix_list (pv 7) (pv 8) (fun _ _ => rfl)) pa_nil))) (pg_tup rfl (pgs_cons (pg_sub (pv 7) (pv 8) set_list) (pgs_cons (pg_sub (pv 7) (pv 9) set_list) pgs_nil)))))))
    (pss_one (ps_ret (pe_callTy call_tuple_of (by rfl) T.g_tuple (by decide +kernel) (pa_cons (pe_lc (own := [("at", 8)]) (g := (gName 8)) (tt := tYes) (te := (tOp (rIxL K) (tVar 3) (tVar 8))) rfl sc_l_ties.nd (pi_list (pe_slice sl_list (pv 7) po_none (po_some pe_int))) (blkOk_by (own := [("at", 8)]) (N := N_l_ties) (sc := defScope s_l_ties) (by decide +kernel)) (fun _ _ _ _ _ => (pg_name (i := 8) sc_l_ties.nd rfl (.inl rfl))) (fun _ _ _ _ _ => pts_nil) (fun _ _ _ _ _ => (pe_ix ix_list (pv 3) (pv 8) (fun _ _ => rfl)))) pa_nil))))))))))), ?_⟩
  refine ⟨MidA h c n kd H, ?_, ?_⟩
  · -- found, few
    refine ⟨(by show 0 ≤ sizeLine; decide), fun L nL => ⟨_, rfl, _, 5, rfl, rfl, _, rfl, ?_⟩⟩
    have s1 := same_new nL (.lst [])
    have nLh := hd.ne nL
    have hd1 := hd.same s1
    have fin : ∀ few H1, Kp h (L2.upd H L (.lst [])) H1 → HandAt H1 h c → 1 ≤ few → few ≤ n → ∀ S, H1 S = none → MidA h c n kd H [some (.ref h), some (.int n), some (.int kd), some (.ref L), some (.int few), none, none, none, none, none, none] (L2.upd H1 S (.tup [.ref L, .int few])) := fun few H1 k1 hd2 f1 f2 S nS => by
      have sS := same_new nS (.tup [.ref L, .int few])
      exact ⟨L, [], few, _, _, _, _, _, rfl, ((Same.kp s1).trans k1).trans (Same.kp sS), hd2.same sS, nLh.1, nLh.2, nL, sS _ _ (k1 _ _ nLh.1 upd_same), by decide, AllOk.nil, f1, f2⟩
    refine ite2 (fun e => ?_) (fun e => ?_)
    · refine ⟨_, rfl, (by show 2 ≤ sizeLine; decide), fun S nS => ⟨S, _, rfl, SqT.of upd_same, rfl, _, _, rfl, _, _, rfl, rfl, ?_⟩⟩
      exact fin n _ (Kp.refl _ _) hd1 n1 (Int.le_refl _) S nS
    · refine ⟨_, rfl, _, rfl, h, c, n, rfl, by omega, by omega, hd1, fun d H1 d0 d1 k1 hd2 => ⟨1, d, rfl, rfl, (by show 2 ≤ sizeLine; decide), fun S nS => ⟨S, _, rfl, SqT.of upd_same, rfl, _, _, rfl, _, _, rfl, rfl, ?_⟩⟩⟩
      exact fin (1 + d) H1 k1 hd2 (by omega) (by omega) S nS
  intro σ' H1 ⟨L, acc, few, y5, y6, y7, y8, y9, e, k1, hd1, Lh, Lc, nHL, hL, la, pa, f1, f2⟩
  subst e
  refine ⟨MidA h c n kd H, ?_, ?_⟩
  · -- alike ones
    have keep : MidA h c n kd H [some (.ref h), some (.int n), some (.int kd), some (.ref L), some (.int few), y5, y6, y7, y8, y9, none] H1 := ⟨L, acc, few, _, _, _, _, _, rfl, k1, hd1, Lh, Lc, nHL, hL, la, pa, f1, f2⟩
    refine ⟨_, rfl, rfl, _, rfl, ite2 (fun e => ?_) (fun e => keep)⟩
    refine ⟨_, rfl, _, rfl, h, c, n, rfl, by omega, by omega, hd1, fun d H2 d0 d1 k2 hd2 => ?_⟩
    refine ⟨_, rfl, _, rfl, h, c, n, rfl, by omega, by omega, hd2, fun e H3 e0 e1 k3 hd3 => ?_⟩
    dsimp only [tNil]
    refine ⟨d, e, rfl, fun p H4 np s4 hp => ⟨(by show 1 ≤ sizeLine; decide), fun R nR => ?_⟩⟩
    have sR := same_new nR (.lst [.ref p])
    have hd4 := (hd3.same s4).same sR
    have hR0 : (L2.upd H4 R (.lst [.ref p])) R = some (.lst [.ref p]) := upd_same
    have Rh := (hd3.same s4).ne nR
    have hp5 := sR _ _ hp
    have k15 : Kp h H1 (L2.upd H4 R (.lst [.ref p])) := ((k2.trans k3).trans (Same.kp s4)).trans (Same.kp sR)
    generalize L2.upd H4 R (.lst [.ref p]) = H5 at *
    refine ⟨_, rfl, (by show 5 ≤ sizeLine; decide), fun G nG => ?_⟩
    refine ⟨h, c, G, [.int 1, .int 2, .int 3, .int 9, .int 16], rfl, SqL.of upd_same, (hd4.ne nG).1, by decide, by decide, hd4.same (same_new nG _), fun v H6 hv k6 hd6 => ?_⟩
    obtain ⟨m, rfl, m0, m1⟩ : ∃ m : Int, v = .int m ∧ 0 ≤ m ∧ m ≤ 16 := by
      rcases List.mem_cons.mp hv with e | hv
      · exact ⟨1, e, by decide, by decide⟩
      rcases List.mem_cons.mp hv with e | hv
      · exact ⟨2, e, by decide, by decide⟩
      rcases List.mem_cons.mp hv with e | hv
      · exact ⟨3, e, by decide, by decide⟩
      rcases List.mem_cons.mp hv with e | hv
      · exact ⟨9, e, by decide, by decide⟩
      exact ⟨16, List.mem_singleton.mp hv, by decide, by decide⟩
    have k56 : Kp h H5 H6 := (Same.kp (same_new nG _)).trans k6
    have hR6 := k56 _ _ Rh.1 hR0
    have hp6 := tup_kp hd4 k56 _ _ _ hp5
    have k16 := k15.trans k56
    refine ⟨R, m, [.ref p], rfl, rfl, hR6, by omega, by omega, ?_, fun Z nZ => ?_⟩
    · show 1 * m.toNat ≤ sizeLine
      exact Nat.le_trans (show 1 * m.toNat ≤ 1000 by omega) (by decide)
    have Zh := hd6.ne nZ
    have nHZ : H Z = none := Kp.none (k1.trans k16) hd6 nZ
    have sZ := same_new nZ (.lst (List.replicate m.toNat [V.ref p]).flatten)
    refine ⟨Z, _, few, _, _, _, _, _, rfl, (k1.trans k16).trans (Same.kp sZ), hd6.same sZ, Zh.1, Zh.2, nHZ, upd_same, by rw [rep_len]; omega, AllOk.rep ⟨p, (mn d e, mx d e), rfl, sZ _ _ hp6, mn_mx d0 e0 d1 e1⟩, f1, f2⟩
  clear hL pa la f1 f2 hd1 k1 Lh Lc nHL
  intro σ' H1 ⟨L, acc, few, y5, y6, y7, y8, y9, e, k1, hd1, Lh, Lc, nHL, hL, la, pa, f1, f2⟩
  subst e
  refine ⟨MidA h c n kd H, ?_, ?_⟩
  · -- a tree
    have keep : MidA h c n kd H [some (.ref h), some (.int n), some (.int kd), some (.ref L), some (.int few), y5, y6, y7, y8, y9, none] H1 := ⟨L, acc, few, _, _, _, _, _, rfl, k1, hd1, Lh, Lc, nHL, hL, la, pa, f1, f2⟩
    refine ⟨_, rfl, rfl, _, rfl, ite2 (fun e => ?_) (fun e => keep)⟩
    refine ⟨_, rfl, 1, n, rfl, ⟨by decide, by decide, by omega, by omega⟩, fun D nD => ?_⟩
    have nDh := hd1.ne nD
    have nD0 : H D = none := Kp.none k1 hd1 nD
    refine lc_range (lo := 1) (n := (n - 1).toNat) (fun i H' => Kp h H1 H' ∧ HandAt H' h c ∧ ∃ acc, H' D = some (.lst acc) ∧ acc.length = i ∧ AllOk H' n acc) ⟨Same.kp (same_new nD _), hd1.same (same_new nD _), [], upd_same, rfl, AllOk.nil⟩ ?_ ?_
    · intro i H' hi ⟨kk, hdd, acc, hD, la, pa⟩
      refine ⟨rfl, ?_⟩
      refine ⟨_, rfl, _, rfl, h, c, _, rfl, by omega, by omega, hdd, fun d H2 d0 d1 k2 hd2 => ⟨_, rfl, (by show 2 ≤ sizeLine; decide), fun S nS => ?_⟩⟩
      have hD2 := k2 _ _ nDh.1 hD
      have s3 : Same H2 (L2.upd H2 S (.tup [.int d, .int (1 + (i : Int))])) := same_new nS _
      have hD3 := s3 _ _ hD2
      refine ⟨acc, hD3, small1000 (by omega), (((kk.trans k2).trans (Same.kp s3)).mut nD), (hd2.same s3).upd nDh.1 nDh.2, acc ++ [.ref S], upd_same, by rw [List.length_append, la]; rfl, ?_⟩
      refine AllOk.mono (tup_upd hD3) (AllOk.app (AllOk.mono (tup_same s3) (AllOk.mono (tup_kp hdd k2) pa)) (AllOk.one ⟨S, (d, 1 + (i : Int)), rfl, upd_same, ?_⟩))
      unfold okP
      exact ⟨d0, by show d ≤ 1 + (i : Int); omega, by show 1 + (i : Int) < n; omega⟩
    · intro H' ⟨kk, hdd, acc, hD, la, pa⟩
      exact ⟨D, acc, few, _, _, _, _, _, rfl, k1.trans kk, hdd, nDh.1, nDh.2, nD0, hD, by omega, pa, f1, f2⟩
  clear hL pa la f1 f2 hd1 k1 Lh Lc nHL
  intro σ' H1 ⟨L, acc, few, y5, y6, y7, y8, y9, e, k1, hd1, Lh, Lc, nHL, hL, la, pa, f1, f2⟩
  subst e
  refine ⟨MidA h c n kd H, ?_, ?_⟩
  · -- a ring
    have keep : MidA h c n kd H [some (.ref h), some (.int n), some (.int kd), some (.ref L), some (.int few), y5, y6, y7, y8, y9, none] H1 := ⟨L, acc, few, _, _, _, _, _, rfl, k1, hd1, Lh, Lc, nHL, hL, la, pa, f1, f2⟩
    refine ⟨_, rfl, rfl, _, rfl, ite2 (fun e => ?_) (fun e => keep)⟩
    refine ⟨_, rfl, n, rfl, by omega, by omega, fun D nD => ?_⟩
    have nDh := hd1.ne nD
    have nD0 : H D = none := Kp.none k1 hd1 nD
    refine lc_range (lo := 0) (n := n.toNat) (fun i H' => Same H1 H' ∧ ∃ acc, H' D = some (.lst acc) ∧ acc.length = i ∧ AllOk H' n acc) ⟨same_new nD _, [], upd_same, rfl, AllOk.nil⟩ ?_ ?_
    · intro i H' hi ⟨sm, acc, hD, la, pa⟩
      have e0 : (0 : Int) + (i : Int) = (i : Int) := Int.zero_add _
      refine ⟨rfl, ?_⟩
      refine ⟨_, rfl, _, rfl, _, 1, rfl, rfl, .inl ⟨_, rfl, _, rfl, _, n, rfl, rfl, pos_of (by omega), _, _, rfl, fun S H2 nS s3 hS => ?_⟩⟩
      have m0 := Int.emod_nonneg (0 + (i : Int) + 1) (show n ≠ 0 by omega)
      have m1 := Int.emod_lt_of_pos (0 + (i : Int) + 1) (show 0 < n by omega)
      have hD3 := s3 _ _ hD
      refine ⟨acc, hD3, small1000 (by omega), fun b o hb => ?_, acc ++ [.ref S], upd_same, by rw [List.length_append, la]; rfl, ?_⟩
      · rw [upd_ne (ne_of_none hb nD)]
        exact s3 _ _ (sm _ _ hb)
      · exact AllOk.mono (tup_upd hD3) (AllOk.app (AllOk.mono (tup_same s3) pa) (AllOk.one ⟨S, (_, _), rfl, hS, mn_mx (by omega) m0 (by omega) m1⟩))
    · intro H2 ⟨sm, acc, hD, la, pa⟩
      exact ⟨D, acc, few, _, _, _, _, _, rfl, k1.trans (Same.kp sm), hd1.same sm, nDh.1, nDh.2, nD0, hD, by omega, pa, f1, f2⟩
  clear hL pa la f1 f2 hd1 k1 Lh Lc nHL
  intro σ' H1 ⟨L, acc, few, y5, y6, y7, y8, y9, e, k1, hd1, Lh, Lc, nHL, hL, la, pa, f1, f2⟩
  subst e
  refine ⟨MidB h c n kd H, ?_, ?_⟩
  · -- some more
    have val : ∀ Q : VK, (∀ m H2, 0 ≤ m → m ≤ 16 → Kp h H1 H2 → HandAt H2 h c → Q (.int m) H2) →
        tIf (tTest (tChain (rI0 fun i j => .bl (decide (i < j))) (rI0 fun i j => .bl (decide (i < j))) (tC (.int 0)) (tVar 2) (tC (.int 4)))) (tCall (spSome K) [] L2.E0 (tCons (tVar 0) (tCons (tLst (tCons (tC (.int 0)) (tCons (tC (.int 0)) (tCons (tC (.int 1)) (tCons (tC (.int 2)) (tCons (tC (.int 3)) (tCons (tC (.int 5)) (tCons (tC (.int 8)) (tCons (tC (.int 16)) tNil))))))))) tNil))) (tCall spDraw [] L2.E0 (tCons (tVar 0) (tCons (tC (.int 17)) tNil)))
          [some (.ref h), some (.int n), some (.int kd), some (.ref L), some (.int few), y5, y6, y7, y8, y9, none] H1 Q := by
      intro Q qq
      have someC : tCall (spSome K) [] L2.E0 (tCons (tVar 0) (tCons (tLst (tCons (tC (.int 0)) (tCons (tC (.int 0)) (tCons (tC (.int 1)) (tCons (tC (.int 2)) (tCons (tC (.int 3)) (tCons (tC (.int 5)) (tCons (tC (.int 8)) (tCons (tC (.int 16)) tNil))))))))) tNil)) [some (.ref h), some (.int n), some (.int kd), some (.ref L), some (.int few), y5, y6, y7, y8, y9, none] H1 Q := by
        refine ⟨_, rfl, (by show 8 ≤ sizeLine; decide), fun G nG => ?_⟩
        refine ⟨h, c, G, [.int 0, .int 0, .int 1, .int 2, .int 3, .int 5, .int 8, .int 16], rfl, SqL.of upd_same, (hd1.ne nG).1, by decide, by decide, hd1.same (same_new nG _), fun v H6 hv k6 hd6 => ?_⟩
        obtain ⟨m, rfl, m0, m1⟩ : ∃ m : Int, v = .int m ∧ 0 ≤ m ∧ m ≤ 16 := by
          rcases List.mem_cons.mp hv with e | hv
          · exact ⟨0, e, by decide, by decide⟩
          rcases List.mem_cons.mp hv with e | hv
          · exact ⟨0, e, by decide, by decide⟩
          rcases List.mem_cons.mp hv with e | hv
          · exact ⟨1, e, by decide, by decide⟩
          rcases List.mem_cons.mp hv with e | hv
          · exact ⟨2, e, by decide, by decide⟩
          rcases List.mem_cons.mp hv with e | hv
          · exact ⟨3, e, by decide, by decide⟩
          rcases List.mem_cons.mp hv with e | hv
          · exact ⟨5, e, by decide, by decide⟩
          rcases List.mem_cons.mp hv with e | hv
          · exact ⟨8, e, by decide, by decide⟩
          exact ⟨16, List.mem_singleton.mp hv, by decide, by decide⟩
        exact qq m H6 m0 m1 ((Same.kp (same_new nG _)).trans k6) hd6
      have drawC : tCall spDraw [] L2.E0 (tCons (tVar 0) (tCons (tC (.int 17)) tNil)) [some (.ref h), some (.int n), some (.int kd), some (.ref L), some (.int few), y5, y6, y7, y8, y9, none] H1 Q :=
        ⟨_, rfl, h, c, 17, rfl, by decide, by decide, hd1, fun d H2 d0 d1 k2 hd2 => qq d H2 d0 (by omega) k2 hd2⟩
      refine ⟨_, rfl, 0, kd, rfl, rfl, _, rfl, ?_⟩
      refine ite2 (fun _ => ?_) (fun _ => ?_)
      · refine ⟨kd, 4, rfl, rfl, _, rfl, ite2 (fun _ => someC) (fun _ => drawC)⟩
      · exact ⟨_, rfl, iteF drawC⟩
    refine val _ fun m H2 m0 m1 k2 hd2 => ?_
    have hL2 := k2 _ _ Lh hL
    refine ⟨m, rfl, by omega, by omega, ?_⟩
    refine for_range (lo := 0) (n := m.toNat) (fun i σ H' => ∃ y5 y6 acc, σ = [some (.ref h), some (.int n), some (.int kd), some (.ref L), some (.int few), y5, y6, y7, y8, y9, none] ∧ Kp h H H' ∧ HandAt H' h c ∧ H' L = some (.lst acc) ∧ acc.length ≤ 16 + i ∧ AllOk H' n acc)
      ⟨_, _, acc, rfl, k1.trans k2, hd2, hL2, by omega, AllOk.mono (tup_kp hd1 k2) pa⟩ ?_ ?_
    · intro i σ H3 hi ⟨y5, y6, acc, e, k3, hd3, hL3, la3, pa3⟩
      subst e
      refine ⟨_, rfl, _, rfl, h, c, few, rfl, by omega, by omega, hd3, fun d H4 d0 d1 k4 hd4 => ?_⟩
      have hL4 := k4 _ _ Lh hL3
      have k04 := k3.trans k4
      have pa4 := AllOk.mono (tup_kp hd3 k4) pa3
      refine ⟨_, rfl, .inl ⟨rfl, _, SqL.of hL4⟩, _, rfl, _, rfl, h, c, 9, rfl, by decide, by decide, hd4, fun z H5 z0 z1 k5 hd5 => ⟨rfl, _, rfl, ?_⟩⟩
      have hL5 := k5 _ _ Lh hL4
      have k05 := k04.trans k5
      have pa5 := AllOk.mono (tup_kp hd4 k5) pa4
      refine ite2 (fun _ => ⟨_, rfl, ?_⟩) (fun _ => ⟨_, rfl, _, rfl, h, c, few, rfl, by omega, by omega, hd5, fun e H7 e0 e1 k7 hd7 => ?_⟩)
      · refine ⟨d, d, rfl, fun p H6 np s6 hp => ?_⟩
        have hL6 := s6 _ _ hL5
        refine ⟨L, acc, _, rfl, rfl, hL6, small1000 (by omega), ?_⟩
        refine ⟨_, _, acc ++ [.ref p], rfl, (k05.trans (Same.kp s6)).mut nHL, (hd5.same s6).upd Lh Lc, upd_same, by rw [List.length_append]; show acc.length + 1 ≤ _; omega, ?_⟩
        exact AllOk.mono (tup_upd hL6) (AllOk.app (AllOk.mono (tup_same s6) pa5) (AllOk.one ⟨p, (mn d d, mx d d), rfl, hp, mn_mx d0 d0 (by omega) (by omega)⟩))
      · dsimp only [tNil]
        refine ⟨d, e, rfl, fun p H6 np s6 hp => ?_⟩
        have hL6 := s6 _ _ (k7 _ _ Lh hL5)
        refine ⟨L, acc, _, rfl, rfl, hL6, small1000 (by omega), ?_⟩
        refine ⟨_, _, acc ++ [.ref p], rfl, ((k05.trans k7).trans (Same.kp s6)).mut nHL, (hd7.same s6).upd Lh Lc, upd_same, by rw [List.length_append]; show acc.length + 1 ≤ _; omega, ?_⟩
        exact AllOk.mono (tup_upd hL6) (AllOk.app (AllOk.mono (tup_same s6) (AllOk.mono (tup_kp hd5 k7) pa5)) (AllOk.one ⟨p, (mn d e, mx d e), rfl, hp, mn_mx d0 e0 (by omega) (by omega)⟩))
    · intro σ H3 ⟨y5, y6, acc, e, k3, hd3, hL3, la3, pa3⟩
      subst e
      exact ⟨L, acc, _, _, _, _, _, _, rfl, k3, hd3, Lh, Lc, nHL, hL3, by omega, pa3⟩
  clear hL pa la f1 f2 hd1 k1 Lh Lc nHL
  intro σ' H1 ⟨L, acc, y4, y5, y6, y7, y8, y9, e, k1, hd1, Lh, Lc, nHL, hL, la, pa⟩
  subst e
  -- the order
  refine ⟨_, rfl, L, _, rfl, .inl (SqL.of hL), _, rfl, RgOk.of_le (by decide) (by omega) (by decide) (by omega), fun O nO => ?_⟩
  rw [rg_rn]
  have sO := same_new nO (.lst ((rn ((acc.length : Nat) : Int)).map V.int))
  have hO0 : (L2.upd H1 O (.lst ((rn ((acc.length : Nat) : Int)).map V.int))) O = some (.lst ((rn ((acc.length : Nat) : Int)).map V.int)) := upd_same
  have Oh := hd1.ne nO
  have nHO : H O = none := Kp.none k1 hd1 nO
  have OL : O ≠ L := (ne_of_none hL nO).symm
  have hL2 := sO _ _ hL
  have hd2 := hd1.same sO
  have k2 : Kp h H (L2.upd H1 O (.lst ((rn ((acc.length : Nat) : Int)).map V.int))) := k1.trans (Same.kp sO)
  have pa2 := AllOk.mono (tup_same sO) pa
  generalize L2.upd H1 O (.lst ((rn ((acc.length : Nat) : Int)).map V.int)) = H2 at *
  have lrn : (rn ((acc.length : Nat) : Int)).length = acc.length := by
    rw [rn_len]
    omega
  refine ⟨_, rfl, O, _, rfl, .inl (SqL.of hO0), _, rfl, by omega, by rw [List.length_map, lrn]; omega, ?_⟩
  refine for_range (lo := 0) (n := (((((rn ((acc.length : Nat) : Int)).map V.int).length : Nat) : Int)).toNat) (fun i σ H' => ∃ y8 y9 os, σ = [some (.ref h), some (.int n), some (.int kd), some (.ref L), y4, y5, y6, some (.ref O), y8, y9, none] ∧ Kp h H H' ∧ HandAt H' h c ∧ H' L = some (.lst acc) ∧ AllOk H' n acc ∧ H' O = some (.lst (os.map V.int)) ∧ os.length = acc.length ∧ ∀ z ∈ os, 0 ≤ z ∧ z < ((acc.length : Nat) : Int))
    ⟨_, _, _, rfl, k2, hd2, hL2, pa2, hO0, lrn, fun z hz => mem_rn.mp hz⟩ ?_ ?_
  · intro i σ H3 hi ⟨y8, y9, os, e, k3, hd3, hL3, pa3, hO3, los, hos⟩
    subst e
    rw [List.length_map, lrn] at hi
    have e0 : (0 : Int) + (i : Int) = (i : Int) := Int.zero_add _
    rw [e0]
    refine ⟨_, rfl, _, rfl, _, rfl, O, _, rfl, .inl (SqL.of hO3), _, rfl, _, _, rfl, rfl, ?_⟩
    refine ⟨h, c, _, rfl, by rw [List.length_map]; omega, by rw [List.length_map]; omega, hd3, fun d H4 d0 d1 k4 hd4 => ⟨_, _, rfl, rfl, ?_⟩⟩
    rw [List.length_map] at d1
    have hO4 := k4 _ _ Oh.1 hO3
    have hL4 := k4 _ _ Lh hL3
    have pa4 := AllOk.mono (tup_kp hd3 k4) pa3
    refine ⟨_, rfl, _, rfl, O, _, _, _, rfl, rfl, SqL.of hO4, ix_at (by omega) (by omega), _, rfl, _, rfl, O, _, _, _, rfl, rfl, SqL.of hO4, ix_at (by omega) (by omega), (by show 2 ≤ sizeLine; decide), fun S nS => ?_⟩
    have sS := same_new nS (.tup [.int (ix os ((i : Int) + d)), .int (ix os (i : Int))])
    have hO5 := sS _ _ hO4
    have x1 := hos _ (ix_mem (hs := os) (k := (i : Int) + d) (by omega) (by omega))
    have x2 := hos _ (ix_mem (hs := os) (k := (i : Int)) (by omega) (by omega))
    refine ⟨S, _, rfl, SqT.of upd_same, rfl, _, _, rfl, _, rfl, _, rfl, O, _, _, _, rfl, rfl, hO5, ixN_of (k := (i : Int)) (by omega) (by rw [List.length_map]; omega), ?_⟩
    refine ⟨_, _, rfl, _, rfl, _, rfl, O, _, _, _, rfl, rfl, upd_same, ixN_of (k := (i : Int) + d) (by omega) (by rw [List.length_set, List.length_map]; omega), rfl, ?_⟩
    have hd5 := hd4.same sS
    refine ⟨_, _, (os.set ((i : Int)).toNat (ix os ((i : Int) + d))).set ((i : Int) + d).toNat (ix os (i : Int)), rfl, (((k3.trans k4).trans (Same.kp sS)).mut nHO).mut nHO, (hd5.upd Oh.1 Oh.2).upd Oh.1 Oh.2, ?_, ?_, ?_, by rw [List.length_set, List.length_set]; exact los, fun z hz => ?_⟩
    · rw [upd_ne OL.symm, upd_ne OL.symm]
      exact sS _ _ hL4
    · have pa5 := AllOk.mono (tup_same sS) pa4
      exact AllOk.mono (tup_upd upd_same) (AllOk.mono (tup_upd hO5) pa5)
    · rw [upd_same, List.map_set, List.map_set]
    · rcases List.mem_or_eq_of_mem_set hz with m | m
      · rcases List.mem_or_eq_of_mem_set m with m | m
        · exact hos z m
        · rw [m]
          exact x1
      · rw [m]
        exact x2
  · intro σ H3 ⟨y8, y9, os, e, k3, hd3, hL3, pa3, hO3, los, hos⟩
    subst e
    refine ⟨_, rfl, 16, rfl, O, _, rfl, SqL.of hO3, fun G nG => ?_⟩
    have sG := same_new nG (.lst (cutV (os.map V.int) none (some 16)))
    have hG0 : (L2.upd H3 G (.lst (cutV (os.map V.int) none (some 16)))) G = some (.lst ((os.take 16).map V.int)) := by
      rw [upd_same, cut_hi _ _ (by decide), List.map_take]
      rfl
    have hL4 := sG _ _ hL3
    have hd4 := hd3.same sG
    have pa4 := AllOk.mono (tup_same sG) pa3
    have k4 := k3.trans (Same.kp sG)
    generalize L2.upd H3 G (.lst (cutV (os.map V.int) none (some 16))) = H4 at *
    refine ⟨G, rfl, ⟨_, SqL.of hG0⟩, fun D nD => ?_⟩
    refine lc_list (xs := (os.take 16).map V.int) (fun j H' => Same H4 H' ∧ ∃ rs, H' D = some (.lst rs) ∧ rs.length = j ∧ AllOk H' n rs) ⟨same_new nD _, [], upd_same, rfl, AllOk.nil⟩ (fun j H' _ ⟨sj, _⟩ => SqL.of (sj _ _ hG0)) ?_ ?_
    · intro j y H' hj ⟨sj, rs, hD, lr, pr⟩
      have lj : j < (os.take 16).length := by
        have q1 := (List.getElem?_eq_some_iff.mp hj).1
        rw [List.length_map] at q1
        exact q1
      have ey : y = .int (os.take 16)[j] := by
        rw [List.getElem?_map, List.getElem?_eq_getElem lj] at hj
        exact (Option.some.inj hj).symm
      subst ey
      have hz := hos _ (List.mem_of_mem_take (List.getElem_mem lj))
      have lt16 : j < 16 := by
        rw [List.length_take] at lj
        omega
      generalize (os.take 16)[j] = z at *
      obtain ⟨zk, rfl⟩ := Int.eq_ofNat_of_zero_le hz.1
      have lz : zk < acc.length := by omega
      have pz := pa4 acc[zk] (List.getElem_mem lz)
      refine ⟨rfl, ?_⟩
      refine ⟨_, rfl, _, rfl, L, acc, _, _, rfl, rfl, SqL.of (sj _ _ hL4), atI_nat (List.getElem?_eq_getElem lz), rs, hD, small1000 (by omega), fun b o hb => ?_, rs ++ [acc[zk]], upd_same, by rw [List.length_append, lr]; rfl, ?_⟩
      · rw [upd_ne (ne_of_none hb nD)]
        exact sj _ _ hb
      · exact AllOk.mono (tup_upd hD) (AllOk.app pr (AllOk.one (PrOk.mono (tup_same sj) pz)))
    · intro H5 ⟨sj, rs, hD, lr, pr⟩
      refine ⟨D, rs, rfl, .inl ⟨SqL.of hD, fun u nu => ?_⟩⟩
      have s6 := same_new nu (.tup rs)
      have s46 := sj.trans s6
      obtain ⟨ps, p1, p2⟩ := AllOk.prs (AllOk.mono (tup_same s6) pr)
      refine q u ps _ (k4.trans (Same.kp s46)) (hd4.same s46) ⟨rs, upd_same, p1⟩ ?_ p2
      have l1 := p1.len
      rw [List.length_map, List.length_take] at lr
      omega
end
end K6
set_option Elab.async false
set_option linter.all false
set_option maxRecDepth 100000
set_option maxHeartbeats 8000000
/-! Rings strung. -/
namespace K6
open PySem L2 Rl
theorem AllOk.grow {H : Hp} {n m : Int} {vs : List V} (h : n ≤ m) (a : AllOk H n vs) : AllOk H m vs := fun v hv => by
  obtain ⟨b, p, e, hb, hp⟩ := a v hv
  obtain ⟨p0, p1, p2⟩ := hp
  exact ⟨b, p, e, hb, p0, p1, by omega⟩
abbrev St15 (h Z L : Addr) (many ahead : Int) (y1 y6 y7 y8 : Option V) : L2.St := [some (.ref h), y1, some (.ref Z), some (.ref L), some (.int many), some (.int ahead), y6, y7, y8, none, none, none, none, none, none]
theorem seqIx {i : Int} {m : Nat} (h0 : 0 ≤ i) (h1 : i < m) : seqIndex? i m = some i.toNat := by
  unfold seqIndex?
  rw [if_neg (show ¬ i < 0 by omega)]
  show (if (decide (0 ≤ i) && decide (i < (m : Int))) = true then some i.toNat else none) = some i.toNat
  rw [decide_eq_true h0, decide_eq_true h1]
  rfl
def Str1 (h c : Addr) (H : Hp) : L2.St → Hp → Prop := fun σ' H' => ∃ (Z : Addr) (ss : List Int), σ' = [some (.ref h), none, some (.ref Z), none, none, none, none, none, none, none, none, none, none, none, none] ∧ Kp h H H' ∧ HandAt H' h c ∧ Z ≠ h ∧ H' Z = some (.lst (ss.map V.int)) ∧ 1 ≤ ss.length ∧ ss.length ≤ 3 ∧ ∀ z ∈ ss, 1 ≤ z ∧ z ≤ 3
def Str2 (h c : Addr) (H : Hp) (lim : Int) (len : Nat) : L2.St → Hp → Prop := fun σ' H' => ∃ (Z L : Addr) (acc : List V) (many ahead : Int) (y1 y6 y7 y8 : Option V), σ' = St15 h Z L many ahead y1 y6 y7 y8 ∧ Kp h H H' ∧ HandAt H' h c ∧ L ≠ h ∧ L ≠ c ∧ H L = none ∧ H' L = some (.lst acc) ∧ acc.length ≤ len ∧ AllOk H' many acc ∧ 1 ≤ many ∧ many ≤ lim
/-- within a turn: as found, places up to m -/
def Tur (h c Z : Addr) (H H1 : Hp) (z m many ahead : Int) (len : Nat) : L2.St → Hp → Prop := fun σ' H' => ∃ (L : Addr) (acc : List V) (y7 : Option V), σ' = St15 h Z L many ahead none (some (.int z)) y7 none ∧ Kp h H1 H' ∧ HandAt H' h c ∧ L ≠ h ∧ L ≠ c ∧ H L = none ∧ H' L = some (.lst acc) ∧ acc.length ≤ len ∧ AllOk H' m acc
def spStrung : Sp := fun vs H Q _ => ∃ (h c : Addr), vs = [.ref h] ∧ HandAt H h c ∧ ∀ p t n ps H', Kp h H H' → HandAt H' h c → H' p = some (.tup [.int n, .ref t]) → TiesAt H' t ps → Right n ps → Q (.ref p) H'
section
variable {P : Program} {w : World} {K : PySem.W.Frag} {mg : Str → Option Value} {base : Heap}
theorem ok_l_strung (T : Tx K mg) : FnOk P w K mg base CX0 3 T.f_l_strung T.d_l_strung ["hand"] spStrung := by
  refine T.F_l_strung.ok sc_l_strung (fun vs H Q E h => ?_) (fun cdv A outer s H vs Q E hr h => ?_)
  · obtain ⟨h, c, rfl, _⟩ := h
    rfl
  obtain ⟨h, c, rfl, hd, q⟩ := h
  refine ⟨_, (Evl.pss_cut (ps_setLc (i := 2) (own := [("turn", 1)]) (g := (gName 1)) (tt := tYes) (te := (tCall (spSome K) [] E0 (tCons (tVar 0) (tCons (tLst (tCons (tC _) (tCons (tC _) (tCons (tC _) (tCons (tC _) (tCons (tC _) tNil)))))) tNil)))) rfl sc_l_strung.nd rfl rfl (sw_true rfl rfl rfl (by decide +kernel)) (pi_range1 (by rfl) T.g_range (pa_cons (pe_op op_add pe_int (pe_call (ok_l_draw T) (hr.mono (by decide)) (by rfl) T.m_l_draw T.F_l_draw.kp T.b_l_draw .nil pass0 (pa_cons (pv 0) (pa_cons pe_int pa_nil)))) pa_nil)) (blkOk_by (own := [("turn", 1)]) (N := N_l_strung) (sc := defScope s_l_strung) (by decide +kernel)) (fun _ _ _ _ _ => (pg_name (i := 1) sc_l_strung.nd rfl (.inl rfl))) (fun _ _ _ _ _ => pts_nil) (fun _ _ _ _ _ => (pe_call (ok_l_some T) (hr.mono (by decide)) (by rfl) T.m_l_some T.F_l_some.kp T.b_l_some .nil pass0 (pa_cons (pv 0) (pa_cons (pe_lst (pa_cons pe_int (pa_cons pe_int (pa_cons pe_int (pa_cons pe_int (pa_cons pe_int pa_nil)))))) pa_nil)))))
    (pss_cons (ps_asg (pe_tup (pa_cons (pe_lst pa_nil) (pa_cons pe_int (pa_cons pe_int pa_nil)))) (pg_tup rfl (pgs_cons (pg_name (i := 3) sc_l_strung.nd rfl (.inl rfl)) (pgs_cons (pg_name (i := 4) sc_l_strung.nd rfl (by first | exact .inl rfl | exact .inr rfl)) (pgs_cons (pg_name (i := 5) sc_l_strung.nd rfl (.inl rfl)) pgs_nil)))))
    (Evl.pss_cut (ps_for PassesOwn.never rfl (pi_list (pv 2)) (pg_name (i := 6) sc_l_strung.nd rfl (by first | exact .inl rfl | exact .inr rfl))
      (Evl.pss_cut (ps_if (pt_cmpR op_gt (pv 6) pe_int (nomark _))
          (pss_one (ps_set (i := 3) sc_l_strung.nd rfl (.inl rfl) (pe_op op_cat (pv 3) (pe_lc (own := [("at", 14)]) (g := (gName 14)) (tt := tYes) (te := (tCall spPairUp [] E0 (tCons (tOp _ (tVar 4) (tVar 14)) (tCons (tOp _ (tVar 4) (tOp _ (tCB _ (tCons (tOp _ (tVar 14) (tC _)) tNil)) (tVar 6))) tNil)))) rfl sc_l_strung.nd (pi_range1 (by rfl) T.g_range (pa_cons (pv 6) pa_nil)) (blkOk_by (own := [("at", 14)]) (N := N_l_strung) (sc := defScope s_l_strung) (by decide +kernel)) (fun _ _ _ _ _ => (pg_name (i := 14) sc_l_strung.nd rfl (.inl rfl))) (fun _ _ _ _ _ => pts_nil) (fun _ _ _ _ _ => (pe_call (ok_l_pair T) (hr.mono (by decide)) (by rfl) T.m_l_pair T.F_l_pair.kp T.b_l_pair .nil pass0 (pa_cons (pe_op op_add (pv 4) (pv 14)) (pa_cons (pe_op op_add (pv 4) (pe_op op_mod (pe_callTy call_int1 (by rfl) T.g_int (by decide +kernel) (pa_cons (pe_op op_add (pv 14) pe_int) pa_nil)) (pv 6))) pa_nil))))))))
          pss_nil)
        (Evl.pss_cut (ps_if (pt_cmpR op_gt (pv 4) pe_int (nomark _))
          (pss_cons (ps_set (i := 7) sc_l_strung.nd rfl (.inl rfl) (pe_op op_add (pv 4) (pe_call (ok_l_draw T) (hr.mono (by decide)) (by rfl) T.m_l_draw T.F_l_draw.kp T.b_l_draw .nil pass0 (pa_cons (pv 0) (pa_cons (pv 6) pa_nil)))))
            (pss_one (ps_set (i := 3) sc_l_strung.nd rfl (.inl rfl) (pe_op op_cat (pv 3) (pe_op op_rep (pe_lst (pa_cons (pe_tup (pa_cons (pv 5) (pa_cons (pv 7) pa_nil))) pa_nil)) (pe_call (ok_l_some T) (hr.mono (by decide)) (by rfl) T.m_l_some T.F_l_some.kp T.b_l_some .nil pass0 (pa_cons (pv 0) (pa_cons (pe_lst (pa_cons pe_int (pa_cons pe_int (pa_cons pe_int (pa_cons pe_int pa_nil))))) pa_nil))))))))
          pss_nil)
        (pss_one (ps_asg (pe_tup (pa_cons (pe_op op_add (pv 4) (pe_call (ok_l_draw T) (hr.mono (by decide)) (by rfl) T.m_l_draw T.F_l_draw.kp T.b_l_draw .nil pass0 (pa_cons (pv 0) (pa_cons (pv 6) pa_nil)))) (pa_cons (pe_op op_add (pv 4) (pv 6)) pa_nil))) (pg_tup rfl (pgs_cons (pg_name (i := 5) sc_l_strung.nd rfl (.inl rfl)) (pgs_cons (pg_name (i := 4) sc_l_strung.nd rfl (by first | exact .inl rfl | exact .inr rfl)) pgs_nil))))))))
    (Evl.pss_cut (ps_if (PW.pt (pw_and (pt_cmpR op_lt (pv 4) pe_int (nomark _)) (pw_and1 (pt_cmpR op_eq (pe_call (ok_l_draw T) (hr.mono (by decide)) (by rfl) T.m_l_draw T.F_l_draw.kp T.b_l_draw .nil pass0 (pa_cons (pv 0) (pa_cons pe_int pa_nil))) pe_int (nomark _)))))
      (pss_cons (ps_expr (pe_bm PySem.F.plainAttrs_list PySem.F.slot_list_append PySem.F.type_list_append mt_append (pv 3) (pa_cons (pe_tup (pa_cons (pe_call (ok_l_draw T) (hr.mono (by decide)) (by rfl) T.m_l_draw T.F_l_draw.kp T.b_l_draw .nil pass0 (pa_cons (pv 0) (pa_cons (pv 4) pa_nil))) (pa_cons (pv 4) pa_nil))) pa_nil)))
        (pss_one (ps_set (i := 4) sc_l_strung.nd rfl (.inr rfl) (pe_op op_add (pv 4) pe_int))))
      pss_nil)
    (Evl.pss_cut (ps_for PassesOwn.never rfl (pi_range1 (by rfl) T.g_range (pa_cons (pe_call (ok_l_some T) (hr.mono (by decide)) (by rfl) T.m_l_some T.F_l_some.kp T.b_l_some .nil pass0 (pa_cons (pv 0) (pa_cons (pe_lst (pa_cons pe_int (pa_cons pe_int (pa_cons pe_int pa_nil)))) pa_nil))) pa_nil)) (pg_name (i := 1) sc_l_strung.nd rfl (.inl rfl))
      (pss_cons (ps_set (i := 8) sc_l_strung.nd rfl (.inl rfl) (pe_call (ok_l_draw T) (hr.mono (by decide)) (by rfl) T.m_l_draw T.F_l_draw.kp T.b_l_draw .nil pass0 (pa_cons (pv 0) (pa_cons (pv 4) pa_nil))))
        (pss_one (ps_expr (pe_bm PySem.F.plainAttrs_list PySem.F.slot_list_append PySem.F.type_list_append mt_append (pv 3) (pa_cons (pe_tup (pa_cons (pv 8) (pa_cons (pv 8) pa_nil))) pa_nil))))))
    (pss_cons (ps_asg (pe_tup (pa_cons (pe_listRg rfl (by rfl) T.g_list (prg_1 (by rfl) T.g_range (pv 4))) (pa_cons (pe_lst pa_nil) pa_nil))) (pg_tup rfl (pgs_cons (pg_name (i := 9) sc_l_strung.nd rfl (.inl rfl)) (pgs_cons (pg_name (i := 10) sc_l_strung.nd rfl (by first | exact .inl rfl | exact .inr rfl)) pgs_nil))))
    (pss_cons (ps_for PassesOwn.never rfl (pi_range1 (by rfl) T.g_range (pa_cons (pv 4) pa_nil)) (pg_name (i := 1) sc_l_strung.nd rfl (.inl rfl))
      (pss_one (ps_expr (pe_bm PySem.F.plainAttrs_list PySem.F.slot_list_append PySem.F.type_list_append mt_append (pv 10) (pa_cons (pe_bm PySem.F.plainAttrs_list PySem.F.slot_list_pop PySem.F.type_list_pop mt_popAt (pv 9) (pa_cons (pe_call (ok_l_draw T) (hr.mono (by decide)) (by rfl) T.m_l_draw T.F_l_draw.kp T.b_l_draw .nil pass0 (pa_cons (pv 0) (pa_cons (pe_callB call_len_seq (by rfl) T.g_len PySem.boot_len (pa_cons (pv 9) pa_nil)) pa_nil))) pa_nil)) pa_nil)))))
    (pss_cons (ps_setLc (i := 11) (own := [("one", 12), ("other", 13)]) (g := (gTup K 2 (gCons (gName 12) (gCons (gName 13) gNil)))) (tt := tYes) (te := (tCall spPairUp [] E0 (tCons (tOp (rIxL K) (tVar 10) (tVar 12)) (tCons (tOp (rIxL K) (tVar 10) (tVar 13)) tNil)))) rfl sc_l_strung.nd rfl rfl (sw_true rfl rfl rfl (by decide +kernel)) (pi_list (pv 3)) (blkOk_by (own := [("one", 12), ("other", 13)]) (N := N_l_strung) (sc := defScope s_l_strung) (by decide +kernel)) (fun _ _ _ _ _ => (pg_tup rfl (pgs_cons (pg_name (i := 12) sc_l_strung.nd rfl (.inl rfl)) (pgs_cons (pg_name (i := 13) sc_l_strung.nd rfl (.inl rfl)) pgs_nil)))) (fun _ _ _ _ _ => pts_nil) (fun _ _ _ _ _ => (pe_call (ok_l_pair T) (hr.mono (by decide)) (by rfl) T.m_l_pair T.F_l_pair.kp T.b_l_pair .nil pass0 (pa_cons (pe_ix ix_list (pv 10) (pv 12) (fun _ _ => rfl)) (pa_cons (pe_ix ix_list (pv 10) (pv 13) (fun _ _ => rfl)) pa_nil)))))
    (pss_one (ps_ret (pe_tup (pa_cons (pv 4) (pa_cons (pe_callTy call_tuple_of (by rfl) T.g_tuple (by decide +kernel) (pa_cons (pe_ifExp (pt_cmpR op_eq (pe_call (ok_l_draw T) (hr.mono (by decide)) (by rfl) T.m_l_draw T.F_l_draw.kp T.b_l_draw .nil pass0 (pa_cons (pv 0) (pa_cons pe_int pa_nil))) pe_int (nomark _)) (pe_revL (pv 11)) (pv 11)) pa_nil)) pa_nil))))))))))))), ?_⟩
  refine ⟨Str1 h c H, ?_, ?_⟩
  · -- sizes
    refine ⟨_, rfl, h, c, 2, rfl, by decide, by decide, hd, fun d H1 d0 d1 k1 hd1 => ⟨2, d, rfl, rfl, 2 + d, rfl, by omega, by omega, fun Z nZ => ?_⟩⟩
    have Zh := hd1.ne nZ
    have nHZ : H Z = none := Kp.none k1 hd1 nZ
    have sZ := same_new nZ (.lst [])
    refine lc_range (lo := 0) (n := (2 + d).toNat) (fun i H' => Kp h H H' ∧ HandAt H' h c ∧ ∃ ss : List Int, H' Z = some (.lst (ss.map V.int)) ∧ ss.length = i ∧ ∀ z ∈ ss, 1 ≤ z ∧ z ≤ 3) ⟨k1.trans (Same.kp sZ), hd1.same sZ, [], upd_same, rfl, fun z hz => nomatch hz⟩ ?_ ?_
    · intro i H2 hi ⟨k2, hd2, ss, hZ, ls, hs⟩
      refine ⟨rfl, ?_⟩
      refine ⟨_, rfl, (by show 5 ≤ sizeLine; decide), fun G nG => ?_⟩
      refine ⟨h, c, G, [.int 1, .int 1, .int 2, .int 3, .int 3], rfl, SqL.of upd_same, (hd2.ne nG).1, by decide, by decide, hd2.same (same_new nG _), fun v H6 hv k6 hd6 => ?_⟩
      obtain ⟨m, rfl, m0, m1⟩ : ∃ m : Int, v = .int m ∧ 1 ≤ m ∧ m ≤ 3 := by
        rcases List.mem_cons.mp hv with e | hv
        · exact ⟨1, e, by decide, by decide⟩
        rcases List.mem_cons.mp hv with e | hv
        · exact ⟨1, e, by decide, by decide⟩
        rcases List.mem_cons.mp hv with e | hv
        · exact ⟨2, e, by decide, by decide⟩
        rcases List.mem_cons.mp hv with e | hv
        · exact ⟨3, e, by decide, by decide⟩
        exact ⟨3, List.mem_singleton.mp hv, by decide, by decide⟩
      have k26 : Kp h H2 H6 := (Same.kp (same_new nG _)).trans k6
      have hZ6 := k26 _ _ Zh.1 hZ
      refine ⟨_, hZ6, small1000 (by rw [List.length_map]; omega), (k2.trans k26).mut nHZ, hd6.upd Zh.1 Zh.2, ss ++ [m], by rw [upd_same, List.map_append]; rfl, by rw [List.length_append, ls]; rfl, fun z hz => ?_⟩
      rcases List.mem_append.mp hz with m' | m'
      · exact hs z m'
      · rw [List.mem_singleton.mp m']
        exact ⟨m0, m1⟩
    · intro H2 ⟨k2, hd2, ss, hZ, ls, hs⟩
      exact ⟨Z, ss, rfl, k2, hd2, Zh.1, hZ, by omega, by omega, hs⟩
  intro σ' H1 ⟨Z, ss, e, k1, hd1, Zh, hZ, ls1, ls3, hs⟩
  subst e
  -- none yet
  refine ⟨(by show 0 ≤ sizeLine; decide), fun L0 nL0 => ?_⟩
  have s1 := same_new nL0 (.lst [])
  have L0h := hd1.ne nL0
  have nHL0 : H L0 = none := Kp.none k1 hd1 nL0
  have hd1' := hd1.same s1
  have hZ' := s1 _ _ hZ
  have hL0 : (L2.upd H1 L0 (.lst [])) L0 = some (.lst []) := upd_same
  have k1' : Kp h H (L2.upd H1 L0 (.lst [])) := k1.trans (Same.kp s1)
  generalize L2.upd H1 L0 (.lst []) = H2 at *
  refine ⟨(by show 3 ≤ sizeLine; decide), fun S nS => ⟨S, _, rfl, SqT.of upd_same, rfl, _, _, rfl, _, _, rfl, _, _, rfl, rfl, ?_⟩⟩
  have sS := same_new nS (.tup [.ref L0, .int 0, .int 0])
  have hL1 := sS _ _ hL0
  have hZ1 := sS _ _ hZ'
  have hd2 := hd1'.same sS
  have k2 := k1'.trans (Same.kp sS)
  generalize L2.upd H2 S (.tup [.ref L0, .int 0, .int 0]) = H3 at *
  refine ⟨Str2 h c H 9 13, ?_, ?_⟩
  · refine ⟨_, rfl, Z, rfl, ⟨_, SqL.of hZ1⟩, for_list (xs := ss.map V.int) (fun i σ H' => ∃ (L : Addr) (acc : List V) (many ahead : Int) (y6 y7 : Option V), σ = St15 h Z L many ahead none y6 y7 none ∧ Kp h H3 H' ∧ HandAt H' h c ∧ L ≠ h ∧ L ≠ c ∧ H L = none ∧ H' L = some (.lst acc) ∧ AllOk H' many acc ∧ (i : Int) ≤ many ∧ many ≤ 3 * i ∧ (0 < i → 0 ≤ ahead ∧ ahead < many) ∧ (i = 0 → acc.length = 0) ∧ (0 < i → acc.length + 2 ≤ 5 * i))
      ⟨L0, [], 0, 0, none, none, rfl, Kp.refl _ _, hd2, L0h.1, L0h.2, nHL0, hL1, AllOk.nil, Int.le_refl _, Int.le_refl _, fun h => absurd h (Nat.lt_irrefl _), fun _ => rfl, fun h => absurd h (Nat.lt_irrefl _)⟩ (fun i σ H' _ ⟨_, _, _, _, _, _, _, kk, _⟩ => SqL.of (kk _ _ Zh hZ1)) ?_ ?_⟩
    · intro i y σ H4 hi ⟨L, acc, many, ahead, y6, y7, e, k4, hd4, Lh, Lc, nHL, hL, pa, m1, m2, ah, l0, l1⟩
      subst e
      have li : i < ss.length := by
        have q1 := (List.getElem?_eq_some_iff.mp hi).1
        rw [List.length_map] at q1
        exact q1
      have ey : y = .int ss[i] := by
        rw [List.getElem?_map, List.getElem?_eq_getElem li] at hi
        exact (Option.some.inj hi).symm
      have hz := hs _ (List.getElem_mem li)
      subst ey
      generalize ss[i] = z at *
      have k0 : Kp h H H3 := k2
      refine ⟨Tur h c Z H H3 z (many + z) many ahead (acc.length + z.toNat), ?_, ?_⟩
      · have pg : AllOk H4 (many + z) acc := AllOk.grow (by omega) pa
        refine ⟨_, rfl, _, 1, rfl, rfl, _, rfl, ite2 (fun _ => ?_) (fun _ => ⟨L, acc, _, rfl, k4, hd4, Lh, Lc, nHL, hL, by omega, pg⟩)⟩
        refine ⟨_, rfl, _, rfl, z, rfl, by omega, by omega, fun D nD => ?_⟩
        refine lc_range (lo := 0) (n := z.toNat) (fun j H' => Same H4 H' ∧ ∃ rs, H' D = some (.lst rs) ∧ rs.length = j ∧ AllOk H' (many + z) rs) ⟨same_new nD _, [], upd_same, rfl, AllOk.nil⟩ ?_ ?_
        · intro j H' hj ⟨sm, rs, hD, lr, pr⟩
          have e0 : (0 : Int) + (j : Int) = (j : Int) := Int.zero_add _
          refine ⟨rfl, ?_⟩
          refine ⟨_, rfl, _, rfl, _, _, rfl, rfl, _, rfl, _, rfl, _, 1, rfl, rfl, .inl ⟨_, rfl, _, rfl, _, z, rfl, rfl, pos_of (by omega), _, _, rfl, rfl, _, _, rfl, fun S H5 nS s5 hS => ?_⟩⟩
          have m0 := Int.emod_nonneg (0 + (j : Int) + 1) (show z ≠ 0 by omega)
          have m1 := Int.emod_lt_of_pos (0 + (j : Int) + 1) (show 0 < z by omega)
          have hD5 := s5 _ _ hD
          refine ⟨rs, hD5, small1000 (by omega), fun b o hb => ?_, rs ++ [.ref S], upd_same, by rw [List.length_append, lr]; rfl, ?_⟩
          · rw [upd_ne (ne_of_none hb nD)]
            exact s5 _ _ (sm _ _ hb)
          · exact AllOk.mono (tup_upd hD5) (AllOk.app (AllOk.mono (tup_same s5) pr) (AllOk.one ⟨S, (_, _), rfl, hS, mn_mx (by omega) (by omega) (by omega) (by omega)⟩))
        · intro H5 ⟨sm, rs, hD, lr, pr⟩
          have hL5 := sm _ _ hL
          refine ⟨L, D, acc, rs, rfl, rfl, hL5, hD, ?_, fun G nG => ?_⟩
          · exact Nat.le_of_lt (small1000 (by omega))
          have sG := same_new nG (.lst (acc ++ rs))
          have hd5 := hd4.same sm
          have Gh := hd5.ne nG
          refine ⟨G, acc ++ rs, _, rfl, (k4.trans (Same.kp sm)).trans (Same.kp sG), hd5.same sG, Gh.1, Gh.2, Kp.none (k0.trans (k4.trans (Same.kp sm))) hd5 nG, upd_same, by rw [List.length_append]; omega, ?_⟩
          exact AllOk.mono (tup_same sG) (AllOk.app (AllOk.mono (tup_same sm) pg) pr)
      clear hL pa Lh Lc nHL hd4 k4
      intro σ' H4 ⟨L, ac2, y7, e, k4, hd4, Lh, Lc, nHL, hL, la, pa⟩
      subst e
      refine ⟨Tur h c Z H H3 z (many + z) many ahead (acc.length + z.toNat + (if i = 0 then 0 else 2)), ?_, ?_⟩
      · refine ⟨_, rfl, _, 0, rfl, rfl, _, rfl, ite2 (fun c0 => ?_) (fun _ => ⟨L, ac2, _, rfl, k4, hd4, Lh, Lc, nHL, hL, by omega, pa⟩)⟩
        have mp : 0 < many := of_decide_eq_true c0
        have ip : 0 < i := by omega
        refine ⟨_, rfl, _, rfl, _, rfl, h, c, z, rfl, by omega, by omega, hd4, fun d H5 d0 d1 k5 hd5 => ⟨_, _, rfl, rfl, ?_⟩⟩
        have hL5 := k5 _ _ Lh hL
        have pa5 := AllOk.mono (tup_kp hd4 k5) pa
        refine ⟨_, rfl, _, rfl, _, rfl, (by show 2 ≤ sizeLine; decide), fun S nS => ⟨(by show 1 ≤ sizeLine; decide), fun R nR => ?_⟩⟩
        have sS2 := same_new nS (.tup [.int ahead, .int (many + d)])
        have sR := same_new nR (.lst [.ref S])
        have hSr := sR _ _ (show (L2.upd H5 S (.tup [.int ahead, .int (many + d)])) S = some (.tup [.int ahead, .int (many + d)]) from upd_same)
        have hR0 : (L2.upd (L2.upd H5 S (.tup [.int ahead, .int (many + d)])) R (.lst [.ref S])) R = some (.lst [.ref S]) := upd_same
        have sSR := sS2.trans sR
        have hd6 := hd5.same sSR
        have Rh := (hd5.same sS2).ne nR
        have hL6 := sSR _ _ hL5
        have pa6 := AllOk.mono (tup_same sSR) pa5
        have k6 := (k4.trans k5).trans (Same.kp sSR)
        generalize L2.upd (L2.upd H5 S (.tup [.int ahead, .int (many + d)])) R (.lst [.ref S]) = H6 at *
        refine ⟨_, rfl, (by show 4 ≤ sizeLine; decide), fun G nG => ?_⟩
        refine ⟨h, c, G, [.int 1, .int 1, .int 1, .int 2], rfl, SqL.of upd_same, (hd6.ne nG).1, by decide, by decide, hd6.same (same_new nG _), fun v H7 hv k7 hd7 => ?_⟩
        obtain ⟨m, rfl, mm0, mm1⟩ : ∃ m : Int, v = .int m ∧ 1 ≤ m ∧ m ≤ 2 := by
          rcases List.mem_cons.mp hv with e | hv
          · exact ⟨1, e, by decide, by decide⟩
          rcases List.mem_cons.mp hv with e | hv
          · exact ⟨1, e, by decide, by decide⟩
          rcases List.mem_cons.mp hv with e | hv
          · exact ⟨1, e, by decide, by decide⟩
          exact ⟨2, List.mem_singleton.mp hv, by decide, by decide⟩
        have k67 : Kp h H6 H7 := (Same.kp (same_new nG _)).trans k7
        have hR7 := k67 _ _ Rh.1 hR0
        have hL7 := k67 _ _ Lh hL6
        have pa7 := AllOk.mono (tup_kp hd6 k67) pa6
        have hS7 := tup_kp hd6 k67 _ _ _ hSr
        have k37 := k6.trans k67
        refine ⟨R, m, [.ref S], rfl, rfl, hR7, by omega, by omega, ?_, fun X nX => ?_⟩
        · show 1 * m.toNat ≤ sizeLine
          exact Nat.le_trans (show 1 * m.toNat ≤ 1000 by omega) (by decide)
        have sX := same_new nX (.lst (List.replicate m.toNat [V.ref S]).flatten)
        have hd8 := hd7.same sX
        refine ⟨L, X, ac2, _, rfl, rfl, sX _ _ hL7, upd_same, ?_, fun Y nY => ?_⟩
        · rw [rep_len]
          exact Nat.le_of_lt (small1000 (by omega))
        have sY := same_new nY (.lst (ac2 ++ (List.replicate m.toNat [V.ref S]).flatten))
        have Yh := hd8.ne nY
        have k38 := k37.trans (Same.kp sX)
        refine ⟨Y, _, _, rfl, k38.trans (Same.kp sY), hd8.same sY, Yh.1, Yh.2, Kp.none (k0.trans k38) hd8 nY, upd_same, by rw [List.length_append, rep_len]; rw [if_neg (by omega)]; omega, ?_⟩
        refine AllOk.mono (tup_same (sX.trans sY)) (AllOk.app pa7 (AllOk.rep ⟨S, (ahead, many + d), rfl, hS7, ?_⟩))
        have ah' := ah ip
        exact ⟨ah'.1, by show ahead ≤ many + d; omega, by show many + d < many + z; omega⟩
      clear hL pa Lh Lc nHL hd4 k4 la
      intro σ' H4 ⟨L, ac3, y7, e, k4, hd4, Lh, Lc, nHL, hL, la, pa⟩
      subst e
      refine ⟨_, rfl, _, rfl, _, rfl, h, c, z, rfl, by omega, by omega, hd4, fun d H5 d0 d1 k5 hd5 => ?_⟩
      have hL5 := k5 _ _ Lh hL
      have pa5 := AllOk.mono (tup_kp hd4 k5) pa
      refine ⟨_, _, rfl, rfl, _, rfl, _, rfl, _, _, rfl, rfl, (by show 2 ≤ sizeLine; decide), fun S nS => ⟨S, _, rfl, SqT.of upd_same, rfl, _, _, rfl, _, _, rfl, rfl, ?_⟩⟩
      have sS2 := same_new nS (.tup [.int (many + d), .int (many + z)])
      refine ⟨L, ac3, many + z, many + d, _, _, rfl, (k4.trans k5).trans (Same.kp sS2), hd5.same sS2, Lh, Lc, nHL, sS2 _ _ hL5, AllOk.mono (tup_same sS2) pa5, by omega, by omega, fun _ => ⟨by omega, by omega⟩, fun h => absurd h (by omega), fun _ => ?_⟩
      by_cases ci : i = 0
      · have := l0 ci
        rw [if_pos ci] at la
        omega
      · have := l1 (by omega)
        rw [if_neg ci] at la
        omega
    · intro σ H4 ⟨L, acc, many, ahead, y6, y7, e, k4, hd4, Lh, Lc, nHL, hL, pa, m1, m2, ah, l0, l1⟩
      subst e
      rw [List.length_map] at m1 m2 l1
      exact ⟨Z, L, acc, many, ahead, _, _, _, _, rfl, k2.trans k4, hd4, Lh, Lc, nHL, hL, by omega, pa, by omega, by omega⟩
  clear hL1 hZ1 hd2 k2 hZ hZ' hs
  intro σ' H1 ⟨Z, L, acc, many, ahead, y1, y6, y7, y8, e, k1, hd1, Lh, Lc, nHL, hL, la, pa, m1, m2⟩
  subst e
  refine ⟨Str2 h c H 10 14, ?_, ?_⟩
  · -- a place more
    have keep : ∀ H2, Kp h H1 H2 → HandAt H2 h c → Str2 h c H 10 14 (St15 h Z L many ahead y1 y6 y7 y8) H2 := fun H2 k2 hd2 => ⟨Z, L, acc, many, ahead, _, _, _, _, rfl, k1.trans k2, hd2, Lh, Lc, nHL, k2 _ _ Lh hL, by omega, AllOk.mono (tup_kp hd1 k2) pa, by omega, by omega⟩
    refine ⟨_, rfl, many, 10, rfl, rfl, _, rfl, ?_⟩
    rw [decide_eq_true (show many < 10 by omega)]
    refine iteT ⟨_, rfl, h, c, 3, rfl, by decide, by decide, hd1, fun d H2 d0 d1 k2 hd2 => ⟨rfl, _, rfl, ite2 (fun _ => ?_) (fun _ => keep H2 k2 hd2)⟩⟩
    have hL2 := k2 _ _ Lh hL
    have pa2 := AllOk.mono (tup_kp hd1 k2) pa
    refine ⟨_, rfl, .inl ⟨rfl, _, SqL.of hL2⟩, _, rfl, _, rfl, h, c, many, rfl, by omega, by omega, hd2, fun e H3 e0 e1 k3 hd3 => ⟨_, rfl, (by show 2 ≤ sizeLine; decide), fun S nS => ?_⟩⟩
    have sS := same_new nS (.tup [.int e, .int many])
    have hL3 := sS _ _ (k3 _ _ Lh hL2)
    refine ⟨L, acc, _, rfl, rfl, hL3, small1000 (by omega), ?_⟩
    refine ⟨_, rfl, many, 1, rfl, rfl, ?_⟩
    refine ⟨Z, L, acc ++ [.ref S], many + 1, ahead, _, _, _, _, rfl, (((k1.trans k2).trans k3).trans (Same.kp sS)).mut nHL, (hd3.same sS).upd Lh Lc, Lh, Lc, nHL, upd_same, by rw [List.length_append]; show acc.length + 1 ≤ _; omega, ?_, by omega, by omega⟩
    exact AllOk.mono (tup_upd hL3) (AllOk.app (AllOk.grow (by omega) (AllOk.mono (tup_same sS) (AllOk.mono (tup_kp hd2 k3) pa2))) (AllOk.one ⟨S, (e, many), rfl, upd_same, e0, by show e ≤ many; omega, by show many < many + 1; omega⟩))
  clear hL pa Lh Lc nHL hd1 k1 la m1 m2
  intro σ' H1 ⟨Z, L, acc, many, ahead, y1, y6, y7, y8, e, k1, hd1, Lh, Lc, nHL, hL, la, pa, m1, m2⟩
  subst e
  refine ⟨Str2 h c H 10 16, ?_, ?_⟩
  · -- selfties
    refine ⟨_, rfl, (by show 3 ≤ sizeLine; decide), fun G nG => ?_⟩
    refine ⟨h, c, G, [.int 0, .int 0, .int 1], rfl, SqL.of upd_same, (hd1.ne nG).1, by decide, by decide, hd1.same (same_new nG _), fun v H7 hv k7 hd7 => ?_⟩
    obtain ⟨m, rfl, mm0, mm1⟩ : ∃ m : Int, v = .int m ∧ 0 ≤ m ∧ m ≤ 1 := by
      rcases List.mem_cons.mp hv with e | hv
      · exact ⟨0, e, by decide, by decide⟩
      rcases List.mem_cons.mp hv with e | hv
      · exact ⟨0, e, by decide, by decide⟩
      exact ⟨1, List.mem_singleton.mp hv, by decide, by decide⟩
    have k17 : Kp h H1 H7 := (Same.kp (same_new nG _)).trans k7
    refine ⟨m, rfl, by omega, by omega, ?_⟩
    refine for_range (lo := 0) (n := m.toNat) (fun i σ H' => ∃ y1 y8 acc, σ = St15 h Z L many ahead y1 y6 y7 y8 ∧ Kp h H H' ∧ HandAt H' h c ∧ H' L = some (.lst acc) ∧ acc.length ≤ 14 + i ∧ AllOk H' many acc)
      ⟨y1, y8, acc, rfl, k1.trans k17, hd7, k17 _ _ Lh hL, by omega, AllOk.mono (tup_kp hd1 k17) pa⟩ ?_ ?_
    · intro i σ H2 hi ⟨y1, y8, acc, e, k2, hd2, hL2, la2, pa2⟩
      subst e
      refine ⟨_, rfl, _, rfl, h, c, many, rfl, by omega, by omega, hd2, fun d H3 d0 d1 k3 hd3 => ?_⟩
      have hL3 := k3 _ _ Lh hL2
      refine ⟨_, rfl, .inl ⟨rfl, _, SqL.of hL3⟩, _, rfl, _, rfl, (by show 2 ≤ sizeLine; decide), fun S nS => ?_⟩
      have sS := same_new nS (.tup [.int d, .int d])
      have hL4 := sS _ _ hL3
      refine ⟨L, acc, _, rfl, rfl, hL4, small1000 (by omega), ?_⟩
      refine ⟨_, _, acc ++ [.ref S], rfl, ((k2.trans k3).trans (Same.kp sS)).mut nHL, (hd3.same sS).upd Lh Lc, upd_same, by rw [List.length_append]; show acc.length + 1 ≤ _; omega, ?_⟩
      exact AllOk.mono (tup_upd hL4) (AllOk.app (AllOk.mono (tup_same sS) (AllOk.mono (tup_kp hd2 k3) pa2)) (AllOk.one ⟨S, (d, d), rfl, upd_same, d0, Int.le_refl _, d1⟩))
    · intro σ H2 ⟨y1, y8, acc, e, k2, hd2, hL2, la2, pa2⟩
      subst e
      exact ⟨Z, L, acc, many, ahead, _, _, _, _, rfl, k2, hd2, Lh, Lc, nHL, hL2, by omega, pa2, m1, m2⟩
  clear hL pa Lh Lc nHL hd1 k1 la m1 m2
  intro σ' H1 ⟨Z, L, acc, many, ahead, y1, y6, y7, y8, e, k1, hd1, Lh, Lc, nHL, hL, la, pa, m1, m2⟩
  subst e
  -- names, order
  refine ⟨_, rfl, many, rfl, RgOk.of_le (by decide) (by omega) (by decide) (by omega), fun N nN => ⟨(by show 0 ≤ sizeLine; decide), fun O nO => ⟨(by show 2 ≤ sizeLine; decide), fun S nS => ⟨S, _, rfl, SqT.of upd_same, rfl, _, _, rfl, _, _, rfl, rfl, ?_⟩⟩⟩⟩
  rw [rg_rn] at nO nS ⊢
  have sN := same_new nN (.lst ((rn many).map V.int))
  have sO := same_new nO (.lst [])
  have sS := same_new nS (.tup [.ref N, .ref O])
  have hN0 : (L2.upd H1 N (.lst ((rn many).map V.int))) N = some (.lst ((rn many).map V.int)) := upd_same
  have hO0 : (L2.upd (L2.upd H1 N (.lst ((rn many).map V.int))) O (.lst [])) O = some (.lst []) := upd_same
  have nNO : N ≠ O := ne_of_none hN0 nO
  have s13 := sN.trans (sO.trans sS)
  have Nh := hd1.ne nN
  have Oh := (hd1.same sN).ne nO
  have nHN : H N = none := Kp.none k1 hd1 nN
  have nHO : H O = none := Kp.none (k1.trans (Same.kp sN)) (hd1.same sN) nO
  have n1O : H1 O = none := sN.free nO
  have LN : L ≠ N := ne_of_none hL nN
  have LO : L ≠ O := ne_of_none hL n1O
  have hN1 := (sO.trans sS) _ _ hN0
  have hO1 := sS _ _ hO0
  have hL1 := s13 _ _ hL
  have hd2 := hd1.same s13
  have k2 := k1.trans (Same.kp s13)
  have pa2 := AllOk.mono (tup_same s13) pa
  generalize L2.upd (L2.upd (L2.upd H1 N (.lst ((rn many).map V.int))) O (.lst [])) S (.tup [.ref N, .ref O]) = H2 at *
  clear sN sO sS s13 hN0 hO0
  refine ⟨_, rfl, many, rfl, by omega, by omega, ?_⟩
  refine for_range (lo := 0) (n := many.toNat) (fun i σ H' => ∃ y1 ls fs, σ = [some (.ref h), y1, some (.ref Z), some (.ref L), some (.int many), some (.int ahead), y6, y7, y8, some (.ref N), some (.ref O), none, none, none, none] ∧ Kp h H H' ∧ HandAt H' h c ∧ H' L = some (.lst acc) ∧ AllOk H' many acc ∧ H' N = some (.lst (ls.map V.int)) ∧ H' O = some (.lst (fs.map V.int)) ∧ ls.length + i = many.toNat ∧ fs.length = i ∧ (∀ z ∈ ls, 0 ≤ z ∧ z < many) ∧ ∀ z ∈ fs, 0 ≤ z ∧ z < many)
    ⟨y1, rn many, [], rfl, k2, hd2, hL1, pa2, hN1, hO1, by rw [rn_len]; rfl, rfl, fun z hz => mem_rn.mp hz, fun z hz => nomatch hz⟩ ?_ ?_
  · intro i σ H3 hi ⟨y1, ls, fs, e, k3, hd3, hL3, pa3, hN3, hO3, l1, l2, r1, r2⟩
    subst e
    refine ⟨_, rfl, .inl ⟨rfl, _, SqL.of hO3⟩, _, rfl, .inl ⟨rfl, _, SqL.of hN3⟩, _, rfl, _, rfl, N, _, rfl, .inl (SqL.of hN3), h, c, _, rfl, by rw [List.length_map]; omega, by rw [List.length_map]; omega, hd3, fun d H4 d0 d1 k4 hd4 => ?_⟩
    rw [List.length_map] at d1
    have hN4 := k4 _ _ Nh.1 hN3
    have hO4 := k4 _ _ Oh.1 hO3
    have hL4 := k4 _ _ Lh hL3
    have pa4 := AllOk.mono (tup_kp hd3 k4) pa3
    have ld : d.toNat < ls.length := by omega
    refine ⟨N, _, d, d.toNat, .int ls[d.toNat], rfl, rfl, hN4, by omega, by omega, seqIx d0 (by rw [List.length_map]; exact d1), by rw [List.getElem?_map, List.getElem?_eq_getElem ld]; rfl, ?_⟩
    have hO5 : ∀ o, (L2.upd H4 N o) O = some (.lst (fs.map V.int)) := fun o => by
      rw [upd_ne nNO.symm]
      exact hO4
    refine ⟨O, _, _, rfl, rfl, hO5 _, small1000 (by rw [List.length_map]; omega), ?_⟩
    refine ⟨_, ls.eraseIdx d.toNat, fs ++ [ls[d.toNat]], rfl, ((k3.trans k4).mut nHN).mut nHO, (hd4.upd Nh.1 Nh.2).upd Oh.1 Oh.2, ?_, ?_, ?_, ?_, ?_, ?_, fun z hz => r1 z (List.mem_of_mem_eraseIdx hz), fun z hz => ?_⟩
    · rw [upd_ne LO, upd_ne LN]
      exact hL4
    · exact AllOk.mono (tup_upd (hO5 _)) (AllOk.mono (tup_upd hN4) pa4)
    · rw [upd_ne nNO, upd_same, erase_map]
    · rw [upd_same, List.map_append]
      rfl
    · rw [List.length_eraseIdx_of_lt ld]
      omega
    · rw [List.length_append, l2]
      rfl
    · rcases List.mem_append.mp hz with m' | m'
      · exact r2 z m'
      · rw [List.mem_singleton.mp m']
        exact r1 _ (List.getElem_mem ld)
  · intro σ H3 ⟨y1, ls, fs, e, k3, hd3, hL3, pa3, hN3, hO3, l1, l2, r1, r2⟩
    subst e
    -- ties by their new names
    refine ⟨_, rfl, L, rfl, ⟨_, SqL.of hL3⟩, fun D nD => ?_⟩
    have Dh := hd3.ne nD
    refine lc_list (xs := acc) (fun j H' => Same H3 H' ∧ ∃ rs, H' D = some (.lst rs) ∧ rs.length = j ∧ AllOk H' many rs) ⟨same_new nD _, [], upd_same, rfl, AllOk.nil⟩ (fun j H' _ ⟨sj, _⟩ => SqL.of (sj _ _ hL3)) ?_ ?_
    · intro j y H' hj ⟨sj, rs, hD, lr, pr⟩
      have lj : j < acc.length := (List.getElem?_eq_some_iff.mp hj).1
      obtain ⟨b, p, ey, hb, p0, p1, p2⟩ := pa3 y (List.mem_of_getElem? hj)
      subst ey
      have hb' := sj _ _ hb
      have sOO : SqL K H' O (fs.map V.int) := SqL.of (sj _ _ hO3)
      have x1 := r2 _ (ix_mem (hs := fs) (k := p.1) (by omega) (by omega))
      have x2 := r2 _ (ix_mem (hs := fs) (k := p.2) (by omega) (by omega))
      refine ⟨b, _, rfl, SqT.of hb', rfl, _, _, rfl, _, _, rfl, rfl, rfl, ?_⟩
      refine ⟨_, rfl, _, rfl, O, _, _, _, rfl, rfl, sOO, ix_at p0 (by omega), _, rfl, _, rfl, O, _, _, _, rfl, rfl, sOO, ix_at (by omega) (by omega), _, _, rfl, fun S H5 nS s5 hS => ?_⟩
      have hD5 := s5 _ _ hD
      refine ⟨rs, hD5, small1000 (by omega), fun b o hb => ?_, rs ++ [.ref S], upd_same, by rw [List.length_append, lr]; rfl, ?_⟩
      · rw [upd_ne (ne_of_none hb nD)]
        exact s5 _ _ (sj _ _ hb)
      · exact AllOk.mono (tup_upd hD5) (AllOk.app (AllOk.mono (tup_same s5) pr) (AllOk.one ⟨S, (_, _), rfl, hS, mn_mx x1.1 x2.1 x1.2 x2.2⟩))
    · intro H4 ⟨sj, rs, hD, lr, pr⟩
      have hd4 := hd3.same sj
      have k4 := k3.trans (Same.kp sj)
      refine ⟨_, rfl, _, rfl, h, c, 2, rfl, by decide, by decide, hd4, fun d H5 d0 d1 k5 hd5 => ⟨rfl, _, rfl, ?_⟩⟩
      have hD5 := k5 _ _ Dh.1 hD
      have pr5 := AllOk.mono (tup_kp hd4 k5) pr
      refine ite2 (fun _ => ?_) (fun _ => ?_)
      · refine ⟨_, rfl, D, rs, rfl, SqL.of hD5, fun G nG => ?_⟩
        have sG := same_new nG (.lst rs.reverse)
        refine ⟨G, _, rfl, .inl ⟨SqL.of upd_same, fun u nu => ⟨(by show 2 ≤ sizeLine; decide), fun p np => ?_⟩⟩⟩
        have sU := sG.trans (same_new nu (.tup rs.reverse))
        have sP := sU.trans (same_new np (.tup [.int many, .ref u]))
        have prr : AllOk H5 many rs.reverse := fun v hv => pr5 v (List.mem_reverse.mp hv)
        obtain ⟨ps, q1, q2⟩ := AllOk.prs (AllOk.mono (tup_same sP) prr)
        have l1' := q1.len
        rw [List.length_reverse] at l1'
        exact q p u many ps _ ((k4.trans k5).trans (Same.kp sP)) (hd5.same sP) upd_same ⟨_, same_new np _ _ _ upd_same, q1⟩ ⟨m1, m2, by omega, q2⟩
      · refine ⟨_, rfl, D, rs, rfl, .inl ⟨SqL.of hD5, fun u nu => ⟨(by show 2 ≤ sizeLine; decide), fun p np => ?_⟩⟩⟩
        have sU := same_new nu (.tup rs)
        have sP := sU.trans (same_new np (.tup [.int many, .ref u]))
        obtain ⟨ps, q1, q2⟩ := AllOk.prs (AllOk.mono (tup_same sP) pr5)
        have l1' := q1.len
        exact q p u many ps _ ((k4.trans k5).trans (Same.kp sP)) (hd5.same sP) upd_same ⟨_, same_new np _ _ _ upd_same, q1⟩ ⟨m1, m2, by omega, q2⟩
end
end K6
set_option Elab.async false
set_option linter.all false
set_option maxRecDepth 100000
set_option maxHeartbeats 8000000
/-! The law. -/
namespace K6
open PySem L2 Rl
/-! ### a tree's ties are bridges -/
/-- whether place p stands above place k (or is it), each place j hanging at its tie j - 1 -/
def abv (ps : List (Int × Int)) (k : Nat) : Nat → Nat → Bool
  | 0, p => p == k
  | f + 1, p => p == k || (decide (0 < p) && abv ps k f (gt ps (p - 1)).1.toNat)
def Tree (ps : List (Int × Int)) : Prop := ∀ j, j < ps.length → (gt ps j).2 = (j : Int) + 1 ∧ 0 ≤ (gt ps j).1 ∧ (gt ps j).1 ≤ (j : Int)
theorem abv_low {ps : List (Int × Int)} (T : Tree ps) {k : Nat} : ∀ {f p : Nat}, p < k → p ≤ ps.length → abv ps k f p = false
  | 0, p, h, _ => by
    show (p == k) = false
    exact beq_false_of_ne (by omega)
  | f + 1, p, h, hl => by
    show (p == k || (decide (0 < p) && abv ps k f (gt ps (p - 1)).1.toNat)) = false
    rw [beq_false_of_ne (by omega), Bool.false_or]
    by_cases c : 0 < p
    · have t := T (p - 1) (by omega)
      rw [abv_low T (by omega) (by omega), Bool.and_false]
    · rw [decide_eq_false c, Bool.false_and]
theorem abv_more {ps : List (Int × Int)} (T : Tree ps) {k : Nat} : ∀ {f p : Nat}, p ≤ f → p ≤ ps.length → abv ps k (f + 1) p = abv ps k f p
  | 0, p, h, _ => by
    have e : p = 0 := by omega
    subst e
    show (0 == k || (decide (0 < 0) && _)) = (0 == k)
    rw [decide_eq_false (Nat.lt_irrefl 0), Bool.false_and, Bool.or_false]
  | f + 1, p, h, hl => by
    show (p == k || (decide (0 < p) && abv ps k (f + 1) (gt ps (p - 1)).1.toNat)) = (p == k || (decide (0 < p) && abv ps k f (gt ps (p - 1)).1.toNat))
    by_cases c : 0 < p
    · have t := T (p - 1) (by omega)
      rw [abv_more T (by omega) (by omega)]
    · rw [decide_eq_false c, Bool.false_and, Bool.false_and]
def sd (ps : List (Int × Int)) (k : Nat) (p : Int) : Bool := abv ps k ps.length p.toNat
theorem sd_tie {ps : List (Int × Int)} (T : Tree ps) {k j : Nat} (hj : j < ps.length) (ne : j + 1 ≠ k) : sd ps k (gt ps j).2 = sd ps k (gt ps j).1 := by
  have t := T j hj
  unfold sd
  have e : (gt ps j).2.toNat = j + 1 := by omega
  rw [e]
  obtain ⟨m, em⟩ : ∃ m, ps.length = m + 1 := ⟨ps.length - 1, by omega⟩
  rw [em]
  show (j + 1 == k || (decide (0 < j + 1) && abv ps k m (gt ps (j + 1 - 1)).1.toNat)) = abv ps k (m + 1) (gt ps j).1.toNat
  rw [beq_false_of_ne ne, Bool.false_or, decide_eq_true (Nat.succ_pos j), Bool.true_and, Nat.add_sub_cancel]
  exact (abv_more T (by omega) (by omega)).symm
theorem tree_bridge {ps : List (Int × Int)} (T : Tree ps) {k : Nat} (hk : k < ps.length) : ¬ Gx.Rnd ps k := by
  rintro ⟨r, er, c⟩
  have eg : gt ps k = r := by
    unfold gt
    rw [List.getD_eq_getElem?_getD, er]
    rfl
  have t := T k hk
  rw [eg] at t
  have inv : ∀ {p q : Int}, Gx.Conn ps (· ≠ k) p q → sd ps (k + 1) p = sd ps (k + 1) q := fun h => by
    induction h with
    | refl => rfl
    | @step a b j _ hj ha ih =>
      rw [ih]
      have lj : j < ps.length := by
        obtain ⟨_, e, _⟩ := id ha
        exact (List.getElem?_eq_some_iff.mp e).1
      obtain ⟨s, es, hs⟩ := ha
      have egs : gt ps j = s := by
        unfold gt
        rw [List.getD_eq_getElem?_getD, es]
        rfl
      have z := sd_tie T lj (k := k + 1) (by omega)
      rw [egs] at z
      rcases hs with hs | hs
      · rw [← hs.1, ← hs.2]
        exact z.symm
      · rw [← hs.1, ← hs.2]
        exact z
  have z := inv c
  have lo : sd ps (k + 1) r.1 = false := by
    unfold sd
    exact abv_low T (by omega) (by omega)
  have hi : sd ps (k + 1) r.2 = true := by
    unfold sd
    have e : r.2.toNat = k + 1 := by omega
    rw [e]
    obtain ⟨m, em⟩ : ∃ m, ps.length = m + 1 := ⟨ps.length - 1, by omega⟩
    rw [em]
    show (k + 1 == k + 1 || _) = true
    rw [beq_self_eq_true, Bool.true_or]
  rw [lo, hi] at z
  cases z
theorem tree_all {ps : List (Int × Int)} (T : Tree ps) {l : List Nat} (b : BrOk ps l) : l = List.range ps.length := by
  refine b.one ⟨fun _ => true, fun k hk => ⟨fun _ => tree_bridge T hk, fun _ => rfl⟩, ?_⟩
  exact (List.filter_eq_self.mpr fun _ _ => rfl).symm
def spLaw (K : PySem.W.Frag) : Sp := fun vs H Q _ => ∃ (a : Addr) (ns : List Int), vs = [.ref a] ∧ SqL K H a (ns.map V.int) ∧ ns.length ≤ 63 ∧ ∀ H', Q (.bl true) H'
section
variable {P : Program} {w : World} {K : PySem.W.Frag} {mg : Str → Option Value} {base : Heap}
theorem ok_law (T : Tx K mg) : FnOk P w K mg base CX0 12 T.f_law T.d_law ["script"] (spLaw K) := by
  refine T.F_law.ok sc_law (fun vs H Q E h => ?_) (fun cdv A outer s H vs Q E hr h => ?_)
  · obtain ⟨a, ns, rfl, _⟩ := h
    rfl
  obtain ⟨a, ns, rfl, ha, hl, q⟩ := h
  refine ⟨_, (pss_cons (ps_set (i := 1) sc_law.nd rfl (.inr rfl) (pe_call (ok_l_hand T) (hr.mono (by decide)) (by rfl) T.m_l_hand T.F_l_hand.kp T.b_l_hand .nil pass0 (pa_cons (pv 0) pa_nil)))
    (pss_cons (ps_for PassesOwn.never rfl (pi_range1 (by rfl) T.g_range (pa_cons pe_int pa_nil)) (pg_name (i := 2) sc_law.nd rfl (.inl rfl))
      (pss_cons (ps_set (i := 3) sc_law.nd rfl (.inl rfl) (pe_call (ok_l_some T) (hr.mono (by decide)) (by rfl) T.m_l_some T.F_l_some.kp T.b_l_some .nil pass0 (pa_cons (pv 1) (pa_cons (pe_lst (pa_cons pe_int (pa_cons pe_int (pa_cons pe_int (pa_cons pe_int (pa_cons pe_int (pa_cons pe_int (pa_cons pe_int (pa_cons pe_int pa_nil))))))))) pa_nil))))
        (pss_cons (ps_set (i := 4) sc_law.nd rfl (.inl rfl) (pe_call (ok_l_ties T) (hr.mono (by decide)) (by rfl) T.m_l_ties T.F_l_ties.kp T.b_l_ties .nil pass0 (pa_cons (pv 1) (pa_cons (pv 3) (pa_cons (pe_call (ok_l_draw T) (hr.mono (by decide)) (by rfl) T.m_l_draw T.F_l_draw.kp T.b_l_draw .nil pass0 (pa_cons (pv 1) (pa_cons pe_int pa_nil))) pa_nil)))))
        (pss_cons (ps_if (PW.pt (pw_or (pt_not (pt_val (pe_call (ok_l_right T) (hr.mono (by decide)) (by rfl) T.m_l_right T.F_l_right.kp T.b_l_right .nil pass0 (pa_cons (pv 3) (pa_cons (pv 4) pa_nil))))) (pw_or1 (pt_not (pt_val (pe_call (ok_l_right T) (hr.mono (by decide)) (by rfl) T.m_l_right T.F_l_right.kp T.b_l_right .nil pass0 (pa_cons (pv 3) (pa_cons (pe_slice sl_tupA (pv 4) po_none (po_some (pe_call (ok_l_draw T) (hr.mono (by decide)) (by rfl) T.m_l_draw T.F_l_draw.kp T.b_l_draw .nil pass0 (pa_cons (pv 1) (pa_cons (pe_op op_add (pe_callB call_len_seq (by rfl) T.g_len PySem.boot_len (pa_cons (pv 4) pa_nil)) pe_int) pa_nil))))) pa_nil))))))))
          (pss_one (ps_ret pe_bl))
          pss_nil)
        (pss_cons (ps_asg (pe_call (ok_l_strung T) (hr.mono (by decide)) (by rfl) T.m_l_strung T.F_l_strung.kp T.b_l_strung .nil pass0 (pa_cons (pv 1) pa_nil)) (pg_tup rfl (pgs_cons (pg_name (i := 3) sc_law.nd rfl (.inl rfl)) (pgs_cons (pg_name (i := 4) sc_law.nd rfl (.inl rfl)) pgs_nil))))
        (pss_one (ps_if (pt_not (pt_val (pe_call (ok_l_right T) (hr.mono (by decide)) (by rfl) T.m_l_right T.F_l_right.kp T.b_l_right .nil pass0 (pa_cons (pv 3) (pa_cons (pv 4) pa_nil)))))
          (pss_one (ps_ret pe_bl))
          pss_nil)))))))
    (pss_cons (ps_set (i := 5) sc_law.nd rfl (.inl rfl) (pe_callTy call_tuple_of (by rfl) T.g_tuple (by decide +kernel) (pa_cons (pe_lc (own := [("place", 6)]) (g := (gName 6)) (tt := tYes) (te := (tTup (tCons (tCall spDraw [] E0 (tCons (tVar 1) (tCons (tVar 6) tNil))) (tCons (tVar 6) tNil)))) rfl sc_law.nd (pi_range2 (by rfl) T.g_range (pa_cons pe_int (pa_cons (pe_op op_add pe_int (pe_call (ok_l_draw T) (hr.mono (by decide)) (by rfl) T.m_l_draw T.F_l_draw.kp T.b_l_draw .nil pass0 (pa_cons (pv 1) (pa_cons pe_int pa_nil)))) pa_nil))) (blkOk_by (own := [("place", 6)]) (N := N_law) (sc := defScope s_law) (by decide +kernel)) (fun _ _ _ _ _ => (pg_name (i := 6) sc_law.nd rfl (.inl rfl))) (fun _ _ _ _ _ => pts_nil) (fun _ _ _ _ _ => (pe_tup (pa_cons (pe_call (ok_l_draw T) (hr.mono (by decide)) (by rfl) T.m_l_draw T.F_l_draw.kp T.b_l_draw .nil pass0 (pa_cons (pv 1) (pa_cons (pv 6) pa_nil))) (pa_cons (pv 6) pa_nil))))) pa_nil)))
    (pss_one (ps_ret (pe_call (ok_l_is T) (hr.mono (by decide)) (by rfl) T.m_l_is T.F_l_is.kp T.b_l_is .nil pass0 (pa_cons (pe_call (ok_bridges T) (hr.mono (by decide)) (by rfl) T.m_bridges T.F_bridges.kp T.b_bridges .nil pass0 (pa_cons (pe_make T.mk_Web (ok_webI T) (hr.mono (by decide)) (by rfl) T.m_Web T.b_webI .nil pass0 (pa_cons (pe_op op_add (pe_callB call_len_seq (by rfl) T.g_len PySem.boot_len (pa_cons (pv 5) pa_nil)) pe_int) (pa_cons (pv 5) pa_nil))) pa_nil)) (pa_cons (pe_tupRg rfl (by rfl) T.g_tuple (prg_1 (by rfl) T.g_range (pe_callB call_len_seq (by rfl) T.g_len PySem.boot_len (pa_cons (pv 5) pa_nil)))) pa_nil)))))))), ?_⟩
  refine ⟨_, rfl, a, ns, rfl, ha, hl, fun h c H1 nh nc s1 hd => ?_⟩
  refine ⟨6, rfl, by decide, by decide, ?_⟩
  refine for_range (lo := 0) (n := (6 : Int).toNat) (fun i σ H' => ∃ y2 y3 y4, σ = [some (.ref a), some (.ref h), y2, y3, y4, none, none] ∧ HandAt H' h c) ⟨none, none, none, rfl, hd⟩ ?_ ?_
  · intro i σ H2 hi ⟨y2, y3, y4, e, hd2⟩
    subst e
    clear hd ha hl s1 nh nc
    refine ⟨_, rfl, (by show 8 ≤ sizeLine; decide), fun G nG => ?_⟩
    refine ⟨h, c, G, [.int 1, .int 2, .int 3, .int 4, .int 5, .int 6, .int 8, .int 10], rfl, SqL.of upd_same, (hd2.ne nG).1, by decide, by decide, hd2.same (same_new nG _), fun v H3 hv k3 hd3 => ?_⟩
    obtain ⟨m, rfl, m0, m1⟩ : ∃ m : Int, v = .int m ∧ 1 ≤ m ∧ m ≤ 10 := by
      rcases List.mem_cons.mp hv with e | hv
      · exact ⟨1, e, by decide, by decide⟩
      rcases List.mem_cons.mp hv with e | hv
      · exact ⟨2, e, by decide, by decide⟩
      rcases List.mem_cons.mp hv with e | hv
      · exact ⟨3, e, by decide, by decide⟩
      rcases List.mem_cons.mp hv with e | hv
      · exact ⟨4, e, by decide, by decide⟩
      rcases List.mem_cons.mp hv with e | hv
      · exact ⟨5, e, by decide, by decide⟩
      rcases List.mem_cons.mp hv with e | hv
      · exact ⟨6, e, by decide, by decide⟩
      rcases List.mem_cons.mp hv with e | hv
      · exact ⟨8, e, by decide, by decide⟩
      exact ⟨10, List.mem_singleton.mp hv, by decide, by decide⟩
    clear hd2 nG k3 hv
    refine ⟨_, rfl, _, rfl, _, rfl, h, c, 7, rfl, by decide, by decide, hd3, fun kd H4 d0 d1 k4 hd4 => ?_⟩
    dsimp only [tNil]
    refine ⟨h, c, m, kd, rfl, m0, m1, hd4, fun t ps H5 k5 hd5 ht hl16 hok => ?_⟩
    have R : Right m ps := ⟨m0, m1, hl16, hok⟩
    refine ⟨_, rfl, _, rfl, t, m, ps, rfl, ht, R, fun H6 s6 => ⟨true, rfl, iteF ?_⟩⟩
    have hd6 := hd5.same s6
    have ht6 := ht.same s6
    obtain ⟨vs, htv, hv⟩ := id ht6
    have lv := hv.len
    refine ⟨_, rfl, _, rfl, ?_⟩
    dsimp only [tNoPart]
    refine ⟨_, rfl, _, rfl, t, _, rfl, .inr (SqT.of htv), _, 1, rfl, rfl, h, c, _, rfl, by omega, by omega, hd6, fun d H7 d0 d1 k7 hd7 => ⟨d, rfl, ?_⟩⟩
    have ht7 := ht6.kp hd6 k7
    obtain ⟨ws, hw1, hw2⟩ := id ht7
    refine sl_go hw1 fun p1 H8 s8 h8 => ?_
    rw [cut_hi _ _ d0] at h8
    have R2 : Right m (ps.take d.toNat) := ⟨m0, m1, by rw [List.length_take]; omega, fun p hp => hok p (List.mem_of_mem_take hp)⟩
    dsimp only [tNil]
    refine ⟨p1, m, ps.take d.toNat, rfl, ⟨_, h8, (hw2.take _).same s8⟩, R2, fun H9 s9 => ⟨true, rfl, iteF ?_⟩⟩
    have hd9 := hd7.same (s8.trans s9)
    -- strung
    refine ⟨_, rfl, h, c, rfl, hd9, fun p t2 n2 ps2 HA kA hdA hpA htA RA => ?_⟩
    refine ⟨p, _, rfl, SqT.of hpA, rfl, _, _, rfl, _, _, rfl, rfl, ?_⟩
    exact ⟨_, rfl, _, rfl, t2, n2, ps2, rfl, htA, RA, fun HB sB => ⟨true, rfl, iteF ⟨_, _, _, rfl, hdA.same sB⟩⟩⟩
  · intro σ H2 ⟨y2, y3, y4, e, hd2⟩
    subst e
    clear hd ha hl s1 nh nc
    -- a tree
    refine ⟨_, rfl, h, c, 10, rfl, by decide, by decide, hd2, fun d H3 d0 d1 k3 hd3 => ⟨1, d, rfl, rfl, 1, 1 + d, rfl, ⟨by decide, by decide, by omega, by omega⟩, fun D nD => ?_⟩⟩
    have Dh := hd3.ne nD
    refine lc_range (lo := 1) (n := (1 + d - 1).toNat) (fun i H' => HandAt H' h c ∧ ∃ acc ps, H' D = some (.lst acc) ∧ PrsAt H' acc ps ∧ ps.length = i ∧ Tree ps) ⟨hd3.same (same_new nD _), [], [], upd_same, .nil, rfl, fun j hj => absurd hj (Nat.not_lt_zero j)⟩ ?_ ?_
    · intro i H' hi ⟨hd4, acc, ps, hD, pa, lp, tr⟩
      have la := pa.len
      refine ⟨rfl, ?_⟩
      refine ⟨_, rfl, _, rfl, h, c, _, rfl, by omega, by omega, hd4, fun x H5 x0 x1 k5 hd5 => ⟨_, rfl, (by show 2 ≤ sizeLine; decide), fun S nS => ?_⟩⟩
      have s3 : Same H5 (L2.upd H5 S (.tup [.int x, .int (1 + (i : Int))])) := same_new nS _
      have hD5 := s3 _ _ (k5 _ _ Dh.1 hD)
      refine ⟨acc, hD5, small1000 (by omega), (hd5.same s3).upd Dh.1 Dh.2, acc ++ [.ref S], ps ++ [(x, 1 + (i : Int))], upd_same, ?_, by rw [List.length_append, lp]; rfl, ?_⟩
      · exact PrsAt.mono (tup_upd hD5) (PrsAt.app (PrsAt.mono (tup_same s3) (PrsAt.mono (tup_kp hd4 k5) pa)) (.cons ⟨S, rfl, upd_same⟩ .nil))
      · intro j hj
        rw [List.length_append] at hj
        have hj' : j < ps.length + 1 := hj
        by_cases c : j < ps.length
        · have e : gt (ps ++ [(x, 1 + (i : Int))]) j = gt ps j := by
            unfold gt
            rw [List.getD_eq_getElem?_getD, List.getD_eq_getElem?_getD, List.getElem?_append_left c]
          rw [e]
          exact tr j c
        · have ej : j = ps.length := by omega
          subst ej
          have e : gt (ps ++ [(x, 1 + (i : Int))]) ps.length = (x, 1 + (i : Int)) := by
            unfold gt
            rw [List.getD_eq_getElem?_getD, List.getElem?_append_right (Nat.le_refl _), Nat.sub_self]
            rfl
          rw [e]
          refine ⟨?_, x0, ?_⟩
          · show 1 + (i : Int) = (ps.length : Int) + 1
            omega
          · show x ≤ (ps.length : Int)
            omega
    · intro H4 ⟨hd4, acc, ps, hD, pa, lp, tr⟩
      have la := pa.len
      refine ⟨D, acc, rfl, .inl ⟨SqL.of hD, fun t nt => ?_⟩⟩
      have st := same_new nt (.tup acc)
      have ht : TiesAt (L2.upd H4 t (.tup acc)) t ps := ⟨acc, upd_same, pa.same st⟩
      have htv : (L2.upd H4 t (.tup acc)) t = some (.tup acc) := upd_same
      generalize L2.upd H4 t (.tup acc) = H5 at *
      have ok : ∀ p ∈ ps, okP ((acc.length : Int) + 1) p := fun p hp => by
        obtain ⟨j, hj, e⟩ := List.mem_iff_getElem.mp hp
        have t := tr j hj
        have eg : gt ps j = p := by
          unfold gt
          rw [List.getD_eq_getElem?_getD, List.getElem?_eq_getElem hj]
          exact e
        rw [eg] at t
        exact ⟨t.2.1, by omega, by omega⟩
      have R : Right ((acc.length : Int) + 1) ps := ⟨by omega, by omega, by omega, ok⟩
      refine ⟨_, rfl, t, _, rfl, .inr (SqT.of htv), _, 1, rfl, rfl, _, rfl, fun x2 d2 nx nd ne => ?_⟩
      have s0 : Same H5 (L2.upd (L2.upd H5 d2 (.own x2)) x2 (.ins T.C_Web d2 [])) := fun b o e => by
        rw [upd_ne (ne_of_none e nx), upd_ne (ne_of_none e nd)]
        exact e
      refine ⟨x2, d2, t, _, ps, rfl, upd_same, R.1, R.2.1, ht.same s0, R.2.2.1, R.2.2.2, fun H6 k9 hx9 => ⟨rfl, ?_⟩⟩
      have s6 : Same H5 H6 := fun b o e => k9 b o (s0 b o e) (ne_of_none e nx)
      have w6 : WebAt T.C_Web H6 x2 ((acc.length : Int) + 1) ps := ⟨d2, t, hx9, ht.same s6⟩
      dsimp only [tNil]
      refine ⟨x2, _, ps, rfl, w6, R, fun o l H7 s7 ho br => ?_⟩
      have el := tree_all tr br
      have htv7 := s7 _ _ (s6 _ _ htv)
      refine ⟨_, rfl, t, _, rfl, .inr (SqT.of htv7), _, rfl, RgOk.of_le (by decide) (by omega) (by decide) (by omega), fun u nu => ?_⟩
      rw [rg_nV, la, ← el]
      have s8 := same_new nu (.tup (nV l))
      have ll := br.len
      dsimp only [tNil]
      exact ⟨_, _, rfl, isPW (isN_of (s8 _ _ ho) upd_same (by omega)), fun H9 s9 => q H9⟩
end
end K6
namespace K6
open PySem L2 Rl
theorem all_mk {l : PySem.W.OpenLaw} {w : World} {K : PySem.W.Frag} {h : Heap} {mg : Str → Option Value} {fa f0 f1 f2 f3 f4 f5 f6 f7 f8 f9 f10 f11 f12 f13 f14 f15 f16 f17 f18 f19 f20 f21 f22 C_Web : Addr} (X : K.In h) (G : h.Ns mainGlobals mg) (hfa : mg "law" = some (.ref fa))
    {od0 an0 od1 an1 od2 an2 od3 an3 od4 an4 od5 an5 od6 an6 od7 an7 od8 an8 od9 an9 od10 an10 od11 an11 od12 an12 od13 an13 od14 an14 od15 an15 od16 an16 od17 an17 od18 an18 od19 an19 od20 an20 od21 an21 od22 an22 : Option Addr} {sl0 sl1 sl2 sl3 sl4 sl5 sl6 sl7 sl8 sl9 sl10 sl11 sl12 sl13 sl14 sl15 sl16 sl17 sl18 sl19 sl20 sl21 sl22 : Array (Option Value)} {oc0 kV0 dc0 pm0 cd0 ct0 oc1 kV1 dc1 pm1 cd1 ct1 oc2 kV2 dc2 pm2 cd2 ct2 oc3 kV3 dc3 pm3 cd3 ct3 oc4 kV4 dc4 pm4 cd4 ct4 oc5 kV5 dc5 pm5 cd5 ct5 oc6 kV6 dc6 pm6 cd6 ct6 oc7 kV7 dc7 pm7 cd7 ct7 oc8 kV8 dc8 pm8 cd8 ct8 oc9 kV9 dc9 pm9 cd9 ct9 oc10 kV10 dc10 pm10 cd10 ct10 oc11 kV11 dc11 pm11 cd11 ct11 oc12 kV12 dc12 pm12 cd12 ct12 oc13 kV13 dc13 pm13 cd13 ct13 oc14 kV14 dc14 pm14 cd14 ct14 oc15 kV15 dc15 pm15 cd15 ct15 oc16 kV16 dc16 pm16 cd16 ct16 oc17 kV17 dc17 pm17 cd17 ct17 oc18 kV18 dc18 pm18 cd18 ct18 oc19 kV19 dc19 pm19 cd19 ct19 oc20 kV20 dc20 pm20 cd20 ct20 oc21 kV21 dc21 pm21 cd21 ct21 oc22 kV22 dc22 pm22 cd22 ct22 : Value} {t_MOST_PLACES t_MOST_TIES : Tok}
    (aC_Web : PySem.W.nsIn K mainGlobals "Web" = some (some (.ref C_Web)))
    (a0 : PySem.W.nsIn K mainGlobals "is_integer" = some (some (.ref f0)))
    (l0 : K.lookup f0 = some ⟨oc0, od0, .func (PySem.W.fnOf "is_integer" "is_integer" (defArgs s_is_integer) (defBody s_is_integer) (defScope s_is_integer) .none kV0 dc0 pm0 an0 cd0 ct0), sl0⟩)
    (c0 : PySem.W.codeIn K cd0 "is_integer" = true)
    (k0 : PySem.W.keepIn K (.ref f0) = true)
    (a1 : PySem.W.nsIn K mainGlobals "is_between" = some (some (.ref f1)))
    (l1 : K.lookup f1 = some ⟨oc1, od1, .func (PySem.W.fnOf "is_between" "is_between" (defArgs s_is_between) (defBody s_is_between) (defScope s_is_between) .none kV1 dc1 pm1 an1 cd1 ct1), sl1⟩)
    (c1 : PySem.W.codeIn K cd1 "is_between" = true)
    (k1 : PySem.W.keepIn K (.ref f1) = true)
    (a2 : PySem.W.nsIn K mainGlobals "is_below" = some (some (.ref f2)))
    (l2 : K.lookup f2 = some ⟨oc2, od2, .func (PySem.W.fnOf "is_below" "is_below" (defArgs s_is_below) (defBody s_is_below) (defScope s_is_below) .none kV2 dc2 pm2 an2 cd2 ct2), sl2⟩)
    (c2 : PySem.W.codeIn K cd2 "is_below" = true)
    (k2 : PySem.W.keepIn K (.ref f2) = true)
    (a3 : PySem.W.nsIn K mainGlobals "is_pair" = some (some (.ref f3)))
    (l3 : K.lookup f3 = some ⟨oc3, od3, .func (PySem.W.fnOf "is_pair" "is_pair" (defArgs s_is_pair) (defBody s_is_pair) (defScope s_is_pair) .none kV3 dc3 pm3 an3 cd3 ct3), sl3⟩)
    (c3 : PySem.W.codeIn K cd3 "is_pair" = true)
    (k3 : PySem.W.keepIn K (.ref f3) = true)
    (a4 : PySem.W.nsIn K mainGlobals "rings" = some (some (.ref f4)))
    (l4 : K.lookup f4 = some ⟨oc4, od4, .func (PySem.W.fnOf "rings" "rings" (defArgs s_rings) (defBody s_rings) (defScope s_rings) .none kV4 dc4 pm4 an4 cd4 ct4), sl4⟩)
    (c4 : PySem.W.codeIn K cd4 "rings" = true)
    (k4 : PySem.W.keepIn K (.ref f4) = true)
    (a5 : PySem.W.nsIn K mainGlobals "_rings_from" = some (some (.ref f5)))
    (l5 : K.lookup f5 = some ⟨oc5, od5, .func (PySem.W.fnOf "_rings_from" "_rings_from" (defArgs s_rings_from) (defBody s_rings_from) (defScope s_rings_from) .none kV5 dc5 pm5 an5 cd5 ct5), sl5⟩)
    (c5 : PySem.W.codeIn K cd5 "_rings_from" = true)
    (k5 : PySem.W.keepIn K (.ref f5) = true)
    (a6 : PySem.W.nsIn K mainGlobals "_steps" = some (some (.ref f6)))
    (l6 : K.lookup f6 = some ⟨oc6, od6, .func (PySem.W.fnOf "_steps" "_steps" (defArgs s_steps) (defBody s_steps) (defScope s_steps) .none kV6 dc6 pm6 an6 cd6 ct6), sl6⟩)
    (c6 : PySem.W.codeIn K cd6 "_steps" = true)
    (k6 : PySem.W.keepIn K (.ref f6) = true)
    (a7 : PySem.W.nsIn K mainGlobals "bridges" = some (some (.ref f7)))
    (l7 : K.lookup f7 = some ⟨oc7, od7, .func (PySem.W.fnOf "bridges" "bridges" (defArgs s_bridges) (defBody s_bridges) (defScope s_bridges) .none kV7 dc7 pm7 an7 cd7 ct7), sl7⟩)
    (c7 : PySem.W.codeIn K cd7 "bridges" = true)
    (k7 : PySem.W.keepIn K (.ref f7) = true)
    (a8 : PySem.W.findIn K (.ref C_Web) "__init__" = some (some (.ref f8)))
    (i8 : PySem.W.isFn K (.ref f8) = true)
    (l8 : K.lookup f8 = some ⟨oc8, od8, .func (PySem.W.fnOf "__init__" "Web.__init__" (defArgs s_webI) (defBody s_webI) (defScope s_webI) .none kV8 dc8 pm8 an8 cd8 ct8), sl8⟩)
    (c8 : PySem.W.codeIn K cd8 "Web.__init__" = true)
    (k8 : PySem.W.keepIn K (.ref f8) = true)
    (a9 : PySem.W.findIn K (.ref C_Web) "__eq__" = some (some (.ref f9)))
    (i9 : PySem.W.isFn K (.ref f9) = true)
    (l9 : K.lookup f9 = some ⟨oc9, od9, .func (PySem.W.fnOf "__eq__" "Web.__eq__" (defArgs s_webE) (defBody s_webE) (defScope s_webE) .none kV9 dc9 pm9 an9 cd9 ct9), sl9⟩)
    (c9 : PySem.W.codeIn K cd9 "Web.__eq__" = true)
    (k9 : PySem.W.keepIn K (.ref f9) = true)
    (a10 : PySem.W.nsIn K mainGlobals "_is_tie" = some (some (.ref f10)))
    (l10 : K.lookup f10 = some ⟨oc10, od10, .func (PySem.W.fnOf "_is_tie" "_is_tie" (defArgs s_is_tie) (defBody s_is_tie) (defScope s_is_tie) .none kV10 dc10 pm10 an10 cd10 ct10), sl10⟩)
    (c10 : PySem.W.codeIn K cd10 "_is_tie" = true)
    (k10 : PySem.W.keepIn K (.ref f10) = true)
    (a11 : PySem.W.nsIn K mainGlobals "_law_hand" = some (some (.ref f11)))
    (l11 : K.lookup f11 = some ⟨oc11, od11, .func (PySem.W.fnOf "_law_hand" "_law_hand" (defArgs s_l_hand) (defBody s_l_hand) (defScope s_l_hand) .none kV11 dc11 pm11 an11 cd11 ct11), sl11⟩)
    (c11 : PySem.W.codeIn K cd11 "_law_hand" = true)
    (k11 : PySem.W.keepIn K (.ref f11) = true)
    (a12 : PySem.W.nsIn K mainGlobals "_law_draw" = some (some (.ref f12)))
    (l12 : K.lookup f12 = some ⟨oc12, od12, .func (PySem.W.fnOf "_law_draw" "_law_draw" (defArgs s_l_draw) (defBody s_l_draw) (defScope s_l_draw) .none kV12 dc12 pm12 an12 cd12 ct12), sl12⟩)
    (c12 : PySem.W.codeIn K cd12 "_law_draw" = true)
    (k12 : PySem.W.keepIn K (.ref f12) = true)
    (a13 : PySem.W.nsIn K mainGlobals "_law_some" = some (some (.ref f13)))
    (l13 : K.lookup f13 = some ⟨oc13, od13, .func (PySem.W.fnOf "_law_some" "_law_some" (defArgs s_l_some) (defBody s_l_some) (defScope s_l_some) .none kV13 dc13 pm13 an13 cd13 ct13), sl13⟩)
    (c13 : PySem.W.codeIn K cd13 "_law_some" = true)
    (k13 : PySem.W.keepIn K (.ref f13) = true)
    (a14 : PySem.W.nsIn K mainGlobals "_law_pair" = some (some (.ref f14)))
    (l14 : K.lookup f14 = some ⟨oc14, od14, .func (PySem.W.fnOf "_law_pair" "_law_pair" (defArgs s_l_pair) (defBody s_l_pair) (defScope s_l_pair) .none kV14 dc14 pm14 an14 cd14 ct14), sl14⟩)
    (c14 : PySem.W.codeIn K cd14 "_law_pair" = true)
    (k14 : PySem.W.keepIn K (.ref f14) = true)
    (a15 : PySem.W.nsIn K mainGlobals "_law_ties" = some (some (.ref f15)))
    (l15 : K.lookup f15 = some ⟨oc15, od15, .func (PySem.W.fnOf "_law_ties" "_law_ties" (defArgs s_l_ties) (defBody s_l_ties) (defScope s_l_ties) .none kV15 dc15 pm15 an15 cd15 ct15), sl15⟩)
    (c15 : PySem.W.codeIn K cd15 "_law_ties" = true)
    (k15 : PySem.W.keepIn K (.ref f15) = true)
    (a16 : PySem.W.nsIn K mainGlobals "_law_parts" = some (some (.ref f16)))
    (l16 : K.lookup f16 = some ⟨oc16, od16, .func (PySem.W.fnOf "_law_parts" "_law_parts" (defArgs s_l_parts) (defBody s_l_parts) (defScope s_l_parts) .none kV16 dc16 pm16 an16 cd16 ct16), sl16⟩)
    (c16 : PySem.W.codeIn K cd16 "_law_parts" = true)
    (k16 : PySem.W.keepIn K (.ref f16) = true)
    (a17 : PySem.W.nsIn K mainGlobals "_law_is" = some (some (.ref f17)))
    (l17 : K.lookup f17 = some ⟨oc17, od17, .func (PySem.W.fnOf "_law_is" "_law_is" (defArgs s_l_is) (defBody s_l_is) (defScope s_l_is) .none kV17 dc17 pm17 an17 cd17 ct17), sl17⟩)
    (c17 : PySem.W.codeIn K cd17 "_law_is" = true)
    (k17 : PySem.W.keepIn K (.ref f17) = true)
    (a18 : PySem.W.nsIn K mainGlobals "_law_bridges" = some (some (.ref f18)))
    (l18 : K.lookup f18 = some ⟨oc18, od18, .func (PySem.W.fnOf "_law_bridges" "_law_bridges" (defArgs s_l_bridges) (defBody s_l_bridges) (defScope s_l_bridges) .none kV18 dc18 pm18 an18 cd18 ct18), sl18⟩)
    (c18 : PySem.W.codeIn K cd18 "_law_bridges" = true)
    (k18 : PySem.W.keepIn K (.ref f18) = true)
    (a19 : PySem.W.nsIn K mainGlobals "_law_is_round" = some (some (.ref f19)))
    (l19 : K.lookup f19 = some ⟨oc19, od19, .func (PySem.W.fnOf "_law_is_round" "_law_is_round" (defArgs s_l_is_round) (defBody s_l_is_round) (defScope s_l_is_round) .none kV19 dc19 pm19 an19 cd19 ct19), sl19⟩)
    (c19 : PySem.W.codeIn K cd19 "_law_is_round" = true)
    (k19 : PySem.W.keepIn K (.ref f19) = true)
    (a20 : PySem.W.nsIn K mainGlobals "_law_strung" = some (some (.ref f20)))
    (l20 : K.lookup f20 = some ⟨oc20, od20, .func (PySem.W.fnOf "_law_strung" "_law_strung" (defArgs s_l_strung) (defBody s_l_strung) (defScope s_l_strung) .none kV20 dc20 pm20 an20 cd20 ct20), sl20⟩)
    (c20 : PySem.W.codeIn K cd20 "_law_strung" = true)
    (k20 : PySem.W.keepIn K (.ref f20) = true)
    (a21 : PySem.W.nsIn K mainGlobals "_law_right" = some (some (.ref f21)))
    (l21 : K.lookup f21 = some ⟨oc21, od21, .func (PySem.W.fnOf "_law_right" "_law_right" (defArgs s_l_right) (defBody s_l_right) (defScope s_l_right) .none kV21 dc21 pm21 an21 cd21 ct21), sl21⟩)
    (c21 : PySem.W.codeIn K cd21 "_law_right" = true)
    (k21 : PySem.W.keepIn K (.ref f21) = true)
    (a22 : PySem.W.nsIn K mainGlobals "law" = some (some (.ref f22)))
    (l22 : K.lookup f22 = some ⟨oc22, od22, .func (PySem.W.fnOf "law" "law" (defArgs s_law) (defBody s_law) (defScope s_law) .none kV22 dc22 pm22 an22 cd22 ct22), sl22⟩)
    (c22 : PySem.W.codeIn K cd22 "law" = true)
    (k22 : PySem.W.keepIn K (.ref f22) = true)
    (pg_Web : PySem.W.plainGet K C_Web Str.empty = true)
    (hd_Web : PySem.W.hasDictIn K C_Web = true)
    (po_Web : PySem.W.plainOver K C_Web = true)
    (sa_Web : PySem.W.findIn K (.ref C_Web) "__setattr__" = some (some (.builtin "object.__setattr__")))
    (mk_Web : PySem.W.makesIn K C_Web = true)
    (kc_Web : PySem.W.keepIn K (.ref C_Web) = true)
    (ic_Web : PySem.W.findIn K (.ref C_Web) "__class__" = some (some (.builtin "object.__class__")))
    (im_Web : PySem.W.mroIn K C_Web (.type "object") = some true)
    (no_Web_many : PySem.W.findIn K (.ref C_Web) "many" = some none)
    (no_Web_ties : PySem.W.findIn K (.ref C_Web) "ties" = some none)
    (ia : PySem.W.specialIn K (.builtin "object.__class__") "__get__" = some (some (.builtin "getset_descriptor.__get__")))
    (ib : PySem.W.takesIn K (.builtin "object.__class__") = some true)
    (v_MOST_PLACES : PySem.W.nsIn K mainGlobals "MOST_PLACES" = some (some (.int 10 t_MOST_PLACES)))
    (v_MOST_TIES : PySem.W.nsIn K mainGlobals "MOST_TIES" = some (some (.int 16 t_MOST_TIES)))
    (z_abs : PySem.W.nsIn K mainGlobals "abs" = some none)
    (z_all : PySem.W.nsIn K mainGlobals "all" = some none)
    (z_bool : PySem.W.nsIn K mainGlobals "bool" = some none)
    (z_enumerate : PySem.W.nsIn K mainGlobals "enumerate" = some none)
    (z_int : PySem.W.nsIn K mainGlobals "int" = some none)
    (z_isinstance : PySem.W.nsIn K mainGlobals "isinstance" = some none)
    (z_len : PySem.W.nsIn K mainGlobals "len" = some none)
    (z_list : PySem.W.nsIn K mainGlobals "list" = some none)
    (z_max : PySem.W.nsIn K mainGlobals "max" = some none)
    (z_min : PySem.W.nsIn K mainGlobals "min" = some none)
    (z_range : PySem.W.nsIn K mainGlobals "range" = some none)
    (z_set : PySem.W.nsIn K mainGlobals "set" = some none)
    (z_sorted : PySem.W.nsIn K mainGlobals "sorted" = some none)
    (z_tuple : PySem.W.nsIn K mainGlobals "tuple" = some none)
    (z_zip : PySem.W.nsIn K mainGlobals "zip" = some none) :
    ∃ fd : FuncData, (∀ (s : Shared) (v : Value), BindsTo s fd ⟨[v], []⟩ [("script", v)]) ∧ ∀ base : Heap, K.In base → base.Ns mainGlobals mg → FnOk l.prog w K mg base CX0 12 fa fd ["script"] (spLaw K) := by
  have e := hfa.symm.trans (PySem.W.mg_of X G a22)
  cases e
  have F0 := fun_mk (st := s_is_integer) l0 c0 k0
  have b0 := F0.binds (ps := ["thing"]) fun _ _ _ _ _ _ us hl => match us, hl with | [_], _ => rfl
  have F1 := fun_mk (st := s_is_between) l1 c1 k1
  have b1 := F1.binds (ps := ["thing", "least", "most"]) fun _ _ _ _ _ _ us hl => match us, hl with | [_, _, _], _ => rfl
  have F2 := fun_mk (st := s_is_below) l2 c2 k2
  have b2 := F2.binds (ps := ["thing", "bound"]) fun _ _ _ _ _ _ us hl => match us, hl with | [_, _], _ => rfl
  have F3 := fun_mk (st := s_is_pair) l3 c3 k3
  have b3 := F3.binds (ps := ["thing"]) fun _ _ _ _ _ _ us hl => match us, hl with | [_], _ => rfl
  have F4 := fun_mk (st := s_rings) l4 c4 k4
  have b4 := F4.binds (ps := ["web"]) fun _ _ _ _ _ _ us hl => match us, hl with | [_], _ => rfl
  have F5 := fun_mk (st := s_rings_from) l5 c5 k5
  have b5 := F5.binds (ps := ["web", "first"]) fun _ _ _ _ _ _ us hl => match us, hl with | [_, _], _ => rfl
  have F6 := fun_mk (st := s_steps) l6 c6 k6
  have b6 := F6.binds (ps := ["web", "place", "gone", "met"]) fun _ _ _ _ _ _ us hl => match us, hl with | [_, _, _, _], _ => rfl
  have F7 := fun_mk (st := s_bridges) l7 c7 k7
  have b7 := F7.binds (ps := ["web"]) fun _ _ _ _ _ _ us hl => match us, hl with | [_], _ => rfl
  have F8 := fun_mk (st := s_webI) l8 c8 k8
  have b8 := F8.binds (ps := ["self", "many", "ties"]) fun _ _ _ _ _ _ us hl => match us, hl with | [_, _, _], _ => rfl
  have F9 := fun_mk (st := s_webE) l9 c9 k9
  have b9 := F9.binds (ps := ["self", "other"]) fun _ _ _ _ _ _ us hl => match us, hl with | [_, _], _ => rfl
  have F10 := fun_mk (st := s_is_tie) l10 c10 k10
  have b10 := F10.binds (ps := ["thing", "many"]) fun _ _ _ _ _ _ us hl => match us, hl with | [_, _], _ => rfl
  have F11 := fun_mk (st := s_l_hand) l11 c11 k11
  have b11 := F11.binds (ps := ["script"]) fun _ _ _ _ _ _ us hl => match us, hl with | [_], _ => rfl
  have F12 := fun_mk (st := s_l_draw) l12 c12 k12
  have b12 := F12.binds (ps := ["hand", "many"]) fun _ _ _ _ _ _ us hl => match us, hl with | [_, _], _ => rfl
  have F13 := fun_mk (st := s_l_some) l13 c13 k13
  have b13 := F13.binds (ps := ["hand", "things"]) fun _ _ _ _ _ _ us hl => match us, hl with | [_, _], _ => rfl
  have F14 := fun_mk (st := s_l_pair) l14 c14 k14
  have b14 := F14.binds (ps := ["one", "other"]) fun _ _ _ _ _ _ us hl => match us, hl with | [_, _], _ => rfl
  have F15 := fun_mk (st := s_l_ties) l15 c15 k15
  have b15 := F15.binds (ps := ["hand", "many", "kind"]) fun _ _ _ _ _ _ us hl => match us, hl with | [_, _, _], _ => rfl
  have F16 := fun_mk (st := s_l_parts) l16 c16 k16
  have b16 := F16.binds (ps := ["many", "ties", "lot"]) fun _ _ _ _ _ _ us hl => match us, hl with | [_, _, _], _ => rfl
  have F17 := fun_mk (st := s_l_is) l17 c17 k17
  have b17 := F17.binds (ps := ["told", "due"]) fun _ _ _ _ _ _ us hl => match us, hl with | [_, _], _ => rfl
  have F18 := fun_mk (st := s_l_bridges) l18 c18 k18
  have b18 := F18.binds (ps := ["many", "ties"]) fun _ _ _ _ _ _ us hl => match us, hl with | [_, _], _ => rfl
  have F19 := fun_mk (st := s_l_is_round) l19 c19 k19
  have b19 := F19.binds (ps := ["many", "ties", "tie"]) fun _ _ _ _ _ _ us hl => match us, hl with | [_, _, _], _ => rfl
  have F20 := fun_mk (st := s_l_strung) l20 c20 k20
  have b20 := F20.binds (ps := ["hand"]) fun _ _ _ _ _ _ us hl => match us, hl with | [_], _ => rfl
  have F21 := fun_mk (st := s_l_right) l21 c21 k21
  have b21 := F21.binds (ps := ["many", "ties"]) fun _ _ _ _ _ _ us hl => match us, hl with | [_, _], _ => rfl
  have F22 := fun_mk (st := s_law) l22 c22 k22
  have b22 := F22.binds (ps := ["script"]) fun _ _ _ _ _ _ us hl => match us, hl with | [_], _ => rfl
  let T : Tx K mg := {
    f_is_integer := f0, d_is_integer := _, F_is_integer := F0, b_is_integer := b0, m_is_integer := PySem.W.mg_of X G a0,
    f_is_between := f1, d_is_between := _, F_is_between := F1, b_is_between := b1, m_is_between := PySem.W.mg_of X G a1,
    f_is_below := f2, d_is_below := _, F_is_below := F2, b_is_below := b2, m_is_below := PySem.W.mg_of X G a2,
    f_is_pair := f3, d_is_pair := _, F_is_pair := F3, b_is_pair := b3, m_is_pair := PySem.W.mg_of X G a3,
    f_rings := f4, d_rings := _, F_rings := F4, b_rings := b4, m_rings := PySem.W.mg_of X G a4,
    f_rings_from := f5, d_rings_from := _, F_rings_from := F5, b_rings_from := b5, m_rings_from := PySem.W.mg_of X G a5,
    f_steps := f6, d_steps := _, F_steps := F6, b_steps := b6, m_steps := PySem.W.mg_of X G a6,
    f_bridges := f7, d_bridges := _, F_bridges := F7, b_bridges := b7, m_bridges := PySem.W.mg_of X G a7,
    f_webI := f8, d_webI := _, F_webI := F8, b_webI := b8,
    f_webE := f9, d_webE := _, F_webE := F9, b_webE := b9,
    f_is_tie := f10, d_is_tie := _, F_is_tie := F10, b_is_tie := b10, m_is_tie := PySem.W.mg_of X G a10,
    f_l_hand := f11, d_l_hand := _, F_l_hand := F11, b_l_hand := b11, m_l_hand := PySem.W.mg_of X G a11,
    f_l_draw := f12, d_l_draw := _, F_l_draw := F12, b_l_draw := b12, m_l_draw := PySem.W.mg_of X G a12,
    f_l_some := f13, d_l_some := _, F_l_some := F13, b_l_some := b13, m_l_some := PySem.W.mg_of X G a13,
    f_l_pair := f14, d_l_pair := _, F_l_pair := F14, b_l_pair := b14, m_l_pair := PySem.W.mg_of X G a14,
    f_l_ties := f15, d_l_ties := _, F_l_ties := F15, b_l_ties := b15, m_l_ties := PySem.W.mg_of X G a15,
    f_l_parts := f16, d_l_parts := _, F_l_parts := F16, b_l_parts := b16, m_l_parts := PySem.W.mg_of X G a16,
    f_l_is := f17, d_l_is := _, F_l_is := F17, b_l_is := b17, m_l_is := PySem.W.mg_of X G a17,
    f_l_bridges := f18, d_l_bridges := _, F_l_bridges := F18, b_l_bridges := b18, m_l_bridges := PySem.W.mg_of X G a18,
    f_l_is_round := f19, d_l_is_round := _, F_l_is_round := F19, b_l_is_round := b19, m_l_is_round := PySem.W.mg_of X G a19,
    f_l_strung := f20, d_l_strung := _, F_l_strung := F20, b_l_strung := b20, m_l_strung := PySem.W.mg_of X G a20,
    f_l_right := f21, d_l_right := _, F_l_right := F21, b_l_right := b21, m_l_right := PySem.W.mg_of X G a21,
    f_law := fa, d_law := _, F_law := F22, b_law := b22, m_law := PySem.W.mg_of X G a22,
    C_Web := C_Web, m_Web := PySem.W.mg_of X G aC_Web, cl_Web := ⟨pg_Web, hd_Web, po_Web, sa_Web⟩, mk_Web := ⟨mk_Web, a8, i8, kc_Web⟩,
    eq_Web := a9, eqf_Web := i9,
    ic_Web := ic_Web, im_Web := im_Web, no_Web_many := no_Web_many, no_Web_ties := no_Web_ties,
    ia := ia, ib := ib,
    t_MOST_PLACES := t_MOST_PLACES, m_MOST_PLACES := PySem.W.mg_of X G v_MOST_PLACES,
    t_MOST_TIES := t_MOST_TIES, m_MOST_TIES := PySem.W.mg_of X G v_MOST_TIES,
    g_abs := PySem.W.mg_none_of X G z_abs, g_all := PySem.W.mg_none_of X G z_all, g_bool := PySem.W.mg_none_of X G z_bool, g_enumerate := PySem.W.mg_none_of X G z_enumerate, g_int := PySem.W.mg_none_of X G z_int, g_isinstance := PySem.W.mg_none_of X G z_isinstance, g_len := PySem.W.mg_none_of X G z_len, g_list := PySem.W.mg_none_of X G z_list, g_max := PySem.W.mg_none_of X G z_max, g_min := PySem.W.mg_none_of X G z_min, g_range := PySem.W.mg_none_of X G z_range, g_set := PySem.W.mg_none_of X G z_set, g_sorted := PySem.W.mg_none_of X G z_sorted, g_tuple := PySem.W.mg_none_of X G z_tuple, g_zip := PySem.W.mg_none_of X G z_zip }
  exact ⟨_, fun s v => .of_eq rfl, fun base _ _ => (ok_law T : FnOk l.prog w K mg base CX0 12 T.f_law T.d_law _ _)⟩
end K6
open PySem PySem.W PyProof.Rows
set_option maxRecDepth 100000 in
set_option maxHeartbeats 0 in
theorem PySem.Challenge.cw_takenjoined_k06_whole_bridges_holds : PySem.Challenge.rw_takenjoined_k06_whole_bridges.Holds := by
  w_on; o_law; k_head; (case hw => w_witness2)
  k_fill
  refine L2.walk_of (l := PySem.Challenge.rw_takenjoined_k06_whole_bridges) (n := 63) (k := 12) (x := "script") (CX := fun _ => L2.CX0) (sp := fun w => K6.spLaw _) rfl (by decide) rfl ⟨rfl, by decide, by decide⟩ (fun w h Y => PySem.W.kIn_of Y) ?F (fun _ _ a ns hl _ hS => ⟨a, ns, rfl, hS, hl, fun _ => rfl⟩) (fun _ _ _ _ _ h => h)
  case F =>
    intro w mg fa h KX G hmg
    refine' K6.all_mk KX G hmg ?aC_Web ?a0 ?l0 ?c0 ?k0 ?a1 ?l1 ?c1 ?k1 ?a2 ?l2 ?c2 ?k2 ?a3 ?l3 ?c3 ?k3 ?a4 ?l4 ?c4 ?k4 ?a5 ?l5 ?c5 ?k5 ?a6 ?l6 ?c6 ?k6 ?a7 ?l7 ?c7 ?k7 ?a8 ?i8 ?l8 ?c8 ?k8 ?a9 ?i9 ?l9 ?c9 ?k9 ?a10 ?l10 ?c10 ?k10 ?a11 ?l11 ?c11 ?k11 ?a12 ?l12 ?c12 ?k12 ?a13 ?l13 ?c13 ?k13 ?a14 ?l14 ?c14 ?k14 ?a15 ?l15 ?c15 ?k15 ?a16 ?l16 ?c16 ?k16 ?a17 ?l17 ?c17 ?k17 ?a18 ?l18 ?c18 ?k18 ?a19 ?l19 ?c19 ?k19 ?a20 ?l20 ?c20 ?k20 ?a21 ?l21 ?c21 ?k21 ?a22 ?l22 ?c22 ?k22 ?pg_Web ?hd_Web ?po_Web ?sa_Web ?mk_Web ?kc_Web ?ic_Web ?im_Web ?no_Web_many ?no_Web_ties ?ia ?ib ?v_MOST_PLACES ?v_MOST_TIES ?z_abs ?z_all ?z_bool ?z_enumerate ?z_int ?z_isinstance ?z_len ?z_list ?z_max ?z_min ?z_range ?z_set ?z_sorted ?z_tuple ?z_zip
    (case aC_Web => k_is); (case a0 => k_is); (case l0 => k_is); (case c0 => k_is); (case k0 => k_is)
    (case a1 => k_is); (case l1 => k_is); (case c1 => k_is); (case k1 => k_is); (case a2 => k_is)
    (case l2 => k_is); (case c2 => k_is); (case k2 => k_is); (case a3 => k_is); (case l3 => k_is)
    (case c3 => k_is); (case k3 => k_is); (case a4 => k_is); (case l4 => k_is); (case c4 => k_is)
    (case k4 => k_is); (case a5 => k_is); (case l5 => k_is); (case c5 => k_is); (case k5 => k_is)
    (case a6 => k_is); (case l6 => k_is); (case c6 => k_is); (case k6 => k_is); (case a7 => k_is)
    (case l7 => k_is); (case c7 => k_is); (case k7 => k_is); (case a8 => k_is); (case i8 => k_is)
    (case l8 => k_is); (case c8 => k_is); (case k8 => k_is); (case a9 => k_is); (case i9 => k_is)
    (case l9 => k_is); (case c9 => k_is); (case k9 => k_is); (case a10 => k_is); (case l10 => k_is)
    (case c10 => k_is); (case k10 => k_is); (case a11 => k_is); (case l11 => k_is); (case c11 => k_is)
    (case k11 => k_is); (case a12 => k_is); (case l12 => k_is); (case c12 => k_is); (case k12 => k_is)
    (case a13 => k_is); (case l13 => k_is); (case c13 => k_is); (case k13 => k_is); (case a14 => k_is)
    (case l14 => k_is); (case c14 => k_is); (case k14 => k_is); (case a15 => k_is); (case l15 => k_is)
    (case c15 => k_is); (case k15 => k_is); (case a16 => k_is); (case l16 => k_is); (case c16 => k_is)
    (case k16 => k_is); (case a17 => k_is); (case l17 => k_is); (case c17 => k_is); (case k17 => k_is)
    (case a18 => k_is); (case l18 => k_is); (case c18 => k_is); (case k18 => k_is); (case a19 => k_is)
    (case l19 => k_is); (case c19 => k_is); (case k19 => k_is); (case a20 => k_is); (case l20 => k_is)
    (case c20 => k_is); (case k20 => k_is); (case a21 => k_is); (case l21 => k_is); (case c21 => k_is)
    (case k21 => k_is); (case a22 => k_is); (case l22 => k_is); (case c22 => k_is); (case k22 => k_is)
    (case pg_Web => k_is); (case hd_Web => k_is); (case po_Web => k_is); (case sa_Web => k_is); (case mk_Web => k_is)
    (case kc_Web => k_is); (case ic_Web => k_is); (case im_Web => k_is); (case no_Web_many => k_is); (case no_Web_ties => k_is)
    (case ia => k_is); (case ib => k_is); (case v_MOST_PLACES => k_is); (case v_MOST_TIES => k_is); (case z_abs => k_is)
    (case z_all => k_is); (case z_bool => k_is); (case z_enumerate => k_is); (case z_int => k_is); (case z_isinstance => k_is)
    (case z_len => k_is); (case z_list => k_is); (case z_max => k_is); (case z_min => k_is); (case z_range => k_is)
    (case z_set => k_is); (case z_sorted => k_is); (case z_tuple => k_is); (case z_zip => k_is)

