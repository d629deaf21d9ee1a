import PyProof.Rows.All
import Wide.All
import OpenK.AllK
import Wide.FinOn
import HandS.ForMost
import HandS.IsInst
import HandS.Wide
import HandS.OwnEq
import HandS.Strs
import HandS.SetFor
import HandS.SortInts
import HandS.TupAny
import HandS.Conv
import HandS.Flow
import HandS.Walk
import KE.GoesEnum
import PyProof.ReprRoads
import HandS.Words
import HandS.Ends
import PyProof.InstNe
import HandS.Evl
import HandS.Style
import HandS.ExcInit
import HandS.TryMany
import HandS.TupMul
import KE.KListMore
import HandS.Deep
import HandS.Rev
import HandS.Zip
import HandS.Lambda
import HandS.ExcField
import HandS.ExcIs
import HandS.ExcOwn
import HandS.TryOnly
import KE.KExcIs
import HandS.Dict
import HandS.Text
import PyProof.StrLawsRepr
import PyProof.Rows.StrReprFit
import KE.KNestM
import HandS.RevRange
import KE.RegKIsAll
import KE.RegKTryMore
import PySem.Challenge.RW_takenjoined_k04_whole_parts_and_ranks
set_option Elab.async false
set_option linter.all false
set_option maxRecDepth 100000
set_option maxHeartbeats 4000000
/-! Rules of my own over the hand layer: a tuple counted through. -/
namespace Rl
open PySem PySem.Spec PyProof.Rows L2
/-! ### for i, x in enumerate(t), t a tuple -/
theorem meets_enT (u : Addr) (vs : Array Value) (nn : Nat) (dd : Option Addr) (ss : Array (Option Value)) :
    Meets (Builtin.«enumerate.__new__» ⟨[.type "enumerate", .ref u], []⟩) (fun _ R s =>
      s.heap.get? u = some { cls := .type "tuple", dict := dd, data := .seq vs nn, slots := ss } ∧
      R (.ok (.ret (.ref (s.heap.push { cls := .type "tuple_iterator", data := .fields #[.ref u, .int 0 0] }).objs.size)))
        { s with heap := ((s.heap.push { cls := .type "tuple_iterator", data := .fields #[.ref u, .int 0 0] }).push
            ({ cls := .type "enumerate", data := .fields #[.none, .bool false, .ref s.heap.objs.size, rawInt 0, .none, .none] } : Obj)) }) :=
  .of_wp fun prog w A R s hy => by
    obtain ⟨hp, gg, dw, tk, oo⟩ := s; obtain ⟨hu, fin⟩ := hy
    have sb := sub_enumerate
    have tt : Heap.IsTuple (Shared.heap ⟨hp, gg, dw, tk, oo⟩) u vs := ⟨_, hu, rfl, nn, rfl⟩
    wp_walk using AutoSeq1.wpAny_loadPart' hu
    refine wpAny_stack_any fun stk => wpAny_pure ?_
    split
    · rename_i cc _ _ _ _ _
      cases (cc == Value.type "enumerate")
      · wp_walk using AutoSeq1.wpAny_loadPart' hu, wpAny_pyIter_tuple tt
        exact ⟨_, rfl, fin⟩
      · wp_walk using AutoSeq1.wpAny_loadPart' hu, wpAny_pyIter_tuple tt
        exact ⟨_, rfl, fin⟩
    · wp_walk using AutoSeq1.wpAny_loadPart' hu, wpAny_pyIter_tuple tt
      exact ⟨_, rfl, fin⟩
section
variable {prog : Program} {w : World} {A : Around} {E : Value → Shared → Prop} {s : Shared}
theorem call_enT {u : Addr} {vs : Array Value} {Q : Value → Shared → Prop} (ht : s.heap.IsTuple u vs)
    (fin : ∀ g, IsEnum g (s.heap.objs.size + 1) s.heap.objs.size 0 .none → g.IsTupleIter s.heap.objs.size u 0 → g.objs.size = s.heap.objs.size + 2 →
      (∀ b o, s.heap.get? b = some o → g.get? b = some o) → Q (.ref (s.heap.objs.size + 1)) { s with heap := g }) :
    wpAny (model prog w) A (call (.type "enumerate") [.ref u]) Q E s := by
  obtain ⟨⟨cc, dd, da, ss⟩, hu, ec, nn, ed⟩ := ht
  replace ec : cc = .type "tuple" := ec
  replace ed : da = .seq vs nn := ed
  subst ec ed
  refine callType_new F.called_enumerate (by decide) (F.typeCall_enumerate_1 _) (F.newCall_enumerate_1 _)
    (fun ob => F.args_object_init_2 ob _) F.entry_enumerate_new (meets_enT u vs nn dd ss) ⟨hu, ?_⟩
  have sz : (s.heap.push { cls := .type "tuple_iterator", data := .fields #[.ref u, .int 0 0] }).objs.size
      = s.heap.objs.size + 1 := Heap.size_push ..
  show _ ∧ _
  rw [sz]
  have en : IsEnum ((s.heap.push { cls := .type "tuple_iterator", data := .fields #[.ref u, .int 0 0] }).push
      { cls := .type "enumerate", data := .fields #[.none, .bool false, .ref s.heap.objs.size, rawInt 0, .none, .none] })
      (s.heap.objs.size + 1) s.heap.objs.size 0 .none := by
    have q := Heap.get?_push_size (s.heap.push { cls := .type "tuple_iterator", data := .fields #[.ref u, .int 0 0] })
      (o := { cls := .type "enumerate", data := .fields #[.none, .bool false, .ref s.heap.objs.size, rawInt 0, .none, .none] }) rfl
    rw [sz] at q
    exact q
  refine ⟨⟨_, en, rfl⟩, fin _ en ?_ (by rw [Heap.size_push, sz])
    fun b o x => Heap.get?_push_of_some _ (Heap.get?_push_of_some _ x)⟩
  have q0 := Heap.get?_push_size s.heap (o := { cls := .type "tuple_iterator", data := .fields #[.ref u, .int 0 0] }) rfl
  exact ⟨_, Heap.get?_push_of_some _ q0, rfl, rfl⟩
end
/-- the tuple at a, each item with its number in a new pair -/
def Iet (K : PySem.W.Frag) (a : Addr) : It :=
  ⟨fun i H => ∃ (ys : List V) (y : V), SqT K H a ys ∧ ys[i]? = some y,
   fun i H v H' => ∃ T y, v = .ref T ∧ H T = none ∧ H' = upd H T (.tup [.int (i : Nat), y]) ∧ ∀ ys, SqT K H a ys → ys[i]? = some y,
   fun i H => ∃ ys : List V, SqT K H a ys ∧ ys.length = i⟩
theorem turn_enT {P : Program} {w : World} {K : PySem.W.Frag} {elts : List Expr} {kk : Nat} {tp : Pos} (a e it : Addr) :
    Turn P w K (.Tuple elts kk tp) (Iet K a) [e, it] e
      (fun i h => (∃ old, IsEnum h e it ((i : Nat) : Int) old) ∧ h.IsTupleIter it a i ∧ e ≠ it) where
  mem := by simp
  obj := fun i h st b hb => by
    obtain ⟨⟨old, en⟩, ⟨o, ho, _, hd⟩, _⟩ := st
    have z : b = e ∨ b = it := by simpa using hb
    rcases z with z | z
    · rw [z]
      exact ⟨_, en, fun v q => nomatch q⟩
    · rw [z]
      exact ⟨o, ho, fun v q => by rw [hd] at q; cases q⟩
  keep := fun i h h' st k => by
    obtain ⟨⟨old, en⟩, ti, ne⟩ := st
    exact ⟨⟨old, k e (by simp) _ en⟩, ti.at fun o q => k it (by simp) o q, ne⟩
  item := by
    intro X eP ew eK hc i pins s σ H E I fk st go
    subst eP ew eK
    obtain ⟨⟨old, en⟩, ti, ne⟩ := st
    obtain ⟨ys, y, hq, hy⟩ := go
    obtain ⟨its, rv, pt, hz⟩ := I.tuple hq
    obtain ⟨u, hu, ru⟩ := rv.get hy
    have le : e < s.heap.objs.size := Heap.lt_size en
    have li : it < s.heap.objs.size := by obtain ⟨_, q, _⟩ := ti; exact Heap.lt_size q
    have hlt : i < its.toArray.size := by
      have q := (List.getElem?_eq_some_iff.mp hu).1
      simpa using q
    have nai : a ≠ it := fun z => by
      obtain ⟨o, ho, hcl, _⟩ := ti
      obtain ⟨o2, ho2, hcl2, _⟩ := pt
      rw [z] at ho2
      rw [ho] at ho2
      cases ho2
      rw [hcl] at hcl2
      exact absurd hcl2 (by simp)
    have nae : e ∉ [it, a] := fun z => by
      have z' : e = it ∨ e = a := by simpa using z
      rcases z' with z' | z'
      · exact ne z'
      · obtain ⟨o2, ho2, hcl2, _⟩ := pt
        rw [← z'] at ho2
        have q := en
        unfold IsEnum at q
        rw [q] at ho2
        cases ho2
        exact absurd hcl2 (by simp)
    have hh : X.A.in1.handled = none := by
      have q := I.ok.hd hc
      simpa using q
    refine wpAny_pyNext_enum_itemC (Draws.tuple hh it a nai its.toArray) en ⟨ti, pt⟩ hlt ne nae
      fun x h' tk ex out hst hT hsz hk => ?_
    have exu : u = x := by
      have q : its.toArray[i]? = some u := by simpa using hu
      exact Option.some.inj (q.symm.trans ex)
    subst exu
    refine ⟨_, rfl, wpAny_letOwnedTupleGo_enum (s := { s with heap := h', toks := tk + 1 }) out fun h2 en2 sb => ?_⟩
    have hT2 : h2.get? s.heap.objs.size = some { cls := .type "tuple", data := .seq #[.int i tk, u] } :=
      (sb.2 _ (Nat.ne_of_gt le)).trans hT
    have new : ObjOk X.prog X.w (upd H s.heap.objs.size (.tup [.int (i : Nat), y])) h2 s.heap.objs.size (.tup [.int (i : Nat), y]) :=
      ⟨by show 2 ≤ sizeLine; decide, [.int i tk, u], .cons ⟨_, rfl⟩ (.cons ru .nil), ⟨_, hT2, rfl, _, rfl⟩⟩
    have I1 : Inv X pins σ (upd H s.heap.objs.size (.tup [.int (i : Nat), y])) { s with heap := h2, toks := tk + 1 } :=
      I.turnedNew (ch := [e, it]) (fun b ob hb q => (sb.2 b (fun z => hb (by simp [z]))).trans
        (hk b ob (fun z => hb (by simp [z])) (fun z => hb (by simp [z])) q)) fk (Nat.le_refl _) new
    refine ⟨.ref s.heap.objs.size, _, I1, rfl, ⟨_, y, rfl, I.hok.fresh (Nat.le_refl _), rfl, fun zs hzs => by rw [I.tuple_inj hzs hq]; exact hy⟩,
      ⟨⟨u, ?_⟩, hst.1.at fun o q => (sb.2 it (Ne.symm ne)).trans q, ne⟩, fun b hb => ?_⟩
    · have e1 : ((i + 1 : Nat) : Int) = (i : Int) + 1 := by omega
      rw [e1]
      exact en2
    · have z : b = e ∨ b = it := by simpa using hb
      have hb' : b < s.heap.objs.size := by
        rcases z with z | z
        · rw [z]; exact le
        · rw [z]; exact li
      rw [upd_ne (Nat.ne_of_lt hb')]
      exact (fk b hb).1
  done := by
    intro X eP ew eK hc i pins s σ H E I fk st go
    subst eP ew eK
    obtain ⟨⟨old, en⟩, ti, ne⟩ := st
    obtain ⟨ys, hq, hl⟩ := go
    obtain ⟨its, rv, pt, hz⟩ := I.tuple hq
    obtain ⟨f0, f1, f2, f3, f4, f5⟩ := fk it (by simp)
    have ln := rv.length
    have hh : X.A.in1.handled = none := by
      have q := I.ok.hd hc
      simpa using q
    have nai : a ≠ it := fun z => by
      obtain ⟨o, ho, hcl, _⟩ := ti
      obtain ⟨o2, ho2, hcl2, _⟩ := pt
      rw [z] at ho2
      rw [ho] at ho2
      cases ho2
      rw [hcl] at hcl2
      exact absurd hcl2 (by simp)
    have ei : its.toArray.size = i := by
      rw [List.size_toArray, ← ln]
      exact hl
    refine wpAny_pyNext_enum_endD (Draws.tuple hh it a nai its.toArray) en (by rw [ei]; exact ⟨ti, pt⟩)
      fun h' eb => ⟨rfl, ?_⟩
    exact I.turned (t' := s.toks) (fun b o hb q => eb b o hb q) f0 f1 f3 f4 f5
  self := fun A i s Q E st h => let ⟨⟨_, en⟩, _⟩ := st; wpAny_pyIter_enum en h
def iEnT (K : PySem.W.Frag) (ta : TA) : TI := fun σ H R => ta σ H fun vs H1 => ∃ a ys, vs = [.ref a] ∧ SqT K H1 a ys ∧ R (Iet K a) H1
theorem pi_enT {X : Cx} {e : Expr} {ta : TA} {p pos tpos : Pos} {elts : List Expr} {kk : Nat} (hg : Gl X "enumerate") (hm : X.mg "enumerate" = none)
    (ha : PA X [e] ta) (hs : starEach [e] X.env = [(false, eval e X.env)] := by rfl) :
    PI X (.Tuple elts kk tpos) (.Call (.Name "enumerate" p) [e] [] pos) (iEnT X.K ta) := by
  refine ⟨fun pins s σ H R I hy => ?_⟩
  refine Call_ (ld_blt I hg hm boot_enumerate (PyProof.Rows.callWith_type1
    (thn (ha.run pos pins s σ H _ I hy) fun us s1 ⟨vs, H1, I1, r1, q1⟩ => ?_) hs rfl))
  obtain ⟨a, ys, ex, hq, q⟩ := q1
  subst ex
  cases r1 with
  | cons r rr =>
    cases rr
    cases r
    obtain ⟨its, rv, pt, hz⟩ := I1.tuple hq
    refine call_enT (show s1.heap.IsTuple a its.toArray from pt) fun g en ti hsz hk => wpAny_pyIter_enum en ?_
    have I2 : Inv X pins σ H1 { s1 with heap := g } := I1.kept (t' := s1.toks) hk
    refine ⟨s1.heap.objs.size + 1, [s1.heap.objs.size + 1, s1.heap.objs.size], _, _, H1, rfl, I2,
      turn_enT a (s1.heap.objs.size + 1) s1.heap.objs.size, ⟨⟨.none, en⟩, ti, Nat.succ_ne_self _⟩, fun b hb => ?_, q⟩
    have z : b = s1.heap.objs.size + 1 ∨ b = s1.heap.objs.size := by simpa using hb
    have le : s1.heap.objs.size ≤ b := by
      rcases z with z | z
      · rw [z]; exact Nat.le_succ _
      · exact Nat.le_of_eq z.symm
    exact I1.fpOk le (I1.hok.fresh le)
/-- the loop over it: each turn's pair is a new tuple at T -/
theorem for_enT {K : PySem.W.Frag} {a : Addr} {xs : List V} {g : TG} {tb : TS} {D : Ends} {σ : L2.St} {H : Hp}
    (Pv : Nat → L2.St → Hp → Prop) (h0 : Pv 0 σ H) (hq : ∀ i σ H, Pv i σ H → SqT K H a xs)
    (hs : ∀ (i : Nat) (x : V) (T : Addr) (σ : L2.St) (H : Hp), xs[i]? = some x → Pv i σ H → H T = none →
      g (.ref T) σ (upd H T (.tup [.int (i : Nat), x])) fun σ2 H2 => tb { D with nx := Pv (i + 1), ct := Pv (i + 1), bk := D.nx } σ2 H2)
    (hd : ∀ σ H, Pv xs.length σ H → D.nx σ H) :
    ∃ W : Nat → Nat → L2.St → Hp → Prop, (∃ m, W 0 m σ H) ∧ ∀ i m σ H, W i m σ H → ((Iet K a).stop i H ∧ D.nx σ H) ∨
      ((Iet K a).go i H ∧ ∃ N : L2.St → Hp → Prop, (∀ σ' H', N σ' H' → ∃ m', m' < m ∧ W (i + 1) m' σ' H') ∧
        ∀ v H', (Iet K a).yld i H v H' → g v σ H' fun σ2 H2 => tb { D with nx := N, ct := N, bk := D.nx } σ2 H2) := by
  refine ⟨fun i m σ H => m = xs.length - i ∧ i ≤ xs.length ∧ Pv i σ H, ⟨xs.length, rfl, Nat.zero_le _, h0⟩, fun i m σ H hw => ?_⟩
  obtain ⟨em, hi, p⟩ := hw
  subst em
  have qx := hq i σ H p
  by_cases lt : i < xs.length
  · refine .inr ⟨⟨xs, _, qx, List.getElem?_eq_getElem lt⟩, Pv (i + 1), fun σ' H' p' => ⟨xs.length - (i + 1), by omega, rfl, lt, p'⟩, fun v H' y => ?_⟩
    obtain ⟨T, x, ev, hT, eH, f⟩ := y
    subst ev eH
    exact hs i x T σ H (f xs qx) p hT
  · have e : i = xs.length := by omega
    subst e
    exact .inl ⟨⟨xs, qx, rfl⟩, hd σ H p⟩
theorem walk_enT {K : PySem.W.Frag} {a : Addr} {xs : List V} : Walk (Iet K a) xs.length (fun H => SqT K H a xs) (YPair (fun i => some (.int (i : Nat))) (fun i => xs[i]?)) := by
  refine ⟨fun i _ lt q => ⟨xs, _, q, List.getElem?_eq_getElem lt⟩, fun _ q => ⟨xs, q, rfl⟩, fun i H v H' _ q y => ?_⟩
  obtain ⟨T, x, g1, g2, g3, g4⟩ := y
  exact ⟨T, .int (i : Nat), x, g1, g2, g3, rfl, g4 xs q⟩
end Rl
set_option Elab.async false
set_option linter.all false
set_option maxRecDepth 100000
set_option maxHeartbeats 4000000
/-! Rules of my own over the hand layer: sorted of a tuple, t.index, set of a list, of ints. -/
namespace Rl
open PySem PySem.Spec PyProof.Rows L2
section
variable {prog : Program} {w : World} {A : Around} {E : Value → Shared → Prop} {s : Shared}
theorem collect_tupT {l : Addr} {vs : List Value} {Q : List Value → Shared → Prop} (hl : s.heap.IsTuple l vs.toArray)
    (fin : Q vs { s with heap := (s.heap.push (seqObj "list" #[] 0)).update s.heap.objs.size (Obj.mapSeq (· ++ vs.toArray)) })
    (sz : vs.length ≤ sizeLine) : wpAny (model prog w) A (collect (.ref l)) Q E s := by
  obtain ⟨ob, hb, hcl, nn, hda⟩ := id hl
  unfold collect
  refine wpAny_bind (wpAny_runValue (codeAny_builtin entry_proto_collect' ?_))
  show wpAny _ _ (do again (.builtin "list.__iadd__" ⟨[← newList [], .ref l], []⟩)) _ _ s
  refine wpAny_bind (wpAny_newList (wpAny_pure ⟨Code.quiet_builtin _ (by decide +kernel), codeAny_builtin entry_list_iadd' ?_⟩))
  show wpAny _ _ (Builtin.List.listExtendWith (.ref s.heap.objs.size) (.ref l) (.ref s.heap.objs.size)) _ _
    { s with heap := s.heap.push (seqObj "list" #[] 0) }
  unfold Builtin.List.listExtendWith
  have hb' : (s.heap.push (seqObj "list" #[] 0)).get? l = some ob := Heap.get?_push_of_some _ hb
  refine wpAny_bind (wpAny_typeOf (T := "tuple") ⟨ob, hb', hcl⟩ ?_)
  have et : (Value.type "tuple" == Value.type "tuple") = true := by rfl
  rw [if_pos (by rw [et]; simp)]
  refine wpAny_bind (listItems_at hb' hda ?_)
  refine wpAny_bind (listItems_at (xs := #[]) (n := 0) (Heap.get?_push_size _ rfl) rfl ?_)
  rw [if_neg (by simp)]
  refine wpAny_bind (listUpdate_at (xs := #[]) (n := 0) (Heap.get?_push_size _ rfl) rfl ?_ (Nat.zero_le _)
    (by show (#[] ++ vs.toArray).size ≤ sizeLine + 1; simp only [Array.size_append, List.size_toArray, List.length_nil]; omega))
  refine wpAny_pure ?_
  show wpAny (model prog w) A (do
      let ob ← load s.heap.objs.size
      match ob.data with
      | .seq ys _ => pure ys.toList
      | _ => unsupported "internal:collect") Q E
    { s with heap := (s.heap.push (seqObj "list" #[] 0)).update s.heap.objs.size (Obj.mapSeq (· ++ vs.toArray)) }
  refine wpAny_bind (wpAny_load (get?_update_seq (Heap.get?_push_size _ rfl) _) ?_)
  show wpAny _ _ (pure ((#[] : Array Value) ++ vs.toArray).toList) Q E _
  rw [show ((#[] : Array Value) ++ vs.toArray).toList = vs by simp]
  exact wpAny_pure fin
open SrtO in
theorem sorted_ordT {l : Addr} {vs : List Value} {lt : Value → Value → Bool} {Q : Value → Shared → Prop} (O : Swo lt)
    (hl : s.heap.IsTuple l vs.toArray) (sz : vs.length ≤ sizeLine)
    (hS : 2 ≤ vs.length → ∀ (g : Heap) (a : Addr), g.get? a = some (seqObj "list" vs.toArray 0) →
      (∀ b o, s.heap.get? b = some o → b ≠ a ∧ g.get? b = some o) → SortableO prog w A.in1.in1 { s with heap := g } a vs lt)
    (fin : ∀ out : List Value, Srtd lt out → Stb lt out vs → Q (.ref (s.heap.objs.size + 1)) { s with heap := sortedAll s.heap vs out.toArray }) :
    wpAny (model prog w) A (call (.builtin "sorted") [.ref l]) Q E s := by
  refine Calls.call_function_entry kind_sorted plain_sorted entry_sorted (args_sorted1 _) ?_
  unfold Builtin.«sorted»
  refine wpAny_bind (m := checkCount "sorted" 1 1 _) (wpAny_pure ?_)
  refine wpAny_bind (collect_tupT hl ?_ sz)
  refine wpAny_bind (wpAny_newList ?_ sz)
  have e1 : ((s.heap.push (seqObj "list" #[] 0)).update s.heap.objs.size (Obj.mapSeq (· ++ vs.toArray))).objs.size
      = s.heap.objs.size + 1 := by
    rw [Heap.size_update, size_push']
  have e2 : (((s.heap.push (seqObj "list" #[] 0)).update s.heap.objs.size (Obj.mapSeq (· ++ vs.toArray))).push
      (seqObj "list" vs.toArray 0)).get? (s.heap.objs.size + 1) = some (seqObj "list" vs.toArray 0) := by
    rw [← e1]
    exact Heap.get?_push_size _ rfl
  have kp : ∀ b o, s.heap.get? b = some o → b ≠ s.heap.objs.size + 1 ∧
      (((s.heap.push (seqObj "list" #[] 0)).update s.heap.objs.size (Obj.mapSeq (· ++ vs.toArray))).push (seqObj "list" vs.toArray 0)).get? b
        = some o := fun b o q => by
    have lt' : b < s.heap.objs.size := Heap.lt_size q
    refine ⟨Nat.ne_of_lt (Nat.lt_succ_of_lt lt'), Heap.get?_push_of_some _ ?_⟩
    rw [Heap.get?_update_ne _ _ _ _ (Nat.ne_of_lt lt')]
    exact Heap.get?_push_of_some _ q
  show wpAny _ _ _ _ _
    { s with heap := ((s.heap.push (seqObj "list" #[] 0)).update s.heap.objs.size (Obj.mapSeq (· ++ vs.toArray))).push (seqObj "list" vs.toArray 0) }
  rw [e1]
  refine wpAny_bind (wpAny_holding (wpAny_call_entry slot_list_sort ⟨_, e2, rfl⟩ entry_list_sort
    (list_sort_ord O e2 sz (fun q => hS q _ _ e2 kp) fun out a1 a2 => ⟨_, rfl, ?_⟩) (args_list_sort _)))
  exact wpAny_pure ⟨_, rfl, fin out a1 a2⟩
end
section
variable {X : Cx}
/-- sorted(t), t a tuple of ints -/
def rSortedTI (K : PySem.W.Frag) : List V → Hp → VK → Prop := fun vs H Q => ∃ (a : Addr) (ns : List Int), vs = [V.ref a] ∧ SqT K H a (ns.map V.int) ∧
  ∀ (ms : List Int) (p : Addr), ms.Perm ns → ms.Pairwise (· ≤ ·) → H p = none → Q (.ref p) (upd H p (.lst (ms.map V.int)))
theorem cr_sortedTI : CallR X (.builtin "sorted") (rSortedTI X.K) := by
  intro pins s σ H vs us Q I r hy
  obtain ⟨a, ns, ex, hs, q⟩ := hy
  subst ex
  obtain ⟨its, rv, pt, hz⟩ := I.tuple hs
  rw [Vals.ref1 r]
  have hi := rv.ints
  refine sorted_ordT SrtO.swo_int (show s.heap.IsTuple a its.toArray from pt) (by rw [← rv.length]; exact hz)
    (fun h2 g b _ _ => SrtO.ints_sortable hi h2) fun out g1 g2 => ?_
  obtain ⟨k1, k2, k3⟩ := SrtO.ints_out hi g1 g2
  obtain ⟨ep, hep⟩ := PyProof.Rows.sortedAll_at s.heap its out.toArray
  have ln : ((out.map SrtO.iv).map V.int).length ≤ sizeLine := by
    rw [List.length_map, k2.length_eq]
    rw [List.length_map] at hz
    exact hz
  refine ⟨.ref _, upd H (s.heap.objs.size + 1) (.lst ((out.map SrtO.iv).map V.int)), ?_, rfl, q _ _ k2 k3 (I.hok.fresh (Nat.le_succ _))⟩
  exact I.laid (t' := s.toks) (fun _ _ => PyProof.Rows.sortedAll_old) (Nat.le_succ _) ⟨ln, out, ep, vals_of_ints k1, hep⟩
/-- t.index(k), the first place, ints -/
theorem flat_ints (ns : List Int) : (ns.map V.int).all flatV = true := by
  rw [List.all_map]
  exact List.all_eq_true.mpr fun _ _ => rfl
def rTIx (K : PySem.W.Frag) : V → List V → Hp → VK → Prop := fun x xs H Q => ∃ (p : Addr) (ys : List Int) (z : Int) (j : Nat), x = .ref p ∧ xs = [.int z] ∧
  SqT K H p (ys.map V.int) ∧ ys[j]? = some z ∧ (∀ m, m < j → ys[m]? ≠ some z) ∧ Q (.int (j : Nat)) H
theorem mt_tup_indexI : MtR X "tuple.index" (rTIx X.K) := by
  intro pins s σ H x xs v us Q I rx rs hy
  obtain ⟨p, ys, z, j, e1, e2, hq, hj, hno, q⟩ := hy
  subst e1 e2
  cases rx
  obtain ⟨u, e3, tk, e4⟩ := vals1 rs
  subst e3 e4
  obtain ⟨its, r, pl, hz⟩ := I.tuple hq
  obtain ⟨⟨cc, dd, da, sl⟩, ho, hc, nn, hd⟩ := pl
  simp only at hc hd
  subst hc hd
  have ln : its.toArray.size = ys.length := by rw [List.size_toArray, ← r.length, List.length_map]
  have lj : j < its.toArray.size := by rw [ln]; exact (List.getElem?_eq_some_iff.mp hj).1
  have at1 : ∀ (m : Nat) (hm : m < its.toArray.size), ∃ y tk', ys[m]? = some y ∧ its.toArray[m] = Value.int y tk' := fun m hm => by
    have lm : m < ys.length := by rw [← ln]; exact hm
    obtain ⟨w1, hw, tk', ew⟩ := r.get (i := m) (x := .int ys[m]) (by simp [lm])
    refine ⟨ys[m], tk', List.getElem?_eq_getElem lm, ?_⟩
    have e := (List.getElem?_eq_some_iff.mp hw).2
    rw [← ew, ← e]
    simp
  refine call_meets PySem.F.slot_tuple_index ⟨_, ho, rfl⟩ PySem.F.entry_tuple_index (PySem.F.args_tuple_index_2 _ _)
    (TI.tuple_indexAt p its.toArray nn dd sl (.int z tk) (eqU (.int z)) j lj ?_ ?_)
    ⟨ho, fun w1 hw => mem_eqAt (x := .int z) ⟨tk, rfl⟩ rfl r (flat_ints ys) w1 (by simpa using hw), ⟨.int (j : Nat), H, I.tok _, ⟨_, rfl⟩, q⟩⟩
  · obtain ⟨y, tk', g1, g2⟩ := at1 j lj
    rw [hj] at g1
    cases g1
    rw [g2]
    show (z == z) = true
    exact beq_self_eq_true z
  · intro m hm hmj
    obtain ⟨y, tk', g1, g2⟩ := at1 m hm
    rw [g2]
    show (y == z) = false
    exact beq_eq_false_iff_ne.mpr fun e => hno m hmj (e ▸ g1)
end
end Rl
set_option Elab.async false
set_option linter.all false
set_option maxRecDepth 100000
set_option maxHeartbeats 4000000
/-! Rules of my own over the hand layer: set(xs), xs a list of ints. -/
namespace Rl
open PySem PySem.Spec PyProof.Rows L2
abbrev newSetO (w : World) : Obj := { cls := .type "set", dict := none, data := .set #[] 0 (.fresh 0 0 (!w.params.followText "set-order")) }
section
variable {P : Program} {w : World} {A : Around} {E : Value → Shared → Prop} {s : Shared}
set_option maxHeartbeats 6400000 in
theorem call_setL {l : Addr} {items : Array Value} (ns : List Int) {Q : Value → Shared → Prop} (hh : A.handled = none)
    (hl : s.heap.IsList l items) (hit : IntsAre items.toList ns) (hb : ns.length + 1 < scanBound)
    (fin : ∀ (g : Heap) (tk c : Nat), SetR w g s.heap.objs.size (fun j => decide (j ∈ ns)) c → c ≤ ns.length →
      (∀ b o, s.heap.get? b = some o → g.get? b = some o) → Q (.ref s.heap.objs.size) { s with heap := g, toks := tk }) :
    wpAny (model P w) A (call (.type "set") [.ref l]) Q E s := by
  have esz : items.size = ns.length := by
    have q := IntsAre.length hit
    rw [Array.length_toList] at q
    exact q
  obtain ⟨cc, tl', hmr⟩ := F.called_set.mro
  have hmd := F.called_set.made
  have hsb := F.called_set.sub
  refine wpAny_call (codeAny_of_tree ?_)
  show wpAny _ _ (callAny (.type "set") _) _ _ _
  refine wpAny_pure ⟨Code.quiet_builtin _ (by decide +kernel), codeAny_builtin F.entry_type_call ?_⟩
  rw [Around.under_plain (weight_type_call_type "set" [.ref l] []) rfl]
  have g1 := F.called_set.notType
  have g2 := F.called_set.canCreate
  have g3 := F.typeCall_set_1 (.ref l)
  repeat (any_goals (first | assumption | wp_step))

  refine codeAny_mono (code_set_led1 (.ref l) (E := E)
    (Q₁ := fun ob s1 => ob = .ref s.heap.objs.size ∧ s1 = { s with heap := s.heap.push (newSetO w) }) ⟨rfl, rfl⟩) fun r s1 hr => ?_
  cases r with
  | error e => exact hr
  | ok fl =>
    cases fl with
    | ret ob =>
      obtain ⟨e1, e2⟩ := hr
      subst e1 e2
      have hS : (s.heap.push (newSetO w)).get? s.heap.objs.size = some (newSetO w) := Heap.get?_push_size _ rfl
      have hT : Shared.TypeIs { s with heap := s.heap.push (newSetO w) } (.ref s.heap.objs.size) "set" := ⟨_, hS, rfl⟩
      have g4 := F.called_set.init.lookup
      have g5 := F.called_set.init.bind (.ref s.heap.objs.size)
      repeat (any_goals (first | assumption | wp_step))

      refine codeAny_mono (codeAny_call_builtin (R := wants (fun r s2 => r = .none ∧ ∃ g tk c, s2 = { s with heap := g, toks := tk } ∧
          SetR w g s.heap.objs.size (fun j => decide (j ∈ ns)) c ∧ c ≤ ns.length ∧
          (∀ b o, s.heap.get? b = some o → g.get? b = some o)) E) F.called_set.init.plain F.entry_set_init (check_set_init_1 hT ?_)) fun r2 s2 hr2 => ?_
      · obtain ⟨ol, hol, ecl, nl, eda⟩ := hl
        obtain ⟨ocls, odct, oda, osl⟩ := ol
        simp only at ecl eda
        subst ecl; subst eda
        have hol2 : (s.heap.push (newSetO w)).get? l = some { cls := .type "list", dict := odct, data := .seq items nl, slots := osl } :=
          Heap.get?_push_of_some _ hol
        have g6 := F.sub_list_set
        have g7 := F.sub_list_frozenset
        have g8 : (Value.type "list" == Value.type "dict") = false := by decide
        have hl1 : (s.heap.push (newSetO w)).IsList l items := ⟨_, hol2, rfl, nl, rfl⟩
        unfold Builtin.«set.__init__» noKeywords Builtin.Frozenset.updateFrom
        generalize ePI : pyIter = PI
        wp_walk
        subst ePI

        refine wpAny_pyIter_list hl1 ?_
        refine wpAny_bind (wpAny_runValue ?_)
        have ltS : l < s.heap.objs.size := Heap.lt_size hol
        have hh3 : A.in1.in1.in1.handled = none := by simp [hh]
        have ne1 : l ≠ (s.heap.push (newSetO w)).objs.size := by
          rw [Heap.size_push]
          exact Nat.ne_of_lt (Nat.lt_succ_of_lt ltS)
        have nf : s.heap.objs.size ∉ [(s.heap.push (newSetO w)).objs.size, l] := by
          rw [Heap.size_push]
          simp only [List.mem_cons, List.mem_singleton, List.not_mem_nil, or_false, not_or]
          exact ⟨Nat.ne_of_lt (Nat.lt_succ_self _), Nat.ne_of_gt ltS⟩
        have vl : ∀ (i : Nat) (v : Value), items[i]? = some v → ∃ k t, ns[i]? = some k ∧ v = .int k t := fun i v hv => by
          have hi : i < ns.length := by rw [← esz]; exact (Array.getElem?_eq_some_iff.mp hv).1
          obtain ⟨t, e⟩ := PyProof.Rows.IntsAre.int_at hit i v (by rw [Array.getElem?_toList]; exact hv)
          refine ⟨ns[i], t, List.getElem?_eq_getElem hi, ?_⟩
          rw [e, List.getD_eq_getElem?_getD, List.getElem?_eq_getElem hi] <;> rfl
        refine set_update_ints ((Walks.list hh3 _ l ne1 items).toS) s.heap.objs.size
          nf ns esz hb vl (items.size - 0) 0 _ (by omega) (Nat.zero_le _)
          ⟨⟨_, Heap.get?_push_size _ rfl, rfl, rfl⟩, (hl1.push _)⟩ ?hS0 ?hR
        case hS0 =>
          have hg : ((s.heap.push (newSetO w)).push { cls := .type "list_iterator", data := .fields #[.ref l, .int 0 0] }).get? s.heap.objs.size
              = some (newSetO w) := Heap.get?_push_of_some _ hS
          exact ⟨0, Nat.le_refl 0, setR_new_at hg⟩
        case hR =>
          intro s' c' hm hc' hS'
          obtain ⟨g, gs, dr, tk', os'⟩ := s'
          have eg : gs = s.gens := hm.gens
          have ed : dr = s.drawn := hm.drawn
          have eo : os' = s.os := hm.os
          subst eg; subst ed; subst eo
          show wpAny _ _ _ _ _ _
          refine wpAny_pure ?_
          show wpAny _ _ (ret Value.none) _ _ _
          rw [esz] at hc'
          refine wpAny_pure ⟨rfl, g, tk', c', rfl, hS', hc', fun b o e => ?_⟩
          have b0 : b < s.heap.objs.size := Heap.lt_size e
          have b2 : b ≠ (s.heap.push (newSetO w)).objs.size := by
            rw [Heap.size_push]
            exact Nat.ne_of_lt (Nat.lt_succ_of_lt b0)
          exact hm.heap b o (by simp only [List.mem_cons, List.mem_singleton, List.not_mem_nil, or_false, not_or]; exact ⟨Nat.ne_of_lt b0, b2⟩)
            (Heap.get?_push_of_some _ (Heap.get?_push_of_some _ e))
      · cases r2 with
        | error e => exact hr2
        | ok fl2 =>
          cases fl2 with
          | ret r =>
            obtain ⟨e3, g, tk, c', e4, hS', hc', hk'⟩ := hr2
            subst e3 e4
            repeat (any_goals (first | assumption | wp_step))
            exact fin _ _ _ hS' hc' hk'
          | _ => exact hr2.elim
    | _ => exact hr.elim
end
section
variable {X : Cx}
/-- set(xs) of a list of ints -/
def rSetI (K : PySem.W.Frag) (w : World) : List V → Hp → VK → Prop := fun xs H Q => ∃ (l : Addr) (ns : List Int), xs = [V.ref l] ∧ SqL K H l (ns.map V.int) ∧ ns.length ≤ 1000 ∧
  ∀ a c, H a = none → c ≤ ns.length → Q (.ref a) (upd H a (SetO w a (fun j => decide (j ∈ ns)) c))
theorem cr_setI (hc : X.calm = true) : CallR X (.type "set") (rSetI X.K X.w) := by
  intro pins s σ H xs us Q I r hy
  obtain ⟨l, ns, ex, hq, hl, q⟩ := hy
  subst ex
  obtain ⟨its, rv, pl, hz⟩ := I.list hq
  rw [Vals.ref1 r]
  refine call_setL ns (I.ok.hd hc) pl.isList (show IntsAre its.toArray.toList ns from rv.ints) (by unfold scanBound; omega)
    fun g tk c R hcn k => ?_
  have J : Inv X pins σ (upd H s.heap.objs.size (SetO X.w s.heap.objs.size (fun j => decide (j ∈ ns)) c)) { s with heap := g, toks := tk } :=
    I.laid (t' := tk) k (Nat.le_refl _) (setO_new R)
  exact ⟨.ref _, _, J, rfl, q _ c (I.hok.fresh (Nat.le_refl _)) hcn⟩
end
end Rl
set_option Elab.async false
set_option linter.all false
set_option maxRecDepth 100000
set_option maxHeartbeats 4000000
/-! Rules of my own: a tuple that is kept whole, so that its methods are called. -/
namespace Rl
open PySem PySem.Spec PyProof.Rows L2
section
variable {X : Cx}
/-- tuple(xs), the new object told with it -/
def rTupF (K : PySem.W.Frag) : List V → Hp → VK → Prop := fun xs H Q => ∃ p ys, xs = [V.ref p] ∧ SqL K H p ys ∧ ∀ l o, H l = none → o.dict = none → Q (.ref l) (upd H l (.frz o (.tup ys)))
theorem call_tupF : CallR X (.type "tuple") (rTupF X.K) := by
  intro pins s σ H xs us Q I r hy
  obtain ⟨p, ys, ex, hq, q⟩ := hy
  subst ex
  obtain ⟨u, eu, rx⟩ := vals1 r
  subst eu
  cases rx
  obtain ⟨its, rv, pl, hz⟩ := I.list hq
  have ln := rv.length
  refine call_tuple_list pl.isList (fun g kp => ?_) (by simp only [List.size_toArray] <;> omega)
  have I1 : Inv X pins σ H { s with heap := g } := I.kept (t' := s.toks) kp
  have hg : (g.push { cls := .type "tuple", data := .seq its.toArray }).get? g.objs.size = some { cls := .type "tuple", data := .seq its.toArray } :=
    Heap.get?_push_size _ rfl
  have I2 : Inv X pins σ (upd H g.objs.size (.frz { cls := .type "tuple", data := .seq its.toArray } (.tup ys)))
      { s with heap := g.push { cls := .type "tuple", data := .seq its.toArray } } :=
    I1.laid (t' := s.toks) (fun b o e => Heap.get?_push_of_some _ e) (Nat.le_refl _) ⟨hg, hz, its, rv, IsTup.new _ _⟩
  exact ⟨.ref g.objs.size, _, I2, rfl, q _ _ (I1.hok.fresh (Nat.le_refl _)) rfl⟩
/-- t.index(e), t such a tuple of ints -/
def tTix (K : PySem.W.Frag) (to : TE) (t : TA) : TE := fun σ H Q => to σ H fun x H1 => (∃ p o ys, x = V.ref p ∧ H1 p = some (.frz o (.tup ys)) ∧ o.dict = none) ∧ t σ H1 fun xs H2 => rTIx K x xs H2 Q
variable {o e : Expr} {es : List Expr} {to : TE} {t : TA} {apos cpos : Pos}
theorem pe_tix (ho : PE X o to) (ha : PA X (e :: es) t)
    (hbase : attributeBase o "index" X.env (eval o X.env) = eval o X.env := by rfl)
    (hfew : ((backTo cpos (starEach (e :: es) X.env)).all (fun z => !z.1) && (backToKw cpos (keywordEach [] X.env)).all (fun z => z.1.isSome)
      && decide ((e :: es).length + ([] : List Keyword).length + (if ([] : List Keyword).isEmpty then 0 else 1) < 30)) = true := by rfl)
    (hline : (apos.endLine == cpos.line) = true := by rfl) (hs : starEach (e :: es) X.env = (false, eval e X.env) :: starEach es X.env := by rfl)
    (hpl : (backTo cpos (starEach es X.env)).any (·.1) = false := by rfl) :
    PE X (.Call (.Attribute o "index" apos) (e :: es) [] cpos) (tTix X.K to t) := by
  refine ⟨fun pins s σ H Q I hy => ?_⟩
  refine wpAny_Call_method_late hbase hfew hline rfl (thn (ho.run pins s σ H _ I hy) fun v s1 ⟨x, H1, I1, r1, tt, q1⟩ => ?_)
  obtain ⟨p, ob, ys, ex, hp, hd⟩ := tt
  subst ex
  cases r1
  have hq : SqT X.K H1 p ys := .inl (.inr ⟨ob, hp⟩)
  obtain ⟨its, rv, pt, hz⟩ := I1.tuple hq
  have hgo : s1.heap.get? p = some ob := (I1.hok p _ hp).1
  have hT : s1.TypeIs (.ref p) "tuple" := by
    obtain ⟨o2, ho2, hc2, _⟩ := pt
    exact ⟨o2, ho2, hc2⟩
  refine ⟨"tuple", "tuple.index", PySem.F.plainAttrs_tuple, PySem.F.slot_tuple_index, PySem.F.type_tuple_index, hT, fun a ea => ?_, ?_⟩
  · cases ea
    exact ⟨ob, hgo, hd⟩
  have hA := ha.run cpos pins s1 σ H1 _ I1 q1
  rw [hs] at hA ⊢
  refine Calls.callWith_builtin (by show (false || (backTo cpos (starEach es X.env)).any (·.1)) = false; rw [hpl] <;> rfl) (Calls.evalArgs_plain ?_)
  exact thn hA fun us s2 ⟨vs, H2, I2, r2, q2⟩ => mt_tup_indexI pins s2 σ H2 (.ref p) vs (.ref p) us Q I2 rfl r2 q2
end
end Rl
set_option Elab.async false
set_option linter.all false
set_option maxRecDepth 100000
set_option maxHeartbeats 4000000
/-! Rules of my own: defs that are called where no text of an object is under way; repr of deep things. -/
namespace KG
open PySem L2 PySem.Spec PyProof.Rows
/-- as FnOk, where it is known that no guard stands around -/
structure FnG (P : Program) (w : World) (K : PySem.W.Frag) (mg : Str → Option Value) (base : Heap) (k : Nat) (f : Addr) (fd : FuncData) (ps : List Str) (sp : Sp) : Prop where
  many : ∀ vs H Q E, sp vs H Q E → vs.length = ps.length
  go : ∀ (A : Around) (out : List Env) (s : Shared) (H : Hp) (args : Args) (us : List Value) (vs : List V) (Q : VK) (E : XK), A.guards = some [] → Room k A →
    Env0 P w K mg base A out s H → BindsTo s fd args (ps.zip us) → Vals vs us → sp vs H Q E → codeAny (model P w) A (.call (.ref f) args) (CR CX0 out P w H s Q E) s
section
variable {P : Program} {w : World} {K : PySem.W.Frag} {mg : Str → Option Value} {base : Heap}
theorem FnG.of {k : Nat} {f : Addr} {fd : FuncData} {ps : List Str} {sp : Sp} (F : FnOk P w K mg base CX0 k f fd ps sp) : FnG P w K mg base k f fd ps sp :=
  ⟨F.len, fun A out s H args us vs Q E _ hr he hb hv h => F.run A out s H args us vs Q E hr he hb hv h⟩
/-- a def by its body, no guard around -/
theorem okG {x qual : Str} {st : Stmt} {f : Addr} {fd : FuncData} {N ps : List Str} {k : Nat} {sp : Sp} (F : Fun K x qual st f fd) (S : FnScope N ps (defScope st))
    (many : ∀ vs H Q E, sp vs H Q E → vs.length = ps.length)
    (body : ∀ (cdv : Value) (A : Around) (out : List Env) (s : Shared) (H : Hp) (vs : List V) (Q : VK) (E : XK), A.guards = some [] →
      Room k (A.deeper (envOfC qual (defScope st) s.heap.objs.size f cdv)) → sp vs H Q E →
      ∃ t, PSs (cxOf CX0 P w K mg base N qual (defScope st) f cdv A out s H E).nox (defBody st) t ∧
        t { nx := fun _ H' => Q .non H', rt := Q } (L2.start N vs) H) : FnG P w K mg base (k + 1) f fd ps sp := by
  obtain ⟨oc, od, kV, doc, pm, an, cdv, ct, osl, rfl, lk, hcd⟩ := F.ex
  refine ⟨many, fun A out s H args us vs Q E hgd hr env hb rv hsp => ?_⟩
  obtain ⟨t, ht', hq⟩ := body cdv A out s H vs Q E hgd (hr.deeper _) hsp
  have ht := ht'.nox
  have inK : K.In s.heap := env.mod.kin.keeps fun a u e => (env.bs a u e).1
  have free : s.heap.NoLimit := env.mod.nolimit.keeps fun a u e => (env.bs a u e).1
  have kinds : ∀ y ∈ ps.zip us, (defScope st).names.lookup y.1 = some .local ∨
      ((defScope st).names.lookup y.1 = some .cell ∧ ((cellsFrom (s.heap.objs.size + 1) (defScope st).names []).lookup y.1).isSome = true) := by
    rintro ⟨y, u⟩ hy
    exact (S.par y (List.of_mem_zip hy).1).imp id fun c => ⟨c, PySem.W.cellsFrom_some _ _ _ (.inl c)⟩
  refine codeAny_call_function hr.depth (inK _ _ lk) rfl S.co S.gen rfl (PySem.W.codeRec_of inK hcd) (hb _ _ _ _ ?_)
  refine wpAny_newFunctionEnv_cells S.kind kinds fun env2 he s1 inside => ?_
  subst he
  refine ⟨free.keeps inside.toInCall.keep, codeAny_func ?_⟩
  have inv := inv_start (CX := CX0) (E := E) S hr.hd env (many _ _ _ _ hsp) rv inside
  refine wpAny_mono (ht.run [] s1 (L2.start N vs) H _ inv hq) ?_ fun _ _ z => z
  intro fl s2 z
  cases fl with
  | ret u =>
    obtain ⟨v, σ', H', J, rvu, q⟩ := z
    exact ⟨v, H', J.os, J.bare, J.base, J.hok, rvu, q⟩
  | next =>
    obtain ⟨σ', H', J, q⟩ := z
    exact ⟨V.non, H', J.os, J.bare, J.base, J.hok, rfl, q⟩
  | brk =>
    obtain ⟨_, _, _, q⟩ := z
    exact q.elim
  | cont =>
    obtain ⟨_, _, _, q⟩ := z
    exact q.elim
end
section
variable {X : Cx}
/-- f(e, ..), no guard around -/
theorem pe_callG {k : Nat} {f : Addr} {fd : FuncData} {ps : List Str} {sp : Sp} {x : Str} {p pos : Pos} {e : Expr} {es : List Expr} {t : TA} (hgd : X.A.guards = some []) (F : FnG X.prog X.w X.K X.mg X.base k f fd ps sp) (hr : Room k X.A) (hg : Gl X x) (hm : X.mg x = some (.ref f))
    (hk : PySem.W.keepIn X.K (.ref f) = true) (hb : Binds X.K fd ps []) (ha : PA X (e :: es) t) (hx : Passes CX0 X E0 := by exact pass0) (hdb : (x == ("__debug__" : Str)) = false := by decide)
    (he : starEach (e :: es) X.env = (false, eval e X.env) :: starEach es X.env := by rfl) (hpl : (backTo pos (starEach es X.env)).any (·.1) = false := by rfl) :
    PE X (.Call (.Name x p) (e :: es) [] pos) (tCall sp [] E0 t) := by
  refine ⟨fun pins s σ H Q I h => wpAny_Call_Name_kw (ld_glob I hg hm ?_ hdb)⟩
  refine PySem.W.callWith_K (h₀ := X.base) I.ok.mod.kin hk (thn (ha.run pos pins s σ H _ I h) ?_) he hpl
  rintro us s1 ⟨vs, H1, I1, r, q⟩
  refine ⟨I1.kIn, ?_⟩
  have q' : sp (vs ++ []) H1 Q E0 := q
  rw [List.append_nil] at q'
  have hl : us.length = ps.length := by rw [← Paired.length r]; exact F.many _ _ _ _ q'
  have b := hb s1 us I1.kIn (by rw [List.append_nil]; exact hl)
  rw [List.append_nil] at b
  refine wpAny_call (codeAny_mono (F.go X.A X.stack s1 H1 ⟨us, []⟩ us vs Q E0 hgd hr I1.env0 b r q') ?_)
  intro z s2 hz
  match z, hz with
  | .error er, hz => exact hx pins σ H1 s1 er s2 I1 hz
  | .ok (.ret u), hz => exact I1.after hz
  | .ok .next, hz => exact False.elim hz
  | .ok .brk, hz => exact False.elim hz
  | .ok .cont, hz => exact False.elim hz
/-- repr(x), x deep data -/
def rRepr (K : PySem.W.Frag) : List V → Hp → VK → Prop := fun xs H Q => ∃ (a : Addr) (d : PyData), xs = [.ref a] ∧ Dp K H (.ref a) d ∧ SeqAt.shaped d = true ∧ d.showable = true ∧ d.shown.length ≤ sizeLine ∧ Q (.str d.shown) H
theorem cr_repr (hgd : X.A.guards = some []) (hu : X.A.units + 70 < cLine) : CallR X (.builtin "repr") (rRepr X.K) := by
  intro pins s σ H xs us Q I r h
  obtain ⟨a, d, rfl, hd, hsh, hs, hz, q⟩ := h
  rw [Vals.ref1 r]
  obtain ⟨as, rd⟩ := Dp.reads I d (.ref a) (.ref a) hd rfl
  obtain ⟨hl, hdep⟩ := Bool.and_eq_true_iff.mp hsh
  have hdep := of_decide_eq_true hdep
  refine repr_of_reads' rd hs (PyData.noDict_hsm (PyData.hasDict_of_canLay d hl)) hgd (by omega) (fun _ _ e => e) (fun h' u tk k => ?_) hz
  exact ⟨.str d.shown, H, I.kept (t' := tk) k, ⟨u, rfl⟩, q⟩
end
end KG
set_option Elab.async false
set_option linter.all false
set_option maxRecDepth 100000
set_option maxHeartbeats 4000000
/-! The end of a law whose def is told by FnG. -/
namespace KG
open PySem L2 PySem.Spec PyProof.Rows
/-- an abstract heap with nothing in it but the script, at a -/
structure Seat (P : Program) (w : World) (K : PySem.W.Frag) (a : Addr) (ns : List Int) (s : Shared) (H : Hp) : Prop where
  only : Only H
  seq : SqL K H a (ns.map V.int)
  ok : HOk P w H s.heap
  here : ∀ b, H b ≠ none → b = a
  out : H a ≠ none → K.lookup a = none
section
variable {P : Program} {w : World} {K : PySem.W.Frag} {mg mb : Str → Option Value} {fa a : Addr} {fd : FuncData} {x : Str} {sp : Sp} {s : Shared} {vs : List Value} {ns : List Int} {k : Nat}
theorem seat_of (KX : K.In s.heap) (ha : s.heap.get? a = some { cls := .type "list", data := .seq vs.toArray }) (hi : IntsAre vs ns) (hl : ns.length ≤ sizeLine) : ∃ H, Seat P w K a ns s H := by
  have rv := vals_ints hi
  have lv := hi.length
  cases hk : K.lookup a with
  | some o =>
    have e := KX a o hk
    rw [ha] at e
    cases e
    refine ⟨fun _ => none, ⟨fun _ => .inl rfl, .inr ⟨_, vs.toArray, _, hk, rfl, rfl, rfl, ?_, ?_⟩, fun b u z => ?_, fun b z => (z rfl).elim, fun z => (z rfl).elim⟩⟩
    · rw [List.size_toArray, lv]
      exact hl
    · simpa using rv
    · have z' : (none : Option HO) = some u := z
      cases z'
  | none =>
    let T : HO := .frz { cls := .type "list", data := .seq vs.toArray } (.lst (ns.map V.int))
    have yes : ∀ {b : Addr}, b = a → (fun b => if b = a then some T else none : Hp) b = some T := fun h => if_pos h
    have no : ∀ {b : Addr}, b ≠ a → (fun b => if b = a then some T else none : Hp) b = none := fun h => if_neg h
    refine ⟨fun b => if b = a then some T else none, ⟨fun b => ?_, .inl (.inr ⟨_, yes rfl⟩), fun b u z => ?_, fun b z => ?_, fun _ => hk⟩⟩
    · by_cases hb : b = a
      · exact .inr ⟨_, _, yes hb⟩
      · exact .inl (no hb)
    · by_cases hb : b = a
      · have z' := (yes hb).symm.trans z
        cases z'
        subst hb
        exact ⟨ha, by rw [List.length_map]; exact hl, vs, _, rv, ha⟩
      · have z' := (no hb).symm.trans z
        cases z'
    · by_cases hb : b = a
      · exact hb
      · exact (z (no hb)).elim
theorem end_of {H : Hp} (S : Seat P w K a ns s H) (KX : K.In s.heap) (hns : s.heap.Ns mainGlobals mg) (hb : s.heap.Ns builtinsNs mb) (hbb : ∀ x : Str, x ≠ "__name__" → mb x = bootBuiltins x) (hlim : s.heap.NoLimit) (hg : s.gens = #[])
    (ha : s.heap.get? a = some { cls := .type "list", data := .seq vs.toArray }) (hr : Room k callerA) (F : ∀ base : Heap, K.In base → base.Ns mainGlobals mg → FnG P w K mg base k fa fd [x] sp)
    (hbind : ∀ (s : Shared) (u : Value), BindsTo s fd ⟨[u], []⟩ [(x, u)]) (hsp : sp [.ref a] H (fun v _ => v = .bl true) fun _ _ _ => False) :
    codeAny (model P w) callerA (.call (.ref fa) ⟨[.ref a], []⟩) (fun r s' => r = .ok (.ret (.bool true)) ∧ OldK s.heap s'.heap ∧ s'.os = s.os ∧ AllBare s'.gens) s := by
  have inB : ∀ {b : Addr} {o : Obj}, s.heap.get? b = some o → H b = none → (hidT s.heap H).get? b = some o := fun e n => hidT_get e n
  have free : ∀ {b : Addr} {o : Obj} {es : Array DictEntry} {ep : Nat}, s.heap.get? b = some o → o.data = .dict es ep → H b = none := by
    intro b o es ep e d
    cases q : H b with
    | none => rfl
    | some u =>
      have e' := S.here b (by rw [q]; exact fun z => nomatch z)
      subst e'
      rw [ha] at e
      cases e
      cases (show Data.seq vs.toArray _ = Data.dict es ep from d)
  have names : ∀ {b : Addr} {m : Str → Option Value}, s.heap.Ns b m → (hidT s.heap H).Ns b m := by
    rintro b m ⟨o, es, ep, e, d, r⟩
    exact ⟨o, es, ep, inB e (free e d), d, r⟩
  have KB : K.In (hidT s.heap H) := by
    intro b o e
    refine inB (KX b o e) ?_
    cases q : H b with
    | none => rfl
    | some u =>
      have ne : H b ≠ none := by rw [q]; exact fun z => nomatch z
      have e' := S.here b ne
      subst e'
      rw [S.out ne] at e
      cases e
  obtain ⟨ml, l1, l2⟩ := hlim
  have env : Env0 P w K mg (hidT s.heap H) callerA [] s H :=
    ⟨rfl, ⟨KB, names hns, ⟨mb, names hb, hbb⟩, ⟨ml, names l1, l2⟩⟩, (fun b o e => of_hidT e), Nat.le_of_eq (hidT_size _ _), trivial, (fun b hb => by cases hb), S.ok, .of_eq hg⟩
  refine codeAny_mono ((F _ KB (names hns)).go callerA [] s H ⟨[.ref a], []⟩ [.ref a] [.ref a] _ _ rfl hr env (hbind s (.ref a)) (.cons rfl .nil) hsp) ?_
  intro r s2 z
  match r, z with
  | .error e, z => exact False.elim z
  | .ok .next, z => exact False.elim z
  | .ok .brk, z => exact False.elim z
  | .ok .cont, z => exact False.elim z
  | .ok (.ret u), z =>
    obtain ⟨v, H', os, bare, un, ok2, rvu, q⟩ := z
    have q' : v = .bl true := q
    subst q'
    obtain rfl : u = Value.bool true := rvu
    refine ⟨rfl, OldK.of_keep fun b o e => ?_, os, bare⟩
    cases q : H b with
    | none => exact un.keep b o e q (by intro z; cases z) (by intro z; cases z)
    | some u =>
      rcases S.only b with z | ⟨ob, xs, z⟩
      · rw [q] at z
        cases z
      · obtain ⟨e1, _⟩ := S.ok b _ z
        obtain ⟨e2, _⟩ := ok2 b _ (un.frzs b ob _ z)
        rw [e] at e1
        cases e1
        exact e2
end
/-- the goal that k_head leaves, from the promise of the law's def -/
theorem walk_ofG {l : PySem.W.OpenLaw} {n k : Nat} {q : Program} {loose : List Str} {XP : (Str → Option Value) → Heap → Prop} {YP : World → Heap → Prop} {d : DefRec} {K : Params → PySem.W.Frag} {sp : World → Sp} {x : Str}
    (hn : l.most = some n) (hn2 : n ≤ sizeLine) (hdf : d.params.defaults = []) (hr : Room k callerA) (hY : ∀ (w : World) (h : Heap), YP w h → (K w.params).In h)
    (F : ∀ (w : World) (mg : Str → Option Value) (fa : Addr) (h : Heap), (K w.params).In h → h.Ns mainGlobals mg → mg d.name = some (.ref fa) →
      ∃ fd : FuncData, (∀ (s : Shared) (u : Value), BindsTo s fd ⟨[u], []⟩ [(x, u)]) ∧ ∀ base : Heap, (K w.params).In base → base.Ns mainGlobals mg → FnG l.prog w (K w.params) mg base k fa fd [x] (sp w))
    (hsp : ∀ (w : World) (H : Hp) (a : Addr) (ns : List Int), ns.length ≤ n → Only H → SqL (K w.params) H a (ns.map V.int) → sp w [.ref a] H (fun v _ => v = .bl true) fun _ _ _ => False) :
    PySem.W.WalkO q loose XP YP l.row.toRowW d [] (fun f vs => PySem.call f vs) := by
  refine Att.attach_call hn hdf ?_
  intro w s0 s mg mb fa o pm cd doc a vs ns G Y ho hd hcd hmg hobj hints hlen hg
  have KX := hY w _ Y
  obtain ⟨fd, hb, hF⟩ := F w mg fa _ KX G.T.g hmg
  obtain ⟨H, S⟩ := seat_of (P := l.prog) (w := w) KX hobj hints (Nat.le_trans hlen hn2)
  exact end_of S KX G.T.g G.T.b G.T.builtins G.T.nolimit hg hobj hr hF hb (hsp w H a ns hlen S.only S.seq)
end KG
set_option Elab.async false
set_option linter.all false
set_option maxRecDepth 100000
set_option maxHeartbeats 4000000
/-! A rule of my own: != of two objects of a class with an == of its own, which are equal. -/
namespace KN
open PySem L2 PySem.Spec PyProof.Rows
section
variable {prog : Program} {w : World} {A : Around} {E : Value → Shared → Prop} {s : Shared} {K : PySem.W.Frag} {x y C f : Addr} {ox : Obj} {od : Option Obj}
theorem ne_body (hu : A.units < cLine) (X : K.In s.heap) (I : PySem.W.InstAt s.heap x ox C od) (hs : PySem.W.findIn K (.ref C) "__eq__" = some (some (.ref f))) (hf : PySem.W.isFn K (.ref f) = true) {Q : Fin → Shared → Prop}
    (hq : wpAny (model prog w) A (call (.ref f) [.ref x, .ref y]) (fun v s' => v = .bool true ∧ Q (.done (.ret (.bool false))) s') E s) : wpAny (model prog w) A (Builtin.«object.__ne__» ⟨[.ref x, .ref y], []⟩) Q E s := by
  have one : wpAny (model prog w) A (callSpecialIfBound? (.ref x) (Str.ofString "__eq__") [.ref y]) (fun r s' => r = some (.bool true) ∧ Q (.done (.ret (.bool false))) s') E s :=
    PySem.W.ifBound_K X I hs hf (wpAny_mono hq (fun v s' z => ⟨by rw [z.1], z.2⟩) fun _ _ e => e)
  obtain ⟨h, g, d, t, os⟩ := s
  unfold Builtin.«object.__ne__»
  repeat (first
    | with_reducible refine wpAny_cRoomFor hu ?_
    | (refine wpAny_bind (m := callSpecialIfBound? (.ref x) (Str.ofString "__eq__") [.ref y]) (wpAny_mono one (fun r s' z => ?_) fun _ _ e => e))
    | wp_step)
  obtain ⟨z1, z2⟩ := z
  subst z1
  repeat (first | exact z2 | exact wpAny_pure z2 | exact wpAny_truthy_bool z2 | (refine wpAny_bind (m := truthy (.bool _)) (wpAny_truthy_bool ?_)) | wp_step)
theorem ne_try (hu : A.units + 1 < cLine) (X : K.In s.heap) (I : PySem.W.InstAt s.heap x ox C od) (hm : PySem.W.mroIn K C (.type "object") = some true) (hs : PySem.W.findIn K (.ref C) "__eq__" = some (some (.ref f)))
    (hn : PySem.W.findIn K (.ref C) "__ne__" = some (some (.builtin "object.__ne__"))) (hf : PySem.W.isFn K (.ref f) = true) {Q : Option Value → Shared → Prop}
    (hq : wpAny (model prog w) A.in1 (call (.ref f) [.ref x, .ref y]) (fun v s' => v = .bool true ∧ Q (some (.bool false)) s') E s) : wpAny (model prog w) A (tryCompare (.ref x) "__ne__" (.ref y)) Q E s := by
  have call1 : wpAny (model prog w) A (call (.builtin "object.__ne__") [.ref x, .ref y]) (fun v s' => v = .bool false ∧ Q (some (.bool false)) s') E s :=
    wpAny_call (codeAny_call_builtin F.cmp_object.ne.plain F.cmpEntry_ne (PySem.W.check_slot F.cmpKind_ne F.cmpSplit_ne (I.type.andThen (PySem.W.looks_mroIn X hm)) (F.cmpArgs_ne _ _)
      (ne_body (A := A.in1) (by show A.units + 1 < cLine; exact hu) X I hs hf (wpAny_mono hq (fun v s' z => ⟨z.1, rfl, z.2⟩) fun _ _ e => e))))
  have bound : wpAny (model prog w) A (callSpecialIfBound? (.ref x) (Str.ofString "__ne__") [.ref y]) (fun r s' => r = some (.bool false) ∧ Q (some (.bool false)) s') E s := by
    simp only [callSpecialIfBound?, bindSpecialIfBound?]
    refine wpAny_holding (wpAny_bind (wpAny_bind (wpAny_bind (I.type.here ((PySem.W.looks_findIn X hn).here ?_)))))
    refine wpAny_bind (wpAny_askSetting (wpAny_ite ?_))
    have fin : wpAny (model prog w) A (call (.builtin "object.__ne__") ([.ref x] ++ [.ref y]) >>= fun v => pure (some v)) (fun r s' => r = some (.bool false) ∧ Q (some (.bool false)) s') E s :=
      wpAny_bind (wpAny_mono call1 (fun v s' z => wpAny_pure ⟨by rw [z.1], z.2⟩) fun _ _ e => e)
    split
    · exact wpAny_bind (wpAny_of_eq (F.cmp_object.ne.bind _) (wpAny_pure (by exact fin)))
    · exact wpAny_tryCatch (wpAny_bind (wpAny_of_eq (F.cmp_object.ne.bind _) (wpAny_pure (by exact fin))))
  unfold tryCompare
  refine wpAny_bind (wpAny_mono bound (fun r s' z => ?_) fun _ _ e => e)
  obtain ⟨z1, z2⟩ := z
  subst z1
  exact wpAny_pure z2
end
/-- what is asked: as of ==; the answer False -/
def rNeG (D : Eqv) : R2 := fun x y H Q => D x y H ∧ ∀ H', Ext H H' → Q (.bl false) H'
section
variable {X : Cx} {n : Nat} {CX : CXT} {C f : Addr} {fd : FuncData} {ps : List Str} {R : Addr → Addr → Hp → Prop} {E : XK}
theorem op_neG (F : FnOk X.prog X.w X.K X.mg X.base CX n f fd ps (spEq R)) (hm : PySem.W.mroIn X.K C (.type "object") = some true) (hs : PySem.W.findIn X.K (.ref C) "__eq__" = some (some (.ref f)))
    (hn : PySem.W.findIn X.K (.ref C) "__ne__" = some (some (.builtin "object.__ne__"))) (hf : PySem.W.isFn X.K (.ref f) = true) (hb : Binds X.K fd ps []) (hx : Passes CX X E) (hr : Room (n + 1) X.A) : OpR X (compareOp .NotEq) (rNeG (DIns C R)) := by
  intro pins s σ H u v x y Q I rx ry h
  obtain ⟨⟨a, b, dx, dy, fs, gs, rfl, rfl, ha, hb', rab⟩, q⟩ := h
  cases rx
  cases ry
  obtain ⟨_, J, _⟩ := ins_get I.hok ha
  obtain ⟨_, J', _⟩ := ins_get I.hok hb'
  obtain ⟨od, J, _⟩ := J.look
  obtain ⟨od', J', _⟩ := J'.look
  have hu1 : X.A.units + 1 < cLine := by
    have := hr.un
    omega
  have e0 : Env0 X.prog X.w X.K X.mg X.base X.A.in1 X.stack s H := I.env0.in1
  have hsp : spEq R [.ref a, .ref b] H (fun v H' => v = .bl true ∧ Ext H H') E := ⟨a, b, rfl, rab, fun H' e => ⟨rfl, e⟩⟩
  have hl := F.len _ _ _ _ hsp
  have r2 : Vals [V.ref a, V.ref b] [Value.ref a, Value.ref b] := .cons rfl (.cons rfl .nil)
  have bd : BindsTo s fd ⟨[.ref a, .ref b], []⟩ (ps.zip [.ref a, .ref b]) := by
    have := hb s [.ref a, .ref b] I.kIn (by simpa using hl)
    simpa using this
  have own : wpAny (model X.prog X.w) X.A.in1 (call (.ref f) [.ref a, .ref b]) (fun v s' => v = .bool true ∧ ∃ H', Inv X pins σ H' s' ∧ Ext H H') X.xe s := by
    refine wpAny_call (codeAny_mono (F.run X.A.in1 X.stack s H ⟨[.ref a, .ref b], []⟩ [.ref a, .ref b] [.ref a, .ref b] _ E hr.in1 e0 bd r2 hsp) ?_)
    intro z s2 hz
    match z, hz with
    | .error e, hz => exact hx pins σ H s e s2 I hz
    | .ok .next, hz => exact False.elim hz
    | .ok .brk, hz => exact False.elim hz
    | .ok .cont, hz => exact False.elim hz
    | .ok (.ret u), hz =>
      obtain ⟨z, H', I', rz, ez, ex⟩ := I.after hz
      subst ez
      cases rz
      exact ⟨rfl, H', I', ex⟩
  have try1 : wpAny (model X.prog X.w) X.A (tryCompare (.ref a) (cmpInfo .NotEq).2.1 (.ref b)) (fun r s' => r = some (.bool false) ∧ ∃ H', Inv X pins σ H' s' ∧ Ext H H') X.xe s :=
    ne_try hu1 I.kIn J hm hs hn hf (wpAny_mono own (fun v s' z => ⟨z.1, rfl, z.2⟩) fun _ _ e => e)
  have fin : wpAny (model X.prog X.w) X.A (richCompare .NotEq (.ref a) (.ref b)) (EP X pins σ Q) X.xe s := by
    unfold richCompare
    simp only [oneThing_ref]
    refine wpAny_holding (wpAny_bind (wpAny_cRoomFor (Nat.lt_of_succ_lt hu1) ?_))
    refine wpAny_bind (J.type.here (wpAny_bind (J'.type.here ?_)))
    rw [show (Value.ref C != Value.ref C) = false from by simp]
    simp only [Bool.false_eq_true, if_false]
    refine wpAny_bind (wpAny_pure ?_)
    simp only [Bool.false_eq_true, if_false]
    refine wpAny_bind (wpAny_mono try1 (fun r s' z => ?_) fun _ _ e => e)
    obtain ⟨z1, H', I', ex⟩ := z
    subst z1
    exact wpAny_pure ⟨.bl false, H', I', rfl, q H' ex⟩
  unfold compareOp
  exact fin
end
end KN
set_option Elab.async false
set_option linter.all false
set_option maxRecDepth 100000
set_option maxHeartbeats 4000000
/-! A tuple turned about; how many times an int stands in a tuple of ints. -/
namespace KR
open PySem L2 PySem.Spec PyProof.Rows
section
variable {prog : Program} {w : World} {A : Around} {E : Value → Shared → Prop} {s : Shared}
theorem places_rev (n : Nat) : Builtin.Slice.slicePlaces ((n : Int) - 1) (-1) (-1) = n := by
  unfold Builtin.Slice.slicePlaces
  have h1 : ¬ ((-1 : Int) > 0) := by decide
  simp only [h1, if_false]
  by_cases h : (n : Int) - 1 > -1
  · simp only [h, if_true]
    have e : ((n : Int) - 1 - -1 - 1) / (- -1) + 1 = (n : Int) := by
      rw [show (- -1 : Int) = 1 by decide, Int.ediv_one]
      omega
    rw [e, Int.toNat_natCast]
  · simp only [h, if_false]
    omega
theorem sliceApplied_rev {sl : Addr} {vl vu vs : Value} {n : Nat} {Q : Int × Int × Nat → Shared → Prop} (hs : s.heap.IsSliceOf sl vl vu vs) (pl : IsPart vl none) (pu : IsPart vu none) (ps : IsPart vs (some (-1)))
    (h : Q ((n : Int) - 1, -1, n) s) : wpAny (model prog w) A (Builtin.Slice.sliceApplied (.ref sl) (pure (n : Int))) Q E s := by
  obtain ⟨os, hos, hcs, hds⟩ := id hs
  unfold Builtin.Slice.sliceApplied Builtin.Slice.sliceFields
  refine wpAny_bind (wpAny_bind (wpAny_field hos hds (x := vl) rfl (wpAny_bind (wpAny_field hos hds (x := vu) rfl (wpAny_bind (wpAny_field hos hds (x := vs) rfl (wpAny_pure ?_)))))))
  refine wpAny_bind (HT.slicePart_ ps ?_)
  show wpAny _ _ (if ((-1 : Int) == 0) = true then _ else _) _ _ s
  rw [if_neg (by decide)]
  refine wpAny_bind (HT.slicePart_ pl (wpAny_bind (HT.slicePart_ pu (wpAny_bind (wpAny_pure ?_)))))
  show wpAny _ _ (pure ((n : Int) - 1, (-1 : Int), Builtin.Slice.slicePlaces ((n : Int) - 1) (-1) (-1))) _ _ s
  rw [places_rev]
  exact wpAny_pure h
theorem pick_rev (xs : Array Value) : ((List.range xs.size).filterMap fun (m : Nat) => xs[(((xs.size : Int) - 1) + (m : Int) * (-1)).toNat]?).toArray = xs.toList.reverse.toArray := by
  have e : (List.range xs.size).filterMap (fun (m : Nat) => xs[(((xs.size : Int) - 1) + (m : Int) * (-1)).toNat]?) = ((List.range xs.size).map fun k => xs.size - 1 - k).filterMap (xs[·]?) := by
    rw [List.filterMap_map]
    congr 1
    funext m
    show xs[(((xs.size : Int) - 1) + (m : Int) * (-1)).toNat]? = xs[xs.size - 1 - m]?
    rw [show (((xs.size : Int) - 1) + (m : Int) * (-1)).toNat = xs.size - 1 - m by omega]
  rw [e, PySem.W.krv_range, List.filterMap_reverse, PySem.W.krv_all]
theorem getItem_tuple_rev {t sl : Addr} {items : Array Value} {vl vu vs : Value} {Q : Value → Shared → Prop} (ht : IsTup s.heap t items) (hs : s.heap.IsSliceOf sl vl vu vs) (pl : IsPart vl none) (pu : IsPart vu none) (ps : IsPart vs (some (-1)))
    (h : Q (.ref s.heap.objs.size) { s with heap := s.heap.push { cls := .type "tuple", data := .seq items.toList.reverse.toArray } })
    (hsz : items.size ≤ sizeLine) : wpAny (model prog w) A (getItem (.ref t) (.ref sl)) Q E s := by
  have htake : sizeOk (.seq items.toList.reverse.toArray) := by
    show items.toList.reverse.toArray.size ≤ sizeLine
    rw [List.size_toArray, List.length_reverse, Array.length_toList]
    omega
  obtain ⟨os, hos, hcs, hds⟩ := id hs
  have hTs : s.TypeIs (.ref sl) "slice" := ⟨os, hos, hcs⟩
  unfold getItem
  try with_reducible refine wpAny_holding ?_
  first | refine wpAny_bind (wpAny_pure ?_) | skip
  refine wpAny_bind (wpAny_sequenceKey ht.typeIs (by decide) ?_)
  refine wpAny_bind (wpAny_callSpecial?_slot (name := Str.ofString "__getitem__") ht.typeIs PyProof.Rows.slot_tuple_getitem
    (wpAny_call_entry PyProof.Rows.slot_tuple_getitem ht.typeIs entry_tuple_getitem ?_ (args_tuple_getitem _ _)))
  show wpAny _ _ (Builtin.Tuple.tupleItemsOf (.ref t) >>= _) _ _ s
  refine wpAny_bind (tupleItemsOf_ ht ?_)
  refine wpAny_bind (wpAny_typeOf hTs ?_)
  rw [if_pos (by decide)]
  refine wpAny_bind (sliceApplied_rev hs pl pu ps ?_)
  have hno : ¬ ((((items.size : Int) - 1) == 0 && (-1 : Int) == 1 && items.size == items.size) = true) := by
    intro q
    rw [Bool.and_eq_true, Bool.and_eq_true] at q
    exact absurd q.1.2 (by decide)
  show wpAny _ _ (if (((items.size : Int) - 1) == 0 && (-1 : Int) == 1 && items.size == items.size) = true then _ else _) _ _ s
  rw [if_neg hno, pick_rev]
  first
    | exact wpAny_bind (m := Builtin.Tuple.tupleExact _) (wpAny_newObj_type (wpAny_pure ⟨_, rfl, wpAny_pure h⟩) htake)
    | exact wpAny_bind (m := Builtin.Tuple.tupleExact _) (wpAny_newObj_type (wpAny_bind (wpAny_pure (wpAny_pure ⟨_, rfl, wpAny_pure h⟩))) htake)
    | exact wpAny_bind (wpAny_bind (m := Builtin.Tuple.tupleExact _) (wpAny_newObj_type (wpAny_pure (wpAny_pure ⟨_, rfl, wpAny_pure h⟩)) htake))
    | exact wpAny_bind (wpAny_bind (m := Builtin.Tuple.tupleExact _) (wpAny_newObj_type (wpAny_pure ⟨_, rfl, wpAny_pure h⟩) htake))
end
section
variable {X : Cx}
def tRevT (K : PySem.W.Frag) (te : TE) : TE := fun σ H Q => te σ H fun x H1 => ∃ a xs, x = .ref a ∧ SqT K H1 a xs ∧ ∀ p, H1 p = none → Q (.ref p) (upd H1 p (.tup xs.reverse))
/-- t[::-1] of a tuple -/
theorem pe_revT {e : Expr} {te : TE} {k : Nat} {p1 p2 p3 pos : Pos} (he : PE X e te) : PE X (.Subscript e (.Slice none none (some (.UnaryOp .USub (.Constant (.int 1) k p1) p2)) p3) pos) (tRevT X.K te) := by
  refine ⟨fun pins s σ H Q I h => ?_⟩
  refine Subscript_ (thn (he.run pins s σ H _ I h) fun v s1 ⟨x, H1, I1, r1, q1⟩ => ?_)
  obtain ⟨a, xs, ex, hx, q⟩ := q1
  subst ex
  cases r1
  have hst : PO X (some (.UnaryOp .USub (.Constant (.int 1) k p1) p2)) (tPart (tUn (rU fun i => .int (-i)) (tC (.int 1)))) := po_some (pe_un un_neg pe_int)
  refine wpAny_Slice (thn (po_none.run pins s1 σ H1 (fun o H2 => o = none ∧ H2 = H1) I1 ⟨rfl, rfl⟩) fun vl s2 ⟨l, H2, I2, pl, el, e2⟩ => ?_)
  subst el e2
  refine thn (po_none.run pins s2 σ H2 (fun o H3 => o = none ∧ H3 = H2) I2 ⟨rfl, rfl⟩) fun vu s3 ⟨u, H3, I3, pu, eu, e3⟩ => ?_
  subst eu e3
  refine thn (hst.run pins s3 σ H3 (fun o H4 => o = some (-1) ∧ H4 = H3) I3 ⟨1, rfl, -1, rfl, rfl, rfl⟩) fun vs s4 ⟨o, H4, I4, ps, eo, e4⟩ => ?_
  subst eo e4
  have I5 : Inv X pins σ H4 { s4 with heap := s4.heap.push { cls := .type "slice", data := .fields #[vl, vu, vs] } } := I4.kept (t' := s4.toks) fun b ob q => Heap.get?_push_of_some _ q
  obtain ⟨its, r, ht, hz⟩ := I5.tuple hx
  have hlen := r.length
  show wpAny (model X.prog X.w) X.A (subscriptTail e (.Slice none none (some (.UnaryOp .USub (.Constant (.int 1) k p1) p2)) p3) (.ref a) (.ref s4.heap.objs.size)) (EP X pins σ Q) X.xe { s4 with heap := s4.heap.push { cls := .type "slice", data := .fields #[vl, vu, vs] } }
  refine tail_any (ops := [.ref a, .ref s4.heap.objs.size]) ht.typeIs PyProof.Rows.slot_tuple_getitem.lookup ?_ (by with_unfolding_all rfl)
  refine getItem_tuple_rev ht (Heap.IsSliceOf.new _ vl vu vs) pl pu ps ?_ (by rw [List.size_toArray]; omega)
  refine ⟨.ref _, _, I5.laid (t' := s4.toks) (o := .tup xs.reverse) (fun b ob q => Heap.get?_push_of_some _ q) (Nat.le_refl _) ?_, rfl, q _ (I5.hok.fresh (Nat.le_refl _))⟩
  exact ⟨by rw [List.length_reverse]; exact hz, _, r.reverse, IsTup.new _ _⟩
/-- t.count(k) of a tuple of ints -/
def rCntT (K : PySem.W.Frag) : V → List V → Hp → VK → Prop := fun x xs H Q => ∃ (p : Addr) (ns : List Int) (k : Int), x = .ref p ∧ xs = [.int k] ∧ SqT K H p (ns.map V.int) ∧ Q (.int (ns.count k : Nat)) H
theorem mt_tcount : MtR X "tuple.count" (rCntT X.K) := by
  intro pins s σ H x xs v us Q I rx rxs h
  obtain ⟨p, ns, k, rfl, rfl, hs, q⟩ := h
  cases rx
  obtain ⟨u, rfl, ru⟩ := rxs.one
  obtain ⟨t, rfl⟩ := ru
  obtain ⟨its, rv, ⟨⟨cls, dd, data, sl⟩, ho, hc, n, hd⟩, hlen⟩ := I.tuple hs
  simp only at hc hd
  subst hc hd
  have hi := ints_of_vals rv
  refine call_meets PySem.F.slot_tuple_count ⟨_, ho, rfl⟩ PySem.F.entry_tuple_count (PySem.F.args_tuple_count_2 _ _)
    (SeqAt.tuple_countAt p its.toArray n dd sl (.int k t) (eqk k)) ⟨ho, fun y hy => (eqk_gives hi y (by simpa using hy)).at _ _, ?_⟩
  have ec : its.toArray.toList.countP (eqk k) = ns.count k := eqk_count hi
  refine ⟨.int (ns.count k : Nat), H, I.tok _, ⟨s.toks, ?_⟩, q⟩
  show Value.int ((its.toArray.toList.countP (eqk k) : Nat) : Int) s.toks = Value.int ((ns.count k : Nat) : Int) s.toks
  rw [ec]
/-- t + u, neither empty, the new object told with it -/
def rCatF (K : PySem.W.Frag) : R2 := fun x y H Q => ∃ a b xs ys, x = .ref a ∧ y = .ref b ∧ SqT K H a xs ∧ SqT K H b ys ∧ xs.length + ys.length ≤ sizeLine ∧ xs ≠ [] ∧ ys ≠ [] ∧
  ∀ l o, H l = none → o.dict = none → Q (.ref l) (upd H l (.frz o (.tup (xs ++ ys))))
theorem op_catF : OpR X (binaryOp .Add) (rCatF X.K) := by
  intro pins s σ H x y v u Q I rx ry h
  obtain ⟨a, b, xs, ys, rfl, rfl, ha, hb, hz, hx, hy, q⟩ := h
  cases rx
  cases ry
  obtain ⟨its, r1, p1, _⟩ := I.tuple ha
  obtain ⟨its2, r2, p2, _⟩ := I.tuple hb
  refine HT.cat_tup p1 p2 (fun z => hx (r1.nil_iff.mp z)) (fun z => absurd (r2.nil_iff.mp z) hy) (fun z => ?_) (by rw [← r1.length, ← r2.length]; exact hz)
  have hg : (s.heap.push { cls := .type "tuple", data := .seq (its ++ its2).toArray }).get? s.heap.objs.size = some { cls := .type "tuple", data := .seq (its ++ its2).toArray } :=
    Heap.get?_push_size _ rfl
  have I2 : Inv X pins σ (upd H s.heap.objs.size (.frz { cls := .type "tuple", data := .seq (its ++ its2).toArray } (.tup (xs ++ ys))))
      { s with heap := s.heap.push { cls := .type "tuple", data := .seq (its ++ its2).toArray } } :=
    I.laid (t' := s.toks) (fun b o e => Heap.get?_push_of_some _ e) (Nat.le_refl _) ⟨hg, by rw [List.length_append]; exact hz, its ++ its2, r1.append r2, IsTup.new _ _⟩
  exact ⟨.ref s.heap.objs.size, _, I2, rfl, q _ _ (I.hok.fresh (Nat.le_refl _)) rfl⟩
/-- t.count(k), t such a tuple of ints -/
def tTcn (K : PySem.W.Frag) (to : TE) (t : TA) : TE := fun σ H Q => to σ H fun x H1 => (∃ p o ys, x = V.ref p ∧ H1 p = some (.frz o (.tup ys)) ∧ o.dict = none) ∧ t σ H1 fun xs H2 => rCntT K x xs H2 Q
variable {o e : Expr} {es : List Expr} {to : TE} {t : TA} {apos cpos : Pos}
theorem pe_tcn (ho : PE X o to) (ha : PA X (e :: es) t)
    (hbase : attributeBase o "count" X.env (eval o X.env) = eval o X.env := by rfl)
    (hfew : ((backTo cpos (starEach (e :: es) X.env)).all (fun z => !z.1) && (backToKw cpos (keywordEach [] X.env)).all (fun z => z.1.isSome)
      && decide ((e :: es).length + ([] : List Keyword).length + (if ([] : List Keyword).isEmpty then 0 else 1) < 30)) = true := by rfl)
    (hline : (apos.endLine == cpos.line) = true := by rfl) (hs : starEach (e :: es) X.env = (false, eval e X.env) :: starEach es X.env := by rfl)
    (hpl : (backTo cpos (starEach es X.env)).any (·.1) = false := by rfl) :
    PE X (.Call (.Attribute o "count" apos) (e :: es) [] cpos) (tTcn X.K to t) := by
  refine ⟨fun pins s σ H Q I hy => ?_⟩
  refine wpAny_Call_method_late hbase hfew hline rfl (thn (ho.run pins s σ H _ I hy) fun v s1 ⟨x, H1, I1, r1, tt, q1⟩ => ?_)
  obtain ⟨p, ob, ys, ex, hp, hd⟩ := tt
  subst ex
  cases r1
  have hq : SqT X.K H1 p ys := .inl (.inr ⟨ob, hp⟩)
  obtain ⟨its, rv, pt, hz⟩ := I1.tuple hq
  have hgo : s1.heap.get? p = some ob := (I1.hok p _ hp).1
  have hT : s1.TypeIs (.ref p) "tuple" := by
    obtain ⟨o2, ho2, hc2, _⟩ := pt
    exact ⟨o2, ho2, hc2⟩
  refine ⟨"tuple", "tuple.count", PySem.F.plainAttrs_tuple, PySem.F.slot_tuple_count, PySem.F.type_tuple_count, hT, fun a ea => ?_, ?_⟩
  · cases ea
    exact ⟨ob, hgo, hd⟩
  have hA := ha.run cpos pins s1 σ H1 _ I1 q1
  rw [hs] at hA ⊢
  refine Calls.callWith_builtin (by show (false || (backTo cpos (starEach es X.env)).any (·.1)) = false; rw [hpl] <;> rfl) (Calls.evalArgs_plain ?_)
  exact thn hA fun us s2 ⟨vs, H2, I2, r2, q2⟩ => mt_tcount pins s2 σ H2 (.ref p) vs (.ref p) us Q I2 rfl r2 q2
end
end KR
set_option Elab.async false
set_option linter.all false
set_option maxRecDepth 100000
set_option maxHeartbeats 4000000
/-! An own exception made without an argument: its class's own __init__ writes nothing. -/
namespace KX
open PySem L2 PySem.Spec PyProof.Rows
section
variable {X : Cx}
/-- the end of C(): the exception is let go -/
theorem mk_endN {pins : List (Addr × Obj)} {σ : L2.St} {H1 H2 : Hp} {hp hp2 h2 : Heap} {g1 g2 : Array GenState} {d1 d2 : Drawn} {t1 t2 : Nat} {os1 os2 : OsState} {a C : Addr} (I1 : Inv X pins σ H1 ⟨hp, g1, d1, t1, os1⟩)
    (ha : hp.objs.size ≤ a) (k : ∀ b o, hp.get? b = some o → hp2.get? b = some o) (un : Un (frs X.stack) [] (upd H1 a (exo a C none)) H2 hp2 h2) (hok : HOk X.prog X.w H2 h2) (ho : os2 = os1) (hb : AllBare g2)
    (ea : H2 a = some (exo a C none)) :
    ∃ (t0 : Addr) (G : Heap), Inv X pins σ (del H2 a) ⟨G, g2, d2, t2, os2⟩ ∧ (∀ b o, G.get? b = some o → h2.get? b = some o) ∧ G.get? a = none ∧
      h2.get? a = some ({ cls := .ref C, dict := none, data := .fields #[.ref t0, .none, .none, .none, .bool false, .none] } : Obj) ∧ (del H2 a) a = none := by
  obtain ⟨t0, hoe⟩ := exo_at hok ea
  have hn : H1 a = none := I1.hok.fresh ha
  obtain ⟨G, g1', g2'⟩ := restrict h2 fun b => decide (b ≠ a)
  have gk : ∀ b, b ≠ a → G.get? b = h2.get? b := fun b hb => g1' b (decide_eq_true hb)
  have ge : G.get? a = none := g2' a (by simp)
  have nha : ∀ {b : Addr} {o : Obj}, hp.get? b = some o → b ≠ a := fun {b o} z => Nat.ne_of_lt (Nat.lt_of_lt_of_le (Heap.lt_size z) ha)
  have up : ∀ {b : Addr}, b ≠ a → H1 b = none → upd H1 a (exo a C none) b = none := fun {b} hb n => by rw [upd_ne hb]; exact n
  have U : Un (frs X.stack) [] H1 (del H2 a) hp G := {
    keep := fun b o z n hf hx => by
      rw [gk b (nha z)]
      exact un.keep b o (k b o z) (up (nha z) n) hf hx
    slot := fun b o z n hf hx => by
      rw [gk b (nha z)]
      exact un.slot b o (k b o z) (up (nha z) n) hf hx
    free := fun b o z n hx => by
      rw [del_ne (nha z)]
      exact un.free b o (k b o z) (up (nha z) n) hx
    there := fun b o z hx => by
      rw [gk b (nha z)]
      exact un.there b o (k b o z) hx
    tups := fun b xs z => by
      rw [del_ne (ne_of_none z hn)]
      exact un.tups b xs (by rw [upd_ne (ne_of_none z hn)]; exact z)
    frzs := fun b o v z => by
      rw [del_ne (ne_of_none z hn)]
      exact un.frzs b o v (by rw [upd_ne (ne_of_none z hn)]; exact z)
    tbls := fun b ps z => by
      rw [del_ne (ne_of_none z hn)]
      exact un.tbls b ps (by rw [upd_ne (ne_of_none z hn)]; exact z) }
  have hok3 : HOk X.prog X.w (del H2 a) G := fun b o z => by
    have hba : b ≠ a := fun e => by
      rw [e, del_same] at z
      cases z
    rw [del_ne hba] at z
    have noa : ∀ {c : Addr}, H2 c = some (.own b) → c ≠ a := fun {c} hc => at_ne ea hc exo_own
    exact (hok b o z).stay (fun c v hc y => by
        have hca : c ≠ a := by
          rcases hc with hc | hc
          · rw [hc]
            exact hba
          · exact noa hc
        rw [gk c hca]
        exact y)
      (fun c hc => by rw [del_ne (noa hc)]; exact hc) (fun c xs hc => by rw [del_ne (at_ne ea hc exo_tup)]; exact hc)
  have J : Inv X pins σ (del H2 a) ⟨G, g2, d2, t2, os2⟩ := I1.call' (ch := []) ho U hok3 hb (fun b z => absurd z (by simp))
  refine ⟨t0, G, J, fun b o z => ?_, ge, hoe, del_same⟩
  by_cases hba : b = a
  · rw [hba, ge] at z
    cases z
  · exact (gk b hba).symm.trans z
/-- C(), C's own __init__ keeping sp and writing nothing -/
def tMkO0 (C : Addr) (sp : Sp) (dvs : List V) : L2.St → Hp → XK → Prop := fun σ H Q => ∀ a, H a = none → sp (.ref a :: dvs) (upd H a (exo a C none))
  (fun v H2 => v = .non ∧ H2 a = some (exo a C none) ∧ Q (.ref C) none (del H2 a)) (fun _ _ _ => False)
theorem pmk_oex0 {CX : CXT} {x : Str} {C fI : Addr} {k : Nat} {fd : FuncData} {ps : List Str} {sp : Sp} {ds : List Value} {dvs : List V} {p pos : Pos} (T : OexC X.K C) (iC : PySem.W.findIn X.K (.ref C) "__init__" = some (some (.ref fI))) (tI : PySem.W.typeIn X.K (.ref fI) = some (.type "function"))
    (F1 : FnOk X.prog X.w X.K X.mg X.base CX k fI fd ps sp) (hr : Room (k + 1) X.A) (hb : Binds X.K fd ps ds) (hd : Vals dvs ds) (hx : Passes CX X (fun _ _ _ => False)) (hg : Gl X x) (hm : X.mg x = some (.ref C))
    (hdb : (x == ("__debug__" : Str)) = false := by decide) :
    PMk X (.Call (.Name x p) [] [] pos) (tMkO0 C sp dvs) := by
  intro pins s σ H Q I h
  obtain ⟨nm, q, N, bs, bm, sn, sub, ab, col, dd, k0, k1, k2, k3, k5, hC, hbm⟩ := T.cls
  refine wpAny_Call_Name_kw (ld_glob I hg hm ?_ hdb)
  refine PySem.W.callWith_K0 I.kIn T.kC ?_
  show wpAny _ _ (call (.ref C) []) _ _ _
  obtain ⟨hp, g, dr, tk, os⟩ := s
  have hsz : hp.objs.size ≤ hp.objs.size + 1 := Nat.le_succ _
  have hn : H (hp.objs.size + 1) = none := I.hok.fresh hsz
  have hq := h (hp.objs.size + 1) hn
  have kk : ∀ b o, hp.get? b = some o → ((hp.push (PySem.W.kdv_tup [])).push (PySem.HandSPX.excO C hp.objs.size)).get? b = some o := fun b o e => Heap.get?_push_of_some _ (Heap.get?_push_of_some _ e)
  have hget : ((hp.push (PySem.W.kdv_tup [])).push (PySem.HandSPX.excO C hp.objs.size)).get? (hp.objs.size + 1) = some (PySem.HandSPX.excO C hp.objs.size) := by heap_get
  have I2 : Inv X pins σ (upd H (hp.objs.size + 1) (exo (hp.objs.size + 1) C none)) ⟨(hp.push (PySem.W.kdv_tup [])).push (PySem.HandSPX.excO C hp.objs.size), g, dr, tk, os⟩ :=
    I.laid (t' := tk) (a := hp.objs.size + 1) (o := exo (hp.objs.size + 1) C none) (h' := (hp.push (PySem.W.kdv_tup [])).push (PySem.HandSPX.excO C hp.objs.size)) kk hsz (exo_ok hget)
  have r2 : Vals (V.ref (hp.objs.size + 1) :: dvs) (Value.ref (hp.objs.size + 1) :: ds) := .cons rfl hd
  have hl : ([Value.ref (hp.objs.size + 1)] ++ ds).length = ps.length := by
    have e := r2.length
    rw [F1.len _ _ _ _ hq] at e
    exact e.symm
  refine wpAny_call (PySem.HandSPX.call_own F.excBase_ValueError (fun Y => PySem.HandSPX.refsVE_contains Y bm hbm) (I.kIn _ _ hC) (PySem.W.looks_findIn I.kIn iC) (fun self => PySem.W.bind_fn I.kIn self tI) (Nat.zero_le _)
    (codeAny_mono (F1.run _ X.stack _ _ ⟨Value.ref (hp.objs.size + 1) :: [], []⟩ (Value.ref (hp.objs.size + 1) :: ds) _ _ (fun _ _ _ => False) (hr.make C [] []) (I2.env0.make C [] []) (hb _ [Value.ref (hp.objs.size + 1)] I2.kIn hl) r2 hq) fun r s' hq' => ?_))
  cases r with
  | error er => exact hx pins σ _ _ er s' I2 hq'
  | ok fl =>
    cases fl with
    | ret u =>
      obtain ⟨v, H2, os2, bare2, un2, hok2, rv, ev, ea, q2⟩ := hq'
      subst ev
      obtain ⟨h2, g2, d2, t2, os'⟩ := s'
      obtain ⟨t0, G, J, kG, ge, hoe, na⟩ := mk_endN (d2 := d2) (t2 := t2) I hsz kk un2 hok2 os2 bare2 ea
      exact ⟨rv, hp.objs.size + 1, _, _, ⟨G, g2, d2, t2, os'⟩, _, .ref C, none, rfl, J, kG, ge, hoe, ⟨rfl, rfl⟩, rfl, rfl, na, rfl, bare2, raises_own T.exC T.tyC, q2⟩
    | next => exact False.elim hq'
    | brk => exact False.elim hq'
    | cont => exact False.elim hq'
/-- a block whose reading is told by what is known of its start only -/
theorem pss_ex {α : Type} {Pr : α → Prop} {b : List Stmt} {t : α → TS} (h : ∀ x, Pr x → PSs X b (t x)) : PSs X b (fun D σ H => ∃ x, Pr x ∧ t x D σ H) :=
  ⟨fun pins s σ H D I ⟨x, hx, q⟩ => (h x hx).run pins s σ H D I q⟩
/-- xs.count(y), all of them flat -/
def rCntF (K : PySem.W.Frag) : V → List V → Hp → VK → Prop := fun x xs H Q => ∃ (a : Addr) (ys : List V) (y : V), x = .ref a ∧ xs = [y] ∧ SqL K H a ys ∧ flatV y = true ∧ ys.all flatV = true ∧ Q (.int ((ys.countP fun z => eqV z y : Nat) : Int)) H
theorem count_flat {y : V} : ∀ {ys : List V} {us : List Value}, Vals ys us → ys.all flatV = true → us.countP (eqU y) = ys.countP fun z => eqV z y
  | _, _, .nil, _ => rfl
  | z :: r, u :: t, .cons h1 h2, f => by
    have fz : flatV z = true := List.all_eq_true.mp f z List.mem_cons_self
    have fr : r.all flatV = true := List.all_eq_true.mpr fun w hw => List.all_eq_true.mp f w (List.mem_cons_of_mem _ hw)
    rw [List.countP_cons, List.countP_cons, count_flat h2 fr, eqU_of h1 fz]
theorem mt_lcountF : MtR X "list.count" (rCntF X.K) := by
  intro pins s σ H x xs v us Q I rx rxs h
  obtain ⟨a, ys, y, rfl, rfl, hs, fy, fys, q⟩ := h
  cases rx
  cases rxs with
  | cons ry rt =>
    rename_i uy ut
    cases rt
    obtain ⟨its, rv, ⟨⟨cls, dd, data, sl⟩, n, ho, hc, hdn, hd⟩, hlen⟩ := I.list hs
    simp only at hc hd
    subst hc hd
    refine call_meets PySem.F.slot_list_count ⟨_, ho, rfl⟩ PySem.F.entry_list_count (PySem.F.args_list_count_2 _ _)
      (SeqAt.list_countAt a its.toArray n dd sl uy (eqU y)) ⟨ho, fun u' hu' => mem_eqAt ry fy rv fys u' (by simpa using hu'), ?_⟩
    refine ⟨.int ((ys.countP fun z => eqV z y : Nat) : Int), H, I.tok _, ⟨s.toks, ?_⟩, q⟩
    show Value.int ((its.toArray.toList.countP (eqU y) : Nat) : Int) s.toks = _
    rw [show its.toArray.toList = its from by simp, count_flat rv fys]
end
end KX
set_option Elab.async false
set_option linter.all false
set_option maxRecDepth 100000
set_option maxHeartbeats 4000000
/-! try with several clauses, each with a name or without. -/
namespace KY
open PySem L2 PySem.Spec PyProof.Rows
abbrev Way := Value × Option Nat × (Addr → Value → Option Addr → TS)
def unset (E : Ends) (i : Nat) : Ends := ⟨fun τ G => E.nx (τ.set i none) G, E.rt, fun τ G => E.bk (τ.set i none) G, fun τ G => E.ct (τ.set i none) G⟩
def wWays (K : PySem.W.Frag) (W0 : WX) (E : Ends) : List Way → WX
  | [] => W0
  | (c, none, ts) :: r => fun cl dd τ G => ∃ b, PySem.W.exmOne K cl c = some b ∧ (b = true → ∀ z, G z = none → ts z cl dd E τ G) ∧ (b = false → wWays K W0 E r cl dd τ G)
  | (c, some i, ts) :: r => fun cl dd τ G => ∃ b, PySem.W.exmOne K cl c = some b ∧ (b = true → ∀ z, G z = none → ts z cl dd (unset E i) (τ.set i (some (.ref z))) G) ∧ (b = false → wWays K W0 E r cl dd τ G)
def SuiteOk (X : Cx) (b0 : Stmt) (bs : List Stmt) (ts : Addr → Value → Option Addr → TS) : Prop :=
  ∀ (z : Addr) (o : Obj) (cl : Value) (dd : Option Addr) (pn : List (Addr × Obj)), Zc cl dd o → (∃ fs, o.data = .fields fs) → PSs (X.suite z ((z, o) :: pn)) (b0 :: bs) (ts z cl dd)
inductive WaysOk (X : Cx) : List ExceptHandler → List Way → Prop
  | nil : WaysOk X [] []
  | plain {x : Str} {c : Value} {ts : Addr → Value → Option Addr → TS} {b0 : Stmt} {bs : List Stmt} {p q : Pos} {hl : List ExceptHandler} {l : List Way} (hc : Names X x c) (hb : SuiteOk X b0 bs ts) (r : WaysOk X hl l) :
      WaysOk X (.ExceptHandler (some (.Name x p)) none (b0 :: bs) q :: hl) ((c, none, ts) :: l)
  | named {x n : Str} {c : Value} {i : Nat} {ts : Addr → Value → Option Addr → TS} {b0 : Stmt} {bs : List Stmt} {p q : Pos} {hl : List ExceptHandler} {l : List Way} (hc : Names X x c) (hi : X.N[i]? = some n) (hk : X.env.kindOf n = some .local) (hb : SuiteOk X b0 bs ts) (r : WaysOk X hl l) :
      WaysOk X (.ExceptHandler (some (.Name x p)) (some n) (b0 :: bs) q :: hl) ((c, some i, ts) :: l)
section
variable {X : Cx} {body : List Stmt} {h1 : ExceptHandler} {hl : List ExceptHandler} {l : List Way} {pos : Pos} {tb : WX → TS} {W0 : WX}
theorem ps_try_ways (hs : X.stack = X.env :: X.outer) (hf : X.env.frame = some X.env.locals) (hN : X.N.Nodup) (tk : Takes X W0)
    (hb : ∀ (W : WX) (pn : List (Addr × Obj)) (xe : Value → Shared → Prop), Takes (X.tr pn xe) W → PassesOwn (model X.prog X.w) X.A X.env xe → PSs (X.tr pn xe) body (tb W))
    (hh : WaysOk X (h1 :: hl) l) : PS X (.Try body (h1 :: hl) [] [] pos) (fun E τ G => tb (wWays X.K W0 E l) E τ G) := by
  constructor
  intro pins s τ G E I hyp
  have ok := I.ok
  have frE : X.A.frames = some (X.env :: X.outer) := by rw [ok.frames, hs]
  apply wpAny_Try_except
  refine wpAny_mono (Q := SP (X.tr (X.pn ++ pins) _) [] E) ((hb (wWays X.K W0 E l) (X.pn ++ pins) (fun x sa => wpAny (model X.prog X.w) X.A (noteFrame x X.env) (fun _ sb => wpAny (model X.prog X.w) X.A (setFlight x none)
    (fun _ sc => wpAny (model X.prog X.w) X.A (handleBy x X.env (h1 :: hl)) (SP X pins E) X.xe sc) X.xe sb) X.xe sa) (fun u st xx => ?caught) PassesOwn.looking).run [] s τ G E (I.toTry _) hyp) (fun fl sa hsp => ?thru) (fun x sa he => he)
  case thru =>
    cases fl with
    | next => obtain ⟨τ1, G1, J, q⟩ := hsp; exact wpAny_execs_nil ⟨τ1, G1, J.ofTry ok, q⟩
    | brk => obtain ⟨τ1, G1, J, q⟩ := hsp; exact ⟨τ1, G1, J.ofTry ok, q⟩
    | cont => obtain ⟨τ1, G1, J, q⟩ := hsp; exact ⟨τ1, G1, J.ofTry ok, q⟩
    | ret u => obtain ⟨v, τ1, G1, J, r, q⟩ := hsp; exact ⟨v, τ1, G1, J.ofTry ok, r, q⟩
  case caught =>
    obtain ⟨z, B, s0, pins1, τ1, G1, cl, dd, rfl, J1, nb, up, sky, nz, osE, ag, w⟩ := xx
    have J : Inv X pins τ1 G1 s0 := J1.ofTry ok
    have skyE : Sky B (X.env :: X.outer) z (Zc cl dd) X.env.locals st.heap := hs ▸ sky
    show wpAny (model X.prog X.w) X.A (noteFrame (.ref z) X.env) _ _ _
    refine Sky.land Zc.steady frE hf skyE fun ha fla upa => ?_
    have Ja : Inv X pins τ1 G1 { st with heap := ha } := J.landed nb fla.1 (up.trans upa) osE ag
    obtain ⟨oa, fsa, eqa, zca, dta⟩ := fla.there
    have apart : z ∉ frs (X.env :: X.outer) := fun hm => by
      obtain ⟨_, o2, e2, no2⟩ := fla.2.2.1.mem hm
      rw [eqa] at e2
      cases e2
      exact no2 _ dta
    have nLoc : z ≠ X.env.locals := fun c => apart (List.mem_filterMap.mpr ⟨X.env, .head _, by rw [hf, c]⟩)
    have nFs : z ∉ X.fs := fun hm => by
      obtain ⟨ee, hee, q⟩ := List.mem_filterMap.mp hm
      exact apart (List.mem_filterMap.mpr ⟨ee, .tail _ hee, q⟩)
    have Sa := Ja.suite eqa dta nz nLoc nFs
    have LT : PySem.W.Looks (model X.prog X.w) ha (typeOf (.ref z)) cl := fun A Q E s k q => wpAny_typeOf_ref (k _ _ eqa) (by rw [zca.1]; exact q)
    have test : ∀ {x : Str} {c : Value} {p : Pos} {Q E' : Value → Shared → Prop}, Names X x c → Q c { st with heap := ha } → wpAny (model X.prog X.w) (X.A.mark (some (.ref z))) (eval (.Name x p) X.env) Q E' { st with heap := ha } := by
      intro x c p Q E' hc q
      obtain ⟨hg, hdbg, hm | ⟨hm, hv, hnn⟩⟩ := hc
      · exact ld_glob (X := X.suite z ((z, oa) :: (X.pn ++ pins))) Sa hg hm q hdbg
      · exact ld_blt (X := X.suite z ((z, oa) :: (X.pn ++ pins))) Sa hg hm hv q hnn hdbg
    have go : ∀ {hk : List ExceptHandler} {lk : List Way}, WaysOk X hk lk → wWays X.K W0 E lk cl dd τ1 G1 → wpAny (model X.prog X.w) X.A (handleBy (.ref z) X.env hk) (SP X pins E) X.xe { st with heap := ha } := by
      intro hk lk wk
      induction wk with
      | nil =>
        intro w
        apply wpAny_handleBy_nil
        obtain ⟨k1, k2, k3, oe, vs, T, oT, ts', he, hz, hd, g1, hr⟩ := id fla
        unfold PySem.passOn
        apply wpAny_bind
        refine wpAny_field he hd g1 ?_
        rw [if_neg (show ¬ ((Value.ref T == Value.none) = true) from by simp)]
        have fin : wpAny (model X.prog X.w) X.A (setFlight (.ref z) X.env.frame) (fun _ sd => wpAny (model X.prog X.w) X.A (throw (.ref z) : Sem Flow) (SP X pins E) X.xe sd) X.xe { st with heap := ha } := by
          rw [hf]
          refine HandSPX.setFlight_upZ fla fun hb hhb upb => wpAny_throw (tk _ _ ?_)
          exact ⟨z, B, s0, pins, τ1, G1, cl, dd, rfl, J, nb, (up.trans upa).trans upb, .inr (.inr (by rw [hs]; exact hhb)), nz, osE, ag, w⟩
        first
          | exact wpAny_bind (wpAny_pure (wpAny_bind fin))
          | exact wpAny_bind fin
      | @plain x c ts b0 bs p q hk2 l2 hc hsu r ih =>
        intro w
        obtain ⟨b, eb, yes, no⟩ := w
        refine wpAny_handleBy_cons (codeAny_handlers_test ?_) (by intro y; cases y)
        refine test hc ((PySem.W.exm_one (M := model X.prog X.w) (Ja.kIn) LT eb).here ?_)
        cases b with
        | false =>
          show wpAny _ X.A (handleBy (.ref z) X.env hk2) _ _ _
          exact ih (no rfl)
        | true =>
          refine codeAny_handlers_suite ?_
          refine HandSPX.lands_againZ fla fun hb flb upb => ?_
          have Jb : Inv X pins τ1 G1 { st with heap := hb } := J.landed nb flb.1 ((up.trans upa).trans upb) osE ag
          obtain ⟨ob, fsb, eqb, zcb, dtb⟩ := flb.there
          have Sb := Jb.suite eqb dtb nz nLoc nFs
          refine wpAny_mono ((hsu z ob cl dd (X.pn ++ pins) zcb ⟨_, dtb⟩).run [] _ _ G1 _ Sb (yes rfl z nz)) (fun fl s6 hsp => ?_) (fun _ _ y => False.elim y)
          cases fl with
          | next => obtain ⟨_, _, S6, q6⟩ := hsp; exact ⟨_, _, S6.unsuite ok, q6⟩
          | brk => obtain ⟨_, _, S6, q6⟩ := hsp; exact ⟨_, _, S6.unsuite ok, q6⟩
          | cont => obtain ⟨_, _, S6, q6⟩ := hsp; exact ⟨_, _, S6.unsuite ok, q6⟩
          | ret u => obtain ⟨_, _, _, S6, r6, q6⟩ := hsp; exact ⟨_, _, _, S6.unsuite ok, r6, q6⟩
      | @named x n c i ts b0 bs p q hk2 l2 hc hi hk hsu r ih =>
        intro w
        obtain ⟨b, eb, yes, no⟩ := w
        refine wpAny_handleBy_cons (codeAny_handlers_test ?_) (by intro y; cases y)
        refine test hc ((PySem.W.exm_one (M := model X.prog X.w) (Ja.kIn) LT eb).here ?_)
        cases b with
        | false =>
          show wpAny _ X.A (handleBy (.ref z) X.env hk2) _ _ _
          exact ih (no rfl)
        | true =>
          refine codeAny_handlers_suite_as ?_
          refine HandSPX.lands_againZ fla fun hb flb upb => ?_
          have Jb : Inv X pins τ1 G1 { st with heap := hb } := J.landed nb flb.1 ((up.trans upa).trans upb) osE ag
          obtain ⟨ob, fsb, eqb, zcb, dtb⟩ := flb.there
          have Sb := Jb.suite eqb dtb nz nLoc nFs
          refine store_ok (X := X.suite z ((z, ob) :: (X.pn ++ pins))) (v := .ref z) Sb hN hi (.inl hk) rfl (fun s5 S5 => ?_) (.inr hk)
          refine wpAny_mono ((hsu z ob cl dd (X.pn ++ pins) zcb ⟨_, dtb⟩).run [] s5 _ G1 _ S5 (yes rfl z nz)) (fun fl s6 hsp => ?_) (fun _ _ y => False.elim y)
          have out : ∀ {τ6 : L2.St} {G6 : Hp} {Q : Shared → Prop}, Inv (X.suite z ((z, ob) :: (X.pn ++ pins))) [] τ6 G6 s6 → (∀ s7, Inv X pins (τ6.set i none) G6 s7 → Q s7) →
              wpAny (model X.prog X.w) X.A (do bindName X.env n .none; unbindBehindTheSuite X.env n q) (fun _ s7 => Q s7) X.xe s6 := fun {τ6 G6 Q} S6 hq => gone_ok (S6.unsuite ok) hN hi hk hq
          cases fl with
          | next => obtain ⟨_, _, S6, q6⟩ := hsp; exact out S6 fun s7 J7 => ⟨_, _, J7, q6⟩
          | brk => obtain ⟨_, _, S6, q6⟩ := hsp; exact out S6 fun s7 J7 => ⟨_, _, J7, q6⟩
          | cont => obtain ⟨_, _, S6, q6⟩ := hsp; exact out S6 fun s7 J7 => ⟨_, _, J7, q6⟩
          | ret u => obtain ⟨_, _, _, S6, r6, q6⟩ := hsp; exact out S6 fun s7 J7 => ⟨_, _, _, J7, r6, q6⟩
    exact go hh w
end
end KY
set_option Elab.async false
set_option linter.all false
set_option maxRecDepth 100000
set_option maxHeartbeats 4000000
/-! insert; a tuple times any number. -/
namespace KZ
open PySem L2 PySem.Spec PyProof.Rows
section
variable {X : Cx}
/-- l.insert(i, x), i not below 0 -/
def rInsert : V → List V → Hp → VK → Prop := fun x vs H Q => ∃ l xs k y, x = .ref l ∧ vs = [.int k, y] ∧ H l = some (.lst xs) ∧ 0 ≤ k ∧ k ≤ 100000 ∧ xs.length < sizeLine ∧ Q .non (upd H l (.lst (xs.take k.toNat ++ y :: xs.drop k.toNat)))
theorem mt_insert : MtM X "list.insert" rInsert := by
  intro pins s σ H x vs v us Q I rx rv h
  obtain ⟨l, xs, k, y, rfl, rfl, hH, k0, k1, hz, q⟩ := h
  cases rx
  obtain ⟨u, w, rfl, ru, rw'⟩ := rv.two
  obtain ⟨t, rfl⟩ := ru
  obtain ⟨z, its, n, r, hl, e⟩ := I.lstM hH
  have fits : ¬ (!Builtin.List.listFitsIndex k) = true := by
    unfold Builtin.List.listFitsIndex
    rw [decide_eq_true (by omega), decide_eq_true (by omega)]
    decide
  refine call_meets F.slot_list_insert ⟨_, e, rfl⟩ F.entry_list_insert (F.args_list_insert_3 _ _ _) (PySem.AutoSeq1.list_insert_list_int_val_1 l its.toArray n k t w fits (by rw [List.size_toArray]; omega)) ⟨e, ?_⟩
  refine ⟨.non, _, I.lset (its' := its.take k.toNat ++ w :: its.drop k.toNat) hH e ?_ ((r.take k.toNat).append (.cons rw' (r.drop k.toNat))) ?_, rfl, q⟩
  · show (its.toArray.extract 0 (if k < 0 then (k + (its.toArray.size : Int)).toNat else min k.toNat its.toArray.size)).push w ++ its.toArray.extract (if k < 0 then (k + (its.toArray.size : Int)).toNat else min k.toNat its.toArray.size) = _
    rw [if_neg (by omega), List.size_toArray]
    apply Array.toList_inj.mp
    simp only [Array.toList_append, Array.toList_push, Array.toList_extract, List.extract_eq_drop_take, List.drop_zero, Nat.sub_zero, List.size_toArray]
    rcases Nat.le_total k.toNat its.length with g | g
    · rw [Nat.min_eq_left g, List.take_of_length_le (l := its.drop k.toNat) (by simp)]
      simp
    · rw [Nat.min_eq_right g]
      simp [List.take_of_length_le g, List.drop_eq_nil_of_le g]
  · rw [List.length_append, List.length_cons, List.length_take, List.length_drop]
    omega
theorem tuple_mulS (l : Addr) (items : Array Value) (n : Nat) (sl : Array (Option Value)) (dd : Option Addr) (x : Int) (u : Tok) (c0 : (decide (x < -(2 ^ 63)) || decide (x ≥ 2 ^ 63)) = false) (c1 : (items.isEmpty || x == 1) = true) :
    Meets (Builtin.«tuple.__mul__» ⟨[.ref l, .int x u], []⟩) (fun _ R s => s.heap.get? l = some { cls := .type "tuple", dict := dd, data := .seq items n, slots := sl } ∧ R (.ok (.ret (Value.ref l))) s) :=
  .of_wp fun prog w A R s h => by
    obtain ⟨hp, g, d, tk, os⟩ := s
    obtain ⟨hl, h⟩ := h
    have f1 := AutoSeq1.idx_int
    wp_walk using wpAny_loadPart' hl
    repeat (first
      | (refine wpAny_ite_false (decide_eq_false (by rw [c0]; exact Bool.false_ne_true)) ?_; wp_walk using wpAny_loadPart' hl)
      | (refine wpAny_ite_true (decide_eq_true c1) ?_; wp_walk using wpAny_loadPart' hl))
    exact ⟨_, rfl, h⟩
theorem tuple_mul0 (l : Addr) (items : Array Value) (n : Nat) (sl : Array (Option Value)) (dd : Option Addr) (x : Int) (u : Tok) (c0 : (decide (x < -(2 ^ 63)) || decide (x ≥ 2 ^ 63)) = false) (c1 : (items.isEmpty || x == 1) = false) (c2 : (decide (x ≤ 0) || items.isEmpty) = true) :
    Meets (Builtin.«tuple.__mul__» ⟨[.ref l, .int x u], []⟩) (fun _ R s => s.heap.get? l = some { cls := .type "tuple", dict := dd, data := .seq items n, slots := sl } ∧
      R (.ok (.ret (Value.ref s.heap.objs.size))) { s with heap := s.heap.push { cls := Value.type "tuple", data := Data.seq #[] }, toks := s.toks }) :=
  .of_wp fun prog w A R s h => by
    obtain ⟨hp, g, d, tk, os⟩ := s
    obtain ⟨hl, h⟩ := h
    have f1 := AutoSeq1.idx_int
    wp_walk using wpAny_loadPart' hl
    repeat (first
      | (refine wpAny_ite_false (decide_eq_false (by rw [c0]; exact Bool.false_ne_true)) ?_; wp_walk using wpAny_loadPart' hl)
      | (refine wpAny_ite_false (decide_eq_false (by rw [c1]; exact Bool.false_ne_true)) ?_; wp_walk using wpAny_loadPart' hl)
      | (refine wpAny_ite_true (decide_eq_true c2) ?_; wp_walk using wpAny_loadPart' hl))
    exact ⟨_, rfl, h⟩
/-- t * k: t itself, () or a new one -/
def rRepA (K : PySem.W.Frag) : R2 := fun x y H Q => ∃ l k xs, x = .ref l ∧ y = .int k ∧ SqT K H l xs ∧ -1000 ≤ k ∧ k ≤ 1000 ∧ xs.length ≤ 1000 ∧ (xs = [] ∨ k = 1 → Q (.ref l) H) ∧ (¬ (xs = [] ∨ k = 1) → ∀ p, H p = none → Q (.ref p) (upd H p (.tup (List.replicate k.toNat xs).flatten)))
theorem op_repA : OpR X (binaryOp .Mult) (rRepA X.K) := by
  intro pins s σ H x y v u Q I rx ry h
  obtain ⟨l, k, xs, rfl, rfl, hT, h1, h2, hz, qs, qn⟩ := h
  by_cases hb : ¬ (xs = [] ∨ k = 1) ∧ 2 ≤ k
  · exact op_repT pins s σ H _ _ v u Q I rx ry ⟨l, k, xs, rfl, rfl, hT, fun c => hb.1 (.inl c), hb.2, h2, hz, qn hb.1⟩
  · cases rx
    obtain ⟨t, rfl⟩ := ry
    obtain ⟨its, r, ⟨⟨cls, dd, data, sl⟩, ho, hc, n, hd⟩, hs⟩ := I.tuple hT
    simp only at hc hd
    subst hc hd
    have hle : its.length = xs.length := r.length.symm
    have hem : its.toArray.isEmpty = true ↔ xs = [] := by
      cases its with
      | nil => cases xs with
        | nil => exact ⟨fun _ => rfl, fun _ => rfl⟩
        | cons a b => cases hle
      | cons a b => cases xs with
        | nil => cases hle
        | cons c d => exact ⟨fun z => absurd z Bool.false_ne_true, fun z => by cases z⟩
    have c0 : (decide (k < -(2 ^ 63)) || decide (k ≥ 2 ^ 63)) = false := by
      rw [decide_eq_false (by omega), decide_eq_false (by omega)] <;> rfl
    by_cases hsame : xs = [] ∨ k = 1
    · have c1 : (its.toArray.isEmpty || k == 1) = true := by
        rcases hsame with e | e
        · rw [hem.mpr e]; rfl
        · rw [e]; exact Bool.or_true _
      refine wpAny_binaryOp_repeat_ref (T := "tuple") (U := "int") (by decide) ⟨_, ho, rfl⟩ (fun s' => typeIs_int s' k t) noFill_tuple_mul F.fills_int_mul F.slot_int_rmul repeat_tuple F.slot_int_index.lookup
        (call_meets F.slot_int_rmul (typeIs_int s k t) F.entry_int_rmul (F.args_int_rmul_2 _ _) (int_rmul_tuple k t l its.toArray n dd sl)
          ⟨ho, rfl, ⟨_, ho, rfl⟩, call_meets F.slot_tuple_mul ⟨_, ho, rfl⟩ F.entry_tuple_mul (F.args_tuple_mul_2 _ _) (tuple_mulS l its.toArray n sl dd k t c0 c1) ⟨ho, ?_⟩⟩)
      exact ⟨.ref l, H, I, rfl, qs hsame⟩
    · have k0 : k ≤ 0 := by
        have a1 : ¬ 2 ≤ k := fun c => hb ⟨hsame, c⟩
        have a2 : k ≠ 1 := fun c => hsame (.inr c)
        omega
      have c1 : (its.toArray.isEmpty || k == 1) = false := by
        cases e : its.toArray.isEmpty with
        | true => exact absurd (.inl (hem.mp e)) hsame
        | false => rw [Bool.false_or]; exact beq_eq_false_iff_ne.mpr (by omega)
      have c2 : (decide (k ≤ 0) || its.toArray.isEmpty) = true := by rw [decide_eq_true k0]; rfl
      refine wpAny_binaryOp_repeat_ref (T := "tuple") (U := "int") (by decide) ⟨_, ho, rfl⟩ (fun s' => typeIs_int s' k t) noFill_tuple_mul F.fills_int_mul F.slot_int_rmul repeat_tuple F.slot_int_index.lookup
        (call_meets F.slot_int_rmul (typeIs_int s k t) F.entry_int_rmul (F.args_int_rmul_2 _ _) (int_rmul_tuple k t l its.toArray n dd sl)
          ⟨ho, rfl, ⟨_, ho, rfl⟩, call_meets F.slot_tuple_mul ⟨_, ho, rfl⟩ F.entry_tuple_mul (F.args_tuple_mul_2 _ _) (tuple_mul0 l its.toArray n sl dd k t c0 c1 c2) ⟨ho, ?_⟩⟩)
      have e0 : k.toNat = 0 := by omega
      have qn' := qn hsame
      rw [e0] at qn'
      refine ⟨.ref s.heap.objs.size, _, I.laid (t' := s.toks) (o := .tup []) (fun b ob q => Heap.get?_push_of_some _ q) (Nat.le_refl _) ?_, rfl, qn' _ (I.hok.fresh (Nat.le_refl _))⟩
      exact ⟨by rw [sizeLine_eq]; exact Nat.zero_le _, [], .nil, IsTup.new _ _⟩
end
end KZ
set_option Elab.async false
set_option linter.all false
set_option maxRecDepth 100000
set_option maxHeartbeats 4000000
/-! A rule of my own: a list of tuples of ints, of any lengths and any number, put in order. -/
namespace Rl
open PySem PySem.Spec PyProof.Rows L2
/-- a tuple of ints, of one or more -/
def TupI (h : Heap) (v : Value) : Prop := ∃ (b : Addr) (ob : Obj) (zs : Array Value) (k : Nat), v = .ref b ∧ h.get? b = some ob ∧ ob.cls = .type "tuple" ∧ ob.data = .seq zs k ∧ 0 < zs.size ∧ ∀ z ∈ zs.toList, ∃ (i : Int) (t : Tok), z = Value.int i t
theorem TupI.stays {h g : Heap} {v : Value} (p : TupI h v) (st : ∀ b ob, h.get? b = some ob → ob.cls = .type "tuple" → g.get? b = some ob) : TupI g v := by
  obtain ⟨b, ob, zs, k, e, h1, h2, h3⟩ := p
  exact ⟨b, ob, zs, k, e, st _ _ h1 h2, h2, h3⟩
section
variable {prog : Program} {w : World} {A : Around} {s : Shared} {b fin : Bool}
theorem lex_tell : ∀ (l : List (Value × Value)) (i : Nat), (∀ p ∈ l, (∃ (x : Int) (t : Tok), p.1 = Value.int x t) ∧ ∃ (y : Int) (u : Tok), p.2 = Value.int y u) →
    ∃ r : Bool, PySem.W.KatLex prog w A b fin (fun c z => z = s ∧ c = r) l i s
  | [], i, _ => ⟨fin, PySem.W.kat_nil ⟨rfl, rfl⟩⟩
  | (p, q) :: l, i, h => by
    obtain ⟨⟨x, t, e1⟩, y, u, e2⟩ := h (p, q) List.mem_cons_self
    have e1' : p = Value.int x t := e1
    have e2' : q = Value.int y u := e2
    subst e1' e2'
    obtain ⟨r, hr⟩ := lex_tell l (i + 1) fun z hz => h z (List.mem_cons_of_mem _ hz)
    by_cases c : x = y
    · refine ⟨r, PySem.W.kat_cons (SeqAt.EqAt.int_int x t y u prog w _ _ ?_)⟩
      refine PySem.W.kat_go (fun _ => PySem.W.kat_yes hr) fun e => ?_
      rw [c] at e
      simp at e
    · refine ⟨decide (x < y), PySem.W.kat_cons (SeqAt.EqAt.int_int x t y u prog w _ _ ?_)⟩
      refine PySem.W.kat_go (fun e => absurd (by simpa using e) c) fun _ => PySem.W.kat_no ?_
      cases hb : (b && i == 0) with
      | true => exact oneLt_int ⟨rfl, rfl⟩
      | false => exact PySem.W.kat_one _ _ (PyProof.Rows.lt_int (Q := PySem.W.BoolBack fun c z => z = s ∧ c = decide (x < y)) ⟨rfl, rfl⟩)
theorem firstI : ∀ {h : Heap} {vs : List Value}, (∀ v ∈ vs, TupI h v) → ∃ fs : List Value, PySem.W.KatTups h vs fs ∧ fs.length = vs.length ∧ ∀ f ∈ fs, ∃ (x : Int) (t : Tok), f = Value.int x t
  | _, [], _ => ⟨[], PySem.W.KatTups.nil, rfl, fun _ hm => nomatch hm⟩
  | h, v :: vs, hp => by
    obtain ⟨fs, g1, g2, g3⟩ := firstI (vs := vs) fun z hz => hp z (List.mem_cons_of_mem _ hz)
    obtain ⟨b, ob, zs, k, e, h1, h2, h3, h4, h5⟩ := hp v List.mem_cons_self
    subst e
    have e0 : zs[0]? = some zs[0] := Array.getElem?_eq_getElem h4
    refine ⟨zs[0] :: fs, PySem.W.KatTups.cons h1 h2 h3 e0 g1, by rw [List.length_cons, List.length_cons, g2], fun f hf => ?_⟩
    rcases List.mem_cons.mp hf with z | z
    · rw [z]
      exact h5 _ (Array.mem_toList_iff.mpr (Array.getElem_mem h4))
    · exact g3 f z
theorem totI {vs : List Value} (hp : ∀ v ∈ vs, TupI s.heap v) : Srt.Tot prog w A s (tuples' true) (fun p => p.1 ∈ vs) := by
  intro p q hm hn
  obtain ⟨b, ob, zs, k, e, h1, h2, h3, h4, h5⟩ := hp _ hm
  obtain ⟨b', ob', zs', k', e', h1', h2', h3', h4', h5'⟩ := hp _ hn
  rw [e, e']
  obtain ⟨r, hr⟩ := lex_tell (prog := prog) (w := w) (A := A) (s := s) (b := true) (fin := decide (zs.size < zs'.size)) (zs.toList.zip zs'.toList) 0 fun z hz => by
    obtain ⟨m1, m2⟩ := List.of_mem_zip (a := z.1) (b := z.2) hz
    exact ⟨h5 _ m1, h5' _ m2⟩
  exact ⟨r, PySem.W.kat_lt h1 h3 h1' h3' hr⟩
theorem ableI {a : Addr} {vs : List Value} (h0 : 0 < vs.length) (hp : ∀ v ∈ vs, TupI s.heap v) (ha : ∀ ob, s.heap.get? a = some ob → ob.cls ≠ .type "tuple") : Srt.Sortable prog w A s a vs := by
  intro g keep
  have hg : ∀ v ∈ vs, TupI g v := fun v hm => (hp v hm).stays fun b ob e c => keep b ob (fun z => by subst z; exact ha ob e c) e
  obtain ⟨fs, g1, g2, g3⟩ := firstI hg
  refine ⟨tuples' true, fun Q E hq => ?_, totI hg⟩
  refine PySem.W.kat_kind (T := .type "int") g1 (by omega) (fun f hm => ?_) (by rfl) ?_
  · obtain ⟨x, t, e⟩ := g3 f hm
    rw [e]
    exact PySem.W.Looks.now
  · have e : (Value.type "int" != Value.type "tuple") = true := by decide +kernel
    rw [e]
    exact hq
end
section
variable {X : Cx}
/-- sorted(xs), xs a list of tuples of ints: a new list of the same ones -/
def rSortedTs (K : PySem.W.Frag) : List V → Hp → VK → Prop := fun vs H Q => ∃ (a : Addr) (xs : List V), vs = [V.ref a] ∧ SqL K H a xs ∧ (∀ x ∈ xs, ∃ (t : Addr) (i : Int) (ns : List Int), x = V.ref t ∧ H t = some (.tup ((i :: ns).map V.int))) ∧
  ∀ ys p, ys.Perm xs → H p = none → Q (.ref p) (upd H p (.lst ys))
theorem ints_of : ∀ {ns : List Int} {its : List Value}, Vals (ns.map V.int) its → ∀ z ∈ its, ∃ (i : Int) (t : Tok), z = Value.int i t
  | [], [], _, z, hz => nomatch hz
  | n :: ns, u :: us, .cons r t, z, hz => by
    rcases List.mem_cons.mp hz with e | e
    · obtain ⟨tk, eu⟩ := (show ∃ t, u = Value.int n t from r)
      exact ⟨n, tk, e.trans eu⟩
    · exact ints_of t z e
theorem cr_sortedTs : CallR X (.builtin "sorted") (rSortedTs X.K) := by
  intro pins s σ H vs us Q I r h
  obtain ⟨a, xs, e0, hs, hx, q⟩ := h
  subst e0
  obtain ⟨its, rv, hl, hz⟩ := I.list hs
  obtain ⟨u, eu, ru⟩ := vals1 r
  subst eu
  obtain rfl : u = Value.ref a := ru
  obtain ⟨e1, e2⟩ := refs_back rv fun x m => by
    obtain ⟨t, _, _, e, _⟩ := hx x m
    exact ⟨t, e⟩
  have tp : ∀ v ∈ its, TupI s.heap v := fun v hv => by
    obtain ⟨t, rfl⟩ := e2 v hv
    have hm : V.ref t ∈ xs := by
      rw [e1]
      exact List.mem_map.mpr ⟨_, hv, rfl⟩
    obtain ⟨t', i, ns, e, ht⟩ := hx _ hm
    cases e
    obtain ⟨_, its2, r2, ob, h1, h2, k, h3⟩ := I.hok _ _ ht
    have ln := r2.length
    rw [List.length_map, List.length_cons] at ln
    exact ⟨t, ob, its2.toArray, k, rfl, h1, h2, h3, by rw [List.size_toArray]; omega, ints_of r2⟩
  refine Srt.sorted_any hl.isList (by rw [← rv.length]; exact hz) (fun h2 g b hb kp => ?_) fun out hp => ?_
  · refine ableI (s := { s with heap := g }) (by omega) (fun v hv => (tp v hv).stays fun c ob e _ => (kp c ob e).2) fun ob e => ?_
    have e' := e.symm.trans hb
    cases e'
    intro c
    exact absurd (Value.type.inj c) (by decide)
  · have h3 : ∀ u ∈ out, ∃ a, u = Value.ref a := fun u hu => e2 u (hp.mem_iff.mp hu)
    obtain ⟨k, hn⟩ := sortedAll_at s.heap its out.toArray
    have hn' : (sortedAll s.heap its out.toArray).get? (s.heap.objs.size + 1) = some { cls := .type "list", data := .seq out.toArray k } := hn
    refine ⟨.ref (s.heap.objs.size + 1), upd H (s.heap.objs.size + 1) (.lst (out.map backV)), I.laid (t' := s.toks) (fun c ob e => sortedAll_old e) (Nat.le_succ _) ⟨?_, out, k, vals_back h3, hn'⟩, rfl, q _ _ ?_ (I.hok.fresh (Nat.le_succ _))⟩
    · rw [List.length_map, hp.length_eq, ← rv.length]
      exact hz
    · rw [e1]
      exact hp.map backV
end
end Rl
set_option Elab.async false
set_option linter.all false
set_option maxRecDepth 100000
set_option maxHeartbeats 4000000
/-! sorted of a list or a tuple of tuples of ints, none of them empty: in the order of words. -/
namespace KS
open PySem PySem.Spec PyProof.Rows L2 Rl SrtO
def lexL : List Int → List Int → Bool
  | _, [] => false
  | [], _ :: _ => true
  | x :: xs, y :: ys => if x = y then lexL xs ys else decide (x < y)
theorem lexL_asym : ∀ a b : List Int, lexL a b = true → lexL b a = false
  | _, [], h => by simp [lexL] at h
  | [], _ :: _, _ => rfl
  | x :: xs, y :: ys, h => by
    unfold lexL at h ⊢
    by_cases c : x = y
    · rw [if_pos c] at h
      rw [if_pos c.symm]
      exact lexL_asym xs ys h
    · rw [if_neg c] at h
      rw [if_neg (Ne.symm c)]
      have := of_decide_eq_true h
      exact decide_eq_false (by omega)
theorem lexL_tr : ∀ a b c : List Int, lexL b a = false → lexL c b = false → lexL c a = false
  | [], _, c, _, _ => by cases c <;> rfl
  | a :: as, [], c, h1, _ => by simp [lexL] at h1
  | a :: as, b :: bs, [], _, h2 => by simp [lexL] at h2
  | a :: as, b :: bs, c :: cs, h1, h2 => by
    unfold lexL at h1 h2 ⊢
    by_cases e1 : b = a
    · rw [if_pos e1] at h1
      subst e1
      by_cases e2 : c = b
      · rw [if_pos e2] at h2 ⊢
        exact lexL_tr as bs cs h1 h2
      · rw [if_neg e2] at h2 ⊢
        exact h2
    · rw [if_neg e1] at h1
      have h1' := of_decide_eq_false h1
      by_cases e2 : c = b
      · subst e2
        rw [if_neg e1]
        exact h1
      · rw [if_neg e2] at h2
        have h2' := of_decide_eq_false h2
        rw [if_neg (by omega)]
        exact decide_eq_false (by omega)
def kOf (h : Heap) (v : Value) : List Int := match v with
  | .ref a => match h.get? a with
    | some o => match o.data with
      | .seq zs _ => zs.toList.map iv
      | _ => []
    | none => []
  | _ => []
/-- v is a tuple of these ints -/
def TupN (h : Heap) (v : Value) (ns : List Int) : Prop := ∃ (b : Addr) (ob : Obj) (zs : Array Value) (k : Nat), v = .ref b ∧ h.get? b = some ob ∧ ob.cls = .type "tuple" ∧ ob.data = .seq zs k ∧ IntsAre zs.toList ns
theorem TupN.stays {h g : Heap} {v : Value} {ns : List Int} (p : TupN h v ns) (st : ∀ b ob, h.get? b = some ob → ob.cls = .type "tuple" → g.get? b = some ob) : TupN g v ns := by
  obtain ⟨b, ob, zs, k, e, h1, h2, h3⟩ := p
  exact ⟨b, ob, zs, k, e, st _ _ h1 h2, h2, h3⟩
theorem TupN.key {h : Heap} {v : Value} {ns : List Int} (p : TupN h v ns) : kOf h v = ns := by
  obtain ⟨b, ob, zs, k, rfl, h1, h2, h3, h4⟩ := p
  unfold kOf
  simp only [h1, h3]
  exact iv_ints h4
theorem ints_pos : ∀ {vs : List Value} {ns : List Int}, IntsAre vs ns → vs.length = ns.length
  | _, _, .nil => rfl
  | _, _, .cons n t q => congrArg (· + 1) (ints_pos q)
theorem ints_each : ∀ {vs : List Value} {ns : List Int}, IntsAre vs ns → ∀ v ∈ vs, ∃ (i : Int) (t : Tok), v = Value.int i t
  | _, _, .nil, v, h => nomatch h
  | _, _, .cons n t q, v, h => by
    rcases List.mem_cons.mp h with e | e
    · exact ⟨n, t, e⟩
    · exact ints_each q v e
theorem TupN.tupI {h : Heap} {v : Value} {ns : List Int} (p : TupN h v ns) (n : ns ≠ []) : TupI h v := by
  obtain ⟨b, ob, zs, k, e, h1, h2, h3, h4⟩ := p
  refine ⟨b, ob, zs, k, e, h1, h2, h3, ?_, ints_each h4⟩
  have := ints_pos h4
  rw [Array.length_toList] at this
  have : ns.length ≠ 0 := fun c => n (List.eq_nil_of_length_eq_zero c)
  omega
section
variable {prog : Program} {w : World} {A : Around} {s : Shared} {b : Bool}
theorem lex_at : ∀ {us vs : List Value} {xs ys : List Int} (i : Nat), IntsAre us xs → IntsAre vs ys → PySem.W.KatLex prog w A b (decide (xs.length < ys.length)) (fun c z => z = s ∧ c = lexL xs ys) (us.zip vs) i s
  | [], _, _, _, i, .nil, q => by
    cases q with
    | nil => exact PySem.W.kat_nil ⟨rfl, rfl⟩
    | cons n t q => exact PySem.W.kat_nil ⟨rfl, rfl⟩
  | _ :: _, [], _, _, i, .cons n t p, .nil => PySem.W.kat_nil ⟨rfl, by simp [lexL]⟩
  | _ :: us, _ :: vs, _, _, i, .cons (ns := xs) x t p, .cons (ns := ys) y t2 q => by
    have r := lex_at (i + 1) p q
    have el : decide ((x :: xs).length < (y :: ys).length) = decide (xs.length < ys.length) := by simp
    rw [el]
    refine PySem.W.kat_cons (SeqAt.EqAt.int_int x t y t2 prog w _ _ ?_)
    by_cases c : x = y
    · refine PySem.W.kat_go (fun _ => PySem.W.kat_yes ?_) fun e => absurd (by rw [c] at e; simp at e) id
      have e : lexL (x :: xs) (y :: ys) = lexL xs ys := if_pos c
      rw [e]
      exact r
    · have e : lexL (x :: xs) (y :: ys) = decide (x < y) := if_neg c
      rw [e]
      refine PySem.W.kat_go (fun e => absurd (by simpa using e) c) fun _ => PySem.W.kat_no ?_
      cases hb : (b && i == 0) with
      | true => exact oneLt_int ⟨rfl, rfl⟩
      | false => exact PySem.W.kat_one _ _ (PyProof.Rows.lt_int (Q := PySem.W.BoolBack fun c z => z = s ∧ c = decide (x < y)) ⟨rfl, rfl⟩)
theorem tups_able {a : Addr} {vs : List Value} {k : Value → List Int} (h0 : 0 < vs.length) (hp : ∀ v ∈ vs, TupN s.heap v (k v) ∧ k v ≠ []) (ha : ∀ ob, s.heap.get? a = some ob → ob.cls ≠ .type "tuple") : SortableO prog w A s a vs fun v u => lexL (k v) (k u) := by
  intro g keep
  have hg : ∀ v ∈ vs, TupN g v (k v) := fun v hm => (hp v hm).1.stays fun b ob e c => keep b ob (fun z => by subst z; exact ha ob e c) e
  obtain ⟨fs, g1, g2, g3⟩ := firstI fun v hm => (hg v hm).tupI (hp v hm).2
  refine ⟨tuples' true, fun Q E hq => ?_, fun p q hm hn => ?_⟩
  · refine PySem.W.kat_kind (T := .type "int") g1 (by omega) (fun f hm => ?_) (by rfl) ?_
    · obtain ⟨x, t, e⟩ := g3 f hm
      rw [e]
      exact PySem.W.Looks.now
    · have e : (Value.type "int" != Value.type "tuple") = true := by decide +kernel
      rw [e]
      exact hq
  · show wpAny (model prog w) A (keyLt' (tuples' true) p.1 q.1) (fun r z => z = { s with heap := g } ∧ r = lexL (k p.1) (k q.1)) (fun _ _ => False) { s with heap := g }
    have i1 := hg _ hm
    have i2 := hg _ hn
    generalize k p.1 = xs at i1 ⊢
    generalize k q.1 = ys at i2 ⊢
    obtain ⟨b1, o1, z1, n1, e1, a1, c1, d1, t1⟩ := i1
    obtain ⟨b2, o2, z2, n2, e2, a2, c2, d2, t2⟩ := i2
    rw [e1, e2]
    refine PySem.W.kat_lt a1 d1 a2 d2 ?_
    have l1 := ints_pos t1
    have l2 := ints_pos t2
    rw [Array.length_toList] at l1 l2
    rw [l1, l2]
    exact lex_at 0 t1 t2
end
theorem swo_lexL (k : Value → List Int) : Swo fun v u => lexL (k v) (k u) := ⟨fun x y h => lexL_asym _ _ h, fun x y z h1 h2 => lexL_tr _ _ _ h1 h2⟩
section
variable {X : Cx}
/-- what sorted is asked: x a list or a tuple of such tuples, told with their ints -/
def rSortedW (K : PySem.W.Frag) : List V → Hp → VK → Prop := fun vs H Q => ∃ (a : Addr) (ps : List (V × List Int)), vs = [V.ref a] ∧ (SqL K H a (ps.map (·.1)) ∨ SqT K H a (ps.map (·.1))) ∧ (∀ x ∈ ps, ∃ t : Addr, x.1 = V.ref t ∧ SqT K H t (x.2.map V.int) ∧ x.2 ≠ []) ∧
  ∀ (qs : List (V × List Int)) p, qs.Perm ps → qs.Pairwise (fun x y => lexL y.2 x.2 = false) → H p = none → Q (.ref p) (upd H p (.lst (qs.map (·.1))))
theorem ints_as : ∀ {ns : List Int} {its : List Value}, Vals (ns.map V.int) its → IntsAre its ns
  | [], [], _ => .nil
  | n :: ns, u :: us, .cons r t => by
    obtain ⟨tk, eu⟩ := (show ∃ t, u = Value.int n t from r)
    rw [eu]
    exact .cons n tk (ints_as t)
theorem cr_sortedW : CallR X (.builtin "sorted") (rSortedW X.K) := by
  intro pins s σ H vs us Q I r h
  obtain ⟨a, ps, e0, hs, hx, q⟩ := h
  subst e0
  obtain ⟨u, eu, ru⟩ := vals1 r
  subst eu
  obtain rfl : u = Value.ref a := ru
  have key : ∀ {its : List Value}, Vals (ps.map (·.1)) its → (ps.map (·.1)).length ≤ sizeLine → (∀ {P : Value → Shared → Prop}, (∀ out : List Value, Srtd (fun v u => lexL (kOf s.heap v) (kOf s.heap u)) out → Stb (fun v u => lexL (kOf s.heap v) (kOf s.heap u)) out its → P (.ref (s.heap.objs.size + 1)) { s with heap := sortedAll s.heap its out.toArray }) →
      (2 ≤ its.length → ∀ (g : Heap) (a : Addr), g.get? a = some (seqObj "list" its.toArray 0) → (∀ b o, s.heap.get? b = some o → b ≠ a ∧ g.get? b = some o) → SortableO X.prog X.w X.A.in1.in1 { s with heap := g } a its (fun v u => lexL (kOf s.heap v) (kOf s.heap u))) →
      wpAny (model X.prog X.w) X.A (call (.builtin "sorted") [.ref a]) P X.xe s) → wpAny (model X.prog X.w) X.A (call (.builtin "sorted") [.ref a]) (EP X pins σ Q) X.xe s := by
    intro its rv hz go
    have each : ∀ {ps : List (V × List Int)} {its : List Value}, Vals (ps.map (·.1)) its → (∀ x ∈ ps, ∃ t : Addr, x.1 = V.ref t ∧ SqT X.K H t (x.2.map V.int) ∧ x.2 ≠ []) → (∀ v ∈ its, ∃ t, v = Value.ref t) ∧ (∀ v ∈ its, TupN s.heap v (kOf s.heap v) ∧ kOf s.heap v ≠ []) ∧ its.map (fun v => (backV v, kOf s.heap v)) = ps := by
      intro ps
      induction ps with
      | nil =>
        intro its rv _
        cases rv
        exact ⟨(fun v h => nomatch h), (fun v h => nomatch h), rfl⟩
      | cons x ps ih =>
        intro its rv hx
        obtain ⟨x1, ns⟩ := x
        obtain ⟨t, e, ht, hn⟩ := hx _ List.mem_cons_self
        have e' : x1 = V.ref t := e
        subst e'
        cases rv with
        | cons r rv =>
          rename_i v its
          obtain rfl : v = Value.ref t := r
          obtain ⟨i1, i2, i3⟩ := ih rv fun x hm => hx x (List.mem_cons_of_mem _ hm)
          obtain ⟨its2, r2, ⟨ob, h1, h2, k, h3⟩, _⟩ := I.tuple ht
          have tn : TupN s.heap (.ref t) ns := ⟨t, ob, its2.toArray, k, rfl, h1, h2, h3, ints_as r2⟩
          have kn := tn.key
          refine ⟨fun v hv => ?_, fun v hv => ?_, ?_⟩
          · rcases List.mem_cons.mp hv with e | e
            · exact ⟨t, e⟩
            · exact i1 v e
          · rcases List.mem_cons.mp hv with e | e
            · rw [e, kn]
              exact ⟨tn, hn⟩
            · exact i2 v e
          · rw [List.map_cons, i3, kn]
            rfl
    obtain ⟨e2, tp, ep⟩ := each rv hx
    refine go (fun out g1 g2 => ?_) (fun h2 g b hb kp => ?_)
    · have h3 : ∀ u ∈ out, ∃ a, u = Value.ref a := fun u hu => e2 u (g2.perm.mem_iff.mp hu)
      obtain ⟨k, hn⟩ := sortedAll_at s.heap its out.toArray
      have hn' : (sortedAll s.heap its out.toArray).get? (s.heap.objs.size + 1) = some { cls := .type "list", data := .seq out.toArray k } := hn
      have em : (out.map fun v => (backV v, kOf s.heap v)).map (·.1) = out.map backV := by rw [List.map_map]; rfl
      have qq := q (out.map fun v => (backV v, kOf s.heap v)) (s.heap.objs.size + 1) (by rw [← ep]; exact g2.perm.map _) (List.pairwise_map.mpr g1) (I.hok.fresh (Nat.le_succ _))
      rw [em] at qq
      refine ⟨.ref (s.heap.objs.size + 1), upd H (s.heap.objs.size + 1) (.lst (out.map backV)), I.laid (t' := s.toks) (fun c ob e => sortedAll_old e) (Nat.le_succ _) ⟨?_, out, k, vals_back h3, hn'⟩, rfl, qq⟩
      rw [List.length_map, g2.perm.length_eq, ← rv.length]
      exact hz
    · refine tups_able (k := kOf s.heap) (s := { s with heap := g }) (by omega) (fun v hv => ⟨(tp v hv).1.stays fun c ob e _ => (kp c ob e).2, (tp v hv).2⟩) fun ob e => ?_
      have e' := e.symm.trans hb
      cases e'
      intro c
      exact absurd (Value.type.inj c) (by decide)
  rcases hs with hs | hs
  · obtain ⟨its, rv, hl, hz⟩ := I.list hs
    exact key rv hz fun {P} fin able => sorted_ord (swo_lexL _) hl.isList (by rw [← rv.length]; exact hz) able fin
  · obtain ⟨its, rv, pt, hz⟩ := I.tuple hs
    exact key rv hz fun {P} fin able => sorted_ordT (swo_lexL _) (show s.heap.IsTuple a its.toArray from pt) (by rw [← rv.length]; exact hz) able fin
end
end KS
set_option Elab.async false
set_option linter.all false
set_option maxRecDepth 100000
set_option maxHeartbeats 4000000
/-! == and != of an object whose class has an == of its own, with anything. -/
namespace KW
open PySem L2 PySem.Spec PyProof.Rows
section
variable {prog : Program} {w : World} {A : Around} {E : Value → Shared → Prop} {s : Shared} {K : PySem.W.Frag} {x C f : Addr} {y : Value} {ox : Obj} {od : Option Obj}
theorem ne_bodyV (hu : A.units < cLine) (X : K.In s.heap) (I : PySem.W.InstAt s.heap x ox C od) (hs : PySem.W.findIn K (.ref C) "__eq__" = some (some (.ref f))) (hf : PySem.W.isFn K (.ref f) = true) {Q : Fin → Shared → Prop}
    (hq : wpAny (model prog w) A (call (.ref f) [.ref x, y]) (fun v st => ∃ b, v = .bool b ∧ Q (.done (.ret (.bool (!b)))) st) E s) : wpAny (model prog w) A (Builtin.«object.__ne__» ⟨[.ref x, y], []⟩) Q E s := by
  have ask : wpAny (model prog w) A (callSpecialIfBound? (.ref x) (Str.ofString "__eq__") [y]) (fun r st => ∃ b, r = some (.bool b) ∧ Q (.done (.ret (.bool (!b)))) st) E s :=
    PySem.W.ifBound_K X I hs hf (wpAny_mono hq (fun v st ⟨b, z1, z2⟩ => ⟨b, by rw [z1], z2⟩) fun _ _ e => e)
  obtain ⟨h, g, d, t, os⟩ := s
  unfold Builtin.«object.__ne__»
  repeat (first
    | with_reducible refine wpAny_cRoomFor hu ?_
    | (refine wpAny_bind (m := callSpecialIfBound? (.ref x) (Str.ofString "__eq__") [y]) (wpAny_mono ask (fun r st z => ?_) fun _ _ e => e))
    | wp_step)
  obtain ⟨b, z1, z2⟩ := z
  subst z1
  cases b <;> repeat (first | exact z2 | exact wpAny_pure z2 | exact wpAny_truthy_bool z2 | (refine wpAny_bind (m := truthy (.bool _)) (wpAny_truthy_bool ?_)) | wp_step)
theorem ne_tryV (hu : A.units + 1 < cLine) (X : K.In s.heap) (I : PySem.W.InstAt s.heap x ox C od) (hm : PySem.W.mroIn K C (.type "object") = some true) (hs : PySem.W.findIn K (.ref C) "__eq__" = some (some (.ref f)))
    (hn : PySem.W.findIn K (.ref C) "__ne__" = some (some (.builtin "object.__ne__"))) (hf : PySem.W.isFn K (.ref f) = true) {Q : Option Value → Shared → Prop}
    (hq : wpAny (model prog w) A.in1 (call (.ref f) [.ref x, y]) (fun v st => ∃ b, v = .bool b ∧ Q (some (.bool (!b))) st) E s) : wpAny (model prog w) A (tryCompare (.ref x) "__ne__" y) Q E s := by
  have call1 : wpAny (model prog w) A (call (.builtin "object.__ne__") [.ref x, y]) (fun v st => ∃ b, v = .bool b ∧ Q (some (.bool b)) st) E s :=
    wpAny_call (codeAny_call_builtin F.cmp_object.ne.plain F.cmpEntry_ne (PySem.W.check_slot F.cmpKind_ne F.cmpSplit_ne (I.type.andThen (PySem.W.looks_mroIn X hm)) (F.cmpArgs_ne _ _)
      (ne_bodyV (A := A.in1) (by show A.units + 1 < cLine; exact hu) X I hs hf (wpAny_mono hq (fun v st ⟨b, z1, z2⟩ => ⟨b, z1, _, rfl, z2⟩) fun _ _ e => e))))
  have bound : wpAny (model prog w) A (callSpecialIfBound? (.ref x) (Str.ofString "__ne__") [y]) (fun r st => ∃ b, r = some (.bool b) ∧ Q (some (.bool b)) st) E s := by
    simp only [callSpecialIfBound?, bindSpecialIfBound?]
    refine wpAny_holding (wpAny_bind (wpAny_bind (wpAny_bind (I.type.here ((PySem.W.looks_findIn X hn).here ?_)))))
    refine wpAny_bind (wpAny_askSetting (wpAny_ite ?_))
    have fin : wpAny (model prog w) A (call (.builtin "object.__ne__") ([.ref x] ++ [y]) >>= fun v => pure (some v)) (fun r st => ∃ b, r = some (.bool b) ∧ Q (some (.bool b)) st) E s :=
      wpAny_bind (wpAny_mono call1 (fun v st ⟨b, z1, z2⟩ => wpAny_pure ⟨b, by rw [z1], z2⟩) fun _ _ e => e)
    split
    · exact wpAny_bind (wpAny_of_eq (F.cmp_object.ne.bind _) (wpAny_pure (by exact fin)))
    · exact wpAny_tryCatch (wpAny_bind (wpAny_of_eq (F.cmp_object.ne.bind _) (wpAny_pure (by exact fin))))
  unfold tryCompare
  refine wpAny_bind (wpAny_mono bound (fun r st z => ?_) fun _ _ e => e)
  obtain ⟨b, z1, z2⟩ := z
  subst z1
  exact wpAny_pure z2
end
/-- what is asked of == (neg: of !=): the own == is a def that answers with a flag -/
def rO (K : PySem.W.Frag) (C : Addr) (sp : Sp) (neg : Bool) : R2 := fun x y H Q => ∃ a dx fs u, x = .ref a ∧ H a = some (.ins C dx fs) ∧ TyX K H y u ∧ PySem.W.notFirst K C u = true ∧ sp [x, y] H (fun v H' => ∃ b, v = .bl b ∧ Q (.bl (if neg then !b else b)) H') E0
section
variable {X : Cx} {n : Nat} {C f : Addr} {fd : FuncData} {ps : List Str} {sp : Sp}
theorem own_call (F : KG.FnG X.prog X.w X.K X.mg X.base n f fd ps sp) {A : Around} (hgd : A.guards = some []) (hr : Room n A) (hb : Binds X.K fd ps []) {pins : List (Addr × Obj)} {s : Shared} {σ : L2.St} {H : Hp} {a : Addr} {y : V} {u : Value} (I : Inv X pins σ H s) (e0 : Env0 X.prog X.w X.K X.mg X.base A X.stack s H) (ry : RelV y u) {T : Bool → Hp → Prop} (h : sp [.ref a, y] H (fun v H' => ∃ b, v = .bl b ∧ T b H') E0) :
    wpAny (model X.prog X.w) A (call (.ref f) [.ref a, u]) (fun v st => ∃ b, v = .bool b ∧ ∃ H', Inv X pins σ H' st ∧ T b H') X.xe s := by
  have hl := F.many _ _ _ _ h
  have r2 : Vals [V.ref a, y] [Value.ref a, u] := .cons rfl (.cons ry .nil)
  have bd : BindsTo s fd ⟨[.ref a, u], []⟩ (ps.zip [.ref a, u]) := by
    have := hb s [.ref a, u] I.kIn (by simpa using hl)
    simpa using this
  refine wpAny_call (codeAny_mono (F.go A X.stack s H ⟨[.ref a, u], []⟩ [.ref a, u] [.ref a, y] _ E0 hgd hr e0 bd r2 h) ?_)
  intro z s2 hz
  match z, hz with
  | .error e, hz => exact pass0 pins σ H s e s2 I hz
  | .ok .next, hz => exact False.elim hz
  | .ok .brk, hz => exact False.elim hz
  | .ok .cont, hz => exact False.elim hz
  | .ok (.ret v), hz =>
    obtain ⟨v', H', I', rz, b, ez, t⟩ := I.after hz
    subst ez
    cases rz
    exact ⟨b, rfl, H', I', t⟩
theorem op_eqO (F : KG.FnG X.prog X.w X.K X.mg X.base n f fd ps sp) (hgd : X.A.guards = some []) (hs : PySem.W.findIn X.K (.ref C) "__eq__" = some (some (.ref f))) (hf : PySem.W.isFn X.K (.ref f) = true) (hb : Binds X.K fd ps []) (hr : Room n X.A) : OpR X (compareOp .Eq) (rO X.K C sp false) := by
  intro pins s σ H x y v u Q I rx ry h
  obtain ⟨a, dx, fs, t, rfl, ha, ty, nf, h⟩ := h
  cases rx
  obtain ⟨_, J, _⟩ := ins_get I.hok ha
  obtain ⟨od, J, _⟩ := J.look
  obtain ⟨m, hF⟩ := I.fr
  obtain ⟨Pk, kx, pk, _⟩ := kit_of I ry ty
  show wpAny (model X.prog X.w) X.A (richCompare .Eq (.ref a) u) (EP X pins σ Q) X.xe s
  refine PySem.W.cmp_K (op := .Eq) (tb := t) hr.units0 hF I.ok.mod.kin J (kx.ty _ _ I.kIn pk) nf hs hf ?_
  refine wpAny_mono (own_call (T := fun b H' => Q (.bl b) H') F hgd hr hb I I.env0 ry h) (fun r st z => ?_) fun _ _ e => e
  obtain ⟨b, rfl, H', I', q⟩ := z
  exact ⟨.bl b, H', I', rfl, q⟩
theorem op_neO (F : KG.FnG X.prog X.w X.K X.mg X.base n f fd ps sp) (hgd : X.A.guards = some []) (hm : PySem.W.mroIn X.K C (.type "object") = some true) (hs : PySem.W.findIn X.K (.ref C) "__eq__" = some (some (.ref f)))
    (hn : PySem.W.findIn X.K (.ref C) "__ne__" = some (some (.builtin "object.__ne__"))) (hf : PySem.W.isFn X.K (.ref f) = true) (hb : Binds X.K fd ps []) (hr : Room (n + 1) X.A) : OpR X (compareOp .NotEq) (rO X.K C sp true) := by
  intro pins s σ H x y v u Q I rx ry h
  obtain ⟨a, dx, fs, t, rfl, ha, ty, nf, h⟩ := h
  cases rx
  obtain ⟨_, J, _⟩ := ins_get I.hok ha
  obtain ⟨od, J, _⟩ := J.look
  obtain ⟨Pk, kx, pk, _⟩ := kit_of I ry ty
  have hu1 : X.A.units + 1 < cLine := by
    have := hr.un
    omega
  have try1 : wpAny (model X.prog X.w) X.A (tryCompare (.ref a) (cmpInfo .NotEq).2.1 u) (fun r st => ∃ b, r = some (.bool (!b)) ∧ ∃ H', Inv X pins σ H' st ∧ Q (.bl (!b)) H') X.xe s :=
    ne_tryV hu1 I.kIn J hm hs hn hf (wpAny_mono (own_call (T := fun b H' => Q (.bl (!b)) H') F (A := X.A.in1) hgd hr.in1 hb I I.env0.in1 ry h) (fun v st ⟨b, z1, z2⟩ => ⟨b, z1, b, rfl, z2⟩) fun _ _ e => e)
  have fin : wpAny (model X.prog X.w) X.A (richCompare .NotEq (.ref a) u) (EP X pins σ Q) X.xe s := by
    unfold richCompare
    simp only [oneThing_ref]
    refine wpAny_holding (wpAny_bind (wpAny_cRoomFor (Nat.lt_of_succ_lt hu1) ?_))
    refine wpAny_bind (J.type.here (wpAny_bind ((kx.ty _ _ I.kIn pk).here ?_)))
    have sub : ¬ t = .ref C → PySem.W.subIn X.K t (.ref C) = some false := fun q => by
      rcases Bool.or_eq_true_iff.mp nf with e | e
      · exact absurd (beq_iff_eq.mp e) q
      · exact beq_iff_eq.mp e
    split
    · rename_i q
      refine wpAny_bind ((PySem.W.looks_subIn I.kIn (sub fun e => by rw [e] at q; simp at q)).here ?_)
      simp only [Bool.false_eq_true, if_false]
      refine wpAny_bind (wpAny_mono try1 (fun r st z => ?_) fun _ _ e => e)
      obtain ⟨b, rfl, H', I', q⟩ := z
      exact wpAny_pure ⟨.bl (!b), H', I', rfl, q⟩
    · refine wpAny_bind (wpAny_pure ?_)
      simp only [Bool.false_eq_true, if_false]
      refine wpAny_bind (wpAny_mono try1 (fun r st z => ?_) fun _ _ e => e)
      obtain ⟨b, rfl, H', I', q⟩ := z
      exact wpAny_pure ⟨.bl (!b), H', I', rfl, q⟩
  unfold compareOp
  exact fin
end
end KW
set_option Elab.async false
set_option linter.all false
set_option maxRecDepth 100000
set_option maxHeartbeats 4000000
/-! Tuples that are kept whole from their making on. -/
namespace KT
open PySem PySem.Spec PyProof.Rows L2
/-- a tuple of which it is known that it has no dict of its own -/
def Tt (K : PySem.W.Frag) (F : Hp) (a : Addr) (vs : List V) : Prop := (∃ o, F a = some (.frz o (.tup vs)) ∧ o.dict = none) ∨ (SqT K F a vs ∧ ∃ o, K.lookup a = some o ∧ o.cls = .type "tuple" ∧ o.dict = none)
theorem Tt.sq {K : PySem.W.Frag} {F : Hp} {a : Addr} {vs : List V} (h : Tt K F a vs) : SqT K F a vs := h.elim (fun ⟨o, e, _⟩ => .inl (.inr ⟨o, e⟩)) (·.1)
theorem Tt.ex {K : PySem.W.Frag} {F F' : Hp} {a : Addr} {vs : List V} (e : Evl.Ex F F') (h : Tt K F a vs) : Tt K F' a vs := h.imp (fun ⟨o, h, d⟩ => ⟨o, e _ _ h, d⟩) fun ⟨h, q⟩ => ⟨Evl.ex_t e h, q⟩
theorem Tt.of {K : PySem.W.Frag} {F : Hp} {a : Addr} {vs : List V} {o : Obj} (h : F a = some (.frz o (.tup vs))) (d : o.dict = none) : Tt K F a vs := .inl ⟨o, h, d⟩
section
variable {X : Cx} {pins : List (Addr × Obj)} {σ : L2.St} {H : Hp} {s : Shared}
/-- a new tuple at the end of the heap, told whole -/
theorem laidT {h1 : Heap} {tk : Nat} {its : Array Value} {xs : List V} (J : Inv X pins σ H { s with heap := h1, toks := tk }) (r : Vals xs its.toList) (z : xs.length ≤ sizeLine) :
    Inv X pins σ (upd H h1.objs.size (.frz { cls := .type "tuple", data := .seq its } (.tup xs))) { s with heap := h1.push { cls := .type "tuple", data := .seq its }, toks := tk } := by
  have here := Heap.get?_push_size h1 (o := { cls := .type "tuple", data := .seq its }) rfl
  exact J.laid (t' := tk) (fun _ _ e => Heap.get?_push_of_some _ e) (Nat.le_refl _) ⟨here, z, its.toList, r, by rw [Array.toArray_toList]; exact IsTup.new _ _⟩
end
section
variable {X : Cx}
def tTupF (t : TA) : TE := fun σ H Q => t σ H fun xs H1 => xs.length ≤ sizeLine ∧ ∀ p o, H1 p = none → o.dict = none → Q (.ref p) (upd H1 p (.frz o (.tup xs)))
theorem pe_tupF {es : List Expr} {t : TA} {k : Nat} {pos : Pos} (he : PA X es t) : PE X (.Tuple es k pos) (tTupF t) :=
  ⟨fun pins s σ H Q J q => wpAny_Tuple_spliced (thn (he.run pos pins s σ H _ J q) fun us s1 ⟨xs, G, J1, r, z, q1⟩ =>
    ⟨by rw [← r.length]; exact z, .ref s1.heap.objs.size, _, laidT (h1 := s1.heap) (tk := s1.toks) (its := us.toArray) J1 (by simpa using r) z, rfl, q1 _ _ (J1.hok.fresh (Nat.le_refl _)) rfl⟩)⟩
def tRgF (te : L2.St → Hp → (Int → Int → Hp → Prop) → Prop) : TE := fun σ H Q => te σ H fun a b G => RgOk a b ∧ ∀ q o, G q = none → o.dict = none → Q (.ref q) (upd G q (.frz o (.tup (rgV a b))))
theorem pe_rgF {e : Expr} {te : L2.St → Hp → (Int → Int → Hp → Prop) → Prop} {p pos : Pos} (calm : X.calm = true) (gl : Gl X "tuple") (mg : X.mg "tuple" = none) (he : PRg X e te) (na : starEach [e] X.env = (false, eval e X.env) :: starEach [] X.env := by rfl) : PE X (.Call (.Name "tuple" p) [e] [] pos) (tRgF te) := by
  constructor
  intro pins s σ H Q J q
  refine Call_ (ld_blt J gl mg boot_tuple (PyProof.Rows.callWith_type1 (args_cons (thn (he pins s σ H _ J q) fun x s1 ⟨r, a, b, t, u, v, G, ex, hr, J1, ok, q1⟩ => args_nil ?_) na) na))
  subst ex
  obtain ⟨c1, c2, c3, c4, c5⟩ := ok
  refine call_tuple_range (n := (b - a).toNat) (J1.ok.hd calm) hr (small_one c1 c2 c3 c4) (rangeSize_nat a b) c5 fun h2 tk acc kp hi => ?_
  have J2 : Inv X pins σ G { s1 with heap := h2, toks := tk } := J1.kept kp
  have r : Vals (rgV a b) acc.toList := vals_rg hi
  exact ⟨.ref h2.objs.size, _, laidT J2 r (by rw [rgV_length, sizeLine_eq]; omega), rfl, q1 _ _ (J2.hok.fresh (Nat.le_refl _)) rfl⟩
def tRevF (K : PySem.W.Frag) (te : TE) : TE := fun σ H Q => te σ H fun x H1 => ∃ a xs, x = .ref a ∧ SqT K H1 a xs ∧ ∀ p o, H1 p = none → o.dict = none → Q (.ref p) (upd H1 p (.frz o (.tup xs.reverse)))
theorem pe_revF {e : Expr} {te : TE} {k : Nat} {p1 p2 p3 pos : Pos} (he : PE X e te) : PE X (.Subscript e (.Slice none none (some (.UnaryOp .USub (.Constant (.int 1) k p1) p2)) p3) pos) (tRevF X.K te) := by
  constructor
  intro pins s σ H Q J q
  refine Subscript_ (thn (he.run pins s σ H _ J q) fun v s1 ⟨x, H1, I1, r1, q1⟩ => ?_)
  obtain ⟨a, xs, ex, hx, q1⟩ := q1
  subst ex
  cases r1
  have hst : PO X (some (.UnaryOp .USub (.Constant (.int 1) k p1) p2)) (tPart (tUn (rU fun i => .int (-i)) (tC (.int 1)))) := po_some (pe_un un_neg pe_int)
  refine wpAny_Slice (thn (po_none.run pins s1 σ H1 (fun o H2 => o = none ∧ H2 = H1) I1 ⟨rfl, rfl⟩) fun vl s2 ⟨l, H2, I2, pl, el, e2⟩ => ?_)
  subst el e2
  refine thn (po_none.run pins s2 σ H2 (fun o H3 => o = none ∧ H3 = H2) I2 ⟨rfl, rfl⟩) fun vu s3 ⟨u, H3, I3, pu, eu, e3⟩ => ?_
  subst eu e3
  refine thn (hst.run pins s3 σ H3 (fun o H4 => o = some (-1) ∧ H4 = H3) I3 ⟨1, rfl, -1, rfl, rfl, rfl⟩) fun vs s4 ⟨o, H4, I4, ps, eo, e4⟩ => ?_
  subst eo e4
  have I5 : Inv X pins σ H4 { s4 with heap := s4.heap.push { cls := .type "slice", data := .fields #[vl, vu, vs] } } := I4.kept (t' := s4.toks) fun b ob q => Heap.get?_push_of_some _ q
  obtain ⟨its, r, ht, hz⟩ := I5.tuple hx
  have hlen := r.length
  show wpAny (model X.prog X.w) X.A (subscriptTail e (.Slice none none (some (.UnaryOp .USub (.Constant (.int 1) k p1) p2)) p3) (.ref a) (.ref s4.heap.objs.size)) (EP X pins σ Q) X.xe { s4 with heap := s4.heap.push { cls := .type "slice", data := .fields #[vl, vu, vs] } }
  refine tail_any (ops := [.ref a, .ref s4.heap.objs.size]) ht.typeIs PyProof.Rows.slot_tuple_getitem.lookup ?_ (by with_unfolding_all rfl)
  refine KR.getItem_tuple_rev ht (Heap.IsSliceOf.new _ vl vu vs) pl pu ps ?_ (by rw [List.size_toArray]; omega)
  exact ⟨.ref _, _, laidT (h1 := s4.heap.push { cls := .type "slice", data := .fields #[vl, vu, vs] }) (tk := s4.toks) I5 (by simpa using r.reverse) (by rw [List.length_reverse]; exact hz), rfl, q1 _ _ (I5.hok.fresh (Nat.le_refl _)) rfl⟩
end
section
variable {X : Cx}
/-- t[lo:hi]: t itself, or a new one told whole -/
def rSlF (K : PySem.W.Frag) : V → Option Int → Option Int → Hp → VK → Prop := fun x lo hi H Q => ∃ a xs, x = .ref a ∧ SqT K H a xs ∧
  (HT.sIx xs.length 0 lo = 0 ∧ HT.sIx xs.length xs.length hi = xs.length → Q (.ref a) H) ∧ (¬ (HT.sIx xs.length 0 lo = 0 ∧ HT.sIx xs.length xs.length hi = xs.length) → ∀ p o, H p = none → o.dict = none → Q (.ref p) (upd H p (.frz o (.tup (cutV xs lo hi)))))
theorem sl_F : SlR X (rSlF X.K) := by
  intro pins s σ H x v vl vu lo hi sl Q J rx hs pl pu ⟨a, xs, ex, hx, q1, q2⟩
  by_cases whole : HT.sIx xs.length 0 lo = 0 ∧ HT.sIx xs.length xs.length hi = xs.length
  · exact sl_tupA pins s σ H x v vl vu lo hi sl Q J rx hs pl pu ⟨a, xs, ex, hx, q1, fun n => absurd whole n⟩
  · subst ex
    obtain rfl : v = Value.ref a := rx
    obtain ⟨its, r, ht, hz⟩ := J.tuple hx
    have ln : its.toArray.size = xs.length := by rw [List.size_toArray]; exact r.length.symm
    refine ⟨"tuple", _, PyProof.Rows.slot_tuple_getitem.lookup, ht.typeIs, HT.getItem_tuple_cut ht hs pl pu (by rw [ln]; exact whole) ?_ (by rw [ln]; exact hz)⟩
    rw [ln]
    have rc : Vals (cutV xs lo hi) (((its.drop (HT.sIx xs.length 0 lo)).take (HT.sIx xs.length xs.length hi - HT.sIx xs.length 0 lo))) := (r.drop _).take _
    exact ⟨.ref s.heap.objs.size, _, laidT (h1 := s.heap) (tk := s.toks) J (by simpa using rc) (Nat.le_trans (cutV_length xs lo hi) hz), rfl, q2 whole _ _ (J.hok.fresh (Nat.le_refl _)) rfl⟩
/-- t * k -/
def rRepF (K : PySem.W.Frag) : R2 := fun x y H Q => ∃ l k xs, x = .ref l ∧ y = .int k ∧ SqT K H l xs ∧ -1000 ≤ k ∧ k ≤ 1000 ∧ xs.length ≤ 1000 ∧ (xs = [] ∨ k = 1 → Q (.ref l) H) ∧ (¬ (xs = [] ∨ k = 1) → ∀ p o, H p = none → o.dict = none → Q (.ref p) (upd H p (.frz o (.tup (List.replicate k.toNat xs).flatten))))
theorem op_repF : OpR X (binaryOp .Mult) (rRepF X.K) := by
  intro pins s σ H x y v u Q J rx ry ⟨l, k, xs, ex, ey, hT, h1, h2, hz, qs, qn⟩
  by_cases same : xs = [] ∨ k = 1
  · exact KZ.op_repA pins s σ H x y v u Q J rx ry ⟨l, k, xs, ex, ey, hT, h1, h2, hz, qs, fun n => absurd same n⟩
  have qn := qn same
  subst ex ey
  obtain rfl : v = Value.ref l := rx
  obtain ⟨t, rfl⟩ := ry
  obtain ⟨its, r, ⟨⟨cls, dd, data, sl⟩, ho, hc, n, hd⟩, hs⟩ := J.tuple hT
  simp only at hc hd
  subst hc hd
  have le : its.length = xs.length := r.length.symm
  have hi : its.toArray.isEmpty = false := by
    cases its with
    | nil => exact absurd (.inl (List.eq_nil_of_length_eq_zero le.symm)) same
    | cons a b => rfl
  have k1 : (its.toArray.isEmpty || k == 1) = false := by
    rw [hi, Bool.false_or]
    exact beq_eq_false_iff_ne.mpr fun e => same (.inr e)
  have k0 : (decide (k < -(2 ^ 63)) || decide (k ≥ 2 ^ 63)) = false := by
    rw [decide_eq_false (by omega), decide_eq_false (by omega)] <;> rfl
  by_cases pos : k ≤ 0
  · have k2 : (decide (k ≤ 0) || its.toArray.isEmpty) = true := by rw [decide_eq_true pos]; rfl
    refine wpAny_binaryOp_repeat_ref (T := "tuple") (U := "int") (by decide) ⟨_, ho, rfl⟩ (fun s' => typeIs_int s' k t) noFill_tuple_mul F.fills_int_mul F.slot_int_rmul repeat_tuple F.slot_int_index.lookup
      (call_meets F.slot_int_rmul (typeIs_int s k t) F.entry_int_rmul (F.args_int_rmul_2 _ _) (int_rmul_tuple k t l its.toArray n dd sl)
        ⟨ho, rfl, ⟨_, ho, rfl⟩, call_meets F.slot_tuple_mul ⟨_, ho, rfl⟩ F.entry_tuple_mul (F.args_tuple_mul_2 _ _) (KZ.tuple_mul0 l its.toArray n sl dd k t k0 k1 k2) ⟨ho, ?_⟩⟩)
    have e0 : k.toNat = 0 := by omega
    rw [e0] at qn
    exact ⟨.ref s.heap.objs.size, _, laidT (h1 := s.heap) (tk := s.toks) (its := #[]) J .nil (by rw [sizeLine_eq]; exact Nat.zero_le _), rfl, qn _ _ (J.hok.fresh (Nat.le_refl _)) rfl⟩
  · have sz : its.toArray.size = xs.length := by rw [List.size_toArray, le]
    have small : (List.replicate k.toNat its).flatten.length ≤ 1000000 := by
      rw [PyProof.Rows.lm_len_rep_flat, le]
      exact Nat.le_trans (Nat.mul_le_mul (show k.toNat ≤ 1000 by omega) hz) (by decide)
    have small2 : ((its.toArray.size : Nat) : Int) * k ≤ 1000000 := by
      rw [sz]
      have : ((xs.length : Nat) : Int) * k ≤ 1000 * k := Int.mul_le_mul_of_nonneg_right (by omega) (by omega)
      omega
    have k2 : (decide (k ≤ 0) || its.toArray.isEmpty) = false := by
      rw [hi, Bool.or_false]
      exact decide_eq_false pos
    have k4 : Builtin.Tuple.tupleTooMany (((its.toArray.size : Nat) : Int) * k) = false := by
      unfold Builtin.Tuple.tupleTooMany
      rw [sizeLine_eq]
      exact decide_eq_false (by omega)
    have fit : (List.replicate k.toNat its).flatten.length ≤ sizeLine := Nat.le_trans small (by decide)
    refine wpAny_binaryOp_repeat_ref (T := "tuple") (U := "int") (by decide) ⟨_, ho, rfl⟩ (fun s' => typeIs_int s' k t) noFill_tuple_mul F.fills_int_mul F.slot_int_rmul repeat_tuple F.slot_int_index.lookup
      (call_meets F.slot_int_rmul (typeIs_int s k t) F.entry_int_rmul (F.args_int_rmul_2 _ _) (int_rmul_tuple k t l its.toArray n dd sl)
        ⟨ho, rfl, ⟨_, ho, rfl⟩, call_meets F.slot_tuple_mul ⟨_, ho, rfl⟩ F.entry_tuple_mul (F.args_tuple_mul_2 _ _) (tuple_mulW l its.toArray n dd sl k t k0 k1 k2 (by omega) k4 (by rw [size_rep, List.size_toArray]; exact fit)) ⟨ho, ?_⟩⟩)
    rw [size_rep]
    refine ⟨.ref s.heap.objs.size, _, laidT (h1 := s.heap) (tk := s.toks) (its := (List.replicate k.toNat its).flatten.toArray) J (by simpa using r.rep k.toNat) ?_, rfl, qn _ _ (J.hok.fresh (Nat.le_refl _)) rfl⟩
    have := (r.rep k.toNat).length
    rw [this]
    exact fit
/-- t + u -/
def rCatS (K : PySem.W.Frag) : R2 := fun x y H Q => ∃ a b xs ys, x = .ref a ∧ y = .ref b ∧ SqT K H a xs ∧ SqT K H b ys ∧ xs.length + ys.length ≤ sizeLine ∧
  (xs = [] → Q (.ref b) H) ∧ (xs ≠ [] → ys = [] → Q (.ref a) H) ∧ (xs ≠ [] → ys ≠ [] → ∀ p o, H p = none → o.dict = none → Q (.ref p) (upd H p (.frz o (.tup (xs ++ ys)))))
theorem op_catS : OpR X (binaryOp .Add) (rCatS X.K) := by
  intro pins s σ H x y v u Q J rx ry ⟨a, b, xs, ys, ex, ey, ha, hb, hz, q0, q1, q2⟩
  by_cases hx : xs = []
  · exact op_catA pins s σ H x y v u Q J rx ry ⟨a, b, xs, ys, ex, ey, ha, hb, hz, q0, q1, fun n => absurd hx n⟩
  by_cases hy : ys = []
  · exact op_catA pins s σ H x y v u Q J rx ry ⟨a, b, xs, ys, ex, ey, ha, hb, hz, q0, q1, fun _ n => absurd hy n⟩
  · exact KR.op_catF pins s σ H x y v u Q J rx ry ⟨a, b, xs, ys, ex, ey, ha, hb, hz, hx, hy, q2 hx hy⟩
/-- tuple(list), tuple(tuple) -/
def rTupA (K : PySem.W.Frag) : List V → Hp → VK → Prop := fun xs H Q => ∃ p ys, xs = [.ref p] ∧ ((SqL K H p ys ∧ ∀ l o, H l = none → o.dict = none → Q (.ref l) (upd H l (.frz o (.tup ys)))) ∨ (SqT K H p ys ∧ Q (.ref p) H))
theorem call_tupA : CallR X (.type "tuple") (rTupA X.K) := by
  intro pins s σ H xs us Q J r ⟨p, ys, ex, h⟩
  rcases h with ⟨h, q⟩ | ⟨h, q⟩
  · exact Rl.call_tupF pins s σ H xs us Q J r ⟨p, ys, ex, h, q⟩
  · exact call_tuple_of pins s σ H xs us Q J r ⟨p, ys, ex, .inr ⟨h, q⟩⟩
/-! ### a method of a tuple -/
def TyT (K : PySem.W.Frag) (x : V) (H : Hp) : Prop := ∃ p ys, x = .ref p ∧ Tt K H p ys
theorem TyT.is {pins : List (Addr × Obj)} {σ : L2.St} {H : Hp} {s : Shared} {x : V} {v : Value} (J : Inv X pins σ H s) (r : RelV x v) (ty : TyT X.K x H) : s.TypeIs v "tuple" ∧ ∀ a, v = .ref a → ∃ ob, s.heap.get? a = some ob ∧ ob.dict = none := by
  obtain ⟨p, ys, rfl, h⟩ := ty
  obtain rfl : v = Value.ref p := r
  rcases h with ⟨o, ho, hd⟩ | ⟨sq, o, lk, hc, hd⟩
  · obtain ⟨its, _, pt, _⟩ := J.tuple (show SqT X.K H p ys from .inl (.inr ⟨o, ho⟩))
    refine ⟨?_, fun a ea => ?_⟩
    · obtain ⟨o2, e2, c2, _⟩ := pt
      exact ⟨o2, e2, c2⟩
    · cases ea
      exact ⟨o, (J.hok p _ ho).1, hd⟩
  · have := J.kIn p o lk
    exact ⟨⟨o, this, hc⟩, fun a ea => by cases ea; exact ⟨o, this, hd⟩⟩
def tMt (K : PySem.W.Frag) (r : V → List V → Hp → VK → Prop) (to : TE) (t : TA) : TE := fun σ H Q => to σ H fun x H1 => TyT K x H1 ∧ t σ H1 fun xs H2 => r x xs H2 Q
theorem pe_mt {o e : Expr} {es : List Expr} {to : TE} {t : TA} {name : Str} {apos cpos : Pos} {id : String} {r : V → List V → Hp → VK → Prop} (slot : Slot "tuple" name id) (hty : typeOf (.builtin id) = pure (.type "method_descriptor")) (hm : MtR X id r) (ho : PE X o to) (ha : PA X (e :: es) t)
    (hbase : attributeBase o name X.env (eval o X.env) = eval o X.env := by rfl)
    (hfew : ((backTo cpos (starEach (e :: es) X.env)).all (fun z => !z.1) && (backToKw cpos (keywordEach [] X.env)).all (fun z => z.1.isSome) && decide ((e :: es).length + ([] : List Keyword).length + (if ([] : List Keyword).isEmpty then 0 else 1) < 30)) = true := by rfl)
    (hline : (apos.endLine == cpos.line) = true := by rfl) (hs : starEach (e :: es) X.env = (false, eval e X.env) :: starEach es X.env := by rfl) (hpl : (backTo cpos (starEach es X.env)).any (·.1) = false := by rfl) :
    PE X (.Call (.Attribute o name apos) (e :: es) [] cpos) (tMt X.K r to t) := by
  constructor
  intro pins s σ H Q J hy
  refine wpAny_Call_method_late hbase hfew hline rfl (thn (ho.run pins s σ H _ J hy) fun v s1 ⟨x, H1, J1, r1, ty, q1⟩ => ?_)
  obtain ⟨hT, hd⟩ := ty.is J1 r1
  refine ⟨"tuple", id, PySem.F.plainAttrs_tuple, slot, hty, hT, hd, ?_⟩
  have hA := ha.run cpos pins s1 σ H1 _ J1 q1
  rw [hs] at hA ⊢
  refine Calls.callWith_builtin (by show (false || (backTo cpos (starEach es X.env)).any (·.1)) = false; rw [hpl] <;> rfl) (Calls.evalArgs_plain ?_)
  exact thn hA fun us s2 ⟨vs, H2, J2, r2, q2⟩ => hm pins s2 σ H2 x vs v us Q J2 r1 r2 q2
end
/-! ### what class a thing is of, by what the library's rules ask -/
def TyS (K : PySem.W.Frag) (H : Hp) (x : V) (t : Value) : Prop := ∀ (X : Cx) (pins : List (Addr × Obj)) (σ : L2.St) (s : Shared) (u : Value), X.K = K → Inv X pins σ H s → RelV x u →
  ∃ P : Heap → Prop, PySem.W.KitX K u t P ∧ P s.heap ∧ u ≠ .builtin "__main__.__loader__#opaque"
theorem TyS.of {K : PySem.W.Frag} {H : Hp} {x : V} {t : Value} (h : TyX K H x t) : TyS K H x t := fun X pins σ s u e I r => by
  subst e
  exact kit_of I r h
theorem TyS.dT {K : PySem.W.Frag} {H : Hp} {a : Addr} {o : Obj} {kvs : List (List Key × V)} (h : H a = some (.frz o (.dT kvs))) : TyS K H (.ref a) (.type "dict") := fun X pins σ s u e I r => by
  obtain rfl : u = Value.ref a := r
  obtain ⟨_, _, _, vs, _, ob, es, ep, h1, h2, _⟩ := (show ObjOk X.prog X.w H s.heap a (.frz o (.dT kvs)) from I.hok a _ h)
  exact ⟨_, PySem.W.kitx_dict, ⟨ob, h1, h2.1⟩, fun z => nomatch z⟩
def rIsS (K : PySem.W.Frag) : List V → Hp → VK → Prop := fun xs H Q => ∃ (x c : V) (t u : Value) (b : Bool), xs = [x, c] ∧ ClsV c u ∧ TyS K H x t ∧ PySem.W.kitOne K t u = some b ∧ Q (.bl b) H
def rIsTS (K : PySem.W.Frag) : List V → Hp → VK → Prop := fun xs H Q => ∃ (x : V) (tp : Addr) (cs : List V) (t : Value) (us : List Value) (b : Bool), xs = [x, .ref tp] ∧ H tp = some (.tup cs) ∧ Paired ClsV cs us ∧ TyS K H x t ∧ PySem.W.kitAny K t us = some b ∧ Q (.bl b) H
section
variable {X : Cx}
theorem call_isS : CallR X (.builtin "isinstance") (rIsS X.K) := fun pins s σ H xs us Q J r ⟨x, c, t, u, b, ex, k, ty, e, q⟩ => by
  subst ex
  obtain ⟨u1, u2, rfl, r1, r2⟩ := vals2 r
  obtain rfl := k.eq r2
  obtain ⟨P, Z, p, hx⟩ := ty X pins σ s u1 rfl J r1
  exact PySem.W.kia_one Z J.kIn p e hx fun tk => ⟨.bl b, H, J.tok tk, rfl, q⟩
theorem call_isTS : CallR X (.builtin "isinstance") (rIsTS X.K) := fun pins s σ H xs us Q J r ⟨x, tp, cs, t, ws, b, ex, hT, k, ty, e, q⟩ => by
  subst ex
  obtain ⟨u1, u2, rfl, r1, r2⟩ := vals2 r
  obtain rfl : u2 = Value.ref tp := r2
  obtain ⟨P, Z, p, hx⟩ := ty X pins σ s u1 rfl J r1
  obtain ⟨_, its, rv, ⟨oc, od, dt, sl⟩, h1, h2, n, h3⟩ := (show ObjOk X.prog X.w H s.heap tp (.tup cs) from J.hok tp _ hT)
  simp only at h2 h3
  obtain rfl := ClsV.all k rv
  subst h2 h3
  exact PySem.W.kia_tup Z J.kIn p h1 e hx fun tk => ⟨.bl b, H, J.tok tk, rfl, q⟩
end
end KT
set_option Elab.async false
set_option linter.all false
set_option maxRecDepth 100000
set_option maxHeartbeats 4000000
/-! Data, and how values stand for it. -/
namespace FE
open PySem L2 KT
open Evl (Ex)
/-- data: what a value stands for -/
inductive D where
  | non | bl (b : Bool) | int (i : Int) | str (s : Str)
  | lst (l : List D) | tup (l : List D) | dic (ks vs : List D) | obj (c : Str) (ns : List Str) (fs : List D)
  | dik (ks : List Key) (vs : List D) | dit (ks : List (List Key)) (vs : List D) | cod (x : Str)
/-- the program's classes: where they stand, which there are -/
structure Cm where
  ad : Str → Addr
  cls : List Str
  exs : List Str
  tb : List (Addr × Str)
  fn : Str → Option Addr := fun _ => none
/-- what is known of a class of the program -/
structure CF (K : PySem.W.Frag) (cm : Cm) (c : Str) : Prop where
  cl : Cls K (cm.ad c)
  ic : PySem.W.findIn K (.ref (cm.ad c)) "__class__" = some (some (.builtin "object.__class__"))
  ia : PySem.W.specialIn K (.builtin "object.__class__") "__get__" = some (some (.builtin "getset_descriptor.__get__"))
  ib : PySem.W.takesIn K (.builtin "object.__class__") = some true
  im : PySem.W.mroIn K (cm.ad c) (.type "object") = some true
  kt : ∀ n ∈ ["int", "bool", "str", "tuple", "list", "dict"], PySem.W.kitOne K (.ref (cm.ad c)) (.type n) = some false
  ko : ∀ c' ∈ cm.cls, PySem.W.kitOne K (.ref (cm.ad c)) (.ref (cm.ad c')) = some (decide (c = c'))
/-- what the def's call is about: the hand's addresses, the heaps at the entry -/
structure Gv where
  cm : Cm
  hd : Option (Addr × Addr)
  F0 : Hp
  H0 : Hp
  A : Hp
/-- what is known at least: a loop's start -/
@[reducible] def Gv.an (g : Gv) (A : Hp) : Gv := { g with A := A }
def kD : Key → D
  | .inl i => .int i
  | .inr s => .str s
mutual
inductive Is (K : PySem.W.Frag) (cm : Cm) (F : Hp) : V → D → Prop
  | non : Is K cm F .non .non
  | bl (b : Bool) : Is K cm F (.bl b) (.bl b)
  | int (i : Int) : Is K cm F (.int i) (.int i)
  | str (s : Str) : Is K cm F (.str s) (.str s)
  | lst {a : Addr} {vs : List V} {ds : List D} (h : F a = some (.lst vs)) (q : IsAll K cm F vs ds) : Is K cm F (.ref a) (.lst ds)
  | tup {a : Addr} {vs : List V} {ds : List D} (h : Tt K F a vs) (q : IsAll K cm F vs ds) : Is K cm F (.ref a) (.tup ds)
  | dik {a : Addr} {o : Obj} {kvs : List (Key × V)} {ks : List Key} {vs : List D} (h : F a = some (.frz o (.dK kvs))) (hk : ks = kvs.map (·.1)) (q : IsAll K cm F (kvs.map (·.2)) vs) : Is K cm F (.ref a) (.dik ks vs)
  | dit {a : Addr} {o : Obj} {kvs : List (List Key × V)} {ks : List (List Key)} {vs : List D} (h : F a = some (.frz o (.dT kvs))) (hk : ks = kvs.map (·.1)) (q : IsAll K cm F (kvs.map (·.2)) vs) : Is K cm F (.ref a) (.dit ks vs)
  | cod {x : Str} {a : Addr} (h : cm.fn x = some a) (ty : ∀ G, TyS K G (.ref a) (.type "function")) : Is K cm F (.ref a) (.cod x)
  | dic {a : Addr} {kvs : List (Key × V)} {ks vs : List D} (h : F a = some (.dK kvs)) (hk : ks = kvs.map fun p => kD p.1) (q : IsAll K cm F (kvs.map (·.2)) vs) : Is K cm F (.ref a) (.dic ks vs)
  | obj {a dx : Addr} {c : Str} {fs : List (Str × V)} {ns : List Str} {ds : List D} (h : F a = some (.ins (cm.ad c) dx fs)) (cf : CF K cm c) (hn : ns = fs.map (·.1)) (q : IsAll K cm F (fs.map (·.2)) ds) : Is K cm F (.ref a) (.obj c ns ds)
inductive IsAll (K : PySem.W.Frag) (cm : Cm) (F : Hp) : List V → List D → Prop
  | nil : IsAll K cm F [] []
  | cons {v : V} {vs : List V} {d : D} {ds : List D} (h : Is K cm F v d) (q : IsAll K cm F vs ds) : IsAll K cm F (v :: vs) (d :: ds)
end
section
variable {K : PySem.W.Frag} {cm : Cm} {F F' F1 H H' H1 : Hp} {v : V} {d : D} {vs ws : List V} {ds es : List D}
mutual
theorem Is.mono (e : Ex F F') : ∀ {d : D} {v : V}, Is K cm F v d → Is K cm F' v d
  | _, _, .non => .non
  | _, _, .bl b => .bl b
  | _, _, .int i => .int i
  | _, _, .str s => .str s
  | _, _, .lst h q => .lst (e _ _ h) (IsAll.mono e q)
  | _, _, .tup h q => .tup (Tt.ex e h) (IsAll.mono e q)
  | _, _, .dik h hk q => .dik (e _ _ h) hk (IsAll.mono e q)
  | _, _, .dit h hk q => .dit (e _ _ h) hk (IsAll.mono e q)
  | _, _, .cod h t => .cod h t
  | _, _, .dic h hk q => .dic (e _ _ h) hk (IsAll.mono e q)
  | _, _, .obj h cf hn q => .obj (e _ _ h) cf hn (IsAll.mono e q)
theorem IsAll.mono (e : Ex F F') : ∀ {ds : List D} {vs : List V}, IsAll K cm F vs ds → IsAll K cm F' vs ds
  | _, _, .nil => .nil
  | _, _, .cons h q => .cons (Is.mono e h) (IsAll.mono e q)
end
theorem IsAll.len : ∀ {vs : List V} {ds : List D}, IsAll K cm F vs ds → vs.length = ds.length
  | _, _, .nil => rfl
  | _, _, .cons _ q => congrArg (· + 1) (IsAll.len q)
theorem IsAll.get : ∀ {vs : List V} {ds : List D} {i : Nat} {d : D}, IsAll K cm F vs ds → ds[i]? = some d → ∃ v, vs[i]? = some v ∧ Is K cm F v d
  | _, _, i, d, .nil, h => by simp at h
  | _, _, 0, d, .cons (d := x) h _, e => by
    have e' : x = d := Option.some.inj e
    subst e'
    exact ⟨_, rfl, h⟩
  | _, _, i + 1, d, .cons _ q, e => IsAll.get (i := i) (d := d) q e
theorem IsAll.getV : ∀ {vs : List V} {ds : List D} {i : Nat} {v : V}, IsAll K cm F vs ds → vs[i]? = some v → ∃ d, ds[i]? = some d ∧ Is K cm F v d
  | _, _, i, d, .nil, h => by simp at h
  | _, _, 0, d, .cons (v := x) h _, e => by
    have e' : x = d := Option.some.inj e
    subst e'
    exact ⟨_, rfl, h⟩
  | _, _, i + 1, d, .cons _ q, e => IsAll.getV (i := i) (v := d) q e
theorem IsAll.app : ∀ {vs ws : List V} {ds es : List D}, IsAll K cm F vs ds → IsAll K cm F ws es → IsAll K cm F (vs ++ ws) (ds ++ es)
  | _, _, _, _, .nil, h => h
  | _, _, _, _, .cons h q, r => .cons h (IsAll.app q r)
theorem IsAll.one (h : Is K cm F v d) : IsAll K cm F [v] [d] := .cons h .nil
theorem IsAll.take : ∀ {vs : List V} {ds : List D} (n : Nat), IsAll K cm F vs ds → IsAll K cm F (vs.take n) (ds.take n)
  | _, _, 0, _ => by rw [List.take_zero, List.take_zero]; exact .nil
  | _, _, _ + 1, .nil => .nil
  | _, _, n + 1, .cons h q => .cons h (IsAll.take n q)
theorem IsAll.drop : ∀ {vs : List V} {ds : List D} (n : Nat), IsAll K cm F vs ds → IsAll K cm F (vs.drop n) (ds.drop n)
  | _, _, 0, q => q
  | _, _, _ + 1, .nil => .nil
  | _, _, n + 1, .cons _ q => IsAll.drop n q
theorem IsAll.rev : ∀ {vs : List V} {ds : List D}, IsAll K cm F vs ds → IsAll K cm F vs.reverse ds.reverse
  | _, _, .nil => .nil
  | _, _, .cons h q => by
    rw [List.reverse_cons, List.reverse_cons]
    exact (IsAll.rev q).app (.one h)
theorem IsAll.set : ∀ {vs : List V} {ds : List D} (n : Nat), IsAll K cm F vs ds → Is K cm F v d → IsAll K cm F (vs.set n v) (ds.set n d)
  | _, _, _, .nil, _ => .nil
  | _, _, 0, .cons _ q, h => .cons h q
  | _, _, n + 1, .cons x q, h => .cons x (IsAll.set n q h)
theorem IsAll.eraseIdx : ∀ {vs : List V} {ds : List D} (n : Nat), IsAll K cm F vs ds → IsAll K cm F (vs.eraseIdx n) (ds.eraseIdx n)
  | _, _, _, .nil => .nil
  | _, _, 0, .cons _ q => q
  | _, _, n + 1, .cons x q => .cons x (IsAll.eraseIdx n q)
theorem IsAll.rep (h : Is K cm F v d) : ∀ n : Nat, IsAll K cm F (List.replicate n v) (List.replicate n d)
  | 0 => .nil
  | n + 1 => .cons h (IsAll.rep h n)
theorem IsAll.ints : ∀ ns : List Int, IsAll K cm F (ns.map V.int) (ns.map D.int)
  | [] => .nil
  | n :: r => .cons (.int n) (IsAll.ints r)
theorem IsAll.bls : ∀ ns : List Bool, IsAll K cm F (ns.map V.bl) (ns.map D.bl)
  | [] => .nil
  | n :: r => .cons (.bl n) (IsAll.bls r)
theorem Is.int_inv {i : Int} (h : Is K cm F v (.int i)) : v = .int i := by cases h; rfl
theorem Is.bl_inv {i : Bool} (h : Is K cm F v (.bl i)) : v = .bl i := by cases h; rfl
theorem Is.str_inv {i : Str} (h : Is K cm F v (.str i)) : v = .str i := by cases h; rfl
theorem Is.non_inv (h : Is K cm F v .non) : v = .non := by cases h; rfl
theorem IsAll.ints_inv : ∀ {vs : List V} {ns : List Int}, IsAll K cm F vs (ns.map D.int) → vs = ns.map V.int
  | _, [], .nil => rfl
  | _, n :: r, .cons h q => by rw [List.map_cons, h.int_inv, IsAll.ints_inv q]
theorem IsAll.bls_inv : ∀ {vs : List V} {ns : List Bool}, IsAll K cm F vs (ns.map D.bl) → vs = ns.map V.bl
  | _, [], .nil => rfl
  | _, n :: r, .cons h q => by rw [List.map_cons, h.bl_inv, IsAll.bls_inv q]
theorem IsAll.strs_inv : ∀ {vs : List V} {ns : List Str}, IsAll K cm F vs (ns.map D.str) → vs = ns.map V.str
  | _, [], .nil => rfl
  | _, n :: r, .cons h q => by rw [List.map_cons, h.str_inv, IsAll.strs_inv q]
end
/-! ### the hand of draws -/
structure HandAt (F H : Hp) (h c : Addr) : Prop where
  ex : ∃ (cs : List Int) (i b m n : Int), H h = some (.lst [.ref c, .int i, .int b, .int m, .int n]) ∧ F c = some (.lst (cs.map V.int)) ∧ 0 ≤ i ∧ 0 ≤ b ∧ ∀ z ∈ cs, 0 ≤ z
/-- no table of code is among what never changes -/
def NoT (F : Hp) : Prop := ∀ b ps, F b ≠ some (.tbl ps)
theorem NoT.back {F F' : Hp} (e : Ex F F') (n : NoT F') : NoT F := fun b ps h => n b ps (e b _ h)
theorem NoT.upd {F : Hp} {p : Addr} {o : HO} (n : NoT F) (h : ∀ ps, o ≠ .tbl ps) : NoT (upd F p o) := fun b ps e => by
  by_cases c : b = p
  · rw [c, upd_same] at e
    exact h ps (Option.some.inj e)
  · rw [upd_ne c] at e
    exact n b ps e
/-- a table of code, or a code object -/
def TbO : HO → Prop
  | .tbl _ => True
  | .ext _ => True
  | _ => False
theorem tabs_at {T : List (Addr × Str)} {H H' : Hp} (t : LamX.Tabs T H) (k : ∀ b o, H b = some o → TbO o → H' b = some o) : LamX.Tabs T H' := fun p hp => by
  obtain ⟨ps, h1, h2, h3⟩ := t p hp
  refine ⟨ps, k _ _ h1 trivial, h2, fun pos cv hc => ?_⟩
  obtain ⟨c, e1, e2⟩ := h3 pos cv hc
  exact ⟨c, e1, k _ _ e2 trivial⟩
/-- a step of the heaps: F what never changes, H all -/
structure Stp (hd : Option (Addr × Addr)) (T : List (Addr × Str)) (F H F' H' : Hp) : Prop where
  ff : Ex F F'
  fh : Ex F' H'
  own : ∀ b, H b ≠ none → F b = none → F' b = none
  dom : ∀ b, H b ≠ none → H' b ≠ none
  kp : ∀ b o, H b = some o → (∀ ps, o ≠ .tbl ps) → (∀ p, hd = some p → b ≠ p.1) → H' b = some o
  hand : ∀ p, hd = some p → HandAt F H p.1 p.2 → HandAt F' H' p.1 p.2
  tab : LamX.Tabs T H → LamX.Tabs T H'
  nt : NoT F → NoT F'
section
variable {hd : Option (Addr × Addr)} {T : List (Addr × Str)} {F F' F1 F2 H H' H1 H2 : Hp}
theorem Stp.refl (e : Ex F H) : Stp hd T F H F H := ⟨Ex.refl F, e, fun _ _ h => h, fun _ h => h, fun _ _ h _ _ => h, fun _ _ h => h, id, id⟩
theorem Stp.trans (a : Stp hd T F H F1 H1) (b : Stp hd T F1 H1 F2 H2) : Stp hd T F H F2 H2 :=
  ⟨a.ff.trans b.ff, b.fh, fun x h f => b.own x (a.dom x h) (a.own x h f), fun x h => b.dom x (a.dom x h), fun x o h t n => b.kp x o (a.kp x o h t n) t n, fun p e h => b.hand p e (a.hand p e h), fun t => b.tab (a.tab t), fun n => b.nt (a.nt n)⟩
theorem Stp.kpL {a : Addr} {vs : List V} (s : Stp hd T F H F' H') (h : H a = some (.lst vs)) (n : ∀ p, hd = some p → a ≠ p.1) : H' a = some (.lst vs) := s.kp _ _ h (fun _ z => nomatch z) n
theorem HandAt.to {h c : Addr} (e : Ex F F') (k : ∀ o, H h = some o → H' h = some o) (a : HandAt F H h c) : HandAt F' H' h c := by
  obtain ⟨cs, i, b, m, n, h1, h2, h3⟩ := a.ex
  exact ⟨cs, i, b, m, n, k _ h1, e _ _ h2, h3⟩
theorem HandAt.ex' {h c : Addr} (e : Ex F F') (k : Ex H H') (a : HandAt F H h c) : HandAt F' H' h c := a.to e fun o => k h o
theorem HandAt.some {h c : Addr} (a : HandAt F H h c) : H h ≠ none := by
  obtain ⟨cs, i, b, m, n, h1, _⟩ := a.ex
  rw [h1]
  exact fun z => by cases z
theorem HandAt.cells {h c : Addr} (a : HandAt F H h c) : F c ≠ none := by
  obtain ⟨cs, i, b, m, n, _, h2, _⟩ := a.ex
  rw [h2]
  exact fun z => by cases z
/-- a new object that is known from now on -/
theorem Stp.new {p : Addr} {o : HO} (e : Ex F H) (np : H p = none) (ho : ∀ ps, o ≠ .tbl ps := by intro _ z; cases z) : Stp hd T F H (upd F p o) (upd H p o) := by
  have fp : F p = none := Evl.fresh_back e np
  refine ⟨Ex.new fp, fun a u h => ?_, fun b hb fb => ?_, fun b hb => ?_, fun b u hb _ _ => ?_, fun q _ h => h.ex' (Ex.new fp) (Ex.new np), fun t => t.ext (Ex.new np), fun n => n.upd ho⟩
  · by_cases c : a = p
    · subst c
      rw [upd_same] at h ⊢
      exact h
    · rw [upd_ne c] at h ⊢
      exact e a u h
  · have c : b ≠ p := fun z => hb (by rw [z]; exact np)
    rw [upd_ne c]
    exact fb
  · have c : b ≠ p := fun z => hb (by rw [z]; exact np)
    rw [upd_ne c]
    exact hb
  · rw [upd_ne (ne_of_none hb np)]
    exact hb
/-- a new object that may change -/
theorem Stp.newOwn {p : Addr} {o : HO} (e : Ex F H) (np : H p = none) : Stp hd T F H F (upd H p o) := by
  refine ⟨Ex.refl F, e.trans (Ex.new np), fun b _ fb => fb, fun b hb => ?_, fun b u hb _ _ => ?_, fun q _ h => h.ex' (Ex.refl F) (Ex.new np), fun t => t.ext (Ex.new np), id⟩
  · have c : b ≠ p := fun z => hb (by rw [z]; exact np)
    rw [upd_ne c]
    exact hb
  · rw [upd_ne (ne_of_none hb np)]
    exact hb
/-- the heap grows by what need not be known -/
theorem Stp.ext (e : Ex F H) (k : Ex H H1) : Stp hd T F H F H1 := by
  refine ⟨Ex.refl F, e.trans k, fun _ _ h => h, fun b hb => ?_, fun b o hb _ _ => k b o hb, fun _ _ h => h.ex' (Ex.refl F) k, fun t => t.ext k, id⟩
  cases q : H b with
  | none => exact absurd q hb
  | some o =>
    rw [k b o q]
    exact fun z => by cases z
end
/-! ### slots -/
/-- an object of one's own that is no list: how it stands for what is known of it -/
structure OwnR where
  rel : PySem.W.Frag → Cm → Hp → HO → Prop
  mono : ∀ {K : PySem.W.Frag} {cm : Cm} {F F' : Hp} {o : HO}, Ex F F' → rel K cm F o → rel K cm F' o
  nt : ∀ {K : PySem.W.Frag} {cm : Cm} {F : Hp} {o : HO}, rel K cm F o → ∀ ps, o ≠ .tbl ps
inductive B where
  | any | dat (d : D) | own (ds : List D) | hand | raw (v : V) | bth (v : V) (d : D) | oo (R : OwnR)
inductive Sl (K : PySem.W.Frag) (g : Gv) (F H : Hp) : List Addr → List (Option V) → List B → Prop
  | nil : Sl K g F H [] [] []
  | any {os : List Addr} {v : Option V} {σ : List (Option V)} {bs : List B} (q : Sl K g F H os σ bs) : Sl K g F H os (v :: σ) (.any :: bs)
  | dat {os : List Addr} {v : V} {d : D} {σ : List (Option V)} {bs : List B} (h : Is K g.cm F v d) (q : Sl K g F H os σ bs) : Sl K g F H os (some v :: σ) (.dat d :: bs)
  | own {os : List Addr} {a : Addr} {vs : List V} {ds : List D} {σ : List (Option V)} {bs : List B} (h : H a = some (.lst vs)) (i : IsAll K g.cm F vs ds) (f : F a = none) (n : a ∉ os) (nh : ∀ p, g.hd = some p → a ≠ p.1 ∧ a ≠ p.2) (q : Sl K g F H os σ bs) :
      Sl K g F H (a :: os) (some (.ref a) :: σ) (.own ds :: bs)
  | oo {os : List Addr} {a : Addr} {o : HO} {R : OwnR} {σ : List (Option V)} {bs : List B} (h : H a = some o) (r : R.rel K g.cm F o) (f : F a = none) (n : a ∉ os) (nh : ∀ p, g.hd = some p → a ≠ p.1 ∧ a ≠ p.2) (q : Sl K g F H os σ bs) :
      Sl K g F H (a :: os) (some (.ref a) :: σ) (.oo R :: bs)
  | hand {os : List Addr} {h c : Addr} {σ : List (Option V)} {bs : List B} (e : g.hd = some (h, c)) (q : Sl K g F H os σ bs) : Sl K g F H os (some (.ref h) :: σ) (.hand :: bs)
  | raw {os : List Addr} {v : V} {σ : List (Option V)} {bs : List B} (q : Sl K g F H os σ bs) : Sl K g F H os (some v :: σ) (.raw v :: bs)
  | bth {os : List Addr} {v : V} {d : D} {σ : List (Option V)} {bs : List B} (h : Is K g.cm F v d) (q : Sl K g F H os σ bs) : Sl K g F H os (some v :: σ) (.bth v d :: bs)
section
variable {K : PySem.W.Frag} {g : Gv} {F F' H H' : Hp} {os : List Addr} {σ : List (Option V)} {bs : List B}
theorem Sl.mono (s : Stp g.hd g.cm.tb F H F' H') : ∀ {os : List Addr} {σ : List (Option V)} {bs : List B}, Sl K g F H os σ bs → Sl K g F' H' os σ bs
  | _, _, _, .nil => .nil
  | _, _, _, .any q => .any (Sl.mono s q)
  | _, _, _, .dat h q => .dat (h.mono s.ff) (Sl.mono s q)
  | _, _, _, .own h i f n nh q => .own (s.kpL h fun p e => (nh p e).1) (i.mono s.ff) (s.own _ (by rw [h]; exact fun z => by cases z) f) n nh (Sl.mono s q)
  | _, _, _, .oo (R := R) h r f n nh q => .oo (s.kp _ _ h (R.nt r) fun p e => (nh p e).1) (R.mono s.ff r) (s.own _ (by rw [h]; exact fun z => by cases z) f) n nh (Sl.mono s q)
  | _, _, _, .hand e q => .hand e (Sl.mono s q)
  | _, _, _, .raw q => .raw (Sl.mono s q)
  | _, _, _, .bth x q => .bth (x.mono s.ff) (Sl.mono s q)
theorem Sl.len : ∀ {os : List Addr} {σ : List (Option V)} {bs : List B}, Sl K g F H os σ bs → σ.length = bs.length
  | _, _, _, .nil => rfl
  | _, _, _, .any q => congrArg (· + 1) (Sl.len q)
  | _, _, _, .dat _ q => congrArg (· + 1) (Sl.len q)
  | _, _, _, .own _ _ _ _ _ q => congrArg (· + 1) (Sl.len q)
  | _, _, _, .oo _ _ _ _ _ q => congrArg (· + 1) (Sl.len q)
  | _, _, _, .hand _ q => congrArg (· + 1) (Sl.len q)
  | _, _, _, .raw q => congrArg (· + 1) (Sl.len q)
  | _, _, _, .bth x q => congrArg (· + 1) (Sl.len q)
theorem Sl.getD {d : D} : ∀ {i : Nat} {os : List Addr} {σ : List (Option V)} {bs : List B}, Sl K g F H os σ bs → bs[i]? = some (.dat d) → ∃ v, σ[i]? = some (some v) ∧ Is K g.cm F v d
  | i, _, _, _, .nil, e => by simp at e
  | 0, _, _, _, .any _, e => by simp at e
  | 0, _, _, _, .dat h _, e => by
    simp at e
    subst e
    exact ⟨_, rfl, h⟩
  | 0, _, _, _, .own _ _ _ _ _ _, e => by simp at e
  | 0, _, _, _, .oo _ _ _ _ _ _, e => by simp at e
  | 0, _, _, _, .hand _ _, e => by simp at e
  | 0, _, _, _, .raw _, e => by simp at e
  | 0, _, _, _, .bth x _, e => by simp at e
  | i + 1, _, _, _, .any q, e => Sl.getD (i := i) q (by simpa using e)
  | i + 1, _, _, _, .dat _ q, e => Sl.getD (i := i) q (by simpa using e)
  | i + 1, _, _, _, .own _ _ _ _ _ q, e => Sl.getD (i := i) q (by simpa using e)
  | i + 1, _, _, _, .oo _ _ _ _ _ q, e => Sl.getD (i := i) q (by simpa using e)
  | i + 1, _, _, _, .hand _ q, e => Sl.getD (i := i) q (by simpa using e)
  | i + 1, _, _, _, .raw q, e => Sl.getD (i := i) q (by simpa using e)
  | i + 1, _, _, _, .bth x q, e => Sl.getD (i := i) q (by simpa using e)
theorem Sl.getH : ∀ {i : Nat} {os : List Addr} {σ : List (Option V)} {bs : List B}, Sl K g F H os σ bs → bs[i]? = some .hand → ∃ h c, σ[i]? = some (some (.ref h)) ∧ g.hd = some (h, c)
  | i, _, _, _, .nil, e => by simp at e
  | 0, _, _, _, .any _, e => by simp at e
  | 0, _, _, _, .dat h _, e => by simp at e
  | 0, _, _, _, .own _ _ _ _ _ _, e => by simp at e
  | 0, _, _, _, .oo _ _ _ _ _ _, e => by simp at e
  | 0, _, _, _, .hand h _, e => ⟨_, _, rfl, h⟩
  | 0, _, _, _, .raw _, e => by simp at e
  | 0, _, _, _, .bth x _, e => by simp at e
  | i + 1, _, _, _, .any q, e => Sl.getH (i := i) q (by simpa using e)
  | i + 1, _, _, _, .dat _ q, e => Sl.getH (i := i) q (by simpa using e)
  | i + 1, _, _, _, .own _ _ _ _ _ q, e => Sl.getH (i := i) q (by simpa using e)
  | i + 1, _, _, _, .oo _ _ _ _ _ q, e => Sl.getH (i := i) q (by simpa using e)
  | i + 1, _, _, _, .hand _ q, e => Sl.getH (i := i) q (by simpa using e)
  | i + 1, _, _, _, .raw q, e => Sl.getH (i := i) q (by simpa using e)
  | i + 1, _, _, _, .bth x q, e => Sl.getH (i := i) q (by simpa using e)
theorem Sl.getR {v : V} : ∀ {i : Nat} {os : List Addr} {σ : List (Option V)} {bs : List B}, Sl K g F H os σ bs → bs[i]? = some (.raw v) → σ[i]? = some (some v)
  | i, _, _, _, .nil, e => by simp at e
  | 0, _, _, _, .any _, e => by simp at e
  | 0, _, _, _, .dat h _, e => by simp at e
  | 0, _, _, _, .own _ _ _ _ _ _, e => by simp at e
  | 0, _, _, _, .oo _ _ _ _ _ _, e => by simp at e
  | 0, _, _, _, .hand h _, e => by simp at e
  | 0, _, _, _, .raw _, e => by
    simp at e
    subst e
    rfl
  | 0, _, _, _, .bth x _, e => by simp at e
  | i + 1, _, _, _, .any q, e => Sl.getR (i := i) q (by simpa using e)
  | i + 1, _, _, _, .dat _ q, e => Sl.getR (i := i) q (by simpa using e)
  | i + 1, _, _, _, .own _ _ _ _ _ q, e => Sl.getR (i := i) q (by simpa using e)
  | i + 1, _, _, _, .oo _ _ _ _ _ q, e => Sl.getR (i := i) q (by simpa using e)
  | i + 1, _, _, _, .hand _ q, e => Sl.getR (i := i) q (by simpa using e)
  | i + 1, _, _, _, .raw q, e => Sl.getR (i := i) q (by simpa using e)
  | i + 1, _, _, _, .bth x q, e => Sl.getR (i := i) q (by simpa using e)
theorem Sl.getB {v : V} {d : D} : ∀ {i : Nat} {os : List Addr} {σ : List (Option V)} {bs : List B}, Sl K g F H os σ bs → bs[i]? = some (.bth v d) → σ[i]? = some (some v) ∧ Is K g.cm F v d
  | i, _, _, _, .nil, e => by simp at e
  | 0, _, _, _, .any _, e => by simp at e
  | 0, _, _, _, .dat h _, e => by simp at e
  | 0, _, _, _, .own _ _ _ _ _ _, e => by simp at e
  | 0, _, _, _, .oo _ _ _ _ _ _, e => by simp at e
  | 0, _, _, _, .hand h _, e => by simp at e
  | 0, _, _, _, .raw _, e => by simp at e
  | 0, _, _, _, .bth h _, e => by
    simp at e
    obtain ⟨rfl, rfl⟩ := e
    exact ⟨rfl, h⟩
  | i + 1, _, _, _, .any q, e => Sl.getB (i := i) q (by simpa using e)
  | i + 1, _, _, _, .dat _ q, e => Sl.getB (i := i) q (by simpa using e)
  | i + 1, _, _, _, .own _ _ _ _ _ q, e => Sl.getB (i := i) q (by simpa using e)
  | i + 1, _, _, _, .oo _ _ _ _ _ q, e => Sl.getB (i := i) q (by simpa using e)
  | i + 1, _, _, _, .hand _ q, e => Sl.getB (i := i) q (by simpa using e)
  | i + 1, _, _, _, .raw q, e => Sl.getB (i := i) q (by simpa using e)
  | i + 1, _, _, _, .bth _ q, e => Sl.getB (i := i) q (by simpa using e)
theorem Sl.getO {ds : List D} : ∀ {i : Nat} {os : List Addr} {σ : List (Option V)} {bs : List B}, Sl K g F H os σ bs → bs[i]? = some (.own ds) →
    ∃ a vs, σ[i]? = some (some (.ref a)) ∧ H a = some (.lst vs) ∧ IsAll K g.cm F vs ds ∧ F a = none ∧ a ∈ os ∧ ∀ p, g.hd = some p → a ≠ p.1 ∧ a ≠ p.2
  | i, _, _, _, .nil, e => by simp at e
  | 0, _, _, _, .any _, e => by simp at e
  | 0, _, _, _, .dat h _, e => by simp at e
  | 0, _, _, _, .own h j f _ nh _, e => by
    simp at e
    subst e
    exact ⟨_, _, rfl, h, j, f, List.mem_cons_self, nh⟩
  | 0, _, _, _, .oo _ _ _ _ _ _, e => by simp at e
  | 0, _, _, _, .hand _ _, e => by simp at e
  | 0, _, _, _, .raw _, e => by simp at e
  | 0, _, _, _, .bth x _, e => by simp at e
  | i + 1, _, _, _, .any q, e => Sl.getO (i := i) q (by simpa using e)
  | i + 1, _, _, _, .dat _ q, e => Sl.getO (i := i) q (by simpa using e)
  | i + 1, _, _, _, .own _ _ _ _ _ q, e => by
    obtain ⟨a, vs, h1, h2, h3, h4, h5, h6⟩ := Sl.getO (i := i) q (by simpa using e)
    exact ⟨a, vs, h1, h2, h3, h4, List.mem_cons_of_mem _ h5, h6⟩
  | i + 1, _, _, _, .oo _ _ _ _ _ q, e => by
    obtain ⟨a, vs, h1, h2, h3, h4, h5, h6⟩ := Sl.getO (i := i) q (by simpa using e)
    exact ⟨a, vs, h1, h2, h3, h4, List.mem_cons_of_mem _ h5, h6⟩
  | i + 1, _, _, _, .hand _ q, e => Sl.getO (i := i) q (by simpa using e)
  | i + 1, _, _, _, .raw q, e => Sl.getO (i := i) q (by simpa using e)
  | i + 1, _, _, _, .bth x q, e => Sl.getO (i := i) q (by simpa using e)
/-- a slot is set -/
theorem Sl.setD {v : V} {d : D} (h : Is K g.cm F v d) : ∀ {i : Nat} {os : List Addr} {σ : List (Option V)} {bs : List B}, Sl K g F H os σ bs → ∃ os', Sl K g F H os' (σ.set i (some v)) (bs.set i (.dat d)) ∧ ∀ a ∈ os', a ∈ os
  | i, _, _, _, .nil => ⟨[], .nil, fun _ h => h⟩
  | 0, os, _, _, .any q => ⟨os, .dat h q, fun _ h => h⟩
  | 0, os, _, _, .dat _ q => ⟨os, .dat h q, fun _ h => h⟩
  | 0, _, _, _, .own _ _ _ _ _ q => ⟨_, .dat h q, fun _ h => List.mem_cons_of_mem _ h⟩
  | 0, _, _, _, .oo _ _ _ _ _ q => ⟨_, .dat h q, fun _ h => List.mem_cons_of_mem _ h⟩
  | 0, os, _, _, .hand _ q => ⟨os, .dat h q, fun _ h => h⟩
  | 0, os, _, _, .raw q => ⟨os, .dat h q, fun _ h => h⟩
  | 0, os, _, _, .bth x q => ⟨os, .dat h q, fun _ h => h⟩
  | i + 1, _, _, _, .any q => by
    obtain ⟨os', q', s⟩ := Sl.setD (i := i) h q
    exact ⟨os', .any q', s⟩
  | i + 1, _, _, _, .dat x q => by
    obtain ⟨os', q', s⟩ := Sl.setD (i := i) h q
    exact ⟨os', .dat x q', s⟩
  | i + 1, _, _, _, .own (a := a) h1 h2 h3 h4 h5 q => by
    obtain ⟨os', q', s⟩ := Sl.setD (i := i) h q
    exact ⟨a :: os', .own h1 h2 h3 (fun z => h4 (s _ z)) h5 q', fun b hb => by
      rcases List.mem_cons.mp hb with e | e
      · rw [e]; exact List.mem_cons_self
      · exact List.mem_cons_of_mem _ (s b e)⟩
  | i + 1, _, _, _, .oo (a := a) h1 h2 h3 h4 h5 q => by
    obtain ⟨os', q', s⟩ := Sl.setD (i := i) h q
    exact ⟨a :: os', .oo h1 h2 h3 (fun z => h4 (s _ z)) h5 q', fun b hb => by
      rcases List.mem_cons.mp hb with e | e
      · rw [e]; exact List.mem_cons_self
      · exact List.mem_cons_of_mem _ (s b e)⟩
  | i + 1, _, _, _, .hand x q => by
    obtain ⟨os', q', s⟩ := Sl.setD (i := i) h q
    exact ⟨os', .hand x q', s⟩
  | i + 1, _, _, _, .raw q => by
    obtain ⟨os', q', s⟩ := Sl.setD (i := i) h q
    exact ⟨os', .raw q', s⟩
  | i + 1, _, _, _, .bth x q => by
    obtain ⟨os', q', s⟩ := Sl.setD (i := i) h q
    exact ⟨os', .bth x q', s⟩
theorem Sl.setN {v : Option V} : ∀ {i : Nat} {os : List Addr} {σ : List (Option V)} {bs : List B}, Sl K g F H os σ bs → ∃ os', Sl K g F H os' (σ.set i v) (bs.set i .any) ∧ ∀ a ∈ os', a ∈ os
  | i, _, _, _, .nil => ⟨[], .nil, fun _ h => h⟩
  | 0, os, _, _, .any q => ⟨os, .any q, fun _ h => h⟩
  | 0, os, _, _, .dat _ q => ⟨os, .any q, fun _ h => h⟩
  | 0, _, _, _, .own _ _ _ _ _ q => ⟨_, .any q, fun _ h => List.mem_cons_of_mem _ h⟩
  | 0, _, _, _, .oo _ _ _ _ _ q => ⟨_, .any q, fun _ h => List.mem_cons_of_mem _ h⟩
  | 0, os, _, _, .hand _ q => ⟨os, .any q, fun _ h => h⟩
  | 0, os, _, _, .raw q => ⟨os, .any q, fun _ h => h⟩
  | 0, os, _, _, .bth x q => ⟨os, .any q, fun _ h => h⟩
  | i + 1, _, _, _, .any q => by
    obtain ⟨os', q', s⟩ := Sl.setN (i := i) (v := v) q
    exact ⟨os', .any q', s⟩
  | i + 1, _, _, _, .dat x q => by
    obtain ⟨os', q', s⟩ := Sl.setN (i := i) (v := v) q
    exact ⟨os', .dat x q', s⟩
  | i + 1, _, _, _, .own (a := a) h1 h2 h3 h4 h5 q => by
    obtain ⟨os', q', s⟩ := Sl.setN (i := i) (v := v) q
    exact ⟨a :: os', .own h1 h2 h3 (fun z => h4 (s _ z)) h5 q', fun b hb => by
      rcases List.mem_cons.mp hb with e | e
      · rw [e]; exact List.mem_cons_self
      · exact List.mem_cons_of_mem _ (s b e)⟩
  | i + 1, _, _, _, .oo (a := a) h1 h2 h3 h4 h5 q => by
    obtain ⟨os', q', s⟩ := Sl.setN (i := i) (v := v) q
    exact ⟨a :: os', .oo h1 h2 h3 (fun z => h4 (s _ z)) h5 q', fun b hb => by
      rcases List.mem_cons.mp hb with e | e
      · rw [e]; exact List.mem_cons_self
      · exact List.mem_cons_of_mem _ (s b e)⟩
  | i + 1, _, _, _, .hand x q => by
    obtain ⟨os', q', s⟩ := Sl.setN (i := i) (v := v) q
    exact ⟨os', .hand x q', s⟩
  | i + 1, _, _, _, .raw q => by
    obtain ⟨os', q', s⟩ := Sl.setN (i := i) (v := v) q
    exact ⟨os', .raw q', s⟩
  | i + 1, _, _, _, .bth x q => by
    obtain ⟨os', q', s⟩ := Sl.setN (i := i) (v := v) q
    exact ⟨os', .bth x q', s⟩
theorem Sl.setR {v : V} : ∀ {i : Nat} {os : List Addr} {σ : List (Option V)} {bs : List B}, Sl K g F H os σ bs → ∃ os', Sl K g F H os' (σ.set i (some v)) (bs.set i (.raw v)) ∧ ∀ a ∈ os', a ∈ os
  | i, _, _, _, .nil => ⟨[], .nil, fun _ h => h⟩
  | 0, os, _, _, .any q => ⟨os, .raw q, fun _ h => h⟩
  | 0, os, _, _, .dat _ q => ⟨os, .raw q, fun _ h => h⟩
  | 0, _, _, _, .own _ _ _ _ _ q => ⟨_, .raw q, fun _ h => List.mem_cons_of_mem _ h⟩
  | 0, _, _, _, .oo _ _ _ _ _ q => ⟨_, .raw q, fun _ h => List.mem_cons_of_mem _ h⟩
  | 0, os, _, _, .hand _ q => ⟨os, .raw q, fun _ h => h⟩
  | 0, os, _, _, .raw q => ⟨os, .raw q, fun _ h => h⟩
  | 0, os, _, _, .bth _ q => ⟨os, .raw q, fun _ h => h⟩
  | i + 1, _, _, _, .any q => by
    obtain ⟨os', q', s⟩ := Sl.setR (i := i) (v := v) q
    exact ⟨os', .any q', s⟩
  | i + 1, _, _, _, .dat x q => by
    obtain ⟨os', q', s⟩ := Sl.setR (i := i) (v := v) q
    exact ⟨os', .dat x q', s⟩
  | i + 1, _, _, _, .own (a := a) h1 h2 h3 h4 h5 q => by
    obtain ⟨os', q', s⟩ := Sl.setR (i := i) (v := v) q
    exact ⟨a :: os', .own h1 h2 h3 (fun z => h4 (s _ z)) h5 q', fun b hb => by
      rcases List.mem_cons.mp hb with e | e
      · rw [e]; exact List.mem_cons_self
      · exact List.mem_cons_of_mem _ (s b e)⟩
  | i + 1, _, _, _, .oo (a := a) h1 h2 h3 h4 h5 q => by
    obtain ⟨os', q', s⟩ := Sl.setR (i := i) (v := v) q
    exact ⟨a :: os', .oo h1 h2 h3 (fun z => h4 (s _ z)) h5 q', fun b hb => by
      rcases List.mem_cons.mp hb with e | e
      · rw [e]; exact List.mem_cons_self
      · exact List.mem_cons_of_mem _ (s b e)⟩
  | i + 1, _, _, _, .hand x q => by
    obtain ⟨os', q', s⟩ := Sl.setR (i := i) (v := v) q
    exact ⟨os', .hand x q', s⟩
  | i + 1, _, _, _, .raw q => by
    obtain ⟨os', q', s⟩ := Sl.setR (i := i) (v := v) q
    exact ⟨os', .raw q', s⟩
  | i + 1, _, _, _, .bth x q => by
    obtain ⟨os', q', s⟩ := Sl.setR (i := i) (v := v) q
    exact ⟨os', .bth x q', s⟩
/-- a list of one's own, new or changed -/
theorem Sl.setO {p : Addr} {vs : List V} {ds : List D} (hp : H p = some (.lst vs)) (fp : F p = none) (ia : IsAll K g.cm F vs ds) (nh : ∀ q, g.hd = some q → p ≠ q.1 ∧ p ≠ q.2) : ∀ {i : Nat} {os : List Addr} {σ : List (Option V)} {bs : List B}, Sl K g F H os σ bs → p ∉ os →
    ∃ os', Sl K g F H os' (σ.set i (some (.ref p))) (bs.set i (.own ds)) ∧ ∀ a ∈ os', a = p ∨ a ∈ os
  | i, _, _, _, .nil, _ => ⟨[], .nil, fun _ h => .inr h⟩
  | 0, os, _, _, .any q, n => ⟨p :: os, .own hp ia fp n nh q, fun a h => List.mem_cons.mp h⟩
  | 0, os, _, _, .dat _ q, n => ⟨p :: os, .own hp ia fp n nh q, fun a h => List.mem_cons.mp h⟩
  | 0, _, _, _, .own (os := os) _ _ _ _ _ q, n => ⟨p :: os, .own hp ia fp (fun z => n (List.mem_cons_of_mem _ z)) nh q, fun a h => (List.mem_cons.mp h).imp id fun z => List.mem_cons_of_mem _ z⟩
  | 0, _, _, _, .oo (os := os) _ _ _ _ _ q, n => ⟨p :: os, .own hp ia fp (fun z => n (List.mem_cons_of_mem _ z)) nh q, fun a h => (List.mem_cons.mp h).imp id fun z => List.mem_cons_of_mem _ z⟩
  | 0, os, _, _, .hand _ q, n => ⟨p :: os, .own hp ia fp n nh q, fun a h => List.mem_cons.mp h⟩
  | 0, os, _, _, .raw q, n => ⟨p :: os, .own hp ia fp n nh q, fun a h => List.mem_cons.mp h⟩
  | 0, os, _, _, .bth x q, n => ⟨p :: os, .own hp ia fp n nh q, fun a h => List.mem_cons.mp h⟩
  | i + 1, _, _, _, .any q, n => by
    obtain ⟨os', q', s⟩ := Sl.setO (i := i) hp fp ia nh q n
    exact ⟨os', .any q', s⟩
  | i + 1, _, _, _, .dat x q, n => by
    obtain ⟨os', q', s⟩ := Sl.setO (i := i) hp fp ia nh q n
    exact ⟨os', .dat x q', s⟩
  | i + 1, _, _, _, .own (a := a) h1 h2 h3 h4 h5 q, n => by
    obtain ⟨os', q', s⟩ := Sl.setO (i := i) hp fp ia nh q (fun z => n (List.mem_cons_of_mem _ z))
    have na : a ≠ p := fun z => n (by rw [z]; exact List.mem_cons_self)
    exact ⟨a :: os', .own h1 h2 h3 (fun z => (s _ z).elim na h4) h5 q', fun b hb => by
      rcases List.mem_cons.mp hb with e | e
      · rw [e]; exact .inr List.mem_cons_self
      · exact (s b e).imp id fun z => List.mem_cons_of_mem _ z⟩
  | i + 1, _, _, _, .oo (a := a) h1 h2 h3 h4 h5 q, n => by
    obtain ⟨os', q', s⟩ := Sl.setO (i := i) hp fp ia nh q (fun z => n (List.mem_cons_of_mem _ z))
    have na : a ≠ p := fun z => n (by rw [z]; exact List.mem_cons_self)
    exact ⟨a :: os', .oo h1 h2 h3 (fun z => (s _ z).elim na h4) h5 q', fun b hb => by
      rcases List.mem_cons.mp hb with e | e
      · rw [e]; exact .inr List.mem_cons_self
      · exact (s b e).imp id fun z => List.mem_cons_of_mem _ z⟩
  | i + 1, _, _, _, .hand x q, n => by
    obtain ⟨os', q', s⟩ := Sl.setO (i := i) hp fp ia nh q n
    exact ⟨os', .hand x q', s⟩
  | i + 1, _, _, _, .raw q, n => by
    obtain ⟨os', q', s⟩ := Sl.setO (i := i) hp fp ia nh q n
    exact ⟨os', .raw q', s⟩
  | i + 1, _, _, _, .bth x q, n => by
    obtain ⟨os', q', s⟩ := Sl.setO (i := i) hp fp ia nh q n
    exact ⟨os', .bth x q', s⟩
theorem Sl.notOwn {a : Addr} {o : HO} : ∀ {os : List Addr} {σ : List (Option V)} {bs : List B}, Sl K g F H os σ bs → a ∉ os → Sl K g F (upd H a o) os σ bs
  | _, _, _, .nil, _ => .nil
  | _, _, _, .any q, n => .any (Sl.notOwn q n)
  | _, _, _, .dat h q, n => .dat h (Sl.notOwn q n)
  | _, _, _, .own (a := b) h i f m nh q, n => .own (by rw [upd_ne (fun z => n (by rw [← z]; exact List.mem_cons_self))]; exact h) i f m nh (Sl.notOwn q fun z => n (List.mem_cons_of_mem _ z))
  | _, _, _, .oo (a := b) h i f m nh q, n => .oo (by rw [upd_ne (fun z => n (by rw [← z]; exact List.mem_cons_self))]; exact h) i f m nh (Sl.notOwn q fun z => n (List.mem_cons_of_mem _ z))
  | _, _, _, .hand e q, n => .hand e (Sl.notOwn q n)
  | _, _, _, .raw q, n => .raw (Sl.notOwn q n)
  | _, _, _, .bth x q, n => .bth x (Sl.notOwn q n)
/-- a list of one's own is changed -/
theorem Sl.mutO {a : Addr} {ds es : List D} {ws : List V} (ia : IsAll K g.cm F ws es) : ∀ {i : Nat} {os : List Addr} {σ : List (Option V)} {bs : List B}, Sl K g F H os σ bs → bs[i]? = some (.own ds) → σ[i]? = some (some (.ref a)) →
    Sl K g F (upd H a (.lst ws)) os σ (bs.set i (.own es))
  | i, _, _, _, .nil, e, _ => by simp at e
  | 0, _, _, _, .any _, e, _ => by simp at e
  | 0, _, _, _, .dat h _, e, _ => by simp at e
  | 0, _, _, _, .own (a := b) h j f m nh q, e, e2 => by
    simp at e2
    subst e2
    exact .own upd_same ia f m nh (q.notOwn m)
  | 0, _, _, _, .oo _ _ _ _ _ _, e, _ => by simp at e
  | 0, _, _, _, .hand _ _, e, _ => by simp at e
  | 0, _, _, _, .raw _, e, _ => by simp at e
  | 0, _, _, _, .bth x _, e, _ => by simp at e
  | i + 1, _, _, _, .any q, e, e2 => .any (Sl.mutO (i := i) ia q (by simpa using e) (by simpa using e2))
  | i + 1, _, _, _, .dat x q, e, e2 => .dat x (Sl.mutO (i := i) ia q (by simpa using e) (by simpa using e2))
  | i + 1, _, _, _, .own (a := b) h j f m nh q, e, e2 => by
    obtain ⟨a', vs, h1, h2, h3, h4, h5, h6⟩ := Sl.getO (i := i) q (by simpa using e)
    have ea : a' = a := by
      have e2' := e2
      simp only [List.getElem?_cons_succ] at e2'
      rw [h1] at e2'
      exact V.ref.inj (Option.some.inj (Option.some.inj e2'))
    subst ea
    exact .own (by rw [upd_ne (fun z => m (by rw [z]; exact h5))]; exact h) j f m nh (Sl.mutO (i := i) ia q (by simpa using e) (by simpa using e2))
  | i + 1, _, _, _, .oo (a := b) h j f m nh q, e, e2 => by
    obtain ⟨a', vs, h1, h2, h3, h4, h5, h6⟩ := Sl.getO (i := i) q (by simpa using e)
    have ea : a' = a := by
      have e2' := e2
      simp only [List.getElem?_cons_succ] at e2'
      rw [h1] at e2'
      exact V.ref.inj (Option.some.inj (Option.some.inj e2'))
    subst ea
    exact .oo (by rw [upd_ne (fun z => m (by rw [z]; exact h5))]; exact h) j f m nh (Sl.mutO (i := i) ia q (by simpa using e) (by simpa using e2))
  | i + 1, _, _, _, .hand x q, e, e2 => .hand x (Sl.mutO (i := i) ia q (by simpa using e) (by simpa using e2))
  | i + 1, _, _, _, .raw q, e, e2 => .raw (Sl.mutO (i := i) ia q (by simpa using e) (by simpa using e2))
  | i + 1, _, _, _, .bth x q, e, e2 => .bth x (Sl.mutO (i := i) ia q (by simpa using e) (by simpa using e2))
/-- what is known grows by an object that no list of one's own is -/
theorem Sl.grow {a : Addr} {o : HO} (fa : F a = none) : ∀ {os : List Addr} {σ : List (Option V)} {bs : List B}, Sl K g F H os σ bs → a ∉ os → Sl K g (upd F a o) H os σ bs
  | _, _, _, .nil, _ => .nil
  | _, _, _, .any q, n => .any (Sl.grow fa q n)
  | _, _, _, .dat h q, n => .dat (h.mono (Ex.new fa)) (Sl.grow fa q n)
  | _, _, _, .own (a := b) h i f m nh q, n => .own h (i.mono (Ex.new fa)) (by rw [upd_ne (fun z => n (by rw [← z]; exact List.mem_cons_self))]; exact f) m nh (Sl.grow fa q fun z => n (List.mem_cons_of_mem _ z))
  | _, _, _, .oo (a := b) (R := R) h r f m nh q, n => .oo h (R.mono (Ex.new fa) r) (by rw [upd_ne (fun z => n (by rw [← z]; exact List.mem_cons_self))]; exact f) m nh (Sl.grow fa q fun z => n (List.mem_cons_of_mem _ z))
  | _, _, _, .hand e q, n => .hand e (Sl.grow fa q n)
  | _, _, _, .raw q, n => .raw (Sl.grow fa q n)
  | _, _, _, .bth x q, n => .bth (x.mono (Ex.new fa)) (Sl.grow fa q n)
end
/-- weaker slots: forgotten; a list that does not change any more -/
inductive LeB : B → B → Prop
  | refl {b : B} : LeB b b
  | any {b : B} : LeB b .any
  | frz {ds : List D} : LeB (.own ds) (.dat (.lst ds))
inductive Le : List B → List B → Prop
  | nil : Le [] []
  | cons {b c : B} {bs cs : List B} (h : LeB b c) (q : Le bs cs) : Le (b :: bs) (c :: cs)
theorem Le.refl : ∀ bs : List B, Le bs bs
  | [] => .nil
  | b :: r => .cons .refl (Le.refl r)
section
variable {K : PySem.W.Frag} {g : Gv} {F F' H H' : Hp} {σ : List (Option V)} {bs cs : List B}
theorem Sl.le (e : Ex F H) : ∀ {os : List Addr} {σ : List (Option V)} {bs cs : List B}, Sl K g F H os σ bs → Le bs cs →
    ∃ F' os', Ex F F' ∧ Ex F' H ∧ Sl K g F' H os' σ cs ∧ (∀ a ∈ os', a ∈ os) ∧ (∀ b, b ∉ os → F b = none → F' b = none) ∧ (∀ b ∈ os', F' b = none) ∧ (∀ b, F' b ≠ none → F b ≠ none ∨ ∀ p, g.hd = some p → b ≠ p.1) ∧ (NoT F → NoT F')
  | _, _, _, _, .nil, .nil => ⟨F, [], Ex.refl F, e, .nil, fun _ h => h, fun _ _ h => h, (fun _ h => nomatch h), (fun b h => .inl h), id⟩
  | _, _, _, _, .any q, .cons h r => by
    obtain ⟨F', os', a, b, c, d, i, j, k⟩ := Sl.le e q r
    cases h with
    | refl => exact ⟨F', os', a, b, .any c, d, i, j, k⟩
    | any => exact ⟨F', os', a, b, .any c, d, i, j, k⟩
  | _, _, _, _, .dat x q, .cons h r => by
    obtain ⟨F', os', a, b, c, d, i, j, k⟩ := Sl.le e q r
    cases h with
    | refl => exact ⟨F', os', a, b, .dat (x.mono a) c, d, i, j, k⟩
    | any => exact ⟨F', os', a, b, .any c, d, i, j, k⟩
  | _, _, _, _, .hand x q, .cons h r => by
    obtain ⟨F', os', a, b, c, d, i, j, k⟩ := Sl.le e q r
    cases h with
    | refl => exact ⟨F', os', a, b, .hand x c, d, i, j, k⟩
    | any => exact ⟨F', os', a, b, .any c, d, i, j, k⟩
  | _, _, _, _, .raw q, .cons h r => by
    obtain ⟨F', os', a, b, c, d, i, j, k⟩ := Sl.le e q r
    cases h with
    | refl => exact ⟨F', os', a, b, .raw c, d, i, j, k⟩
    | any => exact ⟨F', os', a, b, .any c, d, i, j, k⟩
  | _, _, _, _, .bth x q, .cons h r => by
    obtain ⟨F', os', a, b, c, d, i, j, k⟩ := Sl.le e q r
    cases h with
    | refl => exact ⟨F', os', a, b, .bth (x.mono a) c, d, i, j, k⟩
    | any => exact ⟨F', os', a, b, .any c, d, i, j, k⟩
  | _, _, _, _, .own (a := o) (vs := vs) h1 h2 h3 h4 h5 q, .cons h r => by
    obtain ⟨F', os', a, b, c, d, i, j, k⟩ := Sl.le e q r
    have fo : F' o = none := i o h4 h3
    have no : o ∉ os' := fun z => h4 (d o z)
    cases h with
    | refl =>
      refine ⟨F', o :: os', a, b, .own h1 (h2.mono a) fo no h5 c, fun y hy => ?_, fun y n z => i y (fun m => n (List.mem_cons_of_mem _ m)) z, fun y hy => ?_, k⟩
      · rcases List.mem_cons.mp hy with e | e
        · rw [e]; exact List.mem_cons_self
        · exact List.mem_cons_of_mem _ (d y e)
      · rcases List.mem_cons.mp hy with e | e
        · rw [e]; exact fo
        · exact j y e
    | any => exact ⟨F', os', a, b, .any c, fun y hy => List.mem_cons_of_mem _ (d y hy), fun y n z => i y (fun m => n (List.mem_cons_of_mem _ m)) z, j, k⟩
    | frz =>
      refine ⟨upd F' o (.lst vs), os', a.trans (Ex.new fo), fun y u hy => ?_, .dat (.lst upd_same ((h2.mono a).mono (Ex.new fo))) (c.grow fo no), fun y hy => List.mem_cons_of_mem _ (d y hy), fun y n z => ?_, fun y hy => ?_, ?_⟩
      · by_cases z : y = o
        · subst z
          rw [upd_same] at hy
          rw [h1]
          exact hy
        · rw [upd_ne z] at hy
          exact b y u hy
      · rw [upd_ne (fun w => n (by rw [w]; exact List.mem_cons_self))]
        exact i y (fun m => n (List.mem_cons_of_mem _ m)) z
      · rw [upd_ne (fun w => no (by rw [← w]; exact hy))]
        exact j y hy
      · refine ⟨fun y hy => ?_, fun n => (k.2 n).upd fun _ z => nomatch z⟩
        by_cases z : y = o
        · subst z
          exact .inr fun p e => (h5 p e).1
        · rw [upd_ne z] at hy
          exact k.1 y hy
  | _, _, _, _, .oo (a := o) (R := R) h1 h2 h3 h4 h5 q, .cons h r => by
    obtain ⟨F', os', a, b, c, d, i, j, k⟩ := Sl.le e q r
    have fo : F' o = none := i o h4 h3
    have no : o ∉ os' := fun z => h4 (d o z)
    cases h with
    | refl =>
      refine ⟨F', o :: os', a, b, .oo h1 (R.mono a h2) fo no h5 c, fun y hy => ?_, fun y n z => i y (fun m => n (List.mem_cons_of_mem _ m)) z, fun y hy => ?_, k⟩
      · rcases List.mem_cons.mp hy with e | e
        · rw [e]; exact List.mem_cons_self
        · exact List.mem_cons_of_mem _ (d y e)
      · rcases List.mem_cons.mp hy with e | e
        · rw [e]; exact fo
        · exact j y e
    | any => exact ⟨F', os', a, b, .any c, fun y hy => List.mem_cons_of_mem _ (d y hy), fun y n z => i y (fun m => n (List.mem_cons_of_mem _ m)) z, j, k⟩
end
end FE
set_option Elab.async false
set_option linter.all false
set_option maxRecDepth 100000
set_option maxHeartbeats 4000000
/-! What is known of slots and heaps; readings by data. -/
namespace FE
open PySem L2
open Evl (Ex)
structure Sat (K : PySem.W.Frag) (g : Gv) (bs : List B) (σ : St) (F H : Hp) : Prop where
  ex : Ex F H
  hd : ∀ p, g.hd = some p → HandAt F H p.1 p.2 ∧ F p.1 = none
  st : Stp g.hd g.cm.tb g.F0 g.H0 F H
  sl : ∃ os, Sl K g F H os σ bs ∧ ∀ a ∈ os, g.H0 a = none
  an : Ex g.A F
  tb : LamX.Tabs g.cm.tb H
  nt : NoT F
section
variable {K : PySem.W.Frag} {g : Gv} {bs cs : List B} {σ : St} {F F' F1 H H' H1 : Hp} {v : V} {d : D} {i : Nat}
theorem Sat.step (s : Sat K g bs σ F H) (e : Stp g.hd g.cm.tb F H F' H') : Sat K g bs σ F' H' := by
  obtain ⟨os, q, n⟩ := s.sl
  exact ⟨e.fh, fun p hp => ⟨e.hand p hp (s.hd p hp).1, e.own _ (s.hd p hp).1.some (s.hd p hp).2⟩, s.st.trans e, ⟨os, q.mono e, n⟩, s.an.trans e.ff, e.tab s.tb, e.nt s.nt⟩
theorem Sat.getD (s : Sat K g bs σ F H) (h : bs[i]? = some (.dat d)) : ∃ v, σ[i]? = some (some v) ∧ Is K g.cm F v d := by
  obtain ⟨os, q, n⟩ := s.sl
  exact q.getD h
theorem Sat.setD (s : Sat K g bs σ F H) (h : Is K g.cm F v d) : Sat K g (bs.set i (.dat d)) (σ.set i (some v)) F H := by
  obtain ⟨os, q, n⟩ := s.sl
  obtain ⟨os', q', m⟩ := q.setD (i := i) h
  exact ⟨s.ex, s.hd, s.st, ⟨os', q', fun a ha => n a (m a ha)⟩, s.an, s.tb, s.nt⟩
theorem Sat.setN {v : Option V} (s : Sat K g bs σ F H) : Sat K g (bs.set i .any) (σ.set i v) F H := by
  obtain ⟨os, q, n⟩ := s.sl
  obtain ⟨os', q', m⟩ := q.setN (i := i) (v := v)
  exact ⟨s.ex, s.hd, s.st, ⟨os', q', fun a ha => n a (m a ha)⟩, s.an, s.tb, s.nt⟩
theorem Sat.getR (s : Sat K g bs σ F H) (h : bs[i]? = some (.raw v)) : σ[i]? = some (some v) := by
  obtain ⟨os, q, n⟩ := s.sl
  exact q.getR h
theorem Sat.setR {v : V} (s : Sat K g bs σ F H) : Sat K g (bs.set i (.raw v)) (σ.set i (some v)) F H := by
  obtain ⟨os, q, n⟩ := s.sl
  obtain ⟨os', q', m⟩ := q.setR (i := i) (v := v)
  exact ⟨s.ex, s.hd, s.st, ⟨os', q', fun a ha => n a (m a ha)⟩, s.an, s.tb, s.nt⟩
/-- a step to a new list, which is one's own -/
theorem Sat.setO {p : Addr} {vs : List V} {ds : List D} (s : Sat K g bs σ F H) (e : Stp g.hd g.cm.tb F H F' H') (np : H p = none) (fp : F' p = none) (hp : H' p = some (.lst vs)) (ia : IsAll K g.cm F' vs ds) : Sat K g (bs.set i (.own ds)) (σ.set i (some (.ref p))) F' H' := by
  have s' := s.step e
  obtain ⟨os, q, n⟩ := s.sl
  have nh : ∀ q, g.hd = some q → p ≠ q.1 ∧ p ≠ q.2 := fun q hq => by
    have ha := (s.hd q hq).1
    have n1 : p ≠ q.1 := fun z => ha.some (by rw [← z]; exact np)
    exact ⟨n1, fun z => ha.cells (by rw [← z]; exact Evl.fresh_back s.ex np)⟩
  have npo : p ∉ os := fun z => by
    have : ∀ {os σ bs}, Sl K g F H os σ bs → p ∈ os → H p ≠ none := by
      intro os σ bs q
      induction q with
      | nil => intro z; cases z
      | any _ ih => exact ih
      | dat _ _ ih => exact ih
      | own h _ _ _ _ _ ih =>
        intro z
        rcases List.mem_cons.mp z with e | e
        · rw [e, h]; exact fun z => by cases z
        · exact ih e
      | oo h _ _ _ _ _ ih =>
        intro z
        rcases List.mem_cons.mp z with e | e
        · rw [e, h]; exact fun z => by cases z
        · exact ih e
      | hand _ _ ih => exact ih
      | raw _ ih => exact ih
      | bth _ _ ih => exact ih
    exact this q z np
  obtain ⟨os', q', m⟩ := (q.mono e).setO (i := i) hp fp ia nh npo
  refine ⟨s'.ex, s'.hd, s'.st, ⟨os', q', fun a ha => ?_⟩, s'.an, s'.tb, s'.nt⟩
  rcases m a ha with z | z
  · rw [z]
    cases c : g.H0 p with
    | none => rfl
    | some o => exact absurd np (s.st.dom p (by rw [c]; exact fun z => by cases z))
  · exact n a z
/-- one's own list is changed -/
theorem Sat.mutO {a : Addr} {ds es : List D} {ws : List V} (s : Sat K g bs σ F H) (hb : bs[i]? = some (.own ds)) (hσ : σ[i]? = some (some (.ref a))) (ia : IsAll K g.cm F ws es) : Sat K g (bs.set i (.own es)) σ F (upd H a (.lst ws)) := by
  obtain ⟨os, q, n⟩ := s.sl
  obtain ⟨a', vs, h1, h2, h3, h4, h5, h6⟩ := q.getO hb
  have ea : a' = a := by
    rw [h1] at hσ
    exact V.ref.inj (Option.some.inj (Option.some.inj hσ))
  subst ea
  have n0 := n a' h5
  have nF : ∀ x u, F x = some u → x ≠ a' := fun x u hx z => by rw [z, h4] at hx; cases hx
  refine ⟨fun x u hx => by rw [upd_ne (nF x u hx)]; exact s.ex x u hx, fun p hp => ⟨?_, (s.hd p hp).2⟩, ⟨s.st.ff, fun x u hx => by rw [upd_ne (nF x u hx)]; exact s.ex x u hx, s.st.own, fun b hb => ?_, fun b o hb nt nb => ?_, fun p hp hh => ?_, fun t => tabs_at (s.st.tab t) fun b o hb no => by rw [upd_ne (fun z => by rw [z, h2] at hb; cases hb; exact no.elim)]; exact hb, s.st.nt⟩, ⟨os, q.mutO ia hb hσ, n⟩, s.an, tabs_at s.tb fun b o hb no => by rw [upd_ne (fun z => by rw [z, h2] at hb; cases hb; exact no.elim)]; exact hb, s.nt⟩
  · have na := h6 p hp
    exact (s.hd p hp).1.to (Ex.refl F) fun o ho => by rw [upd_ne (Ne.symm na.1)]; exact ho
  · by_cases c : b = a'
    · rw [c, upd_same]
      exact fun z => by cases z
    · rw [upd_ne c]
      exact s.st.dom b hb
  · rw [upd_ne (ne_of_none hb n0)]
    exact s.st.kp b o hb nt nb
  · have na := h6 p hp
    exact (s.hd p hp).1.to (Ex.refl F) fun o ho => by rw [upd_ne (Ne.symm na.1)]; exact ho
/-- a part of the slots forgotten, lists that do not change any more -/
theorem Sat.le (s : Sat K g bs σ F H) (h : Le bs cs) : ∃ F', Ex F F' ∧ Sat K g cs σ F' H := by
  obtain ⟨os, q, n⟩ := s.sl
  obtain ⟨F', os', e1, e2, q', m, i, j, k⟩ := Sl.le s.ex q h
  have own' : ∀ b, g.H0 b ≠ none → F b = none → F' b = none := fun b hb fb => i b (fun z => hb (n b z)) fb
  refine ⟨F', e1, e2, fun p hp => ⟨(s.hd p hp).1.to e1 fun _ h => h, ?_⟩, ⟨s.st.ff.trans e1, e2, fun b hb fb => own' b hb (s.st.own b hb fb), s.st.dom, s.st.kp, fun p hp h => (s.st.hand p hp h).to e1 fun _ h => h, s.st.tab, fun n => k.2 (s.st.nt n)⟩, ⟨os', q', fun a ha => n a (m a ha)⟩, s.an.trans e1, s.tb, k.2 s.nt⟩
  cases c : F' p.1 with
  | none => rfl
  | some o =>
    rcases k.1 p.1 (by rw [c]; exact fun z => by cases z) with z | z
    · exact absurd (s.hd p hp).2 z
    · exact absurd rfl (z p hp)
theorem Sl.gv {A : Hp} : ∀ {os : List Addr} {σ : List (Option V)} {bs : List B}, Sl K g F H os σ bs → Sl K (g.an A) F H os σ bs
  | _, _, _, .nil => .nil
  | _, _, _, .any q => .any (Sl.gv q)
  | _, _, _, .dat h q => .dat h (Sl.gv q)
  | _, _, _, .own h i f n nh q => .own h i f n nh (Sl.gv q)
  | _, _, _, .oo h i f n nh q => .oo h i f n nh (Sl.gv q)
  | _, _, _, .hand e q => .hand e (Sl.gv q)
  | _, _, _, .raw q => .raw (Sl.gv q)
  | _, _, _, .bth x q => .bth x (Sl.gv q)
theorem Sl.vg {A : Hp} : ∀ {os : List Addr} {σ : List (Option V)} {bs : List B}, Sl K (g.an A) F H os σ bs → Sl K g F H os σ bs
  | _, _, _, .nil => .nil
  | _, _, _, .any q => .any (Sl.vg q)
  | _, _, _, .dat h q => .dat h (Sl.vg q)
  | _, _, _, .own h i f n nh q => .own h i f n nh (Sl.vg q)
  | _, _, _, .oo h i f n nh q => .oo h i f n nh (Sl.vg q)
  | _, _, _, .hand e q => .hand e (Sl.vg q)
  | _, _, _, .raw q => .raw (Sl.vg q)
  | _, _, _, .bth x q => .bth x (Sl.vg q)
theorem Sat.anch {A : Hp} (s : Sat K g bs σ F H) (e : Ex A F) : Sat K (g.an A) bs σ F H := by
  obtain ⟨os, q, n⟩ := s.sl
  exact ⟨s.ex, s.hd, s.st, ⟨os, q.gv, n⟩, e, s.tb, s.nt⟩
theorem Sat.unan {A : Hp} (s : Sat K (g.an A) bs σ F H) (e : Ex g.A A) : Sat K g bs σ F H := by
  obtain ⟨os, q, n⟩ := s.sl
  exact ⟨s.ex, s.hd, s.st, ⟨os, q.vg, n⟩, e.trans s.an, s.tb, s.nt⟩
/-! ### what is read: data, or a list of one's own -/
inductive Rs (K : PySem.W.Frag) (g : Gv) (F H : Hp) : V → D → Prop
  | is {v : V} {d : D} (h : Is K g.cm F v d) : Rs K g F H v d
  | own {a : Addr} {vs : List V} {ds : List D} (h : H a = some (.lst vs)) (q : IsAll K g.cm F vs ds) (n : ∀ p, g.hd = some p → a ≠ p.1) : Rs K g F H (.ref a) (.lst ds)
theorem Rs.step (s : Stp g.hd g.cm.tb F H F' H') (h : Rs K g F H v d) : Rs K g F' H' v d := by
  cases h with
  | is h => exact .is (h.mono s.ff)
  | own h q n => exact .own (s.kpL h n) (q.mono s.ff) n
theorem Rs.int {j : Int} (h : Rs K g F H v (.int j)) : v = .int j := by
  cases h with
  | is h => exact h.int_inv
theorem Rs.bl {j : Bool} (h : Rs K g F H v (.bl j)) : v = .bl j := by
  cases h with
  | is h => exact h.bl_inv
theorem Rs.str {j : Str} (h : Rs K g F H v (.str j)) : v = .str j := by
  cases h with
  | is h => exact h.str_inv
theorem Rs.non (h : Rs K g F H v .non) : v = .non := by
  cases h with
  | is h => exact h.non_inv
theorem Rs.lst {ds : List D} (e : Ex F H) (h : Rs K g F H v (.lst ds)) : ∃ a vs, v = .ref a ∧ H a = some (.lst vs) ∧ IsAll K g.cm F vs ds := by
  cases h with
  | is h =>
    cases h with
    | lst h q => exact ⟨_, _, rfl, e _ _ h, q⟩
  | own h q n => exact ⟨_, _, rfl, h, q⟩
theorem Rs.tup {ds : List D} (e : Ex F H) (h : Rs K g F H v (.tup ds)) : ∃ a vs, v = .ref a ∧ SqT K H a vs ∧ KT.Tt K F a vs ∧ IsAll K g.cm F vs ds := by
  cases h with
  | is h =>
    cases h with
    | tup h q => exact ⟨_, _, rfl, Evl.ex_t e h.sq, h, q⟩
theorem Rs.data (h : Rs K g F H v d) (n : ∀ ds, d ≠ .lst ds) : Is K g.cm F v d := by
  cases h with
  | is h => exact h
  | own _ _ _ => exact absurd rfl (n _)
/-! ### readings by data -/
def tM (K : PySem.W.Frag) (g : Gv) (bs : List B) (m : (D → Prop) → Prop) : TE := fun σ H Q => ∃ F k, Sat K g bs σ F H ∧ m k ∧ ∀ d v F' H', k d → Stp g.hd g.cm.tb F H F' H' → Is K g.cm F' v d → Q v H'
def tR (K : PySem.W.Frag) (g : Gv) (bs : List B) (m : (D → Prop) → Prop) : TE := fun σ H Q => ∃ F k, Sat K g bs σ F H ∧ m k ∧ ∀ d v F' H', k d → Stp g.hd g.cm.tb F H F' H' → Rs K g F' H' v d → Q v H'
def tL (K : PySem.W.Frag) (g : Gv) (bs : List B) (m : (List D → Prop) → Prop) : TE := fun σ H Q => ∃ F k, Sat K g bs σ F H ∧ m k ∧ ∀ ds p vs F' H', k ds → Stp g.hd g.cm.tb F H F' H' → H p = none → F' p = none → H' p = some (.lst vs) → IsAll K g.cm F' vs ds → Q (.ref p) H'
def tT (K : PySem.W.Frag) (g : Gv) (bs : List B) (m : (Bool → Prop) → Prop) : TT := fun σ H Q => ∃ F k, Sat K g bs σ F H ∧ m k ∧ ∀ b F' H', k b → Stp g.hd g.cm.tb F H F' H' → Q b H'
def tA (K : PySem.W.Frag) (g : Gv) (bs : List B) (m : (List D → Prop) → Prop) : TA := fun σ H Q => ∃ F k, Sat K g bs σ F H ∧ m k ∧ ∀ ds vs F' H', k ds → Stp g.hd g.cm.tb F H F' H' → IsAll K g.cm F' vs ds → Q vs H'
inductive RsAll (K : PySem.W.Frag) (g : Gv) (F H : Hp) : List V → List D → Prop
  | nil : RsAll K g F H [] []
  | cons {v : V} {vs : List V} {d : D} {ds : List D} (h : Rs K g F H v d) (q : RsAll K g F H vs ds) : RsAll K g F H (v :: vs) (d :: ds)
theorem RsAll.step (s : Stp g.hd g.cm.tb F H F' H') : ∀ {vs : List V} {ds : List D}, RsAll K g F H vs ds → RsAll K g F' H' vs ds
  | _, _, .nil => .nil
  | _, _, .cons h q => .cons (h.step s) (RsAll.step s q)
def tAR (K : PySem.W.Frag) (g : Gv) (bs : List B) (m : (List D → Prop) → Prop) : TA := fun σ H Q => ∃ F k, Sat K g bs σ F H ∧ m k ∧ ∀ ds vs F' H', k ds → Stp g.hd g.cm.tb F H F' H' → RsAll K g F' H' vs ds → Q vs H'
/-! ### mirrors -/
@[reducible] def wv (d : D) : (D → Prop) → Prop := fun k => k d
@[reducible] def wl (m : (List D → Prop) → Prop) : (D → Prop) → Prop := fun k => m fun ds => k (.lst ds)
@[reducible] def w1 (f : D → (D → Prop) → Prop) (ma : (D → Prop) → Prop) : (D → Prop) → Prop := fun k => ma fun a => f a k
@[reducible] def w2 (f : D → D → (D → Prop) → Prop) (ma mb : (D → Prop) → Prop) : (D → Prop) → Prop := fun k => ma fun a => mb fun b => f a b k
@[reducible] def w1L (f : D → (List D → Prop) → Prop) (ma : (D → Prop) → Prop) : (List D → Prop) → Prop := fun k => ma fun a => f a k
@[reducible] def w2L (f : D → D → (List D → Prop) → Prop) (ma mb : (D → Prop) → Prop) : (List D → Prop) → Prop := fun k => ma fun a => mb fun b => f a b k
@[reducible] def wnil : (List D → Prop) → Prop := fun k => k []
@[reducible] def wcons (ma : (D → Prop) → Prop) (mr : (List D → Prop) → Prop) : (List D → Prop) → Prop := fun k => ma fun a => mr fun r => k (a :: r)
@[reducible] def wA (f : List D → (D → Prop) → Prop) (ma : (List D → Prop) → Prop) : (D → Prop) → Prop := fun k => ma fun a => f a k
@[reducible] def wAL (f : List D → (List D → Prop) → Prop) (ma : (List D → Prop) → Prop) : (List D → Prop) → Prop := fun k => ma fun a => f a k
end
section
variable {X : Cx} {g : Gv} {bs : List B} {e : Expr} {es : List Expr} {t t' : TE}
theorem PE.imp (h : PE X e t) (i : ∀ σ H Q, t' σ H Q → t σ H Q) : PE X e t' := ⟨fun pins s σ H Q I q => h.run pins s σ H Q I (i σ H Q q)⟩
theorem PT.imp {t t' : TT} (h : PT X e t) (i : ∀ σ H Q, t' σ H Q → t σ H Q) : PT X e t' := ⟨fun pins s σ H Q I q => h.run pins s σ H Q I (i σ H Q q)⟩
theorem PW.imp {t t' : TT} (h : PW X e t) (i : ∀ σ H Q, t' σ H Q → t σ H Q) : PW X e t' := ⟨fun whole pins s σ H Q I q => h.run whole pins s σ H Q I (i σ H Q q)⟩
theorem PA.imp {t t' : TA} (h : PA X es t) (i : ∀ σ H Q, t' σ H Q → t σ H Q) : PA X es t' := ⟨fun pos pins s σ H Q I q => h.run pos pins s σ H Q I (i σ H Q q)⟩
theorem PSs.imp {b : List Stmt} {t t' : TS} (h : PSs X b t) (i : ∀ D σ H, t' D σ H → t D σ H) : PSs X b t' := ⟨fun pins s σ H D I q => h.run pins s σ H D I (i D σ H q)⟩
variable {m : (D → Prop) → Prop} {mL : (List D → Prop) → Prop}
theorem e_r (h : PE X e (tM X.K g bs m)) : PE X e (tR X.K g bs m) := PE.imp h fun σ H Q ⟨F, k, s, hm, q⟩ => ⟨F, k, s, hm, fun d v F' H' kd st i => q d v F' H' kd st (.is i)⟩
theorem e_l (h : PE X e (tL X.K g bs mL)) : PE X e (tM X.K g bs (wl mL)) := PE.imp h fun σ H Q ⟨F, k, s, hm, q⟩ => by
  refine ⟨F, fun ds => k (.lst ds), s, hm, fun ds p vs F' H' kd st np fp hp ia => ?_⟩
  refine q (.lst ds) (.ref p) (upd F' p (.lst vs)) H' kd ⟨st.ff.trans (Ex.new fp), fun a u ha => ?_, fun b hb fb => ?_, st.dom, st.kp, fun p hp h => (st.hand p hp h).to (Ex.new fp) fun _ h => h, st.tab, fun n => (st.nt n).upd fun _ z => nomatch z⟩ (.lst upd_same (ia.mono (Ex.new fp)))
  · by_cases c : a = p
    · subst c
      rw [upd_same] at ha
      rw [hp]
      exact ha
    · rw [upd_ne c] at ha
      exact st.fh a u ha
  · rw [upd_ne (fun z => hb (by rw [z]; exact np))]
    exact st.own b hb fb
theorem e_lr (h : PE X e (tL X.K g bs mL)) : PE X e (tR X.K g bs (wl mL)) := e_r (e_l h)
end
end FE
set_option Elab.async false
set_option linter.all false
set_option maxRecDepth 100000
set_option maxHeartbeats 4000000
/-! Expressions by data: operators, comparisons, subscripts. -/
namespace FE
open PySem L2
open Evl (Ex)
/-! ### data as the library's -/
mutual
def D.py : D → PyData
  | .non => .none
  | .bl b => .bool b
  | .int i => .int i
  | .str s => .str s
  | .lst l => .list (D.pyAll l)
  | .tup l => .tuple (D.pyAll l)
  | .dic _ _ => .none
  | .dik _ _ => .none
  | .dit _ _ => .none
  | .cod _ => .none
  | .obj _ _ _ => .none
def D.pyAll : List D → List PyData
  | [] => []
  | d :: r => D.py d :: D.pyAll r
end
mutual
def D.can : Nat → D → Bool
  | _, .non => true
  | _, .bl _ => true
  | _, .int _ => true
  | _, .str s => s.cps.all (· < 0x110000)
  | 0, .lst _ => false
  | 0, .tup _ => false
  | n + 1, .lst l => D.canAll n l
  | n + 1, .tup l => D.canAll n l
  | _, .dic _ _ => false
  | _, .dik _ _ => false
  | _, .dit _ _ => false
  | _, .cod _ => false
  | _, .obj _ _ _ => false
def D.canAll : Nat → List D → Bool
  | _, [] => true
  | n, d :: r => D.can n d && D.canAll n r
end
mutual
def D.eqb : D → D → Bool
  | .non, .non => true
  | .bl a, .bl b => a == b
  | .bl a, .int j => (if a then 1 else 0) == j
  | .int i, .bl b => i == (if b then 1 else 0)
  | .int i, .int j => i == j
  | .str x, .str y => x == y
  | .lst xs, .lst ys => D.eqbAll xs ys
  | .tup xs, .tup ys => D.eqbAll xs ys
  | _, _ => false
def D.eqbAll : List D → List D → Bool
  | [], [] => true
  | x :: xs, y :: ys => D.eqb x y && D.eqbAll xs ys
  | _, _ => false
end
mutual
theorem D.can_py : ∀ (n : Nat) (d : D), d.can n = true → d.py.canLay0 = true ∧ d.py.depth ≤ n
  | _, .non, _ => by simp [D.py, PyData.canLay0, PyData.depth]
  | _, .bl _, _ => by simp [D.py, PyData.canLay0, PyData.depth]
  | _, .int _, _ => by simp [D.py, PyData.canLay0, PyData.depth]
  | n, .str s, h => by
    have h' : s.cps.all (· < 0x110000) = true := by simpa [D.can] using h
    exact ⟨by simpa [D.py, PyData.canLay0, PyData.strOk] using h', by simp [D.py, PyData.depth]⟩
  | 0, .lst _, h => by simp [D.can] at h
  | 0, .tup _, h => by simp [D.can] at h
  | n + 1, .lst l, h => by
    have q := D.canAll_py n l (by simpa [D.can] using h)
    exact ⟨by simpa [D.py, PyData.canLay0] using q.1, by simpa [D.py, PyData.depth] using q.2⟩
  | n + 1, .tup l, h => by
    have q := D.canAll_py n l (by simpa [D.can] using h)
    exact ⟨by simpa [D.py, PyData.canLay0] using q.1, by simpa [D.py, PyData.depth] using q.2⟩
  | 0, .dic _ _, h => by simp [D.can] at h
  | 0, .dik _ _, h => by simp [D.can] at h
  | 0, .dit _ _, h => by simp [D.can] at h
  | 0, .cod _, h => by simp [D.can] at h
  | n + 1, .dic _ _, h => by simp [D.can] at h
  | n + 1, .dik _ _, h => by simp [D.can] at h
  | n + 1, .dit _ _, h => by simp [D.can] at h
  | n + 1, .cod _, h => by simp [D.can] at h
  | 0, .obj _ _ _, h => by simp [D.can] at h
  | n + 1, .obj _ _ _, h => by simp [D.can] at h
theorem D.canAll_py : ∀ (n : Nat) (l : List D), D.canAll n l = true → PyData.canLayAll0 (D.pyAll l) = true ∧ PyData.depthAll (D.pyAll l) ≤ n
  | _, [], _ => by simp [D.pyAll, PyData.canLayAll0, PyData.depthAll]
  | n, d :: r, h => by
    have h' : d.can n = true ∧ D.canAll n r = true := by simpa [D.canAll] using h
    have q1 := D.can_py n d h'.1
    have q2 := D.canAll_py n r h'.2
    refine ⟨by simp [D.pyAll, PyData.canLayAll0, q1.1, q2.1], ?_⟩
    simp only [D.pyAll, PyData.depthAll]
    exact Nat.max_le.mpr ⟨q1.2, q2.2⟩
end
mutual
theorem D.eqv_py : ∀ (n m : Nat) (d e : D), d.can n = true → e.can m = true → PyData.eqv d.py e.py = D.eqb d e
  | n, m, .non, e, _, h => by cases e <;> first | (simp [D.py, PyData.eqv, D.eqb]; done) | (cases m <;> simp [D.can] at h)
  | n, m, .bl _, e, _, h => by cases e <;> first | (simp [D.py, PyData.eqv, D.eqb]; done) | (cases m <;> simp [D.can] at h)
  | n, m, .int _, e, _, h => by cases e <;> first | (simp [D.py, PyData.eqv, D.eqb]; done) | (cases m <;> simp [D.can] at h)
  | n, m, .str _, e, _, h => by cases e <;> first | (simp [D.py, PyData.eqv, D.eqb]; done) | (cases m <;> simp [D.can] at h)
  | 0, m, .lst _, e, h, _ => by simp [D.can] at h
  | 0, m, .tup _, e, h, _ => by simp [D.can] at h
  | 0, m, .dic _ _, e, h, _ => by simp [D.can] at h
  | 0, m, .dik _ _, e, h, _ => by simp [D.can] at h
  | 0, m, .dit _ _, e, h, _ => by simp [D.can] at h
  | 0, m, .cod _, e, h, _ => by simp [D.can] at h
  | 0, m, .obj _ _ _, e, h, _ => by simp [D.can] at h
  | n + 1, m, .dic _ _, e, h, _ => by simp [D.can] at h
  | n + 1, m, .dik _ _, e, h, _ => by simp [D.can] at h
  | n + 1, m, .dit _ _, e, h, _ => by simp [D.can] at h
  | n + 1, m, .cod _, e, h, _ => by simp [D.can] at h
  | n + 1, m, .obj _ _ _, e, h, _ => by simp [D.can] at h
  | n + 1, m, .lst l, e, h1, h2 => by
    cases e with
    | lst r =>
      cases m with
      | zero => simp [D.can] at h2
      | succ m =>
        simp only [D.py, PyData.eqv, D.eqb]
        exact D.eqvAll_py n m l r (by simpa [D.can] using h1) (by simpa [D.can] using h2)
    | dic _ _ => cases m <;> simp [D.can] at h2
    | dik _ _ => cases m <;> simp [D.can] at h2
    | dit _ _ => cases m <;> simp [D.can] at h2
    | cod _ => cases m <;> simp [D.can] at h2
    | obj _ _ _ => cases m <;> simp [D.can] at h2
    | _ => simp [D.py, PyData.eqv, D.eqb]
  | n + 1, m, .tup l, e, h1, h2 => by
    cases e with
    | tup r =>
      cases m with
      | zero => simp [D.can] at h2
      | succ m =>
        simp only [D.py, PyData.eqv, D.eqb]
        exact D.eqvAll_py n m l r (by simpa [D.can] using h1) (by simpa [D.can] using h2)
    | dic _ _ => cases m <;> simp [D.can] at h2
    | dik _ _ => cases m <;> simp [D.can] at h2
    | dit _ _ => cases m <;> simp [D.can] at h2
    | cod _ => cases m <;> simp [D.can] at h2
    | obj _ _ _ => cases m <;> simp [D.can] at h2
    | _ => simp [D.py, PyData.eqv, D.eqb]
theorem D.eqvAll_py : ∀ (n m : Nat) (l r : List D), D.canAll n l = true → D.canAll m r = true → PyData.eqvAll (D.pyAll l) (D.pyAll r) = D.eqbAll l r
  | n, m, [], [], _, _ => by simp [D.pyAll, PyData.eqvAll, D.eqbAll]
  | n, m, [], _ :: _, _, _ => by simp [D.pyAll, PyData.eqvAll, D.eqbAll]
  | n, m, _ :: _, [], _, _ => by simp [D.pyAll, PyData.eqvAll, D.eqbAll]
  | n, m, x :: xs, y :: ys, h1, h2 => by
    have h1' : x.can n = true ∧ D.canAll n xs = true := by simpa [D.canAll] using h1
    have h2' : y.can m = true ∧ D.canAll m ys = true := by simpa [D.canAll] using h2
    simp only [D.pyAll, PyData.eqvAll, D.eqbAll]
    rw [D.eqv_py n m x y h1'.1 h2'.1, D.eqvAll_py n m xs ys h1'.2 h2'.2]
end
section
variable {K : PySem.W.Frag} {g : Gv} {cm : Cm} {F F' H H' : Hp} {v w : V} {d e : D} {n : Nat}
mutual
theorem Is.dp : ∀ {n : Nat} {d : D} {v : V}, Is K cm F v d → d.can n = true → Dp K F v d.py
  | _, _, _, .non, _ => .non
  | _, _, _, .bl b, _ => .bl b
  | _, _, _, .int b, _ => .int b
  | _, _, _, .str b, _ => .str b
  | 0, _, _, .lst _ _, h => by simp [D.can] at h
  | 0, _, _, .tup _ _, h => by simp [D.can] at h
  | n + 1, _, _, .lst h q, c => .lst (SqL.of h) (IsAll.dp (n := n) q (by simpa [D.can] using c))
  | n + 1, _, _, .tup h q, c => .tup h.sq (IsAll.dp (n := n) q (by simpa [D.can] using c))
  | 0, _, _, .dic _ _ _, h => by simp [D.can] at h
  | 0, _, _, .dik _ _ _, h => by simp [D.can] at h
  | 0, _, _, .dit _ _ _, h => by simp [D.can] at h
  | 0, _, _, .cod _ _, h => by simp [D.can] at h
  | n + 1, _, _, .dic _ _ _, h => by simp [D.can] at h
  | n + 1, _, _, .dik _ _ _, h => by simp [D.can] at h
  | n + 1, _, _, .dit _ _ _, h => by simp [D.can] at h
  | n + 1, _, _, .cod _ _, h => by simp [D.can] at h
  | 0, _, _, .obj _ _ _ _, h => by simp [D.can] at h
  | n + 1, _, _, .obj _ _ _ _, h => by simp [D.can] at h
theorem IsAll.dp : ∀ {n : Nat} {ds : List D} {vs : List V}, IsAll K cm F vs ds → D.canAll n ds = true → DpAll K F vs (D.pyAll ds)
  | _, _, _, .nil, _ => .nil
  | n, _, _, .cons (d := d) (ds := ds) h q, c => by
    have c' : d.can n = true ∧ D.canAll n ds = true := by simpa [D.canAll] using c
    exact .cons (h.dp c'.1) (q.dp c'.2)
end
theorem Rs.dp (e : Ex F H) (h : Rs K g F H v d) (c : d.can n = true) : Dp K H v d.py := by
  cases h with
  | is h => exact (h.mono e).dp c
  | own h q _ =>
    cases n with
    | zero => simp [D.can] at c
    | succ n => exact .lst (SqL.of h) ((q.mono e).dp (n := n) (by simpa [D.can] using c))
theorem D.shp (h : d.can 64 = true) : SeqAt.shaped d.py = true := Bool.and_eq_true_iff.mpr ⟨(D.can_py 64 d h).1, decide_eq_true (D.can_py 64 d h).2⟩
end
/-! ### what operators do with data -/
def oAdd : D → D → (D → Prop) → Prop
  | .int a, .int b, k => k (.int (a + b))
  | .tup a, .tup b, k => a.length + b.length ≤ 100000 ∧ k (.tup (a ++ b))
  | .lst a, .lst b, k => a.length + b.length ≤ 100000 ∧ k (.lst (a ++ b))
  | .str a, .str b, k => a.length + b.length ≤ 100000 ∧ k (.str (a ++ b))
  | _, _, _ => False
def oAddL : D → D → (List D → Prop) → Prop
  | .lst a, .lst b, k => a.length + b.length ≤ 100000 ∧ k (a ++ b)
  | _, _, _ => False
def oSub : D → D → (D → Prop) → Prop
  | .int a, .int b, k => k (.int (a - b))
  | _, _, _ => False
def oMul : D → D → (D → Prop) → Prop
  | .int a, .int b, k => CMulW a b ∧ k (.int (a * b))
  | .lst a, .int b, k => (-100000 ≤ b ∧ b ≤ 100000 ∧ a.length * b.toNat ≤ 100000) ∧ k (.lst (List.replicate b.toNat a).flatten)
  | .tup a, .int b, k => (-1000 ≤ b ∧ b ≤ 1000 ∧ a.length ≤ 1000) ∧ k (.tup (List.replicate b.toNat a).flatten)
  | _, _, _ => False
def oMulL : D → D → (List D → Prop) → Prop
  | .lst a, .int b, k => (-100000 ≤ b ∧ b ≤ 100000 ∧ a.length * b.toNat ≤ 100000) ∧ k (List.replicate b.toNat a).flatten
  | _, _, _ => False
def oMod : D → D → (D → Prop) → Prop
  | .int a, .int b, k => 0 < b ∧ k (.int (a % b))
  | _, _, _ => False
def oDiv : D → D → (D → Prop) → Prop
  | .int a, .int b, k => CDiv a b ∧ k (.int (a / b))
  | _, _, _ => False
def oPow : D → D → (D → Prop) → Prop
  | .int a, .int b, k => CPow a b ∧ k (.int (a ^ b.toNat))
  | _, _, _ => False
def oCmp (p : Int → Int → Bool) : D → D → (D → Prop) → Prop
  | .int a, .int b, k => k (.bl (p a b))
  | _, _, _ => False
def oEq (d e : D) (k : D → Prop) : Prop := (d.can 64 = true ∧ e.can 64 = true) ∧ k (.bl (d.eqb e))
def oNe (d e : D) (k : D → Prop) : Prop := (d.can 64 = true ∧ e.can 64 = true) ∧ k (.bl (!d.eqb e))
def D.isNon : D → Bool
  | .non => true
  | _ => false
def oIsN (d e : D) (k : D → Prop) : Prop := e = .non ∧ k (.bl d.isNon)
def oNotN (d e : D) (k : D → Prop) : Prop := e = .non ∧ k (.bl (!d.isNon))
def D.flat : D → Bool
  | .non => true
  | .bl _ => true
  | .int _ => true
  | .str _ => true
  | _ => false
def inD (d : D) (es : List D) : Bool := es.any fun y => D.eqb y d
def oIn : D → D → (D → Prop) → Prop
  | d, .tup es, k => (d.flat = true ∧ es.all D.flat = true) ∧ k (.bl (inD d es))
  | d, .lst es, k => ((d.flat = true ∧ es.all D.flat = true) ∨ (d.can 63 = true ∧ D.canAll 63 es = true)) ∧ k (.bl (inD d es))
  | .str s, .str z, k => ∃ c, s = ⟨#[c]⟩ ∧ k (.bl (decide (c ∈ z.cps.toList)))
  | _, _, _ => False
def oNotIn (d e : D) (k : D → Prop) : Prop := oIn d e fun x => match x with
  | .bl b => k (.bl (!b))
  | _ => False
def oIx : D → D → (D → Prop) → Prop
  | .lst ds, .int i, k => ∃ x, atI ds i = some x ∧ k x
  | .tup ds, .int i, k => ∃ x, atI ds i = some x ∧ k x
  | .str s, .int i, k => s.length ≤ 100000 ∧ ∃ c, atI s.cps.toList i = some c ∧ k (.str ⟨#[c]⟩)
  | _, _, _ => False
def cutD {α : Type} (xs : List α) (lo hi : Option Int) : List α := (xs.drop (HT.sIx xs.length 0 lo)).take (HT.sIx xs.length xs.length hi - HT.sIx xs.length 0 lo)
def oNeg : D → (D → Prop) → Prop
  | .int a, k => k (.int (-a))
  | _, _ => False
section
variable {K : PySem.W.Frag} {g : Gv} {cm : Cm} {F F' H H' : Hp} {v w : V} {d e : D} {vs : List V} {ds : List D}
theorem Is.flat (h : Is K cm F v d) : flatV v = d.flat := by cases h <;> rfl
theorem IsAll.flat : ∀ {vs : List V} {ds : List D}, IsAll K cm F vs ds → vs.all flatV = ds.all D.flat
  | _, _, .nil => rfl
  | _, _, .cons h q => by rw [List.all_cons, List.all_cons, h.flat, IsAll.flat q]
theorem Is.eqV (h1 : Is K cm F v d) (h2 : Is K cm F w e) (f1 : d.flat = true) (f2 : e.flat = true) : eqV v w = D.eqb d e := by
  cases h1 <;> cases h2 <;> first | rfl | (simp [D.flat] at f1; done) | (simp [D.flat] at f2; done) | (simp [L2.eqV, D.eqb]; done)
theorem IsAll.inV (h : Is K cm F v d) (f : d.flat = true) : ∀ {vs : List V} {ds : List D}, IsAll K cm F vs ds → ds.all D.flat = true → inV v vs = inD d ds
  | _, _, .nil, _ => rfl
  | _, _, .cons h1 q, f2 => by
    rw [List.all_cons, Bool.and_eq_true] at f2
    show (L2.eqV _ v || _) = (D.eqb _ d || _)
    rw [h1.eqV h f2.1 f]
    congr 1
    exact IsAll.inV h f q f2.2
theorem pyAll_any (hd : d.can 63 = true) : ∀ {ds : List D}, D.canAll 63 ds = true → ((D.pyAll ds).any fun z => PyData.eqv z d.py) = inD d ds
  | [], _ => rfl
  | e :: r, c => by
    have c' : e.can 63 = true ∧ D.canAll 63 r = true := by simpa [D.canAll] using c
    show (PyData.eqv e.py d.py || _) = (D.eqb e d || _)
    rw [D.eqv_py 63 63 e d c'.1 hd]
    congr 1
    exact pyAll_any hd c'.2
theorem IsAll.atI {i : Int} {x : D} (q : IsAll K cm F vs ds) (h : atI ds i = some x) : ∃ v, L2.atI vs i = some v ∧ Is K cm F v x := by
  unfold L2.atI at h ⊢
  rw [q.len]
  cases c : ixN ds.length i with
  | none => rw [c] at h; cases h
  | some j =>
    rw [c] at h
    exact q.get h
theorem IsAll.cut {lo hi : Option Int} (q : IsAll K cm F vs ds) : IsAll K cm F (cutV vs lo hi) (cutD ds lo hi) := by
  unfold cutV cutD
  rw [q.len]
  exact (q.drop _).take _
theorem IsAll.flatten : ∀ n : Nat, IsAll K cm F vs ds → IsAll K cm F (List.replicate n vs).flatten (List.replicate n ds).flatten
  | 0, _ => .nil
  | n + 1, q => by
    rw [List.replicate_succ, List.replicate_succ, List.flatten_cons, List.flatten_cons]
    exact q.app (IsAll.flatten n q)
end
/-- an operator by values does what it does with data -/
def R2D (K : PySem.W.Frag) (g : Gv) (r : R2) (f : D → D → (D → Prop) → Prop) : Prop := ∀ (x y : V) (d e : D) (F H : Hp) (k : D → Prop) (Q : VK), Ex F H → Rs K g F H x d → Rs K g F H y e → f d e k →
  (∀ z v F' H', k z → Stp g.hd g.cm.tb F H F' H' → Is K g.cm F' v z → Q v H') → r x y H Q
def R2L (K : PySem.W.Frag) (g : Gv) (r : R2) (f : D → D → (List D → Prop) → Prop) : Prop := ∀ (x y : V) (d e : D) (F H : Hp) (k : List D → Prop) (Q : VK), Ex F H → Rs K g F H x d → Rs K g F H y e → f d e k →
  (∀ ds p vs F' H', k ds → Stp g.hd g.cm.tb F H F' H' → H p = none → F' p = none → H' p = some (.lst vs) → IsAll K g.cm F' vs ds → Q (.ref p) H') → r x y H Q
theorem OpR.or {X : Cx} {f : Value → Value → Sem Value} {r r' : R2} (h : OpR X f r) (h' : OpR X f r') : OpR X f (fun x y H Q => r x y H Q ∨ r' x y H Q) := by
  intro pins s σ H x y v u Q I rx ry q
  rcases q with q | q
  · exact h pins s σ H x y v u Q I rx ry q
  · exact h' pins s σ H x y v u Q I rx ry q
section
variable {K : PySem.W.Frag} {g : Gv} {F F' H H' : Hp}
/-- the answer is a value that stands for data where it is -/
theorem ret0 {k : D → Prop} {Q : VK} {z : D} {v : V} (e : Ex F H) (i : Is K g.cm F v z) (kz : k z) (q : ∀ z v F' H', k z → Stp g.hd g.cm.tb F H F' H' → Is K g.cm F' v z → Q v H') : Q v H := q z v F H kz (Stp.refl e) i
theorem ret_tup {k : D → Prop} {Q : VK} {vs : List V} {ds : List D} (e : Ex F H) (i : IsAll K g.cm F vs ds) (kz : k (.tup ds)) (q : ∀ z v F' H', k z → Stp g.hd g.cm.tb F H F' H' → Is K g.cm F' v z → Q v H') : ∀ p o, H p = none → o.dict = none → Q (.ref p) (upd H p (.frz o (.tup vs))) :=
  fun p o np nd => q (.tup ds) (.ref p) (upd F p (.frz o (.tup vs))) _ kz (Stp.new e np) (.tup (KT.Tt.of upd_same nd) (i.mono (Ex.new (Evl.fresh_back e np))))
theorem ret_lst {k : D → Prop} {Q : VK} {vs : List V} {ds : List D} (e : Ex F H) (i : IsAll K g.cm F vs ds) (kz : k (.lst ds)) (q : ∀ z v F' H', k z → Stp g.hd g.cm.tb F H F' H' → Is K g.cm F' v z → Q v H') : ∀ p, H p = none → Q (.ref p) (upd H p (.lst vs)) :=
  fun p np => q (.lst ds) (.ref p) (upd F p (.lst vs)) _ kz (Stp.new e np) (.lst upd_same (i.mono (Ex.new (Evl.fresh_back e np))))
theorem ret_own {k : List D → Prop} {Q : VK} {vs : List V} {ds : List D} (e : Ex F H) (i : IsAll K g.cm F vs ds) (kz : k ds) (q : ∀ ds p vs F' H', k ds → Stp g.hd g.cm.tb F H F' H' → H p = none → F' p = none → H' p = some (.lst vs) → IsAll K g.cm F' vs ds → Q (.ref p) H') : ∀ p, H p = none → Q (.ref p) (upd H p (.lst vs)) :=
  fun p np => q ds p vs F _ kz (Stp.newOwn e np) np (Evl.fresh_back e np) upd_same i
theorem sz5 {n : Nat} (h : n ≤ 100000) : n ≤ sizeLine := Nat.le_trans h (by decide)
def rAddA (K : PySem.W.Frag) : R2 := fun x y H Q => (∃ i j, x = .int i ∧ y = .int j ∧ Q (.int (i + j)) H) ∨ KT.rCatS K x y H Q ∨ rCat x y H Q ∨ ∃ i j, x = .str i ∧ y = .str j ∧ i.length + j.length ≤ sizeLine ∧ Q (.str (i ++ j)) H
theorem op_addA {X : Cx} : OpR X (binaryOp .Add) (rAddA X.K) := OpR.or op_add (OpR.or KT.op_catS (OpR.or op_cat op_add_str))
theorem d_add : R2D K g (rAddA K) oAdd := by
  intro x y d e F H k Q ex hx hy f q
  unfold oAdd at f
  split at f
  · rw [hx.int, hy.int]
    exact .inl ⟨_, _, rfl, rfl, ret0 ex (.int _) f q⟩
  · obtain ⟨a, us, rfl, ha, fa, ia⟩ := hx.tup ex
    obtain ⟨b, ws, rfl, hb, fb, ib⟩ := hy.tup ex
    have l1 := ia.len
    have l2 := ib.len
    refine .inr (.inl ⟨a, b, us, ws, rfl, rfl, ha, hb, sz5 (by omega), fun z => ?_, fun _ z => ?_, fun _ _ => ret_tup ex (ia.app ib) f.2 q⟩)
    · subst z
      have : IsAll K g.cm F ([] ++ ws) _ := ia.app ib
      exact ret0 ex (.tup fb this) f.2 q
    · subst z
      have : IsAll K g.cm F (us ++ []) _ := ia.app ib
      rw [List.append_nil] at this
      exact ret0 ex (.tup fa this) f.2 q
  · obtain ⟨a, us, rfl, ha, ia⟩ := hx.lst ex
    obtain ⟨b, ws, rfl, hb, ib⟩ := hy.lst ex
    have l1 := ia.len
    have l2 := ib.len
    exact .inr (.inr (.inl ⟨a, b, us, ws, rfl, rfl, ha, hb, sz5 (by omega), ret_lst ex (ia.app ib) f.2 q⟩))
  · rw [hx.str, hy.str]
    exact .inr (.inr (.inr ⟨_, _, rfl, rfl, sz5 f.1, ret0 ex (.str _) f.2 q⟩))
  · exact f.elim
theorem d_addL : R2L K g rCat oAddL := by
  intro x y d e F H k Q ex hx hy f q
  unfold oAddL at f
  split at f
  · obtain ⟨a, us, rfl, ha, ia⟩ := hx.lst ex
    obtain ⟨b, ws, rfl, hb, ib⟩ := hy.lst ex
    have l1 := ia.len
    have l2 := ib.len
    exact ⟨a, b, us, ws, rfl, rfl, ha, hb, sz5 (by omega), ret_own ex (ia.app ib) f.2 q⟩
  · exact f.elim
theorem d_sub : R2D K g (rI0 fun i j => .int (i - j)) oSub := by
  intro x y d e F H k Q ex hx hy f q
  unfold oSub at f
  split at f
  · rw [hx.int, hy.int]
    exact ⟨_, _, rfl, rfl, ret0 ex (.int _) f q⟩
  · exact f.elim
theorem d_int {C : Int → Int → Prop} {h : Int → Int → Int} {o : D → D → (D → Prop) → Prop} (ho : ∀ d e k, o d e k → ∃ a b, d = .int a ∧ e = .int b ∧ C a b ∧ k (.int (h a b))) : R2D K g (rI C fun i j => .int (h i j)) o := by
  intro x y d e F H k Q ex hx hy f q
  obtain ⟨a, b, rfl, rfl, c, kk⟩ := ho d e k f
  rw [hx.int, hy.int]
  exact ⟨_, _, rfl, rfl, c, ret0 ex (.int _) kk q⟩
theorem d_mod : R2D K g (rI (fun _ j => 0 < j) fun i j => .int (i % j)) oMod := d_int fun d e k f => by
  unfold oMod at f
  split at f
  · exact ⟨_, _, rfl, rfl, f.1, f.2⟩
  · exact f.elim
theorem d_div : R2D K g (rI CDiv fun i j => .int (i / j)) oDiv := d_int fun d e k f => by
  unfold oDiv at f
  split at f
  · exact ⟨_, _, rfl, rfl, f.1, f.2⟩
  · exact f.elim
theorem d_pow : R2D K g (rI CPow fun i j => .int (i ^ j.toNat)) oPow := d_int fun d e k f => by
  unfold oPow at f
  split at f
  · exact ⟨_, _, rfl, rfl, f.1, f.2⟩
  · exact f.elim
def rMulA (K : PySem.W.Frag) : R2 := fun x y H Q => rI CMulW (fun i j => .int (i * j)) x y H Q ∨ rRep x y H Q ∨ KT.rRepF K x y H Q
theorem op_mulA {X : Cx} : OpR X (binaryOp .Mult) (rMulA X.K) := OpR.or op_mulW (OpR.or op_rep KT.op_repF)
theorem rep_len {α : Type} (n : Nat) (l : List α) : (List.replicate n l).flatten.length = l.length * n := by
  induction n with
  | zero => rfl
  | succ n ih => rw [List.replicate_succ, List.flatten_cons, List.length_append, ih, Nat.mul_succ, Nat.add_comm]
theorem d_mul : R2D K g (rMulA K) oMul := by
  intro x y d e F H k Q ex hx hy f q
  unfold oMul at f
  split at f
  · rw [hx.int, hy.int]
    exact .inl ⟨_, _, rfl, rfl, f.1, ret0 ex (.int _) f.2 q⟩
  · obtain ⟨a, us, rfl, ha, ia⟩ := hx.lst ex
    rw [hy.int]
    obtain ⟨⟨b1, b2, b3⟩, f⟩ := f
    have l1 := ia.len
    refine .inr (.inl ⟨a, _, us, rfl, rfl, ha, by omega, by omega, ?_, ret_lst ex (ia.flatten _) f q⟩)
    rw [l1]
    exact sz5 b3
  · obtain ⟨a, us, rfl, ha, fa, ia⟩ := hx.tup ex
    rw [hy.int]
    obtain ⟨⟨b1, b2, b3⟩, f⟩ := f
    have l1 := ia.len
    refine .inr (.inr ⟨a, _, us, rfl, rfl, ha, b1, b2, by omega, fun same => ?_, fun _ => ret_tup ex (ia.flatten _) f q⟩)
    have ed : ∀ {b : Int} {dl : List D}, (us = [] ∨ b = 1) → IsAll K g.cm F us dl → (List.replicate b.toNat dl).flatten = dl := by
      intro b dl c ia
      rcases c with c | c
      · subst c
        cases ia
        induction b.toNat with
        | zero => rfl
        | succ n ih => rw [List.replicate_succ, List.flatten_cons, ih, List.append_nil]
      · subst c
        simp
    rw [ed same ia] at f
    exact ret0 ex (.tup fa ia) f q
  · exact f.elim
theorem d_mulL : R2L K g rRep oMulL := by
  intro x y d e F H k Q ex hx hy f q
  unfold oMulL at f
  split at f
  · obtain ⟨a, us, rfl, ha, ia⟩ := hx.lst ex
    rw [hy.int]
    obtain ⟨⟨b1, b2, b3⟩, f⟩ := f
    have l1 := ia.len
    refine ⟨a, _, us, rfl, rfl, ha, by omega, by omega, ?_, ret_own ex (ia.flatten _) f q⟩
    rw [l1]
    exact sz5 b3
  · exact f.elim
theorem d_cmp {p : Int → Int → Bool} : R2D K g (rI0 fun i j => .bl (p i j)) (oCmp p) := by
  intro x y d e F H k Q ex hx hy f q
  unfold oCmp at f
  split at f
  · rw [hx.int, hy.int]
    exact ⟨_, _, rfl, rfl, ret0 ex (.bl _) f q⟩
  · exact f.elim
theorem d_eq : R2D K g (rEqD K) oEq := by
  intro x y d e F H k Q ex hx hy ⟨⟨c1, c2⟩, f⟩ q
  refine ⟨d.py, e.py, hx.dp ex c1, hy.dp ex c2, D.shp c1, D.shp c2, ?_⟩
  rw [D.eqv_py 64 64 d e c1 c2]
  exact ret0 ex (.bl _) f q
theorem d_ne : R2D K g (rNeD K) oNe := by
  intro x y d e F H k Q ex hx hy ⟨⟨c1, c2⟩, f⟩ q
  refine ⟨d.py, e.py, hx.dp ex c1, hy.dp ex c2, D.shp c1, D.shp c2, ?_⟩
  rw [D.eqv_py 64 64 d e c1 c2]
  exact ret0 ex (.bl _) f q
theorem shp_list {ds : List D} (c : D.canAll 63 ds = true) : SeqAt.shaped (.list (D.pyAll ds)) = true := by
  obtain ⟨p1, p2⟩ := D.canAll_py 63 _ c
  exact Bool.and_eq_true_iff.mpr ⟨by simpa [PyData.canLay0] using p1, decide_eq_true (by simp only [PyData.depth]; omega)⟩
theorem Rs.isNon {v : V} {d : D} (h : Rs K g F H v d) : decide (v = .non) = d.isNon := by
  cases h with
  | is h => cases h <;> first | rfl | exact decide_eq_false (fun z => by cases z)
  | own _ _ _ => exact decide_eq_false (fun z => by cases z)
theorem d_isN : R2D K g (fun x y H Q => y = .non ∧ Q (.bl (decide (x = .non))) H) oIsN := by
  intro x y d e F H k Q ex hx hy ⟨c, f⟩ q
  subst c
  refine ⟨hy.non, ?_⟩
  rw [hx.isNon]
  exact ret0 ex (.bl _) f q
theorem d_notN : R2D K g (fun x y H Q => y = .non ∧ Q (.bl (!decide (x = .non))) H) oNotN := by
  intro x y d e F H k Q ex hx hy ⟨c, f⟩ q
  subst c
  refine ⟨hy.non, ?_⟩
  rw [hx.isNon]
  exact ret0 ex (.bl _) f q
def rInA (K : PySem.W.Frag) (neg : Bool) : R2 := fun x y H Q => rIn K neg x y H Q ∨ (if neg then rNotInD K x y H Q else rInD K x y H Q) ∨ ∃ (c : Nat) (z : Str), x = .str ⟨#[c]⟩ ∧ y = .str z ∧ Q (.bl (if neg then !decide (c ∈ z.cps.toList) else decide (c ∈ z.cps.toList))) H
theorem op_inA {X : Cx} (hu : X.A.units + 65 < cLine) : OpR X (compareOp .In) (rInA X.K false) := OpR.or op_in_seq (OpR.or (op_inD hu) op_in_sign)
theorem op_notInA {X : Cx} (hu : X.A.units + 65 < cLine) : OpR X (compareOp .NotIn) (rInA X.K true) := OpR.or op_notIn_seq (OpR.or (op_notInD hu) op_notIn_sign)
theorem in_core {neg : Bool} {x y : V} {d e : D} {k : D → Prop} {Q : VK} (ex : Ex F H) (hx : Rs K g F H x d) (hy : Rs K g F H y e) (f : oIn d e k) (q : ∀ b, k (.bl b) → Q (.bl (if neg then !b else b)) H) : rInA K neg x y H Q := by
  unfold oIn at f
  split at f
  · obtain ⟨⟨f1, f2⟩, f⟩ := f
    obtain ⟨a, us, rfl, ha, fa, ia⟩ := hy.tup ex
    have hx' := hx.data fun ds z => by subst z; simp [D.flat] at f1
    refine .inl ⟨a, us, rfl, .inr ha, by rw [hx'.flat]; exact f1, by rw [ia.flat]; exact f2, ?_⟩
    rw [IsAll.inV hx' f1 ia f2]
    exact q _ f
  · obtain ⟨c, f⟩ := f
    obtain ⟨a, us, rfl, ha, ia⟩ := hy.lst ex
    rcases c with ⟨f1, f2⟩ | ⟨c1, c2⟩
    · have hx' := hx.data fun ds z => by subst z; simp [D.flat] at f1
      refine .inl ⟨a, us, rfl, .inl (SqL.of ha), by rw [hx'.flat]; exact f1, by rw [ia.flat]; exact f2, ?_⟩
      rw [IsAll.inV hx' f1 ia f2]
      exact q _ f
    · refine .inr (.inl ?_)
      have dx := hx.dp ex c1
      have dy := Dp.lst (SqL.of (K := K) ha) ((ia.mono ex).dp c2)
      have s1 : SeqAt.shaped d.py = true := by
        obtain ⟨p1, p2⟩ := D.can_py 63 d c1
        exact Bool.and_eq_true_iff.mpr ⟨p1, decide_eq_true (by omega)⟩
      have s2 := shp_list c2
      have e := pyAll_any c1 c2
      have qq := q _ f
      rw [← e] at qq
      cases neg with
      | false => exact ⟨_, _, dx, dy, s1, s2, qq⟩
      | true => exact ⟨_, _, dx, dy, s1, s2, qq⟩
  · obtain ⟨c, rfl, f⟩ := f
    rw [hx.str, hy.str]
    refine .inr (.inr ⟨_, _, rfl, rfl, ?_⟩)
    have := q _ f
    cases neg <;> exact this
  · exact f.elim
theorem d_inA : R2D K g (rInA K false) oIn := by
  intro x y d e F H k Q ex hx hy f q
  exact in_core ex hx hy f fun b kb => ret0 ex (.bl _) kb q
theorem d_notInA : R2D K g (rInA K true) oNotIn := by
  intro x y d e F H k Q ex hx hy f q
  exact in_core ex hx hy f fun b kb => ret0 ex (.bl (!b)) kb q
theorem d_ix : R2D K g (rIx K) oIx := by
  intro x y d e F H k Q ex hx hy f q
  unfold oIx at f
  split at f
  · obtain ⟨z, hz, kz⟩ := f
    obtain ⟨a, us, rfl, ha, ia⟩ := hx.lst ex
    rw [hy.int]
    obtain ⟨v, hv, iv⟩ := ia.atI hz
    exact .inl ⟨a, us, _, v, rfl, rfl, SqL.of ha, hv, ret0 ex iv kz q⟩
  · obtain ⟨z, hz, kz⟩ := f
    obtain ⟨a, us, rfl, ha, fa, ia⟩ := hx.tup ex
    rw [hy.int]
    obtain ⟨v, hv, iv⟩ := ia.atI hz
    exact .inr (.inl ⟨a, us, _, v, rfl, rfl, ha, hv, ret0 ex iv kz q⟩)
  · obtain ⟨l, c, hc, kz⟩ := f
    rw [hx.str, hy.int]
    exact .inr (.inr ⟨_, _, c, rfl, rfl, sz5 l, hc, ret0 ex (.str _) kz q⟩)
  · exact f.elim
end
end FE
set_option Elab.async false
set_option linter.all false
set_option maxRecDepth 100000
set_option maxHeartbeats 4000000
/-! Expressions by data: the rules. -/
namespace FE
open PySem L2
open Evl (Ex)
@[reducible] def wB (d : D) (k : Bool → Prop) : Prop := match d with
  | .bl b => k b
  | _ => False
@[reducible] def wTb (m : (D → Prop) → Prop) : (Bool → Prop) → Prop := fun k => m fun d => wB d k
@[reducible] def wAnd (ma mb : (Bool → Prop) → Prop) : (Bool → Prop) → Prop := fun k => ma fun b => if b = true then mb k else k false
@[reducible] def wOr (ma mb : (Bool → Prop) → Prop) : (Bool → Prop) → Prop := fun k => ma fun b => if b = true then k true else mb k
@[reducible] def wNt (ma : (Bool → Prop) → Prop) : (Bool → Prop) → Prop := fun k => ma fun b => k (!b)
@[reducible] def wAndV (ma mb : (D → Prop) → Prop) : (D → Prop) → Prop := fun k => ma fun d => wB d fun b => if b = true then mb k else k (.bl false)
@[reducible] def wOrV (ma mb : (D → Prop) → Prop) : (D → Prop) → Prop := fun k => ma fun d => wB d fun b => if b = true then k (.bl true) else mb k
@[reducible] def wIf {α : Type} (mc : (Bool → Prop) → Prop) (ma mb : (α → Prop) → Prop) : (α → Prop) → Prop := fun k => mc fun b => if b = true then ma k else mb k
@[reducible] def wChain (f f' : D → D → (D → Prop) → Prop) (ma mb mc : (D → Prop) → Prop) : (D → Prop) → Prop := fun k => ma fun a => mb fun b => f a b fun z => wB z fun c => if c = true then mc fun w => f' b w k else k (.bl false)
def oTru (d : D) (k : Bool → Prop) : Prop := match d with
  | .bl b => k b
  | .int i => k (i != 0)
  | .non => k false
  | .str s => s.length ≤ 100000 ∧ k ((s.length : Int) != 0)
  | .lst l => k (!l.isEmpty)
  | .tup l => k (!l.isEmpty)
  | .dic ks _ => k (!ks.isEmpty)
  | _ => False
@[reducible] def wTt (m : (D → Prop) → Prop) : (Bool → Prop) → Prop := fun k => m fun d => oTru d k
@[reducible] def wNotV (m : (D → Prop) → Prop) : (D → Prop) → Prop := fun k => m fun d => oTru d fun b => k (.bl (!b))
@[reducible] def wTup (mA : (List D → Prop) → Prop) : (D → Prop) → Prop := fun k => mA fun ds => ds.length ≤ 100000 ∧ k (.tup ds)
@[reducible] def wLst (mA : (List D → Prop) → Prop) : (List D → Prop) → Prop := fun k => mA fun ds => ds.length ≤ 100000 ∧ k ds
section
variable {X : Cx} {g : Gv} {bs : List B} {a b c e : Expr} {es rest : List Expr} {pos : Pos} {ma mb mc m : (D → Prop) → Prop} {mt mu : (Bool → Prop) → Prop} {mA mr : (List D → Prop) → Prop} {d : D} {i : Nat}
/-! ### names, constants -/
theorem e_v {x : Str} (h : PE X (.Name x pos) (tVar i)) (hb : bs[i]? = some (.dat d) := by rfl) : PE X (.Name x pos) (tM X.K g bs (wv d)) := PE.imp h fun σ H Q ⟨F, k, s, hm, q⟩ => by
  obtain ⟨v, hv, iv⟩ := s.getD hb
  exact ⟨v, hv, q d v F H hm (Stp.refl s.ex) iv⟩
theorem e_vo {x : Str} {ds : List D} (h : PE X (.Name x pos) (tVar i)) (hb : bs[i]? = some (.own ds) := by rfl) : PE X (.Name x pos) (tR X.K g bs (wv (.lst ds))) := PE.imp h fun σ H Q ⟨F, k, s, hm, q⟩ => by
  obtain ⟨os, sl, _⟩ := s.sl
  obtain ⟨p, vs, h1, h2, h3, h4, h5, h6⟩ := sl.getO hb
  exact ⟨_, h1, q (.lst ds) (.ref p) F H hm (Stp.refl s.ex) (.own h2 h3 fun p e => (h6 p e).1)⟩
theorem e_c {v : V} (h : PE X e (tC v)) (hi : ∀ F, Is X.K g.cm F v d) : PE X e (tM X.K g bs (wv d)) := PE.imp h fun σ H Q ⟨F, k, s, hm, q⟩ => q d v F H hm (Stp.refl s.ex) (hi F)
theorem e_int {z : Int} {j : Nat} : PE X (.Constant (.int z) j pos) (tM X.K g bs (wv (.int z))) := e_c pe_int fun F => .int z
theorem e_bl {z : Bool} {j : Nat} : PE X (.Constant (.bool z) j pos) (tM X.K g bs (wv (.bl z))) := e_c pe_bl fun F => .bl z
theorem e_non {j : Nat} : PE X (.Constant .none j pos) (tM X.K g bs (wv .non)) := e_c pe_non fun F => .non
theorem e_str {z : Str} {j : Nat} : PE X (.Constant (.str z) j pos) (tM X.K g bs (wv (.str z))) := e_c pe_str fun F => .str z
/-- a module's constant that is an int -/
theorem e_gi {x : Str} {z : Int} {t : Tok} (hg : Gl X x) (hm : X.mg x = some (.int z t)) (hd : (x == ("__debug__" : Str)) = false := by decide) : PE X (.Name x pos) (tM X.K g bs (wv (.int z))) := e_c (pe_glob (v := .int z) hg hm ⟨_, rfl⟩ hd) fun F => .int z
theorem e_gs {x : Str} {z : Str} {t : Tok} (hg : Gl X x) (hm : X.mg x = some (.str z t)) (hd : (x == ("__debug__" : Str)) = false := by decide) : PE X (.Name x pos) (tM X.K g bs (wv (.str z))) := e_c (pe_glob (v := .str z) hg hm ⟨_, rfl⟩ hd) fun F => .str z
/-! ### operators -/
theorem op_core {r : R2} {f : D → D → (D → Prop) → Prop} (hr : R2D X.K g r f) (σ : St) (H : Hp) (Q : VK) (h : tM X.K g bs (w2 f ma mb) σ H Q) : tOp r (tR X.K g bs ma) (tR X.K g bs mb) σ H Q := by
  obtain ⟨F, k, s, hm, q⟩ := h
  refine ⟨F, _, s, hm, fun d v F1 H1 kd st iv => ⟨F1, _, s.step st, kd, fun e w F2 H2 ke st2 iw => ?_⟩⟩
  exact hr v w d e F2 H2 k Q st2.fh (iv.step st2) iw ke fun z v F' H' kz st3 iz => q z v F' H' kz (st.trans (st2.trans st3)) iz
theorem e_op {op : Operator} {r : R2} {f : D → D → (D → Prop) → Prop} (ho : OpR X (binaryOp op) r) (hr : R2D X.K g r f) (ha : PE X a (tR X.K g bs ma)) (hb : PE X b (tR X.K g bs mb)) : PE X (.BinOp a op b pos) (tM X.K g bs (w2 f ma mb)) :=
  PE.imp (pe_op ho ha hb) (op_core hr)
theorem l_op {op : Operator} {r : R2} {f : D → D → (List D → Prop) → Prop} (ho : OpR X (binaryOp op) r) (hr : R2L X.K g r f) (ha : PE X a (tR X.K g bs ma)) (hb : PE X b (tR X.K g bs mb)) : PE X (.BinOp a op b pos) (tL X.K g bs (w2L f ma mb)) :=
  PE.imp (pe_op ho ha hb) fun σ H Q ⟨F, k, s, hm, q⟩ => by
    refine ⟨F, _, s, hm, fun d v F1 H1 kd st iv => ⟨F1, _, s.step st, kd, fun e w F2 H2 ke st2 iw => ?_⟩⟩
    refine hr v w d e F2 H2 k Q st2.fh (iv.step st2) iw ke fun ds p vs F' H' kz st3 np fp hp iz => q ds p vs F' H' kz (st.trans (st2.trans st3)) ?_ fp hp iz
    cases c : H p with
    | none => rfl
    | some o => exact absurd np (st2.dom p (st.dom p (by rw [c]; exact fun z => by cases z)))
theorem e_cmp {op : CmpOp} {r : R2} {f : D → D → (D → Prop) → Prop} (ho : OpR X (compareOp op) r) (hr : R2D X.K g r f) (ha : PE X a (tR X.K g bs ma)) (hb : PE X b (tR X.K g bs mb)) (hm : behindInMarks op b = false) : PE X (.Compare a [op] [b] pos) (tM X.K g bs (w2 f ma mb)) :=
  PE.imp (pe_cmpR ho ha hb hm) (op_core hr)
theorem tst_core {te : TE} {m : (D → Prop) → Prop} (h : ∀ σ H Q, tM X.K g bs m σ H Q → te σ H Q) (σ : St) (H : Hp) (Q : Bool → Hp → Prop) (h2 : tT X.K g bs (wTb m) σ H Q) : tTest te σ H Q := by
  obtain ⟨F, k, s, hm, q⟩ := h2
  refine h σ H _ ⟨F, _, s, hm, fun d v F' H' kd st iv => ?_⟩
  cases d with
  | bl b => exact ⟨b, iv.bl_inv, q b F' H' kd st⟩
  | _ => exact kd.elim
theorem t_cmp {op : CmpOp} {r : R2} {f : D → D → (D → Prop) → Prop} (ho : OpR X (compareOp op) r) (hr : R2D X.K g r f) (ha : PE X a (tR X.K g bs ma)) (hb : PE X b (tR X.K g bs mb)) (hm : behindInMarks op b = false) : PT X (.Compare a [op] [b] pos) (tT X.K g bs (wTb (w2 f ma mb))) :=
  PT.imp (pt_cmpR ho ha hb hm) (tst_core (op_core hr))
theorem chain_core {r r' : R2} {f f' : D → D → (D → Prop) → Prop} (hr : R2D X.K g r f) (hr' : R2D X.K g r' f') (σ : St) (H : Hp) (Q : VK) (h : tM X.K g bs (wChain f f' ma mb mc) σ H Q) : tChain r r' (tR X.K g bs ma) (tR X.K g bs mb) (tR X.K g bs mc) σ H Q := by
  obtain ⟨F, k, s, hm, q⟩ := h
  refine ⟨F, _, s, hm, fun d v F1 H1 kd st iv => ⟨F1, _, s.step st, kd, fun e w F2 H2 ke st2 iw => ?_⟩⟩
  refine hr v w d e F2 H2 _ _ st2.fh (iv.step st2) iw ke fun z u F3 H3 kz st3 iz => ?_
  cases z with
  | bl c =>
    refine ⟨c, iz.bl_inv, ?_⟩
    cases c with
    | true =>
      show tR X.K g bs mc σ H3 _
      refine ⟨F3, _, s.step (st.trans (st2.trans st3)), kz, fun y x F4 H4 ky st4 ix => ?_⟩
      exact hr' w x e y F4 H4 k Q st4.fh (iw.step (st3.trans st4)) ix ky fun z v F' H' kz st5 iz => q z v F' H' kz (st.trans (st2.trans (st3.trans (st4.trans st5)))) iz
    | false =>
      show Q (.bl false) H3
      exact q (.bl false) _ F3 H3 kz (st.trans (st2.trans st3)) (.bl false)
  | _ => exact kz.elim
theorem e_chain {op op' : CmpOp} {r r' : R2} {f f' : D → D → (D → Prop) → Prop} (ho : OpR X (compareOp op) r) (hr : R2D X.K g r f) (ho' : OpR X (compareOp op') r') (hr' : R2D X.K g r' f') (ha : PE X a (tR X.K g bs ma)) (hb : PE X b (tR X.K g bs mb)) (hc : PE X c (tR X.K g bs mc))
    (hm : lastMarks [op, op'] [b, c] = false := by with_unfolding_all rfl) : PE X (.Compare a [op, op'] [b, c] pos) (tM X.K g bs (wChain f f' ma mb mc)) := PE.imp (pe_chain ho ho' ha hb hc hm) (chain_core hr hr')
theorem t_chain {op op' : CmpOp} {r r' : R2} {f f' : D → D → (D → Prop) → Prop} (ho : OpR X (compareOp op) r) (hr : R2D X.K g r f) (ho' : OpR X (compareOp op') r') (hr' : R2D X.K g r' f') (ha : PE X a (tR X.K g bs ma)) (hb : PE X b (tR X.K g bs mb)) (hc : PE X c (tR X.K g bs mc))
    (hm : lastMarks [op, op'] [b, c] = false := by with_unfolding_all rfl) : PT X (.Compare a [op, op'] [b, c] pos) (tT X.K g bs (wTb (wChain f f' ma mb mc))) := PT.imp (pt_chain ho ho' ha hb hc hm) (tst_core (chain_core hr hr'))
theorem e_ix (ha : PE X a (tR X.K g bs ma)) (hb : PE X b (tR X.K g bs mb)) (hs : PlainIx b := by intro _ _; rfl) : PE X (.Subscript a b pos) (tM X.K g bs (w2 oIx ma mb)) := PE.imp (pe_ix ix_seq ha hb hs) (op_core d_ix)
theorem e_neg (ha : PE X a (tR X.K g bs ma)) : PE X (.UnaryOp .USub a pos) (tM X.K g bs (w1 oNeg ma)) := PE.imp (pe_un un_neg ha) fun σ H Q ⟨F, k, s, hm, q⟩ => by
  refine ⟨F, _, s, hm, fun d v F1 H1 kd st iv => ?_⟩
  unfold oNeg at kd
  split at kd
  · exact ⟨_, iv.int, q _ _ F1 H1 kd st (.int _)⟩
  · exact kd.elim
/-! ### truth -/
theorem Rs.tru {K : PySem.W.Frag} {F H : Hp} {v : V} {d : D} {k : Bool → Prop} (e : Ex F H) (h : Rs K g F H v d) (o : oTru d k) : ∃ b, TruV K v H b ∧ k b := by
  cases d with
  | bl b => rw [h.bl]; exact ⟨b, rfl, o⟩
  | int i => rw [h.int]; exact ⟨_, rfl, o⟩
  | non => rw [h.non]; exact ⟨_, rfl, o⟩
  | str z => rw [h.str]; exact ⟨_, ⟨sz5 o.1, rfl⟩, o.2⟩
  | lst l =>
    obtain ⟨a, vs, rfl, ha, ia⟩ := h.lst e
    refine ⟨_, .inl ⟨vs, SqL.of ha, rfl⟩, ?_⟩
    have o' : k (!l.isEmpty) := o
    rw [show vs.isEmpty = l.isEmpty by cases ia <;> rfl]
    exact o'
  | tup l =>
    obtain ⟨a, vs, rfl, ha, _, ia⟩ := h.tup e
    refine ⟨_, .inr (.inl ⟨vs, ha, rfl⟩), ?_⟩
    have o' : k (!l.isEmpty) := o
    rw [show vs.isEmpty = l.isEmpty by cases ia <;> rfl]
    exact o'
  | dic ks ws =>
    cases h with
    | is h =>
      cases h with
      | dic h hk q =>
        refine ⟨_, .inr (.inr ⟨_, e _ _ h, rfl⟩), ?_⟩
        have o' : k (!ks.isEmpty) := o
        rw [hk, List.isEmpty_map] at o'
        exact o'
  | _ => exact o.elim
theorem t_tru (ha : PE X a (tR X.K g bs ma)) (he : ∀ whole, isTrue a X.env whole = (do let v ← whole; standAt a.pos; holding [v] (truthy v)) := by intro _; rfl) : PT X a (tT X.K g bs (wTt ma)) := PT.imp (pt_truth ha he) fun σ H Q ⟨F, k, s, hm, q⟩ => by
  refine ⟨F, _, s, hm, fun d v F1 H1 kd st iv => ?_⟩
  obtain ⟨b, t, kb⟩ := iv.tru st.fh kd
  exact ⟨b, t, q b F1 H1 kb st⟩
theorem t_and1 (h : PT X a (tT X.K g bs mt)) : PW X (.BoolOp .And [a] pos) (tT X.K g bs mt) := pw_and1 h
theorem t_or1 (h : PT X a (tT X.K g bs mt)) : PW X (.BoolOp .Or [a] pos) (tT X.K g bs mt) := pw_or1 h
theorem t_and (ha : PT X a (tT X.K g bs mt)) (hb : PW X (.BoolOp .And (b :: rest) pos) (tT X.K g bs mu)) : PW X (.BoolOp .And (a :: b :: rest) pos) (tT X.K g bs (wAnd mt mu)) := PW.imp (pw_and ha hb) fun σ H Q ⟨F, k, s, hm, q⟩ => by
  refine ⟨F, _, s, hm, fun b F1 H1 kb st => ?_⟩
  cases b with
  | true => exact ⟨F1, k, s.step st, kb, fun c F2 H2 kc st2 => q c F2 H2 kc (st.trans st2)⟩
  | false => exact q false F1 H1 kb st
theorem t_or (ha : PT X a (tT X.K g bs mt)) (hb : PW X (.BoolOp .Or (b :: rest) pos) (tT X.K g bs mu)) : PW X (.BoolOp .Or (a :: b :: rest) pos) (tT X.K g bs (wOr mt mu)) := PW.imp (pw_or ha hb) fun σ H Q ⟨F, k, s, hm, q⟩ => by
  refine ⟨F, _, s, hm, fun b F1 H1 kb st => ?_⟩
  cases b with
  | false => exact ⟨F1, k, s.step st, kb, fun c F2 H2 kc st2 => q c F2 H2 kc (st.trans st2)⟩
  | true => exact q true F1 H1 kb st
theorem t_not (ha : PT X a (tT X.K g bs mt)) : PT X (.UnaryOp .Not a pos) (tT X.K g bs (wNt mt)) := PT.imp (pt_not ha) fun σ H Q ⟨F, k, s, hm, q⟩ => ⟨F, _, s, hm, fun b F1 H1 kb st => q (!b) F1 H1 kb st⟩
theorem e_and (ha : PE X a (tR X.K g bs ma)) (hb : PE X (.BoolOp .And (b :: rest) pos) (tM X.K g bs mb)) : PE X (.BoolOp .And (a :: b :: rest) pos) (tM X.K g bs (wAndV ma mb)) := PE.imp (pe_and ha hb) fun σ H Q ⟨F, k, s, hm, q⟩ => by
  refine ⟨F, _, s, hm, fun d v F1 H1 kd st iv => ?_⟩
  cases d with
  | bl b =>
    refine ⟨b, iv.bl, ?_⟩
    cases b with
    | true => exact ⟨F1, k, s.step st, kd, fun c w F2 H2 kc st2 iw => q c w F2 H2 kc (st.trans st2) iw⟩
    | false => exact q (.bl false) _ F1 H1 kd st (.bl false)
  | _ => exact kd.elim
theorem e_or (ha : PE X a (tR X.K g bs ma)) (hb : PE X (.BoolOp .Or (b :: rest) pos) (tM X.K g bs mb)) : PE X (.BoolOp .Or (a :: b :: rest) pos) (tM X.K g bs (wOrV ma mb)) := PE.imp (pe_or ha hb) fun σ H Q ⟨F, k, s, hm, q⟩ => by
  refine ⟨F, _, s, hm, fun d v F1 H1 kd st iv => ?_⟩
  cases d with
  | bl b =>
    refine ⟨b, iv.bl, ?_⟩
    cases b with
    | false => exact ⟨F1, k, s.step st, kd, fun c w F2 H2 kc st2 iw => q c w F2 H2 kc (st.trans st2) iw⟩
    | true => exact q (.bl true) _ F1 H1 kd st (.bl true)
  | _ => exact kd.elim
theorem e_one {op : BoolOp} (h : PE X a (tM X.K g bs m)) : PE X (.BoolOp op [a] pos) (tM X.K g bs m) := pe_one h
theorem e_not (ha : PE X a (tR X.K g bs ma)) : PE X (.UnaryOp .Not a pos) (tM X.K g bs (wNotV ma)) := PE.imp (pe_notT ha) fun σ H Q ⟨F, k, s, hm, q⟩ => by
  refine ⟨F, _, s, hm, fun d v F1 H1 kd st iv => ?_⟩
  obtain ⟨b, t, kb⟩ := iv.tru st.fh kd
  exact ⟨b, t, q _ _ F1 H1 kb st (.bl _)⟩
theorem e_if (hc : PT X c (tT X.K g bs mt)) (ha : PE X a (tM X.K g bs ma)) (hb : PE X b (tM X.K g bs mb)) : PE X (.IfExp c a b pos) (tM X.K g bs (wIf mt ma mb)) := PE.imp (pe_ifExp hc ha hb) fun σ H Q ⟨F, k, s, hm, q⟩ => by
  refine ⟨F, _, s, hm, fun b F1 H1 kb st => ?_⟩
  cases b with
  | true => exact ⟨F1, k, s.step st, kb, fun c w F2 H2 kc st2 iw => q c w F2 H2 kc (st.trans st2) iw⟩
  | false => exact ⟨F1, k, s.step st, kb, fun c w F2 H2 kc st2 iw => q c w F2 H2 kc (st.trans st2) iw⟩
theorem back {hd : Option (Addr × Addr)} {T : List (Addr × Str)} {F F' H H' : Hp} {p : Addr} (st : Stp hd T F H F' H') (np : H' p = none) : H p = none := by
  cases c : H p with
  | none => rfl
  | some o => exact absurd np (st.dom p (by rw [c]; exact fun z => by cases z))
theorem l_if (hc : PT X c (tT X.K g bs mt)) (ha : PE X a (tL X.K g bs mA)) (hb : PE X b (tL X.K g bs mr)) : PE X (.IfExp c a b pos) (tL X.K g bs (wIf mt mA mr)) := PE.imp (pe_ifExp hc ha hb) fun σ H Q ⟨F, k, s, hm, q⟩ => by
  refine ⟨F, _, s, hm, fun b F1 H1 kb st => ?_⟩
  cases b with
  | true => exact ⟨F1, k, s.step st, kb, fun c p w F2 H2 kc st2 np fp hp iw => q c p w F2 H2 kc (st.trans st2) (back st np) fp hp iw⟩
  | false => exact ⟨F1, k, s.step st, kb, fun c p w F2 H2 kc st2 np fp hp iw => q c p w F2 H2 kc (st.trans st2) (back st np) fp hp iw⟩
/-! ### arguments, displays -/
theorem a_nil : PA X [] (tA X.K g bs wnil) := PA.imp pa_nil fun σ H Q ⟨F, k, s, hm, q⟩ => q [] [] F H hm (Stp.refl s.ex) .nil
theorem a_cons (ha : PE X e (tM X.K g bs ma)) (hr : PA X es (tA X.K g bs mr)) (hs : starEach (e :: es) X.env = (false, eval e X.env) :: starEach es X.env := by rfl) : PA X (e :: es) (tA X.K g bs (wcons ma mr)) := PA.imp (pa_cons ha hr hs) fun σ H Q ⟨F, k, s, hm, q⟩ =>
  ⟨F, _, s, hm, fun d v F1 H1 kd st iv => ⟨F1, _, s.step st, kd, fun ds vs F2 H2 kk st2 iv2 => q (d :: ds) (v :: vs) F2 H2 kk (st.trans st2) (.cons (iv.mono st2.ff) iv2)⟩⟩
theorem r_nil : PA X [] (tAR X.K g bs wnil) := PA.imp pa_nil fun σ H Q ⟨F, k, s, hm, q⟩ => q [] [] F H hm (Stp.refl s.ex) .nil
theorem r_cons (ha : PE X e (tR X.K g bs ma)) (hr : PA X es (tAR X.K g bs mr)) (hs : starEach (e :: es) X.env = (false, eval e X.env) :: starEach es X.env := by rfl) : PA X (e :: es) (tAR X.K g bs (wcons ma mr)) := PA.imp (pa_cons ha hr hs) fun σ H Q ⟨F, k, s, hm, q⟩ =>
  ⟨F, _, s, hm, fun d v F1 H1 kd st iv => ⟨F1, _, s.step st, kd, fun ds vs F2 H2 kk st2 iv2 => q (d :: ds) (v :: vs) F2 H2 kk (st.trans st2) (.cons (iv.step st2) iv2)⟩⟩
theorem e_tup {x1 : Nat} (h : PA X es (tA X.K g bs mA)) : PE X (.Tuple es x1 pos) (tM X.K g bs (wTup mA)) := PE.imp (KT.pe_tupF h) fun σ H Q ⟨F, k, s, hm, q⟩ =>
  ⟨F, _, s, hm, fun ds vs F1 H1 kd st iv => ⟨sz5 (by rw [iv.len]; exact kd.1), ret_tup st.fh iv kd.2 fun z v F' H' kz st2 iz => q z v F' H' kz (st.trans st2) iz⟩⟩
theorem l_lst (h : PA X es (tA X.K g bs mA)) : PE X (.List es pos) (tL X.K g bs (wLst mA)) := PE.imp (pe_lst h) fun σ H Q ⟨F, k, s, hm, q⟩ =>
  ⟨F, _, s, hm, fun ds vs F1 H1 kd st iv => ⟨sz5 (by rw [iv.len]; exact kd.1), ret_own st.fh iv kd.2 fun ds p vs F' H' kz st2 np fp hp iz => q ds p vs F' H' kz (st.trans st2) (back st np) fp hp iz⟩⟩
/-! ### slices -/
def tO (K : PySem.W.Frag) (g : Gv) (bs : List B) (m : (Option Int → Prop) → Prop) : TO := fun σ H Q => ∃ F k, Sat K g bs σ F H ∧ m k ∧ ∀ o F' H', k o → Stp g.hd g.cm.tb F H F' H' → Q o H'
@[reducible] def wO0 : (Option Int → Prop) → Prop := fun k => k none
@[reducible] def wO1 (m : (D → Prop) → Prop) : (Option Int → Prop) → Prop := fun k => m fun d => match d with
  | .int i => k (some i)
  | _ => False
theorem o_0 : PO X none (tO X.K g bs wO0) := ⟨fun pins s σ H Q I ⟨F, k, sa, hm, q⟩ => po_none.run pins s σ H Q I (q none F H hm (Stp.refl sa.ex))⟩
theorem o_1 (h : PE X e (tR X.K g bs m)) : PO X (some e) (tO X.K g bs (wO1 m)) := ⟨fun pins s σ H Q I ⟨F, k, sa, hm, q⟩ => (po_some h).run pins s σ H Q I ⟨F, _, sa, hm, fun d v F1 H1 kd st iv => by
  cases d with
  | int i => exact ⟨i, iv.int, q (some i) F1 H1 kd st⟩
  | _ => exact kd.elim⟩⟩
def oSl (d : D) (lo hi : Option Int) (k : D → Prop) : Prop := match d with
  | .tup l => k (.tup (cutD l lo hi))
  | .lst l => k (.lst (cutD l lo hi))
  | .str s => s.length ≤ 100000 ∧ k (.str (cutS s lo hi))
  | _ => False
def oSlL (d : D) (lo hi : Option Int) (k : List D → Prop) : Prop := match d with
  | .lst l => k (cutD l lo hi)
  | _ => False
@[reducible] def wSl (f : D → Option Int → Option Int → (D → Prop) → Prop) (m : (D → Prop) → Prop) (ml mh : (Option Int → Prop) → Prop) : (D → Prop) → Prop := fun k => m fun d => ml fun lo => mh fun hi => f d lo hi k
@[reducible] def wSlL (f : D → Option Int → Option Int → (List D → Prop) → Prop) (m : (D → Prop) → Prop) (ml mh : (Option Int → Prop) → Prop) : (List D → Prop) → Prop := fun k => m fun d => ml fun lo => mh fun hi => f d lo hi k
def rSlAll (K : PySem.W.Frag) : V → Option Int → Option Int → Hp → VK → Prop := fun x lo hi H Q => KT.rSlF K x lo hi H Q ∨ rSlL K x lo hi H Q ∨ rSlS x lo hi H Q
theorem sl_all : SlR X (rSlAll X.K) := SlR.or KT.sl_F (SlR.or sl_list sl_str)
theorem cut_all {α : Type} (xs : List α) (lo hi : Option Int) (h : HT.sIx xs.length 0 lo = 0 ∧ HT.sIx xs.length xs.length hi = xs.length) : cutD xs lo hi = xs := by
  unfold cutD
  rw [h.1, h.2, List.drop_zero, Nat.sub_zero, List.take_of_length_le (Nat.le_refl _)]
variable {lo hi : Option Expr} {ml mh : (Option Int → Prop) → Prop} {p2 : Pos}
theorem e_sl (he : PE X e (tR X.K g bs m)) (hl : PO X lo (tO X.K g bs ml)) (hu : PO X hi (tO X.K g bs mh)) : PE X (.Subscript e (.Slice lo hi none p2) pos) (tM X.K g bs (wSl oSl m ml mh)) := PE.imp (pe_slice sl_all he hl hu) fun σ H Q ⟨F, k, s, hm, q⟩ => by
  refine ⟨F, _, s, hm, fun d v F1 H1 kd st iv => ⟨F1, _, s.step st, kd, fun lo F2 H2 kl st2 => ⟨F2, _, s.step (st.trans st2), kl, fun hi F3 H3 kh st3 => ?_⟩⟩⟩
  have iv := iv.step (st2.trans st3)
  have q' : ∀ z v F' H', k z → Stp g.hd g.cm.tb F3 H3 F' H' → Is X.K g.cm F' v z → Q v H' := fun z v F' H' kz st4 iz => q z v F' H' kz (st.trans (st2.trans (st3.trans st4))) iz
  unfold oSl at kh
  split at kh
  · obtain ⟨a, us, rfl, ha, fa, ia⟩ := iv.tup st3.fh
    refine .inl ⟨a, us, rfl, ha, fun z => ?_, fun _ => ret_tup st3.fh ia.cut kh q'⟩
    have : cutV us lo hi = us := by
      unfold cutV
      rw [z.1, z.2, List.drop_zero, Nat.sub_zero, List.take_of_length_le (Nat.le_refl _)]
    have ic := ia.cut (lo := lo) (hi := hi)
    rw [this] at ic
    exact ret0 st3.fh (.tup fa ic) kh q'
  · obtain ⟨a, us, rfl, ha, ia⟩ := iv.lst st3.fh
    exact .inr (.inl ⟨a, us, rfl, SqL.of ha, ret_lst st3.fh ia.cut kh q'⟩)
  · rw [iv.str]
    exact .inr (.inr ⟨_, rfl, sz5 kh.1, ret0 st3.fh (.str _) kh.2 q'⟩)
  · exact kh.elim
theorem l_sl (he : PE X e (tR X.K g bs m)) (hl : PO X lo (tO X.K g bs ml)) (hu : PO X hi (tO X.K g bs mh)) : PE X (.Subscript e (.Slice lo hi none p2) pos) (tL X.K g bs (wSlL oSlL m ml mh)) := PE.imp (pe_slice sl_list he hl hu) fun σ H Q ⟨F, k, s, hm, q⟩ => by
  refine ⟨F, _, s, hm, fun d v F1 H1 kd st iv => ⟨F1, _, s.step st, kd, fun lo F2 H2 kl st2 => ⟨F2, _, s.step (st.trans st2), kl, fun hi F3 H3 kh st3 => ?_⟩⟩⟩
  have iv := iv.step (st2.trans st3)
  unfold oSlL at kh
  split at kh
  · obtain ⟨a, us, rfl, ha, ia⟩ := iv.lst st3.fh
    exact ⟨a, us, rfl, SqL.of ha, ret_own st3.fh ia.cut kh fun ds p vs F' H' kz st4 np fp hp iz => q ds p vs F' H' kz (st.trans (st2.trans (st3.trans st4))) (back st (back st2 (back st3 np))) fp hp iz⟩
  · exact kh.elim
end
end FE
set_option Elab.async false
set_option linter.all false
set_option maxRecDepth 100000
set_option maxHeartbeats 4000000
/-! Built-in calls by data. -/
namespace FE
open PySem L2
open Evl (Ex)
def RCD (K : PySem.W.Frag) (g : Gv) (r : List V → Hp → VK → Prop) (f : List D → (D → Prop) → Prop) : Prop := ∀ (vs : List V) (ds : List D) (F H : Hp) (k : D → Prop) (Q : VK), Ex F H → RsAll K g F H vs ds → f ds k →
  (∀ z v F' H', k z → Stp g.hd g.cm.tb F H F' H' → Is K g.cm F' v z → Q v H') → r vs H Q
def RCL (K : PySem.W.Frag) (g : Gv) (r : List V → Hp → VK → Prop) (f : List D → (List D → Prop) → Prop) : Prop := ∀ (vs : List V) (ds : List D) (F H : Hp) (k : List D → Prop) (Q : VK), Ex F H → RsAll K g F H vs ds → f ds k →
  (∀ ds p vs F' H', k ds → Stp g.hd g.cm.tb F H F' H' → H p = none → F' p = none → H' p = some (.lst vs) → IsAll K g.cm F' vs ds → Q (.ref p) H') → r vs H Q
theorem CallR.or {X : Cx} {f : Value} {r r' : List V → Hp → VK → Prop} (h : CallR X f r) (h' : CallR X f r') : CallR X f (fun vs H Q => r vs H Q ∨ r' vs H Q) := by
  intro pins s σ H xs us Q I rx q
  rcases q with q | q
  · exact h pins s σ H xs us Q I rx q
  · exact h' pins s σ H xs us Q I rx q
section
variable {X : Cx} {g : Gv} {bs : List B} {a b c e : Expr} {es rest : List Expr} {p pos : Pos} {ma mb mc m : (D → Prop) → Prop} {mA mr : (List D → Prop) → Prop} {x : Str} {id T : String} {r : List V → Hp → VK → Prop}
theorem cb_core {f : List D → (D → Prop) → Prop} (hr : RCD X.K g r f) (σ : St) (H : Hp) (Q : VK) (h : tM X.K g bs (wA f mA) σ H Q) : tCB r (tAR X.K g bs mA) σ H Q := by
  obtain ⟨F, k, s, hm, q⟩ := h
  exact ⟨F, _, s, hm, fun ds vs F1 H1 kd st iv => hr vs ds F1 H1 k Q st.fh iv kd fun z v F' H' kz st2 iz => q z v F' H' kz (st.trans st2) iz⟩
theorem cl_core {f : List D → (List D → Prop) → Prop} (hr : RCL X.K g r f) (σ : St) (H : Hp) (Q : VK) (h : tL X.K g bs (wAL f mA) σ H Q) : tCB r (tAR X.K g bs mA) σ H Q := by
  obtain ⟨F, k, s, hm, q⟩ := h
  exact ⟨F, _, s, hm, fun ds vs F1 H1 kd st iv => hr vs ds F1 H1 k Q st.fh iv kd fun z p v F' H' kz st2 np fp hp iz => q z p v F' H' kz (st.trans st2) (back st np) fp hp iz⟩
theorem e_cb {f : List D → (D → Prop) → Prop} (hc : CallR X (.builtin id) r) (hr : RCD X.K g r f) (hg : Gl X x) (hm : X.mg x = none) (ha : PA X (e :: es) (tAR X.K g bs mA)) (hv : bootBuiltins x = some (.builtin id) := by decide +kernel) (hn : x ≠ "__name__" := by decide) (hdb : (x == ("__debug__" : Str)) = false := by decide)
    (he : starEach (e :: es) X.env = (false, eval e X.env) :: starEach es X.env := by rfl) (hpl : (backTo pos (starEach es X.env)).any (·.1) = false := by rfl) : PE X (.Call (.Name x p) (e :: es) [] pos) (tM X.K g bs (wA f mA)) := PE.imp (pe_callB hc hg hm hv ha hn hdb he hpl) (cb_core hr)
theorem l_cb {f : List D → (List D → Prop) → Prop} (hc : CallR X (.builtin id) r) (hr : RCL X.K g r f) (hg : Gl X x) (hm : X.mg x = none) (ha : PA X (e :: es) (tAR X.K g bs mA)) (hv : bootBuiltins x = some (.builtin id) := by decide +kernel) (hn : x ≠ "__name__" := by decide) (hdb : (x == ("__debug__" : Str)) = false := by decide)
    (he : starEach (e :: es) X.env = (false, eval e X.env) :: starEach es X.env := by rfl) (hpl : (backTo pos (starEach es X.env)).any (·.1) = false := by rfl) : PE X (.Call (.Name x p) (e :: es) [] pos) (tL X.K g bs (wAL f mA)) := PE.imp (pe_callB hc hg hm hv ha hn hdb he hpl) (cl_core hr)
theorem e_ct {f : List D → (D → Prop) → Prop} (hc : CallR X (.type T) r) (hr : RCD X.K g r f) (hg : Gl X x) (hm : X.mg x = none) (ha : PA X (e :: es) (tAR X.K g bs mA)) (hv : bootBuiltins x = some (.type T) := by decide +kernel) (hn : x ≠ "__name__" := by decide) (hdb : (x == ("__debug__" : Str)) = false := by decide)
    (he : starEach (e :: es) X.env = (false, eval e X.env) :: starEach es X.env := by rfl) (hpl : (backTo pos (starEach es X.env)).any (·.1) = false := by rfl) : PE X (.Call (.Name x p) (e :: es) [] pos) (tM X.K g bs (wA f mA)) := PE.imp (pe_callTy hc hg hm hv ha hn hdb he hpl) (cb_core hr)
theorem l_ct {f : List D → (List D → Prop) → Prop} (hc : CallR X (.type T) r) (hr : RCL X.K g r f) (hg : Gl X x) (hm : X.mg x = none) (ha : PA X (e :: es) (tAR X.K g bs mA)) (hv : bootBuiltins x = some (.type T) := by decide +kernel) (hn : x ≠ "__name__" := by decide) (hdb : (x == ("__debug__" : Str)) = false := by decide)
    (he : starEach (e :: es) X.env = (false, eval e X.env) :: starEach es X.env := by rfl) (hpl : (backTo pos (starEach es X.env)).any (·.1) = false := by rfl) : PE X (.Call (.Name x p) (e :: es) [] pos) (tL X.K g bs (wAL f mA)) := PE.imp (pe_callTy hc hg hm hv ha hn hdb he hpl) (cl_core hr)
end
/-! ### what built-ins do with data -/
def oLen : List D → (D → Prop) → Prop
  | [.lst l], k => k (.int l.length)
  | [.tup l], k => k (.int l.length)
  | [.str s], k => s.length ≤ 100000 ∧ k (.int s.length)
  | [.dic ks _], k => k (.int ks.length)
  | _, _ => False
def oMin2 : List D → (D → Prop) → Prop
  | [.int i, .int j], k => k (.int (if j < i then j else i))
  | _, _ => False
def oMax2 : List D → (D → Prop) → Prop
  | [.int i, .int j], k => k (.int (if j > i then j else i))
  | _, _ => False
def oAbs : List D → (D → Prop) → Prop
  | [.int i], k => k (.int (if i < 0 then -i else i))
  | _, _ => False
def oInt : List D → (D → Prop) → Prop
  | [.int i], k => k (.int i)
  | [.bl b], k => k (.int (if b then 1 else 0))
  | _, _ => False
def oSum : List D → (D → Prop) → Prop
  | [.lst l], k => ∃ ns : List Int, l = ns.map D.int ∧ k (.int ns.sum)
  | _, _ => False
def oMin : List D → (D → Prop) → Prop
  | [.lst l], k => ∃ ns : List Int, l = ns.map D.int ∧ 0 < ns.length ∧ ∀ m, m ∈ ns → (∀ y, y ∈ ns → m ≤ y) → k (.int m)
  | _, _ => False
def oMax : List D → (D → Prop) → Prop
  | [.lst l], k => ∃ ns : List Int, l = ns.map D.int ∧ 0 < ns.length ∧ ∀ m, m ∈ ns → (∀ y, y ∈ ns → y ≤ m) → k (.int m)
  | _, _ => False
def oAny : List D → (D → Prop) → Prop
  | [.lst l], k => ∃ ns : List Bool, l = ns.map D.bl ∧ k (.bl (ns.any id))
  | _, _ => False
def oAll : List D → (D → Prop) → Prop
  | [.lst l], k => ∃ ns : List Bool, l = ns.map D.bl ∧ k (.bl (ns.all id))
  | _, _ => False
def oListOf : List D → (List D → Prop) → Prop
  | [.lst l], k => k l
  | [.tup l], k => k l
  | _, _ => False
def oTupOf : List D → (D → Prop) → Prop
  | [.lst l], k => k (.tup l)
  | [.tup l], k => k (.tup l)
  | _, _ => False
/-- a tuple of ints -/
def encT (ns : List Int) : D := .tup (ns.map D.int)
def sortD (l : List D) (k : List D → Prop) : Prop := (∃ ns : List Int, l = ns.map D.int ∧ ∀ ms : List Int, ms.Perm ns → ms.Pairwise (· ≤ ·) → k (ms.map D.int)) ∨
  ∃ ls : List (List Int), l = ls.map encT ∧ (∀ ns ∈ ls, ns ≠ []) ∧ ∀ ms : List (List Int), ms.Perm ls → ms.Pairwise (fun a b => KS.lexL b a = false) → k (ms.map encT)
def oSorted : List D → (List D → Prop) → Prop
  | [.lst l], k => sortD l k
  | [.tup l], k => sortD l k
  | _, _ => False
section
variable {K : PySem.W.Frag} {g : Gv} {F H : Hp}
theorem RsAll.one {vs : List V} {d : D} (h : RsAll K g F H vs [d]) : ∃ v, vs = [v] ∧ Rs K g F H v d := by
  cases h with
  | cons h q => cases q; exact ⟨_, rfl, h⟩
theorem RsAll.two {vs : List V} {d e : D} (h : RsAll K g F H vs [d, e]) : ∃ v w, vs = [v, w] ∧ Rs K g F H v d ∧ Rs K g F H w e := by
  cases h with
  | cons h q =>
    obtain ⟨w, rfl, q2⟩ := RsAll.one q
    exact ⟨_, _, rfl, h, q2⟩
def rLenA (K : PySem.W.Frag) : List V → Hp → VK → Prop := fun xs H Q => (∃ x n, xs = [x] ∧ LenV K x H n ∧ Q (.int n) H) ∨ ∃ a kvs, xs = [V.ref a] ∧ H a = some (.dK kvs) ∧ Q (.int kvs.length) H
theorem call_lenA {X : Cx} : CallR X (.builtin "len") (rLenA X.K) := CallR.or call_len call_lenD
theorem c_len : RCD K g (rLenA K) oLen := by
  intro vs ds F H k Q ex iv f q
  unfold oLen at f
  split at f
  · obtain ⟨v, rfl, h⟩ := iv.one
    obtain ⟨a, us, rfl, ha, ia⟩ := h.lst ex
    refine .inl ⟨_, us.length, rfl, .inl ⟨us, SqL.of ha, rfl⟩, ?_⟩
    rw [ia.len]
    exact ret0 ex (.int _) f q
  · obtain ⟨v, rfl, h⟩ := iv.one
    obtain ⟨a, us, rfl, ha, _, ia⟩ := h.tup ex
    refine .inl ⟨_, us.length, rfl, .inr ⟨us, ha, rfl⟩, ?_⟩
    rw [ia.len]
    exact ret0 ex (.int _) f q
  · obtain ⟨v, rfl, h⟩ := iv.one
    rw [h.str]
    exact .inl ⟨_, _, rfl, ⟨sz5 f.1, rfl⟩, ret0 ex (.int _) f.2 q⟩
  · obtain ⟨v, rfl, h⟩ := iv.one
    cases h with
    | is h =>
      cases h with
      | dic h hk i =>
        refine .inr ⟨_, _, rfl, ex _ _ h, ?_⟩
        rw [hk, List.length_map] at f
        exact ret0 ex (.int _) f q
  · exact f.elim
theorem c_min2 : RCD K g (fun xs H Q => ∃ i j, xs = [.int i, .int j] ∧ Q (.int (if j < i then j else i)) H) oMin2 := by
  intro vs ds F H k Q ex iv f q
  unfold oMin2 at f
  split at f
  · obtain ⟨v, w, rfl, h1, h2⟩ := iv.two
    rw [h1.int, h2.int]
    exact ⟨_, _, rfl, ret0 ex (.int _) f q⟩
  · exact f.elim
theorem c_max2 : RCD K g (fun xs H Q => ∃ i j, xs = [.int i, .int j] ∧ Q (.int (if j > i then j else i)) H) oMax2 := by
  intro vs ds F H k Q ex iv f q
  unfold oMax2 at f
  split at f
  · obtain ⟨v, w, rfl, h1, h2⟩ := iv.two
    rw [h1.int, h2.int]
    exact ⟨_, _, rfl, ret0 ex (.int _) f q⟩
  · exact f.elim
theorem c_abs : RCD K g (fun xs H Q => ∃ i, xs = [.int i] ∧ Q (.int (if i < 0 then -i else i)) H) oAbs := by
  intro vs ds F H k Q ex iv f q
  unfold oAbs at f
  split at f
  · obtain ⟨v, rfl, h1⟩ := iv.one
    rw [h1.int]
    exact ⟨_, rfl, ret0 ex (.int _) f q⟩
  · exact f.elim
theorem c_int : RCD K g (fun xs H Q => (∃ i, xs = [.int i] ∧ Q (.int i) H) ∨ ∃ k, xs = [.bl k] ∧ Q (.int (if k then 1 else 0)) H) oInt := by
  intro vs ds F H k Q ex iv f q
  unfold oInt at f
  split at f
  · obtain ⟨v, rfl, h1⟩ := iv.one
    rw [h1.int]
    exact .inl ⟨_, rfl, ret0 ex (.int _) f q⟩
  · obtain ⟨v, rfl, h1⟩ := iv.one
    rw [h1.bl]
    exact .inr ⟨_, rfl, ret0 ex (.int _) f q⟩
  · exact f.elim
theorem c_sum : RCD K g (rSum K) oSum := by
  intro vs ds F H k Q ex iv f q
  unfold oSum at f
  split at f
  · obtain ⟨ns, rfl, f⟩ := f
    obtain ⟨v, rfl, h⟩ := iv.one
    obtain ⟨a, us, rfl, ha, ia⟩ := h.lst ex
    rw [ia.ints_inv] at ha
    exact ⟨a, ns, rfl, SqL.of ha, ret0 ex (.int _) f q⟩
  · exact f.elim
theorem c_min : RCD K g (rMin K) oMin := by
  intro vs ds F H k Q ex iv f q
  unfold oMin at f
  split at f
  · obtain ⟨ns, rfl, l, f⟩ := f
    obtain ⟨v, rfl, h⟩ := iv.one
    obtain ⟨a, us, rfl, ha, ia⟩ := h.lst ex
    rw [ia.ints_inv] at ha
    exact ⟨a, ns, rfl, SqL.of ha, l, fun m h1 h2 => ret0 ex (.int _) (f m h1 h2) q⟩
  · exact f.elim
theorem c_max : RCD K g (rMax K) oMax := by
  intro vs ds F H k Q ex iv f q
  unfold oMax at f
  split at f
  · obtain ⟨ns, rfl, l, f⟩ := f
    obtain ⟨v, rfl, h⟩ := iv.one
    obtain ⟨a, us, rfl, ha, ia⟩ := h.lst ex
    rw [ia.ints_inv] at ha
    exact ⟨a, ns, rfl, SqL.of ha, l, fun m h1 h2 => ret0 ex (.int _) (f m h1 h2) q⟩
  · exact f.elim
theorem c_any : RCD K g (rAny K) oAny := by
  intro vs ds F H k Q ex iv f q
  unfold oAny at f
  split at f
  · obtain ⟨ns, rfl, f⟩ := f
    obtain ⟨v, rfl, h⟩ := iv.one
    obtain ⟨a, us, rfl, ha, ia⟩ := h.lst ex
    rw [ia.bls_inv] at ha
    exact ⟨a, ns, rfl, SqL.of ha, ret0 ex (.bl _) f q⟩
  · exact f.elim
theorem c_all : RCD K g (rAll K) oAll := by
  intro vs ds F H k Q ex iv f q
  unfold oAll at f
  split at f
  · obtain ⟨ns, rfl, f⟩ := f
    obtain ⟨v, rfl, h⟩ := iv.one
    obtain ⟨a, us, rfl, ha, ia⟩ := h.lst ex
    rw [ia.bls_inv] at ha
    exact ⟨a, ns, rfl, SqL.of ha, ret0 ex (.bl _) f q⟩
  · exact f.elim
theorem c_list : RCL K g (fun xs H Q => ∃ p ys, xs = [.ref p] ∧ (SqL K H p ys ∨ SqT K H p ys) ∧ ∀ l, H l = none → Q (.ref l) (upd H l (.lst ys))) oListOf := by
  intro vs ds F H k Q ex iv f q
  unfold oListOf at f
  split at f
  · obtain ⟨v, rfl, h⟩ := iv.one
    obtain ⟨a, us, rfl, ha, ia⟩ := h.lst ex
    exact ⟨a, us, rfl, .inl (SqL.of ha), ret_own ex ia f q⟩
  · obtain ⟨v, rfl, h⟩ := iv.one
    obtain ⟨a, us, rfl, ha, _, ia⟩ := h.tup ex
    exact ⟨a, us, rfl, .inr ha, ret_own ex ia f q⟩
  · exact f.elim
theorem c_tup : RCD K g (KT.rTupA K) oTupOf := by
  intro vs ds F H k Q ex iv f q
  unfold oTupOf at f
  split at f
  · obtain ⟨v, rfl, h⟩ := iv.one
    obtain ⟨a, us, rfl, ha, ia⟩ := h.lst ex
    exact ⟨a, us, rfl, .inl ⟨SqL.of ha, ret_tup ex ia f q⟩⟩
  · obtain ⟨v, rfl, h⟩ := iv.one
    obtain ⟨a, us, rfl, ha, fa, ia⟩ := h.tup ex
    exact ⟨a, us, rfl, .inr ⟨ha, ret0 ex (.tup fa ia) f q⟩⟩
  · exact f.elim
def rSortedA (K : PySem.W.Frag) : List V → Hp → VK → Prop := fun vs H Q => rSortedI K vs H Q ∨ Rl.rSortedTI K vs H Q ∨ KS.rSortedW K vs H Q
theorem cr_sortedA {X : Cx} : CallR X (.builtin "sorted") (rSortedA X.K) := CallR.or cr_sortedI (CallR.or Rl.cr_sortedTI KS.cr_sortedW)
theorem IsAll.words {cm : Cm} {F : Hp} : ∀ {us : List V} {ls : List (List Int)}, IsAll K cm F us (ls.map encT) → ∃ ps : List (V × List Int), us = ps.map (·.1) ∧ ls = ps.map (·.2) ∧ ∀ x ∈ ps, ∃ t : Addr, x.1 = V.ref t ∧ KT.Tt K F t (x.2.map V.int)
  | _, [], .nil => ⟨[], rfl, rfl, fun x h => nomatch h⟩
  | _, ns :: ls, .cons h q => by
    obtain ⟨ps, e1, e2, e3⟩ := IsAll.words q
    cases h with
    | tup h i =>
      rename_i t vs
      rw [i.ints_inv] at h
      refine ⟨(.ref t, ns) :: ps, by rw [e1]; rfl, by rw [e2]; rfl, fun x hx => ?_⟩
      rcases List.mem_cons.mp hx with e | e
      · rw [e]
        exact ⟨t, rfl, h⟩
      · exact e3 x e
theorem IsAll.unwords {cm : Cm} {F : Hp} : ∀ {ps : List (V × List Int)}, (∀ x ∈ ps, ∃ t : Addr, x.1 = V.ref t ∧ KT.Tt K F t (x.2.map V.int)) → IsAll K cm F (ps.map (·.1)) ((ps.map (·.2)).map encT)
  | [], _ => .nil
  | x :: ps, h => by
    obtain ⟨t, e, ht⟩ := h x List.mem_cons_self
    refine .cons ?_ (IsAll.unwords fun y hy => h y (List.mem_cons_of_mem _ hy))
    show Is K cm F x.1 (encT x.2)
    rw [e]
    exact .tup ht (IsAll.ints _)
theorem c_sortD {a : Addr} {us : List V} {l : List D} {k : List D → Prop} {Q : VK} (ex : Ex F H) (hs : SqL K H a us ∨ SqT K H a us) (ia : IsAll K g.cm F us l) (f : sortD l k) (q : ∀ ds p vs F' H', k ds → Stp g.hd g.cm.tb F H F' H' → H p = none → F' p = none → H' p = some (.lst vs) → IsAll K g.cm F' vs ds → Q (.ref p) H') : rSortedA K [.ref a] H Q := by
  rcases f with ⟨ns, rfl, f⟩ | ⟨ls, rfl, hn, f⟩
  · rw [ia.ints_inv] at hs
    rcases hs with hs | hs
    · exact .inl ⟨a, ns, rfl, hs, fun ms p h1 h2 np => ret_own ex (IsAll.ints ms) (f ms h1 h2) q p np⟩
    · exact .inr (.inl ⟨a, ns, rfl, hs, fun ms p h1 h2 np => ret_own ex (IsAll.ints ms) (f ms h1 h2) q p np⟩)
  · obtain ⟨ps, rfl, rfl, hp⟩ := ia.words
    refine .inr (.inr ⟨a, ps, rfl, hs, fun x hx => ?_, fun qs p h1 h2 np => ?_⟩)
    · obtain ⟨t, e, ht⟩ := hp x hx
      exact ⟨t, e, Evl.ex_t ex ht.sq, hn _ (List.mem_map.mpr ⟨x, hx, rfl⟩)⟩
    · exact ret_own ex (IsAll.unwords fun x hx => hp x (h1.mem_iff.mp hx)) (f (qs.map (·.2)) (h1.map _) (List.pairwise_map.mpr h2)) q p np
theorem c_sorted : RCL K g (rSortedA K) oSorted := by
  intro vs ds F H k Q ex iv f q
  unfold oSorted at f
  split at f
  · obtain ⟨v, rfl, h⟩ := iv.one
    obtain ⟨a, us, rfl, ha, ia⟩ := h.lst ex
    exact c_sortD ex (.inl (SqL.of ha)) ia f q
  · obtain ⟨v, rfl, h⟩ := iv.one
    obtain ⟨a, us, rfl, ha, _, ia⟩ := h.tup ex
    exact c_sortD ex (.inr ha) ia f q
  · exact f.elim
end
/-! ### ranges as lists and tuples -/
def rgD (a b : Int) : List D := (List.range (b - a).toNat).map fun i => D.int (a + (i : Nat))
theorem IsAll.rg {K : PySem.W.Frag} {cm : Cm} {F : Hp} (a b : Int) : IsAll K cm F (rgV a b) (rgD a b) := by
  unfold rgV rgD
  generalize List.range (b - a).toNat = l
  induction l with
  | nil => exact .nil
  | cons x r ih => exact .cons (.int _) ih
def oRg1 (d : D) (k : Int → Int → Prop) : Prop := match d with
  | .int n => (-100000 ≤ n ∧ n ≤ 100000) ∧ k 0 n
  | _ => False
def oRg2 (d e : D) (k : Int → Int → Prop) : Prop := match d, e with
  | .int a, .int b => (-100000 ≤ a ∧ a ≤ 100000 ∧ -100000 ≤ b ∧ b ≤ 100000) ∧ k a b
  | _, _ => False
@[reducible] def wRg1 (ma : (D → Prop) → Prop) : (Int → Int → Prop) → Prop := fun k => ma fun d => oRg1 d k
@[reducible] def wRg2 (ma mb : (D → Prop) → Prop) : (Int → Int → Prop) → Prop := fun k => ma fun d => mb fun e => oRg2 d e k
@[reducible] def wRgL (mr : (Int → Int → Prop) → Prop) : (List D → Prop) → Prop := fun k => mr fun a b => k (rgD a b)
@[reducible] def wRgT (mr : (Int → Int → Prop) → Prop) : (D → Prop) → Prop := fun k => mr fun a b => k (.tup (rgD a b))
def tRg (K : PySem.W.Frag) (g : Gv) (bs : List B) (m : (Int → Int → Prop) → Prop) : St → Hp → (Int → Int → Hp → Prop) → Prop := fun σ H Q => ∃ F k, Sat K g bs σ F H ∧ m k ∧ ∀ a b F' H', k a b → RgOk a b → Stp g.hd g.cm.tb F H F' H' → Q a b H'
section
variable {X : Cx} {g : Gv} {bs : List B} {a b c e : Expr} {p pos : Pos} {ma mb : (D → Prop) → Prop} {mr : (Int → Int → Prop) → Prop}
theorem PRg.imp {e : Expr} {t t' : St → Hp → (Int → Int → Hp → Prop) → Prop} (h : PRg X e t) (i : ∀ σ H Q, t' σ H Q → t σ H Q) : PRg X e t' := fun pins s σ H Q I q => h pins s σ H Q I (i σ H Q q)
theorem g_rg1 (hg : Gl X "range") (hm : X.mg "range" = none) (ha : PE X a (tR X.K g bs ma)) (na : starEach [a] X.env = (false, eval a X.env) :: starEach [] X.env := by rfl) : PRg X (.Call (.Name "range" p) [a] [] pos) (tRg X.K g bs (wRg1 ma)) :=
  PRg.imp (prg_1 hg hm ha na) fun σ H Q ⟨F, k, s, hm, q⟩ => ⟨F, _, s, hm, fun d v F1 H1 kd st iv => by
    unfold oRg1 at kd
    split at kd
    · obtain ⟨⟨h1, h2⟩, kd⟩ := kd
      exact ⟨_, iv.int, q 0 _ F1 H1 kd ⟨by decide, by decide, by omega, by omega, by omega⟩ st⟩
    · exact kd.elim⟩
theorem g_rg2 (hg : Gl X "range") (hm : X.mg "range" = none) (ha : PE X a (tR X.K g bs ma)) (hb : PE X b (tR X.K g bs mb)) (na : starEach [a, b] X.env = (false, eval a X.env) :: starEach [b] X.env := by rfl)
    (nb : starEach [b] X.env = (false, eval b X.env) :: starEach [] X.env := by rfl) (hp : (backTo pos (starEach [b] X.env)).any (·.1) = false := by rfl) : PRg X (.Call (.Name "range" p) [a, b] [] pos) (tRg X.K g bs (wRg2 ma mb)) :=
  PRg.imp (prg_2 hg hm ha hb na nb hp) fun σ H Q ⟨F, k, s, hm, q⟩ => ⟨F, _, s, hm, fun d v F1 H1 kd st iv => ⟨F1, _, s.step st, kd, fun e w F2 H2 ke st2 iw => by
    unfold oRg2 at ke
    split at ke
    · obtain ⟨⟨h1, h2, h3, h4⟩, ke⟩ := ke
      exact ⟨_, _, iv.int, iw.int, q _ _ F2 H2 ke ⟨by omega, by omega, by omega, by omega, by omega⟩ (st.trans st2)⟩
    · exact ke.elim⟩⟩
theorem l_rg (hc : X.calm = true) (hg : Gl X "list") (hm : X.mg "list" = none) (he : PRg X e (tRg X.K g bs mr)) (na : starEach [e] X.env = (false, eval e X.env) :: starEach [] X.env := by rfl) : PE X (.Call (.Name "list" p) [e] [] pos) (tL X.K g bs (wRgL mr)) :=
  PE.imp (pe_listRg hc hg hm he na) fun σ H Q ⟨F, k, s, hm, q⟩ => ⟨F, _, s, hm, fun a b F1 H1 kd ok st => ⟨ok, ret_own st.fh (IsAll.rg a b) kd fun z p v F' H' kz st2 np fp hp iz => q z p v F' H' kz (st.trans st2) (back st np) fp hp iz⟩⟩
theorem e_rgT (hc : X.calm = true) (hg : Gl X "tuple") (hm : X.mg "tuple" = none) (he : PRg X e (tRg X.K g bs mr)) (na : starEach [e] X.env = (false, eval e X.env) :: starEach [] X.env := by rfl) : PE X (.Call (.Name "tuple" p) [e] [] pos) (tM X.K g bs (wRgT mr)) :=
  PE.imp (KT.pe_rgF hc hg hm he na) fun σ H Q ⟨F, k, s, hm, q⟩ => ⟨F, _, s, hm, fun a b F1 H1 kd ok st => ⟨ok, ret_tup st.fh (IsAll.rg a b) kd fun z v F' H' kz st2 iz => q z v F' H' kz (st.trans st2) iz⟩⟩
/-! ### turned about -/
def oRev : D → (D → Prop) → Prop
  | .tup l, k => k (.tup l.reverse)
  | _, _ => False
def oRevL : D → (List D → Prop) → Prop
  | .lst l, k => k l.reverse
  | _, _ => False
theorem e_revT {k : Nat} {p1 p2 p3 : Pos} (he : PE X e (tR X.K g bs ma)) : PE X (.Subscript e (.Slice none none (some (.UnaryOp .USub (.Constant (.int 1) k p1) p2)) p3) pos) (tM X.K g bs (w1 oRev ma)) :=
  PE.imp (KT.pe_revF he) fun σ H Q ⟨F, k, s, hm, q⟩ => ⟨F, _, s, hm, fun d v F1 H1 kd st iv => by
    unfold oRev at kd
    split at kd
    · obtain ⟨a, us, rfl, ha, fa, ia⟩ := iv.tup st.fh
      exact ⟨a, us, rfl, ha, ret_tup st.fh ia.rev kd fun z v F' H' kz st2 iz => q z v F' H' kz (st.trans st2) iz⟩
    · exact kd.elim⟩
theorem l_revL {k : Nat} {p1 p2 p3 : Pos} (he : PE X e (tR X.K g bs ma)) : PE X (.Subscript e (.Slice none none (some (.UnaryOp .USub (.Constant (.int 1) k p1) p2)) p3) pos) (tL X.K g bs (w1L oRevL ma)) :=
  PE.imp (pe_revL he) fun σ H Q ⟨F, k, s, hm, q⟩ => ⟨F, _, s, hm, fun d v F1 H1 kd st iv => by
    unfold oRevL at kd
    split at kd
    · obtain ⟨a, us, rfl, ha, ia⟩ := iv.lst st.fh
      exact ⟨a, us, rfl, SqL.of ha, ret_own st.fh ia.rev kd fun z p v F' H' kz st2 np fp hp iz => q z p v F' H' kz (st.trans st2) (back st np) fp hp iz⟩
    · exact kd.elim⟩
/-! ### sorted(set(ints)) -/
def oSortedSet (d : D) (k : List D → Prop) : Prop := match d with
  | .lst l => ∃ ns : List Int, l = ns.map D.int ∧ ns.length < 64 ∧ ∀ ms : List Int, ms.Pairwise (· < ·) → (∀ z, z ∈ ms ↔ z ∈ ns) → k (ms.map D.int)
  | _ => False
theorem l_sortedSet {p2 pos2 : Pos} (hc : X.calm = true) (hg : Gl X "sorted") (hm : X.mg "sorted" = none) (hg2 : Gl X "set") (hm2 : X.mg "set" = none) (ha : PE X e (tR X.K g bs ma))
    (hs : starEach [e] X.env = (false, eval e X.env) :: starEach [] X.env := by rfl)
    (hs2 : starEach [.Call (.Name "set" p2) [e] [] pos2] X.env = (false, eval (.Call (.Name "set" p2) [e] [] pos2) X.env) :: starEach [] X.env := by rfl) :
    PE X (.Call (.Name "sorted" p) [.Call (.Name "set" p2) [e] [] pos2] [] pos) (tL X.K g bs (w1L oSortedSet ma)) :=
  PE.imp (pe_callB (cr_sortedSet hc) hg hm (by decide +kernel) (pa_cons (pe_callTy (Rl.cr_setI hc) hg2 hm2 (by decide +kernel) (pa_cons ha pa_nil hs) (by decide) (by decide) hs (by rfl)) pa_nil hs2) (by decide) (by decide) hs2 (by rfl)) fun σ H Q ⟨F, k, s, hm, q⟩ => by
    refine ⟨F, _, s, hm, fun d v F1 H1 kd st iv => ?_⟩
    unfold oSortedSet at kd
    split at kd
    · obtain ⟨ns, rfl, ln, kd⟩ := kd
      obtain ⟨a, us, rfl, ha, ia⟩ := iv.lst st.fh
      rw [ia.ints_inv] at ha
      refine ⟨a, ns, rfl, SqL.of ha, by omega, fun S c nS hc => ?_⟩
      have st2 : Stp g.hd g.cm.tb F1 H1 F1 (upd H1 S (SetO X.w S (fun j => decide (j ∈ ns)) c)) := Stp.newOwn st.fh nS
      refine ⟨S, _, c, rfl, upd_same, by omega, fun ms p h1 h2 h3 np => ?_⟩
      refine ret_own (K := X.K) (g := g) st2.fh (IsAll.ints ms) (kd ms h1 fun z => (h2 z).trans decide_eq_true_iff) (fun z p v F' H' kz st3 np fp hp iz => ?_) p np
      exact q z p v F' H' kz (st.trans (st2.trans st3)) (back st (back st2 np)) fp hp iz
    · exact kd.elim
end
end FE
set_option Elab.async false
set_option linter.all false
set_option maxRecDepth 100000
set_option maxHeartbeats 4000000
/-! What is walked, by data; targets; comprehensions. -/
namespace FE
open PySem L2 PySem.Spec PyProof.Rows
open Evl (Ex)
/-- what a walk gives: a tuple that it makes may be unpacked, no more -/
def IsY (K : PySem.W.Frag) (cm : Cm) (F : Hp) (w : Bool) (v : V) (d : D) : Prop := Is K cm F v d ∨ (w = true ∧ ∃ a vs ds, v = .ref a ∧ d = .tup ds ∧ SqT K F a vs ∧ IsAll K cm F vs ds)
theorem IsY.is {K : PySem.W.Frag} {cm : Cm} {F : Hp} {v : V} {d : D} (h : IsY K cm F false v d) : Is K cm F v d := h.elim id fun z => nomatch z.1
theorem IsY.tup {K : PySem.W.Frag} {cm : Cm} {F : Hp} {w : Bool} {v : V} {ds : List D} (h : IsY K cm F w v (.tup ds)) : ∃ a vs, v = .ref a ∧ SqT K F a vs ∧ IsAll K cm F vs ds := by
  rcases h with h | ⟨_, a, vs, ds', e1, e2, h, q⟩
  · cases h with
    | tup h q => exact ⟨_, _, rfl, h.sq, q⟩
  · cases e2
    exact ⟨a, vs, e1, h, q⟩
def WalkD (K : PySem.W.Frag) (g : Gv) (w : Bool) (items : List D) (J : It) (C : Hp → Hp → Prop) : Prop := ∃ (G : Hp → Prop) (Y : Nat → Hp → V → Hp → Prop), Walk J items.length G Y ∧ (∀ F H, C F H → Ex F H → G H) ∧
  ∀ i H x H' F, C F H → Ex F H → i < items.length → Y i H x H' → ∃ F' d, items[i]? = some d ∧ Stp g.hd g.cm.tb F H F' H' ∧ IsY K g.cm F' w x d
theorem WalkD.mono {K : PySem.W.Frag} {g : Gv} {ww : Bool} {items : List D} {J : It} {C C' : Hp → Hp → Prop} (w : WalkD K g ww items J C) (h : ∀ F H, C' F H → C F H) : WalkD K g ww items J C' := by
  obtain ⟨G, Y, w, g1, y⟩ := w
  exact ⟨G, Y, w, fun F H c e => g1 F H (h F H c) e, fun i H x H' F c e l z => y i H x H' F (h F H c) e l z⟩
def tI (K : PySem.W.Frag) (g : Gv) (w : Bool) (bs : List B) (m : (List D → Prop) → Prop) : TI := fun σ H R => ∃ F k, Sat K g bs σ F H ∧ m k ∧ ∀ items J F' H', k items → Stp g.hd g.cm.tb F H F' H' → WalkD K g w items J (fun F2 _ => Ex F' F2) → R J H'
def tIs (K : PySem.W.Frag) (g : Gv) (w : Bool) (bs : List B) (m : (List D → Prop) → Prop) : TI := fun σ H R => ∃ F k, Sat K g bs σ F H ∧ m k ∧ ∀ items J F' H', k items → Stp g.hd g.cm.tb F H F' H' → WalkD K g w items J (fun F2 H2 => Stp g.hd g.cm.tb F' H' F2 H2) → R J H'
def oItems (d : D) (k : List D → Prop) : Prop := match d with
  | .lst l => k l
  | .tup l => k l
  | .str s => k (s.cps.toList.map fun c => D.str ⟨#[c]⟩)
  | _ => False
@[reducible] def wSeq (m : (D → Prop) → Prop) : (List D → Prop) → Prop := fun k => m fun d => oItems d k
@[reducible] def wRg (mr : (Int → Int → Prop) → Prop) : (List D → Prop) → Prop := fun k => mr fun a b => k (rgD a b)
section
variable {X : Cx} {g : Gv} {bs : List B} {tg a b c e : Expr} {p pos : Pos} {ma mb m : (D → Prop) → Prop} {mi : (List D → Prop) → Prop} {mr : (Int → Int → Prop) → Prop}
theorem PI.imp {t t' : TI} (h : PI X tg e t) (i : ∀ σ H R, t' σ H R → t σ H R) : PI X tg e t' := ⟨fun pins s σ H R I q => h.run pins s σ H R I (i σ H R q)⟩
theorem i_s {ww : Bool} (h : PI X tg e (tI X.K g ww bs mi)) : PI X tg e (tIs X.K g ww bs mi) := PI.imp h fun σ H R ⟨F, k, s, hm, q⟩ => ⟨F, k, s, hm, fun items J F' H' ki st w => q items J F' H' ki st (w.mono fun F2 H2 z => z.ff)⟩
def iSeq (K : PySem.W.Frag) (te : TE) : TI := fun σ H R => te σ H fun x H1 => (∃ a, x = .ref a ∧ (∃ xs, SqL K H1 a xs) ∧ R (Itl K a) H1) ∨ (∃ a, x = .ref a ∧ (∃ xs, SqT K H1 a xs) ∧ R (Itt K a) H1) ∨ ∃ z, x = .str z ∧ R (Its z) H1
theorem pi_seq {te : TE} (he : PE X e te) : PI X tg e (iSeq X.K te) := by
  constructor
  intro pins s0 σ H R I0 hyp
  refine thn (he.run pins s0 σ H _ I0 hyp) ?_
  rintro v s1 ⟨x, H1, J, rel, way⟩
  -- the iterator's own object is new
  have here : ∀ b, b ∈ [s1.heap.objs.size] → FpOk X pins H1 b := fun b m => by
    obtain rfl := List.mem_singleton.mp m
    exact J.fpOk (Nat.le_refl _) (J.hok.fresh (Nat.le_refl _))
  have stay : ∀ o, Inv X pins σ H1 { s1 with heap := s1.heap.push o } := fun o => J.kept (t' := s1.toks) fun _ _ q => Heap.get?_push_of_some _ q
  rcases way with ⟨l, ex, ⟨xs, sq⟩, k⟩ | ⟨l, ex, ⟨xs, sq⟩, k⟩ | ⟨z, ex, k⟩
  · subst ex
    cases rel
    obtain ⟨_, _, at_l, _⟩ := J.list sq
    exact wpAny_pyIter_list at_l.isList ⟨_, _, _, _, H1, rfl, stay _, turn_list l _, ⟨_, Heap.get?_push_size _ rfl, rfl, rfl⟩, here, k⟩
  · subst ex
    cases rel
    obtain ⟨us, _, at_l, _⟩ := J.tuple sq
    exact wpAny_pyIter_tuple (show s1.heap.IsTuple l us.toArray from at_l) ⟨_, _, _, _, H1, rfl, stay _, turn_tuple l _, ⟨_, Heap.get?_push_size _ rfl, rfl, rfl⟩, here, k⟩
  · subst ex
    obtain ⟨t, rfl⟩ := rel
    cases asc : z.cps.all (· < 128) with
    | false => exact wpAny_pyIter_wide asc (pi_one (tk := s1.toks) J _ (turn_str _ z t "str_iterator" (.inr rfl)) ⟨_, Heap.get?_push_size _ rfl, rfl, rfl⟩ k)
    | true => exact wpAny_pyIter_ascii asc (pi_one (tk := s1.toks) J _ (turn_str _ z t "str_ascii_iterator" (.inl rfl)) ⟨_, Heap.get?_push_size _ rfl, rfl, rfl⟩ k)
/-! ### instances -/
theorem rgD_get {a b : Int} {i : Nat} (h : i < (b - a).toNat) : (rgD a b)[i]? = some (.int (a + (i : Nat))) := by
  unfold rgD
  rw [List.getElem?_map, List.getElem?_range h]
  rfl
theorem rgD_len (a b : Int) : (rgD a b).length = (b - a).toNat := by
  unfold rgD
  rw [List.length_map, List.length_range]
theorem stay_y {K : PySem.W.Frag} {F : Hp} {vs : List V} {items : List D} (ia : ∀ F', Ex F F' → IsAll K g.cm F' vs items) {C : Hp → Hp → Prop} (hC : ∀ F2 H2, C F2 H2 → Ex F F2) {i : Nat} {H2 H' F2 : Hp} {x : V} (c : C F2 H2) (ex : Ex F2 H2) (hi : i < items.length) (y : H' = H2 ∧ vs[i]? = some x) :
    ∃ F' d, items[i]? = some d ∧ Stp g.hd g.cm.tb F2 H2 F' H' ∧ IsY K g.cm F' false x d := by
  obtain ⟨rfl, hx⟩ := y
  obtain ⟨d, hd, id⟩ := (ia F2 (hC _ _ c)).getV hx
  exact ⟨F2, d, hd, Stp.refl ex, .inl id⟩
theorem i_seq (he : PE X e (tM X.K g bs m)) : PI X tg e (tI X.K g false bs (wSeq m)) := PI.imp (pi_seq he) fun σ H R ⟨F, k, s, hm, q⟩ => by
  refine ⟨F, _, s, hm, fun d v F1 H1 kd st iv => ?_⟩
  cases d with
  | lst l =>
    cases iv with
    | lst h ia =>
      rename_i a vs
      refine .inl ⟨a, rfl, ⟨vs, SqL.of (st.fh _ _ h)⟩, q l _ F1 H1 kd st ⟨fun H => SqL X.K H a vs, YAt vs, ?_, fun F2 H2 c ex => SqL.of (ex _ _ (c _ _ h)), fun i H2 x H' F2 c ex hi y => ?_⟩⟩
      · rw [← ia.len]
        exact walk_list
      · exact stay_y (F := F1) (fun F' z => ia.mono z) (C := fun F2 _ => Ex F1 F2) (fun _ _ z => z) c ex hi y
  | tup l =>
    cases iv with
    | tup h ia =>
      rename_i a vs
      refine .inr (.inl ⟨a, rfl, ⟨vs, Evl.ex_t st.fh h.sq⟩, q l _ F1 H1 kd st ⟨fun H => SqT X.K H a vs, YAt vs, ?_, fun F2 H2 c ex => Evl.ex_t ex (Evl.ex_t c h.sq), fun i H2 x H' F2 c ex hi y => ?_⟩⟩)
      · rw [← ia.len]
        exact walk_tup
      · exact stay_y (F := F1) (fun F' z => ia.mono z) (C := fun F2 _ => Ex F1 F2) (fun _ _ z => z) c ex hi y
  | str z =>
    refine .inr (.inr ⟨z, iv.str_inv, q _ _ F1 H1 kd st ⟨fun _ => True, (fun i H v H' => H' = H ∧ ∃ c, z.cps[i]? = some c ∧ v = .str ⟨#[c]⟩), ?_, fun _ _ _ _ => True.intro, fun i H2 x H' F2 c ex hi y => ?_⟩⟩)
    · rw [List.length_map]
      exact walk_str
    · obtain ⟨rfl, c, hc, rfl⟩ := y
      refine ⟨F2, .str ⟨#[c]⟩, ?_, Stp.refl ex, .inl (.str _)⟩
      rw [List.getElem?_map, Array.getElem?_toList, hc]
      rfl
  | _ => exact kd.elim
/-- a list of one's own, within an expression -/
theorem i_seqO (he : PE X e (tR X.K g bs m)) : PI X tg e (tIs X.K g false bs (wSeq m)) := PI.imp (pi_seq he) fun σ H R ⟨F, k, s, hm, q⟩ => by
  refine ⟨F, _, s, hm, fun d v F1 H1 kd st iv => ?_⟩
  cases d with
  | lst l =>
    cases iv with
    | is iv =>
      cases iv with
      | lst h ia =>
        rename_i a vs
        refine .inl ⟨a, rfl, ⟨vs, SqL.of (st.fh _ _ h)⟩, q l _ F1 H1 kd st ⟨fun H => SqL X.K H a vs, YAt vs, ?_, fun F2 H2 c ex => SqL.of (ex _ _ (c.ff _ _ h)), fun i H2 x H' F2 c ex hi y => ?_⟩⟩
        · rw [← ia.len]
          exact walk_list
        · exact stay_y (F := F1) (fun F' z => ia.mono z) (C := fun F2 H2 => Stp g.hd g.cm.tb F1 H1 F2 H2) (fun _ _ z => z.ff) c ex hi y
    | own h ia n =>
      rename_i a vs
      refine .inl ⟨a, rfl, ⟨vs, SqL.of h⟩, q l _ F1 H1 kd st ⟨fun H => SqL X.K H a vs, YAt vs, ?_, fun F2 H2 c ex => SqL.of (c.kpL h n), fun i H2 x H' F2 c ex hi y => ?_⟩⟩
      · rw [← ia.len]
        exact walk_list
      · exact stay_y (F := F1) (fun F' z => ia.mono z) (C := fun F2 H2 => Stp g.hd g.cm.tb F1 H1 F2 H2) (fun _ _ z => z.ff) c ex hi y
  | tup l =>
    cases iv with
    | is iv =>
      cases iv with
      | tup h ia =>
        rename_i a vs
        refine .inr (.inl ⟨a, rfl, ⟨vs, Evl.ex_t st.fh h.sq⟩, q l _ F1 H1 kd st ⟨fun H => SqT X.K H a vs, YAt vs, ?_, fun F2 H2 c ex => Evl.ex_t ex (Evl.ex_t c.ff h.sq), fun i H2 x H' F2 c ex hi y => ?_⟩⟩)
        · rw [← ia.len]
          exact walk_tup
        · exact stay_y (F := F1) (fun F' z => ia.mono z) (C := fun F2 H2 => Stp g.hd g.cm.tb F1 H1 F2 H2) (fun _ _ z => z.ff) c ex hi y
  | str z =>
    refine .inr (.inr ⟨z, iv.str, q _ _ F1 H1 kd st ⟨fun _ => True, (fun i H v H' => H' = H ∧ ∃ c, z.cps[i]? = some c ∧ v = .str ⟨#[c]⟩), ?_, fun _ _ _ _ => True.intro, fun i H2 x H' F2 c ex hi y => ?_⟩⟩)
    · rw [List.length_map]
      exact walk_str
    · obtain ⟨rfl, c, hc, rfl⟩ := y
      refine ⟨F2, .str ⟨#[c]⟩, ?_, Stp.refl ex, .inl (.str _)⟩
      rw [List.getElem?_map, Array.getElem?_toList, hc]
      rfl
  | _ => exact kd.elim
theorem rg_walk {K : PySem.W.Frag} {a b : Int} {C : Hp → Hp → Prop} : WalkD K g false (rgD a b) (Itr a (b - a).toNat) C := by
  refine ⟨fun _ => True, YFn fun i => .int (a + (i : Nat)), ?_, fun _ _ _ _ => True.intro, fun i H2 x H' F2 c ex hi y => ?_⟩
  · rw [rgD_len]
    exact walk_range
  · obtain ⟨rfl, rfl⟩ := y
    rw [rgD_len] at hi
    exact ⟨F2, _, rgD_get hi, Stp.refl ex, .inl (.int _)⟩
theorem i_rg1 (hg : Gl X "range") (hm : X.mg "range" = none) (ha : PE X a (tR X.K g bs ma)) (hs : starEach [a] X.env = [(false, eval a X.env)] := by rfl) (hs1 : starEach [a] X.env = (false, eval a X.env) :: starEach [] X.env := by rfl) : PI X tg (.Call (.Name "range" p) [a] [] pos) (tI X.K g false bs (wRg (wRg1 ma))) :=
  PI.imp (pi_range1 hg hm (pa_cons ha pa_nil hs1) hs) fun σ H R ⟨F, k, s, hm, q⟩ => ⟨F, _, s, hm, fun d v F1 H1 kd st iv => by
    unfold oRg1 at kd
    split at kd
    · obtain ⟨⟨h1, h2⟩, kd⟩ := kd
      rename_i n
      refine ⟨n, by rw [iv.int], by omega, by omega, q _ _ F1 H1 kd st ?_⟩
      have := rg_walk (K := X.K) (g := g) (a := 0) (b := n) (C := fun F2 _ => Ex F1 F2)
      rw [Int.sub_zero] at this
      exact this
    · exact kd.elim⟩
theorem i_rg2 (hg : Gl X "range") (hm : X.mg "range" = none) (ha : PE X a (tR X.K g bs ma)) (hb : PE X b (tR X.K g bs mb)) (hs : starEach [a, b] X.env = [(false, eval a X.env), (false, eval b X.env)] := by rfl)
    (hs1 : starEach [a, b] X.env = (false, eval a X.env) :: starEach [b] X.env := by rfl) (hs2 : starEach [b] X.env = (false, eval b X.env) :: starEach [] X.env := by rfl) : PI X tg (.Call (.Name "range" p) [a, b] [] pos) (tI X.K g false bs (wRg (wRg2 ma mb))) :=
  PI.imp (pi_range2 hg hm (pa_cons ha (pa_cons hb pa_nil hs2) hs1) hs hs2) fun σ H R ⟨F, k, s, hm, q⟩ => ⟨F, _, s, hm, fun d v F1 H1 kd st iv => ⟨F1, _, s.step st, kd, fun e w F2 H2 ke st2 iw => by
    unfold oRg2 at ke
    split at ke
    · obtain ⟨⟨h1, h2, h3, h4⟩, ke⟩ := ke
      rename_i x y
      exact ⟨x, y, by rw [iv.int, iw.int], ⟨by omega, by omega, by omega, by omega⟩, q _ _ F2 H2 ke (st.trans st2) rg_walk⟩
    · exact ke.elim⟩⟩
end
/-! ### enumerate, zip, reversed -/
def enD : Nat → List D → List D
  | _, [] => []
  | i, x :: r => .tup [.int (i : Nat), x] :: enD (i + 1) r
theorem enD_len : ∀ (j : Nat) (l : List D), (enD j l).length = l.length
  | _, [] => rfl
  | j, _ :: r => congrArg (· + 1) (enD_len (j + 1) r)
theorem enD_get : ∀ {j i : Nat} {l : List D} {d : D}, l[i]? = some d → (enD j l)[i]? = some (.tup [.int ((j + i : Nat) : Int), d])
  | _, _, [], _, h => by simp at h
  | j, 0, x :: r, d, h => by
    have e : x = d := Option.some.inj h
    subst e
    rfl
  | j, i + 1, x :: r, d, h => by
    have := enD_get (j := j + 1) (i := i) (l := r) (d := d) h
    rw [show j + 1 + i = j + (i + 1) by omega] at this
    exact this
def zipD (l r : List D) : List D := List.zipWith (fun a b => .tup [a, b]) l r
theorem zipD_get {l r : List D} {i : Nat} {a b : D} (h1 : l[i]? = some a) (h2 : r[i]? = some b) : (zipD l r)[i]? = some (.tup [a, b]) := by
  unfold zipD
  rw [List.getElem?_zipWith, h1, h2]
theorem zipD_len (l r : List D) : (zipD l r).length = min l.length r.length := List.length_zipWith ..
section
variable {K : PySem.W.Frag} {g : Gv}
theorem new_pair {F H H' : Hp} {x y v : V} {d e : D} (ex : Ex F H) (i1 : Is K g.cm F x d) (i2 : Is K g.cm F y e) {T : Addr} (ev : v = .ref T) (nT : H T = none) (eH : H' = upd H T (.tup [x, y])) : ∃ F', Stp g.hd g.cm.tb F H F' H' ∧ IsY K g.cm F' true v (.tup [d, e]) := by
  subst ev eH
  have fT := Evl.fresh_back ex nT
  exact ⟨_, Stp.new ex nT, .inr ⟨rfl, T, [x, y], [d, e], rfl, rfl, SqT.of upd_same, .cons (i1.mono (Ex.new fT)) (.cons (i2.mono (Ex.new fT)) .nil)⟩⟩
end
end FE
set_option Elab.async false
set_option linter.all false
set_option maxRecDepth 100000
set_option maxHeartbeats 4000000
/-! Targets, comprehensions. -/
namespace FE
open PySem L2
open Evl (Ex)
structure Tg (K : PySem.W.Frag) (g : Gv) (w : Bool) (t : TG) {A : Type} (enc : A → D) (js : List Nat) (ub : A → List B → List B) : Prop where
  run : ∀ (a : A) (v : V) (bs : List B) (σ : St) (F H : Hp) (R : St → Hp → Prop), Sat K g bs σ F H → IsY K g.cm F w v (enc a) →
    (∀ σ' : St, Sat K g (ub a bs) σ' F H → σ'.length = σ.length → (∀ i, i ∉ js → σ'[i]? = σ[i]?) → R σ' H) → t v σ H R
section
variable {K : PySem.W.Frag} {g : Gv} {A1 A2 A3 : Type} {t t1 t2 t3 : TG} {e1 : A1 → D} {e2 : A2 → D} {e3 : A3 → D} {j1 j2 j3 : List Nat} {u1 : A1 → List B → List B} {u2 : A2 → List B → List B} {u3 : A3 → List B → List B}
theorem tg_n {i : Nat} : Tg K g false (gName i) (fun d : D => d) [i] (fun d bs => bs.set i (.dat d)) := ⟨fun a v bs σ F H R s h k =>
  k _ (s.setD h.is) (List.length_set ..) fun j hj => by rw [List.getElem?_set_ne (fun z => hj (by rw [z]; exact List.mem_singleton.mpr rfl))]⟩
theorem tg_2 {ww : Bool} (h1 : Tg K g false t1 e1 j1 u1) (h2 : Tg K g false t2 e2 j2 u2) : Tg K g ww (gTup K 2 (gCons t1 (gCons t2 gNil))) (fun a : A1 × A2 => .tup [e1 a.1, e2 a.2]) (j1 ++ j2) (fun a bs => u2 a.2 (u1 a.1 bs)) := ⟨fun a v bs σ F H R s h k => by
  obtain ⟨p, vs, rfl, h, q⟩ := h.tup
  · skip
    cases q with
    | cons i1 q =>
      cases q with
      | cons i2 q =>
        cases q
        refine ⟨p, _, rfl, Evl.ex_t s.ex h, rfl, _, _, rfl, h1.run _ _ _ _ _ _ _ s (.inl i1) fun σ1 s1 l1 k1 => ⟨_, _, rfl, h2.run _ _ _ _ _ _ _ s1 (.inl i2) fun σ2 s2 l2 k2 => ⟨rfl, k σ2 s2 (l2.trans l1) fun i hi => ?_⟩⟩⟩
        rw [List.mem_append, not_or] at hi
        exact (k2 i hi.2).trans (k1 i hi.1)⟩
theorem tg_3 {ww : Bool} (h1 : Tg K g false t1 e1 j1 u1) (h2 : Tg K g false t2 e2 j2 u2) (h3 : Tg K g false t3 e3 j3 u3) : Tg K g ww (gTup K 3 (gCons t1 (gCons t2 (gCons t3 gNil)))) (fun a : A1 × A2 × A3 => .tup [e1 a.1, e2 a.2.1, e3 a.2.2]) (j1 ++ (j2 ++ j3)) (fun a bs => u3 a.2.2 (u2 a.2.1 (u1 a.1 bs))) := ⟨fun a v bs σ F H R s h k => by
  obtain ⟨p, vs, rfl, h, q⟩ := h.tup
  · skip
    cases q with
    | cons i1 q =>
      cases q with
      | cons i2 q =>
        cases q with
        | cons i3 q =>
          cases q
          refine ⟨p, _, rfl, Evl.ex_t s.ex h, rfl, _, _, rfl, h1.run _ _ _ _ _ _ _ s (.inl i1) fun σ1 s1 l1 k1 => ⟨_, _, rfl, h2.run _ _ _ _ _ _ _ s1 (.inl i2) fun σ2 s2 l2 k2 => ⟨_, _, rfl, h3.run _ _ _ _ _ _ _ s2 (.inl i3) fun σ3 s3 l3 k3 => ⟨rfl, k σ3 s3 (l3.trans (l2.trans l1)) fun i hi => ?_⟩⟩⟩⟩
          rw [List.mem_append, List.mem_append, not_or, not_or] at hi
          exact (k3 i hi.2.2).trans ((k2 i hi.2.1).trans (k1 i hi.1))⟩
end
/-! ### slots forgotten -/
def wipeB (bs : List B) : List Nat → List B
  | [] => bs
  | v :: vs => (wipeB bs vs).set v .any
theorem Sat.wipe {K : PySem.W.Frag} {g : Gv} {bs : List B} {σ : St} {F H : Hp} (s : Sat K g bs σ F H) : ∀ vs : List Nat, Sat K g (wipeB bs vs) (wipe σ vs) F H
  | [] => s
  | v :: vs => (Sat.wipe s vs).setN
theorem wipe_get (σ : St) : ∀ (vs : List Nat) (i : Nat), (L2.wipe σ vs)[i]? = if i ∈ vs then (σ[i]?).map fun _ => none else σ[i]?
  | [], i => by simp [L2.wipe]
  | v :: vs, i => by
    unfold L2.wipe
    rw [List.getElem?_set, wipe_get σ vs i, wipe_length]
    by_cases e : v = i
    · subst e
      rw [if_pos rfl, if_pos List.mem_cons_self]
      by_cases l : v < σ.length
      · rw [if_pos l, List.getElem?_eq_getElem l]
        rfl
      · rw [if_neg l, List.getElem?_eq_none (by omega)]
        rfl
    · rw [if_neg e]
      by_cases m : i ∈ vs
      · rw [if_pos m, if_pos (List.mem_cons_of_mem _ m)]
      · rw [if_neg m, if_neg (fun z => (List.mem_cons.mp z).elim (fun q => e q.symm) m)]
theorem wipe_back {σ σ2 : St} {vs js : List Nat} (hl : σ2.length = (L2.wipe σ vs).length) (hk : ∀ i, i ∉ js → σ2[i]? = (L2.wipe σ vs)[i]?) (hj : ∀ j ∈ js, j ∈ vs) : L2.wipe σ2 vs = L2.wipe σ vs := by
  refine List.ext_getElem? fun i => ?_
  rw [wipe_get, wipe_get]
  by_cases m : i ∈ vs
  · rw [if_pos m, if_pos m]
    rw [wipe_length] at hl
    by_cases l : i < σ.length
    · rw [List.getElem?_eq_getElem l, List.getElem?_eq_getElem (by omega)]
      rfl
    · rw [List.getElem?_eq_none (by omega), List.getElem?_eq_none (by omega)]
  · rw [if_neg m, if_neg m, hk i (fun z => m (hj i z)), wipe_get, if_neg m]
/-! ### comprehensions -/
def lcW (f : D → (Option D → Prop) → Prop) : List D → List D → (List D → Prop) → Prop
  | [], acc, k => k acc
  | x :: r, acc, k => f x fun o => match o with
    | some d => lcW f r (acc ++ [d]) k
    | none => lcW f r acc k
@[reducible] def wLc {A : Type} (enc : A → D) (mi : (List D → Prop) → Prop) (mc : A → (Bool → Prop) → Prop) (me : A → (D → Prop) → Prop) : (List D → Prop) → Prop := fun k => mi fun items => items.length ≤ 100000 ∧
  lcW (fun x ko => ∃ a, x = enc a ∧ mc a fun b => if b = true then me a (fun d => ko (some d)) else ko none) items [] k
@[reducible] def wYes : (Bool → Prop) → Prop := fun k => k true
section
variable {X : Cx} {g : Gv} {bs : List B}
theorem tt_nil : PTs X [] (tT X.K g bs wYes) := ⟨fun pins s σ H Q I ⟨F, k, sa, hm, q⟩ => pts_nil.run pins s σ H Q I (q true F H hm (Stp.refl sa.ex))⟩
theorem tt_one {c : Expr} {mt : (Bool → Prop) → Prop} (h : PT X c (tT X.K g bs mt)) : PTs X [c] (tT X.K g bs mt) := pts_one h
/-- appended to a list that nothing knew at the start -/
theorem Stp.app {hd : Option (Addr × Addr)} {T : List (Addr × Str)} {F H F' H' : Hp} {p : Addr} {o : HO} {vl : List V} (hl : H' p = some (.lst vl)) (st : Stp hd T F H F' H') (np : H p = none) (fp : F' p = none) (hh : ∀ q, hd = some q → HandAt F H q.1 q.2) : Stp hd T F H F' (upd H' p o) := by
  refine ⟨st.ff, fun a u ha => ?_, st.own, fun b hb => ?_, fun b u hb nt n => ?_, fun q e h => ?_, fun t => tabs_at (st.tab t) fun b o hb no => by rw [upd_ne (fun z => by rw [z, hl] at hb; cases hb; exact no.elim)]; exact hb, st.nt⟩
  · rw [upd_ne (fun z => by rw [z, fp] at ha; cases ha)]
    exact st.fh a u ha
  · rw [upd_ne (fun z => hb (by rw [z]; exact np))]
    exact st.dom b hb
  · rw [upd_ne (ne_of_none hb np)]
    exact st.kp b u hb nt n
  · have nq : q.1 ≠ p := fun z => h.some (by rw [z]; exact np)
    exact (st.hand q e h).to (Ex.refl F') fun o ho => by rw [upd_ne nq]; exact ho
theorem lc_rd {ww : Bool} {K : PySem.W.Frag} {A : Type} {enc : A → D} {js : List Nat} {ub : A → List B → List B} {gt : TG} {vs : List Nat} {bw : List B} {mi : (List D → Prop) → Prop} {mc : A → (Bool → Prop) → Prop} {me : A → (D → Prop) → Prop} (hT : Tg K g ww gt enc js ub) (hj : ∀ j ∈ js, j ∈ vs) (hw : wipeB bs vs = bw)
    (σ : St) (H : Hp) (Q : VK) (h : tL K g bs (wLc enc mi mc me) σ H Q) : tLc (tIs K g ww bs mi) gt (fun σ H Q => ∃ a, tT K g (ub a bw) (mc a) σ H Q) (fun σ H Q => ∃ a, tM K g (ub a bw) (me a) σ H Q) vs σ H Q := by
  obtain ⟨F, k, sa, hm, q⟩ := h
  refine ⟨F, _, sa, hm, fun items J F1 H1 ki st ⟨G, Y, w, gC, y⟩ L nD => ?_⟩
  obtain ⟨lz, ki⟩ := ki
  have sa1 := sa.step st
  have hh : ∀ p, g.hd = some p → HandAt F1 H1 p.1 p.2 := fun p e => (sa1.hd p e).1
  have fD1 := Evl.fresh_back st.fh nD
  obtain ⟨f, hf⟩ : ∃ f : D → (Option D → Prop) → Prop, f = fun x ko => ∃ a, x = enc a ∧ mc a fun b => if b = true then me a (fun d => ko (some d)) else ko none := ⟨_, rfl⟩
  rw [← hf] at ki
  refine lc_it w (g := gt) (tt := fun σ H Q => ∃ a, tT K g (ub a bw) (mc a) σ H Q) (te := fun σ H Q => ∃ a, tM K g (ub a bw) (me a) σ H Q) (vs := vs) (σ := σ) (H1 := H1) (D := L) (Qd := fun H' => Q (.ref L) H') (fun i H' => ∃ F' us acc, Stp g.hd g.cm.tb F1 H1 F' H' ∧ F' L = none ∧ H' L = some (.lst us) ∧ IsAll K g.cm F' us acc ∧ acc.length ≤ i ∧ lcW f (items.drop i) acc k) ?_ ?_ ?_ ?_
  · exact ⟨F1, [], [], Stp.newOwn st.fh nD, fD1, upd_same, .nil, Nat.le_refl _, ki⟩
  · intro i H' _ ⟨F', us, acc, s2, _⟩
    exact gC F' H' s2 s2.fh
  · intro i x H2 H3 hi ⟨F2, us, acc, s2, fD, hD, ia, la, kk⟩ yy
    obtain ⟨F3, d, hd, s3, id⟩ := y i H2 x H3 F2 s2 s2.fh hi yy
    have lt := (List.getElem?_eq_some_iff.mp hd).1
    rw [List.drop_eq_getElem_cons lt] at kk
    have ed : items[i] = d := (List.getElem?_eq_some_iff.mp hd).2
    rw [ed] at kk
    have k1 : f d _ := kk
    obtain ⟨a, rfl, k3⟩ := (congrFun (congrFun hf d) _).mp k1
    have nDh : ∀ p, g.hd = some p → L ≠ p.1 := fun p e z => (hh p e).some (by rw [← z]; exact nD)
    have s13 := s2.trans s3
    have saw : Sat K g bw (L2.wipe σ vs) F3 H3 := by
      have := (sa1.step s13).wipe vs
      rw [hw] at this
      exact this
    have step : ∀ {F4 H4 : Hp}, Stp g.hd g.cm.tb F3 H3 F4 H4 → F4 L = none ∧ H4 L = some (.lst us) := fun {F4 H4} s4 => by
      have h3 := s3.kpL hD nDh
      exact ⟨s4.own L (by rw [h3]; exact fun z => by cases z) (s3.own L (by rw [hD]; exact fun z => by cases z) fD), s4.kpL h3 nDh⟩
    refine hT.run a x bw _ F3 H3 _ saw id fun σ2 sa2 l2 k2 => ⟨wipe_back l2 k2 hj, a, F3, _, sa2, k3, fun b F4 H4 kb s4 => ?_⟩
    cases b with
    | false =>
      obtain ⟨f4, h4⟩ := step s4
      exact ⟨F4, us, acc, s13.trans s4, f4, h4, ia.mono (s3.ff.trans s4.ff), by omega, kb⟩
    | true =>
      refine ⟨a, F4, _, sa2.step s4, kb, fun z v F5 H5 kz s5 iz => ?_⟩
      obtain ⟨f5, h5⟩ := step (s4.trans s5)
      have lv := ia.len
      have s15 := s13.trans (s4.trans s5)
      refine ⟨us, h5, Nat.lt_of_le_of_lt (show us.length ≤ 100000 by omega) (by decide), F5, us ++ [v], acc ++ [z], Stp.app h5 s15 nD f5 hh, f5, upd_same, (ia.mono (s3.ff.trans (s4.ff.trans s5.ff))).app (.one iz), ?_, kz⟩
      rw [List.length_append]
      exact Nat.add_le_add_right la 1
  · intro H' ⟨F', us, acc, s2, fD, hD, ia, la, kk⟩
    rw [List.drop_of_length_le (Nat.le_refl _)] at kk
    exact q acc L us F' H' kk (st.trans s2) (back st nD) fD hD ia
theorem l_lc {ww : Bool} {A : Type} {enc : A → D} {js : List Nat} {ub : A → List B → List B} {elt tg iter : Expr} {ifs : List Expr} {scope : Scope} {own : List (Str × Nat)} {pos : Pos} {gt : TG} {bw : List B} {mi : (List D → Prop) → Prop} {mc : A → (Bool → Prop) → Prop} {me : A → (D → Prop) → Prop}
    (hc : X.calm = true) (hN : X.N.Nodup) (hi : PI X tg iter (tIs X.K g ww bs mi)) (ok : BlkOk X.N X.env.scope scope own) (hT : Tg X.K g ww gt enc js ub) (hj : ∀ j ∈ js, j ∈ own.map (·.2)) (hw : wipeB bs (own.map (·.2)) = bw)
    (hg : ∀ (s : Shared) (H : Hp) (C : Addr) (cl : List (Str × Addr)) (fp : List Addr), PG (X.blk s H scope (compEnvC scope cl C X.env) fp) tg gt)
    (ht : ∀ (a : A) (s : Shared) (H : Hp) (C : Addr) (cl : List (Str × Addr)) (fp : List Addr), PTs (X.blk s H scope (compEnvC scope cl C X.env) fp) ifs (tT X.K g (ub a bw) (mc a)))
    (he : ∀ (a : A) (s : Shared) (H : Hp) (C : Addr) (cl : List (Str × Addr)) (fp : List Addr), PE (X.blk s H scope (compEnvC scope cl C X.env) fp) elt (tM X.K g (ub a bw) (me a)))
    (hs : ∀ x, foldedSetIterable iter X.env x = pure x := by intro _; rfl) : PE X (.ListComp elt [⟨tg, iter, ifs, 0⟩] scope pos) (tL X.K g bs (wLc enc mi mc me)) := by
  exact PE.imp (pe_lc (g := gt) (tt := fun σ H Q => ∃ a, tT X.K g (ub a bw) (mc a) σ H Q) (te := fun σ H Q => ∃ a, tM X.K g (ub a bw) (me a) σ H Q) hc hN hi ok hg (fun s H C cl fp => ⟨fun pins s' σ H' Q I ⟨a, q⟩ => (ht a s H C cl fp).run pins s' σ H' Q I q⟩)
    (fun s H C cl fp => ⟨fun pins s' σ H' Q I ⟨a, q⟩ => (he a s H C cl fp).run pins s' σ H' Q I q⟩) hs) (lc_rd hT hj hw)
end
end FE
set_option Elab.async false
set_option linter.all false
set_option maxRecDepth 100000
set_option maxHeartbeats 4000000
/-! Statements by data. -/
namespace FE
open PySem L2
open Evl (Ex)
/-- where ways join: slots by a state, what is due of it -/
structure Jn where
  S : Type
  f : S → List B
  k : S → Prop
/-- nothing comes there -/
def Jn.no : Jn := ⟨Empty, fun _ => [], fun _ => False⟩
def nxJ (K : PySem.W.Frag) (g : Gv) (j : Jn) (nx : St → Hp → Prop) : Prop := ∀ (s : j.S) (σ : St) (F H : Hp), Sat K g (j.f s) σ F H → j.k s → nx σ H
/-- what is due of a value that is returned; of a list that is returned, one's own -/
structure Rt where
  d : D → Prop
  l : List D → Prop
structure RtOk (K : PySem.W.Frag) (g : Gv) (r : Rt) (rt : VK) : Prop where
  d : ∀ d v F H, r.d d → Stp g.hd g.cm.tb g.F0 g.H0 F H → Is K g.cm F v d → rt v H
  l : ∀ ds p vs F H, r.l ds → Stp g.hd g.cm.tb g.F0 g.H0 F H → g.H0 p = none → F p = none → H p = some (.lst vs) → IsAll K g.cm F vs ds → rt (.ref p) H
def tS (K : PySem.W.Frag) (g : Gv) (bs : List B) (n b c : Jn) (r : Rt) (P : Prop) : TS := fun E σ H => P ∧ (∃ F, Sat K g bs σ F H) ∧ nxJ K g n E.nx ∧ nxJ K g b E.bk ∧ nxJ K g c E.ct ∧ RtOk K g r E.rt
section
variable {X : Cx} {g : Gv} {bs bs' : List B} {n b c : Jn} {r : Rt} {P : Prop} {st : Stmt} {rest body : List Stmt} {e e1 e2 : Expr} {x : Str} {pos pos' : Pos} {m m1 m2 : (D → Prop) → Prop} {mL : (List D → Prop) → Prop} {mt : (Bool → Prop) → Prop} {i : Nat}
theorem nxJ.no {K : PySem.W.Frag} {nx : St → Hp → Prop} : nxJ K g Jn.no nx := fun s => nomatch s
/-- a statement with what comes behind it, told by what is made in between -/
theorem cons_of {α : Type} {ts : TS} {P' : α → Prop} {bs' : α → List B} (h : PS X st ts) (hr : ∀ a, PSs X rest (tS X.K g (bs' a) n b c r (P' a)))
    (i : ∀ E σ H, tS X.K g bs n b c r P E σ H → ts { E with nx := fun σ' H' => ∃ a, P' a ∧ ∃ F, Sat X.K g (bs' a) σ' F H' } σ H) : PSs X (st :: rest) (tS X.K g bs n b c r P) := by
  have hr' : PSs X rest (fun E σ H => (∃ a, P' a ∧ ∃ F, Sat X.K g (bs' a) σ F H) ∧ nxJ X.K g n E.nx ∧ nxJ X.K g b E.bk ∧ nxJ X.K g c E.ct ∧ RtOk X.K g r E.rt) :=
    ⟨fun pins s σ H E I ⟨⟨a, pa, sa⟩, q⟩ => (hr a).run pins s σ H E I ⟨pa, sa, q⟩⟩
  have hk : PSs X (st :: rest) (Evl.tCut ts (fun E σ H => (∃ a, P' a ∧ ∃ F, Sat X.K g (bs' a) σ F H) ∧ nxJ X.K g n E.nx ∧ nxJ X.K g b E.bk ∧ nxJ X.K g c E.ct ∧ RtOk X.K g r E.rt)) := Evl.pss_cut h hr'
  exact PSs.imp hk fun E σ H q => ⟨_, i E σ H q, fun σ' H' z => ⟨z, q.2.2⟩⟩
theorem s_nil {s : n.S} (h : Le bs (n.f s)) : PSs X [] (tS X.K g bs n b c r (n.k s)) := PSs.imp pss_nil fun E σ H ⟨p, ⟨F, sa⟩, hn, _⟩ => by
  obtain ⟨F', _, sa'⟩ := sa.le h
  exact hn s σ F' H sa' p
/-- forget, or let a list change no more -/
theorem s_le (h : Le bs bs') (hr : PSs X rest (tS X.K g bs' n b c r P)) : PSs X rest (tS X.K g bs n b c r P) := PSs.imp hr fun E σ H ⟨p, ⟨F, sa⟩, q⟩ => by
  obtain ⟨F', _, sa'⟩ := sa.le h
  exact ⟨p, ⟨F', sa'⟩, q⟩
theorem s_set {P : D → Prop} {bs' : D → List B} (he : PE X e (tM X.K g bs m)) (hN : X.N.Nodup) (hi : X.N[i]? = some x) (hx : Loc X.env.scope x) (hr : ∀ d, PSs X rest (tS X.K g (bs' d) n b c r (P d))) (hb : ∀ d, bs.set i (.dat d) = bs' d := by intro _; rfl)
    (hs : swapsWith e (some (.Name x pos')) pos.line X.env = pure false := by rfl) (hf : X.fn x = true ∨ X.env.scope.names.lookup x = some .local := by first | exact .inl rfl | exact .inr rfl) : PSs X (.Assign [.Name x pos'] e pos :: rest) (tS X.K g bs n b c r (m P)) :=
  cons_of (ps_set hN hi hx he hs hf) hr fun E σ H ⟨p, ⟨F, sa⟩, q⟩ => ⟨F, P, sa, p, fun d v F' H' pd s iv => ⟨d, pd, F', by rw [← hb d]; exact (sa.step s).setD iv⟩⟩
theorem s_setO {P : List D → Prop} {bs' : List D → List B} (he : PE X e (tL X.K g bs mL)) (hN : X.N.Nodup) (hi : X.N[i]? = some x) (hx : Loc X.env.scope x) (hr : ∀ d, PSs X rest (tS X.K g (bs' d) n b c r (P d))) (hb : ∀ d, bs.set i (.own d) = bs' d := by intro _; rfl)
    (hs : swapsWith e (some (.Name x pos')) pos.line X.env = pure false := by rfl) (hf : X.fn x = true ∨ X.env.scope.names.lookup x = some .local := by first | exact .inl rfl | exact .inr rfl) : PSs X (.Assign [.Name x pos'] e pos :: rest) (tS X.K g bs n b c r (mL P)) :=
  cons_of (ps_set hN hi hx he hs hf) hr fun E σ H ⟨p, ⟨F, sa⟩, q⟩ => ⟨F, P, sa, p, fun ds a vs F' H' pd s na fa ha ia => ⟨ds, pd, F', by rw [← hb ds]; exact sa.setO s na fa ha ia⟩⟩
/-- targets of any form -/
theorem s_asg {A : Type} {enc : A → D} {js : List Nat} {ub : A → List B → List B} {tg : Expr} {gt : TG} {P : A → Prop} {bs' : A → List B} (he : PE X e (tM X.K g bs m)) (hg : PG X tg gt) (hT : Tg X.K g false gt enc js ub) (hr : ∀ a, PSs X rest (tS X.K g (bs' a) n b c r (P a))) (hb : ∀ a, ub a bs = bs' a := by intro _; rfl)
    (hs : swapsWithSole [tg] e pos.line X.env = pure false := by rfl) (hw : swappedStores [tg] e X.env = pure none := by rfl) (h1 : (assignEach [tg] X.env).map (·.2) = [assign tg X.env] := by rfl) : PSs X (.Assign [tg] e pos :: rest) (tS X.K g bs n b c r (m fun d => ∃ a, d = enc a ∧ P a)) :=
  cons_of (ps_asg he hg hs hw h1) hr fun E σ H ⟨p, ⟨F, sa⟩, q⟩ => ⟨F, _, sa, p, fun d v F' H' ⟨a, ea, pa⟩ s iv => by
    subst ea
    exact hT.run a v bs σ F' H' _ (sa.step s) (.inl iv) fun σ' sa' _ _ => ⟨a, pa, F', by rw [← hb a]; exact sa'⟩⟩
theorem s_expr {P : Prop} (he : PE X e (tR X.K g bs m)) (hr : PSs X rest (tS X.K g bs n b c r P)) (hs : swapsWith e none pos.line X.env = pure false := by rfl) : PSs X (.Expr e pos :: rest) (tS X.K g bs n b c r (m fun _ => P)) :=
  cons_of (α := Unit) (bs' := fun _ => bs) (P' := fun _ => P) (ps_expr he hs) (fun _ => hr) fun E σ H ⟨p, ⟨F, sa⟩, q⟩ => ⟨F, _, sa, p, fun d v F' H' pd s iv => ⟨(), pd, F', sa.step s⟩⟩
theorem s_pass (hr : PSs X rest (tS X.K g bs n b c r P)) : PSs X (.Pass pos :: rest) (tS X.K g bs n b c r P) :=
  cons_of (α := Unit) (bs' := fun _ => bs) (P' := fun _ => P) ps_pass (fun _ => hr) fun E σ H ⟨p, sa, q⟩ => ⟨(), p, sa⟩
theorem s_doc {z : Str} {j : Nat} (hr : PSs X rest (tS X.K g bs n b c r P)) : PSs X (.Expr (.Constant (.str z) j pos') pos :: rest) (tS X.K g bs n b c r P) :=
  cons_of (α := Unit) (bs' := fun _ => bs) (P' := fun _ => P) ps_doc (fun _ => hr) fun E σ H ⟨p, sa, q⟩ => ⟨(), p, sa⟩
theorem s_ret (he : PE X e (tM X.K g bs m)) : PSs X [.Return (some e) pos] (tS X.K g bs n b c r (m r.d)) := PSs.imp (pss_one (ps_ret he)) fun E σ H ⟨p, ⟨F, sa⟩, _, _, _, q⟩ => ⟨F, _, sa, p, fun d v F' H' pd s iv => q.d d v F' H' pd (sa.st.trans s) iv⟩
theorem s_retL (he : PE X e (tL X.K g bs mL)) : PSs X [.Return (some e) pos] (tS X.K g bs n b c r (mL r.l)) := PSs.imp (pss_one (ps_ret he)) fun E σ H ⟨p, ⟨F, sa⟩, _, _, _, q⟩ => ⟨F, _, sa, p, fun ds a vs F' H' pd s na fa ha ia => q.l ds a vs F' H' pd (sa.st.trans s) (back sa.st na) fa ha ia⟩
/-- a list of one's own, by its name -/
theorem s_retO {ds : List D} (h : PE X (.Name x pos') (tVar i)) (hb : bs[i]? = some (.own ds) := by rfl) : PSs X [.Return (some (.Name x pos')) pos] (tS X.K g bs n b c r (r.l ds)) := PSs.imp (pss_one (ps_ret h)) fun E σ H ⟨p, ⟨F, sa⟩, _, _, _, q⟩ => by
  obtain ⟨os, sl, no⟩ := sa.sl
  obtain ⟨a, vs, h1, h2, h3, h4, h5, h6⟩ := sl.getO hb
  exact ⟨_, h1, q.l ds a vs F H p sa.st (no a h5) h4 h2 h3⟩
theorem s_retN : PSs X [.Return none pos] (tS X.K g bs n b c r (r.d .non)) := PSs.imp (pss_one ps_retN) fun E σ H ⟨p, ⟨F, sa⟩, _, _, _, q⟩ => q.d .non .non F H p sa.st .non
theorem s_brk {s : b.S} (h : Le bs (b.f s)) : PSs X [.Break pos] (tS X.K g bs n b c r (b.k s)) := PSs.imp (pss_one ps_break) fun E σ H ⟨p, ⟨F, sa⟩, _, hn, _⟩ => by
  obtain ⟨F', _, sa'⟩ := sa.le h
  exact hn s σ F' H sa' p
theorem s_cont {s : c.S} (h : Le bs (c.f s)) : PSs X [.Continue pos] (tS X.K g bs n b c r (c.k s)) := PSs.imp (pss_one ps_continue) fun E σ H ⟨p, ⟨F, sa⟩, _, _, hn, _⟩ => by
  obtain ⟨F', _, sa'⟩ := sa.le h
  exact hn s σ F' H sa' p
/-! ### ways apart -/
theorem s_ifL {t u : List Stmt} {Pt Pu : Prop} (hc : PT X e (tT X.K g bs mt)) (ht : PSs X t (tS X.K g bs n b c r Pt)) (hu : PSs X u (tS X.K g bs n b c r Pu)) : PSs X [.If e t u pos] (tS X.K g bs n b c r (mt fun y => if y = true then Pt else Pu)) :=
  PSs.imp (pss_one (ps_if hc ht hu)) fun E σ H ⟨p, ⟨F, sa⟩, q⟩ => ⟨F, _, sa, p, fun y F' H' py s => by
    cases y with
    | true => exact ⟨py, ⟨F', sa.step s⟩, q⟩
    | false => exact ⟨py, ⟨F', sa.step s⟩, q⟩⟩
theorem s_if {t u : List Stmt} {Pt Pu : Prop} (j : Jn) (hc : PT X e (tT X.K g bs mt)) (ht : PSs X t (tS X.K g bs j b c r Pt)) (hu : PSs X u (tS X.K g bs j b c r Pu)) (hr : ∀ s : j.S, PSs X rest (tS X.K g (j.f s) n b c r (j.k s))) :
    PSs X (.If e t u pos :: rest) (tS X.K g bs n b c r (mt fun y => if y = true then Pt else Pu)) :=
  cons_of (α := j.S) (bs' := j.f) (P' := j.k) (ps_if hc ht hu) hr fun E σ H ⟨p, ⟨F, sa⟩, hn, hb, hcn, hrt⟩ => ⟨F, _, sa, p, fun y F' H' py s => by
    have nx : nxJ X.K g j (fun σ' H' => ∃ a : j.S, j.k a ∧ ∃ F, Sat X.K g (j.f a) σ' F H') := fun s σ F H sa k => ⟨s, k, F, sa⟩
    cases y with
    | true => exact ⟨py, ⟨F', sa.step s⟩, nx, hb, hcn, hrt⟩
    | false => exact ⟨py, ⟨F', sa.step s⟩, nx, hb, hcn, hrt⟩⟩
/-! ### loops -/
end
def forW {S : Type} (f : D → S → (S → Prop) → Prop) : List D → S → (S → Prop) → Prop
  | [], s, k => k s
  | x :: l, s, k => f x s fun s' => forW f l s' k
def whileW {S : Type} (f : S → (S → Prop) → Prop) (s0 : S) : Prop := ∃ I : Nat → S → Prop, (∃ m, I m s0) ∧ ∀ m s, I m s → f s fun s' => ∃ m', m' < m ∧ I m' s'
section
variable {X : Cx} {g : Gv} {bs bs' : List B} {n b c : Jn} {r : Rt} {P : Prop} {st : Stmt} {rest body : List Stmt} {e e1 e2 : Expr} {x : Str} {pos pos' : Pos} {m m1 m2 : (D → Prop) → Prop} {mL : (List D → Prop) → Prop} {mt : (Bool → Prop) → Prop} {i : Nat}
theorem RtOk.an {K : PySem.W.Frag} {A : Hp} {rt : VK} (h : RtOk K g r rt) : RtOk K (g.an A) r rt := ⟨h.d, h.l⟩
theorem for_rd {ww : Bool} {S A : Type} {enc : A → D} {js : List Nat} {ub : A → List B → List B} {gt : TG} {tb : TS} {mi : (List D → Prop) → Prop} {fl fr : S → List B} {s0 : S} {f : A → S → (S → Prop) → Prop} {kr : S → Prop} {K : PySem.W.Frag} (hT : ∀ A', Tg K (g.an A') ww gt enc js ub) (hle : Le bs (fl s0)) (hfr : ∀ s, Le (fl s) (fr s))
    (hb : ∀ (A' : Hp) (_ : Ex g.A A') (a : A) (s : S) (kc : S → Prop) E σ H, tS K (g.an A') (ub a (fl s)) ⟨S, fl, kc⟩ ⟨S, fr, kr⟩ ⟨S, fl, kc⟩ r (f a s kc) E σ H → tb E σ H)
    (E : Ends) (σ : St) (H : Hp) (h : tS K g bs n b c r (mi fun items => forW (fun x s k => ∃ a, x = enc a ∧ f a s k) items s0 kr) E σ H) :
    tFor (tI K g ww bs mi) gt tb { E with nx := fun σ' H' => ∃ s, kr s ∧ ∃ F, Sat K g (fr s) σ' F H' } σ H := by
  obtain ⟨p, ⟨F, sa⟩, hn, hbk, hct, hrt⟩ := h
  refine ⟨F, _, sa, p, fun items J F1 H1 ki stp ⟨G, Y, w, gC, y⟩ => ?_⟩
  obtain ⟨ff, hff⟩ : ∃ ff : D → S → (S → Prop) → Prop, ff = fun x s k => ∃ a, x = enc a ∧ f a s k := ⟨_, rfl⟩
  rw [← hff] at ki
  have ki : forW ff items s0 kr := ki
  have sa1 := sa.step stp
  obtain ⟨F2, e12, sa2⟩ := sa1.le hle
  have aF1 : Ex g.A F1 := sa1.an
  refine for_it w (tb := tb) (D := { E with nx := fun σ' H' => ∃ s, kr s ∧ ∃ F, Sat K g (fr s) σ' F H' }) (fun i σ' H' => ∃ s F', Sat K (g.an F1) (fl s) σ' F' H' ∧ forW ff (items.drop i) s kr) ⟨s0, F2, sa2.anch e12, ki⟩ ?_ ?_ ?_
  · intro i σ' H' _ ⟨s, F', sa', _⟩
    exact gC F' H' sa'.an sa'.ex
  · intro i x σ' H2 H3 hi ⟨s, F', sa', kk⟩ yy
    obtain ⟨F3, d, hd, s3, id⟩ := y i H2 x H3 F' sa'.an sa'.ex hi yy
    have lt := (List.getElem?_eq_some_iff.mp hd).1
    rw [List.drop_eq_getElem_cons lt] at kk
    have ed : items[i] = d := (List.getElem?_eq_some_iff.mp hd).2
    rw [ed] at kk
    have k1 : ff d s _ := kk
    obtain ⟨a, rfl, k2⟩ := (congrFun (congrFun (congrFun hff d) s) _).mp k1
    refine (hT F1).run a x (fl s) σ' F3 H3 _ (sa'.step s3) id fun σ2 sa3 _ _ => ?_
    exact hb F1 aF1 a s (fun s' => forW ff (items.drop (i + 1)) s' kr) _ σ2 H3 ⟨k2, ⟨F3, sa3⟩, fun s' σ4 F4 H4 sa4 k4 => ⟨s', F4, sa4, k4⟩, fun s' σ4 F4 H4 sa4 k4 => ⟨s', k4, F4, sa4.unan aF1⟩, fun s' σ4 F4 H4 sa4 k4 => ⟨s', F4, sa4, k4⟩, hrt.an⟩
  · intro σ' H' ⟨s, F', sa', kk⟩
    rw [List.drop_of_length_le (Nat.le_refl _)] at kk
    obtain ⟨F4, _, sa4⟩ := (sa'.unan aF1).le (hfr s)
    exact ⟨s, kk, F4, sa4⟩
theorem s_for {ww : Bool} {S A : Type} {enc : A → D} {js : List Nat} {ub : A → List B → List B} {tg iter : Expr} {gt : TG} {mi : (List D → Prop) → Prop} {ba : A → S → List B} {f : A → S → (S → Prop) → Prop} (fl fr : S → List B) (s0 : S) (kr : S → Prop) (hp : PassesOwn (model X.prog X.w) X.A X.env X.xe) (hc : X.calm = true)
    (hi : PI X tg iter (tI X.K g ww bs mi)) (hg : PG X tg gt) (hT : ∀ A', Tg X.K (g.an A') ww gt enc js ub) (hle : Le bs (fl s0)) (hfr : ∀ s, Le (fl s) (fr s))
    (hb : ∀ (A' : Hp) (_ : Ex g.A A') (a : A) (s : S) (kc : S → Prop), PSs X body (tS X.K (g.an A') (ba a s) ⟨S, fl, kc⟩ ⟨S, fr, kr⟩ ⟨S, fl, kc⟩ r (f a s kc))) (hr : ∀ s, PSs X rest (tS X.K g (fr s) n b c r (kr s))) (hba : ∀ a s, ub a (fl s) = ba a s := by intro _ _; rfl)
    (hs : ∀ x, foldedSetIterable iter X.env x = pure x := by intro _; rfl) : PSs X (.For tg iter body [] pos :: rest) (tS X.K g bs n b c r (mi fun items => forW (fun x s k => ∃ a, x = enc a ∧ f a s k) items s0 kr)) :=
  cons_of (α := S) (bs' := fr) (P' := kr) (ps_for (tb := fun E σ H => ∃ (A' : Hp) (_ : Ex g.A A') (a : A) (s : S) (kc : S → Prop), tS X.K (g.an A') (ba a s) ⟨S, fl, kc⟩ ⟨S, fr, kr⟩ ⟨S, fl, kc⟩ r (f a s kc) E σ H) hp hc hi hg ⟨fun pins s σ H E I ⟨A', eA, a, z, kc, q⟩ => (hb A' eA a z kc).run pins s σ H E I q⟩ hs) hr
    (for_rd hT hle hfr fun A' eA a s kc E σ H q => ⟨A', eA, a, s, kc, by rw [hba] at q; exact q⟩)
theorem while_rd {S : Type} {tb : TS} {fl fr : S → List B} {s0 : S} {mc : S → (Bool → Prop) → Prop} {f : S → (S → Prop) → Prop} {kr : S → Prop} {K : PySem.W.Frag} (hle : Le bs (fl s0)) (hfr : ∀ s, Le (fl s) (fr s))
    (hb : ∀ (s : S) (kc : S → Prop) E σ H, tS K g (fl s) ⟨S, fl, kc⟩ ⟨S, fr, kr⟩ ⟨S, fl, kc⟩ r (f s kc) E σ H → tb E σ H)
    (E : Ends) (σ : St) (H : Hp) (h : tS K g bs n b c r (whileW (fun s k => mc s fun y => if y = true then f s k else kr s) s0) E σ H) :
    tWhile (fun σ H Q => ∃ s, tT K g (fl s) (mc s) σ H Q) tb { E with nx := fun σ' H' => ∃ s, kr s ∧ ∃ F, Sat K g (fr s) σ' F H' } σ H := by
  obtain ⟨⟨I, ⟨m0, i0⟩, step⟩, ⟨F, sa⟩, hn, hbk, hct, hrt⟩ := h
  obtain ⟨F2, e12, sa2⟩ := sa.le hle
  refine ⟨fun m σ' H' => ∃ s, I m s ∧ ∃ F', Sat K g (fl s) σ' F' H', ⟨m0, s0, i0, F2, sa2⟩, ?_⟩
  intro m σ' H' ⟨s, im, F', sa'⟩
  refine ⟨s, F', _, sa', step m s im, fun y F3 H3 ky s3 => ?_⟩
  have sa3 := sa'.step s3
  cases y with
  | true =>
    refine ⟨fun σ4 H4 => ∃ s', (∃ m', m' < m ∧ I m' s') ∧ ∃ F4, Sat K g (fl s') σ4 F4 H4, fun σ4 H4 ⟨s', ⟨m', l, im'⟩, q⟩ => ⟨m', l, s', im', q⟩, ?_⟩
    exact hb s _ _ σ' H3 ⟨ky, ⟨F3, sa3⟩, fun s' σ4 F4 H4 sa4 k4 => ⟨s', k4, F4, sa4⟩, fun s' σ4 F4 H4 sa4 k4 => ⟨s', k4, F4, sa4⟩, fun s' σ4 F4 H4 sa4 k4 => ⟨s', k4, F4, sa4⟩, hrt⟩
  | false =>
    obtain ⟨F4, _, sa4⟩ := sa3.le (hfr s)
    exact ⟨s, ky, F4, sa4⟩
theorem s_while {S : Type} {mc : S → (Bool → Prop) → Prop} {f : S → (S → Prop) → Prop} (fl fr : S → List B) (s0 : S) (kr : S → Prop) (hp : PassesOwn (model X.prog X.w) X.A X.env X.xe) (hc : ∀ s, PT X e (tT X.K g (fl s) (mc s))) (hle : Le bs (fl s0)) (hfr : ∀ s, Le (fl s) (fr s))
    (hb : ∀ (s : S) (kc : S → Prop), PSs X body (tS X.K g (fl s) ⟨S, fl, kc⟩ ⟨S, fr, kr⟩ ⟨S, fl, kc⟩ r (f s kc))) (hr : ∀ s, PSs X rest (tS X.K g (fr s) n b c r (kr s))) : PSs X (.While e body [] pos :: rest) (tS X.K g bs n b c r (whileW (fun s k => mc s fun y => if y = true then f s k else kr s) s0)) :=
  cons_of (α := S) (bs' := fr) (P' := kr) (ps_while (tc := fun σ H Q => ∃ s, tT X.K g (fl s) (mc s) σ H Q) (tb := fun E σ H => ∃ s kc, tS X.K g (fl s) ⟨S, fl, kc⟩ ⟨S, fr, kr⟩ ⟨S, fl, kc⟩ r (f s kc) E σ H) hp ⟨fun pins s σ H Q I ⟨z, q⟩ => (hc z).run pins s σ H Q I q⟩
    ⟨fun pins s σ H E I ⟨z, kc, q⟩ => (hb z kc).run pins s σ H E I q⟩) hr (while_rd hle hfr fun s kc E σ H q => ⟨s, kc, q⟩)
end
end FE
set_option Elab.async false
set_option linter.all false
set_option maxRecDepth 100000
set_option maxHeartbeats 4000000
/-! One's own lists changed; several names at once; defs. -/
namespace FE
open PySem L2
open Evl (Ex)
section
variable {X : Cx} {g : Gv} {bs : List B} {n b c : Jn} {r : Rt} {rest : List Stmt} {e e1 e2 : Expr} {x y : Str} {pos pos' p1 p2 p3 apos cpos : Pos} {m m1 m2 : (D → Prop) → Prop} {mL : (List D → Prop) → Prop} {i j : Nat} {ds : List D}
theorem ty_own {K : PySem.W.Frag} {H : Hp} {a : Addr} {vs : List V} (h : H a = some (.lst vs)) : tyV K "list" (.ref a) H := .inl ⟨rfl, _, SqL.of h⟩
/-- what is known of a list of one's own -/
theorem Sat.getO {K : PySem.W.Frag} {σ : St} {F H : Hp} (sa : Sat K g bs σ F H) (h : bs[i]? = some (.own ds)) : ∃ a vs, σ[i]? = some (some (.ref a)) ∧ H a = some (.lst vs) ∧ IsAll K g.cm F vs ds ∧ F a = none ∧ ∀ p, g.hd = some p → a ≠ p.1 ∧ a ≠ p.2 := by
  obtain ⟨os, sl, no⟩ := sa.sl
  obtain ⟨a, vs, h1, h2, h3, h4, h5, h6⟩ := sl.getO h
  exact ⟨a, vs, h1, h2, h3, h4, h6⟩
/-- x.append(e) -/
theorem s_app {P : D → Prop} {bs' : D → List B} (hx : PE X (.Name x p1) (tVar i)) (he : PE X e (tM X.K g bs m)) (hr : ∀ d, PSs X rest (tS X.K g (bs' d) n b c r (P d))) (hb : bs[i]? = some (.own ds) := by rfl) (hbs : ∀ d, bs.set i (.own (ds ++ [d])) = bs' d := by intro _; rfl)
    (hbase : attributeBase (.Name x p1) "append" X.env (eval (.Name x p1) X.env) = eval (.Name x p1) X.env := by rfl)
    (hfew : ((backTo cpos (starEach [e] X.env)).all (fun x => !x.1) && (backToKw cpos (keywordEach [] X.env)).all (fun x => x.1.isSome) && decide ([e].length + ([] : List Keyword).length + (if ([] : List Keyword).isEmpty then 0 else 1) < 30)) = true := by rfl)
    (hline : (apos.endLine == cpos.line) = true := by rfl) (hs : starEach [e] X.env = (false, eval e X.env) :: starEach [] X.env := by rfl) (hplain : (backTo cpos (starEach [] X.env)).any (·.1) = false := by rfl)
    (hsw : swapsWith (.Call (.Attribute (.Name x p1) "append" apos) [e] [] cpos) none pos.line X.env = pure false := by rfl) :
    PSs X (.Expr (.Call (.Attribute (.Name x p1) "append" apos) [e] [] cpos) pos :: rest) (tS X.K g bs n b c r (m fun d => ds.length < 100000 ∧ P d)) :=
  cons_of (ps_expr (pe_bm PySem.F.plainAttrs_list PySem.F.slot_list_append PySem.F.type_list_append mt_append hx (pa_cons he pa_nil hs) hbase hfew hline hs hplain) hsw) hr fun E σ H ⟨p, ⟨F, sa⟩, q⟩ => by
    obtain ⟨a, vs, h1, h2, h3, h4, h5⟩ := sa.getO hb
    refine ⟨_, h1, ty_own h2, F, _, sa, p, fun d v F' H' ⟨lz, pd⟩ s iv => ?_⟩
    have h2' := s.kpL h2 fun p e => (h5 p e).1
    have lv := h3.len
    refine ⟨a, vs, v, rfl, rfl, h2', Nat.lt_of_le_of_lt (show vs.length ≤ 100000 by omega) (by decide), d, pd, F', ?_⟩
    rw [← hbs d]
    exact (sa.step s).mutO hb h1 ((h3.mono s.ff).app (.one iv))
/-- x.extend(e) -/
def oExt (d : D) (k : List D → Prop) : Prop := match d with
  | .lst es => k es
  | _ => False
theorem s_ext {P : List D → Prop} {bs' : List D → List B} (hx : PE X (.Name x p1) (tVar i)) (he : PE X e (tR X.K g bs m)) (hr : ∀ d, PSs X rest (tS X.K g (bs' d) n b c r (P d))) (hb : bs[i]? = some (.own ds) := by rfl) (hbs : ∀ d, bs.set i (.own (ds ++ d)) = bs' d := by intro _; rfl)
    (hbase : attributeBase (.Name x p1) "extend" X.env (eval (.Name x p1) X.env) = eval (.Name x p1) X.env := by rfl)
    (hfew : ((backTo cpos (starEach [e] X.env)).all (fun x => !x.1) && (backToKw cpos (keywordEach [] X.env)).all (fun x => x.1.isSome) && decide ([e].length + ([] : List Keyword).length + (if ([] : List Keyword).isEmpty then 0 else 1) < 30)) = true := by rfl)
    (hline : (apos.endLine == cpos.line) = true := by rfl) (hs : starEach [e] X.env = (false, eval e X.env) :: starEach [] X.env := by rfl) (hplain : (backTo cpos (starEach [] X.env)).any (·.1) = false := by rfl)
    (hsw : swapsWith (.Call (.Attribute (.Name x p1) "extend" apos) [e] [] cpos) none pos.line X.env = pure false := by rfl) :
    PSs X (.Expr (.Call (.Attribute (.Name x p1) "extend" apos) [e] [] cpos) pos :: rest) (tS X.K g bs n b c r (m fun d => oExt d fun es => ds.length + es.length ≤ 100000 ∧ P es)) :=
  cons_of (ps_expr (pe_bm PySem.F.plainAttrs_list PySem.F.slot_list_extend PySem.F.type_list_extend mt_extend hx (pa_cons he pa_nil hs) hbase hfew hline hs hplain) hsw) hr fun E σ H ⟨p, ⟨F, sa⟩, q⟩ => by
    obtain ⟨a, vs, h1, h2, h3, h4, h5⟩ := sa.getO hb
    refine ⟨_, h1, ty_own h2, F, _, sa, p, fun d v F' H' pd s iv => ?_⟩
    have h2' := s.kpL h2 fun p e => (h5 p e).1
    cases d with
    | lst es =>
      obtain ⟨lz, pd⟩ := pd
      obtain ⟨a2, us, rfl, hu, iu⟩ := iv.lst s.fh
      have lv := h3.len
      have lu := iu.len
      refine ⟨a, a2, vs, us, rfl, rfl, h2', hu, sz5 (by omega), es, pd, F', ?_⟩
      rw [← hbs es]
      exact (sa.step s).mutO hb h1 ((h3.mono s.ff).app iu)
    | _ => exact pd.elim
/-- x[e1] = e2 -/
def oPut (ds : List D) (d : D) (k : Nat → Prop) : Prop := match d with
  | .int z => ∃ j, ixN ds.length z = some j ∧ k j
  | _ => False
theorem s_put {P : D → Nat → Prop} {bs' : D → Nat → List B} (hx : PE X (.Name x p1) (tVar i)) (h1 : PE X e1 (tR X.K g bs m1)) (h2 : PE X e2 (tM X.K g bs m2)) (hr : ∀ (u : D) (v : Nat), PSs X rest (tS X.K g (bs' u v) n b c r (P u v))) (hb : bs[i]? = some (.own ds) := by rfl) (hbs : ∀ d k, bs.set i (.own (ds.set k d)) = bs' d k := by intro _ _; rfl)
    (ha : ∀ v, assign (.Subscript (.Name x p1) e1 p2) X.env v = (do
      let ov ← holding [v] (eval (.Name x p1) X.env)
      let iv ← holding [v, ov] (eval e1 X.env)
      standAt p2
      holding [v, ov, iv] (setItem ov iv v)
      release [v, ov, iv] []) := by intro _; rfl)
    (hs : swapsWithSole [.Subscript (.Name x p1) e1 p2] e2 pos.line X.env = pure false := by rfl) (hw : swappedStores [.Subscript (.Name x p1) e1 p2] e2 X.env = pure none := by rfl) (hq : (assignEach [.Subscript (.Name x p1) e1 p2] X.env).map (·.2) = [assign (.Subscript (.Name x p1) e1 p2) X.env] := by rfl) :
    PSs X (.Assign [.Subscript (.Name x p1) e1 p2] e2 pos :: rest) (tS X.K g bs n b c r (m2 fun d => m1 fun z => oPut ds z fun k => P d k)) :=
  cons_of (ps_asg h2 (pg_sub hx h1 set_list ha) hs hw hq) (fun a : D × Nat => hr a.1 a.2) fun E σ H ⟨p, ⟨F, sa⟩, q⟩ => by
    refine ⟨F, _, sa, p, fun d v F1 H1 pd s1 iv => ?_⟩
    have sa1 := sa.step s1
    obtain ⟨a, vs, h1, h2, h3, h4, h5⟩ := sa1.getO hb
    refine ⟨_, h1, F1, _, sa1, pd, fun z w F2 H2 pz s2 iw => ?_⟩
    cases z with
    | int z =>
      obtain ⟨k, hk, pk⟩ := pz
      have h2' := s2.kpL h2 fun p e => (h5 p e).1
      refine ⟨a, vs, z, k, rfl, iw.int, h2', by rw [h3.len]; exact hk, (d, k), pk, F2, ?_⟩
      rw [← hbs d k]
      exact (sa1.step s2).mutO hb h1 ((h3.mono s2.ff).set k (iv.mono s2.ff))
    | _ => exact pz.elim
/-! ### pop -/
def oPopL (ds : List D) (k : D → Prop) : Prop := ∃ d, ds[ds.length - 1]? = some d ∧ k d
def oPopA (ds : List D) (z : D) (k : D → Nat → Prop) : Prop := match z with
  | .int z => (-100000 ≤ z ∧ z ≤ 100000) ∧ ∃ j d, seqIndex? z ds.length = some j ∧ ds[j]? = some d ∧ k d j
  | _ => False
/-- a = x.pop(), targets of any form -/
theorem s_pop {A : Type} {enc : A → D} {js : List Nat} {ub : A → List B → List B} {tg : Expr} {gt : TG} {P : A → Prop} {bs' : A → List B} {b1 : List B} (hx : PE X (.Name x p1) (tVar i)) (hg : PG X tg gt) (hT : Tg X.K g false gt enc js ub) (hr : ∀ a, PSs X rest (tS X.K g (bs' a) n b c r (P a))) (hb : bs[i]? = some (.own ds) := by rfl) (hb1 : bs.set i (.own ds.dropLast) = b1 := by rfl) (hbs : ∀ a, ub a b1 = bs' a := by intro _; rfl)
    (hbase : attributeBase (.Name x p1) "pop" X.env (eval (.Name x p1) X.env) = eval (.Name x p1) X.env := by rfl) (hline : (apos.endLine == cpos.line) = true := by rfl)
    (hs : swapsWithSole [tg] (.Call (.Attribute (.Name x p1) "pop" apos) [] [] cpos) pos.line X.env = pure false := by rfl) (hw : swappedStores [tg] (.Call (.Attribute (.Name x p1) "pop" apos) [] [] cpos) X.env = pure none := by rfl) (h1 : (assignEach [tg] X.env).map (·.2) = [assign tg X.env] := by rfl) :
    PSs X (.Assign [tg] (.Call (.Attribute (.Name x p1) "pop" apos) [] [] cpos) pos :: rest) (tS X.K g bs n b c r (oPopL ds fun d => ∃ a, d = enc a ∧ P a)) :=
  cons_of (ps_asg (pe_bm0 PySem.F.plainAttrs_list PySem.F.slot_list_pop PySem.F.type_list_pop mt_pop hx hbase hline) hg hs hw h1) hr fun E σ H ⟨⟨d, hd, a, ea, pa⟩, ⟨F, sa⟩, q⟩ => by
    subst ea
    obtain ⟨l, vs, h1, h2, h3, h4, h5⟩ := sa.getO hb
    obtain ⟨v, hv, iv⟩ := h3.get hd
    rw [← h3.len] at hv
    have dl : IsAll X.K g.cm F vs.dropLast ds.dropLast := by
      rw [List.dropLast_eq_take, List.dropLast_eq_take, h3.len]
      exact h3.take _
    refine ⟨_, h1, ty_own h2, l, vs, v, rfl, rfl, h2, hv, ?_⟩
    have sa1 := sa.mutO hb h1 dl
    rw [hb1] at sa1
    exact hT.run a v b1 σ F _ _ sa1 (.inl iv) fun σ' sa' _ _ => ⟨a, pa, F, by rw [← hbs a]; exact sa'⟩
/-- a = x.pop(z) -/
theorem s_popA {P : D → Nat → Prop} {bs' : D → Nat → List B} (hx : PE X (.Name x p1) (tVar i)) (he : PE X e (tR X.K g bs m)) (hN : X.N.Nodup) (hj : X.N[j]? = some y) (hy : Loc X.env.scope y) (hr : ∀ (u : D) (v : Nat), PSs X rest (tS X.K g (bs' u v) n b c r (P u v))) (hb : bs[i]? = some (.own ds) := by rfl) (hbs : ∀ d k, (bs.set i (.own (ds.eraseIdx k))).set j (.dat d) = bs' d k := by intro _ _; rfl)
    (hbase : attributeBase (.Name x p1) "pop" X.env (eval (.Name x p1) X.env) = eval (.Name x p1) X.env := by rfl)
    (hfew : ((backTo cpos (starEach [e] X.env)).all (fun x => !x.1) && (backToKw cpos (keywordEach [] X.env)).all (fun x => x.1.isSome) && decide ([e].length + ([] : List Keyword).length + (if ([] : List Keyword).isEmpty then 0 else 1) < 30)) = true := by rfl)
    (hline : (apos.endLine == cpos.line) = true := by rfl) (hs : starEach [e] X.env = (false, eval e X.env) :: starEach [] X.env := by rfl) (hplain : (backTo cpos (starEach [] X.env)).any (·.1) = false := by rfl)
    (hsw : swapsWith (.Call (.Attribute (.Name x p1) "pop" apos) [e] [] cpos) (some (.Name y pos')) pos.line X.env = pure false := by rfl) (hf : X.fn y = true ∨ X.env.scope.names.lookup y = some .local := by first | exact .inl rfl | exact .inr rfl) :
    PSs X (.Assign [.Name y pos'] (.Call (.Attribute (.Name x p1) "pop" apos) [e] [] cpos) pos :: rest) (tS X.K g bs n b c r (m fun z => oPopA ds z fun d k => P d k)) :=
  cons_of (ps_set hN hj hy (pe_bm PySem.F.plainAttrs_list PySem.F.slot_list_pop PySem.F.type_list_pop mt_popAt hx (pa_cons he pa_nil hs) hbase hfew hline hs hplain) hsw hf) (fun a : D × Nat => hr a.1 a.2) fun E σ H ⟨p, ⟨F, sa⟩, q⟩ => by
    obtain ⟨a, vs, h1, h2, h3, h4, h5⟩ := sa.getO hb
    refine ⟨_, h1, ty_own h2, F, _, sa, p, fun z w F' H' pz s iw => ?_⟩
    cases z with
    | int z =>
      obtain ⟨⟨z1, z2⟩, k, d, hk, hd, pd⟩ := pz
      have h2' := s.kpL h2 fun p e => (h5 p e).1
      have h3' := h3.mono s.ff
      obtain ⟨v, hv, iv⟩ := h3'.get hd
      refine ⟨a, vs, z, k, v, rfl, by rw [iw.int], h2', by omega, by omega, by rw [h3.len]; exact hk, hv, (d, k), pd, F', ?_⟩
      rw [← hbs d k]
      exact ((sa.step s).mutO hb h1 (h3'.eraseIdx k)).setD iv
    | _ => exact pz.elim
/-- y.append(x.pop(z)) -/
theorem s_appPop {P : D → Nat → Prop} {bs' : D → Nat → List B} {es : List D} {ap2 cp2 q1 : Pos} (hx : PE X (.Name x p1) (tVar i)) (hy : PE X (.Name y q1) (tVar j)) (he : PE X e (tR X.K g bs m)) (hr : ∀ (u : D) (v : Nat), PSs X rest (tS X.K g (bs' u v) n b c r (P u v))) (hij : i ≠ j) (hb : bs[i]? = some (.own ds) := by rfl) (hb2 : bs[j]? = some (.own es) := by rfl) (hbs : ∀ d k, (bs.set i (.own (ds.eraseIdx k))).set j (.own (es ++ [d])) = bs' d k := by intro _ _; rfl)
    (hbase : attributeBase (.Name x p1) "pop" X.env (eval (.Name x p1) X.env) = eval (.Name x p1) X.env := by rfl)
    (hfew : ((backTo cpos (starEach [e] X.env)).all (fun x => !x.1) && (backToKw cpos (keywordEach [] X.env)).all (fun x => x.1.isSome) && decide ([e].length + ([] : List Keyword).length + (if ([] : List Keyword).isEmpty then 0 else 1) < 30)) = true := by rfl)
    (hline : (apos.endLine == cpos.line) = true := by rfl) (hs : starEach [e] X.env = (false, eval e X.env) :: starEach [] X.env := by rfl) (hplain : (backTo cpos (starEach [] X.env)).any (·.1) = false := by rfl)
    (hbase2 : attributeBase (.Name y q1) "append" X.env (eval (.Name y q1) X.env) = eval (.Name y q1) X.env := by rfl)
    (hfew2 : ((backTo cp2 (starEach [.Call (.Attribute (.Name x p1) "pop" apos) [e] [] cpos] X.env)).all (fun x => !x.1) && (backToKw cp2 (keywordEach [] X.env)).all (fun x => x.1.isSome) && decide ([Expr.Call (.Attribute (.Name x p1) "pop" apos) [e] [] cpos].length + ([] : List Keyword).length + (if ([] : List Keyword).isEmpty then 0 else 1) < 30)) = true := by rfl)
    (hline2 : (ap2.endLine == cp2.line) = true := by rfl) (hs2 : starEach [.Call (.Attribute (.Name x p1) "pop" apos) [e] [] cpos] X.env = (false, eval (.Call (.Attribute (.Name x p1) "pop" apos) [e] [] cpos) X.env) :: starEach [] X.env := by rfl) (hplain2 : (backTo cp2 (starEach [] X.env)).any (·.1) = false := by rfl)
    (hsw : swapsWith (.Call (.Attribute (.Name y q1) "append" ap2) [.Call (.Attribute (.Name x p1) "pop" apos) [e] [] cpos] [] cp2) none pos.line X.env = pure false := by rfl) :
    PSs X (.Expr (.Call (.Attribute (.Name y q1) "append" ap2) [.Call (.Attribute (.Name x p1) "pop" apos) [e] [] cpos] [] cp2) pos :: rest) (tS X.K g bs n b c r (m fun z => oPopA ds z fun d k => es.length < 100000 ∧ P d k)) :=
  cons_of (ps_expr (pe_bm PySem.F.plainAttrs_list PySem.F.slot_list_append PySem.F.type_list_append mt_append hy (pa_cons (pe_bm PySem.F.plainAttrs_list PySem.F.slot_list_pop PySem.F.type_list_pop mt_popAt hx (pa_cons he pa_nil hs) hbase hfew hline hs hplain) pa_nil hs2) hbase2 hfew2 hline2 hs2 hplain2) hsw) (fun a : D × Nat => hr a.1 a.2) fun E σ H ⟨p, ⟨F, sa⟩, q⟩ => by
    obtain ⟨a, vs, h1, h2, h3, h4, h5⟩ := sa.getO hb
    obtain ⟨a2, us, g1, g2, g3, g4, g5⟩ := sa.getO hb2
    refine ⟨_, g1, ty_own g2, _, h1, ty_own h2, F, _, sa, p, fun z w F' H' pz s iw => ?_⟩
    cases z with
    | int z =>
      obtain ⟨⟨z1, z2⟩, k, d, hk, hd, lz, pd⟩ := pz
      have h2' := s.kpL h2 fun p e => (h5 p e).1
      have h3' := h3.mono s.ff
      obtain ⟨v, hv, iv⟩ := h3'.get hd
      have sa1 := (sa.step s).mutO hb h1 (h3'.eraseIdx k)
      have hb2' : (bs.set i (.own (ds.eraseIdx k)))[j]? = some (.own es) := by rw [List.getElem?_set_ne hij]; exact hb2
      obtain ⟨a3, us3, k1, k2, k3, k4, k5⟩ := sa1.getO hb2'
      have ea : a3 = a2 := by
        rw [g1] at k1
        exact (V.ref.inj (Option.some.inj (Option.some.inj k1))).symm
      subst ea
      have l3 := k3.len
      refine ⟨a, vs, z, k, v, rfl, by rw [iw.int], h2', by omega, by omega, by rw [h3.len]; exact hk, hv, ?_⟩
      refine ⟨a3, us3, v, rfl, rfl, k2, Nat.lt_of_le_of_lt (show us3.length ≤ 100000 by omega) (by decide), (d, k), pd, F', ?_⟩
      rw [← hbs d k]
      exact sa1.mutO hb2' k1 (k3.app (.one iv))
    | _ => exact pz.elim
end
/-! ### several names at once -/
inductive El where
  | d (x : D) | l (xs : List D)
inductive ElsAt (K : PySem.W.Frag) (g : Gv) (F H H00 : Hp) : List Addr → List V → List El → Prop
  | nil : ElsAt K g F H H00 [] [] []
  | d {ps : List Addr} {v : V} {vs : List V} {x : D} {es : List El} (h : Is K g.cm F v x) (q : ElsAt K g F H H00 ps vs es) : ElsAt K g F H H00 ps (v :: vs) (.d x :: es)
  | l {ps : List Addr} {p : Addr} {us vs : List V} {xs : List D} {es : List El} (n0 : H00 p = none) (f : F p = none) (h : H p = some (.lst us)) (i : IsAll K g.cm F us xs) (n : p ∉ ps) (q : ElsAt K g F H H00 ps vs es) : ElsAt K g F H H00 (p :: ps) (.ref p :: vs) (.l xs :: es)
def tE (K : PySem.W.Frag) (g : Gv) (bs : List B) (m : (List El → Prop) → Prop) : TA := fun σ H Q => ∃ F k, Sat K g bs σ F H ∧ m k ∧ ∀ els ps vs F' H', k els → Stp g.hd g.cm.tb F H F' H' → ElsAt K g F' H' H ps vs els → Q vs H'
theorem ElsAt.new {K : PySem.W.Frag} {g : Gv} {F H H00 : Hp} : ∀ {ps : List Addr} {vs : List V} {es : List El}, ElsAt K g F H H00 ps vs es → ∀ p ∈ ps, H00 p = none
  | _, _, _, .nil => fun _ h => nomatch h
  | _, _, _, .d _ q => q.new
  | _, _, _, .l n0 _ _ _ _ q => fun p h => (List.mem_cons.mp h).elim (fun e => by rw [e]; exact n0) (q.new p)
theorem ElsAt.back {K : PySem.W.Frag} {g : Gv} {F H H0 H00 : Hp} (hb : ∀ p, H0 p = none → H00 p = none) : ∀ {ps : List Addr} {vs : List V} {es : List El}, ElsAt K g F H H0 ps vs es → ElsAt K g F H H00 ps vs es
  | _, _, _, .nil => .nil
  | _, _, _, .d h q => .d h (q.back hb)
  | _, _, _, .l n0 f h i n q => .l (hb _ n0) f h i n (q.back hb)
theorem len2 {α : Type} : ∀ {l : List α}, l.length = 2 → ∃ a b, l = [a, b]
  | [a, b], _ => ⟨a, b, rfl⟩
  | [], h => by simp at h
  | [_], h => by simp at h
  | _ :: _ :: _ :: _, h => by simp at h
theorem len3 {α : Type} : ∀ {l : List α}, l.length = 3 → ∃ a b c, l = [a, b, c]
  | [a, b, c], _ => ⟨a, b, c, rfl⟩
  | [], h => by simp at h
  | [_], h => by simp at h
  | [_, _], h => by simp at h
  | _ :: _ :: _ :: _ :: _, h => by simp at h
theorem ElsAt.len {K : PySem.W.Frag} {g : Gv} {F H H00 : Hp} : ∀ {ps : List Addr} {vs : List V} {es : List El}, ElsAt K g F H H00 ps vs es → vs.length = es.length
  | _, _, _, .nil => rfl
  | _, _, _, .d _ q => congrArg (· + 1) q.len
  | _, _, _, .l _ _ _ _ _ q => congrArg (· + 1) q.len
/-- slots, and addresses that none of them owns -/
def SatP (K : PySem.W.Frag) (g : Gv) (bs : List B) (σ : St) (F H : Hp) (ps : List Addr) : Prop := Sat K g bs σ F H ∧ ∃ os, Sl K g F H os σ bs ∧ (∀ a ∈ os, g.H0 a = none) ∧ ∀ p ∈ ps, p ∉ os ∧ g.H0 p = none ∧ ∀ q, g.hd = some q → p ≠ q.1 ∧ p ≠ q.2
section
variable {K : PySem.W.Frag} {g : Gv} {bs : List B} {σ : St} {F H F' H' : Hp} {ps : List Addr} {v : V} {x : D} {i : Nat}
theorem Sl.owned {a : Addr} : ∀ {os : List Addr} {σ : List (Option V)} {bs : List B}, Sl K g F H os σ bs → a ∈ os → H a ≠ none
  | _, _, _, .nil, h => nomatch h
  | _, _, _, .any q, h => q.owned h
  | _, _, _, .dat _ q, h => q.owned h
  | _, _, _, .own e _ _ _ _ q, h => (List.mem_cons.mp h).elim (fun z => by rw [z, e]; exact fun w => nomatch w) q.owned
  | _, _, _, .oo e _ _ _ _ q, h => (List.mem_cons.mp h).elim (fun z => by rw [z, e]; exact fun w => nomatch w) q.owned
  | _, _, _, .hand _ q, h => q.owned h
  | _, _, _, .raw q, h => q.owned h
  | _, _, _, .bth _ q, h => q.owned h
theorem SatP.of (sa : Sat K g bs σ F H) (s : Stp g.hd g.cm.tb F H F' H') (n : ∀ p ∈ ps, H p = none) : SatP K g bs σ F' H' ps := by
  obtain ⟨os, q, no⟩ := sa.sl
  refine ⟨sa.step s, os, q.mono s, no, fun p hp => ⟨fun z => q.owned z (n p hp), ?_, fun q hq => ?_⟩⟩
  · cases c : g.H0 p with
    | none => rfl
    | some o => exact absurd (n p hp) (sa.st.dom p (by rw [c]; exact fun z => nomatch z))
  · have ha := (sa.hd q hq).1
    have n1 : p ≠ q.1 := fun z => ha.some (by rw [← z]; exact n p hp)
    exact ⟨n1, fun z => ha.cells (by rw [← z]; exact Evl.fresh_back sa.ex (n p hp))⟩
theorem SatP.setD (sa : SatP K g bs σ F H ps) (h : Is K g.cm F v x) : SatP K g (bs.set i (.dat x)) (σ.set i (some v)) F H ps := by
  obtain ⟨s, os, q, no, np⟩ := sa
  obtain ⟨os', q', m⟩ := q.setD (i := i) h
  exact ⟨s.setD h, os', q', fun a ha => no a (m a ha), fun p hp => ⟨fun z => (np p hp).1 (m p z), (np p hp).2⟩⟩
theorem SatP.setO {p : Addr} {us : List V} {xs : List D} (sa : SatP K g bs σ F H (p :: ps)) (n : p ∉ ps) (f : F p = none) (h : H p = some (.lst us)) (ia : IsAll K g.cm F us xs) : SatP K g (bs.set i (.own xs)) (σ.set i (some (.ref p))) F H ps := by
  obtain ⟨s, os, q, no, np⟩ := sa
  obtain ⟨n1, n2, n3⟩ := np p List.mem_cons_self
  obtain ⟨os', q', m⟩ := q.setO (i := i) h f ia n3 n1
  have no' : ∀ a ∈ os', g.H0 a = none := fun a ha => (m a ha).elim (fun z => by rw [z]; exact n2) (no a)
  exact ⟨⟨s.ex, s.hd, s.st, ⟨os', q', no'⟩, s.an, s.tb, s.nt⟩, os', q', no', fun a ha => ⟨fun z => (m a z).elim (fun w => n (by rw [← w]; exact ha)) (np a (List.mem_cons_of_mem _ ha)).1, (np a (List.mem_cons_of_mem _ ha)).2⟩⟩
def El.b : El → B
  | .d x => .dat x
  | .l xs => .own xs
def setEls : List Nat → List El → List B → List B
  | i :: is, e :: es, bs => setEls is es (bs.set i e.b)
  | _, _, bs => bs
def setVs : List Nat → List V → St → St
  | i :: is, v :: vs, σ => setVs is vs (σ.set i (some v))
  | _, _, σ => σ
theorem SatP.els : ∀ {is : List Nat} {ps : List Addr} {vs : List V} {es : List El} {bs : List B} {σ : St} {H00 : Hp}, ElsAt K g F H H00 ps vs es → SatP K g bs σ F H ps → is.length = es.length → Sat K g (setEls is es bs) (setVs is vs σ) F H
  | [], _, _, [], _, _, _, .nil, sa, _ => sa.1
  | [], _, _, _ :: _, _, _, _, _, _, l => by simp at l
  | _ :: _, _, _, [], _, _, _, _, _, l => by simp at l
  | i :: is, _, _, _, bs, σ, _, .d (v := v) (x := x) h q, sa, l => by
    have := SatP.els (is := is) (bs := bs.set i (.dat x)) (σ := σ.set i (some v)) q (sa.setD h) (by simpa using l)
    exact this
  | i :: is, _, _, _, bs, σ, _, .l (p := p) (xs := xs) n0 f h ia n q, sa, l => by
    have := SatP.els (is := is) (bs := bs.set i (.own xs)) (σ := σ.set i (some (.ref p))) q (sa.setO n f h ia) (by simpa using l)
    exact this
end
@[reducible] def wEn : (List El → Prop) → Prop := fun k => k []
@[reducible] def wEd (m : (D → Prop) → Prop) (mr : (List El → Prop) → Prop) : (List El → Prop) → Prop := fun k => m fun a => mr fun l => k (.d a :: l)
@[reducible] def wEl (m : (List D → Prop) → Prop) (mr : (List El → Prop) → Prop) : (List El → Prop) → Prop := fun k => m fun a => mr fun l => k (.l a :: l)
/-- a kind of what is assigned -/
structure Kd (A : Type) where
  on : El → (A → Prop) → Prop
  el : A → El
  ok : ∀ e P, on e P → ∃ a, e = el a ∧ P a
@[reducible] def kdD : Kd D := ⟨fun e P => match e with | .d x => P x | .l _ => False, .d, fun e P h => by cases e with | d x => exact ⟨x, rfl, h⟩ | l _ => exact h.elim⟩
@[reducible] def kdL : Kd (List D) := ⟨fun e P => match e with | .l x => P x | .d _ => False, .l, fun e P h => by cases e with | l x => exact ⟨x, rfl, h⟩ | d _ => exact h.elim⟩
@[reducible] def on2 {A1 A2 : Type} (k1 : Kd A1) (k2 : Kd A2) (P : A1 → A2 → Prop) (els : List El) : Prop := match els with
  | [u, v] => k1.on u fun a => k2.on v fun b => P a b
  | _ => False
@[reducible] def on3 {A1 A2 A3 : Type} (k1 : Kd A1) (k2 : Kd A2) (k3 : Kd A3) (P : A1 → A2 → A3 → Prop) (els : List El) : Prop := match els with
  | [u, v, w] => k1.on u fun a => k2.on v fun b => k3.on w fun c => P a b c
  | _ => False
section
variable {X : Cx} {g : Gv} {bs : List B} {n b c : Jn} {r : Rt} {rest : List Stmt} {e e1 e2 e3 : Expr} {es : List Expr} {x y z : Str} {pos px py pz pt pt2 : Pos} {m : (D → Prop) → Prop} {mL : (List D → Prop) → Prop} {mE : (List El → Prop) → Prop} {i j l : Nat}
theorem b_nil : PA X [] (tE X.K g bs wEn) := PA.imp pa_nil fun σ H Q ⟨F, k, s, hm, q⟩ => q [] [] [] F H hm (Stp.refl s.ex) .nil
theorem ElsAt.fresh {K : PySem.W.Frag} {F H H00 : Hp} (h0 : Ex H00 H) : ∀ {ps : List Addr} {vs : List V} {es : List El}, ElsAt K g F H H00 ps vs es → ∀ p ∈ ps, H p ≠ none
  | _, _, _, .nil => fun _ h => nomatch h
  | _, _, _, .d _ q => ElsAt.fresh h0 q
  | _, _, _, .l _ _ h _ _ q => fun p hp => (List.mem_cons.mp hp).elim (fun e => by rw [e, h]; exact fun z => nomatch z) (ElsAt.fresh h0 q p)
theorem b_d (ha : PE X e (tM X.K g bs m)) (hr : PA X es (tE X.K g bs mE)) (hs : starEach (e :: es) X.env = (false, eval e X.env) :: starEach es X.env := by rfl) : PA X (e :: es) (tE X.K g bs (wEd m mE)) := PA.imp (pa_cons ha hr hs) fun σ H Q ⟨F, k, s, hm, q⟩ =>
  ⟨F, _, s, hm, fun d v F1 H1 kd st iv => ⟨F1, _, s.step st, kd, fun els ps vs F2 H2 kk st2 iv2 => q (.d d :: els) ps (v :: vs) F2 H2 kk (st.trans st2) (.d (iv.mono st2.ff) (iv2.back fun p hp => FE.back st hp))⟩⟩
theorem b_l (ha : PE X e (tL X.K g bs mL)) (hr : PA X es (tE X.K g bs mE)) (hs : starEach (e :: es) X.env = (false, eval e X.env) :: starEach es X.env := by rfl) : PA X (e :: es) (tE X.K g bs (wEl mL mE)) := PA.imp (pa_cons ha hr hs) fun σ H Q ⟨F, k, s, hm, q⟩ =>
  ⟨F, _, s, hm, fun ds p us F1 H1 kd st np fp hp ia => ⟨F1, _, s.step st, kd, fun els ps vs F2 H2 kk st2 iv2 => by
    have nh : ∀ q, g.hd = some q → p ≠ q.1 := fun q hq z => (s.hd q hq).1.some (by rw [← z]; exact np)
    refine q (.l ds :: els) (p :: ps) (.ref p :: vs) F2 H2 kk (st.trans st2) (.l np (st2.own p (by rw [hp]; exact fun z => nomatch z) fp) (st2.kpL hp nh) (ia.mono st2.ff) (fun z => ?_) (iv2.back fun p hp => FE.back st hp))
    have := iv2.new p z
    rw [hp] at this
    cases this⟩⟩
theorem s_par2 {A1 A2 : Type} {k1 : Kd A1} {k2 : Kd A2} {P : A1 → A2 → Prop} {bs' : A1 → A2 → List B} {kt kt2 : Nat} (hc : X.calm = true) (hN : X.N.Nodup) (hi : X.N[i]? = some x) (hj : X.N[j]? = some y) (hij : i ≠ j) (hx : X.env.scope.names.lookup x = some .local) (hy : X.env.scope.names.lookup y = some .local) (ha : PA X [e1, e2] (tE X.K g bs mE))
    (hr : ∀ (u : A1) (v : A2), PSs X rest (tS X.K g (bs' u v) n b c r (P u v))) (hbs : ∀ a b, setEls [i, j] [k1.el a, k2.el b] bs = bs' a b := by intro _ _; rfl)
    (hw : swappedStores [.Tuple [.Name x px, .Name y py] kt pt] (.Tuple [e1, e2] kt2 pt2) X.env = pure (some [x, y]) := by rfl) (hs : swapsWithSole [.Tuple [.Name x px, .Name y py] kt pt] (.Tuple [e1, e2] kt2 pt2) pos.line X.env = pure false := by rfl) :
    PSs X (.Assign [.Tuple [.Name x px, .Name y py] kt pt] (.Tuple [e1, e2] kt2 pt2) pos :: rest) (tS X.K g bs n b c r (mE (on2 k1 k2 P))) :=
  cons_of (ps_par hc hN hi hj hij hx hy ha hw hs) (fun a : A1 × A2 => hr a.1 a.2) fun E σ H ⟨p, ⟨F, sa⟩, q⟩ => ⟨F, _, sa, p, fun els ps vs F' H' kk st iv => by
    match els, kk with
    | [u, v], kk =>
      obtain ⟨a, rfl, kk1⟩ := k1.ok u (fun a => k2.on v fun b => P a b) kk
      obtain ⟨b, rfl, kk2⟩ := k2.ok v (fun b => P a b) kk1
      have sp := SatP.els (is := [i, j]) iv (SatP.of sa st iv.new) rfl
      obtain ⟨v1, v2, rfl⟩ := len2 iv.len
      exact ⟨v1, v2, rfl, (a, b), kk2, F', by rw [← hbs a b]; exact sp⟩⟩
theorem s_par3 {A1 A2 A3 : Type} {k1 : Kd A1} {k2 : Kd A2} {k3 : Kd A3} {P : A1 → A2 → A3 → Prop} {bs' : A1 → A2 → A3 → List B} {kt kt2 : Nat} (hc : X.calm = true) (hN : X.N.Nodup) (hi : X.N[i]? = some x) (hj : X.N[j]? = some y) (hl : X.N[l]? = some z) (hij : i ≠ j) (hil : i ≠ l) (hjl : j ≠ l) (hx : X.env.scope.names.lookup x = some .local) (hy : X.env.scope.names.lookup y = some .local) (hz : X.env.scope.names.lookup z = some .local) (ha : PA X [e1, e2, e3] (tE X.K g bs mE))
    (hr : ∀ (u : A1) (v : A2) (w : A3), PSs X rest (tS X.K g (bs' u v w) n b c r (P u v w))) (hbs : ∀ a b d, setEls [i, j, l] [k1.el a, k2.el b, k3.el d] bs = bs' a b d := by intro _ _ _; rfl)
    (hw : swappedStores [.Tuple [.Name x px, .Name y py, .Name z pz] kt pt] (.Tuple [e1, e2, e3] kt2 pt2) X.env = pure (some [x, y, z]) := by rfl) (hs : swapsWithSole [.Tuple [.Name x px, .Name y py, .Name z pz] kt pt] (.Tuple [e1, e2, e3] kt2 pt2) pos.line X.env = pure false := by rfl) :
    PSs X (.Assign [.Tuple [.Name x px, .Name y py, .Name z pz] kt pt] (.Tuple [e1, e2, e3] kt2 pt2) pos :: rest) (tS X.K g bs n b c r (mE (on3 k1 k2 k3 P))) :=
  cons_of (L2.ps_par3 hc hN hi hj hl hij hil hjl hx hy hz ha hw hs) (fun a : A1 × A2 × A3 => hr a.1 a.2.1 a.2.2) fun E σ H ⟨p, ⟨F, sa⟩, q⟩ => ⟨F, _, sa, p, fun els ps vs F' H' kk st iv => by
    match els, kk with
    | [u, v, w], kk =>
      obtain ⟨a, rfl, kk1⟩ := k1.ok u (fun a => k2.on v fun b => k3.on w fun d => P a b d) kk
      obtain ⟨b, rfl, kk2⟩ := k2.ok v (fun b => k3.on w fun d => P a b d) kk1
      obtain ⟨d, rfl, kk3⟩ := k3.ok w (fun d => P a b d) kk2
      have sp := SatP.els (is := [i, j, l]) iv (SatP.of sa st iv.new) rfl
      obtain ⟨v1, v2, v3, rfl⟩ := len3 iv.len
      exact ⟨v1, v2, v3, rfl, (a, b, d), kk3, F', by rw [← hbs a b d]; exact sp⟩⟩
end
end FE
set_option Elab.async false
set_option linter.all false
set_option maxRecDepth 100000
set_option maxHeartbeats 4000000
/-! Defs and their calls by data; attributes; kinds of things. -/
namespace FE
open PySem L2 PySem.Spec
open Evl (Ex)
def hdV (hd : Option (Addr × Addr)) (ws : List V) : List V := match hd with
  | some p => .ref p.1 :: ws
  | none => ws
/-- what a def promises of data; hnd: its first argument is the hand of draws -/
def spD (K : PySem.W.Frag) (cm : Cm) (hnd : Bool) (m : List D → Rt → Prop) : Sp := fun vs H Q _ => ∃ (hd : Option (Addr × Addr)) (F : Hp) (ws : List V) (ds : List D) (r : Rt), Ex F H ∧ (LamX.Tabs cm.tb H ∧ NoT F) ∧ (∀ p, hd = some p → HandAt F H p.1 p.2 ∧ F p.1 = none) ∧
  vs = hdV hd ws ∧ hd.isSome = hnd ∧ IsAll K cm F ws ds ∧ m ds r ∧
  (∀ d v F' H', r.d d → Stp hd cm.tb F H F' H' → Is K cm F' v d → Q v H') ∧
  ∀ es p us F' H', r.l es → Stp hd cm.tb F H F' H' → H p = none → F' p = none → H' p = some (.lst us) → IsAll K cm F' us es → Q (.ref p) H'
def spM (K : PySem.W.Frag) (cm : Cm) (hnd : Bool) (f : List D → (D → Prop) → Prop) : Sp := spD K cm hnd fun ds r => f ds r.d
def spL (K : PySem.W.Frag) (cm : Cm) (hnd : Bool) (f : List D → (List D → Prop) → Prop) : Sp := spD K cm hnd fun ds r => f ds r.l
@[reducible] def mk0 {α : Type} (f : (α → Prop) → Prop) (ds : List D) (k : α → Prop) : Prop := match ds with | [] => f k | _ => False
@[reducible] def mk1 {α : Type} (f : D → (α → Prop) → Prop) (ds : List D) (k : α → Prop) : Prop := match ds with | [a] => f a k | _ => False
@[reducible] def mk2 {α : Type} (f : D → D → (α → Prop) → Prop) (ds : List D) (k : α → Prop) : Prop := match ds with | [a, b] => f a b k | _ => False
@[reducible] def mk3 {α : Type} (f : D → D → D → (α → Prop) → Prop) (ds : List D) (k : α → Prop) : Prop := match ds with | [a, b, c] => f a b c k | _ => False
@[reducible] def mk4 {α : Type} (f : D → D → D → D → (α → Prop) → Prop) (ds : List D) (k : α → Prop) : Prop := match ds with | [a, b, c, d] => f a b c d k | _ => False
@[reducible] def mk5 {α : Type} (f : D → D → D → D → D → (α → Prop) → Prop) (ds : List D) (k : α → Prop) : Prop := match ds with | [a, b, c, d, e] => f a b c d e k | _ => False
@[reducible] def mk6 {α : Type} (f : D → D → D → D → D → D → (α → Prop) → Prop) (ds : List D) (k : α → Prop) : Prop := match ds with | [a, b, c, d, e, x] => f a b c d e x k | _ => False
section
variable {α : Type} {ds : List D} {k : α → Prop}
theorem mk0_inv {f : (α → Prop) → Prop} (h : mk0 f ds k) : ds = [] ∧ f k := by
  unfold mk0 at h
  split at h
  · exact ⟨rfl, h⟩
  · exact h.elim
theorem mk1_inv {f : D → (α → Prop) → Prop} (h : mk1 f ds k) : ∃ a, ds = [a] ∧ f a k := by
  unfold mk1 at h
  split at h
  · exact ⟨_, rfl, h⟩
  · exact h.elim
theorem mk2_inv {f : D → D → (α → Prop) → Prop} (h : mk2 f ds k) : ∃ a b, ds = [a, b] ∧ f a b k := by
  unfold mk2 at h
  split at h
  · exact ⟨_, _, rfl, h⟩
  · exact h.elim
theorem mk3_inv {f : D → D → D → (α → Prop) → Prop} (h : mk3 f ds k) : ∃ a b c, ds = [a, b, c] ∧ f a b c k := by
  unfold mk3 at h
  split at h
  · exact ⟨_, _, _, rfl, h⟩
  · exact h.elim
theorem mk4_inv {f : D → D → D → D → (α → Prop) → Prop} (h : mk4 f ds k) : ∃ a b c d, ds = [a, b, c, d] ∧ f a b c d k := by
  unfold mk4 at h
  split at h
  · exact ⟨_, _, _, _, rfl, h⟩
  · exact h.elim
theorem mk5_inv {f : D → D → D → D → D → (α → Prop) → Prop} (h : mk5 f ds k) : ∃ a b c d e, ds = [a, b, c, d, e] ∧ f a b c d e k := by
  unfold mk5 at h
  split at h
  · exact ⟨_, _, _, _, _, rfl, h⟩
  · exact h.elim
theorem mk6_inv {f : D → D → D → D → D → D → (α → Prop) → Prop} (h : mk6 f ds k) : ∃ a b c d e x, ds = [a, b, c, d, e, x] ∧ f a b c d e x k := by
  unfold mk6 at h
  split at h
  · exact ⟨_, _, _, _, _, _, rfl, h⟩
  · exact h.elim
end
/-! ### a def's start and end -/
def anyB (n : Nat) : List B := List.replicate n .any
def startB (hnd : Bool) (n : Nat) (ds : List D) : List B := (if hnd then [B.hand] else []) ++ ds.map B.dat ++ anyB (n - (ds.length + if hnd then 1 else 0))
@[reducible] def endJ (n : Nat) (k : D → Prop) : Jn := ⟨Unit, fun _ => anyB n, fun _ => k .non⟩
@[reducible] def endL (n : Nat) : Jn := ⟨Empty, fun _ => anyB n, fun _ => False⟩
section
variable {K : PySem.W.Frag} {g : Gv} {F H : Hp}
theorem Sl.nones : ∀ n : Nat, Sl K g F H [] (List.replicate n (none : Option V)) (anyB n)
  | 0 => .nil
  | n + 1 => .any (Sl.nones n)
theorem Sl.args {σ : List (Option V)} {bs : List B} : ∀ {ws : List V} {ds : List D}, IsAll K g.cm F ws ds → Sl K g F H [] σ bs → Sl K g F H [] (ws.map some ++ σ) (ds.map B.dat ++ bs)
  | _, _, .nil, q => q
  | _, _, .cons h r, q => .dat h (Sl.args r q)
theorem Sl.start {N : List Str} {ws : List V} {ds : List D} (hd : Option (Addr × Addr)) (e : g.hd = hd) (i : IsAll K g.cm F ws ds) : Sl K g F H [] (L2.start N (hdV hd ws)) (startB hd.isSome N.length ds) := by
  have l := i.len
  cases hd with
  | none =>
    unfold L2.start startB
    show Sl K g F H [] (ws.map some ++ List.replicate (N.length - ws.length) none) ([] ++ ds.map B.dat ++ anyB (N.length - (ds.length + 0)))
    rw [List.nil_append, l]
    exact Sl.args i (Sl.nones _)
  | some p =>
    unfold L2.start startB
    show Sl K g F H [] (some (.ref p.1) :: (ws.map some ++ List.replicate (N.length - (ws.length + 1)) none)) (B.hand :: (ds.map B.dat ++ anyB (N.length - (ds.length + 1))))
    rw [l]
    exact .hand (c := p.2) e (Sl.args i (Sl.nones _))
theorem Le.toAny : ∀ {bs : List B} {n : Nat}, bs.length = n → Le bs (anyB n)
  | [], 0, _ => .nil
  | [], _ + 1, h => by simp at h
  | _ :: _, 0, h => by simp at h
  | _ :: r, n + 1, h => .cons .any (Le.toAny (by simpa using h))
end
section
variable {P : Program} {w : World} {K : PySem.W.Frag} {mg : Str → Option Value} {base : Heap} {x qual : Str} {st : Stmt} {fa : Addr} {fd : FuncData} {N ps : List Str} {lv : Nat} {cm : Cm} {hnd : Bool}
/-- a def by its body -/
theorem def_D {m : List D → Rt → Prop} (Fn : Fun K x qual st fa fd) (S : FnScope N ps (defScope st)) (len : ∀ ds r, m ds r → ds.length + (if hnd then 1 else 0) = ps.length)
    (body : ∀ (cdv : Value) (A : Around) (out : List Env) (s : Shared) (H : Hp) (E : XK), A.guards = some [] → Room lv (A.deeper (PyProof.Rows.envOfC qual (defScope st) s.heap.objs.size fa cdv)) → ∀ (g : Gv) (ds : List D) (r : Rt), g.cm = cm → m ds r →
      ∃ Pr n, Pr ∧ PSs (cxOf CX0 P w K mg base N qual (defScope st) fa cdv A out s H E).nox (defBody st) (tS K g (startB hnd N.length ds) n Jn.no Jn.no r Pr) ∧ ∀ nx, RtOk K g r nx → nxJ K g n fun _ H' => nx .non H') : KG.FnG P w K mg base (lv + 1) fa fd ps (spD K cm hnd m) := by
  refine KG.okG Fn S (fun vs H Q E h => ?_) (fun cdv A out s H vs Q E hgd hr h => ?_)
  · obtain ⟨hd, F, ws, ds, r, e, tn, hh, rfl, eh, i, hm, _⟩ := h
    have := len ds r hm
    have l := i.len
    subst eh
    cases hd with
    | none => exact l.trans this
    | some p =>
      show ws.length + 1 = _
      rw [l]
      exact this
  · obtain ⟨hd, F, ws, ds, r, e, tn, hh, rfl, eh, i, hm, qd, ql⟩ := h
    subst eh
    obtain ⟨Pr, n, hp, hb, hn⟩ := body cdv A out s H E hgd hr ⟨cm, hd, F, H, F⟩ ds r rfl hm
    have rt : RtOk K ⟨cm, hd, F, H, F⟩ r Q := ⟨fun d v F' H' hd st i => qd d v F' H' hd st i, fun ds p vs F' H' hd st np fp hp i => ql ds p vs F' H' hd st np fp hp i⟩
    refine ⟨_, hb, hp, ⟨F, ⟨e, fun p hp => hh p hp, Stp.refl e, ⟨[], Sl.start hd rfl i, fun a h => nomatch h⟩, Ex.refl F, tn.1, tn.2⟩⟩, hn Q rt, nxJ.no, nxJ.no, rt⟩
theorem end_D {g : Gv} {n : Nat} {k : D → Prop} {l : List D → Prop} : ∀ nx, RtOk K g ⟨k, l⟩ nx → nxJ K g (endJ n k) fun _ H' => nx .non H' := fun nx h s σ F H sa hk => h.d .non .non F H hk sa.st .non
theorem end_L {g : Gv} {n : Nat} {r : Rt} : ∀ nx, RtOk K g r nx → nxJ K g (endL n) fun _ H' => nx .non H' := fun nx h s => nomatch s
theorem def_M {f : List D → (D → Prop) → Prop} (Fn : Fun K x qual st fa fd) (S : FnScope N ps (defScope st)) (len : ∀ ds k, f ds k → ds.length + (if hnd then 1 else 0) = ps.length)
    (body : ∀ (cdv : Value) (A : Around) (out : List Env) (s : Shared) (H : Hp) (E : XK), A.guards = some [] → Room lv (A.deeper (PyProof.Rows.envOfC qual (defScope st) s.heap.objs.size fa cdv)) → ∀ (g : Gv) (ds : List D) (k : D → Prop) (l : List D → Prop), g.cm = cm → f ds k →
      ∃ Pr, Pr ∧ PSs (cxOf CX0 P w K mg base N qual (defScope st) fa cdv A out s H E).nox (defBody st) (tS K g (startB hnd N.length ds) (endJ N.length k) Jn.no Jn.no ⟨k, l⟩ Pr)) : KG.FnG P w K mg base (lv + 1) fa fd ps (spM K cm hnd f) :=
  def_D Fn S (fun ds r h => len ds r.d h) fun cdv A out s H E hgd hr g ds r hc hm => by
    obtain ⟨Pr, hp, hb⟩ := body cdv A out s H E hgd hr g ds r.d r.l hc hm
    exact ⟨Pr, _, hp, hb, end_D⟩
theorem def_L {f : List D → (List D → Prop) → Prop} (Fn : Fun K x qual st fa fd) (S : FnScope N ps (defScope st)) (len : ∀ ds k, f ds k → ds.length + (if hnd then 1 else 0) = ps.length)
    (body : ∀ (cdv : Value) (A : Around) (out : List Env) (s : Shared) (H : Hp) (E : XK), A.guards = some [] → Room lv (A.deeper (PyProof.Rows.envOfC qual (defScope st) s.heap.objs.size fa cdv)) → ∀ (g : Gv) (ds : List D) (k : List D → Prop) (d : D → Prop), g.cm = cm → f ds k →
      ∃ Pr, Pr ∧ PSs (cxOf CX0 P w K mg base N qual (defScope st) fa cdv A out s H E).nox (defBody st) (tS K g (startB hnd N.length ds) (endL N.length) Jn.no Jn.no ⟨d, k⟩ Pr)) : KG.FnG P w K mg base (lv + 1) fa fd ps (spL K cm hnd f) :=
  def_D Fn S (fun ds r h => len ds r.l h) fun cdv A out s H E hgd hr g ds r hc hm => by
    obtain ⟨Pr, hp, hb⟩ := body cdv A out s H E hgd hr g ds r.l r.d hc hm
    exact ⟨Pr, _, hp, hb, end_L⟩
end
/-! ### calls -/
theorem Stp.none_hd {hd : Option (Addr × Addr)} {T : List (Addr × Str)} {F F' H H' : Hp} (s : Stp none T F H F' H') : Stp hd T F H F' H' :=
  ⟨s.ff, s.fh, s.own, s.dom, fun b o h t _ => s.kp b o h t (fun p e => nomatch e), (fun p _ h => h.to s.ff fun o e => by
    obtain ⟨cs, i, b, m, n, h1, _⟩ := h.ex
    rw [h1] at e
    cases e
    exact s.kpL h1 fun p e => nomatch e), s.tab, s.nt⟩
def tAH (K : PySem.W.Frag) (g : Gv) (bs : List B) (m : (List D → Prop) → Prop) : TA := fun σ H Q => ∃ F k, Sat K g bs σ F H ∧ m k ∧ ∀ ds vs F' H' p, g.hd = some p → k ds → Stp g.hd g.cm.tb F H F' H' → IsAll K g.cm F' vs ds → Q (.ref p.1 :: vs) H'
section
variable {X : Cx} {g : Gv} {bs : List B} {a e : Expr} {es : List Expr} {x : Str} {p pos p1 : Pos} {m : (D → Prop) → Prop} {mA : (List D → Prop) → Prop} {k i : Nat} {fa : Addr} {fd : FuncData} {ps : List Str}
theorem a_hand (hx : PE X (.Name x p1) (tVar i)) (hr : PA X es (tA X.K g bs mA)) (hb : bs[i]? = some .hand := by rfl) (hs : starEach (.Name x p1 :: es) X.env = (false, eval (.Name x p1) X.env) :: starEach es X.env := by rfl) : PA X (.Name x p1 :: es) (tAH X.K g bs mA) := PA.imp (pa_cons hx hr hs) fun σ H Q ⟨F, k, s, hm, q⟩ => by
  obtain ⟨os, sl, no⟩ := s.sl
  obtain ⟨h, c, h1, h2⟩ := sl.getH hb
  exact ⟨_, h1, F, k, s, hm, fun ds vs F' H' kd st iv => q ds vs F' H' (h, c) h2 kd st iv⟩
theorem e_call {f : List D → (D → Prop) → Prop} (hgd : X.A.guards = some []) (Fn : KG.FnG X.prog X.w X.K X.mg X.base k fa fd ps (spM X.K g.cm false f)) (hr : Room k X.A) (hg : Gl X x) (hm : X.mg x = some (.ref fa)) (hk : PySem.W.keepIn X.K (.ref fa) = true) (hb : Binds X.K fd ps []) (ha : PA X (e :: es) (tA X.K g bs mA))
    (hdb : (x == ("__debug__" : Str)) = false := by decide) (he : starEach (e :: es) X.env = (false, eval e X.env) :: starEach es X.env := by rfl) (hpl : (backTo pos (starEach es X.env)).any (·.1) = false := by rfl) : PE X (.Call (.Name x p) (e :: es) [] pos) (tM X.K g bs (wA f mA)) :=
  PE.imp (KG.pe_callG hgd Fn hr hg hm hk hb ha pass0 hdb he hpl) fun σ H Q ⟨F, k, s, hm, q⟩ => ⟨F, _, s, hm, fun ds vs F1 H1 kd st iv => by
    show spM X.K g.cm false f (vs ++ []) H1 Q E0
    rw [List.append_nil]
    exact ⟨none, F1, vs, ds, ⟨k, fun _ => False⟩, st.fh, ⟨st.tab s.tb, st.nt s.nt⟩, (fun p e => nomatch e), rfl, rfl, iv, kd, fun d v F' H' kd st2 i => q d v F' H' kd (st.trans st2.none_hd) i, fun _ _ _ _ _ h => h.elim⟩⟩
theorem l_call {f : List D → (List D → Prop) → Prop} (hgd : X.A.guards = some []) (Fn : KG.FnG X.prog X.w X.K X.mg X.base k fa fd ps (spL X.K g.cm false f)) (hr : Room k X.A) (hg : Gl X x) (hm : X.mg x = some (.ref fa)) (hk : PySem.W.keepIn X.K (.ref fa) = true) (hb : Binds X.K fd ps []) (ha : PA X (e :: es) (tA X.K g bs mA))
    (hdb : (x == ("__debug__" : Str)) = false := by decide) (he : starEach (e :: es) X.env = (false, eval e X.env) :: starEach es X.env := by rfl) (hpl : (backTo pos (starEach es X.env)).any (·.1) = false := by rfl) : PE X (.Call (.Name x p) (e :: es) [] pos) (tL X.K g bs (wAL f mA)) :=
  PE.imp (KG.pe_callG hgd Fn hr hg hm hk hb ha pass0 hdb he hpl) fun σ H Q ⟨F, k, s, hm, q⟩ => ⟨F, _, s, hm, fun ds vs F1 H1 kd st iv => by
    show spL X.K g.cm false f (vs ++ []) H1 Q E0
    rw [List.append_nil]
    exact ⟨none, F1, vs, ds, ⟨fun _ => False, k⟩, st.fh, ⟨st.tab s.tb, st.nt s.nt⟩, (fun p e => nomatch e), rfl, rfl, iv, kd, fun _ _ _ _ h => h.elim, fun es p us F' H' kd st2 np fp hp i => q es p us F' H' kd (st.trans st2.none_hd) (back st np) fp hp i⟩⟩
theorem e_callH {f : List D → (D → Prop) → Prop} (hgd : X.A.guards = some []) (Fn : KG.FnG X.prog X.w X.K X.mg X.base k fa fd ps (spM X.K g.cm true f)) (hr : Room k X.A) (hg : Gl X x) (hm : X.mg x = some (.ref fa)) (hk : PySem.W.keepIn X.K (.ref fa) = true) (hb : Binds X.K fd ps []) (ha : PA X (e :: es) (tAH X.K g bs mA)) (hi : bs[i]? = some .hand := by rfl)
    (hdb : (x == ("__debug__" : Str)) = false := by decide) (he : starEach (e :: es) X.env = (false, eval e X.env) :: starEach es X.env := by rfl) (hpl : (backTo pos (starEach es X.env)).any (·.1) = false := by rfl) : PE X (.Call (.Name x p) (e :: es) [] pos) (tM X.K g bs (wA f mA)) :=
  PE.imp (KG.pe_callG hgd Fn hr hg hm hk hb ha pass0 hdb he hpl) fun σ H Q ⟨F, k, s, hm, q⟩ => ⟨F, _, s, hm, fun ds vs F1 H1 p hp kd st iv => by
    show spM X.K g.cm true f ((.ref p.1 :: vs) ++ []) H1 Q E0
    rw [List.append_nil]
    have s1 := s.step st
    refine ⟨some p, F1, vs, ds, ⟨k, fun _ => False⟩, st.fh, ⟨st.tab s.tb, st.nt s.nt⟩, (fun q e => ?_), rfl, rfl, iv, kd, fun d v F' H' kd st2 i => ?_, fun _ _ _ _ _ h => h.elim⟩
    · cases e
      exact s1.hd p hp
    · rw [← hp] at st2
      exact q d v F' H' kd (st.trans st2) i⟩
theorem l_callH {f : List D → (List D → Prop) → Prop} (hgd : X.A.guards = some []) (Fn : KG.FnG X.prog X.w X.K X.mg X.base k fa fd ps (spL X.K g.cm true f)) (hr : Room k X.A) (hg : Gl X x) (hm : X.mg x = some (.ref fa)) (hk : PySem.W.keepIn X.K (.ref fa) = true) (hb : Binds X.K fd ps []) (ha : PA X (e :: es) (tAH X.K g bs mA)) (hi : bs[i]? = some .hand := by rfl)
    (hdb : (x == ("__debug__" : Str)) = false := by decide) (he : starEach (e :: es) X.env = (false, eval e X.env) :: starEach es X.env := by rfl) (hpl : (backTo pos (starEach es X.env)).any (·.1) = false := by rfl) : PE X (.Call (.Name x p) (e :: es) [] pos) (tL X.K g bs (wAL f mA)) :=
  PE.imp (KG.pe_callG hgd Fn hr hg hm hk hb ha pass0 hdb he hpl) fun σ H Q ⟨F, k, s, hm, q⟩ => ⟨F, _, s, hm, fun ds vs F1 H1 p hp kd st iv => by
    show spL X.K g.cm true f ((.ref p.1 :: vs) ++ []) H1 Q E0
    rw [List.append_nil]
    have s1 := s.step st
    refine ⟨some p, F1, vs, ds, ⟨fun _ => False, k⟩, st.fh, ⟨st.tab s.tb, st.nt s.nt⟩, (fun q e => ?_), rfl, rfl, iv, kd, fun _ _ _ _ h => h.elim, fun es z us F' H' kd st2 np fp hz i => ?_⟩
    · cases e
      exact s1.hd p hp
    · rw [← hp] at st2
      exact q es z us F' H' kd (st.trans st2) (back st np) fp hz i⟩
/-! ### attributes -/
def lkD : List Str → List D → Str → Option D
  | n :: ns, d :: ds, f => if f = n then some d else lkD ns ds f
  | _, _, _ => none
def oFld (c f : Str) (d : D) (k : D → Prop) : Prop := match d with
  | .obj c' ns fs => c' = c ∧ ∃ z, lkD ns fs f = some z ∧ k z
  | _ => False
theorem lk_fs {K : PySem.W.Frag} {cm : Cm} {F : Hp} {f : Str} {z : D} : ∀ {fs : List (Str × V)} {ds : List D}, IsAll K cm F (fs.map (·.2)) ds → lkD (fs.map (·.1)) ds f = some z → ∃ v, fs.lookup f = some v ∧ Is K cm F v z
  | [], _, _, h => by simp [lkD] at h
  | (n, v) :: r, [], q, _ => by cases q
  | (n, v) :: r, d :: ds, .cons i q, h => by
    unfold lkD at h
    simp only [List.map_cons] at h
    by_cases e : f = n
    · subst e
      rw [if_pos rfl] at h
      obtain rfl := Option.some.inj h
      exact ⟨v, by simp [List.lookup], i⟩
    · rw [if_neg e] at h
      obtain ⟨u, hu, iu⟩ := lk_fs q h
      refine ⟨u, ?_, iu⟩
      rw [List.lookup_cons, show (f == n) = false from beq_false_of_ne e]
      exact hu
theorem e_fld {c f : Str} (ha : PE X a (tR X.K g bs m)) (hn : NoAttr X.K (g.cm.ad c) f) (hb : attributeBase a f X.env (eval a X.env) = eval a X.env := by rfl) : PE X (.Attribute a f pos) (tM X.K g bs (w1 (oFld c f) m)) := PE.imp (pe_fld ha hb) fun σ H Q ⟨F, k, s, hm, q⟩ => ⟨F, _, s, hm, fun d v F1 H1 kd st iv => by
  unfold oFld at kd
  split at kd
  · obtain ⟨rfl, z, hz, kz⟩ := kd
    cases iv with
    | is iv =>
      cases iv with
      | obj h cf hn' i =>
        subst hn'
        obtain ⟨u, hu, iu⟩ := lk_fs i hz
        exact ⟨_, _, _, _, u, rfl, st.fh _ _ h, cf.cl, hn, hu, q z u F1 H1 kz st iu⟩
  · exact kd.elim⟩
end
end FE
set_option Elab.async false
set_option linter.all false
set_option maxRecDepth 100000
set_option maxHeartbeats 4000000
/-! Exceptions by data: raise, defs that raise, their calls. -/
namespace FE
open PySem L2 PySem.Spec
open Evl (Ex)
/-- classes of exceptions: which stands below which -/
def subX (c c' : Str) : Bool := decide (c = c') || decide (c' = "PaintError")
structure XF (K : PySem.W.Frag) (cm : Cm) (c : Str) : Prop where
  is : ExcC K (cm.ad c)
  fl : XfC K (cm.ad c)
  kv : PySem.W.kitOne K (.ref (cm.ad c)) (.type "ValueError") = some true
  ki : ∀ c' ∈ cm.exs, PySem.W.kitOne K (.ref (cm.ad c)) (.ref (cm.ad c')) = some (subX c c')
  xm : ∀ c' ∈ cm.exs, PySem.W.exmOne K (.ref (cm.ad c)) (.ref (cm.ad c')) = some (subX c c')
abbrev Xd := Str → List (Str × D) → Prop
def xNo : Xd := fun _ _ => False
inductive ExIs (K : PySem.W.Frag) (cm : Cm) (F : Hp) : Value → Option Addr → Str → List (Str × D) → Prop
  | bare {c : Str} (x : XF K cm c) : ExIs K cm F (.ref (cm.ad c)) none c []
  | one {c f : Str} {dd : Addr} {v : V} {z : D} (x : XF K cm c) (no : PySem.W.findIn K (.ref (cm.ad c)) f = some none) (h : F dd = some (.xd [(f, v)])) (i : Is K cm F v z) : ExIs K cm F (.ref (cm.ad c)) (some dd) c [(f, z)]
theorem ExIs.mono {K : PySem.W.Frag} {cm : Cm} {F F' : Hp} {cls : Value} {d : Option Addr} {c : Str} {fs : List (Str × D)} (e : Ex F F') (h : ExIs K cm F cls d c fs) : ExIs K cm F' cls d c fs := by
  cases h with
  | bare x => exact .bare x
  | one x no h i => exact .one x no (e _ _ h) (i.mono e)
/-- what is due of exceptions is what X takes -/
def XOk (K : PySem.W.Frag) (g : Gv) (bx : List B) (x : Xd) (W : WX) : Prop := ∀ c fs cls d σ F H, x c fs → Sat K g bx σ F H → ExIs K g.cm F cls d c fs → W cls d σ H
structure Am (X : Cx) (g : Gv) (bx : List B) (x : Xd) (W : WX) : Prop where
  tk : Takes X W
  ok : XOk X.K g bx x W
section
variable {X : Cx} {g : Gv} {bs bx : List B} {n b c : Jn} {r : Rt} {x : Xd} {W : WX} {rest : List Stmt} {e : Expr} {nm C f : Str} {p pos pos' : Pos} {m : (D → Prop) → Prop}
theorem Am.no : Am X g bx xNo (fun _ _ _ _ => False) := ⟨LamX.takes0, fun _ _ _ _ _ _ _ h => h.elim⟩
theorem Am.le {cs : List B} (a : Am X g bx x W) (h : Le cs bx) : Am X g cs x W := ⟨a.tk, fun c fs cls d σ F H hx sa ei => by
  obtain ⟨F', e, sa'⟩ := sa.le h
  exact a.ok c fs cls d σ F' H hx sa' (ei.mono e)⟩
theorem Am.an {A' : Hp} (a : Am X g bx x W) (e : Ex g.A A') : Am X (g.an A') bx x W := ⟨a.tk, fun c fs cls d σ F H hx sa ei => a.ok c fs cls d σ F H hx (sa.unan e) ei⟩
/-- __init__ that does nothing -/
def spI0 : Sp := fun vs H Q _ => ∃ a : V, vs = [a] ∧ Q .non H
/-- __init__ that writes one field -/
def spI1 (K : PySem.W.Frag) (C : Addr) (f : Str) : Sp := fun vs H Q _ => ∃ (a : Addr) (y : V), vs = [.ref a, y] ∧ OexC K C ∧ PySem.W.findIn K (.ref C) f = some none ∧ H a = some (exo a C none) ∧ ∀ dx, H dx = none → dx ≠ a → Q .non (upd (upd H dx (exd dx [(f, y)])) a (exo a C (some dx)))
theorem del_upd {H : Hp} {a : Addr} {o : HO} (n : H a = none) : del (upd H a o) a = H := by
  funext z
  by_cases e : z = a
  · subst e
    rw [del_same, n]
  · rw [del_ne e, upd_ne e]
theorem s_raise0 {fI : Addr} {fd : FuncData} {ps : List Str} {k : Nat} (am : Am X g bx x W) (hc : X.calm = true) (xf : XF X.K g.cm C) (T : OexC X.K (g.cm.ad C)) (iC : PySem.W.findIn X.K (.ref (g.cm.ad C)) "__init__" = some (some (.ref fI))) (tI : PySem.W.typeIn X.K (.ref fI) = some (.type "function"))
    (F1 : FnOk X.prog X.w X.K X.mg X.base CX0 k fI fd ps spI0) (hr : Room (k + 1) X.A) (hb : Binds X.K fd ps []) (hg : Gl X nm) (hm : X.mg nm = some (.ref (g.cm.ad C))) (hle : Le bs bx := by first | exact Le.refl _ | exact Le.toAny rfl)
    (hdb : (nm == ("__debug__" : Str)) = false := by decide) : PSs X [.Raise (some (.Call (.Name nm p) [] [] pos)) none pos'] (tS X.K g bs n b c r (x C [])) :=
  PSs.imp (pss_one (ps_raise hc am.tk (KX.pmk_oex0 T iC tI F1 hr hb .nil pass0 hg hm hdb))) fun E σ H ⟨px, ⟨F, sa⟩, _⟩ a na => by
    refine ⟨_, rfl, rfl, upd_same, ?_⟩
    rw [del_upd na]
    exact (am.le hle).ok C [] _ _ σ F H px sa (.bare xf)
theorem s_raise1 {fI : Addr} {fd : FuncData} {ps : List Str} {k : Nat} (am : Am X g bx x W) (hc : X.calm = true) (xf : XF X.K g.cm C) (T : OexC X.K (g.cm.ad C)) (iC : PySem.W.findIn X.K (.ref (g.cm.ad C)) "__init__" = some (some (.ref fI))) (tI : PySem.W.typeIn X.K (.ref fI) = some (.type "function"))
    (F1 : FnOk X.prog X.w X.K X.mg X.base CX0 k fI fd ps (spI1 X.K (g.cm.ad C) f)) (hr : Room (k + 1) X.A) (hb : Binds X.K fd ps []) (hg : Gl X nm) (hm : X.mg nm = some (.ref (g.cm.ad C))) (hno : PySem.W.findIn X.K (.ref (g.cm.ad C)) f = some none) (he : PE X e (tM X.K g bs m)) (hle : Le bs bx := by first | exact Le.refl _ | exact Le.toAny rfl)
    (hdb : (nm == ("__debug__" : Str)) = false := by decide) (hs : starEach [e] X.env = (false, eval e X.env) :: starEach [] X.env := by rfl) : PSs X [.Raise (some (.Call (.Name nm p) [e] [] pos)) none pos'] (tS X.K g bs n b c r (m fun d => x C [(f, d)])) :=
  PSs.imp (pss_one (ps_raise hc am.tk (pmk_oex T iC tI F1 hr hb .nil pass0 hg hm (pa_cons he pa_nil hs) hdb hs))) fun E σ H ⟨px, ⟨F, sa⟩, _⟩ => by
    refine ⟨F, _, sa, px, fun z v F1 H1 kz st iv => ⟨Nat.succ_le_succ (Nat.zero_le _), fun a na => ⟨a, v, rfl, T, hno, upd_same, fun dx nd ne => ?_⟩⟩⟩
    have nd' : H1 dx = none := by rw [upd_ne ne] at nd; exact nd
    refine ⟨rfl, dx, [(f, v)], upd_same, by rw [upd_ne ne, upd_same], nd', ?_⟩
    have e : upd (del (upd (upd (upd H1 a (exo a (g.cm.ad C) none)) dx (exd dx [(f, v)])) a (exo a (g.cm.ad C) (some dx))) a) dx (.xd [(f, v)]) = upd H1 dx (.xd [(f, v)]) := by
      funext z
      by_cases e1 : z = dx
      · subst e1
        rw [upd_same, upd_same]
      · rw [upd_ne e1, upd_ne e1]
        by_cases e2 : z = a
        · subst e2
          rw [del_same, na]
        · rw [del_ne e2, upd_ne e2, upd_ne e1, upd_ne e2]
    rw [e]
    have sn : Stp g.hd g.cm.tb F1 H1 (upd F1 dx (.xd [(f, v)])) (upd H1 dx (.xd [(f, v)])) := Stp.new st.fh nd'
    exact (am.le hle).ok C [(f, z)] _ _ σ _ _ kz ((sa.step st).step sn) (.one xf hno upd_same (iv.mono sn.ff))
end
end FE
set_option Elab.async false
set_option linter.all false
set_option maxRecDepth 100000
set_option maxHeartbeats 4000000
/-! Defs that raise, and their calls. -/
namespace FE
open PySem L2 PySem.Spec PyProof.Rows
open Evl (Ex)
/-- as KG.FnG, exceptions told by CX -/
structure FnC (P : Program) (w : World) (K : PySem.W.Frag) (mg : Str → Option Value) (base : Heap) (CX : CXT) (k : Nat) (f : Addr) (fd : FuncData) (ps : List Str) (sp : Sp) : Prop where
  many : ∀ vs H Q E, sp vs H Q E → vs.length = ps.length
  go : ∀ (A : Around) (out : List Env) (s : Shared) (H : Hp) (args : Args) (us : List Value) (vs : List V) (Q : VK) (E : XK), A.guards = some [] → Room k A →
    Env0 P w K mg base A out s H → BindsTo s fd args (ps.zip us) → Vals vs us → sp vs H Q E → codeAny (model P w) A (.call (.ref f) args) (CR CX out P w H s Q E) s
section
variable {P : Program} {w : World} {K : PySem.W.Frag} {mg : Str → Option Value} {base : Heap} {CX : CXT}
theorem okC {x qual : Str} {st : Stmt} {f : Addr} {fd : FuncData} {N ps : List Str} {k : Nat} {sp : Sp} (F : Fun K x qual st f fd) (S : FnScope N ps (defScope st))
    (many : ∀ vs H Q E, sp vs H Q E → vs.length = ps.length)
    (body : ∀ (cdv : Value) (A : Around) (out : List Env) (s : Shared) (H : Hp) (vs : List V) (Q : VK) (E : XK), A.guards = some [] →
      Room k (A.deeper (envOfC qual (defScope st) s.heap.objs.size f cdv)) → sp vs H Q E →
      ∃ t, PSs (cxOf CX P w K mg base N qual (defScope st) f cdv A out s H E) (defBody st) t ∧
        t { nx := fun _ H' => Q .non H', rt := Q } (L2.start N vs) H) : FnC P w K mg base CX (k + 1) f fd ps sp := by
  obtain ⟨oc, od, kV, doc, pm, an, cdv, ct, osl, rfl, lk, hcd⟩ := F.ex
  refine ⟨many, fun A out s H args us vs Q E hgd hr env hb rv hsp => ?_⟩
  obtain ⟨t, ht, hq⟩ := body cdv A out s H vs Q E hgd (hr.deeper _) hsp
  have inK : K.In s.heap := env.mod.kin.keeps fun a u e => (env.bs a u e).1
  have free : s.heap.NoLimit := env.mod.nolimit.keeps fun a u e => (env.bs a u e).1
  have kinds : ∀ y ∈ ps.zip us, (defScope st).names.lookup y.1 = some .local ∨
      ((defScope st).names.lookup y.1 = some .cell ∧ ((cellsFrom (s.heap.objs.size + 1) (defScope st).names []).lookup y.1).isSome = true) := by
    rintro ⟨y, u⟩ hy
    exact (S.par y (List.of_mem_zip hy).1).imp id fun c => ⟨c, PySem.W.cellsFrom_some _ _ _ (.inl c)⟩
  refine codeAny_call_function hr.depth (inK _ _ lk) rfl S.co S.gen rfl (PySem.W.codeRec_of inK hcd) (hb _ _ _ _ ?_)
  refine wpAny_newFunctionEnv_cells S.kind kinds fun env2 he s1 inside => ?_
  subst he
  refine ⟨free.keeps inside.toInCall.keep, codeAny_func ?_⟩
  have inv := inv_start (CX := CX) (E := E) S hr.hd env (many _ _ _ _ hsp) rv inside
  refine wpAny_mono (ht.run [] s1 (L2.start N vs) H _ inv hq) ?_ fun _ _ z => z
  intro fl s2 z
  cases fl with
  | ret u =>
    obtain ⟨v, σ', H', J, rvu, q⟩ := z
    exact ⟨v, H', J.os, J.bare, J.base, J.hok, rvu, q⟩
  | next =>
    obtain ⟨σ', H', J, q⟩ := z
    exact ⟨V.non, H', J.os, J.bare, J.base, J.hok, rfl, q⟩
  | brk =>
    obtain ⟨_, _, _, q⟩ := z
    exact q.elim
  | cont =>
    obtain ⟨_, _, _, q⟩ := z
    exact q.elim
theorem FnC.mono {k k' : Nat} {f : Addr} {fd : FuncData} {ps : List Str} {sp : Sp} (F : FnC P w K mg base CX k f fd ps sp) (h : k ≤ k') : FnC P w K mg base CX k' f fd ps sp :=
  ⟨F.many, fun A out s H args us vs Q E hg hr => F.go A out s H args us vs Q E hg (hr.mono h)⟩
theorem fng_mono {k k' : Nat} {f : Addr} {fd : FuncData} {ps : List Str} {sp : Sp} (F : KG.FnG P w K mg base k f fd ps sp) (h : k ≤ k') : KG.FnG P w K mg base k' f fd ps sp :=
  ⟨F.many, fun A out s H args us vs Q E hg hr => F.go A out s H args us vs Q E hg (hr.mono h)⟩
end
/-- what a def promises that may raise -/
def spX (K : PySem.W.Frag) (cm : Cm) (hnd : Bool) (m : List D → Rt → Xd → Prop) : Sp := fun vs H Q E => ∃ (hd : Option (Addr × Addr)) (F : Hp) (ws : List V) (ds : List D) (r : Rt) (x : Xd), Ex F H ∧ (LamX.Tabs cm.tb H ∧ NoT F) ∧ (∀ p, hd = some p → HandAt F H p.1 p.2 ∧ F p.1 = none) ∧
  vs = hdV hd ws ∧ hd.isSome = hnd ∧ IsAll K cm F ws ds ∧ m ds r x ∧
  ((∀ d v F' H', r.d d → Stp hd cm.tb F H F' H' → Is K cm F' v d → Q v H') ∧
  ∀ es p us F' H', r.l es → Stp hd cm.tb F H F' H' → H p = none → F' p = none → H' p = some (.lst us) → IsAll K cm F' us es → Q (.ref p) H') ∧
  ∀ c fs cls d F' H', x c fs → Stp hd cm.tb F H F' H' → ExIs K cm F' cls d c fs → E cls d H'
section
variable {P : Program} {w : World} {K : PySem.W.Frag} {mg : Str → Option Value} {base : Heap} {x qual : Str} {st : Stmt} {fa : Addr} {fd : FuncData} {N ps : List Str} {lv : Nat} {cm : Cm} {hnd : Bool}
/-- a def that may raise, by its body -/
theorem def_X {m : List D → Rt → Xd → Prop} (Fn : Fun K x qual st fa fd) (S : FnScope N ps (defScope st)) (len : ∀ ds r y, m ds r y → ds.length + (if hnd then 1 else 0) = ps.length)
    (body : ∀ (cdv : Value) (A : Around) (out : List Env) (s : Shared) (H : Hp) (E : XK), A.guards = some [] → Room lv (A.deeper (envOfC qual (defScope st) s.heap.objs.size fa cdv)) → ∀ (g : Gv) (ds : List D) (r : Rt) (y : Xd), g.cm = cm → m ds r y →
      Am (cxOf (L2.CX P w) P w K mg base N qual (defScope st) fa cdv A out s H E) g (anyB N.length) y (fun cls d _ H => E cls d H) →
      ∃ Pr n, Pr ∧ PSs (cxOf (L2.CX P w) P w K mg base N qual (defScope st) fa cdv A out s H E) (defBody st) (tS K g (startB hnd N.length ds) n Jn.no Jn.no r Pr) ∧ ∀ nx, RtOk K g r nx → nxJ K g n fun _ H' => nx .non H') : FnC P w K mg base (L2.CX P w) (lv + 1) fa fd ps (spX K cm hnd m) := by
  refine okC Fn S (fun vs H Q E h => ?_) (fun cdv A out s H vs Q E hgd hr h => ?_)
  · obtain ⟨hd, F, ws, ds, r, y, e, tn, hh, rfl, eh, i, hm, _⟩ := h
    have := len ds r y hm
    have l := i.len
    subst eh
    cases hd with
    | none => exact l.trans this
    | some p =>
      show ws.length + 1 = _
      rw [l]
      exact this
  · obtain ⟨hd, F, ws, ds, r, y, e, tn, hh, rfl, eh, i, hm, ⟨qd, ql⟩, qx⟩ := h
    subst eh
    have am : Am (cxOf (L2.CX P w) P w K mg base N qual (defScope st) fa cdv A out s H E) ⟨cm, hd, F, H, F⟩ (anyB N.length) y (fun cls d _ H => E cls d H) :=
      ⟨takes_of rfl rfl rfl rfl, fun c fs cls d σ F' H' hx sa ei => qx c fs cls d F' H' hx sa.st ei⟩
    obtain ⟨Pr, n, hp, hb, hn⟩ := body cdv A out s H E hgd hr ⟨cm, hd, F, H, F⟩ ds r y rfl hm am
    have rt : RtOk K ⟨cm, hd, F, H, F⟩ r Q := ⟨fun d v F' H' hd st i => qd d v F' H' hd st i, fun ds p vs F' H' hd st np fp hp i => ql ds p vs F' H' hd st np fp hp i⟩
    refine ⟨_, hb, hp, ⟨F, ⟨e, fun p hp => hh p hp, Stp.refl e, ⟨[], Sl.start hd rfl i, fun a h => nomatch h⟩, Ex.refl F, tn.1, tn.2⟩⟩, hn Q rt, nxJ.no, nxJ.no, rt⟩
theorem def_MX {f : List D → (D → Prop) → Xd → Prop} (Fn : Fun K x qual st fa fd) (S : FnScope N ps (defScope st)) (len : ∀ ds k y, f ds k y → ds.length + (if hnd then 1 else 0) = ps.length)
    (body : ∀ (cdv : Value) (A : Around) (out : List Env) (s : Shared) (H : Hp) (E : XK), A.guards = some [] → Room lv (A.deeper (envOfC qual (defScope st) s.heap.objs.size fa cdv)) → ∀ (g : Gv) (ds : List D) (k : D → Prop) (l : List D → Prop) (y : Xd), g.cm = cm → f ds k y →
      Am (cxOf (L2.CX P w) P w K mg base N qual (defScope st) fa cdv A out s H E) g (anyB N.length) y (fun cls d _ H => E cls d H) →
      ∃ Pr, Pr ∧ PSs (cxOf (L2.CX P w) P w K mg base N qual (defScope st) fa cdv A out s H E) (defBody st) (tS K g (startB hnd N.length ds) (endJ N.length k) Jn.no Jn.no ⟨k, l⟩ Pr)) : FnC P w K mg base (L2.CX P w) (lv + 1) fa fd ps (spX K cm hnd fun ds r y => f ds r.d y) :=
  def_X Fn S (fun ds r y h => len ds r.d y h) fun cdv A out s H E hgd hr g ds r y hc hm am => by
    obtain ⟨Pr, hp, hb⟩ := body cdv A out s H E hgd hr g ds r.d r.l y hc hm am
    exact ⟨Pr, _, hp, hb, end_D⟩
theorem def_LX {f : List D → (List D → Prop) → Xd → Prop} (Fn : Fun K x qual st fa fd) (S : FnScope N ps (defScope st)) (len : ∀ ds k y, f ds k y → ds.length + (if hnd then 1 else 0) = ps.length)
    (body : ∀ (cdv : Value) (A : Around) (out : List Env) (s : Shared) (H : Hp) (E : XK), A.guards = some [] → Room lv (A.deeper (envOfC qual (defScope st) s.heap.objs.size fa cdv)) → ∀ (g : Gv) (ds : List D) (k : List D → Prop) (d : D → Prop) (y : Xd), g.cm = cm → f ds k y →
      Am (cxOf (L2.CX P w) P w K mg base N qual (defScope st) fa cdv A out s H E) g (anyB N.length) y (fun cls d _ H => E cls d H) →
      ∃ Pr, Pr ∧ PSs (cxOf (L2.CX P w) P w K mg base N qual (defScope st) fa cdv A out s H E) (defBody st) (tS K g (startB hnd N.length ds) (endL N.length) Jn.no Jn.no ⟨d, k⟩ Pr)) : FnC P w K mg base (L2.CX P w) (lv + 1) fa fd ps (spX K cm hnd fun ds r y => f ds r.l y) :=
  def_X Fn S (fun ds r y h => len ds r.l y h) fun cdv A out s H E hgd hr g ds r y hc hm am => by
    obtain ⟨Pr, hp, hb⟩ := body cdv A out s H E hgd hr g ds r.l r.d y hc hm am
    exact ⟨Pr, _, hp, hb, end_L⟩
/-- where nothing is raised -/
theorem FnC.calm {m : List D → Rt → Xd → Prop} (F : FnC P w K mg base (L2.CX P w) lv fa fd ps (spX K cm hnd m)) : KG.FnG P w K mg base lv fa fd ps (spD K cm hnd fun ds r => m ds r xNo) := by
  have conv : ∀ vs H Q E, spD K cm hnd (fun ds r => m ds r xNo) vs H Q E → spX K cm hnd m vs H Q E0 := fun vs H Q E ⟨hd, F', ws, ds, r, e, tn, hh, ev, eh, i, hm, q⟩ =>
    ⟨hd, F', ws, ds, r, xNo, e, tn, hh, ev, eh, i, hm, q, fun _ _ _ _ _ _ h => h.elim⟩
  refine ⟨fun vs H Q E h => F.many vs H Q E0 (conv vs H Q E h), fun A out s H args us vs Q E hg hr he hb hv h => ?_⟩
  refine codeAny_mono (F.go A out s H args us vs Q E0 hg hr he hb hv (conv vs H Q E h)) fun r s' z => ?_
  cases r with
  | ok fl =>
    cases fl with
    | ret u => exact z
    | next => exact z
    | brk => exact z
    | cont => exact z
  | error er =>
    obtain ⟨_, _, _, _, _, _, _, _, _, _, _, _, z⟩ := z
    exact z.elim
end
/-! ### calls of what may raise -/
section
variable {X : Cx} {g : Gv} {bs bx : List B} {a e : Expr} {es : List Expr} {x : Str} {p pos p1 : Pos} {m : (D → Prop) → Prop} {mA : (List D → Prop) → Prop} {k i : Nat} {fa : Addr} {fd : FuncData} {ps : List Str} {y : Xd} {W : WX}
theorem pe_callC {sp : Sp} {E : L2.St → XK} {t : TA} {CX : CXT} (hgd : X.A.guards = some []) (F : FnC X.prog X.w X.K X.mg X.base CX k fa fd ps sp) (hr : Room k X.A) (hg : Gl X x) (hm : X.mg x = some (.ref fa)) (hk : PySem.W.keepIn X.K (.ref fa) = true) (hb : Binds X.K fd ps []) (hx : ∀ σ, PassesAt CX X σ (E σ)) (ha : PA X (e :: es) t)
    (hdb : (x == ("__debug__" : Str)) = false := by decide) (he : starEach (e :: es) X.env = (false, eval e X.env) :: starEach es X.env := by rfl) (hpl : (backTo pos (starEach es X.env)).any (·.1) = false := by rfl) : PE X (.Call (.Name x p) (e :: es) [] pos) (tCallS sp E t) := by
  refine ⟨fun pins s σ H Q I h => wpAny_Call_Name_kw (ld_glob I hg hm ?_ hdb)⟩
  refine PySem.W.callWith_K (h₀ := X.base) I.ok.mod.kin hk (thn (ha.run pos pins s σ H _ I h) ?_) he hpl
  rintro us s1 ⟨vs, H1, I1, r, q⟩
  refine ⟨I1.kIn, ?_⟩
  have hl : us.length = ps.length := by rw [← Paired.length r]; exact F.many _ _ _ _ q
  have b := hb s1 us I1.kIn (by rw [List.append_nil]; exact hl)
  rw [List.append_nil] at b
  refine wpAny_call (codeAny_mono (F.go X.A X.stack s1 H1 ⟨us, []⟩ us vs Q (E σ) hgd hr I1.env0 b r q) ?_)
  intro z s2 hz
  match z, hz with
  | .error er, hz => exact hx σ pins H1 s1 er s2 I1 hz
  | .ok (.ret u), hz => exact I1.after hz
  | .ok .next, hz => exact False.elim hz
  | .ok .brk, hz => exact False.elim hz
  | .ok .cont, hz => exact False.elim hz
@[reducible] def wAX (f : List D → (D → Prop) → Xd → Prop) (ma : (List D → Prop) → Prop) (y : Xd) : (D → Prop) → Prop := fun k => ma fun a => f a k y
@[reducible] def wAXL (f : List D → (List D → Prop) → Xd → Prop) (ma : (List D → Prop) → Prop) (y : Xd) : (List D → Prop) → Prop := fun k => ma fun a => f a k y
theorem e_callX {f : List D → (D → Prop) → Xd → Prop} (am : Am X g bx y W) (hgd : X.A.guards = some []) (Fn : FnC X.prog X.w X.K X.mg X.base (L2.CX X.prog X.w) k fa fd ps (spX X.K g.cm false fun ds r y => f ds r.d y)) (hr : Room k X.A) (hg : Gl X x) (hm : X.mg x = some (.ref fa)) (hk : PySem.W.keepIn X.K (.ref fa) = true) (hb : Binds X.K fd ps []) (ha : PA X (e :: es) (tA X.K g bs mA))
    (hle : Le bs bx := by first | exact Le.refl _ | exact Le.toAny rfl)
    (hdb : (x == ("__debug__" : Str)) = false := by decide) (he : starEach (e :: es) X.env = (false, eval e X.env) :: starEach es X.env := by rfl) (hpl : (backTo pos (starEach es X.env)).any (·.1) = false := by rfl) : PE X (.Call (.Name x p) (e :: es) [] pos) (tM X.K g bs (wAX f mA y)) :=
  PE.imp (pe_callC (E := WE W) hgd Fn hr hg hm hk hb (fun σ => passAt am.tk σ) ha hdb he hpl) fun σ H Q ⟨F, k, s, hm, q⟩ => ⟨F, _, s, hm, fun ds vs F1 H1 kd st iv => by
    refine ⟨none, F1, vs, ds, ⟨k, fun _ => False⟩, y, st.fh, ⟨st.tab s.tb, st.nt s.nt⟩, (fun p e => nomatch e), rfl, rfl, iv, kd, ⟨fun d v F' H' kd st2 i => q d v F' H' kd (st.trans st2.none_hd) i, fun _ _ _ _ _ h => h.elim⟩, fun c fs cls d F' H' hy st2 ei => ?_⟩
    exact (am.le hle).ok c fs cls d σ F' H' hy (s.step (st.trans st2.none_hd)) ei⟩
theorem l_callX {f : List D → (List D → Prop) → Xd → Prop} (am : Am X g bx y W) (hgd : X.A.guards = some []) (Fn : FnC X.prog X.w X.K X.mg X.base (L2.CX X.prog X.w) k fa fd ps (spX X.K g.cm false fun ds r y => f ds r.l y)) (hr : Room k X.A) (hg : Gl X x) (hm : X.mg x = some (.ref fa)) (hk : PySem.W.keepIn X.K (.ref fa) = true) (hb : Binds X.K fd ps []) (ha : PA X (e :: es) (tA X.K g bs mA))
    (hle : Le bs bx := by first | exact Le.refl _ | exact Le.toAny rfl)
    (hdb : (x == ("__debug__" : Str)) = false := by decide) (he : starEach (e :: es) X.env = (false, eval e X.env) :: starEach es X.env := by rfl) (hpl : (backTo pos (starEach es X.env)).any (·.1) = false := by rfl) : PE X (.Call (.Name x p) (e :: es) [] pos) (tL X.K g bs (wAXL f mA y)) :=
  PE.imp (pe_callC (E := WE W) hgd Fn hr hg hm hk hb (fun σ => passAt am.tk σ) ha hdb he hpl) fun σ H Q ⟨F, k, s, hm, q⟩ => ⟨F, _, s, hm, fun ds vs F1 H1 kd st iv => by
    refine ⟨none, F1, vs, ds, ⟨fun _ => False, k⟩, y, st.fh, ⟨st.tab s.tb, st.nt s.nt⟩, (fun p e => nomatch e), rfl, rfl, iv, kd, ⟨fun _ _ _ _ h => h.elim, fun es p us F' H' kd st2 np fp hp i => q es p us F' H' kd (st.trans st2.none_hd) (back st np) fp hp i⟩, fun c fs cls d F' H' hy st2 ei => ?_⟩
    exact (am.le hle).ok c fs cls d σ F' H' hy (s.step (st.trans st2.none_hd)) ei⟩
end
end FE
set_option Elab.async false
set_option linter.all false
set_option maxRecDepth 100000
set_option maxHeartbeats 4000000
/-! try. -/
namespace FE
open PySem L2 PySem.Spec
open Evl (Ex)
theorem pss_and {X : Cx} {b : List Stmt} {t : TS} {P : Prop} (h : P → PSs X b t) : PSs X b (fun D σ H => P ∧ t D σ H) := ⟨fun pins s σ H D I ⟨p, q⟩ => (h p).run pins s σ H D I q⟩
section
variable {X : Cx} {g : Gv} {bs bx : List B} {n b c : Jn} {r : Rt} {y : Xd} {W : WX} {rest body suite : List Stmt} {b₀ : Stmt} {nn cx cn : Str} {np pos pos' : Pos} {i : Nat} {Pb : Prop} {Ph : Str → List (Str × D) → Prop}
/-- what an exception finds: the clause's suite, or it goes on -/
@[reducible] def xTry (cn : Str) (Ph : Str → List (Str × D) → Prop) (y : Xd) : Xd := fun c fs => if subX c cn = true then Ph c fs else y c fs
theorem nxJ.gone {K : PySem.W.Frag} {A : Hp} {j : Jn} {nx : L2.St → Hp → Prop} (e : Ex g.A A) (hj : ∀ s, (j.f s).set i .any = j.f s) (h : nxJ K g j nx) : nxJ K (g.an A) j (fun σ H => nx (σ.set i none) H) := fun s σ F H sa k =>
  h s _ F H (by have := (sa.unan e).setN (i := i) (v := none); rw [hj] at this; exact this) k
theorem s_try (j : Jn) (am : Am X g bx y W) (hs : X.stack = X.env :: X.outer) (hf : X.env.frame = some X.env.locals) (hN : X.N.Nodup) (hi : X.N[i]? = some nn) (hln : X.env.kindOf nn = some .local) (hc : Names X cx (.ref (g.cm.ad cn))) (hce : cn ∈ g.cm.exs) (hjn : ∀ s, (j.f s).set i .any = j.f s) (hjb : ∀ s, (b.f s).set i .any = b.f s) (hjc : ∀ s, (c.f s).set i .any = c.f s) (hle : Le bs bx)
    (hb : ∀ (W' : WX) (pn : List (Addr × Obj)) (xe : Value → Shared → Prop), Am (X.tr pn xe) g bx (xTry cn Ph y) W' → PassesOwn (model X.prog X.w) X.A X.env xe → PSs (X.tr pn xe) body (tS X.K g bs j b c r Pb))
    (hsu : ∀ (A' : Hp) (_ : Ex g.A A') (c0 : Str) (fs : List (Str × D)) (a : Addr) (oe : Obj) (cls : Value) (d : Option Addr) (pn : List (Addr × Obj)), ExIs X.K g.cm A' cls d c0 fs → Zc cls d oe → (∃ vs, oe.data = .fields vs) → PSs (X.suite a ((a, oe) :: pn)) (b₀ :: suite) (tS X.K (g.an A') (bx.set i (.raw (.ref a))) j b c r (Ph c0 fs)))
    (hr : ∀ s : j.S, PSs X rest (tS X.K g (j.f s) n b c r (j.k s))) :
    PSs X (.Try body [.ExceptHandler (some (.Name cx np)) (some nn) (b₀ :: suite) pos'] [] [] pos :: rest) (tS X.K g bs n b c r Pb) := by
  refine cons_of (α := j.S) (bs' := j.f) (P' := j.k) (ps_try_as (i := i) (Wout := W) (tb := fun W' En σ H => XOk X.K g bx (xTry cn Ph y) W' ∧ tS X.K g bs j b c r Pb En σ H)
    (ts := fun a cls d En σ H => ∃ (A' : Hp) (c0 : Str) (fs : List (Str × D)) (_ : Ex g.A A'), ExIs X.K g.cm A' cls d c0 fs ∧ tS X.K (g.an A') (bx.set i (.raw (.ref a))) j b c r (Ph c0 fs) En σ H) hs hf hN hi hln hc am.tk
    (fun W' pn xe tk po => pss_and fun xo => hb W' pn xe ⟨tk, xo⟩ po)
    (fun a oe cls d pn hz hf => ⟨fun pins s σ H D I ⟨A', c0, fs, eA, ei, q⟩ => (hsu A' eA c0 fs a oe cls d pn ei hz hf).run pins s σ H D I q⟩)) hr fun E σ H ⟨p, sa, hn, hbk, hct, hrt⟩ => ?_
  have nx : nxJ X.K g j (fun σ' H' => ∃ a : j.S, j.k a ∧ ∃ F, Sat X.K g (j.f a) σ' F H') := fun s σ F H sa k => ⟨s, k, F, sa⟩
  refine ⟨fun c0 fs cls d σ' F' H' hx sa' ei => ?_, p, sa, nx, hbk, hct, hrt⟩
  have key : ∃ o, cls = .ref (g.cm.ad c0) ∧ PySem.W.exmOne X.K cls (.ref (g.cm.ad cn)) = some o ∧ o = subX c0 cn := by
    cases ei with
    | bare x => exact ⟨_, rfl, x.xm cn hce, rfl⟩
    | one x no h i => exact ⟨_, rfl, x.xm cn hce, rfl⟩
  obtain ⟨o, ec, eo, es⟩ := key
  refine ⟨o, eo, fun ht a na => ?_, fun hf => ?_⟩
  · unfold xTry at hx
    rw [if_pos (es ▸ ht)] at hx
    have sa2 := (sa'.setR (i := i) (v := .ref a)).anch (Ex.refl F')
    exact ⟨F', c0, fs, sa'.an, ei, hx, ⟨F', sa2⟩, nx.gone sa'.an hjn, hbk.gone sa'.an hjb, hct.gone sa'.an hjc, hrt.an⟩
  · unfold xTry at hx
    have : subX c0 cn ≠ true := by rw [← es, hf]; exact Bool.false_ne_true
    rw [if_neg this] at hx
    exact am.ok c0 fs cls d σ' F' H' hx sa' ei
/-- without a name -/
theorem s_try0 (j : Jn) (am : Am X g bx y W) (hs : X.stack = X.env :: X.outer) (hf : X.env.frame = some X.env.locals) (hc : Names X cx (.ref (g.cm.ad cn))) (hce : cn ∈ g.cm.exs) (hle : Le bs bx)
    (hb : ∀ (W' : WX) (pn : List (Addr × Obj)) (xe : Value → Shared → Prop), Am (X.tr pn xe) g bx (xTry cn Ph y) W' → PassesOwn (model X.prog X.w) X.A X.env xe → PSs (X.tr pn xe) body (tS X.K g bs j b c r Pb))
    (hsu : ∀ (A' : Hp) (_ : Ex g.A A') (c0 : Str) (fs : List (Str × D)) (a : Addr) (oe : Obj) (cls : Value) (d : Option Addr) (pn : List (Addr × Obj)), ExIs X.K g.cm A' cls d c0 fs → Zc cls d oe → (∃ vs, oe.data = .fields vs) → PSs (X.suite a ((a, oe) :: pn)) (b₀ :: suite) (tS X.K (g.an A') bx j b c r (Ph c0 fs)))
    (hr : ∀ s : j.S, PSs X rest (tS X.K g (j.f s) n b c r (j.k s))) :
    PSs X (.Try body [.ExceptHandler (some (.Name cx np)) none (b₀ :: suite) pos'] [] [] pos :: rest) (tS X.K g bs n b c r Pb) := by
  refine cons_of (α := j.S) (bs' := j.f) (P' := j.k) (ps_try_only (Wout := W) (tb := fun W' En σ H => XOk X.K g bx (xTry cn Ph y) W' ∧ tS X.K g bs j b c r Pb En σ H)
    (ts := fun a cls d En σ H => ∃ (A' : Hp) (c0 : Str) (fs : List (Str × D)) (_ : Ex g.A A'), ExIs X.K g.cm A' cls d c0 fs ∧ tS X.K (g.an A') bx j b c r (Ph c0 fs) En σ H) hs hf hc am.tk
    (fun W' pn xe tk po => pss_and fun xo => hb W' pn xe ⟨tk, xo⟩ po)
    (fun a oe cls d pn hz hf => ⟨fun pins s σ H D I ⟨A', c0, fs, eA, ei, q⟩ => (hsu A' eA c0 fs a oe cls d pn ei hz hf).run pins s σ H D I q⟩)) hr fun E σ H ⟨p, sa, hn, hbk, hct, hrt⟩ => ?_
  have nx : nxJ X.K g j (fun σ' H' => ∃ a : j.S, j.k a ∧ ∃ F, Sat X.K g (j.f a) σ' F H') := fun s σ F H sa k => ⟨s, k, F, sa⟩
  refine ⟨fun c0 fs cls d σ' F' H' hx sa' ei => ?_, p, sa, nx, hbk, hct, hrt⟩
  have key : ∃ o, cls = .ref (g.cm.ad c0) ∧ PySem.W.exmOne X.K cls (.ref (g.cm.ad cn)) = some o ∧ o = subX c0 cn := by
    cases ei with
    | bare x => exact ⟨_, rfl, x.xm cn hce, rfl⟩
    | one x no h i => exact ⟨_, rfl, x.xm cn hce, rfl⟩
  obtain ⟨o, ec, eo, es⟩ := key
  refine ⟨o, eo, fun ht a na => ?_, fun hf => ?_⟩
  · unfold xTry at hx
    rw [if_pos (es ▸ ht)] at hx
    have un : ∀ {j : Jn} {nx : L2.St → Hp → Prop}, nxJ X.K g j nx → nxJ X.K (g.an F') j nx := fun {j nx} h s σ F H sa k => h s σ F H (sa.unan sa'.an) k
    exact ⟨F', c0, fs, sa'.an, ei, hx, ⟨F', sa'.anch (Ex.refl F')⟩, un nx, un hbk, un hct, hrt.an⟩
  · unfold xTry at hx
    have : subX c0 cn ≠ true := by rw [← es, hf]; exact Bool.false_ne_true
    rw [if_neg this] at hx
    exact am.ok c0 fs cls d σ' F' H' hx sa' ei
end
end FE
set_option Elab.async false
set_option linter.all false
set_option maxRecDepth 100000
set_option maxHeartbeats 4000000
/-! isinstance; what a suite reads of its exception. -/
namespace FE
open PySem L2 PySem.Spec
open Evl (Ex)
/-- the built-in classes of data -/
inductive BT where
  | int | bool | str | tup | lst | dic
@[reducible] def BT.nm : BT → String
  | .int => "int" | .bool => "bool" | .str => "str" | .tup => "tuple" | .lst => "list" | .dic => "dict"
def isB : BT → D → Bool
  | .int, .bl _ => true
  | .bool, .bl _ => true
  | .int, .int _ => true
  | .str, .str _ => true
  | .lst, .lst _ => true
  | .tup, .tup _ => true
  | .dic, .dic _ _ => true
  | .dic, .dik _ _ => true
  | .dic, .dit _ _ => true
  | _, _ => false
def isO (c : Str) : D → Bool
  | .obj c' _ _ => decide (c' = c)
  | _ => false
/-- a class of the program that things are held against -/
structure CI (K : PySem.W.Frag) (cm : Cm) (c : Str) : Prop where
  me : c ∈ cm.cls
  kf : ∀ n ∈ ["NoneType", "int", "bool", "str", "tuple", "list", "dict", "function"], PySem.W.kitOne K (.type n) (.ref (cm.ad c)) = some false
theorem ty_rdT {K : PySem.W.Frag} {H : Hp} {a : Addr} {xs : List V} (h : SqT K H a xs) : TyX K H (.ref a) (.type "tuple") := by
  rcases h with h | ⟨o, its, n, h1, h2, _⟩
  · rcases h with h | ⟨o, h⟩
    · exact .base (.tup h)
    · exact .fTuple h
  · exact .kTuple h1 h2
def kdT : D → String
  | .non => "NoneType"
  | .bl _ => "bool"
  | .int _ => "int"
  | .str _ => "str"
  | .lst _ => "list"
  | .tup _ => "tuple"
  | .dic _ _ => "dict"
  | .dik _ _ => "dict"
  | .dit _ _ => "dict"
  | .cod _ => "function"
  | .obj _ _ _ => ""
theorem isB_kit {K : PySem.W.Frag} (t : BT) (d : D) (n : ∀ c ns fs, d ≠ .obj c ns fs) : PySem.W.kitOne K (.type (kdT d)) (.type t.nm) = some (isB t d) := by
  cases d with
  | obj c ns fs => exact absurd rfl (n c ns fs)
  | non => cases t <;> first | exact kit_ty (show L2.kitB "NoneType" _ = some true by decide +kernel) | exact kit_ty (show L2.kitB "NoneType" _ = some false by decide +kernel)
  | bl b => cases t <;> first | exact kit_ty (show L2.kitB "bool" _ = some true by decide +kernel) | exact kit_ty (show L2.kitB "bool" _ = some false by decide +kernel)
  | int b => cases t <;> first | exact kit_ty (show L2.kitB "int" _ = some true by decide +kernel) | exact kit_ty (show L2.kitB "int" _ = some false by decide +kernel)
  | str b => cases t <;> first | exact kit_ty (show L2.kitB "str" _ = some true by decide +kernel) | exact kit_ty (show L2.kitB "str" _ = some false by decide +kernel)
  | lst b => cases t <;> first | exact kit_ty (show L2.kitB "list" _ = some true by decide +kernel) | exact kit_ty (show L2.kitB "list" _ = some false by decide +kernel)
  | tup b => cases t <;> first | exact kit_ty (show L2.kitB "tuple" _ = some true by decide +kernel) | exact kit_ty (show L2.kitB "tuple" _ = some false by decide +kernel)
  | dic b c => cases t <;> first | exact kit_ty (show L2.kitB "dict" _ = some true by decide +kernel) | exact kit_ty (show L2.kitB "dict" _ = some false by decide +kernel)
  | dik b c => cases t <;> first | exact kit_ty (show L2.kitB "dict" _ = some true by decide +kernel) | exact kit_ty (show L2.kitB "dict" _ = some false by decide +kernel)
  | dit b c => cases t <;> first | exact kit_ty (show L2.kitB "dict" _ = some true by decide +kernel) | exact kit_ty (show L2.kitB "dict" _ = some false by decide +kernel)
  | cod b => cases t <;> first | exact kit_ty (show L2.kitB "function" _ = some true by decide +kernel) | exact kit_ty (show L2.kitB "function" _ = some false by decide +kernel)
section
variable {K : PySem.W.Frag} {g : Gv} {F H : Hp} {v : V} {d : D}
theorem Rs.ty (ex : Ex F H) (h : Rs K g F H v d) : (∃ c ns fs, d = .obj c ns fs ∧ CF K g.cm c ∧ KT.TyS K H v (.ref (g.cm.ad c))) ∨ ((∀ c ns fs, d ≠ .obj c ns fs) ∧ KT.TyS K H v (.type (kdT d))) := by
  cases h with
  | is h =>
    cases h with
    | non => exact .inr ⟨fun _ _ _ => nofun, .of (.base .non)⟩
    | bl b => exact .inr ⟨fun _ _ _ => nofun, .of (.base (.bl b))⟩
    | int b => exact .inr ⟨fun _ _ _ => nofun, .of (.base (.int b))⟩
    | str b => exact .inr ⟨fun _ _ _ => nofun, .of (.base (.str b))⟩
    | lst h q => exact .inr ⟨fun _ _ _ => nofun, .of (.base (.lst (ex _ _ h)))⟩
    | tup h q => exact .inr ⟨fun _ _ _ => nofun, .of (ty_rdT (Evl.ex_t ex h.sq))⟩
    | dic h hk q => exact .inr ⟨fun _ _ _ => nofun, .of (.base (.dK (ex _ _ h)))⟩
    | dik h hk q => exact .inr ⟨fun _ _ _ => nofun, .of (.fDict (ex _ _ h))⟩
    | dit h hk q => exact .inr ⟨fun _ _ _ => nofun, .dT (ex _ _ h)⟩
    | cod h t => exact .inr ⟨fun _ _ _ => nofun, t _⟩
    | obj h cf hn q => exact .inl ⟨_, _, _, rfl, cf, .of (.base (.ins (ex _ _ h) cf.cl cf.ic cf.ia cf.ib cf.im))⟩
  | own h q n => exact .inr ⟨fun _ _ _ => nofun, .of (.base (.lst h))⟩
theorem Rs.tyX (ex : Ex F H) (h : Rs K g F H v d) (n1 : ∀ ks vs, d ≠ .dit ks vs) (n2 : ∀ x, d ≠ .cod x) : (∃ c ns fs, d = .obj c ns fs ∧ CF K g.cm c ∧ TyX K H v (.ref (g.cm.ad c))) ∨ ((∀ c ns fs, d ≠ .obj c ns fs) ∧ TyX K H v (.type (kdT d))) := by
  cases h with
  | is h =>
    cases h with
    | non => exact .inr ⟨fun _ _ _ => nofun, .base .non⟩
    | bl b => exact .inr ⟨fun _ _ _ => nofun, .base (.bl b)⟩
    | int b => exact .inr ⟨fun _ _ _ => nofun, .base (.int b)⟩
    | str b => exact .inr ⟨fun _ _ _ => nofun, .base (.str b)⟩
    | lst h q => exact .inr ⟨fun _ _ _ => nofun, .base (.lst (ex _ _ h))⟩
    | tup h q => exact .inr ⟨fun _ _ _ => nofun, ty_rdT (Evl.ex_t ex h.sq)⟩
    | dic h hk q => exact .inr ⟨fun _ _ _ => nofun, .base (.dK (ex _ _ h))⟩
    | dik h hk q => exact .inr ⟨fun _ _ _ => nofun, .fDict (ex _ _ h)⟩
    | dit h hk q => exact absurd rfl (n1 _ _)
    | cod h t => exact absurd rfl (n2 _)
    | obj h cf hn q => exact .inl ⟨_, _, _, rfl, cf, .base (.ins (ex _ _ h) cf.cl cf.ic cf.ia cf.ib cf.im)⟩
  | own h q n => exact .inr ⟨fun _ _ _ => nofun, .base (.lst h)⟩
theorem Rs.kitB (ex : Ex F H) (h : Rs K g F H v d) : ∃ u, KT.TyS K H v u ∧ ∀ t : BT, PySem.W.kitOne K u (.type t.nm) = some (isB t d) := by
  rcases h.ty ex with ⟨c, ns, fs, rfl, cf, ty⟩ | ⟨n, ty⟩
  · refine ⟨_, ty, fun t => ?_⟩
    have e : isB t (.obj c ns fs) = false := by cases t <;> rfl
    rw [e]
    exact cf.kt t.nm (by cases t <;> simp)
  · exact ⟨_, ty, fun t => isB_kit t d n⟩
theorem Rs.kitO (ex : Ex F H) (h : Rs K g F H v d) {c : Str} (ci : CI K g.cm c) : ∃ u, KT.TyS K H v u ∧ PySem.W.kitOne K u (.ref (g.cm.ad c)) = some (isO c d) := by
  rcases h.ty ex with ⟨c', ns, fs, rfl, cf, ty⟩ | ⟨n, ty⟩
  · exact ⟨_, ty, cf.ko c ci.me⟩
  · refine ⟨_, ty, ?_⟩
    cases d with
    | obj c ns fs => exact absurd rfl (n c ns fs)
    | _ => exact ci.kf _ (by simp [kdT])
end
section
variable {X : Cx} {g : Gv} {bs : List B} {e : Expr} {x x1 x2 x3 : Str} {p pos p1 p2 p3 p4 : Pos} {m : (D → Prop) → Prop} {t t1 t2 t3 : BT} {c : Str}
abbrev wIsi (f : D → Bool) (m : (D → Prop) → Prop) : (D → Prop) → Prop := w1 (fun d k => k (.bl (f d))) m
/-- the name of a built-in class -/
theorem pe_ty {n : String} (hg : Gl X x) (hm : X.mg x = none) (hv : bootBuiltins x = some (.type n)) (hn : x ≠ "__name__" := by decide) (hd : (x == ("__debug__" : Str)) = false := by decide) : PE X (.Name x p) (tC (.ty n)) := pe_bltn (v := .ty n) hg hm hv rfl hn hd
theorem e_isi (t : BT) (hg : Gl X "isinstance") (hm : X.mg "isinstance" = none) (hb : bootBuiltins "isinstance" = some (.builtin "isinstance")) (he : PE X e (tR X.K g bs m)) (ht : PE X (.Name x p1) (tC (.ty t.nm)))
    (hs1 : starEach [e, .Name x p1] X.env = (false, eval e X.env) :: starEach [.Name x p1] X.env := by rfl) (hpl : (backTo pos (starEach [.Name x p1] X.env)).any (·.1) = false := by rfl) :
    PE X (.Call (.Name "isinstance" p) [e, .Name x p1] [] pos) (tM X.K g bs (wIsi (isB t) m)) :=
  PE.imp (pe_callB KT.call_isS hg hm hb (pa_cons he (pa_cons ht pa_nil) hs1) (by decide) (by decide) hs1 hpl) fun σ H Q ⟨F, k, s, hm, q⟩ => ⟨F, _, s, hm, fun d v F1 H1 kd st iv => by
    obtain ⟨u, ty, kt⟩ := iv.kitB st.fh
    exact ⟨v, .ty t.nm, u, .type t.nm, _, rfl, .ty _, ty, kt t, q _ _ F1 H1 kd st (.bl _)⟩⟩
theorem e_isO (ci : CI X.K g.cm c) (hg : Gl X "isinstance") (hm : X.mg "isinstance" = none) (hb : bootBuiltins "isinstance" = some (.builtin "isinstance")) (hgt : Gl X x) (hmt : X.mg x = some (.ref (g.cm.ad c))) (he : PE X e (tR X.K g bs m))
    (hd : (x == ("__debug__" : Str)) = false := by decide)
    (hs1 : starEach [e, .Name x p1] X.env = (false, eval e X.env) :: starEach [.Name x p1] X.env := by rfl) (hpl : (backTo pos (starEach [.Name x p1] X.env)).any (·.1) = false := by rfl) :
    PE X (.Call (.Name "isinstance" p) [e, .Name x p1] [] pos) (tM X.K g bs (wIsi (isO c) m)) :=
  PE.imp (pe_callB KT.call_isS hg hm hb (pa_cons he (pa_cons (pe_glob (v := .ref (g.cm.ad c)) hgt hmt rfl hd) pa_nil) hs1) (by decide) (by decide) hs1 hpl) fun σ H Q ⟨F, k, s, hm, q⟩ => ⟨F, _, s, hm, fun d v F1 H1 kd st iv => by
    obtain ⟨u, ty, kt⟩ := iv.kitO st.fh ci
    exact ⟨v, .ref (g.cm.ad c), u, .ref (g.cm.ad c), _, rfl, .own _, ty, kt, q _ _ F1 H1 kd st (.bl _)⟩⟩
theorem e_isi2 (t1 t2 : BT) {kt : Nat} (hg : Gl X "isinstance") (hm : X.mg "isinstance" = none) (hb : bootBuiltins "isinstance" = some (.builtin "isinstance")) (he : PE X e (tR X.K g bs m)) (h1 : PE X (.Name x1 p1) (tC (.ty t1.nm))) (h2 : PE X (.Name x2 p2) (tC (.ty t2.nm)))
    (hs1 : starEach [e, .Tuple [.Name x1 p1, .Name x2 p2] kt p3] X.env = (false, eval e X.env) :: starEach [.Tuple [.Name x1 p1, .Name x2 p2] kt p3] X.env := by rfl) (hpl : (backTo pos (starEach [.Tuple [.Name x1 p1, .Name x2 p2] kt p3] X.env)).any (·.1) = false := by rfl) :
    PE X (.Call (.Name "isinstance" p) [e, .Tuple [.Name x1 p1, .Name x2 p2] kt p3] [] pos) (tM X.K g bs (wIsi (fun d => isB t1 d || isB t2 d) m)) :=
  PE.imp (pe_callB KT.call_isTS hg hm hb (pa_cons he (pa_cons (pe_tup (pa_cons h1 (pa_cons h2 pa_nil))) pa_nil) hs1) (by decide) (by decide) hs1 hpl) fun σ H Q ⟨F, k, s, hm, q⟩ => ⟨F, _, s, hm, fun d v F1 H1 kd st iv => by
    refine ⟨Nat.le_trans (show 2 ≤ 100000 by decide) (by decide), fun tp ntp => ?_⟩
    have st2 : Stp g.hd g.cm.tb F1 H1 F1 (upd H1 tp (.tup [.ty t1.nm, .ty t2.nm])) := Stp.newOwn st.fh ntp
    obtain ⟨u, ty, kk⟩ := (iv.step st2).kitB st2.fh
    exact ⟨v, tp, _, _, _, _, rfl, upd_same, .cons (.ty t1.nm) (.cons (.ty t2.nm) .nil), ty, kitAny_cons (kk t1) (fun h => by show PySem.W.kitAny _ _ _ = some (isB t1 d || isB t2 d); rw [h, Bool.false_or]; exact kitAny_cons (kk t2) (fun h => by rw [h]; exact kitAny_nil) fun h => h) (fun h => by show (isB t1 d || isB t2 d) = true; rw [h]; rfl), q _ _ F1 _ kd (st.trans st2) (.bl _)⟩⟩
end
/-! ### in a suite -/
def rIsX (K : PySem.W.Frag) (D a : Addr) (d : Option Addr) : List V → Hp → VK → Prop := fun xs H Q => (∀ dd, d = some dd → ∃ fs, H dd = some (.xd fs)) ∧ ∃ (c : V) (cv : Value) (b : Bool), xs = [.ref a, c] ∧ ClsV c cv ∧ PySem.W.kitOne K (.ref D) cv = some b ∧ Q (.bl b) H
theorem cr_isX {X : Cx} {a D : Addr} {oe : Obj} {d : Option Addr} {pn : List (Addr × Obj)} (C : ExcC X.K D) (hz : Zc (.ref D) d oe) (hf : ∃ vs, oe.data = .fields vs) : CallR (X.suite a ((a, oe) :: pn)) (.builtin "isinstance") (rIsX X.K D a d) := by
  intro pins s σ H xs us Q I r h
  obtain ⟨hdd, c, cv, b, rfl, hcv, e, q⟩ := h
  obtain ⟨u1, u2, rfl, r1, r2⟩ := vals2 r
  have ec := hcv.eq r2
  subst ec
  obtain rfl : u1 = Value.ref a := r1
  obtain ⟨at_a, _⟩ := I.pin (a, oe) (List.mem_append.mpr (.inl List.mem_cons_self))
  obtain ⟨vs, hv⟩ := hf
  have hcl : (PySem.W.clsIn X.K D).isSome = true := by
    obtain ⟨cd, hc, _⟩ := PySem.W.any_some C.hd
    rw [hc]
    rfl
  have fin : ∀ tk, EP (X.suite a ((a, oe) :: pn)) pins σ Q (.bool b) { s with toks := tk } := fun tk => ⟨.bl b, H, I.kept (t' := tk) fun _ _ z => z, rfl, q⟩
  cases d with
  | none => exact PySem.W.kia_one (PySem.W.kitx_exc (od := none) hcl C.hg C.hk C.hs C.ha C.hn C.ht C.hm) I.kIn ⟨at_a, hz.1, by unfold PySem.W.notCls; rw [hv] <;> rfl, by rw [hz.2]; trivial⟩ e nofun fin
  | some dd =>
    obtain ⟨fs, hx⟩ := hdd dd rfl
    obtain ⟨mA, hns, _⟩ := (show ObjOk X.prog X.w H s.heap dd (.xd fs) from I.hok dd _ hx)
    obtain ⟨od, ho, _⟩ := L2.lookIn_ns hns
    exact PySem.W.kia_one (PySem.W.kitx_exc (od := some od) hcl C.hg C.hk C.hs C.ha C.hn C.ht C.hm) I.kIn ⟨at_a, hz.1, by unfold PySem.W.notCls; rw [hv] <;> rfl, by rw [hz.2]; exact ho⟩ e nofun fin
section
variable {X : Cx} {g : Gv} {bs : List B} {nm cx f : Str} {p pos p1 p2 : Pos} {i : Nat} {c0 c' : Str} {fs : List (Str × D)} {cls : Value} {d : Option Addr} {a : Addr} {oe : Obj} {pn : List (Addr × Obj)}
theorem ExIs.cls_eq {K : PySem.W.Frag} {cm : Cm} {F : Hp} (ei : ExIs K cm F cls d c0 fs) : cls = .ref (cm.ad c0) ∧ XF K cm c0 := by
  cases ei with
  | bare x => exact ⟨rfl, x⟩
  | one x no h i => exact ⟨rfl, x⟩
theorem ExIs.dict {K : PySem.W.Frag} {cm : Cm} {F : Hp} (ei : ExIs K cm F cls d c0 fs) : ∀ dd, d = some dd → ∃ fs, F dd = some (.xd fs) := by
  cases ei with
  | bare x => exact fun dd e => nomatch e
  | one x no h i => exact fun dd e => by cases e; exact ⟨_, h⟩
theorem e_isXc {cv : V} {cu : Value} {o : Bool} (ei : ExIs X.K g.cm g.A cls d c0 fs) (hz : Zc cls d oe) (hf : ∃ vs, oe.data = .fields vs) (hcv : ClsV cv cu) (hk : PySem.W.kitOne X.K (.ref (g.cm.ad c0)) cu = some o) (hg : Gl X "isinstance") (hm : X.mg "isinstance" = none) (hbt : bootBuiltins "isinstance" = some (.builtin "isinstance"))
    (hx : PE (X.suite a ((a, oe) :: pn)) (.Name nm p2) (tVar i)) (ht : PE (X.suite a ((a, oe) :: pn)) (.Name cx p1) (tC cv)) (hb : bs[i]? = some (.raw (.ref a)) := by rfl)
    (hs1 : starEach [.Name nm p2, .Name cx p1] X.env = (false, eval (.Name nm p2) X.env) :: starEach [.Name cx p1] X.env := by rfl) (hpl : (backTo pos (starEach [.Name cx p1] X.env)).any (·.1) = false := by rfl) :
    PE (X.suite a ((a, oe) :: pn)) (.Call (.Name "isinstance" p) [.Name nm p2, .Name cx p1] [] pos) (tM X.K g bs (wv (.bl o))) := by
  obtain ⟨ec, xf⟩ := ei.cls_eq
  subst ec
  exact PE.imp (pe_callB (X := X.suite a ((a, oe) :: pn)) (cr_isX xf.is hz hf) hg hm hbt (pa_cons hx (pa_cons ht pa_nil) hs1) (by decide) (by decide) hs1 hpl) fun σ H Q ⟨F, k, s, hm, q⟩ =>
    ⟨.ref a, s.getR hb, fun dd e => by
      obtain ⟨fs, h⟩ := ei.dict dd e
      exact ⟨fs, s.ex _ _ (s.an _ _ h)⟩, cv, cu, o, rfl, hcv, hk, q _ _ F H hm (Stp.refl s.ex) (.bl _)⟩
theorem e_isX (c' : Str) (ei : ExIs X.K g.cm g.A cls d c0 fs) (hz : Zc cls d oe) (hf : ∃ vs, oe.data = .fields vs) (hce : c' ∈ g.cm.exs) (hg : Gl X "isinstance") (hm : X.mg "isinstance" = none) (hbt : bootBuiltins "isinstance" = some (.builtin "isinstance"))
    (hx : PE (X.suite a ((a, oe) :: pn)) (.Name nm p2) (tVar i)) (hgc : Gl X cx) (hmc : X.mg cx = some (.ref (g.cm.ad c'))) (hb : bs[i]? = some (.raw (.ref a)) := by rfl) (hd : (cx == ("__debug__" : Str)) = false := by decide)
    (hs1 : starEach [.Name nm p2, .Name cx p1] X.env = (false, eval (.Name nm p2) X.env) :: starEach [.Name cx p1] X.env := by rfl) (hpl : (backTo pos (starEach [.Name cx p1] X.env)).any (·.1) = false := by rfl) :
    PE (X.suite a ((a, oe) :: pn)) (.Call (.Name "isinstance" p) [.Name nm p2, .Name cx p1] [] pos) (tM X.K g bs (wv (.bl (subX c0 c')))) :=
  e_isXc ei hz hf (.own _) (ei.cls_eq.2.ki c' hce) hg hm hbt hx (pe_glob (X := X.suite a ((a, oe) :: pn)) (v := .ref (g.cm.ad c')) hgc hmc rfl hd) hb hs1 hpl
theorem e_isV (ei : ExIs X.K g.cm g.A cls d c0 fs) (hz : Zc cls d oe) (hf : ∃ vs, oe.data = .fields vs) (hg : Gl X "isinstance") (hm : X.mg "isinstance" = none) (hbt : bootBuiltins "isinstance" = some (.builtin "isinstance"))
    (hx : PE (X.suite a ((a, oe) :: pn)) (.Name nm p2) (tVar i)) (hgc : Gl X "ValueError") (hmc : X.mg "ValueError" = none) (hvc : bootBuiltins "ValueError" = some (.type "ValueError")) (hb : bs[i]? = some (.raw (.ref a)) := by rfl)
    (hs1 : starEach [.Name nm p2, .Name "ValueError" p1] X.env = (false, eval (.Name nm p2) X.env) :: starEach [.Name "ValueError" p1] X.env := by rfl) (hpl : (backTo pos (starEach [.Name "ValueError" p1] X.env)).any (·.1) = false := by rfl) :
    PE (X.suite a ((a, oe) :: pn)) (.Call (.Name "isinstance" p) [.Name nm p2, .Name "ValueError" p1] [] pos) (tM X.K g bs (wv (.bl true))) :=
  e_isXc ei hz hf (.ty "ValueError") ei.cls_eq.2.kv hg hm hbt hx (pe_bltn (X := X.suite a ((a, oe) :: pn)) (v := .ty "ValueError") hgc hmc hvc rfl (by decide) (by decide)) hb hs1 hpl
def oXf (f : Str) (fs : List (Str × D)) (k : D → Prop) : Prop := match fs with
  | [(f', z)] => f' = f ∧ k z
  | _ => False
theorem e_xf (ei : ExIs X.K g.cm g.A cls d c0 fs) (hz : Zc cls d oe) (hf : ∃ vs, oe.data = .fields vs) (hx : PE (X.suite a ((a, oe) :: pn)) (.Name nm p2) (tVar i)) (hb : bs[i]? = some (.raw (.ref a)) := by rfl) (hat : attributeBase (.Name nm p2) f X.env (eval (.Name nm p2) X.env) = eval (.Name nm p2) X.env := by rfl) :
    PE (X.suite a ((a, oe) :: pn)) (.Attribute (.Name nm p2) f pos) (tM X.K g bs (oXf f fs)) := by
  cases ei with
  | bare x => exact ⟨fun pins s σ H Q I ⟨F, k, sa, hm, q⟩ => (show False from hm).elim⟩
  | one x no h iv =>
    rename_i f' dd v z
    by_cases e : f' = f
    · subst e
      exact PE.imp (pe_xf (X := X) (C := g.cm.ad c0) x.fl no hz hf hx hat) fun σ H Q ⟨F, k, s, hm, q⟩ =>
        ⟨.ref a, s.getR hb, rfl, rfl, dd, [(f', v)], v, rfl, s.ex _ _ (s.an _ _ h), by simp [List.lookup], q z v F H hm.2 (Stp.refl s.ex) (iv.mono s.an)⟩
    · exact ⟨fun pins s σ H Q I ⟨F, k, sa, hm, q⟩ => absurd hm.1 e⟩
end
end FE
set_option Elab.async false
set_option linter.all false
set_option maxRecDepth 100000
set_option maxHeartbeats 4000000
/-! A comprehension given to a name; x += e; enumerate, zip, reversed. -/
namespace FE
open PySem L2 PySem.Spec
open Evl (Ex)
theorem tl_tm {K : PySem.W.Frag} {g : Gv} {bs : List B} {mL : (List D → Prop) → Prop} {σ : L2.St} {H : Hp} {Q : VK} (h : tM K g bs (wl mL) σ H Q) : tL K g bs mL σ H Q := by
  obtain ⟨F, k, s, hm, q⟩ := h
  refine ⟨F, fun ds => k (.lst ds), s, hm, fun ds p vs F' H' kd st np fp hp ia => ?_⟩
  refine q (.lst ds) (.ref p) (upd F' p (.lst vs)) H' kd ⟨st.ff.trans (Ex.new fp), fun a u ha => ?_, fun b hb fb => ?_, st.dom, st.kp, fun p hp h => (st.hand p hp h).to (Ex.new fp) fun _ h => h, st.tab, fun n => (st.nt n).upd fun _ z => nomatch z⟩ (.lst upd_same (ia.mono (Ex.new fp)))
  · by_cases c : a = p
    · rw [c, upd_same] at ha
      rw [c, hp]
      exact ha
    · rw [upd_ne c] at ha
      exact st.fh a u ha
  · rw [upd_ne (fun z => hb (by rw [z]; exact np))]
    exact st.own b hb fb
section
variable {X : Cx} {g : Gv} {bs : List B} {n b c : Jn} {r : Rt} {rest : List Stmt} {y : Str} {py spos pos : Pos} {i : Nat} {A : Type} {enc : A → D} {js : List Nat} {ub : A → List B → List B} {elt tg iter : Expr} {ifs : List Expr} {scope : Scope} {own : List (Str × Nat)} {gt : TG} {bw : List B} {mi : (List D → Prop) → Prop} {mc : A → (Bool → Prop) → Prop} {me : A → (D → Prop) → Prop}
theorem s_lcD {ww : Bool} {P : D → Prop} {bs' : D → List B} (hc : X.calm = true) (hN : X.N.Nodup) (hy : X.N[i]? = some y) (hyl : X.env.scope.names.lookup y = some .local) (hsw : swapsWith (.ListComp elt [⟨tg, iter, ifs, 0⟩] scope pos) (some (.Name y py)) spos.line X.env = pure true) (hi : PI X tg iter (tIs X.K g ww bs mi)) (ok : BlkOk X.N X.env.scope scope own) (hT : Tg X.K g ww gt enc js ub) (hj : ∀ j ∈ js, j ∈ own.map (·.2)) (hw : wipeB bs (own.map (·.2)) = bw)
    (hg : ∀ (s : Shared) (H : Hp) (C : Addr) (cl : List (Str × Addr)) (fp : List Addr), PG (X.blk s H scope (compEnvC scope cl C X.env) fp) tg gt)
    (ht : ∀ (a : A) (s : Shared) (H : Hp) (C : Addr) (cl : List (Str × Addr)) (fp : List Addr), PTs (X.blk s H scope (compEnvC scope cl C X.env) fp) ifs (tT X.K g (ub a bw) (mc a)))
    (he : ∀ (a : A) (s : Shared) (H : Hp) (C : Addr) (cl : List (Str × Addr)) (fp : List Addr), PE (X.blk s H scope (compEnvC scope cl C X.env) fp) elt (tM X.K g (ub a bw) (me a)))
    (hr : ∀ d, PSs X rest (tS X.K g (bs' d) n b c r (P d))) (hb : ∀ d, bs.set i (.dat d) = bs' d := by intro _; rfl)
    (hs : ∀ x, foldedSetIterable iter X.env x = pure x := by intro _; rfl) : PSs X (.Assign [.Name y py] (.ListComp elt [⟨tg, iter, ifs, 0⟩] scope pos) spos :: rest) (tS X.K g bs n b c r (wl (wLc enc mi mc me) P)) :=
  cons_of (ps_setLc (g := gt) (tt := fun σ H Q => ∃ a, tT X.K g (ub a bw) (mc a) σ H Q) (te := fun σ H Q => ∃ a, tM X.K g (ub a bw) (me a) σ H Q) hc hN hy hyl hsw hi ok hg (fun s H C cl fp => ⟨fun pins s' σ H' Q I ⟨a, q⟩ => (ht a s H C cl fp).run pins s' σ H' Q I q⟩)
    (fun s H C cl fp => ⟨fun pins s' σ H' Q I ⟨a, q⟩ => (he a s H C cl fp).run pins s' σ H' Q I q⟩) hs) hr fun E σ H ⟨p, ⟨F, sa⟩, q⟩ =>
    lc_rd hT hj hw σ H _ (tl_tm ⟨F, P, sa, p, fun d v F' H' pd s iv => ⟨d, pd, F', by rw [← hb d]; exact (sa.step s).setD iv⟩⟩)
theorem s_lcO {ww : Bool} {P : List D → Prop} {bs' : List D → List B} (hc : X.calm = true) (hN : X.N.Nodup) (hy : X.N[i]? = some y) (hyl : X.env.scope.names.lookup y = some .local) (hsw : swapsWith (.ListComp elt [⟨tg, iter, ifs, 0⟩] scope pos) (some (.Name y py)) spos.line X.env = pure true) (hi : PI X tg iter (tIs X.K g ww bs mi)) (ok : BlkOk X.N X.env.scope scope own) (hT : Tg X.K g ww gt enc js ub) (hj : ∀ j ∈ js, j ∈ own.map (·.2)) (hw : wipeB bs (own.map (·.2)) = bw)
    (hg : ∀ (s : Shared) (H : Hp) (C : Addr) (cl : List (Str × Addr)) (fp : List Addr), PG (X.blk s H scope (compEnvC scope cl C X.env) fp) tg gt)
    (ht : ∀ (a : A) (s : Shared) (H : Hp) (C : Addr) (cl : List (Str × Addr)) (fp : List Addr), PTs (X.blk s H scope (compEnvC scope cl C X.env) fp) ifs (tT X.K g (ub a bw) (mc a)))
    (he : ∀ (a : A) (s : Shared) (H : Hp) (C : Addr) (cl : List (Str × Addr)) (fp : List Addr), PE (X.blk s H scope (compEnvC scope cl C X.env) fp) elt (tM X.K g (ub a bw) (me a)))
    (hr : ∀ d, PSs X rest (tS X.K g (bs' d) n b c r (P d))) (hb : ∀ d, bs.set i (.own d) = bs' d := by intro _; rfl)
    (hs : ∀ x, foldedSetIterable iter X.env x = pure x := by intro _; rfl) : PSs X (.Assign [.Name y py] (.ListComp elt [⟨tg, iter, ifs, 0⟩] scope pos) spos :: rest) (tS X.K g bs n b c r (wLc enc mi mc me P)) :=
  cons_of (ps_setLc (g := gt) (tt := fun σ H Q => ∃ a, tT X.K g (ub a bw) (mc a) σ H Q) (te := fun σ H Q => ∃ a, tM X.K g (ub a bw) (me a) σ H Q) hc hN hy hyl hsw hi ok hg (fun s H C cl fp => ⟨fun pins s' σ H' Q I ⟨a, q⟩ => (ht a s H C cl fp).run pins s' σ H' Q I q⟩)
    (fun s H C cl fp => ⟨fun pins s' σ H' Q I ⟨a, q⟩ => (he a s H C cl fp).run pins s' σ H' Q I q⟩) hs) hr fun E σ H ⟨p, ⟨F, sa⟩, q⟩ =>
    lc_rd hT hj hw σ H _ ⟨F, P, sa, p, fun ds a vs F' H' pd s na fa ha ia => ⟨ds, pd, F', by rw [← hb ds]; exact sa.setO s na fa ha ia⟩⟩
end
end FE
set_option Elab.async false
set_option linter.all false
set_option maxRecDepth 100000
set_option maxHeartbeats 4000000
/-! Arguments counted; repr, join, dicts. -/
namespace FE
open PySem L2 PySem.Spec
open Evl (Ex)
@[reducible] def mkx0 {α : Type} (f : (α → Prop) → Xd → Prop) (ds : List D) (k : α → Prop) (y : Xd) : Prop := match ds with | [] => f  k y | _ => False
theorem mkx0_inv {α : Type} {ds : List D} {k : α → Prop} {y : Xd} {f : (α → Prop) → Xd → Prop} (h : mkx0 f ds k y) : ds = [] ∧ f  k y := by
  unfold mkx0 at h
  split at h
  · exact ⟨rfl, h⟩
  · exact h.elim
theorem mkx0_len {α : Type} {ds : List D} {k : α → Prop} {y : Xd} {f : (α → Prop) → Xd → Prop} (h : mkx0 f ds k y) : ds.length = 0 := by
  obtain ⟨rfl, _⟩ := mkx0_inv h
  rfl
theorem mk0_len {α : Type} {ds : List D} {k : α → Prop} {f : (α → Prop) → Prop} (h : mk0 f ds k) : ds.length = 0 := by
  obtain ⟨rfl, _⟩ := mk0_inv h
  rfl
@[reducible] def mkx1 {α : Type} (f : D → (α → Prop) → Xd → Prop) (ds : List D) (k : α → Prop) (y : Xd) : Prop := match ds with | [a] => f a k y | _ => False
theorem mkx1_inv {α : Type} {ds : List D} {k : α → Prop} {y : Xd} {f : D → (α → Prop) → Xd → Prop} (h : mkx1 f ds k y) : ∃ a, ds = [a] ∧ f a k y := by
  unfold mkx1 at h
  split at h
  · exact ⟨_, rfl, h⟩
  · exact h.elim
theorem mkx1_len {α : Type} {ds : List D} {k : α → Prop} {y : Xd} {f : D → (α → Prop) → Xd → Prop} (h : mkx1 f ds k y) : ds.length = 1 := by
  obtain ⟨_, rfl, _⟩ := mkx1_inv h
  rfl
theorem mk1_len {α : Type} {ds : List D} {k : α → Prop} {f : D → (α → Prop) → Prop} (h : mk1 f ds k) : ds.length = 1 := by
  obtain ⟨_, rfl, _⟩ := mk1_inv h
  rfl
@[reducible] def mkx2 {α : Type} (f : D → D → (α → Prop) → Xd → Prop) (ds : List D) (k : α → Prop) (y : Xd) : Prop := match ds with | [a, b] => f a b k y | _ => False
theorem mkx2_inv {α : Type} {ds : List D} {k : α → Prop} {y : Xd} {f : D → D → (α → Prop) → Xd → Prop} (h : mkx2 f ds k y) : ∃ a b, ds = [a, b] ∧ f a b k y := by
  unfold mkx2 at h
  split at h
  · exact ⟨_, _, rfl, h⟩
  · exact h.elim
theorem mkx2_len {α : Type} {ds : List D} {k : α → Prop} {y : Xd} {f : D → D → (α → Prop) → Xd → Prop} (h : mkx2 f ds k y) : ds.length = 2 := by
  obtain ⟨_, _, rfl, _⟩ := mkx2_inv h
  rfl
theorem mk2_len {α : Type} {ds : List D} {k : α → Prop} {f : D → D → (α → Prop) → Prop} (h : mk2 f ds k) : ds.length = 2 := by
  obtain ⟨_, _, rfl, _⟩ := mk2_inv h
  rfl
@[reducible] def mkx3 {α : Type} (f : D → D → D → (α → Prop) → Xd → Prop) (ds : List D) (k : α → Prop) (y : Xd) : Prop := match ds with | [a, b, c] => f a b c k y | _ => False
theorem mkx3_inv {α : Type} {ds : List D} {k : α → Prop} {y : Xd} {f : D → D → D → (α → Prop) → Xd → Prop} (h : mkx3 f ds k y) : ∃ a b c, ds = [a, b, c] ∧ f a b c k y := by
  unfold mkx3 at h
  split at h
  · exact ⟨_, _, _, rfl, h⟩
  · exact h.elim
theorem mkx3_len {α : Type} {ds : List D} {k : α → Prop} {y : Xd} {f : D → D → D → (α → Prop) → Xd → Prop} (h : mkx3 f ds k y) : ds.length = 3 := by
  obtain ⟨_, _, _, rfl, _⟩ := mkx3_inv h
  rfl
theorem mk3_len {α : Type} {ds : List D} {k : α → Prop} {f : D → D → D → (α → Prop) → Prop} (h : mk3 f ds k) : ds.length = 3 := by
  obtain ⟨_, _, _, rfl, _⟩ := mk3_inv h
  rfl
@[reducible] def mkx4 {α : Type} (f : D → D → D → D → (α → Prop) → Xd → Prop) (ds : List D) (k : α → Prop) (y : Xd) : Prop := match ds with | [a, b, c, d] => f a b c d k y | _ => False
theorem mkx4_inv {α : Type} {ds : List D} {k : α → Prop} {y : Xd} {f : D → D → D → D → (α → Prop) → Xd → Prop} (h : mkx4 f ds k y) : ∃ a b c d, ds = [a, b, c, d] ∧ f a b c d k y := by
  unfold mkx4 at h
  split at h
  · exact ⟨_, _, _, _, rfl, h⟩
  · exact h.elim
theorem mkx4_len {α : Type} {ds : List D} {k : α → Prop} {y : Xd} {f : D → D → D → D → (α → Prop) → Xd → Prop} (h : mkx4 f ds k y) : ds.length = 4 := by
  obtain ⟨_, _, _, _, rfl, _⟩ := mkx4_inv h
  rfl
theorem mk4_len {α : Type} {ds : List D} {k : α → Prop} {f : D → D → D → D → (α → Prop) → Prop} (h : mk4 f ds k) : ds.length = 4 := by
  obtain ⟨_, _, _, _, rfl, _⟩ := mk4_inv h
  rfl
@[reducible] def mkx5 {α : Type} (f : D → D → D → D → D → (α → Prop) → Xd → Prop) (ds : List D) (k : α → Prop) (y : Xd) : Prop := match ds with | [a, b, c, d, e] => f a b c d e k y | _ => False
theorem mkx5_inv {α : Type} {ds : List D} {k : α → Prop} {y : Xd} {f : D → D → D → D → D → (α → Prop) → Xd → Prop} (h : mkx5 f ds k y) : ∃ a b c d e, ds = [a, b, c, d, e] ∧ f a b c d e k y := by
  unfold mkx5 at h
  split at h
  · exact ⟨_, _, _, _, _, rfl, h⟩
  · exact h.elim
theorem mkx5_len {α : Type} {ds : List D} {k : α → Prop} {y : Xd} {f : D → D → D → D → D → (α → Prop) → Xd → Prop} (h : mkx5 f ds k y) : ds.length = 5 := by
  obtain ⟨_, _, _, _, _, rfl, _⟩ := mkx5_inv h
  rfl
theorem mk5_len {α : Type} {ds : List D} {k : α → Prop} {f : D → D → D → D → D → (α → Prop) → Prop} (h : mk5 f ds k) : ds.length = 5 := by
  obtain ⟨_, _, _, _, _, rfl, _⟩ := mk5_inv h
  rfl
@[reducible] def mkx6 {α : Type} (f : D → D → D → D → D → D → (α → Prop) → Xd → Prop) (ds : List D) (k : α → Prop) (y : Xd) : Prop := match ds with | [a, b, c, d, e, x] => f a b c d e x k y | _ => False
theorem mkx6_inv {α : Type} {ds : List D} {k : α → Prop} {y : Xd} {f : D → D → D → D → D → D → (α → Prop) → Xd → Prop} (h : mkx6 f ds k y) : ∃ a b c d e x, ds = [a, b, c, d, e, x] ∧ f a b c d e x k y := by
  unfold mkx6 at h
  split at h
  · exact ⟨_, _, _, _, _, _, rfl, h⟩
  · exact h.elim
theorem mkx6_len {α : Type} {ds : List D} {k : α → Prop} {y : Xd} {f : D → D → D → D → D → D → (α → Prop) → Xd → Prop} (h : mkx6 f ds k y) : ds.length = 6 := by
  obtain ⟨_, _, _, _, _, _, rfl, _⟩ := mkx6_inv h
  rfl
theorem mk6_len {α : Type} {ds : List D} {k : α → Prop} {f : D → D → D → D → D → D → (α → Prop) → Prop} (h : mk6 f ds k) : ds.length = 6 := by
  obtain ⟨_, _, _, _, _, _, rfl, _⟩ := mk6_inv h
  rfl
theorem t_val {X : Cx} {g : Gv} {bs : List B} {e : Expr} {m : (D → Prop) → Prop} (h : PE X e (tR X.K g bs m)) (he : ∀ whole, isTrue e X.env whole = (do let v ← whole; standAt e.pos; holding [v] (truthy v)) := by intro _; rfl) : PT X e (tT X.K g bs (wTb m)) := PT.imp (pt_val h he) fun σ H Q ⟨F, k, s, hm, q⟩ => ⟨F, _, s, hm, fun d v F' H' kd st iv => by
  cases d with
  | bl b => exact ⟨b, iv.bl, q b F' H' kd st⟩
  | _ => exact kd.elim⟩
/-- == and !=: texts by themselves -/
def oEqA : D → D → (D → Prop) → Prop
  | .str a, .str b, k => k (.bl (decide (a = b)))
  | d, e, k => oEq d e k
def oNeA : D → D → (D → Prop) → Prop
  | .str a, .str b, k => k (.bl (!decide (a = b)))
  | d, e, k => oNe d e k
def rEqA (K : PySem.W.Frag) : R2 := fun x y H Q => rEqD K x y H Q ∨ rEq x y H Q
def rNeA (K : PySem.W.Frag) : R2 := fun x y H Q => rNeD K x y H Q ∨ rNe x y H Q
theorem op_eqA {X : Cx} (hu : X.A.units + 64 < cLine) : OpR X (compareOp .Eq) (rEqA X.K) := OpR.or (op_eqD hu) op_eq
theorem op_neA {X : Cx} (hu : X.A.units + 64 < cLine) : OpR X (compareOp .NotEq) (rNeA X.K) := OpR.or (op_neD hu) op_ne
theorem dec_strF {a b : Str} : decide (V.str a = V.str b) = decide (a = b) := by
  by_cases e : a = b
  · rw [e, decide_eq_true rfl, decide_eq_true rfl]
  · rw [decide_eq_false e, decide_eq_false fun z => e (V.str.inj z)]
section
variable {K : PySem.W.Frag} {g : Gv}
theorem d_eqA : R2D K g (rEqA K) oEqA := by
  intro x y d e F H k Q ex hx hy f q
  unfold oEqA at f
  split at f
  · rw [hx.str, hy.str]
    refine .inr ⟨rfl, ?_⟩
    rw [dec_strF]
    exact ret0 ex (.bl _) f q
  · exact .inl (d_eq x y _ _ F H k Q ex hx hy f q)
theorem d_neA : R2D K g (rNeA K) oNeA := by
  intro x y d e F H k Q ex hx hy f q
  unfold oNeA at f
  split at f
  · rw [hx.str, hy.str]
    refine .inr ⟨rfl, ?_⟩
    rw [dec_strF]
    exact ret0 ex (.bl _) f q
  · exact .inl (d_ne x y _ _ F H k Q ex hx hy f q)
end
theorem u65 {A : Around} {k : Nat} (hr : Room k A) : A.units + 65 < cLine := by
  have := hr.un
  omega
theorem u70 {A : Around} {k : Nat} (hr : Room k A) : A.units + 70 < cLine := by
  have := hr.un
  omega
/-! ### repr -/
def oRepr : List D → (D → Prop) → Prop
  | [.tup l], k => ((D.tup l).can 64 = true ∧ (D.tup l).py.showable = true ∧ (D.tup l).py.shown.length ≤ 16000000) ∧ k (.str (D.tup l).py.shown)
  | [.lst l], k => ((D.lst l).can 64 = true ∧ (D.lst l).py.showable = true ∧ (D.lst l).py.shown.length ≤ 16000000) ∧ k (.str (D.lst l).py.shown)
  | _, _ => False
section
variable {K : PySem.W.Frag} {g : Gv} {F H : Hp}
theorem c_repr : RCD K g (KG.rRepr K) oRepr := by
  intro vs ds F H k Q ex iv f q
  unfold oRepr at f
  split at f
  · obtain ⟨v, rfl, h⟩ := iv.one
    obtain ⟨⟨h1, h2, h3⟩, f⟩ := f
    obtain ⟨a, us, rfl, _⟩ := h.tup ex
    exact ⟨a, _, rfl, h.dp ex h1, D.shp h1, h2, Nat.le_trans h3 (by decide), ret0 ex (.str _) f q⟩
  · obtain ⟨v, rfl, h⟩ := iv.one
    obtain ⟨⟨h1, h2, h3⟩, f⟩ := f
    obtain ⟨a, us, rfl, _⟩ := h.lst ex
    exact ⟨a, _, rfl, h.dp ex h1, D.shp h1, h2, Nat.le_trans h3 (by decide), ret0 ex (.str _) f q⟩
  · exact f.elim
end
/-! ### join -/
def oJoin (a : Str) (d : D) (k : D → Prop) : Prop := match d with
  | .lst l => ∃ ys : List Str, l = ys.map D.str ∧ ((ys.map (·.length)).sum + ys.length * a.length ≤ 100000) ∧ k (.str (Txt.join a ys))
  | .tup l => ∃ ys : List Str, l = ys.map D.str ∧ ((ys.map (·.length)).sum + ys.length * a.length ≤ 100000) ∧ k (.str (Txt.join a ys))
  | _ => False
@[reducible] def wJoin (ma mb : (D → Prop) → Prop) : (D → Prop) → Prop := fun k => ma fun a => match a with
  | .str s => mb fun e => oJoin s e k
  | _ => False
section
variable {X : Cx} {g : Gv} {bs : List B} {a b e : Expr} {pos p2 apos cpos : Pos} {ma mb m : (D → Prop) → Prop}
theorem e_join (ha : PE X a (tR X.K g bs ma)) (hb : PE X b (tR X.K g bs mb))
    (hbase : attributeBase a "join" X.env (eval a X.env) = eval a X.env := by rfl)
    (hfew : ((backTo cpos (starEach [b] X.env)).all (fun x => !x.1) && (backToKw cpos (keywordEach [] X.env)).all (fun x => x.1.isSome) && decide ([b].length + ([] : List Keyword).length + (if ([] : List Keyword).isEmpty then 0 else 1) < 30)) = true := by rfl)
    (hline : (apos.endLine == cpos.line) = true := by rfl) (hs : starEach [b] X.env = (false, eval b X.env) :: starEach [] X.env := by rfl) (hplain : (backTo cpos (starEach [] X.env)).any (·.1) = false := by rfl) :
    PE X (.Call (.Attribute a "join" apos) [b] [] cpos) (tM X.K g bs (wJoin ma mb)) :=
  PE.imp (pe_bm PySem.F.plainAttrs_str PySem.F.slot_str_join PySem.F.type_str_join mt_join ha (pa_cons hb pa_nil hs) hbase hfew hline hs hplain) fun σ H Q ⟨F, k, s, hm, q⟩ => by
    refine ⟨F, _, s, hm, fun d v F1 H1 kd st iv => ?_⟩
    cases d with
    | str z =>
      obtain rfl := iv.str
      refine ⟨rfl, F1, _, s.step st, kd, fun e w F2 H2 ke st2 iw => ?_⟩
      cases e with
      | lst l =>
        obtain ⟨ys, rfl, sz, kz⟩ := ke
        obtain ⟨a, us, rfl, ha, ia⟩ := iw.lst st2.fh
        rw [ia.strs_inv] at ha
        exact ⟨z, a, ys, rfl, rfl, .inl (SqL.of ha), by omega, q _ _ F2 H2 kz (st.trans st2) (.str _)⟩
      | tup l =>
        obtain ⟨ys, rfl, sz, kz⟩ := ke
        obtain ⟨a, us, rfl, ha, _, ia⟩ := iw.tup st2.fh
        rw [ia.strs_inv] at ha
        exact ⟨z, a, ys, rfl, rfl, .inr ha, by omega, q _ _ F2 H2 kz (st.trans st2) (.str _)⟩
      | _ => exact (show False from ke).elim
    | _ => exact kd.elim
end
/-! ### dict displays -/
section
variable {X : Cx} {g : Gv} {bs : List B} {e ek : Expr} {pos : Pos} {m : (D → Prop) → Prop}
theorem e_dic0 : PE X (.Dict [] [] pos) (tM X.K g bs (wv (.dic [] []))) := PE.imp pe_dnewK fun σ H Q ⟨F, k, s, hm, q⟩ p np =>
  q _ _ (upd F p (.dK [])) _ hm (Stp.new s.ex np) (.dic upd_same rfl .nil)
theorem e_dic1 {key : Key} (hk : PE X ek (tC (kV key))) (he : PE X e (tM X.K g bs m)) : PE X (.Dict [some ek] [e] pos) (tM X.K g bs (w1 (fun d k => k (.dic [kD key] [d])) m)) :=
  PE.imp (pe_disp (pps_cons hk he pps_nil) rfl rfl (fun z => nomatch z) (Nat.succ_le_succ (Nat.zero_le _))) fun σ H Q ⟨F, k, s, hm, q⟩ p np => by
    have s1 : Stp g.hd g.cm.tb F H F (upd H p (.dK [])) := Stp.newOwn s.ex np
    have nh : ∀ q, g.hd = some q → p ≠ q.1 := fun q hq z => (s.hd q hq).1.some (by rw [← z]; exact np)
    refine ⟨F, _, s.step s1, hm, fun d v F1 H1 kd st iv => ?_⟩
    have h1 := st.kp p _ upd_same (fun _ z => nomatch z) nh
    have f1 : F1 p = none := st.own p (by rw [upd_same]; exact fun z => nomatch z) (Evl.fresh_back s.ex np)
    refine ⟨h1, [(key, v)], rfl, (Nat.succ_le_succ (Nat.zero_le _)), ?_⟩
    have st2 := s1.trans st
    have sn : Stp g.hd g.cm.tb F H (upd F1 p (.dK (mergeK [] [(key, v)]))) (upd H1 p (.dK (mergeK [] [(key, v)]))) := by
      refine ⟨st2.ff.trans (Ex.new f1), fun a u ha => ?_, fun b hb fb => ?_, fun b hb => ?_, fun b u hb nt n => ?_, fun q e h => ?_, fun t => tabs_at (st2.tab t) fun b o hb no => by rw [upd_ne (fun z => by rw [z, h1] at hb; cases hb; exact no.elim)]; exact hb, fun n => (st2.nt n).upd fun _ z => nomatch z⟩
      · by_cases c : a = p
        · subst c
          rw [upd_same] at ha ⊢
          exact ha
        · rw [upd_ne c] at ha ⊢
          exact st2.fh a u ha
      · rw [upd_ne (fun z => hb (by rw [z]; exact np))]
        exact st2.own b hb fb
      · rw [upd_ne (fun z => hb (by rw [z]; exact np))]
        exact st2.dom b hb
      · rw [upd_ne (ne_of_none hb np)]
        exact st2.kp b u hb nt n
      · have nq : q.1 ≠ p := fun z => h.some (by rw [z]; exact np)
        exact (st2.hand q e h).to (Ex.new f1) fun o ho => by rw [upd_ne nq]; exact ho
    exact q _ _ _ _ kd sn (.dic upd_same rfl (.cons (iv.mono (Ex.new f1)) .nil))
end
end FE
set_option Elab.async false
set_option linter.all false
set_option maxRecDepth 100000
set_option maxHeartbeats 4000000
/-! enumerate, zip, reversed; x += e; dict displays. -/
namespace FE
open PySem L2 PySem.Spec PyProof.Rows
open Evl (Ex)
def iEnA (K : PySem.W.Frag) (ta : TA) : TI := fun σ H R => ta σ H fun vs H1 => ∃ a xs, vs = [.ref a] ∧ ((SqL K H1 a xs ∧ R (Ite K a) H1) ∨ (SqT K H1 a xs ∧ R (Rl.Iet K a) H1))
theorem pi_enA {X : Cx} {e : Expr} {ta : TA} {p pos tpos : Pos} {elts : List Expr} {kk : Nat} (hg : Gl X "enumerate") (hm : X.mg "enumerate" = none) (ha : PA X [e] ta) (hs : starEach [e] X.env = [(false, eval e X.env)] := by rfl) :
    PI X (.Tuple elts kk tpos) (.Call (.Name "enumerate" p) [e] [] pos) (iEnA X.K ta) := by
  constructor
  intro pins s0 σ H R I0 hyp
  refine Call_ (ld_blt I0 hg hm boot_enumerate (PyProof.Rows.callWith_type1 (thn (ha.run pos pins s0 σ H _ I0 hyp) ?_) hs rfl))
  rintro us s1 ⟨vs, H1, I1, rv, a, xs, rfl, way⟩
  have two : ∀ b, b ∈ [s1.heap.objs.size + 1, s1.heap.objs.size] → FpOk X pins H1 b := fun b m => by
    have le : s1.heap.objs.size ≤ b := by
      rcases List.mem_cons.mp m with z | z
      · omega
      · rcases List.mem_singleton.mp z with rfl
        exact Nat.le_refl _
    exact I1.fpOk le (I1.hok.fresh le)
  cases rv with
  | cons r rr =>
    cases rr
    cases r
    rcases way with ⟨sq, k⟩ | ⟨sq, k⟩
    · obtain ⟨its, _, at_a, _⟩ := I1.list sq
      exact call_enumerate_list at_a.isList fun g en li _ kp => wpAny_pyIter_enum en ⟨_, _, _, _, H1, rfl, I1.kept (t' := s1.toks) kp, turn_enum a _ _, ⟨⟨.none, en⟩, li, Nat.succ_ne_self _⟩, two, k⟩
    · obtain ⟨its, _, at_a, _⟩ := I1.tuple sq
      exact Rl.call_enT (show s1.heap.IsTuple a its.toArray from at_a) fun g en li _ kp => wpAny_pyIter_enum en ⟨_, _, _, _, H1, rfl, I1.kept (t' := s1.toks) kp, Rl.turn_enT a _ _, ⟨⟨.none, en⟩, li, Nat.succ_ne_self _⟩, two, k⟩
def oEnu (d : D) (k : List D → Prop) : Prop := match d with
  | .lst l => k (enD 0 l)
  | .tup l => k (enD 0 l)
  | _ => False
@[reducible] def wEnu (m : (D → Prop) → Prop) : (List D → Prop) → Prop := fun k => m fun d => oEnu d k
def oZip (d e : D) (k : List D → Prop) : Prop := match d, e with
  | .lst l, .lst r => k (zipD l r)
  | .tup l, .tup r => k (zipD l r)
  | _, _ => False
@[reducible] def wZip (m m' : (D → Prop) → Prop) : (List D → Prop) → Prop := fun k => m fun d => m' fun e => oZip d e k
def oRevI (d : D) (k : List D → Prop) : Prop := match d with
  | .lst l => k l.reverse
  | .tup l => k l.reverse
  | _ => False
@[reducible] def wRevI (m : (D → Prop) → Prop) : (List D → Prop) → Prop := fun k => m fun d => oRevI d k
section
variable {K : PySem.W.Frag} {g : Gv}
theorem pair_y {F : Hp} {items : List D} {fa fb : Nat → Option V} {C : Hp → Hp → Prop} (hC : ∀ F2 H2, C F2 H2 → Ex F F2) {i : Nat} {H2 H' F2 : Hp} {x : V} (hi : ∀ F2, Ex F F2 → ∀ u v, fa i = some u → fb i = some v → ∃ d e, items[i]? = some (.tup [d, e]) ∧ Is K g.cm F2 u d ∧ Is K g.cm F2 v e) (c : C F2 H2) (ex : Ex F2 H2) (y : YPair fa fb i H2 x H') :
    ∃ F' d, items[i]? = some d ∧ Stp g.hd g.cm.tb F2 H2 F' H' ∧ IsY K g.cm F' true x d := by
  obtain ⟨T, u, v, ev, nT, eH, hu, hv⟩ := y
  obtain ⟨d, e, hd, iu, iv⟩ := hi F2 (hC _ _ c) u v hu hv
  obtain ⟨F', st, iz⟩ := new_pair (g := g) ex iu iv ev nT eH
  exact ⟨F', _, hd, st, iz⟩
end
section
variable {X : Cx} {g : Gv} {bs : List B} {a b e : Expr} {elts : List Expr} {p pos tpos : Pos} {kk : Nat} {m ma mb : (D → Prop) → Prop}
theorem i_enu (hg : Gl X "enumerate") (hm : X.mg "enumerate" = none) (he : PE X e (tM X.K g bs m)) (hs : starEach [e] X.env = [(false, eval e X.env)] := by rfl) (hs1 : starEach [e] X.env = (false, eval e X.env) :: starEach [] X.env := by rfl) :
    PI X (.Tuple elts kk tpos) (.Call (.Name "enumerate" p) [e] [] pos) (tI X.K g true bs (wEnu m)) := PI.imp (pi_enA hg hm (pa_cons he pa_nil hs1) hs) fun σ H R ⟨F, k, s, hm, q⟩ => by
  refine ⟨F, _, s, hm, fun d v F1 H1 kd st iv => ?_⟩
  have key : ∀ (vs : List V) (l : List D), IsAll X.K g.cm F1 vs l → ∀ i, i < l.length → ∀ F2, Ex F1 F2 → ∀ u v, some (V.int (i : Nat)) = some u → vs[i]? = some v → ∃ d e, (enD 0 l)[i]? = some (.tup [d, e]) ∧ Is X.K g.cm F2 u d ∧ Is X.K g.cm F2 v e := by
    intro vs l ia i hi F2 e12 u v hu hv
    obtain rfl := Option.some.inj hu
    obtain ⟨d, hd, id⟩ := ia.getV hv
    refine ⟨_, d, enD_get hd, ?_, id.mono e12⟩
    rw [Nat.zero_add]
    exact .int _
  cases d with
  | lst l =>
    cases iv with
    | lst h ia =>
      rename_i a vs
      refine ⟨a, vs, rfl, .inl ⟨SqL.of (st.fh _ _ h), q _ _ F1 H1 kd st ⟨fun H => SqL X.K H a vs, YPair (fun i => some (.int (i : Nat))) (fun i => vs[i]?), ?_, fun F2 H2 c ex => SqL.of (ex _ _ (c _ _ h)), fun i H2 x H' F2 c ex hi y => pair_y (g := g) (fa := fun i => some (.int (i : Nat))) (fb := fun i => vs[i]?) (F := F1) (C := fun F2 _ => Ex F1 F2) (fun _ _ z => z) (key vs l ia i (by rw [enD_len] at hi; exact hi)) c ex y⟩⟩⟩
      rw [enD_len, ← ia.len]
      exact walk_enum
  | tup l =>
    cases iv with
    | tup h ia =>
      rename_i a vs
      refine ⟨a, vs, rfl, .inr ⟨Evl.ex_t st.fh h.sq, q _ _ F1 H1 kd st ⟨fun H => SqT X.K H a vs, YPair (fun i => some (.int (i : Nat))) (fun i => vs[i]?), ?_, fun F2 H2 c ex => Evl.ex_t ex (Evl.ex_t c h.sq), fun i H2 x H' F2 c ex hi y => pair_y (g := g) (fa := fun i => some (.int (i : Nat))) (fb := fun i => vs[i]?) (F := F1) (C := fun F2 _ => Ex F1 F2) (fun _ _ z => z) (key vs l ia i (by rw [enD_len] at hi; exact hi)) c ex y⟩⟩⟩
      rw [enD_len, ← ia.len]
      exact Rl.walk_enT
  | _ => exact kd.elim
theorem zip_key {K : PySem.W.Frag} {F1 : Hp} {vs ws : List V} {l r : List D} (ia : IsAll K g.cm F1 vs l) (ib : IsAll K g.cm F1 ws r) : ∀ (i : Nat) (F2 : Hp), Ex F1 F2 → ∀ u v : V, vs[i]? = some u → ws[i]? = some v → ∃ d e : D, (zipD l r)[i]? = some (D.tup [d, e]) ∧ Is K g.cm F2 u d ∧ Is K g.cm F2 v e := by
  intro i F2 e12 u v hu hv
  obtain ⟨d, hd, id⟩ := ia.getV hu
  obtain ⟨e, he, ie⟩ := ib.getV hv
  exact ⟨d, e, zipD_get hd he, id.mono e12, ie.mono e12⟩
theorem i_zip (hg : Gl X "zip") (hm : X.mg "zip" = none) (ha : PE X a (tM X.K g bs ma)) (hb : PE X b (tM X.K g bs mb)) (hs1 : starEach [a, b] X.env = (false, eval a X.env) :: starEach [b] X.env := by rfl) (hs2 : starEach [b] X.env = (false, eval b X.env) :: starEach [] X.env := by rfl) (hpl : (backTo pos (starEach [b] X.env)).any (·.1) = false := by rfl) :
    PI X (.Tuple elts kk tpos) (.Call (.Name "zip" p) [a, b] [] pos) (tI X.K g true bs (wZip ma mb)) := PI.imp (RZ.pi_zipA hg hm (pa_cons ha (pa_cons hb pa_nil hs2) hs1) hs1 hpl) fun σ H R ⟨F, k, s, hm, q⟩ => by
  refine ⟨F, _, s, hm, fun d v F0 H0 kd st0 iv0 => ⟨F0, _, s.step st0, kd, fun e w F1 H1 ke st iw => ?_⟩⟩
  have iv := iv0.mono st.ff
  cases d with
  | lst l =>
    cases e with
    | lst r =>
      cases iv with
      | lst h ia =>
        rename_i pa vs
        cases iw with
        | lst h' ib =>
          rename_i pb ws
          have la := ia.len
          have lb := ib.len
          refine ⟨pa, pb, vs, ws, rfl, .inl ⟨SqL.of (st.fh _ _ h), SqL.of (st.fh _ _ h'), q _ _ F1 H1 ke (st0.trans st) ⟨fun H => SqL X.K H pa vs ∧ SqL X.K H pb ws, YPair (fun i => vs[i]?) (fun i => ws[i]?), walk_zip (by rw [zipD_len, la, lb]), fun F2 H2 c ex => ⟨SqL.of (ex _ _ (c _ _ h)), SqL.of (ex _ _ (c _ _ h'))⟩, fun i H2 x H' F2 c ex hi y => pair_y (g := g) (fa := fun i => vs[i]?) (fb := fun i => ws[i]?) (F := F1) (C := fun F2 _ => Ex F1 F2) (fun _ _ z => z) (zip_key ia ib i) c ex y⟩⟩⟩
    | _ => exact ke.elim
  | tup l =>
    cases e with
    | tup r =>
      cases iv with
      | tup h ia =>
        rename_i pa vs
        cases iw with
        | tup h' ib =>
          rename_i pb ws
          have la := ia.len
          have lb := ib.len
          refine ⟨pa, pb, vs, ws, rfl, .inr ⟨Evl.ex_t st.fh h.sq, Evl.ex_t st.fh h'.sq, q _ _ F1 H1 ke (st0.trans st) ⟨fun H => SqT X.K H pa vs ∧ SqT X.K H pb ws, YPair (fun i => vs[i]?) (fun i => ws[i]?), ?_, fun F2 H2 c ex => ⟨Evl.ex_t ex (Evl.ex_t c h.sq), Evl.ex_t ex (Evl.ex_t c h'.sq)⟩, fun i H2 x H' F2 c ex hi y => pair_y (g := g) (fa := fun i => vs[i]?) (fb := fun i => ws[i]?) (F := F1) (C := fun F2 _ => Ex F1 F2) (fun _ _ z => z) (zip_key ia ib i) c ex y⟩⟩⟩
          have hn : (zipD l r).length = min vs.length ws.length := by rw [zipD_len, la, lb]
          refine ⟨fun i _ hi z => ?_, fun _ z => ⟨vs, ws, z.1, z.2, by omega⟩, fun i H v H' _ z y => ?_⟩
          · have h1 : i < vs.length := by omega
            have h2 : i < ws.length := by omega
            exact ⟨vs, ws, vs[i], ws[i], z.1, z.2, List.getElem?_eq_getElem h1, List.getElem?_eq_getElem h2⟩
          · obtain ⟨T, x, u, y1, y2, y3, y4, y5⟩ := y
            exact ⟨T, x, u, y1, y2, y3, y4 vs z.1, y5 ws z.2⟩
    | _ => exact ke.elim
  | _ => exact (show False from ke).elim
theorem rev_get {α : Type} {l : List α} {i : Nat} {x : α} (h : l[l.length - 1 - i]? = some x) (hi : i < l.length) : l.reverse[i]? = some x := by
  rw [List.getElem?_reverse hi]
  exact h
theorem i_rev {tg : Expr} (hg : Gl X "reversed") (hm : X.mg "reversed" = none) (he : PE X e (tM X.K g bs m)) (hs : starEach [e] X.env = (false, eval e X.env) :: starEach [] X.env := by rfl) :
    PI X tg (.Call (.Name "reversed" p) [e] [] pos) (tI X.K g false bs (wRevI m)) := PI.imp (RT.pi_revA hg hm he hs) fun σ H R ⟨F, k, s, hm, q⟩ => by
  refine ⟨F, _, s, hm, fun d v F1 H1 kd st iv => ?_⟩
  have fin : ∀ {vs : List V} {l : List D}, IsAll X.K g.cm F1 vs l → ∀ {i : Nat} {H2 H' F2 : Hp} {x : V}, Ex F1 F2 → Ex F2 H2 → i < l.reverse.length → (H' = H2 ∧ vs[vs.length - 1 - i]? = some x) → ∃ F' d, l.reverse[i]? = some d ∧ Stp g.hd g.cm.tb F2 H2 F' H' ∧ IsY X.K g.cm F' false x d := by
    intro vs l ia i H2 H' F2 x c ex hi y
    obtain ⟨rfl, hx⟩ := y
    obtain ⟨d, hd, id⟩ := (ia.mono c).getV hx
    rw [List.length_reverse] at hi
    rw [ia.len] at hd
    exact ⟨F2, d, rev_get hd hi, Stp.refl ex, .inl id⟩
  cases d with
  | lst l =>
    cases iv with
    | lst h ia =>
      rename_i a vs
      refine ⟨a, vs, rfl, .inl ⟨SqL.of (st.fh _ _ h), q _ _ F1 H1 kd st ⟨fun H => SqL X.K H a vs, fun i H x H' => H' = H ∧ vs[vs.length - 1 - i]? = some x, ?_, fun F2 H2 c ex => SqL.of (ex _ _ (c _ _ h)), fun i H2 x H' F2 c ex hi y => fin ia c ex hi y⟩⟩⟩
      rw [List.length_reverse, ← ia.len]
      exact walk_rev
  | tup l =>
    cases iv with
    | tup h ia =>
      rename_i a vs
      refine ⟨a, vs, rfl, .inr ⟨Evl.ex_t st.fh h.sq, q _ _ F1 H1 kd st ⟨fun H => SqT X.K H a vs, fun i H x H' => H' = H ∧ vs[vs.length - 1 - i]? = some x, ?_, fun F2 H2 c ex => Evl.ex_t ex (Evl.ex_t c h.sq), fun i H2 x H' F2 c ex hi y => fin ia c ex hi y⟩⟩⟩
      rw [List.length_reverse, ← ia.len]
      refine ⟨fun i _ hi z => ⟨hi, vs, vs[vs.length - 1 - i]'(by omega), z, List.getElem?_eq_getElem _⟩, fun _ _ => Nat.le_refl _, fun i H v H' _ z y => ⟨y.1, y.2 vs z⟩⟩
  | _ => exact kd.elim
end
/-! ### x += e, ints -/
def oAddI : D → D → (D → Prop) → Prop
  | .int a, .int b, k => k (.int (a + b))
  | _, _, _ => False
def oMulI : D → D → (D → Prop) → Prop
  | .int a, .int b, k => CMul a b ∧ k (.int (a * b))
  | _, _, _ => False
section
variable {K : PySem.W.Frag} {g : Gv}
theorem d_add0 : R2D K g (rI0 fun i j => .int (i + j)) oAddI := by
  intro x y d e F H k Q ex rx ry f q
  unfold oAddI at f
  split at f
  · exact ⟨_, _, rx.int, ry.int, ret0 ex (.int _) f q⟩
  · exact f.elim
theorem d_mulI : R2D K g (rI CMul fun i j => .int (i * j)) oMulI := by
  intro x y d e F H k Q ex rx ry f q
  unfold oMulI at f
  split at f
  · exact ⟨_, _, rx.int, ry.int, f.1, ret0 ex (.int _) f.2 q⟩
  · exact f.elim
end
section
variable {X : Cx} {g : Gv} {bs : List B} {n b c : Jn} {r : Rt} {rest : List Stmt} {e : Expr} {x : Str} {pos pos' : Pos} {m : (D → Prop) → Prop} {i : Nat}
theorem s_aug {op : Operator} {rr : R2} {f : D → D → (D → Prop) → Prop} {d0 : D} {P : D → Prop} {bs' : D → List B} (hN : X.N.Nodup) (hi : X.N[i]? = some x) (hx : Loc X.env.scope x) (he : PE X e (tR X.K g bs m)) (ho : OpR X (inplaceOp op) rr) (hd : R2D X.K g rr f) (hr : ∀ d, PSs X rest (tS X.K g (bs' d) n b c r (P d))) (hb0 : bs[i]? = some (.dat d0) := by rfl) (hb : ∀ d, bs.set i (.dat d) = bs' d := by intro _; rfl)
    (hf : X.fn x = true ∨ X.env.scope.names.lookup x = some .local := by first | exact .inl rfl | exact .inr rfl) : PSs X (.AugAssign (.Name x pos') op e pos :: rest) (tS X.K g bs n b c r (m fun z => f d0 z P)) :=
  cons_of (ps_aug hN hi hx he ho hf) hr fun E σ H ⟨p, ⟨F, sa⟩, q⟩ => by
    obtain ⟨v, hv, iv⟩ := sa.getD hb0
    refine ⟨v, hv, F, _, sa, p, fun z w F1 H1 kz st iw => ?_⟩
    exact hd v w d0 z F1 H1 P _ st.fh (.is (iv.mono st.ff)) iw kz fun z' u F2 H2 kz' st2 iu => ⟨z', kz', F2, by rw [← hb z']; exact (sa.step (st.trans st2)).setD iu⟩
end
end FE
set_option Elab.async false
set_option linter.all false
set_option maxRecDepth 100000
set_option maxHeartbeats 4000000
/-! Classes of the program: __init__ that judges and writes two fields; making. -/
namespace FE
open PySem L2 PySem.Spec PyProof.Rows
open Evl (Ex)
section
variable {X : Cx} {CX : CXT} {k : Nat} {f C : Addr} {fd : FuncData} {ps : List Str} {sp : Sp} {E : L2.St → XK} {x : Str} {p pos : Pos} {e : Expr} {es : List Expr} {t : TA}
theorem pe_makeC (hgd : X.A.guards = some []) (M : Mk X.K C f) (F : FnC X.prog X.w X.K X.mg X.base CX k f fd ps sp) (hr : Room (k + 1) X.A) (hg : Gl X x) (hm : X.mg x = some (.ref C)) (hb : Binds X.K fd ps []) (hx : ∀ pins σ H (s : Shared) e s' a dx, Inv X pins σ (upd (upd H dx (.own a)) a (.ins C dx [])) s → CX X.stack (upd (upd H dx (.own a)) a (.ins C dx [])) s (E σ) e s' → X.xe e s')
    (ha : PA X (e :: es) t) (hdb : (x == ("__debug__" : Str)) = false := by decide) (he : starEach (e :: es) X.env = (false, eval e X.env) :: starEach es X.env := by rfl) (hpl : (backTo pos (starEach es X.env)).any (·.1) = false := by rfl) :
    PE X (.Call (.Name x p) (e :: es) [] pos) (fun σ H Q => t σ H fun vs H1 => ∀ a dx, H1 a = none → H1 dx = none → dx ≠ a → sp (.ref a :: vs) (upd (upd H1 dx (.own a)) a (.ins C dx [])) (fun v H2 => v = .non ∧ Q (.ref a) H2) (E σ)) := by
  refine ⟨fun pins s σ H Q I hyp => wpAny_Call_Name_kw (ld_glob I hg hm ?_ hdb)⟩
  refine PySem.W.callWith_K (h₀ := X.base) I.ok.mod.kin M.kp (thn (ha.run pos pins s σ H _ I hyp) ?_) he hpl
  rintro us s1 ⟨vs, H1, I1, rv, q⟩
  refine ⟨I1.kIn, ?_⟩
  have want := q (s1.heap.objs.size + 1) s1.heap.objs.size (I1.hok.fresh (Nat.le_succ _)) (I1.hok.fresh (Nat.le_refl _)) (Nat.ne_of_lt (Nat.lt_succ_self _))
  have I2 := Inv.made (C := C) I1
  have rv2 : Vals (V.ref (s1.heap.objs.size + 1) :: vs) (Value.ref (s1.heap.objs.size + 1) :: us) := .cons rfl rv
  have many : (Value.ref (s1.heap.objs.size + 1) :: us).length = ps.length := rv2.length.symm.trans (F.many _ _ _ _ want)
  have bind := hb _ (Value.ref (s1.heap.objs.size + 1) :: us) I2.kIn (by rw [List.append_nil]; exact many)
  rw [List.append_nil] at bind
  refine wpAny_call (make_map (f := f) I1.kIn M.makes M.init (beq_iff_eq.mp M.fn) (codeAny_mono (F.go _ X.stack _ _ ⟨_, []⟩ _ _ _ (E σ) hgd (hr.make C us []) (I2.env0.make C us []) bind rv2 want) ?_))
  intro r s2 z
  match r, z with
  | .error er, z => exact hx pins σ _ _ er s2 _ _ I2 z
  | .ok (.ret u), z =>
    obtain ⟨v, H2, I3, ru, ev, q2⟩ := I2.after z
    cases ev
    exact ⟨ru, V.ref (s1.heap.objs.size + 1), H2, I3, rfl, q2⟩
  | .ok .next, z => exact False.elim z
  | .ok .brk, z => exact False.elim z
  | .ok .cont, z => exact False.elim z
end
theorem e_vb {X : Cx} {g : Gv} {bs : List B} {i : Nat} {x : Str} {pos : Pos} {v : V} {d : D} (h : PE X (.Name x pos) (tVar i)) (hb : bs[i]? = some (.bth v d) := by rfl) : PE X (.Name x pos) (tM X.K g bs (wv d)) := PE.imp h fun σ H Q ⟨F, k, s, hm, q⟩ => by
  obtain ⟨os, sl, _⟩ := s.sl
  obtain ⟨h1, h2⟩ := sl.getB hb
  exact ⟨v, h1, q d v F H hm (Stp.refl s.ex) h2⟩
/-! ### __init__ that writes two fields -/
def spI (K : PySem.W.Frag) (cm : Cm) (cn f1 f2 : Str) (m : D → D → Prop → Xd → Prop) : Sp := fun vs H Q E => ∃ (Hb F : Hp) (a dx : Addr) (v1 v2 : V) (d1 d2 : D) (P : Prop) (y : Xd), vs = [.ref a, v1, v2] ∧ Ex F Hb ∧ (LamX.Tabs cm.tb Hb ∧ NoT F) ∧ Hb a = none ∧ Hb dx = none ∧ dx ≠ a ∧ H = upd (upd Hb dx (.own a)) a (.ins (cm.ad cn) dx []) ∧
  Is K cm F v1 d1 ∧ Is K cm F v2 d2 ∧ m d1 d2 P y ∧ (∀ F' H', P → Stp none cm.tb F Hb F' H' → Is K cm F' (.ref a) (.obj cn [f1, f2] [d1, d2]) → Q .non H') ∧ ∀ c fs cls d F' H', y c fs → Stp none cm.tb F Hb F' H' → ExIs K cm F' cls d c fs → E cls d H'
@[reducible] def bsI (cn : Str) (a : Addr) (v1 v2 : V) (d1 d2 : D) (n : Nat) : List B := .bth (.ref a) (.obj cn [] []) :: .bth v1 d1 :: .bth v2 d2 :: anyB n
@[reducible] def endI (cn f1 f2 : Str) (a : Addr) (d1 d2 : D) (n : Nat) (P : Prop) : Jn := ⟨Unit, fun _ => .bth (.ref a) (.obj cn [f1, f2] [d1, d2]) :: anyB n, fun _ => P⟩
section
variable {X : Cx} {g : Gv} {n : Nat} {b c : Jn} {r : Rt} {P : Prop} {a : Addr} {v1 v2 : V} {d1 d2 : D} {cn f1 f2 x0 x1 x2 : Str} {p1 p2 p3 p4 p5 p6 p7 p8 : Pos}
theorem anyB_of {K : PySem.W.Frag} {F H : Hp} : ∀ {os : List Addr} {σ : L2.St} {bs : List B}, Sl K g F H os σ bs → ∀ {F' H' : Hp}, Sl K g F' H' [] σ (anyB bs.length)
  | _, _, _, .nil, _, _ => .nil
  | _, _, _, .any q, _, _ => .any (anyB_of q)
  | _, _, _, .dat _ q, _, _ => .any (anyB_of q)
  | _, _, _, .own _ _ _ _ _ q, _, _ => .any (anyB_of q)
  | _, _, _, .oo _ _ _ _ _ q, _, _ => .any (anyB_of q)
  | _, _, _, .hand _ q, _, _ => .any (anyB_of q)
  | _, _, _, .raw q, _, _ => .any (anyB_of q)
  | _, _, _, .bth _ q, _, _ => .any (anyB_of q)
theorem s_fld2 (hself : PE X (.Name x0 p1) (tVar 0)) (hself2 : PE X (.Name x0 p5) (tVar 0)) (h1 : PE X (.Name x1 p3) (tVar 1)) (h2 : PE X (.Name x2 p7) (tVar 2)) (n1 : NoAttr X.K (g.cm.ad cn) f1) (n2 : NoAttr X.K (g.cm.ad cn) f2) (ne : f1 ≠ f2)
    (i1 : Is X.K g.cm g.F0 v1 d1) (i2 : Is X.K g.cm g.F0 v2 d2) (na : g.F0 a = none) (nh : g.H0 a = none) (nd : g.hd = none) (hA : g.A = g.F0)
    (hs1 : swapsWith (.Name x1 p3) (some (.Attribute (.Name x0 p1) f1 p2)) p4.line X.env = pure false := by rfl) (hs2 : swapsWith (.Name x2 p7) (some (.Attribute (.Name x0 p5) f2 p6)) p8.line X.env = pure false := by rfl) :
    PSs X [.Assign [.Attribute (.Name x0 p1) f1 p2] (.Name x1 p3) p4, .Assign [.Attribute (.Name x0 p5) f2 p6] (.Name x2 p7) p8] (tS X.K g (bsI cn a v1 v2 d1 d2 n) (endI cn f1 f2 a d1 d2 (2 + n) P) b c r P) :=
  PSs.imp (pss_cons (ps_fld hself h1 hs1) (pss_one (ps_fld hself2 h2 hs2))) fun E σ H ⟨p, ⟨F, sa⟩, hn, _⟩ => by
    obtain ⟨os, sl, no⟩ := sa.sl
    cases sl with
    | bth h0 q0 =>
      cases q0 with
      | bth j1 q1 =>
        cases q1 with
        | bth j2 q2 =>
          rename_i σ'
          cases h0 with
          | obj hF cf hns q =>
            rename_i dx fs
            have e0 : fs = [] := by
              cases fs with
              | nil => rfl
              | cons p l => simp at hns
            subst e0
            have ha : H a = some (.ins (g.cm.ad cn) dx []) := sa.ex _ _ hF
            refine ⟨v1, rfl, .ref a, rfl, a, _, dx, [], rfl, ha, cf.cl, n1, by decide, v2, rfl, .ref a, rfl, a, _, dx, _, rfl, upd_same, cf.cl, n2, ?_, ?_⟩
            · exact Nat.lt_of_le_of_lt (Nat.le_refl 1) (by decide)
            have ef : putF f2 v2 (putF f1 v1 []) = [(f1, v1), (f2, v2)] := by
              simp [putF, ne, Ne.symm ne]
            rw [ef]
            have eH : upd (upd H a (.ins (g.cm.ad cn) dx (putF f1 v1 []))) a (.ins (g.cm.ad cn) dx [(f1, v1), (f2, v2)]) = upd H a (.ins (g.cm.ad cn) dx [(f1, v1), (f2, v2)]) := by
              funext z
              by_cases e : z = a
              · rw [e, upd_same, upd_same]
              · rw [upd_ne e, upd_ne e, upd_ne e]
            rw [eH]
            have fF : Ex g.F0 (upd g.F0 a (.ins (g.cm.ad cn) dx [(f1, v1), (f2, v2)])) := Ex.new na
            have nb : ∀ {b : Addr} {o : HO}, g.F0 b = some o → b ≠ a := fun {b o} h e => by rw [e, na] at h; cases h
            have tabU : ∀ {T : List (Addr × Str)}, LamX.Tabs T H → LamX.Tabs T (upd H a (.ins (g.cm.ad cn) dx [(f1, v1), (f2, v2)])) := fun {T} t => tabs_at t fun b o hb no => by rw [upd_ne (fun z => by rw [z, ha] at hb; cases hb; exact no.elim)]; exact hb
            have nb' : ∀ {b : Addr}, g.H0 b ≠ none → b ≠ a := fun {b} h e => h (by rw [e]; exact nh)
            refine hn () _ (upd g.F0 a (.ins (g.cm.ad cn) dx [(f1, v1), (f2, v2)])) _ ⟨fun z u hz => ?_, fun q hq => (by rw [nd] at hq; cases hq), ⟨fF, fun z u hz => ?_, fun z hz fz => ?_, fun z hz => ?_, fun z u hz nt _ => ?_, fun q hq => (by rw [nd] at hq; cases hq), fun t => tabU (sa.st.tab t), fun n => n.upd fun _ z => nomatch z⟩, ⟨[], ?_, fun z hz => nomatch hz⟩, by rw [hA]; exact fF, tabU sa.tb, (sa.nt.back sa.st.ff).upd fun _ z => nomatch z⟩ p
            · by_cases e : z = a
              · subst e
                rw [upd_same] at hz ⊢
                exact hz
              · rw [upd_ne e] at hz ⊢
                exact sa.ex _ _ (sa.st.ff _ _ hz)
            · by_cases e : z = a
              · subst e
                rw [upd_same] at hz ⊢
                exact hz
              · rw [upd_ne e] at hz ⊢
                exact sa.ex _ _ (sa.st.ff _ _ hz)
            · rw [upd_ne (nb' hz)]
              exact fz
            · rw [upd_ne (nb' hz)]
              exact sa.st.dom z hz
            · rw [upd_ne (nb' (by rw [hz]; exact fun w => nomatch w))]
              exact sa.st.kp z u hz nt fun p e => by rw [nd] at e; cases e
            · refine .bth (.obj upd_same cf rfl (.cons (i1.mono fF) (.cons (i2.mono fF) .nil))) ?_
              have l2 := q2.len
              have e2 : (anyB n).length = n := List.length_replicate ..
              have := anyB_of q2 (F' := upd g.F0 a (.ins (g.cm.ad cn) dx [(f1, v1), (f2, v2)])) (H' := upd H a (.ins (g.cm.ad cn) dx [(f1, v1), (f2, v2)]))
              rw [e2] at this
              rw [show 2 + n = n + 1 + 1 by omega]
              exact .any (.any this)
end
section
variable {P : Program} {w : World} {K : PySem.W.Frag} {mg : Str → Option Value} {base : Heap} {x qual : Str} {st : Stmt} {fa : Addr} {fd : FuncData} {N ps : List Str} {lv : Nat} {cm : Cm} {cn f1 f2 : Str}
theorem def_I {m : D → D → Prop → Xd → Prop} (Fn : Fun K x qual st fa fd) (S : FnScope N ps (defScope st)) (hps : ps.length = 3) (cf : CF K cm cn) (hN : 3 ≤ N.length)
    (body : ∀ (cdv : Value) (A : Around) (out : List Env) (s : Shared) (H : Hp) (E : XK), A.guards = some [] → Room lv (A.deeper (envOfC qual (defScope st) s.heap.objs.size fa cdv)) → ∀ (g : Gv) (a : Addr) (v1 v2 : V) (d1 d2 : D) (Pk : Prop) (y : Xd), g.cm = cm → m d1 d2 Pk y → Is K g.cm g.F0 v1 d1 → Is K g.cm g.F0 v2 d2 → g.F0 a = none → g.H0 a = none → g.hd = none → g.A = g.F0 →
      Am (cxOf (L2.CX P w) P w K mg base N qual (defScope st) fa cdv A out s H E) g (anyB N.length) y (fun cls d _ H => E cls d H) →
      ∃ Pr, Pr ∧ PSs (cxOf (L2.CX P w) P w K mg base N qual (defScope st) fa cdv A out s H E) (defBody st) (tS K g (bsI cn a v1 v2 d1 d2 (N.length - 3)) (endI cn f1 f2 a d1 d2 (2 + (N.length - 3)) Pk) Jn.no Jn.no ⟨fun _ => False, fun _ => False⟩ Pr)) : FnC P w K mg base (L2.CX P w) (lv + 1) fa fd ps (spI K cm cn f1 f2 m) := by
  refine okC Fn S (fun vs H Q E h => ?_) (fun cdv A out s H vs Q E hgd hr h => ?_)
  · obtain ⟨Hb, F, a, dx, v1, v2, d1, d2, Pk, y, rfl, _⟩ := h
    exact hps.symm
  · obtain ⟨Hb, F, a, dx, v1, v2, d1, d2, Pk, y, rfl, e, tn, na, nd, ne, eH, i1, i2, hm, q, qx⟩ := h
    have fa' : F a = none := Evl.fresh_back e na
    have fd' : F dx = none := Evl.fresh_back e nd
    have xH : Ex Hb H := fun z u hz => by rw [eH, upd_ne (ne_of_none hz na), upd_ne (ne_of_none hz nd)]; exact hz
    have aH : H a = some (.ins (cm.ad cn) dx []) := by rw [eH, upd_same]
    have am : Am (cxOf (L2.CX P w) P w K mg base N qual (defScope st) fa cdv A out s H E) ⟨cm, none, F, Hb, F⟩ (anyB N.length) y (fun cls d _ H => E cls d H) :=
      ⟨takes_of rfl rfl rfl rfl, fun c fs cls d σ F' H' hx sa ei => qx c fs cls d F' H' hx sa.st ei⟩
    obtain ⟨Pr, hp, hb⟩ := body cdv A out s H E hgd hr ⟨cm, none, F, Hb, F⟩ a v1 v2 d1 d2 Pk y rfl hm i1 i2 fa' na rfl rfl am
    have fF : Ex F (upd F a (.ins (cm.ad cn) dx [])) := Ex.new fa'
    have s0 : Stp none cm.tb F Hb F H := Stp.ext e xH
    have sE : Stp none cm.tb F Hb (upd F a (.ins (cm.ad cn) dx [])) H := ⟨fF, fun z u hz => by
      by_cases c : z = a
      · subst c
        rw [upd_same] at hz
        rw [aH]
        exact hz
      · rw [upd_ne c] at hz
        exact xH _ _ (e _ _ hz), fun z hz fz => by rw [upd_ne (fun c => hz (by rw [c]; exact na))]; exact fz, s0.dom, s0.kp, (fun q hq => nomatch hq), s0.tab, fun n => n.upd fun _ z => nomatch z⟩
    refine ⟨_, hb, hp, ⟨_, sE.fh, (fun q hq => nomatch hq), sE, ⟨[], ?_, (fun z hz => nomatch hz)⟩, fF, s0.tab tn.1, sE.nt tn.2⟩, ?_, nxJ.no, nxJ.no, ⟨fun _ _ _ _ h => h.elim, fun _ _ _ _ _ h => h.elim⟩⟩
    · have : L2.start N [V.ref a, v1, v2] = some (.ref a) :: some v1 :: some v2 :: List.replicate (N.length - 3) none := rfl
      rw [this]
      exact .bth (.obj upd_same cf rfl .nil) (.bth (i1.mono fF) (.bth (i2.mono fF) (Sl.nones _)))
    · intro u σ F' H' sa hk
      obtain ⟨os, sl, _⟩ := sa.sl
      cases sl with
      | bth h _ => exact q F' H' hk sa.st h
end
section
variable {X : Cx} {g : Gv} {bs bx : List B} {cn f1 f2 x : Str} {m : D → D → Prop → Xd → Prop} {e : Expr} {es : List Expr} {p pos : Pos} {mA : (List D → Prop) → Prop} {k : Nat} {fI : Addr} {fd : FuncData} {ps : List Str} {y : Xd} {W : WX}
@[reducible] def wMk (cn f1 f2 : Str) (m : D → D → Prop → Xd → Prop) (mA : (List D → Prop) → Prop) (y : Xd) : (D → Prop) → Prop := fun k => mA fun ds => match ds with
  | [d, e] => m d e (k (.obj cn [f1, f2] [d, e])) y
  | _ => False
theorem e_mk (am : Am X g bx y W) (hgd : X.A.guards = some []) (M : Mk X.K (g.cm.ad cn) fI) (Fn : FnC X.prog X.w X.K X.mg X.base (L2.CX X.prog X.w) k fI fd ps (spI X.K g.cm cn f1 f2 m)) (hr : Room (k + 1) X.A) (hg : Gl X x) (hm : X.mg x = some (.ref (g.cm.ad cn))) (hb : Binds X.K fd ps []) (ha : PA X (e :: es) (tA X.K g bs mA))
    (hle : Le bs bx := by first | exact Le.refl _ | exact Le.toAny rfl)
    (hdb : (x == ("__debug__" : Str)) = false := by decide) (he : starEach (e :: es) X.env = (false, eval e X.env) :: starEach es X.env := by rfl) (hpl : (backTo pos (starEach es X.env)).any (·.1) = false := by rfl) :
    PE X (.Call (.Name x p) (e :: es) [] pos) (tM X.K g bs (wMk cn f1 f2 m mA y)) :=
  PE.imp (pe_makeC (E := WE W) hgd M Fn hr hg hm hb (fun pins σ H s e s' a dx I c => passAt am.tk σ pins _ s e s' I c) ha hdb he hpl) fun σ H Q ⟨F, k, s, hm, q⟩ => ⟨F, _, s, hm, fun ds vs F1 H1 kd st iv a dx na nd ne => by
    match ds, vs, iv, kd with
    | [d1, d2], [v1, v2], .cons i1 (.cons i2 .nil), kd =>
      refine ⟨H1, F1, a, dx, v1, v2, d1, d2, _, y, rfl, st.fh, ⟨st.tab s.tb, st.nt s.nt⟩, na, nd, ne, rfl, i1, i2, kd, fun F' H' hk st2 io => ⟨rfl, q _ _ F' H' hk (st.trans st2.none_hd) io⟩, fun c fs cls d F' H' hy st2 ei => ?_⟩
      exact (am.le hle).ok c fs cls d σ F' H' hy (s.step (st.trans st2.none_hd)) ei
    | [], _, _, kd => exact kd.elim
    | [_], _, _, kd => exact kd.elim
    | _ :: _ :: _ :: _, _, _, kd => exact kd.elim⟩
end
end FE
set_option Elab.async false
set_option linter.all false
set_option maxRecDepth 100000
set_option maxHeartbeats 4000000
/-! Draws. -/
namespace FE
open PySem L2 PySem.Spec
open Evl (Ex)
/-- all but the object at h is as it was -/
def Kp (h : Addr) (H H' : Hp) : Prop := ∀ b o, b ≠ h → H b = some o → H' b = some o
theorem Kp.refl (h : Addr) (H : Hp) : Kp h H H := fun _ _ _ e => e
theorem Kp.upd {h : Addr} {H H' : Hp} {o : HO} (k : Kp h H H') : Kp h H (L2.upd H' h o) := fun b u n e => by
  rw [upd_ne n]
  exact k b u n e
theorem cut_hi (xs : List V) (k : Int) (h : 0 ≤ k) : cutV xs none (some k) = xs.take k.toNat := by
  obtain ⟨n, rfl⟩ := Int.eq_ofNat_of_zero_le h
  unfold cutV
  rw [HT.sIx_none, show HT.sIx xs.length xs.length (some (n : Int)) = min n xs.length from HT.sIx_nat _ _ n, List.drop_zero, Nat.sub_zero, Int.toNat_natCast]
  rcases Nat.le_total n xs.length with g | g
  · rw [Nat.min_eq_left g]
  · rw [Nat.min_eq_right g, List.take_of_length_le (Nat.le_refl _), List.take_of_length_le g]
structure HandO (H : Hp) (h c : Addr) : Prop where
  ex : ∃ (cs : List Int) (i b m n : Int), H h = some (.lst [.ref c, .int i, .int b, .int m, .int n]) ∧ H c = some (.lst (cs.map V.int)) ∧ c ≠ h ∧ 0 ≤ i ∧ 0 ≤ b ∧ ∀ z ∈ cs, 0 ≤ z
theorem HandO.of {H : Hp} {h c : Addr} {cs : List Int} {i b m n : Int} (h1 : H h = some (.lst [.ref c, .int i, .int b, .int m, .int n])) (h2 : H c = some (.lst (cs.map V.int))) (h3 : c ≠ h) (h4 : 0 ≤ i) (h5 : 0 ≤ b) (h6 : ∀ z ∈ cs, 0 ≤ z) : HandO H h c :=
  ⟨cs, i, b, m, n, h1, h2, h3, h4, h5, h6⟩
def spDrawO : Sp := fun vs H Q _ => ∃ (h c : Addr) (m : Int), vs = [.ref h, .int m] ∧ 0 < m ∧ m < 1073741824 ∧ HandO H h c ∧
  ∀ d H', 0 ≤ d → d < m → Kp h H H' → HandO H' h c → Q (.int d) H'
def m_draw (d : D) (k : D → Prop) : Prop := match d with
  | .int m => (0 < m ∧ m < 1073741824) ∧ ∀ z, 0 ≤ z → z < m → k (.int z)
  | _ => False
theorem at_in {ns : List Int} {k : Int} (h0 : 0 ≤ k) (h1 : k < ns.length) : ∃ z ∈ ns, L2.atI (ns.map V.int) k = some (.int z) := by
  obtain ⟨n, rfl⟩ := Int.eq_ofNat_of_zero_le h0
  have hn : n < ns.length := by omega
  refine ⟨ns[n], List.getElem_mem hn, atI_nat ?_⟩
  rw [List.getElem?_map, List.getElem?_eq_getElem hn]
  rfl
theorem m31 {x c : Int} (h0 : 0 < c) (h1 : c ≤ 2147483647) : -(2 ^ 64) < x % c ∧ x % c < 2 ^ 64 := by
  have a := Int.emod_nonneg x (show c ≠ 0 by omega)
  have b := Int.emod_lt_of_pos x h0
  omega
theorem pos_of {c : Int} (h : 0 < c) : (0 : Int) < c := h
section
variable {P : Program} {w : World} {K : PySem.W.Frag} {mg : Str → Option Value} {base : Heap} {lv : Nat} {fa : Addr} {fd : FuncData} {ps : List Str} {cm : Cm}
theorem draw_of (hps : ps.length = 2) (F : FnOk P w K mg base CX0 lv fa fd ps spDrawO) : KG.FnG P w K mg base lv fa fd ps (spM K cm true (mk1 m_draw)) := by
  refine KG.FnG.of (F.imp (sp' := spM K cm true (mk1 m_draw)) fun vs H Q E h => ?_)
  obtain ⟨hd, F0, ws, ds, r, e, tn, hh, rfl, eh, i, hm, qd, ql⟩ := h
  obtain ⟨d, rfl, hm⟩ := mk1_inv hm
  cases hd with
  | none => exact absurd eh Bool.false_ne_true
  | some p =>
    obtain ⟨ha, f0⟩ := hh p rfl
    obtain ⟨cs, i0, b, m, n, h1, h2, h3, h4, h5⟩ := ha.ex
    cases d with
    | int z =>
      cases i with
      | cons i q =>
        cases q
        obtain rfl := i.int_inv
        have ncc : p.2 ≠ p.1 := fun c => by rw [c, f0] at h2; cases h2
        refine ⟨p.1, p.2, z, rfl, hm.1.1, hm.1.2, .of h1 (e _ _ h2) ncc h3 h4 h5, fun d H' d0 d1 k ho => ?_⟩
        obtain ⟨cs', i', b', m', n', g1, g2, g3, g4, g5, g6⟩ := ho.ex
        have fh : Ex F0 H' := fun a u hu => k a u (fun c => by rw [c, f0] at hu; cases hu) (e _ _ hu)
        have ec : cs'.map V.int = cs.map V.int := by
          have := (fh _ _ h2).symm.trans g2
          exact (HO.lst.inj (Option.some.inj this)).symm
        refine qd (.int d) (.int d) F0 H' (hm.2 d d0 d1) ⟨Ex.refl F0, fh, fun _ _ h => h, fun a hb => ?_, fun a u hu _ na => k a u (na p rfl) hu, fun q hq _ => ?_, fun t => tabs_at t fun b o hb no => k b o (fun z => by rw [z, h1] at hb; cases hb; exact no.elim) hb, id⟩ (.int d)
        · by_cases c : a = p.1
          · rw [c, g1]
            exact fun z => nomatch z
          · cases hx : H a with
            | none => exact absurd hx hb
            | some u =>
              rw [k a u c hx]
              exact fun z => nomatch z
        · cases hq
          exact ⟨cs', i', b', m', n', g1, by rw [ec]; exact h2, g4, g5, g6⟩
    | _ => exact hm.elim
/-! ### the hand made, and what a law is -/
def spHandO (K : PySem.W.Frag) : Sp := fun vs H Q _ => ∃ (a : Addr) (ns : List Int), vs = [.ref a] ∧ SqL K H a (ns.map V.int) ∧ ns.length ≤ 63 ∧ ∀ h c H', H h = none → H c = none → Same H H' → HandO H' h c → Q (.ref h) H'
def spLaw (K : PySem.W.Frag) : Sp := fun vs H Q _ => ∃ (a : Addr) (ns : List Int), vs = [.ref a] ∧ SqL K H a (ns.map V.int) ∧ ns.length ≤ 63 ∧ ∀ H', Q (.bl true) H'
/-- .. with tables of code -/
def spLawT (K : PySem.W.Frag) (tb : List (Addr × Str)) : Sp := fun vs H Q E => LamX.Tabs tb H ∧ spLaw K vs H Q E
def ab (i : Int) : Int := if i < 0 then -i else i
theorem ab_nn (i : Int) : 0 ≤ ab i := by
  unfold ab
  split <;> omega
theorem same_upd {H : Hp} {p : Addr} (h : H p = none) (o : HO) : Same H (upd H p o) := fun b u q => by
  rw [upd_ne (ne_of_none q h)]
  exact q
end
section
variable {P : Program} {w : World} {K : PySem.W.Frag} {mg : Str → Option Value} {base : Heap} {x qual : Str} {st : Stmt} {fa fh : Addr} {fd fdh : FuncData} {N : List Str} {lv kh : Nat} {cm : Cm} {s1 : Stmt} {rest : List Stmt} {hn hnd : Str} {p1 p2 p3 p4 p5 : Pos} {psh : List Str}
/-- a law: its hand first, then the rest -/
theorem def_law (Fn : Fun K x qual st fa fd) (S : FnScope N ["script"] (defScope st)) (hb : defBody st = .Assign [.Name hnd p1] (.Call (.Name hn p2) [.Name "script" p3] [] p4) p5 :: rest)
    (hN : N[1]? = some hnd) (hl : N.length = (N.length - 2) + 2) (hloc : Loc (defScope st) hnd) (hsc : (defScope st).names.lookup ("script" : Str) = some .local) (hgl : (defScope st).names.lookup hn = some .globalImplicit) (hdb : (hn == ("__debug__" : Str)) = false)
    (Fh : FnOk P w K mg base CX0 kh fh fdh psh (spHandO K)) (hmh : mg hn = some (.ref fh)) (hkh : PySem.W.keepIn K (.ref fh) = true) (hbh : Binds K fdh psh []) (hk : kh ≤ lv) (hN0 : N[0]? = some ("script" : Str))
    (body : ∀ (cdv : Value) (A : Around) (out : List Env) (s : Shared) (H : Hp) (E : XK), A.guards = some [] → Room lv (A.deeper (PyProof.Rows.envOfC qual (defScope st) s.heap.objs.size fa cdv)) → ∀ (g : Gv), g.cm = cm →
      ∃ Pr, Pr ∧ PSs (cxOf CX0 P w K mg base N qual (defScope st) fa cdv A out s H E).nox rest (tS K g (.any :: .hand :: anyB (N.length - 2)) Jn.no Jn.no Jn.no ⟨fun d => d = .bl true, fun _ => False⟩ Pr)) : KG.FnG P w K mg base (lv + 1) fa fd ["script"] (spLawT K cm.tb) := by
  refine KG.okG Fn S (fun vs H Q E h => ?_) (fun cdv A out s H vs Q E hgd hr h => ?_)
  · obtain ⟨_, a, ns, rfl, _⟩ := h
    rfl
  · obtain ⟨tb0, a, ns, rfl, ha, hl63, q⟩ := h
    have hx : PE (cxOf CX0 P w K mg base N qual (defScope st) fa cdv A out s H E).nox (.Name "script" p3) (tVar 0) := pv 0 hN0 (.inl hsc) (by decide)
    have h1 : PS (cxOf CX0 P w K mg base N qual (defScope st) fa cdv A out s H E).nox (.Assign [.Name hnd p1] (.Call (.Name hn p2) [.Name "script" p3] [] p4) p5) _ := ps_set (i := 1) S.nd hN hloc (pe_call Fh (hr.mono hk) hgl hmh hkh hbh .nil pass0 (pa_cons hx pa_nil) hdb)
    have hall : PSs (cxOf CX0 P w K mg base N qual (defScope st) fa cdv A out s H E).nox (.Assign [.Name hnd p1] (.Call (.Name hn p2) [.Name "script" p3] [] p4) p5 :: rest) (fun En σ H0 => σ = L2.start N [V.ref a] ∧ H0 = H ∧ En.rt = Q) := by
      refine PSs.imp (Evl.pss_cut h1 (u := fun En σ H1 => En.rt = Q ∧ ∃ (g : Gv), g.cm = cm ∧ ∃ F, Sat K g (.any :: .hand :: anyB (N.length - 2)) σ F H1) ⟨fun pins s' σ' H' En I hyp => ?_⟩) fun En σ H0 hyp => ?_
      · obtain ⟨er, g, hg, sa⟩ := hyp
        obtain ⟨Pr, hp, hb⟩ := body cdv A out s H E hgd hr g hg
        exact hb.run pins s' σ' H' En I ⟨hp, sa, nxJ.no, nxJ.no, nxJ.no, ⟨fun d v F H hd _ i => by
          subst hd
          rw [i.bl_inv, er]
          exact q H, fun _ _ _ _ _ h => h.elim⟩⟩
      · obtain ⟨rfl, rfl, er⟩ := hyp
        refine ⟨_, ⟨V.ref a, ?_, a, ns, rfl, ha, hl63, fun h c H' nh nc sm ho => ?_⟩, fun _ _ z => z⟩
        · rfl
        · obtain ⟨cs, i, b, m, n, g1, g2, g3, g4, g5, g6⟩ := ho.ex
          have exc : Ex (upd (fun _ => none) c (.lst (cs.map V.int))) H' := fun z u hz => by
            by_cases e : z = c
            · rw [e, upd_same] at hz
              rw [e, g2]
              exact hz
            · rw [upd_ne e] at hz
              cases hz
          refine ⟨er, ⟨cm, some (h, c), upd (fun _ => none) c (.lst (cs.map V.int)), H', upd (fun _ => none) c (.lst (cs.map V.int))⟩, rfl, upd (fun _ => none) c (.lst (cs.map V.int)), exc, fun p hp => ?_, Stp.refl exc, ⟨[], ?_, fun z hz => nomatch hz⟩, Ex.refl _, tb0.ext sm, fun b ps hb => by
            by_cases e : b = c
            · rw [e, upd_same] at hb
              cases hb
            · rw [upd_ne e] at hb
              cases hb⟩
          · cases hp
            exact ⟨⟨cs, i, b, m, n, g1, upd_same, g4, g5, g6⟩, by rw [upd_ne (Ne.symm g3)]⟩
          · have : L2.start N [V.ref a] = some (.ref a) :: none :: List.replicate (N.length - 2) none := by
              unfold L2.start
              show some (V.ref a) :: List.replicate (N.length - 1) none = _
              rw [show N.length - 1 = (N.length - 2) + 1 by omega]
              rfl
            rw [this]
            exact .any (.hand (c := c) rfl (Sl.nones _))
    rw [hb]
    exact ⟨_, hall, rfl, rfl, rfl⟩
/-- a law without tables -/
theorem law_noT {fa : Addr} {fd : FuncData} {k : Nat} {tb : List (Addr × Str)} (e : tb = []) (F : KG.FnG P w K mg base k fa fd ["script"] (spLawT K tb)) : KG.FnG P w K mg base k fa fd ["script"] (spLaw K) := by
  subst e
  exact ⟨fun vs H Q E h => F.many vs H Q E ⟨(fun p hp => nomatch hp), h⟩, fun A out s H args us vs Q E hg hr he hb hv h => F.go A out s H args us vs Q E hg hr he hb hv ⟨(fun p hp => nomatch hp), h⟩⟩
end
end FE
set_option Elab.async false
set_option linter.all false
set_option maxRecDepth 100000
set_option maxHeartbeats 4000000
/-! Ways that join, told with the way's end as a name. -/
namespace FE
open PySem L2 PySem.Spec
open Evl (Ex)
section
variable {X : Cx} {g : Gv} {bs bx : List B} {n b c : Jn} {r : Rt} {y : Xd} {W : WX} {rest body suite t u : List Stmt} {b₀ : Stmt} {e : Expr} {nn cx cn : Str} {np pos pos' : Pos} {mt : (Bool → Prop) → Prop} {i : Nat} {S A : Type}
/-- a join: what leads to it, and what comes of it -/
@[reducible] def wJ {S : Type} (m : (S → Prop) → Prop) (kr : S → Prop) : Prop := m kr
theorem s_ifJ {f : S → List B} {kr : S → Prop} {Pt Pu : (S → Prop) → Prop} (hc : PT X e (tT X.K g bs mt)) (ht : ∀ kj, PSs X t (tS X.K g bs ⟨S, f, kj⟩ b c r (Pt kj))) (hu : ∀ kj, PSs X u (tS X.K g bs ⟨S, f, kj⟩ b c r (Pu kj))) (hr : ∀ s : S, PSs X rest (tS X.K g (f s) n b c r (kr s))) :
    PSs X (.If e t u pos :: rest) (tS X.K g bs n b c r (mt fun y => if y = true then Pt kr else Pu kr)) := s_if ⟨S, f, kr⟩ hc (ht kr) (hu kr) hr
theorem s_forJ {ww : Bool} {enc : A → D} {js : List Nat} {ub : A → List B → List B} {tg iter : Expr} {gt : TG} {mi : (List D → Prop) → Prop} {ba : A → S → List B} {f : A → S → (S → Prop) → (S → Prop) → Prop} {fl fr : S → List B} {s0 : S} {kr : S → Prop} (hp : PassesOwn (model X.prog X.w) X.A X.env X.xe) (hc : X.calm = true)
    (hi : PI X tg iter (tI X.K g ww bs mi)) (hg : PG X tg gt) (hT : ∀ A', Tg X.K (g.an A') ww gt enc js ub) (hle : Le bs (fl s0)) (hfr : ∀ s, Le (fl s) (fr s))
    (hb : ∀ (A' : Hp) (_ : Ex g.A A') (a : A) (s : S) (kc kb : S → Prop), PSs X body (tS X.K (g.an A') (ba a s) ⟨S, fl, kc⟩ ⟨S, fr, kb⟩ ⟨S, fl, kc⟩ r (f a s kc kb))) (hr : ∀ s, PSs X rest (tS X.K g (fr s) n b c r (kr s))) (hba : ∀ a s, ub a (fl s) = ba a s := by intro _ _; rfl)
    (hs : ∀ x, foldedSetIterable iter X.env x = pure x := by intro _; rfl) : PSs X (.For tg iter body [] pos :: rest) (tS X.K g bs n b c r (mi fun items => forW (fun x s k => ∃ a, x = enc a ∧ f a s k kr) items s0 kr)) :=
  s_for (f := fun a s k => f a s k kr) fl fr s0 kr hp hc hi hg hT hle hfr (fun A' eA a s kc => hb A' eA a s kc kr) hr hba hs
theorem s_whileJ {mc : S → (Bool → Prop) → Prop} {f : S → (S → Prop) → (S → Prop) → Prop} {fl fr : S → List B} {s0 : S} {kr : S → Prop} (hp : PassesOwn (model X.prog X.w) X.A X.env X.xe) (hc : ∀ s, PT X e (tT X.K g (fl s) (mc s))) (hle : Le bs (fl s0)) (hfr : ∀ s, Le (fl s) (fr s))
    (hb : ∀ (s : S) (kc kb : S → Prop), PSs X body (tS X.K g (fl s) ⟨S, fl, kc⟩ ⟨S, fr, kb⟩ ⟨S, fl, kc⟩ r (f s kc kb))) (hr : ∀ s, PSs X rest (tS X.K g (fr s) n b c r (kr s))) : PSs X (.While e body [] pos :: rest) (tS X.K g bs n b c r (whileW (fun s k => mc s fun y => if y = true then f s k kr else kr s) s0)) :=
  s_while (f := fun s k => f s k kr) fl fr s0 kr hp hc hle hfr (fun s kc => hb s kc kr) hr
theorem s_tryJ {f : S → List B} {kr : S → Prop} {Pb : (S → Prop) → Prop} {Ph : (S → Prop) → Str → List (Str × D) → Prop} (am : Am X g bx y W) (hs : X.stack = X.env :: X.outer) (hf : X.env.frame = some X.env.locals) (hN : X.N.Nodup) (hi : X.N[i]? = some nn) (hln : X.env.kindOf nn = some .local) (hc : Names X cx (.ref (g.cm.ad cn))) (hce : cn ∈ g.cm.exs) (hjn : ∀ s, (f s).set i .any = f s) (hjb : ∀ s, (b.f s).set i .any = b.f s) (hjc : ∀ s, (c.f s).set i .any = c.f s) (hle : Le bs bx)
    (hb : ∀ (kj : S → Prop) (W' : WX) (pn : List (Addr × Obj)) (xe : Value → Shared → Prop), Am (X.tr pn xe) g bx (xTry cn (Ph kj) y) W' → PassesOwn (model X.prog X.w) X.A X.env xe → PSs (X.tr pn xe) body (tS X.K g bs ⟨S, f, kj⟩ b c r (Pb kj)))
    (hsu : ∀ (kj : S → Prop) (A' : Hp) (_ : Ex g.A A') (c0 : Str) (fs : List (Str × D)) (a : Addr) (oe : Obj) (cls : Value) (d : Option Addr) (pn : List (Addr × Obj)), ExIs X.K g.cm A' cls d c0 fs → Zc cls d oe → (∃ vs, oe.data = .fields vs) → PSs (X.suite a ((a, oe) :: pn)) (b₀ :: suite) (tS X.K (g.an A') (bx.set i (.raw (.ref a))) ⟨S, f, kj⟩ b c r (Ph kj c0 fs)))
    (hr : ∀ s : S, PSs X rest (tS X.K g (f s) n b c r (kr s))) :
    PSs X (.Try body [.ExceptHandler (some (.Name cx np)) (some nn) (b₀ :: suite) pos'] [] [] pos :: rest) (tS X.K g bs n b c r (Pb kr)) :=
  s_try (Ph := Ph kr) (j := ⟨S, f, kr⟩) am hs hf hN hi hln hc hce hjn hjb hjc hle (hb kr) (hsu kr) hr
theorem s_try0J {f : S → List B} {kr : S → Prop} {Pb : (S → Prop) → Prop} {Ph : (S → Prop) → Str → List (Str × D) → Prop} (am : Am X g bx y W) (hs : X.stack = X.env :: X.outer) (hf : X.env.frame = some X.env.locals) (hc : Names X cx (.ref (g.cm.ad cn))) (hce : cn ∈ g.cm.exs) (hle : Le bs bx)
    (hb : ∀ (kj : S → Prop) (W' : WX) (pn : List (Addr × Obj)) (xe : Value → Shared → Prop), Am (X.tr pn xe) g bx (xTry cn (Ph kj) y) W' → PassesOwn (model X.prog X.w) X.A X.env xe → PSs (X.tr pn xe) body (tS X.K g bs ⟨S, f, kj⟩ b c r (Pb kj)))
    (hsu : ∀ (kj : S → Prop) (A' : Hp) (_ : Ex g.A A') (c0 : Str) (fs : List (Str × D)) (a : Addr) (oe : Obj) (cls : Value) (d : Option Addr) (pn : List (Addr × Obj)), ExIs X.K g.cm A' cls d c0 fs → Zc cls d oe → (∃ vs, oe.data = .fields vs) → PSs (X.suite a ((a, oe) :: pn)) (b₀ :: suite) (tS X.K (g.an A') bx ⟨S, f, kj⟩ b c r (Ph kj c0 fs)))
    (hr : ∀ s : S, PSs X rest (tS X.K g (f s) n b c r (kr s))) :
    PSs X (.Try body [.ExceptHandler (some (.Name cx np)) none (b₀ :: suite) pos'] [] [] pos :: rest) (tS X.K g bs n b c r (Pb kr)) :=
  s_try0 (Ph := Ph kr) (j := ⟨S, f, kr⟩) am hs hf hc hce hle (hb kr) (hsu kr) hr
end
end FE
set_option Elab.async false
set_option linter.all false
set_option maxRecDepth 100000
set_option maxHeartbeats 4000000
/-! Mathematics of mirrors: comprehensions, loops, what repr tells. -/
namespace FE
open PySem L2
/-! ### comprehensions and loops -/
theorem lcW_map {f : D → (Option D → Prop) → Prop} {g : D → D} {k : List D → Prop} : ∀ {items acc : List D}, (∀ x ∈ items, ∀ ko : Option D → Prop, ko (some (g x)) → f x ko) → k (acc ++ items.map g) → lcW f items acc k
  | [], acc, _, h => by
    rw [List.map_nil, List.append_nil] at h
    exact h
  | x :: r, acc, hf, h => by
    refine hf x List.mem_cons_self _ ?_
    refine lcW_map (fun y hy => hf y (List.mem_cons_of_mem _ hy)) ?_
    rw [List.append_assoc]
    exact h
/-- a comprehension without a test -/
theorem u_lc {items : List D} {g : D → D} {me : D → (D → Prop) → Prop} {k : List D → Prop} (hl : items.length ≤ 100000) (h : ∀ x ∈ items, ∀ k' : D → Prop, k' (g x) → me x k') (hk : k (items.map g)) : wLc (fun d : D => d) (fun k => k items) (fun _ => wYes) me k :=
  ⟨hl, lcW_map (fun x hx ko hko => ⟨x, rfl, by
    show if true = true then _ else _
    rw [if_pos rfl]
    exact h x hx _ hko⟩) hk⟩
theorem forW_inv {S : Type} {f : D → S → (S → Prop) → Prop} {k : S → Prop} (I : Nat → S → Prop) : ∀ {items : List D} {n : Nat} {s : S}, I n s → (∀ i x s, I i s → n ≤ i → i < n + items.length → items[i - n]? = some x → f x s (fun s' => I (i + 1) s')) → (∀ s, I (n + items.length) s → k s) → (∀ x s (p q : S → Prop), (∀ s, p s → q s) → f x s p → f x s q) → forW f items s k
  | [], n, s, h0, _, hk, _ => hk s h0
  | x :: r, n, s, h0, hs, hk, mono => by
    refine mono x s _ _ (fun s' hs' => ?_) (hs n x s h0 (Nat.le_refl _) (by simp) (by simp))
    refine forW_inv I (n := n + 1) hs' (fun i y s hi h1 h2 h3 => hs i y s hi (by omega) (by simp only [List.length_cons]; omega) ?_) (fun s hI => hk s ?_) mono
    · rw [show i - n = (i - (n + 1)) + 1 by omega, List.getElem?_cons_succ]
      exact h3
    · rw [show n + (x :: r).length = n + 1 + r.length by simp only [List.length_cons]; omega]
      exact hI
/-- a loop whose turns leave nothing but what is due -/
theorem forW_unit {f : D → Unit → (Unit → Prop) → Prop} {k : Unit → Prop} (hk : k ()) : ∀ {items : List D}, (∀ x ∈ items, ∀ p : Unit → Prop, p () → f x () p) → forW f items () k
  | [], _ => hk
  | x :: r, h => h x List.mem_cons_self _ (forW_unit hk fun y hy => h y (List.mem_cons_of_mem _ hy))
theorem forW_all {S : Type} {f : D → S → (S → Prop) → Prop} {k : S → Prop} (G : S → Prop) : ∀ {items : List D} {s : S}, G s → (∀ x ∈ items, ∀ s, G s → ∀ p : S → Prop, (∀ s', G s' → p s') → f x s p) → (∀ s, G s → k s) → forW f items s k
  | [], s, h0, _, hk => hk s h0
  | x :: r, s, h0, h, hk => h x List.mem_cons_self s h0 _ fun s' hs' => forW_all G hs' (fun y hy => h y (List.mem_cons_of_mem _ hy)) hk
/-! ### what repr tells -/
mutual
def D.wt : D → Nat
  | .non => 4
  | .bl _ => 5
  | .int i => i.natAbs.log2 + 3
  | .str s => 10 * s.length + 2
  | .lst l => D.wtAll l + 4
  | .tup l => D.wtAll l + 4
  | .dic _ _ => 4
  | .dik _ _ => 4
  | .dit _ _ => 4
  | .cod _ => 4
  | .obj _ _ _ => 4
def D.wtAll : List D → Nat
  | [] => 0
  | d :: r => d.wt + 2 + D.wtAll r
end
theorem str_add (a b : Str) : (a ++ b).length = a.length + b.length := by
  show (a.cps ++ b.cps).size = _
  exact Array.size_append
theorem join_le (ts : List Str) : (Str.join ", " ts).length ≤ piled ts := by
  by_cases c : ts = []
  · subst c
    decide
  · have := join_length_add ts c
    omega
theorem from_len : ∀ (ts : List Str) (k : Nat) (acc : Str), (textFrom k acc ts).length ≤ acc.length + piled ts
  | [], k, acc => by
    show acc.length ≤ _
    omega
  | t :: ts, k, acc => by
    rw [piled_cons]
    unfold textFrom
    split
    · have := from_len ts (k + 1) (acc ++ ", " ++ t)
      rw [str_add, str_add] at this
      have e : ((", " : String) : Str).length = 2 := by decide
      omega
    · have := from_len ts (k + 1) (acc ++ "" ++ t)
      rw [str_add, str_add] at this
      have e : (("" : String) : Str).length = 0 := by decide
      omega
mutual
theorem shown_wt : ∀ (n : Nat) (d : D), d.can n = true → d.py.shown.length ≤ d.wt
  | _, .non, _ => by decide
  | _, .bl true, _ => by decide
  | _, .bl false, _ => by decide
  | _, .int i, _ => by
    show (Str.ofString (toString i)).length ≤ i.natAbs.log2 + 3
    rw [ofString_length]
    have := int_text_length_le (a := i) (k := i.natAbs.log2 + 1) (by omega) (by omega)
    omega
  | n, .str s, h => by
    have h' : s.cps.all (· < 0x110000) = true := by simpa [D.can] using h
    refine StrLaws.reprText_len s fun c hc => ?_
    have := Array.all_eq_true'.mp h' c (Array.mem_toList_iff.mp hc)
    have := of_decide_eq_true this
    omega
  | 0, .lst _, h => by simp [D.can] at h
  | 0, .tup _, h => by simp [D.can] at h
  | n + 1, .lst l, h => by
    have q := shownAll_wt n l (by simpa [D.can] using h)
    show (listText (PyData.shownAll (D.pyAll l))).length ≤ D.wtAll l + 4
    unfold listText
    rw [str_add]
    have h1 := from_len (PyData.shownAll (D.pyAll l)) 0 "["
    have e1 : ((("[" : String) : Str)).length = 1 := by decide
    have e2 : ((("]" : String) : Str)).length = 1 := by decide
    omega
  | n + 1, .tup l, h => by
    have q := shownAll_wt n l (by simpa [D.can] using h)
    show (tupleText (PyData.shownAll (D.pyAll l))).length ≤ D.wtAll l + 4
    unfold tupleText
    rw [str_add, str_add]
    have h1 := join_le (PyData.shownAll (D.pyAll l))
    have e1 : ((("(" : String) : Str)).length = 1 := by decide
    have e3 : (((if (PyData.shownAll (D.pyAll l)).length == 1 then ",)" else ")" : String) : Str)).length ≤ 2 := by split <;> decide
    omega
  | 0, .dic _ _, h => by simp [D.can] at h
  | 0, .dik _ _, h => by simp [D.can] at h
  | 0, .dit _ _, h => by simp [D.can] at h
  | 0, .cod _, h => by simp [D.can] at h
  | n + 1, .dic _ _, h => by simp [D.can] at h
  | n + 1, .dik _ _, h => by simp [D.can] at h
  | n + 1, .dit _ _, h => by simp [D.can] at h
  | n + 1, .cod _, h => by simp [D.can] at h
  | 0, .obj _ _ _, h => by simp [D.can] at h
  | n + 1, .obj _ _ _, h => by simp [D.can] at h
theorem shownAll_wt : ∀ (n : Nat) (l : List D), D.canAll n l = true → piled (PyData.shownAll (D.pyAll l)) ≤ D.wtAll l
  | _, [], _ => by
    simp [D.pyAll, PyData.shownAll, piled]
  | n, d :: r, h => by
    have h' : d.can n = true ∧ D.canAll n r = true := by simpa [D.canAll] using h
    have q1 := shown_wt n d h'.1
    have q2 := shownAll_wt n r h'.2
    simp only [D.pyAll, PyData.shownAll, D.wtAll]
    rw [piled_cons]
    omega
end
/-- repr of a tuple -/
theorem u_repr {l : List D} {k : D → Prop} (c : (D.tup l).can 64 = true) (s : (D.tup l).py.showable = true) (w : (D.tup l).wt ≤ 16000000) (h : k (.str (D.tup l).py.shown)) : oRepr [.tup l] k := ⟨⟨c, s, Nat.le_trans (shown_wt 64 _ c) w⟩, h⟩
theorem u_reprL {l : List D} {k : D → Prop} (c : (D.lst l).can 64 = true) (s : (D.lst l).py.showable = true) (w : (D.lst l).wt ≤ 16000000) (h : k (.str (D.lst l).py.shown)) : oRepr [.lst l] k := ⟨⟨c, s, Nat.le_trans (shown_wt 64 _ c) w⟩, h⟩
end FE
set_option Elab.async false
set_option linter.all false
set_option maxRecDepth 100000
set_option maxHeartbeats 4000000
/-! One's own lists, lent: read as data by an expression whose value holds no list. -/
namespace FE
open PySem L2
open Evl (Ex)
mutual
def D.noL : D → Bool
  | .lst _ => false
  | .tup l => D.noLA l
  | .dic _ vs => D.noLA vs
  | .dik _ vs => D.noLA vs
  | .dit _ vs => D.noLA vs
  | .obj _ _ fs => D.noLA fs
  | _ => true
def D.noLA : List D → Bool
  | [] => true
  | d :: r => d.noL && D.noLA r
end
theorem D.noLA_all : ∀ {l : List D}, D.noLA l = true ↔ ∀ d ∈ l, d.noL = true
  | [] => ⟨(fun _ _ h => nomatch h), fun _ => rfl⟩
  | d :: r => by
    unfold D.noLA
    rw [Bool.and_eq_true, noLA_all]
    exact ⟨fun h x hx => (List.mem_cons.mp hx).elim (fun e => e ▸ h.1) (h.2 x), fun h => ⟨h d List.mem_cons_self, fun x hx => h x (List.mem_cons_of_mem _ hx)⟩⟩
/-- all but an object -/
def hide (F : Hp) (a : Addr) : Hp := fun b => if b = a then none else F b
theorem hide_ne {F : Hp} {a b : Addr} (h : b ≠ a) : hide F a b = F b := if_neg h
theorem hide_same {F : Hp} {a : Addr} : hide F a a = none := if_pos rfl
section
variable {K : PySem.W.Frag} {cm : Cm} {F H : Hp} {a : Addr} {ls : List V}
theorem hide_rd {u : HO} {b : Addr} (ha : F a = some (.lst ls)) (hu : ∀ l, u ≠ .lst l) (h : Rd F b u) : Rd (hide F a) b u := by
  have n : b ≠ a := fun z => by
    subst z
    rcases h with h | ⟨o, h⟩
    · rw [ha] at h
      exact hu _ (Option.some.inj h).symm
    · rw [ha] at h
      cases h
  rcases h with h | ⟨o, h⟩
  · exact .inl (by rw [hide_ne n]; exact h)
  · exact .inr ⟨o, by rw [hide_ne n]; exact h⟩
theorem hide_t {b : Addr} {xs : List V} (ha : F a = some (.lst ls)) (h : SqT K F b xs) : SqT K (hide F a) b xs := by
  rcases h with h | h
  · exact .inl (hide_rd ha (fun l => nofun) h)
  · exact .inr h
theorem hide_tt {b : Addr} {xs : List V} (ha : F a = some (.lst ls)) (h : KT.Tt K F b xs) : KT.Tt K (FE.hide F a) b xs := by
  rcases h with ⟨o, h, d⟩ | ⟨h, q⟩
  · exact .inl ⟨o, by rw [hide_ne (fun z => by rw [z, ha] at h; cases h)]; exact h, d⟩
  · exact .inr ⟨hide_t ha h, q⟩
mutual
theorem Is.hide (ha : F a = some (.lst ls)) : ∀ {d : D} {v : V}, d.noL = true → Is K cm F v d → Is K cm (hide F a) v d
  | _, _, _, .non => .non
  | _, _, _, .bl b => .bl b
  | _, _, _, .int i => .int i
  | _, _, _, .str s => .str s
  | _, _, n, .lst h q => nomatch n
  | _, _, n, .tup h q => .tup (hide_tt ha h) (IsAll.hide ha n q)
  | _, _, n, .dik (a := b) h hk q => .dik (by rw [hide_ne (fun z => by rw [z, ha] at h; cases h)]; exact h) hk (IsAll.hide ha n q)
  | _, _, n, .dit (a := b) h hk q => .dit (by rw [hide_ne (fun z => by rw [z, ha] at h; cases h)]; exact h) hk (IsAll.hide ha n q)
  | _, _, _, .cod h t => .cod h t
  | _, _, n, .dic (a := b) h hk q => .dic (by rw [hide_ne (fun z => by rw [z, ha] at h; cases h)]; exact h) hk (IsAll.hide ha n q)
  | _, _, n, .obj (a := b) h cf hn q => .obj (by rw [hide_ne (fun z => by rw [z, ha] at h; cases h)]; exact h) cf hn (IsAll.hide ha n q)
theorem IsAll.hide (ha : F a = some (.lst ls)) : ∀ {ds : List D} {vs : List V}, D.noLA ds = true → IsAll K cm F vs ds → IsAll K cm (hide F a) vs ds
  | _, _, _, .nil => .nil
  | _, _, n, .cons h q => by
    have n' := Bool.and_eq_true_iff.mp n
    exact .cons (Is.hide ha n'.1 h) (IsAll.hide ha n'.2 q)
end
end
section
variable {K : PySem.W.Frag} {g : Gv} {bs : List B} {σ : St} {F H F' H' : Hp} {i : Nat} {ds : List D}
/-- the slot's list frozen; what comes of it without it -/
theorem Sat.lend (s : Sat K g bs σ F H) (h : bs[i]? = some (.own ds)) : ∃ a ls, H a = some (.lst ls) ∧ F a = none ∧ (∀ p, g.hd = some p → a ≠ p.1 ∧ a ≠ p.2) ∧ Sat K g (bs.set i (.dat (.lst ds))) σ (upd F a (.lst ls)) H := by
  obtain ⟨os, q, n⟩ := s.sl
  obtain ⟨a, ls, h1, h2, h3, h4, h5, h6⟩ := q.getO h
  refine ⟨a, ls, h2, h4, h6, ?_⟩
  have exA : Ex (upd F a (.lst ls)) H := fun y u hy => by
    by_cases z : y = a
    · subst z
      rw [upd_same] at hy
      rw [h2]
      exact hy
    · rw [upd_ne z] at hy
      exact s.ex y u hy
  have key : ∀ {i : Nat} {os : List Addr} {σ : List (Option V)} {bs : List B}, Sl K g F H os σ bs → bs[i]? = some (.own ds) → σ[i]? = some (some (.ref a)) → ∃ os', Sl K g (upd F a (.lst ls)) H os' σ (bs.set i (.dat (.lst ds))) ∧ (∀ x ∈ os', x ∈ os) ∧ a ∉ os' := by
    intro i os σ bs q
    induction q generalizing i with
    | nil => intro e; simp at e
    | any q ih =>
      cases i with
      | zero => intro e; simp at e
      | succ i =>
        intro e e2
        obtain ⟨os', q', m, na⟩ := ih (i := i) (by simpa using e) (by simpa using e2)
        exact ⟨os', .any q', m, na⟩
    | dat x q ih =>
      cases i with
      | zero => intro e; simp at e
      | succ i =>
        intro e e2
        obtain ⟨os', q', m, na⟩ := ih (i := i) (by simpa using e) (by simpa using e2)
        exact ⟨os', .dat (x.mono (Ex.new h4)) q', m, na⟩
    | hand x q ih =>
      cases i with
      | zero => intro e; simp at e
      | succ i =>
        intro e e2
        obtain ⟨os', q', m, na⟩ := ih (i := i) (by simpa using e) (by simpa using e2)
        exact ⟨os', .hand x q', m, na⟩
    | raw q ih =>
      cases i with
      | zero => intro e; simp at e
      | succ i =>
        intro e e2
        obtain ⟨os', q', m, na⟩ := ih (i := i) (by simpa using e) (by simpa using e2)
        exact ⟨os', .raw q', m, na⟩
    | bth x q ih =>
      cases i with
      | zero => intro e; simp at e
      | succ i =>
        intro e e2
        obtain ⟨os', q', m, na⟩ := ih (i := i) (by simpa using e) (by simpa using e2)
        exact ⟨os', .bth (x.mono (Ex.new h4)) q', m, na⟩
    | own k1 k2 k3 k4 k5 q ih =>
      rename_i os0 b vs0 ds0 σ0 bs0
      cases i with
      | zero =>
        intro e e2
        have e' : ds0 = ds := by simpa using e
        have e2' : b = a := by simpa using e2
        subst e' e2'
        rw [k1] at h2
        have ev := HO.lst.inj (Option.some.inj h2)
        subst ev
        exact ⟨_, .dat (.lst upd_same (k2.mono (Ex.new h4))) (q.grow h4 k4), fun x hx => List.mem_cons_of_mem _ hx, k4⟩
      | succ i =>
        intro e e2
        obtain ⟨os', q', m, na⟩ := ih (i := i) (by simpa using e) (by simpa using e2)
        have hao : a ∈ os0 := by
          obtain ⟨a', _, g1, _, _, _, g5, _⟩ := q.getO (i := i) (ds := ds) (by simpa using e)
          have e2' : σ0[i]? = some (some (.ref a)) := by simpa using e2
          rw [g1] at e2'
          have := V.ref.inj (Option.some.inj (Option.some.inj e2'))
          rw [← this]
          exact g5
        have nb : b ≠ a := fun z => k4 (by rw [z]; exact hao)
        refine ⟨b :: os', .own k1 (k2.mono (Ex.new h4)) (by rw [upd_ne nb]; exact k3) (fun z => k4 (m _ z)) k5 q', fun x hx => ?_, fun z => ?_⟩
        · rcases List.mem_cons.mp hx with e | e
          · rw [e]; exact List.mem_cons_self
          · exact List.mem_cons_of_mem _ (m x e)
        · rcases List.mem_cons.mp z with e | e
          · exact nb e.symm
          · exact na e
    | @oo os0 b o0 R0 σ0 bs0 k1 k2 k3 k4 k5 q ih =>
      cases i with
      | zero => intro e; simp at e
      | succ i =>
        intro e e2
        obtain ⟨os', q', m, na⟩ := ih (i := i) (by simpa using e) (by simpa using e2)
        have hao : a ∈ os0 := by
          obtain ⟨a', _, g1, _, _, _, g5, _⟩ := q.getO (i := i) (ds := ds) (by simpa using e)
          have e2' : σ0[i]? = some (some (.ref a)) := by simpa using e2
          rw [g1] at e2'
          have := V.ref.inj (Option.some.inj (Option.some.inj e2'))
          rw [← this]
          exact g5
        have nb : b ≠ a := fun z => k4 (by rw [z]; exact hao)
        refine ⟨b :: os', .oo k1 (R0.mono (Ex.new h4) k2) (by rw [upd_ne nb]; exact k3) (fun z => k4 (m _ z)) k5 q', fun x hx => ?_, fun z => ?_⟩
        · rcases List.mem_cons.mp hx with e | e
          · rw [e]; exact List.mem_cons_self
          · exact List.mem_cons_of_mem _ (m x e)
        · rcases List.mem_cons.mp z with e | e
          · exact nb e.symm
          · exact na e
  obtain ⟨os', q', m, _⟩ := key q h h1
  refine ⟨exA, fun p hp => ⟨(s.hd p hp).1.to (Ex.new h4) fun _ h => h, ?_⟩, ⟨s.st.ff.trans (Ex.new h4), exA, fun b hb fb => ?_, s.st.dom, s.st.kp, fun p hp h => (s.st.hand p hp h).to (Ex.new h4) fun _ h => h, s.st.tab, fun n => (s.st.nt n).upd fun _ z => nomatch z⟩, ⟨os', q', fun x hx => n x (m x hx)⟩, s.an.trans (Ex.new h4), s.tb, s.nt.upd fun _ z => nomatch z⟩
  · rw [upd_ne (Ne.symm (h6 p hp).1)]
    exact (s.hd p hp).2
  · have nb : b ≠ a := fun z => hb (by rw [z]; exact n a h5)
    rw [upd_ne nb]
    exact s.st.own b hb fb
theorem Stp.unlend {hd : Option (Addr × Addr)} {T : List (Addr × Str)} {a : Addr} {ls : List V} (e : Ex F H) (ha : H a = some (.lst ls)) (fa : F a = none) (nh : ∀ p, hd = some p → a ≠ p.1 ∧ a ≠ p.2) (st : Stp hd T (upd F a (.lst ls)) H F' H') : Stp hd T F H (hide F' a) H' ∧ F' a = some (.lst ls) := by
  have fa' : F' a = some (.lst ls) := st.ff a _ upd_same
  refine ⟨⟨fun b u hb => ?_, fun b u hb => ?_, fun b hb fb => ?_, st.dom, st.kp, fun p hp h => ?_, st.tab, fun n b ps hb => ?_⟩, fa'⟩
  · have n : b ≠ a := fun z => by rw [z, fa] at hb; cases hb
    rw [hide_ne n]
    exact st.ff b u (by rw [upd_ne n]; exact hb)
  · have n : b ≠ a := fun z => by rw [z, hide_same] at hb; cases hb
    rw [hide_ne n] at hb
    exact st.fh b u hb
  · by_cases n : b = a
    · rw [n]; exact hide_same
    · rw [hide_ne n]
      exact st.own b hb (by rw [upd_ne n]; exact fb)
  · obtain ⟨cs, i, b, m, n, g1, g2, g3⟩ := (st.hand p hp (h.to (Ex.new fa) fun _ h => h)).ex
    exact ⟨cs, i, b, m, n, g1, by rw [hide_ne (Ne.symm (nh p hp).2)]; exact g2, g3⟩
  · have c : b ≠ a := fun z => by rw [z, hide_same] at hb; cases hb
    rw [hide_ne c] at hb
    exact st.nt (n.upd fun _ z => nomatch z) b ps hb
end
/-- a value without a list -/
@[reducible] def lnd (m : (D → Prop) → Prop) : (D → Prop) → Prop := fun k => m fun d => d.noL = true ∧ k d
@[reducible] def lndL (m : (List D → Prop) → Prop) : (List D → Prop) → Prop := fun k => m fun ds => D.noLA ds = true ∧ k ds
section
variable {X : Cx} {g : Gv} {bs : List B} {e : Expr} {ds : List D} {m : (D → Prop) → Prop} {mL : (List D → Prop) → Prop} {mt : (Bool → Prop) → Prop}
theorem e_lend (i : Nat) (h : PE X e (tM X.K g (bs.set i (.dat (.lst ds))) m)) (hb : bs[i]? = some (.own ds) := by rfl) : PE X e (tM X.K g bs (lnd m)) := PE.imp h fun σ H Q ⟨F, k, s, hm, q⟩ => by
  obtain ⟨a, ls, ha, fa, nh, s'⟩ := s.lend hb
  refine ⟨_, _, s', hm, fun d v F' H' ⟨nd, kd⟩ st is => ?_⟩
  obtain ⟨st', fa'⟩ := Stp.unlend s.ex ha fa nh st
  exact q d v _ H' kd st' (is.hide fa' nd)
theorem r_lend (i : Nat) (h : PE X e (tM X.K g (bs.set i (.dat (.lst ds))) m)) (hb : bs[i]? = some (.own ds) := by rfl) : PE X e (tR X.K g bs (lnd m)) := e_r (e_lend i h hb)
theorem l_lend (i : Nat) (h : PE X e (tL X.K g (bs.set i (.dat (.lst ds))) mL)) (hb : bs[i]? = some (.own ds) := by rfl) : PE X e (tL X.K g bs (lndL mL)) := PE.imp h fun σ H Q ⟨F, k, s, hm, q⟩ => by
  obtain ⟨a, ls, ha, fa, nh, s'⟩ := s.lend hb
  refine ⟨_, _, s', hm, fun d p vs F' H' ⟨nd, kd⟩ st np fp hp is => ?_⟩
  obtain ⟨st', fa'⟩ := Stp.unlend s.ex ha fa nh st
  have n : p ≠ a := fun z => by rw [z, ha] at np; cases np
  exact q d p vs _ H' kd st' np (by rw [hide_ne n]; exact fp) hp (is.hide fa' nd)
theorem t_lend (i : Nat) (h : PT X e (tT X.K g (bs.set i (.dat (.lst ds))) mt)) (hb : bs[i]? = some (.own ds) := by rfl) : PT X e (tT X.K g bs mt) := PT.imp h fun σ H Q ⟨F, k, s, hm, q⟩ => by
  obtain ⟨a, ls, ha, fa, nh, s'⟩ := s.lend hb
  refine ⟨_, _, s', hm, fun d F' H' kd st => ?_⟩
  obtain ⟨st', fa'⟩ := Stp.unlend s.ex ha fa nh st
  exact q d _ H' kd st'
end
end FE
set_option Elab.async false
set_option linter.all false
set_option maxRecDepth 100000
set_option maxHeartbeats 4000000
/-! How mirrors compute. -/
namespace FE
open PySem
section
variable {k : D → Prop} {kb : Bool → Prop} {kl : List D → Prop} {b c : Bool} {i j : Int} {s t : Str} {l r : List D} {p q : Prop} {d e : D}
theorem oTru_bl : oTru (.bl b) kb = kb b := rfl
theorem oTru_int : oTru (.int i) kb = kb (i != 0) := rfl
theorem oTru_lst : oTru (.lst l) kb = kb (!l.isEmpty) := rfl
theorem oTru_tup : oTru (.tup l) kb = kb (!l.isEmpty) := rfl
theorem oTru_non : oTru .non kb = kb false := rfl
theorem if_t : (if true = true then p else q) = p := rfl
theorem if_f : (if false = true then p else q) = q := rfl
theorem not_t : (!true) = false := rfl
theorem not_f : (!false) = true := rfl
theorem wJ_all {S : Type} {m : (S → Prop) → Prop} {kr : S → Prop} (h : ∀ J : S → Prop, (∀ s, kr s → J s) → m J) : wJ m kr := h kr fun _ => id
theorem wJ_u {m : (Unit → Prop) → Prop} {kr : Unit → Prop} (h : ∀ J : Unit → Prop, (kr () → J ()) → m J) : wJ m kr := h kr id
theorem oCmp_int {f : Int → Int → Bool} : oCmp f (.int i) (.int j) k = k (.bl (f i j)) := rfl
theorem oAdd_int : oAdd (.int i) (.int j) k = k (.int (i + j)) := rfl
theorem oAdd_tup : oAdd (.tup l) (.tup r) k = (l.length + r.length ≤ 100000 ∧ k (.tup (l ++ r))) := rfl
theorem oAdd_lst : oAdd (.lst l) (.lst r) k = (l.length + r.length ≤ 100000 ∧ k (.lst (l ++ r))) := rfl
theorem oAdd_str : oAdd (.str s) (.str t) k = (s.length + t.length ≤ 100000 ∧ k (.str (s ++ t))) := rfl
theorem oAddL_lst : oAddL (.lst l) (.lst r) kl = (l.length + r.length ≤ 100000 ∧ kl (l ++ r)) := rfl
theorem oAddI_int : oAddI (.int i) (.int j) k = k (.int (i + j)) := rfl
theorem oSub_int : oSub (.int i) (.int j) k = k (.int (i - j)) := rfl
theorem oMul_int : oMul (.int i) (.int j) k = (L2.CMulW i j ∧ k (.int (i * j))) := rfl
theorem oMul_lst : oMul (.lst l) (.int j) k = ((-100000 ≤ j ∧ j ≤ 100000 ∧ l.length * j.toNat ≤ 100000) ∧ k (.lst (List.replicate j.toNat l).flatten)) := rfl
theorem oMulL_lst : oMulL (.lst l) (.int j) kl = ((-100000 ≤ j ∧ j ≤ 100000 ∧ l.length * j.toNat ≤ 100000) ∧ kl (List.replicate j.toNat l).flatten) := rfl
theorem oMod_int : oMod (.int i) (.int j) k = (0 < j ∧ k (.int (i % j))) := rfl
theorem oDiv_int : oDiv (.int i) (.int j) k = (L2.CDiv i j ∧ k (.int (i / j))) := rfl
theorem oPow_int : oPow (.int i) (.int j) k = (L2.CPow i j ∧ k (.int (i ^ j.toNat))) := rfl
theorem oNeg_int : oNeg (.int i) k = k (.int (-i)) := rfl
theorem oAbs_int : oAbs [.int i] k = k (.int (if i < 0 then -i else i)) := rfl
theorem oInt_int : oInt [.int i] k = k (.int i) := rfl
theorem oInt_bl : oInt [.bl b] k = k (.int (if b then 1 else 0)) := rfl
theorem oRg1_int {f : Int → Int → Prop} : oRg1 (.int i) f = ((-100000 ≤ i ∧ i ≤ 100000) ∧ f 0 i) := rfl
theorem oRg2_int {f : Int → Int → Prop} : oRg2 (.int i) (.int j) f = ((-100000 ≤ i ∧ i ≤ 100000 ∧ -100000 ≤ j ∧ j ≤ 100000) ∧ f i j) := rfl
theorem oIx_lst : oIx (.lst l) (.int i) k = ∃ x, L2.atI l i = some x ∧ k x := rfl
theorem oIx_tup : oIx (.tup l) (.int i) k = ∃ x, L2.atI l i = some x ∧ k x := rfl
theorem oLen_lst : oLen [.lst l] k = k (.int l.length) := rfl
theorem oLen_tup : oLen [.tup l] k = k (.int l.length) := rfl
theorem oMin2_int : oMin2 [.int i, .int j] k = k (.int (if j < i then j else i)) := rfl
theorem oMax2_int : oMax2 [.int i, .int j] k = k (.int (if j > i then j else i)) := rfl
theorem oItems_tup : oItems (.tup l) kl = kl l := rfl
theorem oItems_lst : oItems (.lst l) kl = kl l := rfl
theorem oTupOf_lst : oTupOf [.lst l] k = k (.tup l) := rfl
theorem oTupOf_tup : oTupOf [.tup l] k = k (.tup l) := rfl
theorem oListOf_lst : oListOf [.lst l] kl = kl l := rfl
theorem oListOf_tup : oListOf [.tup l] kl = kl l := rfl
theorem oSl_tup {lo hi : Option Int} : oSl (.tup l) lo hi k = k (.tup (cutD l lo hi)) := rfl
theorem oSl_lst {lo hi : Option Int} : oSl (.lst l) lo hi k = k (.lst (cutD l lo hi)) := rfl
theorem oSlL_lst {lo hi : Option Int} : oSlL (.lst l) lo hi kl = kl (cutD l lo hi) := rfl
theorem oRev_tup : oRev (.tup l) k = k (.tup l.reverse) := rfl
theorem oRevL_lst : oRevL (.lst l) kl = kl l.reverse := rfl
theorem oZip_lst : oZip (.lst l) (.lst r) kl = kl (zipD l r) := rfl
theorem oZip_tup : oZip (.tup l) (.tup r) kl = kl (zipD l r) := rfl
theorem oEnu_lst : oEnu (.lst l) kl = kl (enD 0 l) := rfl
theorem oEnu_tup : oEnu (.tup l) kl = kl (enD 0 l) := rfl
theorem oExt_lst : oExt (.lst l) kl = kl l := rfl
theorem oPut_int {f : Nat → Prop} : oPut l (.int i) f = ∃ j, L2.ixN l.length i = some j ∧ f j := rfl
theorem oEqA_str : oEqA (.str s) (.str t) k = k (.bl (decide (s = t))) := rfl
theorem oNeA_str : oNeA (.str s) (.str t) k = k (.bl (!decide (s = t))) := rfl
theorem oEqA_int : oEqA (.int i) (.int j) k = ((true = true ∧ true = true) ∧ k (.bl (D.eqb (.int i) (.int j)))) := rfl
theorem oNeA_int : oNeA (.int i) (.int j) k = ((true = true ∧ true = true) ∧ k (.bl (!D.eqb (.int i) (.int j)))) := rfl
theorem wO1_int {m : Option Int → Prop} {f : (D → Prop) → Prop} : wO1 f m = f (fun d => match d with | .int i => m (some i) | _ => False) := rfl
end
/-- `sizeOf_list_dec`: a mirror's goal is computed on -/
local macro_rules | `(tactic| sizeOf_list_dec) => `(tactic| try dsimp only [wv, wl, w1, w2, w1L, w2L, wnil, wcons, wA, wAL, wTb, wAnd, wOr, wNt, wAndV, wOrV, wIf, wChain, wTt, wNotV, wTup, wLst, wO0, wO1, wSl, wSlL, wRg1, wRg2, wRgL, wRgT, wSeq, wRg, wYes, wEn, wEd, wEl, on2, on3, kdD, kdL, wAX, wAXL, xTry, wIsi, wJoin, wEnu, wZip, wRevI, lnd, lndL,
  mk0, mk1, mk2, mk3, mk4, mk5, mk6, mkx0, mkx1, mkx2, mkx3, mkx4, mkx5, mkx6, wB, if_t, if_f, not_t, not_f, oTru_bl, oTru_int, oTru_lst, oTru_tup, oTru_non, oCmp_int, oAdd_int, oAdd_tup, oAdd_lst, oAdd_str, oAddL_lst, oAddI_int, oSub_int, oMul_int, oMul_lst, oMulL_lst, oMod_int, oDiv_int, oPow_int, oNeg_int, oAbs_int, oInt_int, oInt_bl, oRg1_int, oRg2_int,
  oIx_lst, oIx_tup, oLen_lst, oLen_tup, oMin2_int, oMax2_int, oItems_tup, oItems_lst, oTupOf_lst, oTupOf_tup, oListOf_lst, oListOf_tup, oSl_tup, oSl_lst, oSlL_lst, oRev_tup, oRevL_lst, oZip_lst, oZip_tup, oEnu_lst, oEnu_tup, oExt_lst, oPut_int, oEqA_str, oNeA_str])
example (k : D → Prop) (b : Bool) (h : k (.bl b)) : (wIf (wTb (wv (.bl true))) (wv (.bl b)) (wv .non)) k := by
  sizeOf_list_dec
  exact h
end FE
set_option Elab.async false
set_option linter.all false
set_option maxRecDepth 100000
set_option maxHeartbeats 4000000
/-! try with several clauses; insert. -/
namespace FE
open PySem L2 PySem.Spec
open Evl (Ex)
section
variable {X : Cx} {g : Gv} {bs bx : List B} {n b c : Jn} {r : Rt} {y : Xd} {W : WX} {rest body : List Stmt} {h1 : ExceptHandler} {hl : List ExceptHandler} {l : List KY.Way} {pos : Pos} {Pb : Prop} {x : Xd}
def tsW (X : Cx) (g : Gv) (bs : List B) (j b c : Jn) (r : Rt) (Ph : Str → List (Str × D) → Prop) (ob : Addr → List B) : Addr → Value → Option Addr → TS := fun a cls d En σ H =>
  ∃ (A' : Hp) (c0 : Str) (fs : List (Str × D)) (_ : Ex g.A A'), ExIs X.K g.cm A' cls d c0 fs ∧ tS X.K (g.an A') (ob a) j b c r (Ph c0 fs) En σ H
/-- the clauses, by data -/
inductive FWays (X : Cx) (g : Gv) (bx : List B) (j b c : Jn) (r : Rt) (y : Xd) : List ExceptHandler → List KY.Way → Xd → Prop
  | nil : FWays X g bx j b c r y [] [] y
  | plain {cx : Str} {cn : Str} {Ph : Str → List (Str × D) → Prop} {b0 : Stmt} {suite : List Stmt} {np q : Pos} {hl : List ExceptHandler} {l : List KY.Way} {x : Xd} (hc : Names X cx (.ref (g.cm.ad cn))) (hce : cn ∈ g.cm.exs)
      (hsu : ∀ (A' : Hp) (_ : Ex g.A A') (c0 : Str) (fs : List (Str × D)) (a : Addr) (oe : Obj) (cls : Value) (d : Option Addr) (pn : List (Addr × Obj)), ExIs X.K g.cm A' cls d c0 fs → Zc cls d oe → (∃ vs, oe.data = .fields vs) → PSs (X.suite a ((a, oe) :: pn)) (b0 :: suite) (tS X.K (g.an A') bx j b c r (Ph c0 fs)))
      (rr : FWays X g bx j b c r y hl l x) : FWays X g bx j b c r y (.ExceptHandler (some (.Name cx np)) none (b0 :: suite) q :: hl) ((.ref (g.cm.ad cn), none, tsW X g bx j b c r Ph fun _ => bx) :: l) (xTry cn Ph x)
  | named {cx nn : Str} {cn : Str} {i : Nat} {Ph : Str → List (Str × D) → Prop} {b0 : Stmt} {suite : List Stmt} {np q : Pos} {hl : List ExceptHandler} {l : List KY.Way} {x : Xd} (hc : Names X cx (.ref (g.cm.ad cn))) (hce : cn ∈ g.cm.exs) (hi : X.N[i]? = some nn) (hk : X.env.kindOf nn = some .local)
      (hjn : ∀ s, (j.f s).set i .any = j.f s) (hjb : ∀ s, (b.f s).set i .any = b.f s) (hjc : ∀ s, (c.f s).set i .any = c.f s)
      (hsu : ∀ (A' : Hp) (_ : Ex g.A A') (c0 : Str) (fs : List (Str × D)) (a : Addr) (oe : Obj) (cls : Value) (d : Option Addr) (pn : List (Addr × Obj)), ExIs X.K g.cm A' cls d c0 fs → Zc cls d oe → (∃ vs, oe.data = .fields vs) → PSs (X.suite a ((a, oe) :: pn)) (b0 :: suite) (tS X.K (g.an A') (bx.set i (.raw (.ref a))) j b c r (Ph c0 fs)))
      (rr : FWays X g bx j b c r y hl l x) : FWays X g bx j b c r y (.ExceptHandler (some (.Name cx np)) (some nn) (b0 :: suite) q :: hl) ((.ref (g.cm.ad cn), some i, tsW X g bx j b c r Ph fun a => bx.set i (.raw (.ref a))) :: l) (xTry cn Ph x)
theorem FWays.ok {j : Jn} (h : FWays X g bx j b c r y hl l x) : KY.WaysOk X hl l := by
  induction h with
  | nil => exact .nil
  | plain hc hce hsu rr ih => exact .plain hc (fun a oe cls d pn hz hf => ⟨fun pins s σ H E I ⟨A', c0, fs, eA, ei, q⟩ => (hsu A' eA c0 fs a oe cls d pn ei hz hf).run pins s σ H E I q⟩) ih
  | named hc hce hi hk hjn hjb hjc hsu rr ih => exact .named hc hi hk (fun a oe cls d pn hz hf => ⟨fun pins s σ H E I ⟨A', c0, fs, eA, ei, q⟩ => (hsu A' eA c0 fs a oe cls d pn ei hz hf).run pins s σ H E I q⟩) ih
theorem FWays.xok {j : Jn} {E : Ends} (am : Am X g bx y W) (nx : nxJ X.K g j E.nx) (hbk : nxJ X.K g b E.bk) (hct : nxJ X.K g c E.ct) (hrt : RtOk X.K g r E.rt) (h : FWays X g bx j b c r y hl l x) : XOk X.K g bx x (KY.wWays X.K W E l) := by
  induction h with
  | nil => exact am.ok
  | @plain cx cn Ph b0 suite np q hl l x hc hce hsu rr ih =>
    intro c0 fs cls d σ F H hx sa ei
    obtain ⟨xf, ec⟩ : ∃ xf : XF X.K g.cm c0, cls = .ref (g.cm.ad c0) := by
      cases ei with
      | bare x => exact ⟨x, rfl⟩
      | one x no h i => exact ⟨x, rfl⟩
    refine ⟨subX c0 cn, by rw [ec]; exact xf.xm cn hce, fun ht a na => ?_, fun hf => ?_⟩
    · have hx' : Ph c0 fs := by
        have := hx
        unfold xTry at this
        rwa [if_pos ht] at this
      have un : ∀ {j : Jn} {nx : L2.St → Hp → Prop}, nxJ X.K g j nx → nxJ X.K (g.an F) j nx := fun {j nx} h s σ F H sb k => h s σ F H (sb.unan sa.an) k
      exact ⟨F, c0, fs, sa.an, ei, hx', ⟨F, sa.anch (Ex.refl F)⟩, un nx, un hbk, un hct, hrt.an⟩
    · have hx' : x c0 fs := by
        have := hx
        unfold xTry at this
        rwa [if_neg (by rw [hf]; exact Bool.false_ne_true)] at this
      exact ih c0 fs cls d σ F H hx' sa ei
  | @named cx nn cn i Ph b0 suite np q hl l x hc hce hi hk hjn hjb hjc hsu rr ih =>
    intro c0 fs cls d σ F H hx sa ei
    obtain ⟨xf, ec⟩ : ∃ xf : XF X.K g.cm c0, cls = .ref (g.cm.ad c0) := by
      cases ei with
      | bare x => exact ⟨x, rfl⟩
      | one x no h i => exact ⟨x, rfl⟩
    refine ⟨subX c0 cn, by rw [ec]; exact xf.xm cn hce, fun ht a na => ?_, fun hf => ?_⟩
    · have hx' : Ph c0 fs := by
        have := hx
        unfold xTry at this
        rwa [if_pos ht] at this
      have sa2 := (sa.setR (i := i) (v := .ref a)).anch (Ex.refl F)
      exact ⟨F, c0, fs, sa.an, ei, hx', ⟨F, sa2⟩, nx.gone sa.an hjn, hbk.gone sa.an hjb, hct.gone sa.an hjc, hrt.an⟩
    · have hx' : x c0 fs := by
        have := hx
        unfold xTry at this
        rwa [if_neg (by rw [hf]; exact Bool.false_ne_true)] at this
      exact ih c0 fs cls d σ F H hx' sa ei
/-- try with clauses of any number -/
theorem s_tryW {S : Type} {f : S → List B} {kr : S → Prop} {Pb : (S → Prop) → Prop} {xs : (S → Prop) → Xd} {ls : (S → Prop) → List KY.Way} (am : Am X g bx y W) (hs : X.stack = X.env :: X.outer) (hf : X.env.frame = some X.env.locals) (hN : X.N.Nodup) (hle : Le bs bx)
    (hb : ∀ (kj : S → Prop) (W' : WX) (pn : List (Addr × Obj)) (xe : Value → Shared → Prop), Am (X.tr pn xe) g bx (xs kj) W' → PassesOwn (model X.prog X.w) X.A X.env xe → PSs (X.tr pn xe) body (tS X.K g bs ⟨S, f, kj⟩ b c r (Pb kj)))
    (hw : ∀ kj : S → Prop, FWays X g bx ⟨S, f, kj⟩ b c r y (h1 :: hl) (ls kj) (xs kj))
    (hr : ∀ s : S, PSs X rest (tS X.K g (f s) n b c r (kr s))) :
    PSs X (.Try body (h1 :: hl) [] [] pos :: rest) (tS X.K g bs n b c r (Pb kr)) := by
  refine cons_of (α := S) (bs' := f) (P' := kr) (KY.ps_try_ways (W0 := W) (l := ls kr) (tb := fun W' En σ H => XOk X.K g bx (xs kr) W' ∧ tS X.K g bs ⟨S, f, kr⟩ b c r (Pb kr) En σ H) hs hf hN am.tk
    (fun W' pn xe tk po => pss_and fun xo => hb kr W' pn xe ⟨tk, xo⟩ po) (hw kr).ok) hr fun E σ H ⟨p, sa, hn, hbk, hct, hrt⟩ => ?_
  have nx : nxJ X.K g (⟨S, f, kr⟩ : Jn) (fun σ' H' => ∃ a : S, kr a ∧ ∃ F, Sat X.K g (f a) σ' F H') := fun s σ F H sa k => ⟨s, k, F, sa⟩
  exact ⟨(hw kr).xok (E := ⟨fun σ' H' => ∃ a : S, kr a ∧ ∃ F, Sat X.K g (f a) σ' F H', E.rt, E.bk, E.ct⟩) am nx hbk hct hrt, p, sa, nx, hbk, hct, hrt⟩
end
/-! ### str(int) -/
def oStr : List D → (D → Prop) → Prop
  | [.int i], k => i.natAbs.log2 < 1920 ∧ k (.str (toString i))
  | _, _ => False
theorem c_str {K : PySem.W.Frag} {g : Gv} : RCD K g (fun xs H Q => ∃ i, xs = [.int i] ∧ i.natAbs.log2 < 1920 ∧ Q (.str (toString i)) H) oStr := by
  intro vs ds F H k Q ex iv f q
  unfold oStr at f
  split at f
  · obtain ⟨v, rfl, h1⟩ := iv.one
    rw [h1.int]
    exact ⟨_, rfl, f.1, ret0 ex (.str _) f.2 q⟩
  · exact f.elim
/-! ### insert -/
def oIns (d : D) (k : Nat → Prop) : Prop := match d with
  | .int i => (0 ≤ i ∧ i ≤ 100000) ∧ k i.toNat
  | _ => False
section
variable {X : Cx} {g : Gv} {bs : List B} {n b c : Jn} {r : Rt} {rest : List Stmt} {x : Str} {p1 apos cpos pos : Pos} {i : Nat} {e1 e2 : Expr} {m1 m2 : (D → Prop) → Prop} {ds : List D}
theorem s_ins {P : D → Nat → Prop} {bs' : D → Nat → List B} (hx : PE X (.Name x p1) (tVar i)) (h1 : PE X e1 (tR X.K g bs m1)) (h2 : PE X e2 (tM X.K g bs m2)) (hr : ∀ d k, PSs X rest (tS X.K g (bs' d k) n b c r (P d k))) (hb : bs[i]? = some (.own ds) := by rfl) (hbs : ∀ d k, bs.set i (.own (ds.take k ++ d :: ds.drop k)) = bs' d k := by intro _ _; rfl)
    (hbase : attributeBase (.Name x p1) "insert" X.env (eval (.Name x p1) X.env) = eval (.Name x p1) X.env := by rfl)
    (hfew : ((backTo cpos (starEach [e1, e2] X.env)).all (fun x => !x.1) && (backToKw cpos (keywordEach [] X.env)).all (fun x => x.1.isSome) && decide ([e1, e2].length + ([] : List Keyword).length + (if ([] : List Keyword).isEmpty then 0 else 1) < 30)) = true := by rfl)
    (hline : (apos.endLine == cpos.line) = true := by rfl) (hs1 : starEach [e1, e2] X.env = (false, eval e1 X.env) :: starEach [e2] X.env := by rfl) (hs2 : starEach [e2] X.env = (false, eval e2 X.env) :: starEach [] X.env := by rfl) (hplain : (backTo cpos (starEach [e2] X.env)).any (·.1) = false := by rfl)
    (hsw : swapsWith (.Call (.Attribute (.Name x p1) "insert" apos) [e1, e2] [] cpos) none pos.line X.env = pure false := by rfl) :
    PSs X (.Expr (.Call (.Attribute (.Name x p1) "insert" apos) [e1, e2] [] cpos) pos :: rest) (tS X.K g bs n b c r (m1 fun z => m2 fun d => oIns z fun k => ds.length < 100000 ∧ P d k)) := by
  refine cons_of (α := D × Nat) (bs' := fun a => bs' a.1 a.2) (P' := fun a => P a.1 a.2) (ps_expr (pe_bm PySem.F.plainAttrs_list PySem.F.slot_list_insert PySem.F.type_list_insert KZ.mt_insert hx (pa_cons h1 (pa_cons h2 pa_nil hs2) hs1) hbase hfew hline hs1 hplain) hsw) (fun a => hr a.1 a.2) fun E σ H ⟨p, ⟨F, sa⟩, q⟩ => ?_
  obtain ⟨a, vs, g1, g2, g3, g4, g5⟩ := sa.getO hb
  refine ⟨_, g1, ty_own g2, F, _, sa, p, fun z v F1 H1 kz st1 iv1 => ⟨F1, _, sa.step st1, kz, fun d w F2 H2 kd st2 iw => ?_⟩⟩
  have st := st1.trans st2
  have g2' := st.kpL g2 fun p e => (g5 p e).1
  have lv := g3.len
  cases z with
  | int k =>
    obtain ⟨⟨k0, k1⟩, lz, pd⟩ := kd
    refine ⟨a, vs, k, w, rfl, by rw [iv1.int], g2', k0, k1, Nat.lt_of_le_of_lt (show vs.length ≤ 100000 by omega) (by decide), (d, k.toNat), pd, F2, ?_⟩
    rw [← hbs d]
    have ia := g3.mono st.ff
    exact (sa.step st).mutO hb g1 ((ia.take k.toNat).app (.cons iw (ia.drop k.toNat)))
  | _ => exact kd.elim
end
end FE
set_option Elab.async false
set_option linter.all false
set_option maxRecDepth 100000
set_option maxHeartbeats 4000000
/-! == and != where objects of the program's classes are met. -/
namespace FE
open PySem L2 PySem.Spec
open Evl (Ex)
/-- a class with an == of its own -/
structure EqC (K : PySem.W.Frag) (cm : Cm) (c : Str) (f : Addr) : Prop where
  hs : PySem.W.findIn K (.ref (cm.ad c)) "__eq__" = some (some (.ref f))
  hf : PySem.W.isFn K (.ref f) = true
  hn : PySem.W.findIn K (.ref (cm.ad c)) "__ne__" = some (some (.builtin "object.__ne__"))
  im : PySem.W.mroIn K (cm.ad c) (.type "object") = some true
  nf : ∀ n ∈ ["NoneType", "int", "bool", "str", "tuple", "list", "dict"], PySem.W.notFirst K (cm.ad c) (.type n) = true
/-- whether it is an object of another class -/
def othO (c : Str) : D → Bool
  | .obj c' _ _ => !decide (c' = c)
  | .dit _ _ => true
  | .cod _ => true
  | _ => false
def oEqO (c : Str) (m : D → D → (D → Prop) → Prop) (d e : D) (k : D → Prop) : Prop := match d with
  | .obj c' _ _ => (c' = c ∧ othO c e = false) ∧ m d e fun z => ∃ b, z = .bl b ∧ k (.bl b)
  | _ => oEqA d e k
def oNeO (c : Str) (m : D → D → (D → Prop) → Prop) (d e : D) (k : D → Prop) : Prop := match d with
  | .obj c' _ _ => (c' = c ∧ othO c e = false) ∧ m d e fun z => ∃ b, z = .bl b ∧ k (.bl (!b))
  | _ => oNeA d e k
section
variable {K : PySem.W.Frag} {g : Gv} {F H : Hp} {v w : V} {d e : D} {c : Str} {f : Addr}
theorem eqc_first (ec : EqC K g.cm c f) (ex : Ex F H) (h : Is K g.cm F w e) (no : othO c e = false) : ∃ u, TyX K H w u ∧ PySem.W.notFirst K (g.cm.ad c) u = true := by
  rcases (Rs.is (g := g) (H := H) h).tyX ex (fun ks vs z => by subst z; cases no) (fun x z => by subst z; cases no) with ⟨c', ns, fs, rfl, cf, ty⟩ | ⟨n, ty⟩
  · refine ⟨_, ty, ?_⟩
    have e : c' = c := by
      have no' : (!decide (c' = c)) = false := no
      cases q : decide (c' = c) with
      | true => exact of_decide_eq_true q
      | false => rw [q] at no'; cases no'
    subst e
    unfold PySem.W.notFirst
    simp
  · refine ⟨_, ty, ec.nf _ ?_⟩
    cases e with
    | obj c ns fs => exact absurd rfl (n c ns fs)
    | cod x => cases no
    | _ => simp [kdT]
theorem rO_of {m : D → D → (D → Prop) → Prop} (neg : Bool) (ec : EqC K g.cm c f) (ex : Ex F H) (tn : LamX.Tabs g.cm.tb H ∧ NoT F) (hv : Is K g.cm F v d) (hw : Is K g.cm F w e) {c' : Str} {ns : List Str} {fs : List D} (ed : d = .obj c' ns fs) (e1 : c' = c) (no : othO c e = false) {k : D → Prop} {Q : VK}
    (hm : m d e fun z => ∃ b, z = .bl b ∧ k (.bl (if neg then !b else b))) (q : ∀ z u F' H', k z → Stp g.hd g.cm.tb F H F' H' → Is K g.cm F' u z → Q u H') : KW.rO K (g.cm.ad c) (spM K g.cm false (mk2 m)) neg v w H Q := by
  subst ed e1
  obtain ⟨u, ty, nf⟩ := eqc_first ec ex hw no
  cases hv with
  | obj h cf hn qa =>
    refine ⟨_, _, _, u, rfl, ex _ _ h, ty, nf, ?_⟩
    refine ⟨none, F, [_, w], [_, e], ⟨fun z => ∃ b, z = .bl b ∧ k (.bl (if neg then !b else b)), fun _ => False⟩, ex, tn, (fun p e => nomatch e), rfl, rfl, .cons (.obj h cf hn qa) (.cons hw .nil), hm, fun z u F' H' hz st iz => ?_, fun _ _ _ _ _ h => h.elim⟩
    obtain ⟨b, rfl, kb⟩ := hz
    refine ⟨b, iz.bl_inv, q _ _ F' H' kb st.none_hd (.bl _)⟩
end
section
variable {X : Cx} {g : Gv} {bs : List B} {a b : Expr} {pos : Pos} {ma mb : (D → Prop) → Prop} {c : Str} {f : Addr} {fd : FuncData} {ps : List Str} {n : Nat} {m : D → D → (D → Prop) → Prop}
theorem eq_core (ec : EqC X.K g.cm c f) (neg : Bool) (r : R2) (hr : R2D X.K g r (if neg then oNeA else oEqA)) (σ : L2.St) (H : Hp) (Q : VK) (h : tM X.K g bs (w2 ((if neg then oNeO else oEqO) c m) ma mb) σ H Q) : tOp (fun x y H Q => KW.rO X.K (g.cm.ad c) (spM X.K g.cm false (mk2 m)) neg x y H Q ∨ r x y H Q) (tM X.K g bs ma) (tM X.K g bs mb) σ H Q := by
  obtain ⟨F, k, s, hm, q⟩ := h
  refine ⟨F, _, s, hm, fun d v F1 H1 kd st iv => ⟨F1, _, s.step st, kd, fun e w F2 H2 ke st2 iw => ?_⟩⟩
  have iv2 := iv.mono st2.ff
  have s2 := s.step (st.trans st2)
  have tn : LamX.Tabs g.cm.tb H2 ∧ NoT F2 := ⟨s2.tb, s2.nt⟩
  have fin : ∀ z u F' H', k z → Stp g.hd g.cm.tb F2 H2 F' H' → Is X.K g.cm F' u z → Q u H' := fun z u F' H' kz st3 iz => q z u F' H' kz (st.trans (st2.trans st3)) iz
  cases neg with
  | false =>
    have ke' : oEqO c m d e k := ke
    cases d with
    | obj c' ns fs => exact .inl (rO_of false ec st2.fh tn iv2 iw rfl ke'.1.1 ke'.1.2 ke'.2 fin)
    | _ => exact .inr (hr v w _ e F2 H2 k Q st2.fh (.is iv2) (.is iw) ke' fin)
  | true =>
    have ke' : oNeO c m d e k := ke
    cases d with
    | obj c' ns fs => exact .inl (rO_of true ec st2.fh tn iv2 iw rfl ke'.1.1 ke'.1.2 ke'.2 fin)
    | _ => exact .inr (hr v w _ e F2 H2 k Q st2.fh (.is iv2) (.is iw) ke' fin)
theorem e_eqO (ec : EqC X.K g.cm c f) (Fn : KG.FnG X.prog X.w X.K X.mg X.base n f fd ps (spM X.K g.cm false (mk2 m))) (hgd : X.A.guards = some []) (hb : Binds X.K fd ps []) (hr : Room n X.A) (hu : X.A.units + 64 < cLine) (h1 : PE X a (tM X.K g bs ma)) (h2 : PE X b (tM X.K g bs mb)) (hm : behindInMarks .Eq b = false) :
    PE X (.Compare a [.Eq] [b] pos) (tM X.K g bs (w2 (oEqO c m) ma mb)) :=
  PE.imp (pe_cmpR (OpR.or (KW.op_eqO Fn hgd ec.hs ec.hf hb hr) (op_eqA hu)) h1 h2 hm) (eq_core ec false _ d_eqA)
theorem e_neO (ec : EqC X.K g.cm c f) (Fn : KG.FnG X.prog X.w X.K X.mg X.base n f fd ps (spM X.K g.cm false (mk2 m))) (hgd : X.A.guards = some []) (hb : Binds X.K fd ps []) (hr : Room (n + 1) X.A) (hu : X.A.units + 64 < cLine) (h1 : PE X a (tM X.K g bs ma)) (h2 : PE X b (tM X.K g bs mb)) (hm : behindInMarks .NotEq b = false) :
    PE X (.Compare a [.NotEq] [b] pos) (tM X.K g bs (w2 (oNeO c m) ma mb)) :=
  PE.imp (pe_cmpR (OpR.or (KW.op_neO Fn hgd ec.im ec.hs ec.hn ec.hf hb hr) (op_neA hu)) h1 h2 hm) (eq_core ec true _ d_neA)
theorem t_eqO (ec : EqC X.K g.cm c f) (Fn : KG.FnG X.prog X.w X.K X.mg X.base n f fd ps (spM X.K g.cm false (mk2 m))) (hgd : X.A.guards = some []) (hb : Binds X.K fd ps []) (hr : Room n X.A) (hu : X.A.units + 64 < cLine) (h1 : PE X a (tM X.K g bs ma)) (h2 : PE X b (tM X.K g bs mb)) (hm : behindInMarks .Eq b = false) :
    PT X (.Compare a [.Eq] [b] pos) (tT X.K g bs (wTb (w2 (oEqO c m) ma mb))) :=
  PT.imp (pt_cmpR (OpR.or (KW.op_eqO Fn hgd ec.hs ec.hf hb hr) (op_eqA hu)) h1 h2 hm) (tst_core (eq_core ec false _ d_eqA))
theorem t_neO (ec : EqC X.K g.cm c f) (Fn : KG.FnG X.prog X.w X.K X.mg X.base n f fd ps (spM X.K g.cm false (mk2 m))) (hgd : X.A.guards = some []) (hb : Binds X.K fd ps []) (hr : Room (n + 1) X.A) (hu : X.A.units + 64 < cLine) (h1 : PE X a (tM X.K g bs ma)) (h2 : PE X b (tM X.K g bs mb)) (hm : behindInMarks .NotEq b = false) :
    PT X (.Compare a [.NotEq] [b] pos) (tT X.K g bs (wTb (w2 (oNeO c m) ma mb))) :=
  PT.imp (pt_cmpR (OpR.or (KW.op_neO Fn hgd ec.im ec.hs ec.hn ec.hf hb hr) (op_neA hu)) h1 h2 hm) (tst_core (eq_core ec true _ d_neA))
end
end FE
set_option Elab.async false
set_option linter.all false
set_option maxRecDepth 100000
set_option maxHeartbeats 4000000
/-! Mathematics of mirrors, for all laws. -/
namespace FE
open PySem
section
variable {k : D → Prop} {kl : List D → Prop} {a b c d e : D} {l r : List D} {i j : Int}
theorem atI_0 {α : Type} {a : α} {l : List α} : L2.atI (a :: l) 0 = some a := L2.atI_nat (j := 0) rfl
theorem atI_1 {α : Type} {a b : α} {l : List α} : L2.atI (a :: b :: l) 1 = some b := L2.atI_nat (j := 1) rfl
theorem atI_2 {α : Type} {a b c : α} {l : List α} : L2.atI (a :: b :: c :: l) 2 = some c := L2.atI_nat (j := 2) rfl
theorem at_of {α : Type} {l : List α} {z : Int} (h0 : 0 ≤ z) (h1 : z < l.length) : ∃ x, L2.atI l z = some x ∧ x ∈ l := by
  obtain ⟨n, rfl⟩ := Int.eq_ofNat_of_zero_le h0
  have hn : n < l.length := by omega
  exact ⟨l[n], L2.atI_nat (List.getElem?_eq_getElem hn), List.getElem_mem hn⟩
theorem at_get {α : Type} {l : List α} {n : Nat} (h : n < l.length) : L2.atI l (n : Int) = some l[n] := L2.atI_nat (List.getElem?_eq_getElem h)
theorem eqb_int : D.eqb (.int i) (.int j) = decide (i = j) := by
  show (i == j) = _
  by_cases c : i = j <;> simp [c]
theorem oEqA_int' : oEqA (.int i) (.int j) k = k (.bl (decide (i = j))) := by
  show (((D.int i).can 64 = true ∧ (D.int j).can 64 = true) ∧ k (.bl (D.eqb (.int i) (.int j)))) = _
  rw [eqb_int]
  simp [D.can]
theorem oNeA_int' : oNeA (.int i) (.int j) k = k (.bl (!decide (i = j))) := by
  show (((D.int i).can 64 = true ∧ (D.int j).can 64 = true) ∧ k (.bl (!D.eqb (.int i) (.int j)))) = _
  rw [eqb_int]
  simp [D.can]
theorem oEqA_bl' {x y : Bool} : oEqA (.bl x) (.bl y) k = k (.bl (x == y)) := by
  show (((D.bl x).can 64 = true ∧ (D.bl y).can 64 = true) ∧ k (.bl (D.eqb (.bl x) (.bl y)))) = _
  simp [D.can, D.eqb]
theorem oNeA_bl' {x y : Bool} : oNeA (.bl x) (.bl y) k = k (.bl (!(x == y))) := by
  show (((D.bl x).can 64 = true ∧ (D.bl y).can 64 = true) ∧ k (.bl (!D.eqb (.bl x) (.bl y)))) = _
  simp [D.can, D.eqb]
end
theorem xHit {cn c : Str} {Ph : Str → List (Str × D) → Prop} {y : Xd} {fs : List (Str × D)} (e : subX c cn = true) (h : Ph c fs) : xTry cn Ph y c fs := by
  show if subX c cn = true then _ else _
  rw [if_pos e]
  exact h
theorem xMiss {cn c : Str} {Ph : Str → List (Str × D) → Prop} {y : Xd} {fs : List (Str × D)} (e : subX c cn = false) (h : y c fs) : xTry cn Ph y c fs := by
  show if subX c cn = true then _ else _
  rw [if_neg (by rw [e]; exact Bool.false_ne_true)]
  exact h
/-! ### draws -/
theorem u_draw {m : Int} {k : D → Prop} (h0 : 0 < m) (h1 : m < 1073741824) (h : ∀ z, 0 ≤ z → z < m → k (.int z)) : m_draw (.int m) k := ⟨⟨h0, h1⟩, h⟩
/-! ### comprehensions -/
theorem lcW_any {f : D → (Option D → Prop) → Prop} {P : D → Prop} {k : List D → Prop} : ∀ {items acc : List D}, (∀ x ∈ items, ∀ ko : Option D → Prop, (∀ d, P d → ko (some d)) → f x ko) → (∀ l : List D, l.length = items.length → (∀ d ∈ l, P d) → k (acc ++ l)) → lcW f items acc k
  | [], acc, _, h => by
    have := h [] rfl (fun d hd => nomatch hd)
    rw [List.append_nil] at this
    exact this
  | x :: r, acc, hf, h => by
    refine hf x List.mem_cons_self _ fun d pd => ?_
    refine lcW_any (fun y hy => hf y (List.mem_cons_of_mem _ hy)) fun l hl hp => ?_
    rw [List.append_assoc]
    exact h (d :: l) (by simp [hl]) fun e he => (List.mem_cons.mp he).elim (fun z => by rw [z]; exact pd) (hp e)
/-- a comprehension whose items are drawn: each one has P -/
theorem u_lcP {α : Type} {enc : α → D} {items : List D} {mc : α → (Bool → Prop) → Prop} {me : α → (D → Prop) → Prop} {k : List D → Prop} (P : D → Prop) (hl : items.length ≤ 100000) (h : ∀ x ∈ items, ∃ a, x = enc a ∧ ∀ k' : D → Prop, (∀ d, P d → k' d) → me a k') (hk : ∀ l : List D, l.length = items.length → (∀ d ∈ l, P d) → k l) :
    wLc enc (fun k => k items) (fun _ => wYes) me k := by
  refine ⟨hl, lcW_any (P := P) (fun x hx ko hko => ?_) fun l h1 h2 => ?_⟩
  · obtain ⟨a, e, q⟩ := h x hx
    exact ⟨a, e, q _ fun d pd => hko d pd⟩
  · rw [List.nil_append]
    exact hk l h1 h2
/-- a comprehension that tells a function of each item -/
theorem u_lcM {α : Type} {enc : α → D} {items : List D} {mc : α → (Bool → Prop) → Prop} {me : α → (D → Prop) → Prop} {k : List D → Prop} (g : D → D) (hl : items.length ≤ 100000) (h : ∀ x ∈ items, ∃ a, x = enc a ∧ ∀ k' : D → Prop, k' (g x) → me a k') (hk : k (items.map g)) :
    wLc enc (fun k => k items) (fun _ => wYes) me k := by
  refine ⟨hl, lcW_map (g := g) (fun x hx ko hko => ?_) hk⟩
  obtain ⟨a, e, q⟩ := h x hx
  exact ⟨a, e, q _ hko⟩
theorem lcW_filter {f : D → (Option D → Prop) → Prop} {p : D → Bool} {g : D → D} {k : List D → Prop} : ∀ {items acc : List D}, (∀ x ∈ items, ∀ ko : Option D → Prop, (if p x = true then ko (some (g x)) else ko none) → f x ko) → k (acc ++ (items.filter p).map g) → lcW f items acc k
  | [], acc, _, h => by
    rw [List.filter_nil, List.map_nil, List.append_nil] at h
    exact h
  | x :: r, acc, hf, h => by
    refine hf x List.mem_cons_self _ ?_
    have ih := fun acc => lcW_filter (acc := acc) (k := k) (p := p) (g := g) fun y hy => hf y (List.mem_cons_of_mem _ hy)
    cases c : p x with
    | true =>
      rw [if_pos rfl]
      refine ih _ ?_
      rw [List.filter_cons_of_pos c, List.map_cons] at h
      rw [List.append_assoc]
      exact h
    | false =>
      rw [if_neg Bool.false_ne_true]
      refine ih _ ?_
      rw [List.filter_cons_of_neg (by rw [c]; exact Bool.false_ne_true)] at h
      exact h
/-- a comprehension with a test -/
theorem u_lcF {α : Type} {enc : α → D} {items : List D} {mc : α → (Bool → Prop) → Prop} {me : α → (D → Prop) → Prop} {k : List D → Prop} (p : D → Bool) (g : D → D) (hl : items.length ≤ 100000) (h : ∀ x ∈ items, ∃ a, x = enc a ∧ (∀ k' : Bool → Prop, k' (p x) → mc a k') ∧ ∀ k' : D → Prop, k' (g x) → me a k') (hk : k ((items.filter p).map g)) :
    wLc enc (fun k => k items) mc me k := by
  refine ⟨hl, lcW_filter (p := p) (g := g) (fun x hx ko hko => ?_) hk⟩
  obtain ⟨a, e, q1, q2⟩ := h x hx
  refine ⟨a, e, q1 _ ?_⟩
  cases c : p x with
  | true =>
    rw [c, if_pos rfl] at hko
    show if true = true then _ else _
    rw [if_pos rfl]
    exact q2 _ hko
  | false =>
    rw [c, if_neg Bool.false_ne_true] at hko
    show if false = true then _ else _
    rw [if_neg Bool.false_ne_true]
    exact hko
/-! ### all, any -/
theorem u_all {l : List D} {p : D → Bool} {k : D → Prop} (h : k (.bl (l.all p))) : oAll [.lst (l.map fun x => .bl (p x))] k := by
  refine ⟨l.map p, by rw [List.map_map]; rfl, ?_⟩
  rw [List.all_map]
  exact h
theorem u_any {l : List D} {p : D → Bool} {k : D → Prop} (h : k (.bl (l.any p))) : oAny [.lst (l.map fun x => .bl (p x))] k := by
  refine ⟨l.map p, by rw [List.map_map]; rfl, ?_⟩
  rw [List.any_map]
  exact h
/-! ### what is an integer, and where -/
def isInt : D → Bool
  | .int _ => true
  | _ => false
def btw (a b : Int) : D → Bool
  | .int i => decide (a ≤ i) && decide (i ≤ b)
  | _ => false
def blw (b : Int) : D → Bool
  | .int i => decide (0 ≤ i) && decide (i < b)
  | _ => false
/-- a loop that leaves with what is due of the first item with p -/
theorem forW_find {f : D → Unit → (Unit → Prop) → Prop} {k : Unit → Prop} {Out : D → Prop} (p : D → Bool) : ∀ {items : List D}, (∀ x ∈ items, ∀ q : Unit → Prop, (if p x = true then Out x else q ()) → f x () q) → (match items.find? p with | some x => Out x | none => k ()) → forW f items () k
  | [], _, h => h
  | x :: r, hf, h => by
    refine hf x List.mem_cons_self _ ?_
    cases c : p x with
    | true =>
      rw [List.find?_cons_of_pos c] at h
      rw [if_pos rfl]
      exact h
    | false =>
      rw [List.find?_cons_of_neg (by rw [c]; exact Bool.false_ne_true)] at h
      rw [if_neg Bool.false_ne_true]
      exact forW_find p (fun y hy => hf y (List.mem_cons_of_mem _ hy)) h
theorem forW_en {f : D → Unit → (Unit → Prop) → Prop} {k : Unit → Prop} {Out : Nat → Prop} (p : D → Bool) : ∀ {l : List D} {j : Nat}, (∀ i t, l[i]? = some t → ∀ q : Unit → Prop, (if p t = true then Out (j + i) else q ()) → f (.tup [.int ((j + i : Nat) : Int), t]) () q) → (match l.findIdx? p with | some i => Out (j + i) | none => k ()) → forW f (enD j l) () k
  | [], _, _, h => h
  | x :: r, j, hf, h => by
    refine hf 0 x rfl _ ?_
    rw [List.findIdx?_cons] at h
    cases c : p x with
    | true =>
      rw [c] at h
      rw [if_pos rfl]
      exact h
    | false =>
      rw [c, if_neg Bool.false_ne_true] at h
      rw [if_neg Bool.false_ne_true]
      refine forW_en (Out := Out) p (fun i t hi q hq => ?_) ?_
      · rw [show j + 1 + i = j + (i + 1) by omega] at hq ⊢
        exact hf (i + 1) t hi q hq
      · cases e : r.findIdx? p with
        | none => rw [e] at h; exact h
        | some i =>
          rw [e] at h
          show Out (j + 1 + i)
          rw [show j + 1 + i = j + (i + 1) by omega]
          exact h
theorem rgD_nil {a b : Int} (h : b ≤ a) : rgD a b = [] := by
  unfold rgD
  rw [show (b - a).toNat = 0 by omega]
  rfl
theorem rgD_cons {a b : Int} (h : a < b) : rgD a b = .int a :: rgD (a + 1) b := by
  unfold rgD
  rw [show (b - a).toNat = (b - (a + 1)).toNat + 1 by omega, List.range_succ_eq_map, List.map_cons, List.map_map]
  refine congr (congrArg _ (by simp)) (List.map_congr_left fun i _ => ?_)
  show D.int (a + ((i + 1 : Nat) : Int)) = D.int (a + 1 + (i : Int))
  congr 1
  omega
theorem forW_rg {f : D → Unit → (Unit → Prop) → Prop} {k : Unit → Prop} {Out : Nat → Prop} {α : Type} (p : α → Bool) : ∀ {l : List α} {j : Nat}, (∀ i t, l[i]? = some t → ∀ q : Unit → Prop, (if p t = true then Out (j + i) else q ()) → f (.int ((j + i : Nat) : Int)) () q) → (match l.findIdx? p with | some i => Out (j + i) | none => k ()) → forW f (rgD (j : Int) ((j + l.length : Nat) : Int)) () k
  | [], j, _, h => by
    rw [rgD_nil (by simp)]
    exact h
  | x :: r, j, hf, h => by
    rw [rgD_cons (by simp only [List.length_cons]; omega)]
    refine hf 0 x rfl _ ?_
    rw [List.findIdx?_cons] at h
    cases c : p x with
    | true =>
      rw [c] at h
      rw [if_pos rfl]
      exact h
    | false =>
      rw [c, if_neg Bool.false_ne_true] at h
      rw [if_neg Bool.false_ne_true]
      have := forW_rg (f := f) (k := k) (Out := Out) p (l := r) (j := j + 1) (fun i t hi q hq => ?_) ?_
      · rw [show ((j + (x :: r).length : Nat) : Int) = ((j + 1 + r.length : Nat) : Int) by simp only [List.length_cons]; omega]
        exact this
      · rw [show j + 1 + i = j + (i + 1) by omega] at hq ⊢
        exact hf (i + 1) t hi q hq
      · cases e : r.findIdx? p with
        | none => rw [e] at h; exact h
        | some i =>
          rw [e] at h
          show Out (j + 1 + i)
          rw [show j + 1 + i = j + (i + 1) by omega]
          exact h
theorem forW_rg0 {f : D → Unit → (Unit → Prop) → Prop} {k : Unit → Prop} {Out : Nat → Prop} {α : Type} (p : α → Bool) {l : List α} (hf : ∀ i t, l[i]? = some t → ∀ q : Unit → Prop, (if p t = true then Out i else q ()) → f (.int (i : Int)) () q) (h : match l.findIdx? p with | some i => Out i | none => k ()) : forW f (rgD 0 (l.length : Int)) () k := by
  have := forW_rg (f := f) (k := k) (Out := Out) p (l := l) (j := 0) (fun i t hi q hq => ?_) ?_
  · rw [Nat.zero_add] at this
    exact this
  · rw [Nat.zero_add] at hq ⊢
    exact hf i t hi q hq
  · cases e : l.findIdx? p with
    | none => rw [e] at h; exact h
    | some i => rw [e] at h; show Out (0 + i); rw [Nat.zero_add]; exact h
/-! ### cuts -/
theorem cutD_to {α : Type} (xs : List α) {k : Int} (h : 0 ≤ k) : cutD xs none (some k) = xs.take k.toNat := by
  obtain ⟨n, rfl⟩ := Int.eq_ofNat_of_zero_le h
  unfold cutD
  rw [HT.sIx_none, show HT.sIx xs.length xs.length (some (n : Int)) = min n xs.length from HT.sIx_nat _ _ n, List.drop_zero, Nat.sub_zero, Int.toNat_natCast]
  rcases Nat.le_total n xs.length with g | g
  · rw [Nat.min_eq_left g]
  · rw [Nat.min_eq_right g, List.take_of_length_le (Nat.le_refl _), List.take_of_length_le g]
theorem cutD_from {α : Type} (xs : List α) {k : Int} (h : 0 ≤ k) : cutD xs (some k) none = xs.drop k.toNat := by
  obtain ⟨n, rfl⟩ := Int.eq_ofNat_of_zero_le h
  unfold cutD
  rw [HT.sIx_none, show HT.sIx xs.length 0 (some (n : Int)) = min n xs.length from HT.sIx_nat _ _ n, Int.toNat_natCast]
  rcases Nat.le_total n xs.length with g | g
  · rw [Nat.min_eq_left g]
    exact List.take_of_length_le (by simp)
  · rw [Nat.min_eq_right g, List.drop_eq_nil_of_le g, List.drop_eq_nil_of_le (Nat.le_refl _)]
    exact List.take_nil
theorem cutD_sub {α : Type} {xs : List α} {lo hi : Option Int} {x : α} (h : x ∈ cutD xs lo hi) : x ∈ xs := List.drop_subset _ _ (List.take_subset _ _ h)
theorem cutD_len {α : Type} (xs : List α) (lo hi : Option Int) : (cutD xs lo hi).length ≤ xs.length := by
  unfold cutD
  rw [List.length_take, List.length_drop]
  omega
theorem enD_map : ∀ (l : List D) (j : Nat), enD j l = (l.zipIdx j).map fun p => D.tup [.int (p.2 : Nat), p.1]
  | [], _ => rfl
  | x :: r, j => by
    rw [List.zipIdx_cons, List.map_cons, ← enD_map r (j + 1)]
    rfl
/-! ### what repr may be asked -/
structure Nice (n W : Nat) (d : D) : Prop where
  can : d.can n = true
  sh : d.py.showable = true
  wt : d.wt ≤ W
structure NiceA (n W : Nat) (l : List D) : Prop where
  can : D.canAll n l = true
  sh : PyData.showableAll (D.pyAll l) = true
  wt : D.wtAll l ≤ l.length * (W + 2)
section
variable {n W V : Nat} {d e : D} {l r : List D} {i : Int} {k : D → Prop}
theorem Nice.up (h : Nice n W d) (w : W ≤ V) : Nice n V d := ⟨h.can, h.sh, Nat.le_trans h.wt w⟩
theorem NiceA.of : ∀ {l : List D}, (∀ d ∈ l, Nice n W d) → NiceA n W l
  | [], _ => ⟨by unfold D.canAll; rfl, rfl, by simp [D.wtAll]⟩
  | d :: l, h => by
    have h1 := h d List.mem_cons_self
    have h2 := NiceA.of fun e he => h e (List.mem_cons_of_mem _ he)
    refine ⟨by unfold D.canAll; rw [h1.can, h2.can]; rfl, ?_, ?_⟩
    · show (d.py.showable && PyData.showableAll (D.pyAll l)) = true
      rw [h1.sh, h2.sh]
      rfl
    · have a := h1.wt
      have b := h2.wt
      have c : (l.length + 1) * (W + 2) = l.length * (W + 2) + (W + 2) := Nat.succ_mul _ _
      simp only [D.wtAll, List.length_cons]
      omega
theorem NiceA.tup (h : NiceA n W l) (w : l.length * (W + 2) + 4 ≤ V) : Nice (n + 1) V (.tup l) := ⟨by unfold D.can; exact h.can, h.sh, by have := h.wt; simp only [D.wt]; omega⟩
theorem NiceA.lst (h : NiceA n W l) (w : l.length * (W + 2) + 4 ≤ V) : Nice (n + 1) V (.lst l) := ⟨by unfold D.can; exact h.can, h.sh, by have := h.wt; simp only [D.wt]; omega⟩
theorem Nice.tup (h : ∀ d ∈ l, Nice n W d) (w : l.length * (W + 2) + 4 ≤ V) : Nice (n + 1) V (.tup l) := (NiceA.of h).tup w
theorem Nice.lst (h : ∀ d ∈ l, Nice n W d) (w : l.length * (W + 2) + 4 ≤ V) : Nice (n + 1) V (.lst l) := (NiceA.of h).lst w
theorem Nice.int (h : -1000000000000000000 ≤ i ∧ i ≤ 1000000000000000000) : Nice n 70 (.int i) := by
  have a : i.natAbs.log2 < 62 := by
    by_cases c : i.natAbs = 0
    · rw [c]; decide
    · exact (Nat.log2_lt c).mpr (by omega)
  refine ⟨by unfold D.can; rfl, ?_, ?_⟩
  · show decide (i.natAbs.log2 < 1920) = true
    exact decide_eq_true (by omega)
  · simp only [D.wt]
    omega
theorem Nice.bl {b : Bool} : Nice n 5 (.bl b) := ⟨by unfold D.can; rfl, rfl, Nat.le_refl _⟩
theorem Nice.non : Nice n 4 .non := ⟨by unfold D.can; rfl, rfl, Nat.le_refl _⟩
theorem Nice.str {s : Str} (h : s.cps.all (· < 0x110000) = true) (w : 10 * s.length + 2 ≤ W) : Nice n W (.str s) := ⟨by unfold D.can; exact h, rfl, w⟩
theorem u_reprT (h : Nice 64 16000000 (.tup l)) (hk : k (.str (D.tup l).py.shown)) : oRepr [.tup l] k := u_repr h.can h.sh h.wt hk
theorem u_reprLs (h : Nice 64 16000000 (.lst l)) (hk : k (.str (D.lst l).py.shown)) : oRepr [.lst l] k := u_reprL h.can h.sh h.wt hk
theorem u_eqS {s t : Str} (e : s = t) (h : k (.bl true)) : oEqA (.str s) (.str t) k := by
  rw [oEqA_str, decide_eq_true e]
  exact h
theorem u_neS {s t : Str} (e : s = t) (h : k (.bl false)) : oNeA (.str s) (.str t) k := by
  rw [oNeA_str, decide_eq_true e]
  exact h
mutual
theorem eqb_refl : ∀ (n : Nat) (d : D), d.can n = true → D.eqb d d = true
  | _, .non, _ => rfl
  | _, .bl _, _ => by simp [D.eqb]
  | _, .int _, _ => by simp [D.eqb]
  | _, .str _, _ => by simp [D.eqb]
  | 0, .lst _, h => by simp [D.can] at h
  | 0, .tup _, h => by simp [D.can] at h
  | n + 1, .lst l, h => by
    unfold D.eqb
    exact eqbAll_refl n l (by simpa [D.can] using h)
  | n + 1, .tup l, h => by
    unfold D.eqb
    exact eqbAll_refl n l (by simpa [D.can] using h)
  | 0, .dic _ _, h => by simp [D.can] at h
  | 0, .dik _ _, h => by simp [D.can] at h
  | 0, .dit _ _, h => by simp [D.can] at h
  | 0, .cod _, h => by simp [D.can] at h
  | n + 1, .dic _ _, h => by simp [D.can] at h
  | n + 1, .dik _ _, h => by simp [D.can] at h
  | n + 1, .dit _ _, h => by simp [D.can] at h
  | n + 1, .cod _, h => by simp [D.can] at h
  | 0, .obj _ _ _, h => by simp [D.can] at h
  | n + 1, .obj _ _ _, h => by simp [D.can] at h
theorem eqbAll_refl : ∀ (n : Nat) (l : List D), D.canAll n l = true → D.eqbAll l l = true
  | _, [], _ => by simp [D.eqbAll]
  | n, d :: r, h => by
    have h' : d.can n = true ∧ D.canAll n r = true := by simpa [D.canAll] using h
    unfold D.eqbAll
    rw [eqb_refl n d h'.1, eqbAll_refl n r h'.2]
    rfl
end
end
section
variable {n W V : Nat} {a b c : D} {k : D → Prop}
theorem Nice.tup1 (h : Nice n W a) (w : 1 * (W + 2) + 4 ≤ V := by decide) : Nice (n + 1) V (.tup [a]) := Nice.tup (W := W) (fun d hd => by
  simp only [List.mem_cons, List.not_mem_nil, or_false] at hd
  rw [hd]; exact h) w
theorem Nice.tup2 (h : Nice n W a) (h2 : Nice n W b) (w : 2 * (W + 2) + 4 ≤ V := by decide) : Nice (n + 1) V (.tup [a, b]) := Nice.tup (W := W) (fun d hd => by
  simp only [List.mem_cons, List.not_mem_nil, or_false] at hd
  rcases hd with rfl | rfl
  · exact h
  · exact h2) w
theorem Nice.tup3 (h : Nice n W a) (h2 : Nice n W b) (h3 : Nice n W c) (w : 3 * (W + 2) + 4 ≤ V := by decide) : Nice (n + 1) V (.tup [a, b, c]) := Nice.tup (W := W) (fun d hd => by
  simp only [List.mem_cons, List.not_mem_nil, or_false] at hd
  rcases hd with rfl | rfl | rfl
  · exact h
  · exact h2
  · exact h3) w
theorem fld_many : oFld "Web" "many" (.obj "Web" ["many", "ties"] [a, b]) k = k a := by
  show ((("Web" : Str) = "Web") ∧ ∃ x, lkD ["many", "ties"] [a, b] "many" = some x ∧ k x) = _
  have : lkD ["many", "ties"] [a, b] "many" = some a := rfl
  simp [this]
theorem fld_ties : oFld "Web" "ties" (.obj "Web" ["many", "ties"] [a, b]) k = k b := by
  show ((("Web" : Str) = "Web") ∧ ∃ x, lkD ["many", "ties"] [a, b] "ties" = some x ∧ k x) = _
  have : lkD ["many", "ties"] [a, b] "ties" = some b := rfl
  simp [this]
end
theorem lc_any {f : D → (Option D → Prop) → Prop} {k : List D → Prop} {items : List D} (P : D → Prop) (h1 : ∀ x ∈ items, ∀ ko : Option D → Prop, (∀ d, P d → ko (some d)) → f x ko) (h : ∀ l : List D, l.length = items.length → (∀ d ∈ l, P d) → k l) : lcW f items [] k := lcW_any h1 h
theorem lc_map {f : D → (Option D → Prop) → Prop} {k : List D → Prop} {items : List D} (g : D → D) (h1 : ∀ x ∈ items, ∀ ko : Option D → Prop, ko (some (g x)) → f x ko) (h : k (items.map g)) : lcW f items [] k := lcW_map h1 h
theorem lc_filter {f : D → (Option D → Prop) → Prop} {k : List D → Prop} {items : List D} (p : D → Bool) (g : D → D) (h1 : ∀ x ∈ items, ∀ ko : Option D → Prop, (if p x = true then ko (some (g x)) else ko none) → f x ko) (h : k ((items.filter p).map g)) : lcW f items [] k := lcW_filter h1 h
theorem rgD_mem {a b : Int} {x : D} (h : x ∈ rgD a b) : ∃ i : Int, x = .int i ∧ a ≤ i ∧ i < b := by
  unfold rgD at h
  obtain ⟨i, hi, rfl⟩ := List.mem_map.mp h
  have := List.mem_range.mp hi
  exact ⟨_, rfl, by omega, by omega⟩
theorem u_str {i : Int} {k : D → Prop} (h : -1000000000000000000 ≤ i ∧ i ≤ 1000000000000000000) (hk : k (.str (toString i))) : oStr [.int i] k := by
  refine ⟨?_, hk⟩
  by_cases c : i.natAbs = 0
  · rw [c]; decide
  · have : i.natAbs.log2 < 62 := (Nat.log2_lt c).mpr (by omega)
    omega
theorem ix_any {l : List D} {z : Int} {k : D → Prop} (h0 : 0 ≤ z) (h1 : z < l.length) (h : ∀ x ∈ l, k x) : oIx (.tup l) (.int z) k := by
  obtain ⟨x, e, m⟩ := at_of h0 h1
  exact ⟨x, e, h x m⟩
theorem u_eqA {a b : D} {k : D → Prop} (h1 : a.can 64 = true) (h2 : b.can 64 = true) (h : k (.bl (D.eqb a b))) : oEqA a b k := by
  unfold oEqA
  split
  · rename_i x y
    have e : D.eqb (.str x) (.str y) = decide (x = y) := by
      show (x == y) = _
      by_cases c : x = y <;> simp [c]
    rw [e] at h
    exact h
  · exact ⟨⟨h1, h2⟩, h⟩
theorem u_neA {a b : D} {k : D → Prop} (h1 : a.can 64 = true) (h2 : b.can 64 = true) (h : k (.bl (!D.eqb a b))) : oNeA a b k := by
  unfold oNeA
  split
  · rename_i x y
    have e : D.eqb (.str x) (.str y) = decide (x = y) := by
      show (x == y) = _
      by_cases c : x = y <;> simp [c]
    rw [e] at h
    exact h
  · exact ⟨⟨h1, h2⟩, h⟩
end FE
set_option Elab.async false
set_option linter.all false
set_option maxRecDepth 100000
set_option maxHeartbeats 4000000
/-! A lambda handed to a def, where no guard stands around. -/
namespace KL
open PySem PySem.Spec PyProof.Rows L2 LamX
abbrev lamN (X : Cx) : Str := X.env.qual ++ "<lambda>"
abbrev lamO (X : Cx) (ar : Arguments) (bd : Expr) (sc : Scope) (pm : Value) (kc : Addr) (tv : Value) := PySem.W.kla_obj "<lambda>" (lamN X) ar bd sc (cloFrom X.env.cells sc.names []) pm kc tv
section
variable {X : Cx} {pins : List (Addr × Obj)} {τ : L2.St} {G G2 : Hp} {z z1 : Shared}
/-- the lambda is made; nothing that was is gone -/
theorem made {T : List (Addr × Str)} {cd P : Addr} {ar : Arguments} {bd : Expr} {sc : Scope} {pos : Pos} {E Q : Value → Shared → Prop} (J : Inv X pins τ G z) (tb : TabB X.base X.mg cd P) (hcd : X.env.code = .ref cd) (mem : (P, lamN X) ∈ T) (one : ∀ p ∈ T, p.1 = P → p.2 = lamN X) (tt : Tabs T G)
    (nod : defaultsOf ar X.env = ([], [])) (fr : ∀ y ∈ sc.names, y.2 = .free → ∃ c, X.env.cells.lookup y.1 = some c)
    (go : ∀ (f kc : Addr) (pm tv : Value) (G1 : Hp) (zn : Shared), Inv X pins τ G1 zn → ExtN G G1 → (∀ b, G b ≠ none → G1 b ≠ none) → Tabs T G1 → zn.heap.get? f = some (lamO X ar bd sc pm kc tv) → G1 f = none → f ∉ frs X.stack → G1 kc = some (CodeO kc (lamN X)) → Q (.ref f) zn) :
    wpAny (model X.prog X.w) X.A (eval (.Lambda ar bd sc pos) X.env) Q E z := by
  obtain ⟨tbl, atP, ok3, told⟩ := tt _ mem
  apply PySem.W.kla_eval nod
  have bi : z.heap.BuiltinsAt X.mg P := tb.bm.keeps J.bk
  have objP : z.heap.get? P = some { cls := .none, data := .fields tbl } := J.hok P _ atP
  have apart : ∀ f, z.heap.objs.size ≤ f → f ∉ frs X.stack := by
    intro f hf hm
    rcases List.mem_cons.mp (J.stkSub _ hm) with e | e
    · have low := J.lt
      rw [← e] at low
      exact absurd (Nat.lt_of_lt_of_le low hf) (Nat.lt_irrefl _)
    · exact J.nofs hf e
  cases am : codeAmong pos tbl.toList with
  | some found =>
    obtain ⟨kc, e, isC⟩ := told pos found am
    subst e
    refine PySem.W.kla_makeFunctionHit (mg := X.mg) (c := cd) (P := P) (ps := tbl) (closure_ok fr) J.ok.glob (J.mod.glob.keeps J.bk) hcd (tb.code.keeps J.bk) objP ok3 am bi fun tv hn tk hx hsz => ?_
    have J1 : Inv X pins τ G { z with heap := hn.push (lamO X ar bd sc ((X.mg "__name__").getD .none) kc tv), toks := tk } := J.kept fun b o e => Heap.get?_push_of_some _ (hx b o e)
    exact go hn.objs.size kc ((X.mg "__name__").getD .none) tv G _ J1 (ExtN.refl G) (fun _ h => h) tt (Heap.get?_push_size _ rfl) (J.hok.fresh hsz) (apart _ hsz) isC
  | none =>
    refine PySem.W.kla_makeFunction (mg := X.mg) (c := cd) (P := P) (ps := tbl) (closure_ok fr) J.ok.glob (J.mod.glob.keeps J.bk) hcd (tb.code.keeps J.bk) objP ok3 am tb.gP bi fun kc tv hn tk hx big small rec new => ?_
    obtain ⟨kc2, ob, fs, t, e2, atC, dC, nC⟩ := rec
    cases e2
    have grown : z.heap.objs.size ≤ hn.objs.size := Nat.le_trans big (Nat.le_of_lt small)
    have freeC : G kc = none := J.hok.fresh big
    let more : Array Value := #[rawInt pos.line, rawInt pos.col, .ref kc]
    have J1 := inv_table (t' := tk) (more := more) (h' := hn.push (lamO X ar bd sc ((X.mg "__name__").getD .none) kc tv)) J atP
      (fun b o hb e => Heap.get?_push_of_some _ (hx b o hb e)) (Heap.get?_push_of_some _ new) big ⟨ob, fs, t, Heap.get?_push_of_some _ atC, dC, nC⟩
    have ext : ExtN G (upd (upd G P (.tbl (tbl ++ more))) kc (CodeO kc (lamN X))) := by
      intro b o e no
      rw [upd_ne (ne_of_none e freeC), upd_ne (fun w => no tbl (Option.some.inj (e.symm.trans (by rw [w]; exact atP))))]
      exact e
    have stays : ∀ b, G b ≠ none → (upd (upd G P (.tbl (tbl ++ more))) kc (CodeO kc (lamN X))) b ≠ none := by
      intro b hb
      rw [upd_ne (fun w => hb (by rw [w]; exact freeC))]
      by_cases w : b = P
      · rw [w, upd_same]
        exact fun q => nomatch q
      · rw [upd_ne w]
        exact hb
    have lst : (tbl ++ more).toList = tbl.toList ++ [rawInt pos.line, rawInt pos.col, .ref kc] := by simp [more]
    refine go hn.objs.size kc ((X.mg "__name__").getD .none) tv _ _ J1 ext stays (fun p hp => ?_) (Heap.get?_push_size _ rfl) ?_ (apart _ grown) upd_same
    · by_cases w : p.1 = P
      · rw [one p hp w, w]
        refine ⟨_, by rw [upd_ne (ne_of_none atP freeC), upd_same], by rw [lst]; exact PySem.TriplesOk_snoc _ _ _ _ ok3, fun p2 cv hcv => ?_⟩
        rw [lst] at hcv
        rcases among_app _ ok3 hcv with q | q
        · obtain ⟨c0, e1, e2⟩ := told p2 cv q
          exact ⟨c0, e1, ext _ _ e2 codeO_ne⟩
        · exact ⟨kc, q, upd_same⟩
      · obtain ⟨tb2, a1, a2, a3⟩ := tt p hp
        refine ⟨tb2, by rw [upd_ne (ne_of_none a1 freeC), upd_ne w]; exact a1, a2, fun p2 cv hcv => ?_⟩
        obtain ⟨c0, e1, e2⟩ := a3 p2 cv hcv
        exact ⟨c0, e1, ext _ _ e2 codeO_ne⟩
    · have w1 : hn.objs.size ≠ kc := Nat.ne_of_gt small
      have w2 : hn.objs.size ≠ P := Nat.ne_of_gt (Nat.lt_of_lt_of_le (Heap.lt_size objP) grown)
      rw [upd_ne w1, upd_ne w2]
      exact J.hok.fresh grown
/-- the lambda called by the def that got it -/
theorem act {CXg : CXT} {Eg : XK} {Ng : List Str} {qg : Str} {sg : Scope} {gf f kc : Addr} {cdg pm tv : Value} {ar : Arguments} {bd : Expr} {sc : Scope} {k i : Nat} {a : Str} {pn : List (Addr × Obj)} {xe : Value → Shared → Prop} {W : WX} {tb : XK → TE} {p1 p2 : Pos}
    (J : Inv X pins τ G z) (L : LamS X.env.scope sc) (isF : z.heap.get? f = some (lamO X ar bd sc pm kc tv)) (nf : G f = none) (nfr : f ∉ frs X.stack) (bnd : bindArgs (PySem.W.kla_fn "<lambda>" (lamN X) ar bd sc (cloFrom X.env.cells sc.names []) pm (.ref kc) tv) ⟨[], []⟩ = pure [])
    (tk : Takes ((cxOf CXg X.prog X.w X.K X.mg X.base Ng qg sg gf cdg X.A X.stack z G Eg).tr pn xe) W) (room : Room (k + 1) (X.A.deeper (envOfC qg sg z.heap.objs.size gf cdg)))
    (hbody : ∀ (E : XK) (st : List Env) (y : Shared) (Y : Hp), Room k ((X.A.deeper (envOfC qg sg z.heap.objs.size gf cdg)).deeper (lamEnv X sc y.heap.objs.size f kc)) → PE (lamCx X (X.A.deeper (envOfC qg sg z.heap.objs.size gf cdg)) st y Y E sc f kc) bd (tb E))
    (hN : Ng[i]? = some a) (hv : Vis sg a) (nd : (a == ("__debug__" : Str)) = false) (ncd : (a == ("__classdict__" : Str)) = false) :
    PE ((cxOf CXg X.prog X.w X.K X.mg X.base Ng qg sg gf cdg X.A X.stack z G Eg).tr pn xe) (.Call (.Name a p1) [] [] p2) (fun σZ HZ Q => σZ[i]? = some (some (.ref f)) ∧ HZ kc = some (CodeO kc (lamN X)) ∧ tb (WE W σZ) τ HZ Q) := by
  constructor
  intro pinsY y ω Y Q JY ⟨slot, isC, body⟩
  apply wpAny_Call_Name_kw
  refine thn ((pe_var (pos := p1) (i := i) hN hv nd ncd).run pinsY y ω Y (fun v H1 => v = .ref f ∧ H1 = Y) JY ⟨.ref f, slot, rfl, rfl⟩) fun u y1 ⟨v, Y1, J1, rv, ev, eY⟩ => ?_
  subst ev
  rw [eY] at J1
  obtain rfl : u = Value.ref f := rv
  have isF1 : y1.heap.get? f = some (lamO X ar bd sc pm kc tv) := J1.base.keep f _ isF nf nfr (fun w => nomatch (show f ∈ ([] : List Addr) from w))
  apply PySem.W.callWith_F0 ⟨_, _, _, _, isF1⟩
  have un : Un (frs X.stack) [] G Y z.heap y1.heap := J1.base
  obtain ⟨⟨ob, fs, t, atC, dC, nC⟩, _, _⟩ := J1.hok kc _ isC
  have run : codeAny (model X.prog X.w) (X.A.deeper (envOfC qg sg z.heap.objs.size gf cdg)) (.call (.ref f) ⟨[], []⟩) (CR (L2.CX X.prog X.w) (envOfC qg sg z.heap.objs.size gf cdg :: X.stack) X.prog X.w Y y1 Q (WE W ω)) y1 := by
    refine PySem.W.kla_callFunE room.depth isF1 rfl L.co L.gen rfl ⟨kc, ob, fs, t, rfl, atC, dC, nC⟩ ?_
    rw [bnd]
    apply wpAny_pure
    refine wpAny_newFunctionEnv (fun y hy => (L.own y hy).2) (fun y hy => absurd hy (by simp)) (fun hn hns hsb => ⟨J1.nolimit.fresh _ hsb, ?_⟩) L.kind
    show codeAny _ _ (.expr bd (lamEnv X sc y1.heap.objs.size f kc)) _ _
    have kept : ∀ b o, y1.heap.get? b = some o → hn.get? b = some o := fun b o e => hsb.extBut b o (Nat.ne_of_lt (Heap.lt_size e)) (Heap.get?_push_of_some _ e)
    have JL : Inv (lamCx X (X.A.deeper (envOfC qg sg z.heap.objs.size gf cdg)) (envOfC qg sg z.heap.objs.size gf cdg :: X.stack) y1 Y (WE W ω) sc f kc) [] τ Y { y1 with heap := hn, toks := y1.toks + ([] : List (Str × Value)).length } := lam_start2 J L J1.env0 room.hd un hns kept
    refine PySem.W.kla_codeExpr (wpAny_mono ((hbody _ _ y1 Y (room.deeper _)).run [] _ τ Y Q JL body) (fun v y2 ⟨w', Y2, J2, r2, q⟩ => ?_) fun e y2 hq => hq)
    exact ⟨w', Y2, J2.os, J2.bare, J2.base, J2.hok, r2, q⟩
  have pass := passAt tk ω
  refine wpAny_call (codeAny_mono run fun r y2 hq => ?_)
  match r, hq with
  | .error e, hq => exact pass pinsY Y y1 e y2 J1 hq
  | .ok (.ret u), hq => exact J1.after hq
  | .ok .next, hq => exact hq.elim
  | .ok .brk, hq => exact hq.elim
  | .ok .cont, hq => exact hq.elim
end
/-- the def that calls what it got: a calls it -/
def Gives (X : Cx) (Ng : List Str) (x : Str) (sg : Scope) (gf : Addr) (cdg : Value) (bg : List Stmt) (a : Str) (k : Nat) (TT : (XK → Hp → VK → Prop) → Hp → VK → Prop) : Prop :=
  ∀ (f kc : Addr) (z : Shared) (G : Hp) (Q : VK) (tl : XK → Hp → VK → Prop), Room (k + 1) (X.A.deeper (envOfC x sg z.heap.objs.size gf cdg)) →
    (∀ (W : WX) (pn : List (Addr × Obj)) (xe : Value → Shared → Prop) (p1 p2 : Pos), Takes ((cxOf L2.CX0 X.prog X.w X.K X.mg X.base Ng x sg gf cdg X.A X.stack z G L2.E0).tr pn xe) W →
      PE ((cxOf L2.CX0 X.prog X.w X.K X.mg X.base Ng x sg gf cdg X.A X.stack z G L2.E0).tr pn xe) (.Call (.Name a p1) [] [] p2) (fun σZ HZ Q => σZ[0]? = some (some (.ref f)) ∧ HZ kc = some (CodeO kc (lamN X)) ∧ tl (WE W σZ) HZ Q)) →
    G kc = some (CodeO kc (lamN X)) → TT tl G Q →
    ∃ t, PSs (cxOf L2.CX0 X.prog X.w X.K X.mg X.base Ng x sg gf cdg X.A X.stack z G L2.E0).nox bg t ∧ t { nx := fun _ H' => Q .non H', rt := Q } (L2.start Ng [.ref f]) G
def tLamG (T : List (Addr × Str)) (TT : (XK → Hp → VK → Prop) → Hp → VK → Prop) (t : XK → TE) : TE := fun σ H Q => Tabs T H ∧ ∀ H1, ExtN H H1 → (∀ b, H b ≠ none → H1 b ≠ none) → Tabs T H1 → TT (fun E H' Q' => t E σ H' Q') H1 Q
section
variable {X : Cx}
/-- x(lambda: body) -/
theorem pe_lam {T : List (Addr × Str)} {TT : (XK → Hp → VK → Prop) → Hp → VK → Prop} {x a : Str} {gf cd P : Addr} {k : Nat} {pg : Arguments} {bg : List Stmt} {sg : Scope} {dV kV doc pm cdv ct oc : Value} {an od : Option Addr} {osl : Array (Option Value)} {Ng : List Str} {ar : Arguments} {bd : Expr} {sc : Scope} {t : XK → TE} {p lpos pos : Pos}
    (hg : Gl X x) (hm : X.mg x = some (.ref gf)) (hk : PySem.W.keepIn X.K (.ref gf) = true) (lk : X.K.lookup gf = some ⟨oc, od, .func (PySem.W.fnOf x x pg bg sg dV kV doc pm an cdv ct), osl⟩) (hcg : PySem.W.codeIn X.K cdv x = true)
    (hb : L2.Binds X.K (PySem.W.fnOf x x pg bg sg dV kV doc pm an cdv ct) [a] []) (Sg : FnScope Ng [a] sg) (hNg : Ng[0]? = some a) (hva : Vis sg a) (gives : Gives X Ng x sg gf cdv bg a k TT) (tb : TabB X.base X.mg cd P) (hcd : X.env.code = .ref cd) (mem : (P, lamN X) ∈ T) (one : ∀ p ∈ T, p.1 = P → p.2 = lamN X) (room : Room (k + 2) X.A)
    (L : LamS X.env.scope sc) (nod : defaultsOf ar X.env = ([], [])) (bnd : ∀ (q : Str) (cl : List (Str × Addr)) (pm cv tv : Value), bindArgs (PySem.W.kla_fn "<lambda>" q ar bd sc cl pm cv tv) ⟨[], []⟩ = pure [])
    (hbody : ∀ (A : Around) (st : List Env) (y : Shared) (Y : Hp) (E : XK) (f kc : Addr), A.guards = X.A.guards → Room k (A.deeper (lamEnv X sc y.heap.objs.size f kc)) → PE (lamCx X A st y Y E sc f kc) bd (t E))
    (hdb : (x == ("__debug__" : Str)) = false := by decide) (nd : (a == ("__debug__" : Str)) = false := by decide) (ncd : (a == ("__classdict__" : Str)) = false := by decide) : PE X (.Call (.Name x p) [.Lambda ar bd sc lpos] [] pos) (tLamG T TT t) := by
  constructor
  intro pins z τ G Q J ⟨tt, h⟩
  apply wpAny_Call_Name_kw
  refine ld_glob J hg hm ?_ hdb
  refine PySem.W.callWith_K (h₀ := X.base) J.ok.mod.kin hk ?_ (by rfl) (by rfl)
  show wpAny _ _ (spliced ((false, eval (.Lambda ar bd sc lpos) X.env) :: backTo pos (starEach [] X.env))) _ _ z
  refine Calls.spliced_cons (made J tb hcd mem one tt nod (L.has J.ok) fun f kc pmv tv G1 zn J1 ext stays t1 isF nf nfr isC => ?_)
  refine Calls.spliced_nil ⟨J1.kIn, ?_⟩
  have run : codeAny (model X.prog X.w) X.A (.call (.ref gf) ⟨[.ref f], []⟩) (CR L2.CX0 X.stack X.prog X.w G1 zn Q L2.E0) zn := by
    refine run_ofS (N := Ng) (ps := [a]) (us := [.ref f]) (vs := [.ref f]) lk hcg Sg room J1.env0 (hb zn [.ref f] J1.kIn rfl) (.cons rfl .nil) rfl fun room1 => ?_
    obtain ⟨tz, okz, hqz⟩ := gives f kc zn G1 Q (fun E H' Q' => t E τ H' Q') room1 (fun W pn xe p1 p2 tk => act (i := 0) (tb := t) J1 L isF nf nfr (bnd _ _ _ _ _) tk room1 (fun E st y Y r2 => hbody (X.A.deeper (envOfC x sg zn.heap.objs.size gf cdv)) st y Y E f kc rfl r2) hNg hva nd ncd) isC (h G1 ext stays t1)
    exact ⟨tz, okz.nox, hqz⟩
  refine wpAny_call (codeAny_mono run fun r s2 hq => ?_)
  match r, hq with
  | .error e, hq => exact (show False from hq).elim
  | .ok (.ret u), hq => exact J1.after hq
  | .ok .next, hq => exact hq.elim
  | .ok .brk, hq => exact hq.elim
  | .ok .cont, hq => exact hq.elim
end
end KL
set_option Elab.async false
set_option linter.all false
set_option maxRecDepth 100000
set_option maxHeartbeats 4000000
/-! Lambdas handed to a def that calls them. -/
namespace FE
open PySem L2 PySem.Spec
open Evl (Ex)
open LamX (LamS lamCx lamEnv TabB ExtN Tabs CodeO)
/-- what a thunk promises from (F0, H0) on -/
def ThOk (K : PySem.W.Frag) (cm : Cm) (F0 H0 : Hp) (qc : (D → Prop) → Xd → Prop) (tl : XK → Hp → VK → Prop) : Prop :=
  ∀ (k : D → Prop) (y : Xd) (E : XK) (Q : VK) (F H : Hp), Ex F0 F → Tabs cm.tb H → NoT F → Ex F H → qc k y → (∀ d v F' H', k d → Stp none cm.tb F H F' H' → Is K cm F' v d → Q v H') →
    (∀ c fs cls d F' H', y c fs → Stp none cm.tb F H F' H' → ExIs K cm F' cls d c fs → E cls d H') → tl E H Q
def TTf (K : PySem.W.Frag) (cm : Cm) (m : ((D → Prop) → Xd → Prop) → (D → Prop) → Prop) : (XK → Hp → VK → Prop) → Hp → VK → Prop := fun tl H Q =>
  ∃ (F : Hp) (qc : (D → Prop) → Xd → Prop) (k : D → Prop), Ex F H ∧ (Tabs cm.tb H ∧ NoT F) ∧ ThOk K cm F H qc tl ∧ m qc k ∧ ∀ d v F' H', k d → Stp none cm.tb F H F' H' → Is K cm F' v d → Q v H'
def lamB1 : B → B
  | .own _ => .any
  | .oo _ => .any
  | .hand => .any
  | b => b
def lamB (bs : List B) : List B := bs.map lamB1
theorem Sl.lam {K : PySem.W.Frag} {g g' : Gv} {F H F2 H2 : Hp} (ec : g'.cm = g.cm) (e : Ex F F2) : ∀ {os : List Addr} {σ : List (Option V)} {bs : List B}, Sl K g F H os σ bs → Sl K g' F2 H2 [] σ (lamB bs)
  | _, _, _, .nil => .nil
  | _, _, _, .any q => .any (Sl.lam ec e q)
  | _, _, _, .dat h q => .dat (by rw [ec]; exact h.mono e) (Sl.lam ec e q)
  | _, _, _, .own _ _ _ _ _ q => .any (Sl.lam ec e q)
  | _, _, _, .oo _ _ _ _ _ q => .any (Sl.lam ec e q)
  | _, _, _, .hand _ q => .any (Sl.lam ec e q)
  | _, _, _, .raw q => .raw (Sl.lam ec e q)
  | _, _, _, .bth h q => .bth (by rw [ec]; exact h.mono e) (Sl.lam ec e q)
section
variable {X : Cx} {g : Gv} {bs bl : List B}
theorem e_lam {x a : Str} {gf cd P : Addr} {k : Nat} {pg : Arguments} {bg : List Stmt} {sg : Scope} {dV kV doc pm cdv ct oc : Value} {an od : Option Addr} {osl : Array (Option Value)} {Ng : List Str} {ar : Arguments} {bd : Expr} {sc : Scope} {p lpos pos : Pos} {m : ((D → Prop) → Xd → Prop) → (D → Prop) → Prop} {mb : (D → Prop) → Xd → Prop}
    (hg : Gl X x) (hm : X.mg x = some (.ref gf)) (hk : PySem.W.keepIn X.K (.ref gf) = true) (lk : X.K.lookup gf = some ⟨oc, od, .func (PySem.W.fnOf x x pg bg sg dV kV doc pm an cdv ct), osl⟩) (hcg : PySem.W.codeIn X.K cdv x = true)
    (hb : L2.Binds X.K (PySem.W.fnOf x x pg bg sg dV kV doc pm an cdv ct) [a] []) (Sg : FnScope Ng [a] sg) (hNg : Ng[0]? = some a) (hva : Vis sg a) (gives : KL.Gives X Ng x sg gf cdv bg a k (TTf X.K g.cm m)) (tb : TabB X.base X.mg cd P) (hcd : X.env.code = .ref cd) (mem : (P, KL.lamN X) ∈ g.cm.tb) (one : ∀ p ∈ g.cm.tb, p.1 = P → p.2 = KL.lamN X) (room : Room (k + 2) X.A)
    (L : LamS X.env.scope sc) (nod : defaultsOf ar X.env = ([], [])) (bnd : ∀ (q : Str) (cl : List (Str × Addr)) (pm cv tv : Value), bindArgs (PySem.W.kla_fn "<lambda>" q ar bd sc cl pm cv tv) ⟨[], []⟩ = pure []) (hbl : lamB bs = bl)
    (hbody : ∀ (A : Around) (st : List Env) (yz : Shared) (Y : Hp) (E : XK) (f kc : Addr), A.guards = X.A.guards → Room k (A.deeper (lamEnv X sc yz.heap.objs.size f kc)) → ∀ (g' : Gv) (y : Xd), g'.cm = g.cm → Am (lamCx X A st yz Y E sc f kc) g' (anyB X.N.length) y (fun cls d _ H => E cls d H) → PE (lamCx X A st yz Y E sc f kc) bd (tM X.K g' bl (fun k => mb k y)))
    (hdb : (x == ("__debug__" : Str)) = false := by decide) (nd : (a == ("__debug__" : Str)) = false := by decide) (ncd : (a == ("__classdict__" : Str)) = false := by decide) : PE X (.Call (.Name x p) [.Lambda ar bd sc lpos] [] pos) (tM X.K g bs (m mb)) := by
  refine PE.imp (KL.pe_lam (t := fun E σ H Q => ∃ F k y, Sat X.K ⟨g.cm, none, F, H, F⟩ bl σ F H ∧ mb k y ∧ (∀ d v F' H', k d → Stp none g.cm.tb F H F' H' → Is X.K g.cm F' v d → Q v H') ∧ ∀ c fs cls d F' H', y c fs → Stp none g.cm.tb F H F' H' → ExIs X.K g.cm F' cls d c fs → E cls d H')
    hg hm hk lk hcg hb Sg hNg hva gives tb hcd mem one room L nod bnd (fun A st yz Y E f kc hA hr => ⟨fun pins s σ H Q I ⟨F, k, y, sat, hmb, post, xpost⟩ => ?_⟩) hdb nd ncd) fun σ H Q ⟨F, k, s, hm, q⟩ => ⟨s.tb, fun H1 ext dom tb1 => ?_⟩
  · have am : Am (lamCx X A st yz Y E sc f kc) ⟨g.cm, none, F, H, F⟩ (anyB X.N.length) y (fun cls d _ H => E cls d H) :=
      ⟨takes_of rfl rfl rfl rfl, fun c fs cls d σ F' H' hx sa ei => xpost c fs cls d F' H' hx sa.st ei⟩
    exact (hbody A st yz Y E f kc hA hr ⟨g.cm, none, F, H, F⟩ y rfl am).run pins s σ H Q I ⟨F, k, sat, hmb, post⟩
  · have exF : Ex F H1 := fun b o hb => ext b o (s.ex b o hb) fun ps e => s.nt b ps (by rw [hb, e])
    have st0 : Stp g.hd g.cm.tb F H F H1 := ⟨Ex.refl F, exF, fun _ _ h => h, dom, fun b o hb nt _ => ext b o hb nt, (fun p _ h => h.to (Ex.refl F) fun o ho => by
      obtain ⟨cs, i, b, m, n, h1, _⟩ := h.ex
      exact ext _ _ ho (fun ps e => by rw [e, h1] at ho; cases ho)), fun _ => tb1, id⟩
    refine ⟨F, mb, k, exF, ⟨tb1, s.nt⟩, fun k' y E Q' F2 H2 e2 t2 n2 ex2 hqc post xpost => ?_, hm, fun d v F' H' kd st i => q d v F' H' kd (st0.trans st.none_hd) i⟩
    obtain ⟨os, sl, _⟩ := s.sl
    exact ⟨F2, k', y, ⟨ex2, (fun p e => nomatch e), Stp.refl ex2, ⟨[], hbl ▸ Sl.lam (g := g) (g' := ⟨g.cm, none, F2, H2, F2⟩) (H2 := H2) rfl e2 sl, fun a h => nomatch h⟩, Ex.refl F2, t2, n2⟩, hqc, post, xpost⟩
/-- no data rests on an object that is none -/
theorem hideX_rd {F : Hp} {a b : Addr} {u o : HO} (ha : F a = some o) (ho : TbO o) (hu : ¬ TbO u) (h : Rd F b u) : Rd (hide F a) b u := by
  have n : b ≠ a := fun z => by
    subst z
    rcases h with h | ⟨w, h⟩
    · rw [ha] at h
      cases h
      exact hu ho
    · rw [ha] at h
      cases h
      exact ho.elim
  rcases h with h | ⟨w, h⟩
  · exact .inl (by rw [hide_ne n]; exact h)
  · exact .inr ⟨w, by rw [hide_ne n]; exact h⟩
mutual
theorem Is.hideX {K : PySem.W.Frag} {cm : Cm} {F : Hp} {a : Addr} {o : HO} (ha : F a = some o) (ho : TbO o) : ∀ {d : D} {v : V}, Is K cm F v d → Is K cm (hide F a) v d
  | _, _, .non => .non
  | _, _, .bl b => .bl b
  | _, _, .int i => .int i
  | _, _, .str s => .str s
  | _, _, .lst h q => .lst (by rw [hide_ne (fun z => by rw [z, ha] at h; cases h; exact ho.elim)]; exact h) (IsAll.hideX ha ho q)
  | _, _, .tup h q => .tup (h.imp (fun ⟨ob, h, d⟩ => ⟨ob, by rw [hide_ne (fun z => by rw [z, ha] at h; cases h; exact ho.elim)]; exact h, d⟩) fun ⟨h, q⟩ => ⟨h.elim (fun r => .inl (hideX_rd ha ho (fun z => z.elim) r)) .inr, q⟩) (IsAll.hideX ha ho q)
  | _, _, .dik h hk q => .dik (by rw [hide_ne (fun z => by rw [z, ha] at h; cases h; exact ho.elim)]; exact h) hk (IsAll.hideX ha ho q)
  | _, _, .dit h hk q => .dit (by rw [hide_ne (fun z => by rw [z, ha] at h; cases h; exact ho.elim)]; exact h) hk (IsAll.hideX ha ho q)
  | _, _, .cod h t => .cod h t
  | _, _, .dic h hk q => .dic (by rw [hide_ne (fun z => by rw [z, ha] at h; cases h; exact ho.elim)]; exact h) hk (IsAll.hideX ha ho q)
  | _, _, .obj h cf hn q => .obj (by rw [hide_ne (fun z => by rw [z, ha] at h; cases h; exact ho.elim)]; exact h) cf hn (IsAll.hideX ha ho q)
theorem IsAll.hideX {K : PySem.W.Frag} {cm : Cm} {F : Hp} {a : Addr} {o : HO} (ha : F a = some o) (ho : TbO o) : ∀ {ds : List D} {vs : List V}, IsAll K cm F vs ds → IsAll K cm (hide F a) vs ds
  | _, _, .nil => .nil
  | _, _, .cons h q => .cons (Is.hideX ha ho h) (IsAll.hideX ha ho q)
end
/-- how the def calls it, where exceptions are caught -/
def ThunkR (Z : Cx) (g : Gv) (f : Addr) (a : Str) (qc : (D → Prop) → Xd → Prop) : Prop :=
  ∀ (W : WX) (pn : List (Addr × Obj)) (xe : Value → Shared → Prop) (y : Xd) (bs bx : List B) (p1 p2 : Pos), Am (Z.tr pn xe) g bx y W → Le bs bx → bs[0]? = some (.raw (.ref f)) → PE (Z.tr pn xe) (.Call (.Name a p1) [] [] p2) (tM Z.K g bs (fun k => qc k y))
theorem def_Th {N : List Str} {x a : Str} {sg : Scope} {gf : Addr} {cdv : Value} {bg : List Stmt} {kk : Nat} {cm : Cm} {m : ((D → Prop) → Xd → Prop) → (D → Prop) → Prop} (hN : N.length = (N.length - 1) + 1)
    (body : ∀ (f : Addr) (z : Shared) (G : Hp), Room (kk + 1) (X.A.deeper (PyProof.Rows.envOfC x sg z.heap.objs.size gf cdv)) → ∀ (g : Gv) (qc : (D → Prop) → Xd → Prop) (k : D → Prop), g.cm = cm → m qc k → ThunkR (cxOf L2.CX0 X.prog X.w X.K X.mg X.base N x sg gf cdv X.A X.stack z G L2.E0) g f a qc →
      ∃ Pr, Pr ∧ PSs (cxOf L2.CX0 X.prog X.w X.K X.mg X.base N x sg gf cdv X.A X.stack z G L2.E0).nox bg (tS X.K g (.raw (.ref f) :: anyB (N.length - 1)) (endJ N.length k) Jn.no Jn.no ⟨k, fun _ => False⟩ Pr)) :
    KL.Gives X N x sg gf cdv bg a kk (TTf X.K cm m) := by
  intro f kc z G Q tl room act isC h
  obtain ⟨F, qc, k, ex, tn, th, hm, post⟩ := h
  obtain ⟨F1, hk1, eF1, ex1, nt1, back⟩ : ∃ F1 : Hp, F1 kc = some (CodeO kc (KL.lamN X)) ∧ Ex F F1 ∧ Ex F1 G ∧ NoT F1 ∧ ∀ F' H', Stp none cm.tb F1 G F' H' → ∃ F2, Stp none cm.tb F G F2 H' ∧ ∀ v d, Is X.K cm F' v d → Is X.K cm F2 v d := by
    cases c : F kc with
    | some o =>
      have e := ex kc o c
      rw [isC] at e
      cases e
      exact ⟨F, c, Ex.refl F, ex, tn.2, fun F' H' st => ⟨F', st, fun _ _ h => h⟩⟩
    | none =>
      refine ⟨upd F kc (CodeO kc (KL.lamN X)), upd_same, Ex.new c, fun b o hb => ?_, tn.2.upd (fun ps e => by unfold CodeO at e; cases e), fun F' H' st => ?_⟩
      · by_cases e : b = kc
        · subst e
          rw [upd_same] at hb
          rw [isC]
          exact hb
        · rw [upd_ne e] at hb
          exact ex b o hb
      · have hk : F' kc = some (CodeO kc (KL.lamN X)) := st.ff kc _ upd_same
        refine ⟨hide F' kc, ⟨fun b u hb => ?_, fun b u hb => ?_, fun b hb fb => ?_, st.dom, st.kp, (fun p e => nomatch e), st.tab, fun n b ps hb => ?_⟩, fun v d h => h.hideX hk trivial⟩
        · have n : b ≠ kc := fun w => by rw [w, c] at hb; cases hb
          rw [hide_ne n]
          exact st.ff b u (by rw [upd_ne n]; exact hb)
        · have n : b ≠ kc := fun w => by rw [w, hide_same] at hb; cases hb
          rw [hide_ne n] at hb
          exact st.fh b u hb
        · by_cases n : b = kc
          · rw [n]
            exact hide_same
          · rw [hide_ne n]
            exact st.own b hb (by rw [upd_ne n]; exact fb)
        · have w : b ≠ kc := fun w => by rw [w, hide_same] at hb; cases hb
          rw [hide_ne w] at hb
          exact st.nt (n.upd (fun ps e => by unfold CodeO at e; cases e)) b ps hb
  have tr : ThunkR (cxOf L2.CX0 X.prog X.w X.K X.mg X.base N x sg gf cdv X.A X.stack z G L2.E0) ⟨cm, none, F1, G, F1⟩ f a qc := by
    intro W pn xe y bs bx p1 p2 am hle hb0
    refine PE.imp (act W pn xe p1 p2 am.tk) fun σ H Q ⟨F', k', s, hq, q⟩ => ⟨s.getR hb0, s.ex _ _ (s.st.ff _ _ hk1), ?_⟩
    exact th k' y (WE W σ) Q F' H (eF1.trans s.st.ff) s.tb s.nt s.ex hq (fun d v F2 H2 kd st i => q d v F2 H2 kd st i) fun c fs cls d F2 H2 hy st ei => (am.le hle).ok c fs cls d σ F2 H2 hy (s.step st) ei
  obtain ⟨Pr, hp, hb⟩ := body f z G room ⟨cm, none, F1, G, F1⟩ qc k rfl hm tr
  have rt : RtOk X.K ⟨cm, none, F1, G, F1⟩ ⟨k, fun _ => False⟩ Q := ⟨fun d v F' H' kd st i => by
    obtain ⟨F2, st2, conv⟩ := back F' H' st
    exact post d v F2 H' kd st2 (conv v d i), fun _ _ _ _ _ h => h.elim⟩
  refine ⟨_, hb, hp, ⟨F1, ⟨ex1, (fun p e => nomatch e), Stp.refl ex1, ⟨[], ?_, fun a h => nomatch h⟩, Ex.refl F1, tn.1, nt1⟩⟩, end_D Q rt, nxJ.no, nxJ.no, rt⟩
  have : L2.start N [V.ref f] = some (.ref f) :: List.replicate (N.length - 1) none := rfl
  rw [this]
  exact .raw (Sl.nones _)
end
end FE
set_option Elab.async false
set_option linter.all false
set_option maxRecDepth 100000
set_option maxHeartbeats 4000000
/-! Defs that make lambdas: the address of their code is told. -/
namespace KGc
open PySem L2 PySem.Spec PyProof.Rows KG
section
variable {P : Program} {w : World} {K : PySem.W.Frag} {mg : Str → Option Value} {base : Heap}
theorem okGc {x qual : Str} {st : Stmt} {f : Addr} {fd : FuncData} {N ps : List Str} {k : Nat} {sp : Sp} {cd : Addr} (F : Fun K x qual st f fd) (hcd0 : fd.code = .ref cd) (S : FnScope N ps (defScope st))
    (many : ∀ vs H Q E, sp vs H Q E → vs.length = ps.length)
    (body : ∀ (A : Around) (out : List Env) (s : Shared) (H : Hp) (vs : List V) (Q : VK) (E : XK), A.guards = some [] →
      Room k (A.deeper (envOfC qual (defScope st) s.heap.objs.size f (.ref cd))) → sp vs H Q E →
      ∃ t, PSs (cxOf CX0 P w K mg base N qual (defScope st) f (.ref cd) A out s H E).nox (defBody st) t ∧
        t { nx := fun _ H' => Q .non H', rt := Q } (L2.start N vs) H) : FnG P w K mg base (k + 1) f fd ps sp := by
  obtain ⟨oc, od, kV, doc, pm, an, cdv, ct, osl, rfl, lk, hcd⟩ := F.ex
  obtain rfl : cdv = Value.ref cd := hcd0
  refine ⟨many, fun A out s H args us vs Q E hgd hr env hb rv hsp => ?_⟩
  obtain ⟨t, ht', hq⟩ := body A out s H vs Q E hgd (hr.deeper _) hsp
  have ht := ht'.nox
  have inK : K.In s.heap := env.mod.kin.keeps fun a u e => (env.bs a u e).1
  have free : s.heap.NoLimit := env.mod.nolimit.keeps fun a u e => (env.bs a u e).1
  have kinds : ∀ y ∈ ps.zip us, (defScope st).names.lookup y.1 = some .local ∨
      ((defScope st).names.lookup y.1 = some .cell ∧ ((cellsFrom (s.heap.objs.size + 1) (defScope st).names []).lookup y.1).isSome = true) := by
    rintro ⟨y, u⟩ hy
    exact (S.par y (List.of_mem_zip hy).1).imp id fun c => ⟨c, PySem.W.cellsFrom_some _ _ _ (.inl c)⟩
  refine codeAny_call_function hr.depth (inK _ _ lk) rfl S.co S.gen rfl (PySem.W.codeRec_of inK hcd) (hb _ _ _ _ ?_)
  refine wpAny_newFunctionEnv_cells S.kind kinds fun env2 he s1 inside => ?_
  subst he
  refine ⟨free.keeps inside.toInCall.keep, codeAny_func ?_⟩
  have inv := inv_start (CX := CX0) (E := E) S hr.hd env (many _ _ _ _ hsp) rv inside
  refine wpAny_mono (ht.run [] s1 (L2.start N vs) H _ inv hq) ?_ fun _ _ z => z
  intro fl s2 z
  cases fl with
  | ret u =>
    obtain ⟨v, σ', H', J, rvu, q⟩ := z
    exact ⟨v, H', J.os, J.bare, J.base, J.hok, rvu, q⟩
  | next =>
    obtain ⟨σ', H', J, q⟩ := z
    exact ⟨V.non, H', J.os, J.bare, J.base, J.hok, rfl, q⟩
  | brk =>
    obtain ⟨_, _, _, q⟩ := z
    exact q.elim
  | cont =>
    obtain ⟨_, _, _, q⟩ := z
    exact q.elim
end
end KGc
namespace FE
open PySem L2 PySem.Spec
open Evl (Ex)
open LamX (LamS lamCx lamEnv TabB ExtN Tabs CodeO)
section
variable {P : Program} {w : World} {K : PySem.W.Frag} {mg : Str → Option Value} {base : Heap} {x qual : Str} {st : Stmt} {fa : Addr} {fd : FuncData} {N ps : List Str} {lv : Nat} {cm : Cm} {hnd : Bool}
theorem def_DC {m : List D → Rt → Prop} {cd : Addr} (Fn : Fun K x qual st fa fd) (hcd0 : fd.code = .ref cd) (S : FnScope N ps (defScope st)) (len : ∀ ds r, m ds r → ds.length + (if hnd then 1 else 0) = ps.length)
    (body : ∀ (A : Around) (out : List Env) (s : Shared) (H : Hp) (E : XK), A.guards = some [] → Room lv (A.deeper (PyProof.Rows.envOfC qual (defScope st) s.heap.objs.size fa (.ref cd))) → ∀ (g : Gv) (ds : List D) (r : Rt), g.cm = cm → m ds r →
      ∃ Pr n, Pr ∧ PSs (cxOf CX0 P w K mg base N qual (defScope st) fa (.ref cd) A out s H E).nox (defBody st) (tS K g (startB hnd N.length ds) n Jn.no Jn.no r Pr) ∧ ∀ nx, RtOk K g r nx → nxJ K g n fun _ H' => nx .non H') : KG.FnG P w K mg base (lv + 1) fa fd ps (spD K cm hnd m) := by
  refine KGc.okGc Fn hcd0 S (fun vs H Q E h => ?_) (fun A out s H vs Q E hgd hr h => ?_)
  · obtain ⟨hd, F, ws, ds, r, e, tn, hh, rfl, eh, i, hm, _⟩ := h
    have := len ds r hm
    have l := i.len
    subst eh
    cases hd with
    | none => exact l.trans this
    | some p =>
      show ws.length + 1 = _
      rw [l]
      exact this
  · obtain ⟨hd, F, ws, ds, r, e, tn, hh, rfl, eh, i, hm, qd, ql⟩ := h
    subst eh
    obtain ⟨Pr, n, hp, hb, hn⟩ := body A out s H E hgd hr ⟨cm, hd, F, H, F⟩ ds r rfl hm
    have rt : RtOk K ⟨cm, hd, F, H, F⟩ r Q := ⟨fun d v F' H' hd st i => qd d v F' H' hd st i, fun ds p vs F' H' hd st np fp hp i => ql ds p vs F' H' hd st np fp hp i⟩
    refine ⟨_, hb, hp, ⟨F, ⟨e, fun p hp => hh p hp, Stp.refl e, ⟨[], Sl.start hd rfl i, fun a h => nomatch h⟩, Ex.refl F, tn.1, tn.2⟩⟩, hn Q rt, nxJ.no, nxJ.no, rt⟩
theorem def_MC {f : List D → (D → Prop) → Prop} {cd : Addr} (Fn : Fun K x qual st fa fd) (hcd0 : fd.code = .ref cd) (S : FnScope N ps (defScope st)) (len : ∀ ds k, f ds k → ds.length + (if hnd then 1 else 0) = ps.length)
    (body : ∀ (A : Around) (out : List Env) (s : Shared) (H : Hp) (E : XK), A.guards = some [] → Room lv (A.deeper (PyProof.Rows.envOfC qual (defScope st) s.heap.objs.size fa (.ref cd))) → ∀ (g : Gv) (ds : List D) (k : D → Prop) (l : List D → Prop), g.cm = cm → f ds k →
      ∃ Pr, Pr ∧ PSs (cxOf CX0 P w K mg base N qual (defScope st) fa (.ref cd) A out s H E).nox (defBody st) (tS K g (startB hnd N.length ds) (endJ N.length k) Jn.no Jn.no ⟨k, l⟩ Pr)) : KG.FnG P w K mg base (lv + 1) fa fd ps (spM K cm hnd f) :=
  def_DC Fn hcd0 S (fun ds r h => len ds r.d h) fun A out s H E hgd hr g ds r hc hm => by
    obtain ⟨Pr, hp, hb⟩ := body A out s H E hgd hr g ds r.d r.l hc hm
    exact ⟨Pr, _, hp, hb, end_D⟩
theorem def_LC {f : List D → (List D → Prop) → Prop} {cd : Addr} (Fn : Fun K x qual st fa fd) (hcd0 : fd.code = .ref cd) (S : FnScope N ps (defScope st)) (len : ∀ ds k, f ds k → ds.length + (if hnd then 1 else 0) = ps.length)
    (body : ∀ (A : Around) (out : List Env) (s : Shared) (H : Hp) (E : XK), A.guards = some [] → Room lv (A.deeper (PyProof.Rows.envOfC qual (defScope st) s.heap.objs.size fa (.ref cd))) → ∀ (g : Gv) (ds : List D) (k : List D → Prop) (d : D → Prop), g.cm = cm → f ds k →
      ∃ Pr, Pr ∧ PSs (cxOf CX0 P w K mg base N qual (defScope st) fa (.ref cd) A out s H E).nox (defBody st) (tS K g (startB hnd N.length ds) (endL N.length) Jn.no Jn.no ⟨d, k⟩ Pr)) : KG.FnG P w K mg base (lv + 1) fa fd ps (spL K cm hnd f) :=
  def_DC Fn hcd0 S (fun ds r h => len ds r.l h) fun A out s H E hgd hr g ds r hc hm => by
    obtain ⟨Pr, hp, hb⟩ := body A out s H E hgd hr g ds r.l r.d hc hm
    exact ⟨Pr, _, hp, hb, end_L⟩
end
section
variable {P : Program} {w : World} {K : PySem.W.Frag} {mg : Str → Option Value} {base : Heap} {x qual : Str} {st : Stmt} {fa fh : Addr} {fd fdh : FuncData} {N : List Str} {lv kh : Nat} {cm : Cm} {s1 : Stmt} {rest : List Stmt} {hn hnd : Str} {p1 p2 p3 p4 p5 : Pos} {psh : List Str}
theorem def_lawC {cd : Addr} (Fn : Fun K x qual st fa fd) (hcd0 : fd.code = .ref cd) (S : FnScope N ["script"] (defScope st)) (hb : defBody st = .Assign [.Name hnd p1] (.Call (.Name hn p2) [.Name "script" p3] [] p4) p5 :: rest)
    (hN : N[1]? = some hnd) (hl : N.length = (N.length - 2) + 2) (hloc : Loc (defScope st) hnd) (hsc : (defScope st).names.lookup ("script" : Str) = some .local) (hgl : (defScope st).names.lookup hn = some .globalImplicit) (hdb : (hn == ("__debug__" : Str)) = false)
    (Fh : FnOk P w K mg base CX0 kh fh fdh psh (spHandO K)) (hmh : mg hn = some (.ref fh)) (hkh : PySem.W.keepIn K (.ref fh) = true) (hbh : Binds K fdh psh []) (hk : kh ≤ lv) (hN0 : N[0]? = some ("script" : Str))
    (body : ∀ (A : Around) (out : List Env) (s : Shared) (H : Hp) (E : XK), A.guards = some [] → Room lv (A.deeper (PyProof.Rows.envOfC qual (defScope st) s.heap.objs.size fa (.ref cd))) → ∀ (g : Gv), g.cm = cm →
      ∃ Pr, Pr ∧ PSs (cxOf CX0 P w K mg base N qual (defScope st) fa (.ref cd) A out s H E).nox rest (tS K g (.any :: .hand :: anyB (N.length - 2)) Jn.no Jn.no Jn.no ⟨fun d => d = .bl true, fun _ => False⟩ Pr)) : KG.FnG P w K mg base (lv + 1) fa fd ["script"] (spLawT K cm.tb) := by
  refine KGc.okGc Fn hcd0 S (fun vs H Q E h => ?_) (fun A out s H vs Q E hgd hr h => ?_)
  · obtain ⟨_, a, ns, rfl, _⟩ := h
    rfl
  · obtain ⟨tb0, a, ns, rfl, ha, hl63, q⟩ := h
    have hx : PE (cxOf CX0 P w K mg base N qual (defScope st) fa (.ref cd) A out s H E).nox (.Name "script" p3) (tVar 0) := pv 0 hN0 (.inl hsc) (by decide)
    have h1 : PS (cxOf CX0 P w K mg base N qual (defScope st) fa (.ref cd) A out s H E).nox (.Assign [.Name hnd p1] (.Call (.Name hn p2) [.Name "script" p3] [] p4) p5) _ := ps_set (i := 1) S.nd hN hloc (pe_call Fh (hr.mono hk) hgl hmh hkh hbh .nil pass0 (pa_cons hx pa_nil) hdb)
    have hall : PSs (cxOf CX0 P w K mg base N qual (defScope st) fa (.ref cd) A out s H E).nox (.Assign [.Name hnd p1] (.Call (.Name hn p2) [.Name "script" p3] [] p4) p5 :: rest) (fun En σ H0 => σ = L2.start N [V.ref a] ∧ H0 = H ∧ En.rt = Q) := by
      refine PSs.imp (Evl.pss_cut h1 (u := fun En σ H1 => En.rt = Q ∧ ∃ (g : Gv), g.cm = cm ∧ ∃ F, Sat K g (.any :: .hand :: anyB (N.length - 2)) σ F H1) ⟨fun pins s' σ' H' En I hyp => ?_⟩) fun En σ H0 hyp => ?_
      · obtain ⟨er, g, hg, sa⟩ := hyp
        obtain ⟨Pr, hp, hb⟩ := body A out s H E hgd hr g hg
        exact hb.run pins s' σ' H' En I ⟨hp, sa, nxJ.no, nxJ.no, nxJ.no, ⟨fun d v F H hd _ i => by
          subst hd
          rw [i.bl_inv, er]
          exact q H, fun _ _ _ _ _ h => h.elim⟩⟩
      · obtain ⟨rfl, rfl, er⟩ := hyp
        refine ⟨_, ⟨V.ref a, ?_, a, ns, rfl, ha, hl63, fun h c H' nh nc sm ho => ?_⟩, fun _ _ z => z⟩
        · rfl
        · obtain ⟨cs, i, b, m, n, g1, g2, g3, g4, g5, g6⟩ := ho.ex
          have exc : Ex (upd (fun _ => none) c (.lst (cs.map V.int))) H' := fun z u hz => by
            by_cases e : z = c
            · rw [e, upd_same] at hz
              rw [e, g2]
              exact hz
            · rw [upd_ne e] at hz
              cases hz
          refine ⟨er, ⟨cm, some (h, c), upd (fun _ => none) c (.lst (cs.map V.int)), H', upd (fun _ => none) c (.lst (cs.map V.int))⟩, rfl, upd (fun _ => none) c (.lst (cs.map V.int)), exc, fun p hp => ?_, Stp.refl exc, ⟨[], ?_, fun z hz => nomatch hz⟩, Ex.refl _, tb0.ext sm, fun b ps hb => by
            by_cases e : b = c
            · rw [e, upd_same] at hb
              cases hb
            · rw [upd_ne e] at hb
              cases hb⟩
          · cases hp
            exact ⟨⟨cs, i, b, m, n, g1, upd_same, g4, g5, g6⟩, by rw [upd_ne (Ne.symm g3)]⟩
          · have : L2.start N [V.ref a] = some (.ref a) :: none :: List.replicate (N.length - 2) none := by
              unfold L2.start
              show some (V.ref a) :: List.replicate (N.length - 1) none = _
              rw [show N.length - 1 = (N.length - 2) + 1 by omega]
              rfl
            rw [this]
            exact .any (.hand (c := c) rfl (Sl.nones _))
    rw [hb]
    exact ⟨_, hall, rfl, rfl, rfl⟩
end
section
variable {X : Cx} {g : Gv} {bs bl : List B}
theorem e_lamF {x a : Str} {gf cd P : Addr} {fd : FuncData} {k : Nat} {st : Stmt} {N : List Str} {ar : Arguments} {bd : Expr} {sc : Scope} {p lpos pos : Pos} {m : ((D → Prop) → Xd → Prop) → (D → Prop) → Prop} {mb : (D → Prop) → Xd → Prop} (hgd : X.A.guards = some []) (hbl : lamB bs = bl)
    (gives : ∀ cdv, KL.Gives X N x (defScope st) gf cdv (defBody st) a k (TTf X.K g.cm m)) (hr : Room (k + 2) X.A) (hg : Gl X x) (hm : X.mg x = some (.ref gf)) (F : Fun X.K x x st gf fd) (hb : L2.Binds X.K fd [a] []) (Sg : FnScope N [a] (defScope st)) (hNg : N[0]? = some a) (hva : Vis (defScope st) a) (tb : TabB X.base X.mg cd P) (hcd : X.env.code = .ref cd) (mem : (P, KL.lamN X) ∈ g.cm.tb) (one : ∀ p ∈ g.cm.tb, p.1 = P → p.2 = KL.lamN X)
    (L : LamX.lamSB X.env.scope sc = true) (nod : defaultsOf ar X.env = ([], [])) (bnd : ∀ (q : Str) (cl : List (Str × Addr)) (pm cv tv : Value), bindArgs (PySem.W.kla_fn "<lambda>" q ar bd sc cl pm cv tv) ⟨[], []⟩ = pure [])
    (hbody : ∀ (A : Around) (outer : List Env) (s : Shared) (H : Hp) (E : XK) (f kc : Addr), (lamCx X A outer s H E sc f kc).A.guards = some [] → Room k (lamCx X A outer s H E sc f kc).A → ∀ (hd : Option (Addr × Addr)) (F0 H0 A0 : Hp) (y : Xd), Am (lamCx X A outer s H E sc f kc) ⟨g.cm, hd, F0, H0, A0⟩ (anyB X.N.length) y (fun cls d _ H => E cls d H) → PE (lamCx X A outer s H E sc f kc) bd (tM X.K ⟨g.cm, hd, F0, H0, A0⟩ bl (fun k => mb k y)))
    (hdb : (x == ("__debug__" : Str)) = false := by decide) (nd : (a == ("__debug__" : Str)) = false := by decide) (ncd : (a == ("__classdict__" : Str)) = false := by decide) : PE X (.Call (.Name x p) [.Lambda ar bd sc lpos] [] pos) (tM X.K g bs (m mb)) := by
  obtain ⟨oc, od, kV, doc, pm, an, cdv, ct, osl, rfl, lk, hcg⟩ := F.ex
  exact e_lam hg hm F.kp lk hcg hb Sg hNg hva (gives cdv) tb hcd mem one hr (LamX.lamS_by L) nod bnd hbl (fun A st yz Y E f kc hA hr2 g' y hc am => match g', hc, am with | ⟨_, hd, F0, H0, A0⟩, rfl, am => hbody A st yz Y E f kc (hA.trans hgd) hr2 hd F0 H0 A0 y am) hdb nd ncd
end
end FE
set_option Elab.async false
set_option linter.all false
set_option maxRecDepth 100000
set_option maxHeartbeats 4000000
/-! The end of a law whose defs make lambdas. -/
namespace KG
open PySem L2 PySem.Spec PyProof.Rows
open LamX (TabB Tabs TabS)
/-- where a code object has its table of codes -/
def tabOf (K : PySem.W.Frag) (c : Addr) : Addr := match K.lookup c with
  | some ⟨_, _, .fields vs, _⟩ => (match (vs[11]? : Option Value) with | some (.ref P) => P | _ => 0)
  | _ => 0
/-- the seat, and the tables, which are empty -/
def withT (ts : List Addr) (H : Hp) : Hp := fun b => if b ∈ ts then some (.tbl #[]) else H b
section
variable {P : Program} {w : World} {K : PySem.W.Frag} {mg mb : Str → Option Value} {fa a : Addr} {fd : FuncData} {x : Str} {sp : Sp} {s : Shared} {vs : List Value} {ns : List Int} {k : Nat}
theorem withT_in {ts : List Addr} {H : Hp} {b : Addr} (h : b ∈ ts) : withT ts H b = some (.tbl #[]) := if_pos h
theorem withT_out {ts : List Addr} {H : Hp} {b : Addr} (h : b ∉ ts) : withT ts H b = H b := if_neg h
theorem end_ofT {H : Hp} {cs : List (Addr × Addr)} (S : Seat P w K a ns s H) (KX : K.In s.heap) (hns : s.heap.Ns mainGlobals mg) (hb : s.heap.Ns builtinsNs mb) (hbb : ∀ x : Str, x ≠ "__name__" → mb x = bootBuiltins x) (hlim : s.heap.NoLimit) (hg : s.gens = #[])
    (hbm : ∃ (bm : Addr) (ob : Obj), mg "__builtins__" = some (.ref bm) ∧ bm ≠ builtinsNs ∧ s.heap.get? bm = some ob ∧ ob.cls = .type "module" ∧ ob.dict = some builtinsNs ∧ ob.data = .plain)
    (hT : ∀ p ∈ cs, s.heap.get? p.2 = some { cls := .none, data := .fields #[] }) (nT : ∀ p ∈ cs, K.lookup p.2 = none) (C : ∀ p ∈ cs, PySem.W.CodeHd s.heap p.1 p.2)
    (ha : s.heap.get? a = some { cls := .type "list", data := .seq vs.toArray }) (hr : Room k callerA) (F : ∀ base : Heap, K.In base → base.Ns mainGlobals mg → (∀ p ∈ cs, TabB base mg p.1 p.2) → FnG P w K mg base k fa fd [x] sp)
    (hbind : ∀ (s : Shared) (u : Value), BindsTo s fd ⟨[u], []⟩ [(x, u)]) (hsp : sp [.ref a] (withT (cs.map (·.2)) H) (fun v _ => v = .bl true) fun _ _ _ => False) :
    codeAny (model P w) callerA (.call (.ref fa) ⟨[.ref a], []⟩) (fun r s' => r = .ok (.ret (.bool true)) ∧ OldK s.heap s'.heap ∧ s'.os = s.os ∧ AllBare s'.gens) s := by
  have isT : ∀ b ∈ cs.map (·.2), s.heap.get? b = some { cls := .none, data := .fields #[] } := fun b hb => by
    obtain ⟨p, hp, e⟩ := List.mem_map.mp hb
    exact e ▸ hT p hp
  have fam : ∀ {b : Addr}, b ∈ cs.map (·.2) → ∃ p ∈ cs, p.2 = b := fun hb => by
    obtain ⟨p, hp, e⟩ := List.mem_map.mp hb
    exact ⟨p, hp, e⟩
  have mem : ∀ p ∈ cs, p.2 ∈ cs.map (·.2) := fun p hp => List.mem_map.mpr ⟨p, hp, rfl⟩
  let G := withT (cs.map (·.2)) H
  have inB : ∀ {b : Addr} {o : Obj}, s.heap.get? b = some o → G b = none → (hidT s.heap G).get? b = some o := fun e n => hidT_get e n
  have there : ∀ b, G b ≠ none → b = a ∨ b ∈ cs.map (·.2) := fun b n => by
    by_cases hb : b ∈ cs.map (·.2)
    · exact .inr hb
    · exact .inl (S.here b (by rw [← withT_out (H := H) hb]; exact n))
  have aOut : a ∉ cs.map (·.2) := fun z => by
    have e := isT a z
    rw [ha] at e
    have e2 : Data.seq vs.toArray _ = Data.fields #[] := congrArg Obj.data (Option.some.inj e)
    cases e2
  -- what is neither a list nor an empty table is not tracked
  have free : ∀ {b : Addr} {o : Obj}, s.heap.get? b = some o → (∀ us n, o.data ≠ .seq us n) → o.data ≠ .fields #[] → G b = none := fun {b o} e n1 n2 => by
    cases q : G b with
    | none => rfl
    | some u =>
      rcases there b (by rw [q]; exact fun z => nomatch z) with e' | e'
      · rw [e', ha] at e
        cases e
        exact (n1 _ _ rfl).elim
      · rw [isT b e'] at e
        cases e
        exact (n2 rfl).elim
  have names : ∀ {b : Addr} {m : Str → Option Value}, s.heap.Ns b m → (hidT s.heap G).Ns b m := by
    rintro b m ⟨o, es, ep, e, d, r⟩
    exact ⟨o, es, ep, inB e (free e (fun us n z => by rw [d] at z; cases z) fun z => by rw [d] at z; cases z), d, r⟩
  have KB : K.In (hidT s.heap G) := by
    intro b o e
    refine inB (KX b o e) ?_
    cases q : G b with
    | none => rfl
    | some u =>
      by_cases hb : b ∈ cs.map (·.2)
      · obtain ⟨p, hp, ep⟩ := fam hb
        rw [← ep, nT p hp] at e
        cases e
      · have hn : H b ≠ none := by
          rw [← withT_out (H := H) hb]
          show G b ≠ none
          rw [q]
          exact fun z => nomatch z
        have e' := S.here b hn
        subst e'
        rw [S.out hn] at e
        cases e
  have TB : ∀ p ∈ cs, TabB (hidT s.heap G) mg p.1 p.2 := by
    intro p hp
    obtain ⟨bm, ob, b1, b2, b3, b4, b5, b6⟩ := hbm
    have ne1 : bm ≠ mainGlobals := by
      rintro rfl
      obtain ⟨o, es, ep, e, d, _⟩ := hns
      rw [e] at b3
      cases b3
      rw [d] at b6
      cases b6
    have ne2 : bm ≠ p.2 := by
      rintro rfl
      rw [hT p hp] at b3
      cases b3
      cases b6
    have ne3 : mainGlobals ≠ p.2 := by
      intro z
      obtain ⟨o, es, ep, e, d, _⟩ := hns
      rw [z, hT p hp] at e
      cases e
      cases d
    obtain ⟨o, us, file, tf, flags, tg, inF, text, tt, e1, r1, r2, r3, r⟩ := C p hp
    refine ⟨⟨o, us, file, tf, flags, tg, inF, text, tt, inB e1 (free e1 (fun us n z => by rw [r2] at z; cases z) fun z => ?_), r1, r2, r3, r⟩, ⟨bm, ob, b1, b2, ne1, ne2, inB b3 (free b3 (fun us n z => by rw [b6] at z; cases z) fun z => by rw [b6] at z; cases z), b4, b5, b6⟩, ne3⟩
    rw [r2] at z
    cases z
    simp at r3
  have ok : HOk P w G s.heap := fun b u z => by
    by_cases hb : b ∈ cs.map (·.2)
    · have z' : withT (cs.map (·.2)) H b = some u := z
      rw [withT_in hb] at z'
      cases z'
      exact isT b hb
    · have z' : H b = some u := (withT_out (H := H) hb).symm.trans z
      rcases S.only b with q | ⟨o, xs, q⟩
      · rw [q] at z'
        cases z'
      · rw [q] at z'
        cases z'
        exact S.ok b _ q
  obtain ⟨ml, l1, l2⟩ := hlim
  have env : Env0 P w K mg (hidT s.heap G) callerA [] s G :=
    ⟨rfl, ⟨KB, names hns, ⟨mb, names hb, hbb⟩, ⟨ml, names l1, l2⟩⟩, (fun b o e => of_hidT e), Nat.le_of_eq (hidT_size _ _), trivial, (fun b hb => by cases hb), ok, .of_eq hg⟩
  refine codeAny_mono ((F _ KB (names hns) TB).go callerA [] s G ⟨[.ref a], []⟩ [.ref a] [.ref a] _ _ rfl hr env (hbind s (.ref a)) (.cons rfl .nil) hsp) ?_
  intro r s2 z
  match r, z with
  | .error e, z => exact False.elim z
  | .ok .next, z => exact False.elim z
  | .ok .brk, z => exact False.elim z
  | .ok .cont, z => exact False.elim z
  | .ok (.ret u), z =>
    obtain ⟨v, H', os, bare, un, ok2, rvu, q⟩ := z
    have q' : v = .bl true := q
    subst q'
    obtain rfl : u = Value.bool true := rvu
    have more : ∀ b ∈ cs.map (·.2), ∃ xs : Array Value, s2.heap.get? b = some { cls := .none, data := .fields xs } := fun b hb => by
      obtain ⟨xs, e⟩ := un.tbls b #[] (withT_in hb)
      exact ⟨_, ok2 b _ e⟩
    have same : ∀ b o, b ∉ cs.map (·.2) → s.heap.get? b = some o → s2.heap.get? b = some o := fun b o hb e => by
      cases q : G b with
      | none => exact un.keep b o e q (by intro z; cases z) (by intro z; cases z)
      | some u =>
        rcases S.only b with z | ⟨ob, xs, z⟩
        · exact absurd (((withT_out (H := H) hb).trans z).symm.trans q) (fun z => nomatch z)
        · obtain ⟨e1, _⟩ := S.ok b _ z
          obtain ⟨e2, _⟩ := ok2 b _ (un.frzs b ob _ ((withT_out (H := H) hb).trans z))
          rw [e] at e1
          cases e1
          exact e2
    refine ⟨rfl, ⟨fun b o e => ?_, fun b o e => ?_⟩, os, bare⟩
    · by_cases hb : b ∈ cs.map (·.2)
      · obtain ⟨p, hp, ep⟩ := fam hb
        obtain ⟨xs, e2⟩ := more b hb
        subst ep
        rw [hT p hp] at e
        cases e
        exact .inr (.inl ⟨((C p hp).tab (hT p hp)).isCodeTable, rfl, #[], xs, rfl, by rw [Array.empty_append]; exact e2⟩)
      · exact .inl (same b o hb e)
    · by_cases hb : b ∈ cs.map (·.2)
      · obtain ⟨xs, e2⟩ := more b hb
        exact ⟨_, e2⟩
      · exact ⟨o, same b o hb e⟩
end
theorem walk_ofGT {l : PySem.W.OpenLaw} {n k : Nat} {q : Program} {loose : List Str} {XP : (Str → Option Value) → Heap → Prop} {YP : World → Heap → Prop} {d : DefRec} {K : Params → PySem.W.Frag}
    (hn : l.most = some n) (hn2 : n ≤ 63) (hdf : d.params.defaults = []) (hr : Room k callerA) (hY : ∀ (w : World) (h : Heap), YP w h → (K w.params).In h)
    (F : ∀ (w : World) (mg : Str → Option Value) (fa : Addr) (h : Heap), YP w h → (K w.params).In h → h.Ns mainGlobals mg → mg d.name = some (.ref fa) →
      ∃ (fd : FuncData) (cs : List (Addr × Addr)) (tb : List (Addr × Str)), (∀ p ∈ cs, h.get? p.2 = some { cls := .none, data := .fields #[] }) ∧ (∀ p ∈ cs, (K w.params).lookup p.2 = none) ∧ (∀ p ∈ cs, PySem.W.CodeHd h p.1 p.2) ∧ (∀ t ∈ tb, t.1 ∈ cs.map (·.2)) ∧
        (∀ (s : Shared) (u : Value), BindsTo s fd ⟨[u], []⟩ [("script", u)]) ∧ ∀ base : Heap, (K w.params).In base → base.Ns mainGlobals mg → (∀ p ∈ cs, TabB base mg p.1 p.2) → FnG l.prog w (K w.params) mg base k fa fd ["script"] (FE.spLawT (K w.params) tb)) :
    PySem.W.WalkO q loose XP YP l.row.toRowW d [] (fun f vs => PySem.call f vs) := by
  refine Att.attach_call hn hdf ?_
  intro w s0 s mg mb fa o pm cd doc a vs ns G Y ho hd hcd hmg hobj hints hlen hg
  have KX := hY w _ Y
  obtain ⟨fd, cs, tb, hT, nT, C, hin, hb, hF⟩ := F w mg fa _ Y KX G.T.g hmg
  obtain ⟨H, S⟩ := seat_of (P := l.prog) (w := w) KX hobj hints (Nat.le_trans hlen (Nat.le_trans hn2 (by decide)))
  have aOut : a ∉ cs.map (·.2) := fun z => by
    obtain ⟨p, hp, e⟩ := List.mem_map.mp z
    have := hT p hp
    rw [e, hobj] at this
    have e2 : Data.seq vs.toArray _ = Data.fields #[] := congrArg Obj.data (Option.some.inj this)
    cases e2
  have same : ∀ b u, H b = some u → withT (cs.map (·.2)) H b = some u := fun b u h => by
    have e := S.here b (by rw [h]; exact fun z => nomatch z)
    rw [withT_out (by rw [e]; exact aOut)]
    exact h
  exact end_ofT S KX G.T.g G.T.b G.T.builtins G.T.nolimit hg G.T.bmain hT nT C hobj hr hF hb ⟨fun t ht => ⟨#[], withT_in (hin t ht), trivial, fun pos cv h => by cases h⟩, a, ns, rfl, S.seq.ext same, Nat.le_trans hlen hn2, fun _ => rfl⟩
end KG
set_option Elab.async false
set_option linter.all false
set_option maxRecDepth 100000
set_option maxHeartbeats 4000000
/-! len(set(ints)). -/
namespace FE
open PySem L2 PySem.Spec PyProof.Rows
/-- the unlike ones -/
structure Unl (ns ds : List Int) : Prop where
  nodup : ds.Nodup
  mem : ∀ x, x ∈ ds ↔ x ∈ ns
theorem firstMet_unl (f : Nat → Int) : ∀ n, Unl ((List.range n).map f) (firstMet f n)
  | 0 => ⟨List.nodup_nil, fun x => Iff.rfl⟩
  | n + 1 => by
    have ih := firstMet_unl f n
    rw [firstMet_succ, List.range_succ, List.map_append]
    unfold step_dedup
    split
    · next h =>
      have hm : f n ∈ firstMet f n := by
        obtain ⟨y, hy, e⟩ := List.any_eq_true.mp h
        rw [← beq_iff_eq.mp e]
        exact hy
      refine ⟨ih.nodup, fun x => ?_⟩
      rw [ih.mem, List.mem_append]
      refine ⟨.inl, fun h => h.elim id fun h => ?_⟩
      rw [List.map_cons, List.map_nil, List.mem_singleton] at h
      rw [h]
      exact (ih.mem _).mp hm
    · next h =>
      refine ⟨?_, fun x => ?_⟩
      · rw [List.nodup_append]
        refine ⟨ih.nodup, by simp, fun a ha b hb e => h ?_⟩
        rw [List.mem_singleton] at hb
        rw [List.any_eq_true]
        exact ⟨a, ha, by rw [e, hb]; exact beq_self_eq_true _⟩
      · rw [List.mem_append, List.mem_append, ih.mem]
        simp
def oLenSet : D → (D → Prop) → Prop
  | .lst l, k => ∃ ns : List Int, l = ns.map D.int ∧ l.length ≤ 4000 ∧ ∀ ds : List Int, Unl ns ds → k (.int ds.length)
  | _, _ => False
def tLenSetD (K : PySem.W.Frag) (ta : TE) : TE := fun σ H Q => ta σ H fun x H1 => ∃ (l : Addr) (ns : List Int), x = .ref l ∧ SqL K H1 l (ns.map V.int) ∧ ns.length ≤ 4000 ∧ ∀ ds : List Int, Unl ns ds → Q (.int (ds.length : Nat)) H1
theorem pe_lenSetD {X : Cx} {a : Expr} {ta : TE} {p p2 q pos : Pos} (hc : X.calm = true) (hg : Gl X "len") (hm : X.mg "len" = none) (hg2 : Gl X "set") (hm2 : X.mg "set" = none) (ha : PE X a ta)
    (na : starEach [a] X.env = (false, eval a X.env) :: starEach [] X.env) : PE X (.Call (.Name "len" p) [.Call (.Name "set" p2) [a] [] q] [] pos) (tLenSetD X.K ta) := by
  constructor
  intro pins s σ H Q I h
  refine Call_ (ld_blt I hg hm boot_len ?_)
  refine PyProof.Rows.callWith_builtin1 (PyProof.Rows.args_cons ?_ rfl) rfl rfl
  refine Call_ (ld_blt I hg2 hm2 boot_set ?_)
  refine PyProof.Rows.callWith_type1 (PyProof.Rows.args_cons (thn (ha.run pins s σ H _ I h) fun v s1 ⟨x, H1, I1, r1, l, ns, ex, hq, hl, q1⟩ => PyProof.Rows.args_nil ?_) na) na rfl
  subst ex
  obtain rfl : v = Value.ref l := r1
  obtain ⟨its, r, pl, hz⟩ := I1.list hq
  have hlen : its.toArray.size = ns.length := by rw [List.size_toArray, ← r.length, List.length_map]
  refine call_set_list (I1.ok.hd hc) pl.isList (by simpa using RZ.intsAre_vals r) (by rw [hlen]; unfold scanBound; omega) fun h' tk hS hk => PyProof.Rows.args_nil ?_
  rw [hlen] at hS
  have un := firstMet_unl (fun i => ns.getD i 0) ns.length
  have le := firstMet_length_le (fun i => ns.getD i 0) ns.length
  have e : (List.range ns.length).map (fun i => ns.getD i 0) = ns := by
    apply List.ext_getElem
    · simp
    · intro i h1 h2
      simp [List.getD_eq_getElem?_getD, List.getElem?_eq_getElem h2]
  rw [e] at un
  obtain ⟨o, es, ep, t, ho, hex, hd, _, _, _, hf, hn⟩ := hS
  have I2 : Inv X pins σ H1 { s1 with heap := h', toks := tk } := I1.kept fun b o e => hk b o (Heap.lt_size e) e
  exact call_len_set ho hex hd hf (by rw [hn] <;> omega) ⟨.int (firstMet (fun i => ns.getD i 0) ns.length).length, H1, I2.tok _, ⟨_, by rw [hn]⟩, q1 _ un⟩
theorem e_lenSet {X : Cx} {g : Gv} {bs : List B} {a : Expr} {ma : (D → Prop) → Prop} {p p2 q pos : Pos} (hc : X.calm = true) (hg : Gl X "len") (hm : X.mg "len" = none) (hg2 : Gl X "set") (hm2 : X.mg "set" = none) (ha : PE X a (tR X.K g bs ma))
    (na : starEach [a] X.env = (false, eval a X.env) :: starEach [] X.env := by rfl) : PE X (.Call (.Name "len" p) [.Call (.Name "set" p2) [a] [] q] [] pos) (tM X.K g bs (w1 oLenSet ma)) :=
  PE.imp (pe_lenSetD hc hg hm hg2 hm2 ha na) fun σ H Q ⟨F, k, s, hm, q⟩ => ⟨F, _, s, hm, fun d v F1 H1 kd st iv => by
    unfold oLenSet at kd
    split at kd
    · obtain ⟨ns, rfl, sz, kz⟩ := kd
      obtain ⟨a, us, rfl, ha, ia⟩ := iv.lst st.fh
      rw [ia.ints_inv] at ha
      exact ⟨a, ns, rfl, SqL.of ha, by simpa using sz, fun ds u => q _ _ F1 H1 (kz ds u) st (.int _)⟩
    · exact kd.elim⟩
end FE
set_option Elab.async false
set_option linter.all false
set_option maxRecDepth 100000
set_option maxHeartbeats 4000000
/-! x[i], x[j] = a, b. -/
namespace FE
open PySem L2 PySem.Spec
open Evl (Ex)
theorem PE.exs {A : Type} {X : Cx} {e : Expr} {t : A → TE} (h : ∀ a, PE X e (t a)) : PE X e (fun σ H Q => ∃ a, t a σ H Q) := ⟨fun pins s σ H Q I ⟨a, q⟩ => (h a).run pins s σ H Q I q⟩
section
variable {X : Cx} {g : Gv} {bs : List B} {n b c : Jn} {r : Rt} {i : Nat} {x : Str} {e1 e2 e3 e4 : Expr} {m1 m3 m4 : (D → Prop) → Prop} {m2 : D → Nat → (D → Prop) → Prop} {rest : List Stmt} {ds : List D} {p0 p1 p2 p3 p4 p5 pos : Pos} {kt kv : Nat}
theorem s_swp {P : D → D → Nat → Nat → Prop} {bs' : D → D → Nat → Nat → List B} (hc : X.calm = true) (hx : PE X (.Name x p1) (tVar i)) (hx2 : PE X (.Name x p3) (tVar i)) (h1 : PE X e1 (tR X.K g bs m1))
    (h2 : ∀ u k, PE X e2 (tR X.K g (bs.set i (.own (ds.set k u))) (m2 u k))) (h3 : PE X e3 (tM X.K g bs m3)) (h4 : PE X e4 (tM X.K g bs m4))
    (hr : ∀ u v k l, PSs X rest (tS X.K g (bs' u v k l) n b c r (P u v k l))) (hb : bs[i]? = some (.own ds) := by rfl) (hb2 : ∀ u k, (bs.set i (.own (ds.set k u)))[i]? = some (.own (ds.set k u)) := by intro _ _; rfl) (hbs : ∀ u v k l, (bs.set i (.own (ds.set k u))).set i (.own ((ds.set k u).set l v)) = bs' u v k l := by intro _ _ _ _; rfl)
    (ha : ∀ v, assign (.Subscript (.Name x p1) e1 p2) X.env v = (do
      let ov ← holding [v] (eval (.Name x p1) X.env)
      let iv ← holding [v, ov] (eval e1 X.env)
      standAt p2
      holding [v, ov, iv] (setItem ov iv v)
      release [v, ov, iv] []) := by intro _; rfl)
    (ha2 : ∀ v, assign (.Subscript (.Name x p3) e2 p4) X.env v = (do
      let ov ← holding [v] (eval (.Name x p3) X.env)
      let iv ← holding [v, ov] (eval e2 X.env)
      standAt p4
      holding [v, ov, iv] (setItem ov iv v)
      release [v, ov, iv] []) := by intro _; rfl)
    (c1 : (assignEach [.Subscript (.Name x p1) e1 p2, .Subscript (.Name x p3) e2 p4] X.env).map (·.2) = assign (.Subscript (.Name x p1) e1 p2) X.env :: (assignEach [.Subscript (.Name x p3) e2 p4] X.env).map (·.2) := by rfl)
    (c2 : (assignEach [.Subscript (.Name x p3) e2 p4] X.env).map (·.2) = assign (.Subscript (.Name x p3) e2 p4) X.env :: (assignEach [] X.env).map (·.2) := by rfl)
    (hn : (assignEach [.Subscript (.Name x p1) e1 p2, .Subscript (.Name x p3) e2 p4] X.env).length = 2 := by rfl) (hst : (assignEach [.Subscript (.Name x p1) e1 p2, .Subscript (.Name x p3) e2 p4] X.env).findIdx? (·.1) = none := by rfl)
    (s1 : starEach [e3, e4] X.env = (false, eval e3 X.env) :: starEach [e4] X.env := by rfl) (s2 : starEach [e4] X.env = (false, eval e4 X.env) :: starEach [] X.env := by rfl)
    (hs : swapsWithSole [.Tuple [.Subscript (.Name x p1) e1 p2, .Subscript (.Name x p3) e2 p4] kt p5] (.Tuple [e3, e4] kv p0) pos.line X.env = pure false := by rfl)
    (hw : swappedStores [.Tuple [.Subscript (.Name x p1) e1 p2, .Subscript (.Name x p3) e2 p4] kt p5] (.Tuple [e3, e4] kv p0) X.env = pure none := by rfl)
    (hq : (assignEach [.Tuple [.Subscript (.Name x p1) e1 p2, .Subscript (.Name x p3) e2 p4] kt p5] X.env).map (·.2) = [assign (.Tuple [.Subscript (.Name x p1) e1 p2, .Subscript (.Name x p3) e2 p4] kt p5) X.env] := by rfl) :
    PSs X (.Assign [.Tuple [.Subscript (.Name x p1) e1 p2, .Subscript (.Name x p3) e2 p4] kt p5] (.Tuple [e3, e4] kv p0) pos :: rest)
      (tS X.K g bs n b c r (m3 fun u => m4 fun v => m1 fun z => oPut ds z fun k => m2 u k fun w => oPut (ds.set k u) w fun l => P u v k l)) :=
  cons_of (ps_asg (pe_tup (a_cons h3 (a_cons h4 a_nil s2) s1)) (pg_tup hc (pgs_cons (pg_sub hx h1 set_list ha) (pgs_cons (pg_sub hx2 (PE.exs fun a : D × Nat => h2 a.1 a.2) set_list ha2) pgs_nil c2) c1) hn hst) hs hw hq) (fun a : D × D × Nat × Nat => hr a.1 a.2.1 a.2.2.1 a.2.2.2) fun E σ H ⟨p, ⟨F, sa⟩, q⟩ => by
    refine ⟨F, fun ds' => match ds' with
      | [u, v] => m1 fun z => oPut ds z fun k => m2 u k fun w => oPut (ds.set k u) w fun l => P u v k l
      | _ => False, sa, p, fun es vs F1 H1 pe st iv => ?_⟩
    match es, pe, iv with
    | [u, v], pe, .cons (v := vu) iu (.cons (v := vv) iv .nil) =>
      refine ⟨by show 2 ≤ sizeLine; decide, fun pt np => ?_⟩
      refine ⟨pt, [vu, vv], rfl, SqT.of upd_same, rfl, ?_⟩
      have sa1 := (sa.step st)
      have st2 : Stp g.hd g.cm.tb F1 H1 F1 (upd H1 pt (.tup [vu, vv])) := Stp.ext sa1.ex (Ex.new np)
      have sa2 := sa1.step st2
      obtain ⟨a, us, q1, q2, q3, q4, q5⟩ := sa2.getO hb
      refine ⟨vu, [vv], rfl, ?_⟩
      refine ⟨_, q1, F1, _, sa2, pe, fun z w F2 H2 pz s2 iw => ?_⟩
      cases z with
      | int z =>
        obtain ⟨k, hk, pk⟩ := pz
        have sa3 := sa2.step s2
        have q2' := s2.kpL q2 fun p e => (q5 p e).1
        refine ⟨a, us, z, k, rfl, iw.int, q2', by rw [q3.len]; exact hk, ?_⟩
        have sa4 := sa3.mutO hb q1 ((q3.mono s2.ff).set k (iu.mono s2.ff))
        obtain ⟨a', us', r1, r2, r3, r4, r5⟩ := sa4.getO (hb2 u k)
        refine ⟨vv, [], rfl, ?_⟩
        refine ⟨_, r1, ⟨u, k⟩, F2, _, sa4, pk, fun z2 w2 F3 H3 pz2 s3 iw2 => ?_⟩
        cases z2 with
        | int z2 =>
          obtain ⟨l, hl, pl⟩ := pz2
          have r2' := s3.kpL r2 fun p e => (r5 p e).1
          refine ⟨a', us', z2, l, rfl, iw2.int, r2', by rw [r3.len]; exact hl, rfl, (u, v, k, l), pl, F3, ?_⟩
          rw [← hbs u v k l]
          exact (sa4.step s3).mutO (hb2 u k) r1 ((r3.mono s3.ff).set l (iv.mono (s2.ff.trans s3.ff)))
        | _ => exact pz2.elim
      | _ => exact pz.elim
    | [], pe, _ => exact pe.elim
    | [_], pe, _ => exact pe.elim
    | _ :: _ :: _ :: _, pe, _ => exact pe.elim
end
theorem ElsAt.ext {K : PySem.W.Frag} {g : Gv} {F H H2 H00 : Hp} (e : Ex H H2) : ∀ {ps : List Addr} {vs : List V} {es : List El}, ElsAt K g F H H00 ps vs es → ElsAt K g F H2 H00 ps vs es
  | _, _, _, .nil => .nil
  | _, _, _, .d h q => .d h (ElsAt.ext e q)
  | _, _, _, .l n0 f h i n q => .l n0 f (e _ _ h) i n (ElsAt.ext e q)
section
variable {X : Cx} {g : Gv} {bs : List B} {n b c : Jn} {r : Rt} {rest : List Stmt} {e1 e2 e3 : Expr} {x y z : Str} {pos px py pz pt pt2 : Pos} {mE : (List El → Prop) → Prop} {i j l : Nat}
/-- a, b = e1, e2 where a name is a cell: a tuple is made -/
theorem s_parC2 {A1 A2 : Type} {k1 : Kd A1} {k2 : Kd A2} {P : A1 → A2 → Prop} {bs' : A1 → A2 → List B} {kt kt2 : Nat} (hc : X.calm = true) (g1 : PG X (.Name x px) (gName i)) (g2 : PG X (.Name y py) (gName j)) (ha : PA X [e1, e2] (tE X.K g bs mE))
    (hr : ∀ (u : A1) (v : A2), PSs X rest (tS X.K g (bs' u v) n b c r (P u v))) (hbs : ∀ a b, setEls [i, j] [k1.el a, k2.el b] bs = bs' a b := by intro _ _; rfl)
    (c1 : (assignEach [.Name x px, .Name y py] X.env).map (·.2) = assign (.Name x px) X.env :: (assignEach [.Name y py] X.env).map (·.2) := by rfl)
    (c2 : (assignEach [.Name y py] X.env).map (·.2) = assign (.Name y py) X.env :: (assignEach [] X.env).map (·.2) := by rfl)
    (hn : (assignEach [.Name x px, .Name y py] X.env).length = 2 := by rfl) (hst : (assignEach [.Name x px, .Name y py] X.env).findIdx? (·.1) = none := by rfl)
    (hw : swappedStores [.Tuple [.Name x px, .Name y py] kt pt] (.Tuple [e1, e2] kt2 pt2) X.env = pure none := by rfl) (hs : swapsWithSole [.Tuple [.Name x px, .Name y py] kt pt] (.Tuple [e1, e2] kt2 pt2) pos.line X.env = pure false := by rfl)
    (hq : (assignEach [.Tuple [.Name x px, .Name y py] kt pt] X.env).map (·.2) = [assign (.Tuple [.Name x px, .Name y py] kt pt) X.env] := by rfl) :
    PSs X (.Assign [.Tuple [.Name x px, .Name y py] kt pt] (.Tuple [e1, e2] kt2 pt2) pos :: rest) (tS X.K g bs n b c r (mE (on2 k1 k2 P))) :=
  cons_of (ps_asg (pe_tup ha) (pg_tup hc (pgs_cons g1 (pgs_cons g2 pgs_nil c2) c1) hn hst) hs hw hq) (fun a : A1 × A2 => hr a.1 a.2) fun E σ H ⟨p, ⟨F, sa⟩, q⟩ => ⟨F, _, sa, p, fun els ps vs F' H' kk st iv => by
    match els, kk with
    | [u, v], kk =>
      obtain ⟨a, rfl, kk1⟩ := k1.ok u (fun a => k2.on v fun b => P a b) kk
      obtain ⟨b, rfl, kk2⟩ := k2.ok v (fun b => P a b) kk1
      obtain ⟨v1, v2, rfl⟩ := len2 iv.len
      refine ⟨by show 2 ≤ sizeLine; decide, fun t np => ?_⟩
      have st2 := st.trans (Stp.ext st.fh (Ex.new np (o := .tup [v1, v2])))
      have sp := SatP.els (is := [i, j]) (iv.ext (Ex.new np (o := .tup [v1, v2]))) (SatP.of sa st2 iv.new) rfl
      exact ⟨t, [v1, v2], rfl, SqT.of upd_same, rfl, v1, [v2], rfl, v2, [], rfl, rfl, (a, b), kk2, F', by rw [← hbs a b]; exact sp⟩⟩
theorem s_parC3 {A1 A2 A3 : Type} {k1 : Kd A1} {k2 : Kd A2} {k3 : Kd A3} {P : A1 → A2 → A3 → Prop} {bs' : A1 → A2 → A3 → List B} {kt kt2 : Nat} (hc : X.calm = true) (g1 : PG X (.Name x px) (gName i)) (g2 : PG X (.Name y py) (gName j)) (g3 : PG X (.Name z pz) (gName l)) (ha : PA X [e1, e2, e3] (tE X.K g bs mE))
    (hr : ∀ (u : A1) (v : A2) (w : A3), PSs X rest (tS X.K g (bs' u v w) n b c r (P u v w))) (hbs : ∀ a b d, setEls [i, j, l] [k1.el a, k2.el b, k3.el d] bs = bs' a b d := by intro _ _ _; rfl)
    (c1 : (assignEach [.Name x px, .Name y py, .Name z pz] X.env).map (·.2) = assign (.Name x px) X.env :: (assignEach [.Name y py, .Name z pz] X.env).map (·.2) := by rfl)
    (c2 : (assignEach [.Name y py, .Name z pz] X.env).map (·.2) = assign (.Name y py) X.env :: (assignEach [.Name z pz] X.env).map (·.2) := by rfl)
    (c3 : (assignEach [.Name z pz] X.env).map (·.2) = assign (.Name z pz) X.env :: (assignEach [] X.env).map (·.2) := by rfl)
    (hn : (assignEach [.Name x px, .Name y py, .Name z pz] X.env).length = 3 := by rfl) (hst : (assignEach [.Name x px, .Name y py, .Name z pz] X.env).findIdx? (·.1) = none := by rfl)
    (hw : swappedStores [.Tuple [.Name x px, .Name y py, .Name z pz] kt pt] (.Tuple [e1, e2, e3] kt2 pt2) X.env = pure none := by rfl) (hs : swapsWithSole [.Tuple [.Name x px, .Name y py, .Name z pz] kt pt] (.Tuple [e1, e2, e3] kt2 pt2) pos.line X.env = pure false := by rfl)
    (hq : (assignEach [.Tuple [.Name x px, .Name y py, .Name z pz] kt pt] X.env).map (·.2) = [assign (.Tuple [.Name x px, .Name y py, .Name z pz] kt pt) X.env] := by rfl) :
    PSs X (.Assign [.Tuple [.Name x px, .Name y py, .Name z pz] kt pt] (.Tuple [e1, e2, e3] kt2 pt2) pos :: rest) (tS X.K g bs n b c r (mE (on3 k1 k2 k3 P))) :=
  cons_of (ps_asg (pe_tup ha) (pg_tup hc (pgs_cons g1 (pgs_cons g2 (pgs_cons g3 pgs_nil c3) c2) c1) hn hst) hs hw hq) (fun a : A1 × A2 × A3 => hr a.1 a.2.1 a.2.2) fun E σ H ⟨p, ⟨F, sa⟩, q⟩ => ⟨F, _, sa, p, fun els ps vs F' H' kk st iv => by
    match els, kk with
    | [u, v, w], kk =>
      obtain ⟨a, rfl, kk1⟩ := k1.ok u (fun a => k2.on v fun b => k3.on w fun d => P a b d) kk
      obtain ⟨b, rfl, kk2⟩ := k2.ok v (fun b => k3.on w fun d => P a b d) kk1
      obtain ⟨d, rfl, kk3⟩ := k3.ok w (fun d => P a b d) kk2
      obtain ⟨v1, v2, v3, rfl⟩ := len3 iv.len
      refine ⟨by show 3 ≤ sizeLine; decide, fun t np => ?_⟩
      have st2 := st.trans (Stp.ext st.fh (Ex.new np (o := .tup [v1, v2, v3])))
      have sp := SatP.els (is := [i, j, l]) (iv.ext (Ex.new np (o := .tup [v1, v2, v3]))) (SatP.of sa st2 iv.new) rfl
      exact ⟨t, [v1, v2, v3], rfl, SqT.of upd_same, rfl, v1, [v2, v3], rfl, v2, [v3], rfl, v3, [], rfl, rfl, (a, b, d), kk3, F', by rw [← hbs a b d]; exact sp⟩⟩
end
end FE
set_option Elab.async false
set_option linter.all false
set_option maxRecDepth 100000
set_option maxHeartbeats 4000000
/-! Comprehensions of two clauses; ranges from their end; bits. -/
namespace FE
open PySem L2 PySem.Spec
open Evl (Ex)
/-- targets, addresses that no slot owns being told with them -/
structure TgP (K : PySem.W.Frag) (g : Gv) (w : Bool) (t : TG) {A : Type} (enc : A → D) (js : List Nat) (ub : A → List B → List B) : Prop where
  run : ∀ (a : A) (v : V) (bs : List B) (σ : St) (F H : Hp) (ps : List Addr) (R : St → Hp → Prop), SatP K g bs σ F H ps → IsY K g.cm F w v (enc a) →
    (∀ σ' : St, SatP K g (ub a bs) σ' F H ps → σ'.length = σ.length → (∀ i, i ∉ js → σ'[i]? = σ[i]?) → R σ' H) → t v σ H R
section
variable {K : PySem.W.Frag} {g : Gv} {t1 t2 t3 : TG} {A1 A2 A3 : Type} {e1 : A1 → D} {e2 : A2 → D} {e3 : A3 → D} {j1 j2 j3 : List Nat} {u1 : A1 → List B → List B} {u2 : A2 → List B → List B} {u3 : A3 → List B → List B}
theorem tgp_n {i : Nat} : TgP K g false (gName i) (fun d : D => d) [i] (fun d bs => bs.set i (.dat d)) := ⟨fun a v bs σ F H ps R s h k =>
  k _ (s.setD h.is) (List.length_set ..) fun j hj => by rw [List.getElem?_set_ne (fun z => hj (by rw [z]; exact List.mem_singleton.mpr rfl))]⟩
theorem tgp_2 {ww : Bool} (h1 : TgP K g false t1 e1 j1 u1) (h2 : TgP K g false t2 e2 j2 u2) : TgP K g ww (gTup K 2 (gCons t1 (gCons t2 gNil))) (fun a : A1 × A2 => .tup [e1 a.1, e2 a.2]) (j1 ++ j2) (fun a bs => u2 a.2 (u1 a.1 bs)) := ⟨fun a v bs σ F H ps R s h k => by
  obtain ⟨p, vs, rfl, h, q⟩ := h.tup
  · skip
    cases q with
    | cons i1 q =>
      cases q with
      | cons i2 q =>
        cases q
        refine ⟨p, _, rfl, Evl.ex_t s.1.ex h, rfl, _, _, rfl, h1.run _ _ _ _ _ _ _ _ s (.inl i1) fun σ1 s1 l1 k1 => ⟨_, _, rfl, h2.run _ _ _ _ _ _ _ _ s1 (.inl i2) fun σ2 s2 l2 k2 => ⟨rfl, k σ2 s2 (l2.trans l1) fun i hi => ?_⟩⟩⟩
        rw [List.mem_append, not_or] at hi
        exact (k2 i hi.2).trans (k1 i hi.1)⟩
theorem tgp_3 {ww : Bool} (h1 : TgP K g false t1 e1 j1 u1) (h2 : TgP K g false t2 e2 j2 u2) (h3 : TgP K g false t3 e3 j3 u3) : TgP K g ww (gTup K 3 (gCons t1 (gCons t2 (gCons t3 gNil)))) (fun a : A1 × A2 × A3 => .tup [e1 a.1, e2 a.2.1, e3 a.2.2]) (j1 ++ (j2 ++ j3)) (fun a bs => u3 a.2.2 (u2 a.2.1 (u1 a.1 bs))) := ⟨fun a v bs σ F H ps R s h k => by
  obtain ⟨p, vs, rfl, h, q⟩ := h.tup
  · skip
    cases q with
    | cons i1 q =>
      cases q with
      | cons i2 q =>
        cases q with
        | cons i3 q =>
          cases q
          refine ⟨p, _, rfl, Evl.ex_t s.1.ex h, rfl, _, _, rfl, h1.run _ _ _ _ _ _ _ _ s (.inl i1) fun σ1 s1 l1 k1 => ⟨_, _, rfl, h2.run _ _ _ _ _ _ _ _ s1 (.inl i2) fun σ2 s2 l2 k2 => ⟨_, _, rfl, h3.run _ _ _ _ _ _ _ _ s2 (.inl i3) fun σ3 s3 l3 k3 => ⟨rfl, k σ3 s3 (l3.trans (l2.trans l1)) fun i hi => ?_⟩⟩⟩⟩
          rw [List.mem_append, List.mem_append, not_or, not_or] at hi
          exact (k3 i hi.2.2).trans ((k2 i hi.2.1).trans (k1 i hi.1))⟩
end
/-! ### one address left out -/
section
variable {K : PySem.W.Frag} {g : Gv} {F F' H H' F1 H1 : Hp} {σ : St} {bs : List B} {L : Addr} {vl : List V}
theorem hide_tabs {T : List (Addr × Str)} (hl : H L = some (.lst vl)) (t : LamX.Tabs T H) : LamX.Tabs T (hide H L) := tabs_at t fun b o hb no => by rw [hide_ne (fun z => by rw [z, hl] at hb; cases hb; exact no.elim)]; exact hb
theorem hide_ex (fl : F L = none) (e : Ex F H) : Ex F (hide H L) := fun b u hb => by rw [hide_ne (fun z => by rw [z, fl] at hb; cases hb)]; exact e b u hb
theorem hide_upd (hl : H L = some (.lst vl)) : upd (hide H L) L (.lst vl) = H := by
  funext b
  by_cases e : b = L
  · rw [e, upd_same, hl]
  · rw [upd_ne e, hide_ne e]
theorem Sl.hide : ∀ {os : List Addr} {σ : List (Option V)} {bs : List B}, L ∉ os → Sl K g F H os σ bs → Sl K g F (hide H L) os σ bs
  | _, _, _, _, .nil => .nil
  | _, _, _, n, .any q => .any (Sl.hide n q)
  | _, _, _, n, .dat h q => .dat h (Sl.hide n q)
  | _, _, _, n, .own h i f m nh q => .own (by rw [hide_ne (fun z => n (by rw [← z]; exact List.mem_cons_self))]; exact h) i f m nh (Sl.hide (fun z => n (List.mem_cons_of_mem _ z)) q)
  | _, _, _, n, .oo h i f m nh q => .oo (by rw [hide_ne (fun z => n (by rw [← z]; exact List.mem_cons_self))]; exact h) i f m nh (Sl.hide (fun z => n (List.mem_cons_of_mem _ z)) q)
  | _, _, _, n, .hand e q => .hand e (Sl.hide n q)
  | _, _, _, n, .raw q => .raw (Sl.hide n q)
  | _, _, _, n, .bth h q => .bth h (Sl.hide n q)
theorem Stp.hideR {hd : Option (Addr × Addr)} {T : List (Addr × Str)} (s : Stp hd T F1 H1 F H) (hl : H L = some (.lst vl)) (n1 : H1 L = none) (fl : F L = none) (nh : ∀ p, hd = some p → L ≠ p.1) : Stp hd T F1 H1 F (hide H L) := by
  refine ⟨s.ff, hide_ex fl s.fh, s.own, fun b hb => ?_, fun b o hb nt n => ?_, fun p e h => ?_, fun t => hide_tabs hl (s.tab t), s.nt⟩
  · rw [hide_ne (fun z => hb (by rw [z]; exact n1))]
    exact s.dom b hb
  · rw [hide_ne (fun z => by rw [z, n1] at hb; cases hb)]
    exact s.kp b o hb nt n
  · exact (s.hand p e h).to (Ex.refl F) fun o ho => by rw [hide_ne (nh p e).symm]; exact ho
theorem SatP.hide (sa : SatP K g bs σ F H [L]) (hl : H L = some (.lst vl)) (fl : F L = none) : Sat K g bs σ F (hide H L) := by
  obtain ⟨s, os, q, no, np⟩ := sa
  obtain ⟨n1, n2, n3⟩ := np L (List.mem_singleton.mpr rfl)
  have nh : ∀ p, g.hd = some p → L ≠ p.1 := fun p e => (n3 p e).1
  exact ⟨hide_ex fl s.ex, fun p e => ⟨(s.hd p e).1.to (Ex.refl F) fun o ho => by rw [hide_ne (nh p e).symm]; exact ho, (s.hd p e).2⟩, s.st.hideR hl n2 fl nh, ⟨os, q.hide n1, no⟩, s.an, hide_tabs hl s.tb, s.nt⟩
theorem SatP.step {ps : List Addr} (sa : SatP K g bs σ F H ps) (e : Stp g.hd g.cm.tb F H F' H') : SatP K g bs σ F' H' ps := by
  obtain ⟨s, os, q, no, np⟩ := sa
  exact ⟨s.step e, os, q.mono e, no, np⟩
/-- behind a step to a heap at which L is left out -/
theorem Stp.transHide {hd : Option (Addr × Addr)} {T : List (Addr × Str)} (s : Stp hd T F1 H1 F H) (hl : H L = some (.lst vl)) (n1 : H1 L = none) (fl : F L = none) (nh : ∀ p, hd = some p → L ≠ p.1) (t : Stp hd T F (hide H L) F' H') : Stp hd T F1 H1 F' H' := (s.hideR hl n1 fl nh).trans t
end
theorem SatP.wipe {K : PySem.W.Frag} {g : Gv} {bs : List B} {σ : St} {F H : Hp} {ps : List Addr} (s : SatP K g bs σ F H ps) : ∀ vs : List Nat, SatP K g (wipeB bs vs) (wipe σ vs) F H ps
  | [] => s
  | v :: vs => by
    obtain ⟨s', os, q, no, np⟩ := SatP.wipe s vs
    obtain ⟨os', q', m⟩ := q.setN (i := v) (v := none)
    exact ⟨s'.setN, os', q', fun a ha => no a (m a ha), fun p hp => ⟨fun z => (np p hp).1 (m p z), (np p hp).2⟩⟩
@[reducible] def wLc2 {A A2 : Type} (enc : A → D) (mi : (List D → Prop) → Prop) (mc : A → (Bool → Prop) → Prop) (enc2 : A2 → D) (mi2 : A → (List D → Prop) → Prop) (mc2 : A → A2 → (Bool → Prop) → Prop) (me : A → A2 → (D → Prop) → Prop) : (List D → Prop) → Prop := fun k => mi fun items => ∃ N : Nat, items.length * N ≤ 16000000 ∧
  forW (fun x acc ka => ∃ a, x = enc a ∧ mc a fun b => if b = true then mi2 a fun its => its.length ≤ N ∧ lcW (fun y ko => ∃ a2, y = enc2 a2 ∧ mc2 a a2 fun b2 => if b2 = true then me a a2 (fun d => ko (some d)) else ko none) its acc ka else ka acc) items [] k
section
variable {X : Cx} {g : Gv} {bs : List B}
theorem lc2_rd {ww ww2 : Bool} {K : PySem.W.Frag} {A A2 : Type} {enc : A → D} {enc2 : A2 → D} {js js2 : List Nat} {ub : A → List B → List B} {ub2 : A2 → List B → List B} {gt gt2 : TG} {vs vs2 : List Nat} {bw : List B} {bw2 : A → List B} {mi : (List D → Prop) → Prop} {mc : A → (Bool → Prop) → Prop} {mi2 : A → (List D → Prop) → Prop} {mc2 : A → A2 → (Bool → Prop) → Prop} {me : A → A2 → (D → Prop) → Prop}
    (hT : TgP K g ww gt enc js ub) (hj : ∀ j ∈ js, j ∈ vs) (hw : wipeB bs vs = bw) (hT2 : Tg K g ww2 gt2 enc2 js2 ub2) (hj2 : ∀ j ∈ js2, j ∈ vs2) (hw2 : ∀ a, wipeB (ub a bw) vs2 = bw2 a)
    (σ : St) (H : Hp) (Q : VK) (h : tL K g bs (wLc2 enc mi mc enc2 mi2 mc2 me) σ H Q) : tLc2 (tIs K g ww bs mi) gt (fun σ H Q => ∃ a, tT K g (ub a bw) (mc a) σ H Q) (fun σ H R => ∃ a, tI K g ww2 (ub a bw) (mi2 a) σ H R) gt2 (fun σ H Q => ∃ p : A × A2, tT K g (ub2 p.2 (bw2 p.1)) (mc2 p.1 p.2) σ H Q) (fun σ H Q => ∃ p : A × A2, tM K g (ub2 p.2 (bw2 p.1)) (me p.1 p.2) σ H Q) vs vs2 σ H Q := by
  obtain ⟨F, k, sa, hm, q⟩ := h
  refine ⟨F, _, sa, hm, fun items J F1 H1 ki st ⟨G, Y, w, gC, y⟩ L nD => ?_⟩
  obtain ⟨N, lz, ki⟩ := ki
  have sa1 := sa.step st
  have hh : ∀ p, g.hd = some p → HandAt F1 H1 p.1 p.2 := fun p e => (sa1.hd p e).1
  have fD1 := Evl.fresh_back st.fh nD
  have nDh : ∀ p, g.hd = some p → L ≠ p.1 := fun p e z => (hh p e).some (by rw [← z]; exact nD)
  have saP : SatP K g bs σ F1 (upd H1 L (.lst [])) [L] := by
    have s0 : Stp g.hd g.cm.tb F1 H1 F1 (upd H1 L (.lst [])) := Stp.newOwn st.fh nD
    exact SatP.of sa1 s0 fun p hp => by rw [List.mem_singleton.mp hp]; exact nD
  obtain ⟨f, hf⟩ : ∃ f : D → List D → (List D → Prop) → Prop, f = fun x acc ka => ∃ a, x = enc a ∧ mc a fun b => if b = true then mi2 a fun its => its.length ≤ N ∧ lcW (fun y ko => ∃ a2, y = enc2 a2 ∧ mc2 a a2 fun b2 => if b2 = true then me a a2 (fun d => ko (some d)) else ko none) its acc ka else ka acc := ⟨_, rfl⟩
  rw [← hf] at ki
  obtain ⟨IV, hIV⟩ : ∃ IV : Hp → Nat → (List D → Prop) → Prop, IV = fun H' n kk => ∃ F' us acc, Stp g.hd g.cm.tb F1 H1 F' H' ∧ SatP K g bs σ F' H' [L] ∧ F' L = none ∧ H' L = some (.lst us) ∧ IsAll K g.cm F' us acc ∧ acc.length ≤ n ∧ kk acc := ⟨_, rfl⟩
  refine ⟨fun i m H => m = items.length - i ∧ i ≤ items.length ∧ IV H (i * N) fun acc => forW f (items.drop i) acc k, ⟨_, rfl, Nat.zero_le _, ?_⟩, ?_⟩
  · rw [hIV]
    exact ⟨F1, [], [], Stp.newOwn st.fh nD, saP, fD1, upd_same, .nil, by simp, ki⟩
  rintro i m H2 ⟨rfl, le, iv⟩
  rw [hIV] at iv
  obtain ⟨F2, us, acc, s2, sp2, fD, hD, ia, la, kk⟩ := iv
  have gH := gC F2 H2 s2 s2.fh
  by_cases hi : i < items.length
  · refine .inr ⟨w.goes i H2 hi gH, fun H' => IV H' ((i + 1) * N) fun acc => forW f (items.drop (i + 1)) acc k, fun H' p => ⟨_, by omega, rfl, hi, p⟩, fun x H3 yy => ?_⟩
    obtain ⟨F3, d, hd, s3, id⟩ := y i H2 x H3 F2 s2 s2.fh hi (w.yields i H2 x H3 hi gH yy)
    rw [List.drop_eq_getElem_cons hi, (List.getElem?_eq_some_iff.mp hd).2] at kk
    have k1 : f d acc _ := kk
    obtain ⟨a, rfl, k3⟩ := (congrFun (congrFun (congrFun hf d) acc) _).mp k1
    have s13 := s2.trans s3
    have sp3 := sp2.step s3
    have saw : SatP K g bw (L2.wipe σ vs) F3 H3 [L] := by
      have := sp3.wipe vs
      rw [hw] at this
      exact this
    have hD3 := s3.kpL hD nDh
    have fD3 := s3.own L (by rw [hD]; exact fun z => by cases z) fD
    have iN : (i + 1) * N = i * N + N := Nat.succ_mul i N
    refine hT.run a x bw _ F3 H3 [L] _ saw id fun σ2 sa2 l2 k2 => ⟨wipe_back l2 k2 hj, a, F3, _, sa2.1, k3, fun b F4 H4 kb s4 => ?_⟩
    have hD4 := s4.kpL hD3 nDh
    have fD4 := s4.own L (by rw [hD3]; exact fun z => by cases z) fD3
    cases b with
    | false =>
      show IV H4 _ _
      rw [hIV]
      exact ⟨F4, us, acc, s13.trans s4, sp3.step s4, fD4, hD4, ia.mono (s3.ff.trans s4.ff), by omega, kb⟩
    | true =>
      refine ⟨a, F4, _, sa2.1.step s4, kb, fun its J1 F5 H5 kz s5 ⟨G1, Y1, w1, gC1, y1⟩ => ?_⟩
      obtain ⟨lN, kz⟩ := kz
      have hD5 := s5.kpL hD4 nDh
      have fD5 := s5.own L (by rw [hD4]; exact fun z => by cases z) fD4
      have s15 := s13.trans (s4.trans s5)
      have sp5 := sp3.step (s4.trans s5)
      have sx : Sat K g (ub a bw) σ2 F5 (hide H5 L) := (sa2.step (s4.trans s5)).hide hD5 fD5
      have sb : Sat K g bs σ F5 (hide H5 L) := sp5.hide hD5 fD5
      obtain ⟨f2, hf2⟩ : ∃ f2 : D → (Option D → Prop) → Prop, f2 = fun y ko => ∃ a2, y = enc2 a2 ∧ mc2 a a2 fun b2 => if b2 = true then me a a2 (fun d => ko (some d)) else ko none := ⟨_, rfl⟩
      rw [← hf2] at kz
      have iN2 : i * N + N ≤ items.length * N := by rw [← iN]; exact Nat.mul_le_mul_right N hi
      have nL : hide H5 L L = none := hide_same
      have ia5 := ia.mono (s3.ff.trans (s4.ff.trans s5.ff))
      have hh5 : ∀ p, g.hd = some p → HandAt F5 (hide H5 L) p.1 p.2 := fun p e => (sb.hd p e).1
      obtain ⟨JV, hJV⟩ : ∃ JV : Hp → Nat → (List D → Prop) → Prop, JV = fun H' n kk => ∃ F' us acc, Stp g.hd g.cm.tb F5 (hide H5 L) F' H' ∧ F' L = none ∧ H' L = some (.lst us) ∧ IsAll K g.cm F' us acc ∧ acc.length ≤ i * N + n ∧ kk acc := ⟨_, rfl⟩
      refine ⟨fun j m H => m = its.length - j ∧ j ≤ its.length ∧ JV H j fun acc => lcW f2 (its.drop j) acc fun acc' => forW f (items.drop (i + 1)) acc' k, ⟨_, rfl, Nat.zero_le _, ?_⟩, ?_⟩
      · rw [hJV]
        refine ⟨F5, us, acc, ?_, fD5, hD5, ia5, la, kz⟩
        have := Stp.newOwn (hd := g.hd) (T := g.cm.tb) (o := .lst us) sb.ex nL
        rw [hide_upd hD5] at this
        exact this
      rintro j m H6 ⟨rfl, le2, jv⟩
      rw [hJV] at jv
      obtain ⟨F6, us6, acc6, t6, fD6, hD6, ia6, la6, kk6⟩ := jv
      have gH6 := gC1 F6 H6 t6.ff t6.fh
      by_cases hj1 : j < its.length
      · refine .inr ⟨w1.goes j H6 hj1 gH6, fun H' => JV H' (j + 1) fun acc => lcW f2 (its.drop (j + 1)) acc fun acc' => forW f (items.drop (i + 1)) acc' k, fun H' p => ⟨_, by omega, rfl, hj1, p⟩, fun x H7 yy => ?_⟩
        obtain ⟨F7, d7, hd7, s7, id7⟩ := y1 j H6 x H7 F6 t6.ff t6.fh hj1 (w1.yields j H6 x H7 hj1 gH6 yy)
        rw [List.drop_eq_getElem_cons hj1, (List.getElem?_eq_some_iff.mp hd7).2] at kk6
        have k7 : f2 d7 _ := kk6
        obtain ⟨a2, rfl, k8⟩ := (congrFun (congrFun hf2 _) _).mp k7
        have t7 := t6.trans s7
        have hD7 := s7.kpL hD6 nDh
        have fD7 := s7.own L (by rw [hD6]; exact fun z => by cases z) fD6
        have saw2 : Sat K g (bw2 a) (L2.wipe σ2 vs2) F7 H7 := by
          have := (sx.step t7).wipe vs2
          rw [hw2] at this
          exact this
        refine hT2.run a2 x (bw2 a) _ F7 H7 _ saw2 id7 fun σ3 sa3 l3 k3' => ⟨wipe_back l3 k3' hj2, (a, a2), F7, _, sa3, k8, fun b F8 H8 kb s8 => ?_⟩
        have hD8 := s8.kpL hD7 nDh
        have fD8 := s8.own L (by rw [hD7]; exact fun z => by cases z) fD7
        cases b with
        | false =>
          show JV H8 _ _
          rw [hJV]
          exact ⟨F8, us6, acc6, t7.trans s8, fD8, hD8, ia6.mono (s7.ff.trans s8.ff), by omega, kb⟩
        | true =>
          refine ⟨(a, a2), F8, _, sa3.step s8, kb, fun z v F9 H9 kz9 s9 iz => ?_⟩
          have hD9 := s9.kpL hD8 nDh
          have fD9 := s9.own L (by rw [hD8]; exact fun z => by cases z) fD8
          have lv := ia6.len
          refine ⟨us6, hD9, Nat.lt_of_le_of_lt (show us6.length ≤ 16000000 by omega) (by decide), ?_⟩
          rw [hJV]
          refine ⟨F9, us6 ++ [v], acc6 ++ [z], Stp.app hD9 (t7.trans (s8.trans s9)) nL fD9 hh5, fD9, upd_same, (ia6.mono (s7.ff.trans (s8.ff.trans s9.ff))).app (.one iz), ?_, kz9⟩
          rw [List.length_append]
          simp only [List.length_cons, List.length_nil]
          omega
      · have e : j = its.length := by omega
        subst e
        rw [List.drop_of_length_le (Nat.le_refl _)] at kk6
        refine .inl ⟨w1.stops H6 gH6, ?_⟩
        rw [hIV]
        have sF := s15.transHide hD5 nD fD5 nDh t6
        exact ⟨F6, us6, acc6, sF, ⟨sb.step t6, by
          obtain ⟨os, q5, no5⟩ := sb.sl
          exact ⟨os, q5.mono t6, no5, fun p hp => by
            have ep := List.mem_singleton.mp hp
            subst ep
            obtain ⟨_, _, _, _, np⟩ := sp5
            obtain ⟨_, n2, n3⟩ := np p (List.mem_singleton.mpr rfl)
            exact ⟨fun z => q5.owned z nL, n2, n3⟩⟩⟩, fD6, hD6, ia6, by omega, kk6⟩
  · have e : i = items.length := by omega
    subst e
    rw [List.drop_of_length_le (Nat.le_refl _)] at kk
    exact .inl ⟨w.stops H2 gH, q acc L us F2 H2 kk (st.trans s2) (back st nD) fD hD ia⟩
end
section
variable {X : Cx} {g : Gv} {bs : List B} {n b c : Jn} {r : Rt} {rest : List Stmt} {A A2 : Type} {enc : A → D} {enc2 : A2 → D} {js js2 : List Nat} {ub : A → List B → List B} {ub2 : A2 → List B → List B} {elt tg iter tg2 iter2 : Expr} {ifs ifs2 : List Expr} {scope : Scope} {own : List (Str × Nat)} {vs2 : List Nat} {pos spos py : Pos} {gt gt2 : TG} {bw : List B} {bw2 : A → List B} {mi : (List D → Prop) → Prop} {mc : A → (Bool → Prop) → Prop} {mi2 : A → (List D → Prop) → Prop} {mc2 : A → A2 → (Bool → Prop) → Prop} {me : A → A2 → (D → Prop) → Prop} {i : Nat} {y : Str}
theorem l_lc2 {ww ww2 : Bool} (hc : X.calm = true) (hN : X.N.Nodup) (hi : PI X tg iter (tIs X.K g ww bs mi)) (ok : BlkOk X.N X.env.scope scope own) (hT : TgP X.K g ww gt enc js ub) (hj : ∀ j ∈ js, j ∈ own.map (·.2)) (hw : wipeB bs (own.map (·.2)) = bw)
    (hT2 : Tg X.K g ww2 gt2 enc2 js2 ub2) (hj2 : ∀ j ∈ js2, j ∈ vs2) (hw2 : ∀ a, wipeB (ub a bw) vs2 = bw2 a) (hv : ∀ i ∈ vs2, i ∈ own.map (·.2))
    (hg : ∀ (s : Shared) (H : Hp) (C : Addr) (cl : List (Str × Addr)) (fp : List Addr), PG (X.blk s H scope (compEnvC scope cl C X.env) fp) tg gt)
    (ht : ∀ (a : A) (s : Shared) (H : Hp) (C : Addr) (cl : List (Str × Addr)) (fp : List Addr), PTs (X.blk s H scope (compEnvC scope cl C X.env) fp) ifs (tT X.K g (ub a bw) (mc a)))
    (hi2 : ∀ (a : A) (s : Shared) (H : Hp) (C : Addr) (cl : List (Str × Addr)) (fp : List Addr), PI (X.blk s H scope (compEnvC scope cl C X.env) fp) tg2 iter2 (tI X.K g ww2 (ub a bw) (mi2 a)))
    (hg2 : ∀ (s : Shared) (H : Hp) (C : Addr) (cl : List (Str × Addr)) (fp : List Addr), PG (X.blk s H scope (compEnvC scope cl C X.env) fp) tg2 gt2)
    (ht2 : ∀ (a : A) (a2 : A2) (s : Shared) (H : Hp) (C : Addr) (cl : List (Str × Addr)) (fp : List Addr), PTs (X.blk s H scope (compEnvC scope cl C X.env) fp) ifs2 (tT X.K g (ub2 a2 (bw2 a)) (mc2 a a2)))
    (he : ∀ (a : A) (a2 : A2) (s : Shared) (H : Hp) (C : Addr) (cl : List (Str × Addr)) (fp : List Addr), PE (X.blk s H scope (compEnvC scope cl C X.env) fp) elt (tM X.K g (ub2 a2 (bw2 a)) (me a a2))) (hs : ∀ x, foldedSetIterable iter X.env x = pure x := by intro _; rfl) (hs1 : ∀ env x, foldedSetIterable iter2 env x = pure x := by intro _ _; rfl) : PE X (.ListComp elt [⟨tg, iter, ifs, 0⟩, ⟨tg2, iter2, ifs2, 0⟩] scope pos) (tL X.K g bs (wLc2 enc mi mc enc2 mi2 mc2 me)) :=
  PE.imp (pe_lc2 (vs1 := vs2) (g := gt) (tt := fun σ H Q => ∃ a, tT X.K g (ub a bw) (mc a) σ H Q) (wi1 := fun σ H R => ∃ a, tI X.K g ww2 (ub a bw) (mi2 a) σ H R) (g1 := gt2) (tt1 := fun σ H Q => ∃ p : A × A2, tT X.K g (ub2 p.2 (bw2 p.1)) (mc2 p.1 p.2) σ H Q) (te := fun σ H Q => ∃ p : A × A2, tM X.K g (ub2 p.2 (bw2 p.1)) (me p.1 p.2) σ H Q) hc hN hi ok hv hg (fun s H C cl fp => ⟨fun pins s' σ H' Q I ⟨a, q⟩ => (ht a s H C cl fp).run pins s' σ H' Q I q⟩)
    (fun s H C cl fp => ⟨fun pins s' σ H' Q I ⟨a, q⟩ => (hi2 a s H C cl fp).run pins s' σ H' Q I q⟩) hg2 (fun s H C cl fp => ⟨fun pins s' σ H' Q I ⟨a, q⟩ => (ht2 a.1 a.2 s H C cl fp).run pins s' σ H' Q I q⟩)
    (fun s H C cl fp => ⟨fun pins s' σ H' Q I ⟨a, q⟩ => (he a.1 a.2 s H C cl fp).run pins s' σ H' Q I q⟩) hs hs1) (lc2_rd hT hj hw hT2 hj2 hw2)
theorem s_lc2D {ww ww2 : Bool} {P : D → Prop} {bs' : D → List B} (hy : X.N[i]? = some y) (hyl : X.env.scope.names.lookup y = some .local) (hsw : swapsWith (.ListComp elt [⟨tg, iter, ifs, 0⟩, ⟨tg2, iter2, ifs2, 0⟩] scope pos) (some (.Name y py)) spos.line X.env = pure true) (hc : X.calm = true) (hN : X.N.Nodup) (hi : PI X tg iter (tIs X.K g ww bs mi)) (ok : BlkOk X.N X.env.scope scope own) (hT : TgP X.K g ww gt enc js ub) (hj : ∀ j ∈ js, j ∈ own.map (·.2)) (hw : wipeB bs (own.map (·.2)) = bw)
    (hT2 : Tg X.K g ww2 gt2 enc2 js2 ub2) (hj2 : ∀ j ∈ js2, j ∈ vs2) (hw2 : ∀ a, wipeB (ub a bw) vs2 = bw2 a) (hv : ∀ i ∈ vs2, i ∈ own.map (·.2))
    (hg : ∀ (s : Shared) (H : Hp) (C : Addr) (cl : List (Str × Addr)) (fp : List Addr), PG (X.blk s H scope (compEnvC scope cl C X.env) fp) tg gt)
    (ht : ∀ (a : A) (s : Shared) (H : Hp) (C : Addr) (cl : List (Str × Addr)) (fp : List Addr), PTs (X.blk s H scope (compEnvC scope cl C X.env) fp) ifs (tT X.K g (ub a bw) (mc a)))
    (hi2 : ∀ (a : A) (s : Shared) (H : Hp) (C : Addr) (cl : List (Str × Addr)) (fp : List Addr), PI (X.blk s H scope (compEnvC scope cl C X.env) fp) tg2 iter2 (tI X.K g ww2 (ub a bw) (mi2 a)))
    (hg2 : ∀ (s : Shared) (H : Hp) (C : Addr) (cl : List (Str × Addr)) (fp : List Addr), PG (X.blk s H scope (compEnvC scope cl C X.env) fp) tg2 gt2)
    (ht2 : ∀ (a : A) (a2 : A2) (s : Shared) (H : Hp) (C : Addr) (cl : List (Str × Addr)) (fp : List Addr), PTs (X.blk s H scope (compEnvC scope cl C X.env) fp) ifs2 (tT X.K g (ub2 a2 (bw2 a)) (mc2 a a2)))
    (he : ∀ (a : A) (a2 : A2) (s : Shared) (H : Hp) (C : Addr) (cl : List (Str × Addr)) (fp : List Addr), PE (X.blk s H scope (compEnvC scope cl C X.env) fp) elt (tM X.K g (ub2 a2 (bw2 a)) (me a a2))) (hr : ∀ d, PSs X rest (tS X.K g (bs' d) n b c r (P d))) (hb : ∀ d, bs.set i (.dat d) = bs' d := by intro _; rfl) (hs : ∀ x, foldedSetIterable iter X.env x = pure x := by intro _; rfl) (hs1 : ∀ env x, foldedSetIterable iter2 env x = pure x := by intro _ _; rfl) :
    PSs X (.Assign [.Name y py] (.ListComp elt [⟨tg, iter, ifs, 0⟩, ⟨tg2, iter2, ifs2, 0⟩] scope pos) spos :: rest) (tS X.K g bs n b c r (wl (wLc2 enc mi mc enc2 mi2 mc2 me) P)) :=
  cons_of (ps_setLc2 (vs1 := vs2) (g := gt) (tt := fun σ H Q => ∃ a, tT X.K g (ub a bw) (mc a) σ H Q) (wi1 := fun σ H R => ∃ a, tI X.K g ww2 (ub a bw) (mi2 a) σ H R) (g1 := gt2) (tt1 := fun σ H Q => ∃ p : A × A2, tT X.K g (ub2 p.2 (bw2 p.1)) (mc2 p.1 p.2) σ H Q) (te := fun σ H Q => ∃ p : A × A2, tM X.K g (ub2 p.2 (bw2 p.1)) (me p.1 p.2) σ H Q) hc hN hy hyl hsw hi ok hv hg (fun s H C cl fp => ⟨fun pins s' σ H' Q I ⟨a, q⟩ => (ht a s H C cl fp).run pins s' σ H' Q I q⟩)
    (fun s H C cl fp => ⟨fun pins s' σ H' Q I ⟨a, q⟩ => (hi2 a s H C cl fp).run pins s' σ H' Q I q⟩) hg2 (fun s H C cl fp => ⟨fun pins s' σ H' Q I ⟨a, q⟩ => (ht2 a.1 a.2 s H C cl fp).run pins s' σ H' Q I q⟩)
    (fun s H C cl fp => ⟨fun pins s' σ H' Q I ⟨a, q⟩ => (he a.1 a.2 s H C cl fp).run pins s' σ H' Q I q⟩) hs hs1) hr fun E σ H ⟨p, ⟨F, sa⟩, q⟩ =>
    lc2_rd hT hj hw hT2 hj2 hw2 σ H _ (tl_tm ⟨F, P, sa, p, fun d v F' H' pd s iv => ⟨d, pd, F', by rw [← hb d]; exact (sa.step s).setD iv⟩⟩)
theorem s_lc2O {ww ww2 : Bool} {P : List D → Prop} {bs' : List D → List B} (hy : X.N[i]? = some y) (hyl : X.env.scope.names.lookup y = some .local) (hsw : swapsWith (.ListComp elt [⟨tg, iter, ifs, 0⟩, ⟨tg2, iter2, ifs2, 0⟩] scope pos) (some (.Name y py)) spos.line X.env = pure true) (hc : X.calm = true) (hN : X.N.Nodup) (hi : PI X tg iter (tIs X.K g ww bs mi)) (ok : BlkOk X.N X.env.scope scope own) (hT : TgP X.K g ww gt enc js ub) (hj : ∀ j ∈ js, j ∈ own.map (·.2)) (hw : wipeB bs (own.map (·.2)) = bw)
    (hT2 : Tg X.K g ww2 gt2 enc2 js2 ub2) (hj2 : ∀ j ∈ js2, j ∈ vs2) (hw2 : ∀ a, wipeB (ub a bw) vs2 = bw2 a) (hv : ∀ i ∈ vs2, i ∈ own.map (·.2))
    (hg : ∀ (s : Shared) (H : Hp) (C : Addr) (cl : List (Str × Addr)) (fp : List Addr), PG (X.blk s H scope (compEnvC scope cl C X.env) fp) tg gt)
    (ht : ∀ (a : A) (s : Shared) (H : Hp) (C : Addr) (cl : List (Str × Addr)) (fp : List Addr), PTs (X.blk s H scope (compEnvC scope cl C X.env) fp) ifs (tT X.K g (ub a bw) (mc a)))
    (hi2 : ∀ (a : A) (s : Shared) (H : Hp) (C : Addr) (cl : List (Str × Addr)) (fp : List Addr), PI (X.blk s H scope (compEnvC scope cl C X.env) fp) tg2 iter2 (tI X.K g ww2 (ub a bw) (mi2 a)))
    (hg2 : ∀ (s : Shared) (H : Hp) (C : Addr) (cl : List (Str × Addr)) (fp : List Addr), PG (X.blk s H scope (compEnvC scope cl C X.env) fp) tg2 gt2)
    (ht2 : ∀ (a : A) (a2 : A2) (s : Shared) (H : Hp) (C : Addr) (cl : List (Str × Addr)) (fp : List Addr), PTs (X.blk s H scope (compEnvC scope cl C X.env) fp) ifs2 (tT X.K g (ub2 a2 (bw2 a)) (mc2 a a2)))
    (he : ∀ (a : A) (a2 : A2) (s : Shared) (H : Hp) (C : Addr) (cl : List (Str × Addr)) (fp : List Addr), PE (X.blk s H scope (compEnvC scope cl C X.env) fp) elt (tM X.K g (ub2 a2 (bw2 a)) (me a a2))) (hr : ∀ d, PSs X rest (tS X.K g (bs' d) n b c r (P d))) (hb : ∀ d, bs.set i (.own d) = bs' d := by intro _; rfl) (hs : ∀ x, foldedSetIterable iter X.env x = pure x := by intro _; rfl) (hs1 : ∀ env x, foldedSetIterable iter2 env x = pure x := by intro _ _; rfl) :
    PSs X (.Assign [.Name y py] (.ListComp elt [⟨tg, iter, ifs, 0⟩, ⟨tg2, iter2, ifs2, 0⟩] scope pos) spos :: rest) (tS X.K g bs n b c r (wLc2 enc mi mc enc2 mi2 mc2 me P)) :=
  cons_of (ps_setLc2 (vs1 := vs2) (g := gt) (tt := fun σ H Q => ∃ a, tT X.K g (ub a bw) (mc a) σ H Q) (wi1 := fun σ H R => ∃ a, tI X.K g ww2 (ub a bw) (mi2 a) σ H R) (g1 := gt2) (tt1 := fun σ H Q => ∃ p : A × A2, tT X.K g (ub2 p.2 (bw2 p.1)) (mc2 p.1 p.2) σ H Q) (te := fun σ H Q => ∃ p : A × A2, tM X.K g (ub2 p.2 (bw2 p.1)) (me p.1 p.2) σ H Q) hc hN hy hyl hsw hi ok hv hg (fun s H C cl fp => ⟨fun pins s' σ H' Q I ⟨a, q⟩ => (ht a s H C cl fp).run pins s' σ H' Q I q⟩)
    (fun s H C cl fp => ⟨fun pins s' σ H' Q I ⟨a, q⟩ => (hi2 a s H C cl fp).run pins s' σ H' Q I q⟩) hg2 (fun s H C cl fp => ⟨fun pins s' σ H' Q I ⟨a, q⟩ => (ht2 a.1 a.2 s H C cl fp).run pins s' σ H' Q I q⟩)
    (fun s H C cl fp => ⟨fun pins s' σ H' Q I ⟨a, q⟩ => (he a.1 a.2 s H C cl fp).run pins s' σ H' Q I q⟩) hs hs1) hr fun E σ H ⟨p, ⟨F, sa⟩, q⟩ =>
    lc2_rd hT hj hw hT2 hj2 hw2 σ H _ ⟨F, P, sa, p, fun ds a vs F' H' pd s na fa ha ia => ⟨ds, pd, F', by rw [← hb ds]; exact sa.setO s na fa ha ia⟩⟩
end
/-! ### reversed(range(..)) -/
@[reducible] def wRgV (mr : (Int → Int → Prop) → Prop) : (List D → Prop) → Prop := fun k => mr fun a b => k (rgD a b).reverse
theorem rgV_get {a b : Int} {i : Nat} (h : i < (b - a).toNat) : (rgD a b).reverse[i]? = some (.int (a + (((b - a).toNat : Nat) : Int) - 1 + (i : Nat) * (-1))) := by
  rw [List.getElem?_reverse (by rw [rgD_len]; exact h), rgD_len, rgD_get (by omega)]
  congr 2
  omega
theorem i_revR {X : Cx} {g : Gv} {bs : List B} {tg e : Expr} {p pos : Pos} {mr : (Int → Int → Prop) → Prop} (hg : Gl X "reversed") (hm : X.mg "reversed" = none) (he : PRg X e (tRg X.K g bs mr)) (hs : starEach [e] X.env = (false, eval e X.env) :: starEach [] X.env := by rfl) :
    PI X tg (.Call (.Name "reversed" p) [e] [] pos) (tI X.K g false bs (wRgV mr)) :=
  PI.imp (pi_revR hg hm he hs) fun σ H R ⟨F, k, s, hm, q⟩ => ⟨F, _, s, hm, fun a b F1 H1 kab rok st => by
    obtain ⟨b1, b2, b3, b4, _⟩ := rok
    refine ⟨b1, b2, b3, b4, q _ _ F1 H1 kab st ⟨fun _ => True, YFn fun i => .int (a + (((b - a).toNat : Nat) : Int) - 1 + (i : Nat) * (-1)), ?_, fun _ _ _ _ => True.intro, fun i H2 x H' F2 c ex hi y => ?_⟩⟩
    · rw [List.length_reverse, rgD_len]
      exact walk_rangeC
    · obtain ⟨rfl, rfl⟩ := y
      rw [List.length_reverse, rgD_len] at hi
      exact ⟨F2, _, rgV_get hi, Stp.refl ex, .inl (.int _)⟩⟩
/-! ### bits -/
def oAnd : D → D → (D → Prop) → Prop
  | .int a, .int b, k => k (.int (Builtin.bitAnd a b))
  | _, _, _ => False
def oOr : D → D → (D → Prop) → Prop
  | .int a, .int b, k => k (.int (Builtin.bitOr a b))
  | _, _, _ => False
def oXor : D → D → (D → Prop) → Prop
  | .int a, .int b, k => k (.int (Builtin.bitXor a b))
  | _, _, _ => False
def oShl : D → D → (D → Prop) → Prop
  | .int a, .int b, k => CPow a b ∧ k (.int (a * 2 ^ b.toNat))
  | _, _, _ => False
section
variable {K : PySem.W.Frag} {g : Gv}
theorem d_int0 {h : Int → Int → Int} {o : D → D → (D → Prop) → Prop} (ho : ∀ d e k, o d e k → ∃ a b, d = .int a ∧ e = .int b ∧ k (.int (h a b))) : R2D K g (rI0 fun i j => .int (h i j)) o := by
  intro x y d e F H k Q ex r1 r2 f q
  obtain ⟨a, b, rfl, rfl, kk⟩ := ho d e k f
  exact ⟨a, b, r1.int, r2.int, q _ _ F H kk (Stp.refl ex) (.int _)⟩
theorem d_and : R2D K g (rI0 fun i j => .int (Builtin.bitAnd i j)) oAnd := d_int0 fun d e k f => by
  unfold oAnd at f; split at f
  · exact ⟨_, _, rfl, rfl, f⟩
  · exact f.elim
theorem d_or : R2D K g (rI0 fun i j => .int (Builtin.bitOr i j)) oOr := d_int0 fun d e k f => by
  unfold oOr at f; split at f
  · exact ⟨_, _, rfl, rfl, f⟩
  · exact f.elim
theorem d_xor : R2D K g (rI0 fun i j => .int (Builtin.bitXor i j)) oXor := d_int0 fun d e k f => by
  unfold oXor at f; split at f
  · exact ⟨_, _, rfl, rfl, f⟩
  · exact f.elim
theorem d_shl : R2D K g (rI CPow fun i j => .int (i * 2 ^ j.toNat)) oShl := d_int fun d e k f => by
  unfold oShl at f; split at f
  · exact ⟨_, _, rfl, rfl, f.1, f.2⟩
  · exact f.elim
end
end FE
set_option Elab.async false
set_option linter.all false
set_option maxRecDepth 100000
set_option maxHeartbeats 4000000
/-! Defs that call themselves; dict(pairs); x.remove(z); for .. in e[x.pop()]. -/
namespace FE
open PySem L2 PySem.Spec PyProof.Rows
open Evl (Ex)
/-! ### a def that calls itself: nothing is promised at depth 0 -/
theorem rec0 {P : Program} {w : World} {K : PySem.W.Frag} {mg : Str → Option Value} {base : Heap} {lv : Nat} {f : Addr} {fd : FuncData} {ps : List Str} {cm : Cm} {hnd : Bool} {m : List D → (D → Prop) → Prop} (h : ∀ ds k, ¬ m ds k) : KG.FnG P w K mg base lv f fd ps (spM K cm hnd m) :=
  ⟨fun vs H Q E ⟨_, _, _, _, _, _, _, _, _, _, _, hm, _⟩ => (h _ _ hm).elim, fun A out s H args us vs Q E _ _ _ _ _ ⟨_, _, _, _, _, _, _, _, _, _, _, hm, _⟩ => (h _ _ hm).elim⟩
theorem rec0L {P : Program} {w : World} {K : PySem.W.Frag} {mg : Str → Option Value} {base : Heap} {lv : Nat} {f : Addr} {fd : FuncData} {ps : List Str} {cm : Cm} {hnd : Bool} {m : List D → (List D → Prop) → Prop} (h : ∀ ds k, ¬ m ds k) : KG.FnG P w K mg base lv f fd ps (spL K cm hnd m) :=
  ⟨fun vs H Q E ⟨_, _, _, _, _, _, _, _, _, _, _, hm, _⟩ => (h _ _ hm).elim, fun A out s H args us vs Q E _ _ _ _ _ ⟨_, _, _, _, _, _, _, _, _, _, _, hm, _⟩ => (h _ _ hm).elim⟩
/-! ### dicts, by their entries -/
def putD (es : List (Key × D)) (k : Key) (d : D) : List (Key × D) := if (es.any fun e => decide (e.1 = k)) = true then es.map (fun e => if e.1 = k then (e.1, d) else e) else es ++ [(k, d)]
def mergeD (es more : List (Key × D)) : List (Key × D) := more.foldl (fun acc e => putD acc e.1 e.2) es
def getD (es : List (Key × D)) (k : Key) : Option D := (es.find? fun e => decide (e.1 = k)).map (·.2)
inductive IsEs (K : PySem.W.Frag) (cm : Cm) (F : Hp) : List (Key × V) → List (Key × D) → Prop
  | nil : IsEs K cm F [] []
  | cons {k : Key} {v : V} {d : D} {kvs : List (Key × V)} {es : List (Key × D)} (h : Is K cm F v d) (q : IsEs K cm F kvs es) : IsEs K cm F ((k, v) :: kvs) ((k, d) :: es)
section
variable {K : PySem.W.Frag} {cm : Cm} {F F' : Hp} {v : V} {d : D}
theorem IsEs.mono (e : Ex F F') : ∀ {kvs : List (Key × V)} {es : List (Key × D)}, IsEs K cm F kvs es → IsEs K cm F' kvs es
  | _, _, .nil => .nil
  | _, _, .cons h q => .cons (h.mono e) (IsEs.mono e q)
theorem IsEs.len : ∀ {kvs : List (Key × V)} {es : List (Key × D)}, IsEs K cm F kvs es → kvs.length = es.length
  | _, _, .nil => rfl
  | _, _, .cons _ q => congrArg (· + 1) (IsEs.len q)
theorem IsEs.any (k : Key) : ∀ {kvs : List (Key × V)} {es : List (Key × D)}, IsEs K cm F kvs es → (kvs.any fun e => decide (e.1 = k)) = (es.any fun e => decide (e.1 = k))
  | _, _, .nil => rfl
  | _, _, .cons _ q => by rw [List.any_cons, List.any_cons, IsEs.any k q]
theorem IsEs.app {kv2 : List (Key × V)} {es2 : List (Key × D)} (r : IsEs K cm F kv2 es2) : ∀ {kvs : List (Key × V)} {es : List (Key × D)}, IsEs K cm F kvs es → IsEs K cm F (kvs ++ kv2) (es ++ es2)
  | _, _, .nil => r
  | _, _, .cons h q => .cons h (IsEs.app r q)
theorem IsEs.repl (k : Key) (i : Is K cm F v d) : ∀ {kvs : List (Key × V)} {es : List (Key × D)}, IsEs K cm F kvs es → IsEs K cm F (kvs.map fun e => if e.1 = k then (e.1, v) else e) (es.map fun e => if e.1 = k then (e.1, d) else e)
  | _, _, .nil => .nil
  | _, _, .cons (k := k2) h q => by
    rw [List.map_cons, List.map_cons]
    by_cases e : k2 = k
    · rw [if_pos e, if_pos e]
      exact .cons i (IsEs.repl k i q)
    · rw [if_neg e, if_neg e]
      exact .cons h (IsEs.repl k i q)
theorem IsEs.put {kvs : List (Key × V)} {es : List (Key × D)} (k : Key) (q : IsEs K cm F kvs es) (i : Is K cm F v d) : IsEs K cm F (putK kvs k v) (putD es k d) := by
  unfold putK putD
  rw [q.any k]
  split
  · exact q.repl k i
  · exact IsEs.app (.cons i .nil) q
theorem IsEs.merge : ∀ {kv2 : List (Key × V)} {es2 : List (Key × D)}, IsEs K cm F kv2 es2 → ∀ {kvs : List (Key × V)} {es : List (Key × D)}, IsEs K cm F kvs es → IsEs K cm F (mergeK kvs kv2) (mergeD es es2)
  | _, _, .nil, _, _, q => q
  | _, _, .cons h r, _, _, q => IsEs.merge r (q.put _ h)
theorem IsEs.get (k : Key) : ∀ {kvs : List (Key × V)} {es : List (Key × D)}, IsEs K cm F kvs es → (valV kvs k = none ∧ getD es k = none) ∨ ∃ v d, valV kvs k = some v ∧ getD es k = some d ∧ Is K cm F v d
  | _, _, .nil => .inl ⟨rfl, rfl⟩
  | _, _, .cons (k := k2) (v := v) (d := d) h q => by
    by_cases e : k2 = k
    · exact .inr ⟨v, d, valV_pos e, by unfold getD; rw [List.find?_cons_of_pos (by simpa using e)]; rfl, h⟩
    · rw [valV_neg (show ¬ (k2, v).1 = k from e)]
      have : ∀ es : List (Key × D), getD ((k2, d) :: es) k = getD es k := fun es => by unfold getD; rw [List.find?_cons_of_neg (by simpa using e)]
      rw [this]
      exact IsEs.get k q
theorem IsEs.vals : ∀ {kvs : List (Key × V)} {es : List (Key × D)}, IsEs K cm F kvs es → IsAll K cm F (kvs.map (·.2)) (es.map (·.2))
  | _, _, .nil => .nil
  | _, _, .cons h q => .cons h (IsEs.vals q)
theorem IsEs.keys : ∀ {kvs : List (Key × V)} {es : List (Key × D)}, IsEs K cm F kvs es → es.map (fun e => kD e.1) = kvs.map fun p => kD p.1
  | _, _, .nil => rfl
  | _, _, .cons _ q => by rw [List.map_cons, List.map_cons, IsEs.keys q]
/-- a dict's data by its entries -/
def D.dk (es : List (Key × D)) : D := .dic (es.map fun e => kD e.1) (es.map (·.2))
theorem IsEs.is {a : Addr} {kvs : List (Key × V)} {es : List (Key × D)} (h : F a = some (.dK kvs)) (q : IsEs K cm F kvs es) : Is K cm F (.ref a) (D.dk es) := .dic h q.keys q.vals
/-- pairs of a list -/
theorem pairs_at {H : Hp} (ex : Ex F H) (ps : List (Key × D)) : ∀ {vs : List V}, IsAll K cm F vs (ps.map fun p => .tup [kD p.1, p.2]) → ∃ (as : List Addr) (kvs : List (Key × V)), vs = as.map V.ref ∧ Paired (fun p kv => SqT K H p [kV kv.1, kv.2]) as kvs ∧ IsEs K cm F kvs ps := by
  induction ps with
  | nil =>
    intro vs q
    rw [List.map_nil] at q
    cases q
    exact ⟨[], [], rfl, .nil, .nil⟩
  | cons p r ih =>
    intro vs q
    rw [List.map_cons] at q
    obtain ⟨k, d⟩ := p
    cases q with
    | cons h q =>
      obtain ⟨as, kvs, e, pr, es⟩ := ih q
      cases h with
      | tup h q2 =>
        cases q2 with
        | cons iu q3 =>
          cases q3 with
          | cons iv q4 =>
            cases q4
            rename_i a u v
            have eu : u = kV k := by
              cases k with
              | inl i => exact iu.int_inv
              | inr s => exact iu.str_inv
            subst eu
            exact ⟨a :: as, (k, v) :: kvs, by rw [e]; rfl, Paired.cons (Evl.ex_t ex h.sq) pr, .cons iv es⟩
end
def oDictP : D → (D → Prop) → Prop
  | .lst l, k => ∃ ps : List (Key × D), l = ps.map (fun p => .tup [kD p.1, p.2]) ∧ k (D.dk (mergeD [] ps))
  | _, _ => False
def oDictA : List D → (D → Prop) → Prop
  | [d], k => oDictP d k
  | _, _ => False
theorem c_dictP {K : PySem.W.Frag} {g : Gv} : RCD K g (fun xs H Q => ∃ (a : Addr) (ps : List Addr) (kvs : List (Key × V)), xs = [.ref a] ∧ SqL K H a (ps.map V.ref) ∧ Paired (fun p kv => SqT K H p [kV kv.1, kv.2]) ps kvs ∧
    ∀ p, H p = none → Q (.ref p) (upd H p (.dK (mergeK [] kvs)))) oDictA := by
  intro xs ds F H k Q ex ra f q
  match ds, f, ra with
  | [.lst l], f, .cons iv .nil =>
    obtain ⟨ps, rfl, kk⟩ := f
    obtain ⟨a, vs, rfl, hq, ia⟩ := iv.lst ex
    obtain ⟨as, kvs, rfl, pr, es⟩ := pairs_at ex ps ia
    refine ⟨a, as, kvs, rfl, SqL.of hq, pr, fun p np => ?_⟩
    have st2 : Stp g.hd g.cm.tb F H (upd F p (.dK (mergeK [] kvs))) (upd H p (.dK (mergeK [] kvs))) := Stp.new ex np
    exact q _ _ _ _ kk st2 (IsEs.is upd_same ((es.merge .nil).mono st2.ff))
  | [], f, _ => exact f.elim
  | _ :: _ :: _, f, _ => exact f.elim
  | [.non], f, _ => exact f.elim
  | [.bl _], f, _ => exact f.elim
  | [.int _], f, _ => exact f.elim
  | [.str _], f, _ => exact f.elim
  | [.tup _], f, _ => exact f.elim
  | [.dic _ _], f, _ => exact f.elim
  | [.obj _ _ _], f, _ => exact f.elim
  | [.dik _ _], f, _ => exact f.elim
  | [.dit _ _], f, _ => exact f.elim
  | [.cod _], f, _ => exact f.elim
/-! ### x.remove(z), ints -/
def oRem (ds : List D) (z : D) (k : List D → Prop) : Prop := ∃ (ns : List Int) (i : Int), ds = ns.map D.int ∧ z = .int i ∧ i ∈ ns ∧ k ((ns.erase i).map D.int)
theorem erase_at {i : Int} : ∀ {ns : List Int}, i ∈ ns → ∃ j, ns[j]? = some i ∧ (∀ m : Nat, m < j → ns[m]? ≠ some i) ∧ ns.eraseIdx j = ns.erase i
  | [], h => nomatch h
  | n :: r, h => by
    by_cases e : n = i
    · subst e
      exact ⟨0, rfl, (fun m hm => absurd hm (Nat.not_lt_zero m)), by rw [List.erase_cons_head]; rfl⟩
    · rcases List.mem_cons.mp h with h | h
      · exact absurd h.symm e
      · obtain ⟨j, h1, h2, h3⟩ := erase_at h
        refine ⟨j + 1, h1, fun m hm => ?_, ?_⟩
        · cases m with
          | zero => exact fun z => e (Option.some.inj z)
          | succ m => exact h2 m (by omega)
        · rw [List.erase_cons_tail (by simpa using e), ← h3]
          rfl
section
variable {X : Cx} {g : Gv} {bs bs1 : List B} {n b c : Jn} {r : Rt} {i : Nat} {x : Str} {e a : Expr} {m ma : (D → Prop) → Prop} {rest body : List Stmt} {ds : List D} {p1 pos apos cpos : Pos}
theorem s_rem {P : List D → Prop} {bs' : List D → List B} (hx : PE X (.Name x p1) (tVar i)) (he : PE X e (tR X.K g bs m)) (hr : ∀ es, PSs X rest (tS X.K g (bs' es) n b c r (P es))) (hb : bs[i]? = some (.own ds) := by rfl) (hbs : ∀ es, bs.set i (.own es) = bs' es := by intro _; rfl)
    (hbase : attributeBase (.Name x p1) "remove" X.env (eval (.Name x p1) X.env) = eval (.Name x p1) X.env := by rfl)
    (hfew : ((backTo cpos (starEach [e] X.env)).all (fun x => !x.1) && (backToKw cpos (keywordEach [] X.env)).all (fun x => x.1.isSome) && decide ([e].length + ([] : List Keyword).length + (if ([] : List Keyword).isEmpty then 0 else 1) < 30)) = true := by rfl) (hline : (apos.endLine == cpos.line) = true := by rfl)
    (hs : starEach [e] X.env = (false, eval e X.env) :: starEach [] X.env := by rfl) (hpl : (backTo cpos (starEach [] X.env)).any (·.1) = false := by rfl) (hsw : swapsWith (.Call (.Attribute (.Name x p1) "remove" apos) [e] [] cpos) none pos.line X.env = pure false := by rfl) :
    PSs X (.Expr (.Call (.Attribute (.Name x p1) "remove" apos) [e] [] cpos) pos :: rest) (tS X.K g bs n b c r (m fun z => oRem ds z P)) :=
  cons_of (ps_expr (pe_bm PySem.F.plainAttrs_list PySem.F.slot_list_remove PySem.F.type_list_remove mt_remove hx (pa_cons he pa_nil hs) hbase hfew hline hs hpl) hsw) hr fun E σ H ⟨p, ⟨F, sa⟩, q⟩ => by
    obtain ⟨a, vs, h1, h2, h3, h4, h5⟩ := sa.getO hb
    refine ⟨_, h1, ty_own h2, F, _, sa, p, fun d v F' H' ⟨ns, z, e1, e2, hz, pd⟩ s iv => ?_⟩
    subst e1 e2
    have h2' := s.kpL h2 fun p e => (h5 p e).1
    obtain ⟨j, j1, j2, j3⟩ := erase_at hz
    have ev := h3.ints_inv
    subst ev
    refine ⟨a, ns, z, j, rfl, by rw [iv.int], h2', j1, j2, _, pd, F', ?_⟩
    rw [← hbs, j3]
    exact (sa.step s).mutO hb h1 (IsAll.ints _)
/-! ### for .. in e[x.pop()] -/
/-- a walk, the slots being otherwise behind its making -/
def tI2 (K : PySem.W.Frag) (g : Gv) (w : Bool) (bs bs1 : List B) (m : (List D → Prop) → Prop) : TI := fun σ H R => ∃ F k, Sat K g bs σ F H ∧ m k ∧ ∀ items J F' H', k items → Ex F F' → Sat K g bs1 σ F' H' → WalkD K g w items J (fun F2 _ => Ex F' F2) → R J H'
def tM2 (K : PySem.W.Frag) (g : Gv) (bs bs1 : List B) (m : (D → Prop) → Prop) : TE := fun σ H Q => ∃ F k, Sat K g bs σ F H ∧ m k ∧ ∀ d v F' H', k d → Ex F F' → Sat K g bs1 σ F' H' → Is K g.cm F' v d → Q v H'
theorem for_rd2 {ww : Bool} {S A : Type} {enc : A → D} {js : List Nat} {ub : A → List B → List B} {gt : TG} {tb : TS} {mi : (List D → Prop) → Prop} {fl fr : S → List B} {s0 : S} {f : A → S → (S → Prop) → Prop} {kr : S → Prop} {K : PySem.W.Frag} (hT : ∀ A', Tg K (g.an A') ww gt enc js ub) (hle : Le bs1 (fl s0)) (hfr : ∀ s, Le (fl s) (fr s))
    (hb : ∀ (A' : Hp) (_ : Ex g.A A') (a : A) (s : S) (kc : S → Prop) E σ H, tS K (g.an A') (ub a (fl s)) ⟨S, fl, kc⟩ ⟨S, fr, kr⟩ ⟨S, fl, kc⟩ r (f a s kc) E σ H → tb E σ H)
    (E : Ends) (σ : L2.St) (H : Hp) (h : tS K g bs n b c r (mi fun items => forW (fun x s k => ∃ a, x = enc a ∧ f a s k) items s0 kr) E σ H) :
    tFor (tI2 K g ww bs bs1 mi) gt tb { E with nx := fun σ' H' => ∃ s, kr s ∧ ∃ F, Sat K g (fr s) σ' F H' } σ H := by
  obtain ⟨p, ⟨F, sa⟩, hn, hbk, hct, hrt⟩ := h
  refine ⟨F, _, sa, p, fun items J F1 H1 ki _ sa1 ⟨G, Y, w, gC, y⟩ => ?_⟩
  obtain ⟨ff, hff⟩ : ∃ ff : D → S → (S → Prop) → Prop, ff = fun x s k => ∃ a, x = enc a ∧ f a s k := ⟨_, rfl⟩
  rw [← hff] at ki
  have ki : forW ff items s0 kr := ki
  obtain ⟨F2, e12, sa2⟩ := sa1.le hle
  have aF1 : Ex g.A F1 := sa1.an
  refine for_it w (tb := tb) (D := { E with nx := fun σ' H' => ∃ s, kr s ∧ ∃ F, Sat K g (fr s) σ' F H' }) (fun i σ' H' => ∃ s F', Sat K (g.an F1) (fl s) σ' F' H' ∧ forW ff (items.drop i) s kr) ⟨s0, F2, sa2.anch e12, ki⟩ ?_ ?_ ?_
  · intro i σ' H' _ ⟨s, F', sa', _⟩
    exact gC F' H' sa'.an sa'.ex
  · intro i x σ' H2 H3 hi ⟨s, F', sa', kk⟩ yy
    obtain ⟨F3, d, hd, s3, id⟩ := y i H2 x H3 F' sa'.an sa'.ex hi yy
    have lt := (List.getElem?_eq_some_iff.mp hd).1
    rw [List.drop_eq_getElem_cons lt] at kk
    have ed : items[i] = d := (List.getElem?_eq_some_iff.mp hd).2
    rw [ed] at kk
    have k1 : ff d s _ := kk
    obtain ⟨a, rfl, k2⟩ := (congrFun (congrFun (congrFun hff d) s) _).mp k1
    refine (hT F1).run a x (fl s) σ' F3 H3 _ (sa'.step s3) id fun σ2 sa3 _ _ => ?_
    exact hb F1 aF1 a s (fun s' => forW ff (items.drop (i + 1)) s' kr) _ σ2 H3 ⟨k2, ⟨F3, sa3⟩, fun s' σ4 F4 H4 sa4 k4 => ⟨s', F4, sa4, k4⟩, fun s' σ4 F4 H4 sa4 k4 => ⟨s', k4, F4, sa4.unan aF1⟩, fun s' σ4 F4 H4 sa4 k4 => ⟨s', F4, sa4, k4⟩, hrt.an⟩
  · intro σ' H' ⟨s, F', sa', kk⟩
    rw [List.drop_of_length_le (Nat.le_refl _)] at kk
    obtain ⟨F4, _, sa4⟩ := (sa'.unan aF1).le (hfr s)
    exact ⟨s, kk, F4, sa4⟩
theorem s_for2J {ww : Bool} {S A : Type} {enc : A → D} {js : List Nat} {ub : A → List B → List B} {tg iter : Expr} {gt : TG} {mi : (List D → Prop) → Prop} {ba : A → S → List B} {f : A → S → (S → Prop) → (S → Prop) → Prop} {fl fr : S → List B} {s0 : S} {kr : S → Prop} (hp : PassesOwn (model X.prog X.w) X.A X.env X.xe) (hc : X.calm = true)
    (hi : PI X tg iter (tI2 X.K g ww bs bs1 mi)) (hg : PG X tg gt) (hT : ∀ A', Tg X.K (g.an A') ww gt enc js ub) (hle : Le bs1 (fl s0)) (hfr : ∀ s, Le (fl s) (fr s))
    (hb : ∀ (A' : Hp) (_ : Ex g.A A') (a : A) (s : S) (kc kb : S → Prop), PSs X body (tS X.K (g.an A') (ba a s) ⟨S, fl, kc⟩ ⟨S, fr, kb⟩ ⟨S, fl, kc⟩ r (f a s kc kb))) (hr : ∀ s, PSs X rest (tS X.K g (fr s) n b c r (kr s))) (hba : ∀ a s, ub a (fl s) = ba a s := by intro _ _; rfl)
    (hs : ∀ x, foldedSetIterable iter X.env x = pure x := by intro _; rfl) : PSs X (.For tg iter body [] pos :: rest) (tS X.K g bs n b c r (mi fun items => forW (fun x s k => ∃ a, x = enc a ∧ f a s k kr) items s0 kr)) :=
  cons_of (α := S) (bs' := fr) (P' := kr) (ps_for (tb := fun E σ H => ∃ (A' : Hp) (_ : Ex g.A A') (a : A) (s : S) (kc : S → Prop), tS X.K (g.an A') (ba a s) ⟨S, fl, kc⟩ ⟨S, fr, kr⟩ ⟨S, fl, kc⟩ r (f a s kc kr) E σ H) hp hc hi hg ⟨fun pins s σ H E I ⟨A', eA, a, z, kc, q⟩ => (hb A' eA a z kc kr).run pins s σ H E I q⟩ hs) hr
    (for_rd2 hT hle hfr fun A' eA a s kc E σ H q => ⟨A', eA, a, s, kc, by rw [hba] at q; exact q⟩)
theorem e_popE (hx : PE X (.Name x p1) (tVar i)) (hb : bs[i]? = some (.own ds) := by rfl) (hb1 : bs.set i (.own ds.dropLast) = bs1 := by rfl)
    (hbase : attributeBase (.Name x p1) "pop" X.env (eval (.Name x p1) X.env) = eval (.Name x p1) X.env := by rfl) (hline : (apos.endLine == cpos.line) = true := by rfl) :
    PE X (.Call (.Attribute (.Name x p1) "pop" apos) [] [] cpos) (tM2 X.K g bs bs1 (oPopL ds)) :=
  PE.imp (pe_bm0 PySem.F.plainAttrs_list PySem.F.slot_list_pop PySem.F.type_list_pop mt_pop hx hbase hline) fun σ H Q ⟨F, k, sa, ⟨d, hd, kd⟩, q⟩ => by
    obtain ⟨l, vs, h1, h2, h3, h4, h5⟩ := sa.getO hb
    obtain ⟨v, hv, iv⟩ := h3.get hd
    rw [← h3.len] at hv
    have dl : IsAll X.K g.cm F vs.dropLast ds.dropLast := by
      rw [List.dropLast_eq_take, List.dropLast_eq_take, h3.len]
      exact h3.take _
    refine ⟨_, h1, ty_own h2, l, vs, v, rfl, rfl, h2, hv, ?_⟩
    have sa1 := sa.mutO hb h1 dl
    rw [hb1] at sa1
    exact q d v F _ kd (Ex.refl F) sa1 iv
theorem seq_core {F1 H1 : Hp} {v : V} {d : D} {k : List D → Prop} {R : It → Hp → Prop} (sx : Ex F1 H1) (iv : Is X.K g.cm F1 v d) (kd : oItems d k) (q : ∀ items J, k items → WalkD X.K g false items J (fun F2 _ => Ex F1 F2) → R J H1) :
    (∃ a, v = .ref a ∧ (∃ xs, SqL X.K H1 a xs) ∧ R (Itl X.K a) H1) ∨ (∃ a, v = .ref a ∧ (∃ xs, SqT X.K H1 a xs) ∧ R (Itt X.K a) H1) ∨ ∃ z, v = .str z ∧ R (Its z) H1 := by
  cases d with
  | lst l =>
    cases iv with
    | lst h ia =>
      rename_i a vs
      refine .inl ⟨a, rfl, ⟨vs, SqL.of (sx _ _ h)⟩, q l _ kd ⟨fun H => SqL X.K H a vs, YAt vs, ?_, fun F2 H2 c ex => SqL.of (ex _ _ (c _ _ h)), fun i H2 x H' F2 c ex hi y => ?_⟩⟩
      · rw [← ia.len]
        exact walk_list
      · exact stay_y (F := F1) (fun F' z => ia.mono z) (C := fun F2 _ => Ex F1 F2) (fun _ _ z => z) c ex hi y
  | tup l =>
    cases iv with
    | tup h ia =>
      rename_i a vs
      refine .inr (.inl ⟨a, rfl, ⟨vs, Evl.ex_t sx h.sq⟩, q l _ kd ⟨fun H => SqT X.K H a vs, YAt vs, ?_, fun F2 H2 c ex => Evl.ex_t ex (Evl.ex_t c h.sq), fun i H2 x H' F2 c ex hi y => ?_⟩⟩)
      · rw [← ia.len]
        exact walk_tup
      · exact stay_y (F := F1) (fun F' z => ia.mono z) (C := fun F2 _ => Ex F1 F2) (fun _ _ z => z) c ex hi y
  | str z =>
    refine .inr (.inr ⟨z, iv.str_inv, q _ _ kd ⟨fun _ => True, (fun i H v H' => H' = H ∧ ∃ c, z.cps[i]? = some c ∧ v = .str ⟨#[c]⟩), ?_, fun _ _ _ _ => True.intro, fun i H2 x H' F2 c ex hi y => ?_⟩⟩)
    · rw [List.length_map]
      exact walk_str
    · obtain ⟨rfl, c, hc, rfl⟩ := y
      refine ⟨F2, .str ⟨#[c]⟩, ?_, Stp.refl ex, .inl (.str _)⟩
      rw [List.getElem?_map, Array.getElem?_toList, hc]
      rfl
  | _ => exact kd.elim
/-- data [x.pop()] -/
theorem i_ixPop {tg : Expr} {mp : (D → Prop) → Prop} (ha : PE X a (tM X.K g bs ma)) (he : PE X e (tM2 X.K g bs bs1 mp)) (hs : PlainIx e := by intro _ _; rfl) : PI X tg (.Subscript a e pos) (tI2 X.K g false bs bs1 (fun k => ma fun u => mp fun w => oIx u w fun d => oItems d k)) := by
  have h1 : PE X (.Subscript a e pos) (tM2 X.K g bs bs1 (fun k => ma fun u => mp fun w => oIx u w k)) := PE.imp (pe_ix ix_seq ha he hs) fun σ H Q ⟨F, k, sa, hm, q⟩ => by
    refine ⟨F, _, sa, hm, fun d v F1 H1 kd st iv => ⟨F1, _, sa.step st, kd, fun d2 v2 F2 H2 kd2 e12 sa2 iv2 => ?_⟩⟩
    exact d_ix v v2 d d2 F2 H2 k Q sa2.ex (.is (iv.mono e12)) (.is iv2) kd2 fun z w F3 H3 kz s3 iz => q z w F3 H3 kz (st.ff.trans (e12.trans s3.ff)) (sa2.step s3) iz
  exact PI.imp (pi_seq h1) fun σ H R ⟨F, k, s, hm, q⟩ => ⟨F, fun d => oItems d k, s, hm, fun d v F1 H1 kd e1 sa1 iv => seq_core (g := g) sa1.ex iv kd fun items J ki w => q items J F1 H1 ki e1 sa1 w⟩
end
end FE
set_option Elab.async false
set_option linter.all false
set_option maxRecDepth 100000
set_option maxHeartbeats 4000000
/-! s.index(z), s.count(z), s a list or a tuple. -/
namespace FE
open PySem L2 PySem.Spec PyProof.Rows
open Evl (Ex)
def tMt2 (K : PySem.W.Frag) (rT rL : V → List V → Hp → VK → Prop) (to : TE) (t : TA) : TE := fun σ H Q => to σ H fun x H1 => (KT.TyT K x H1 ∧ t σ H1 fun xs H2 => rT x xs H2 Q) ∨ (tyV K "list" x H1 ∧ t σ H1 fun xs H2 => rL x xs H2 Q)
section
variable {X : Cx} {g : Gv} {bs : List B} {o e : Expr} {es : List Expr} {to : TE} {t : TA} {name : Str} {apos cpos : Pos} {iT iL : String} {rT rL : V → List V → Hp → VK → Prop}
theorem pe_mt2 (sT : Slot "tuple" name iT) (tT : typeOf (.builtin iT) = pure (.type "method_descriptor")) (hT : MtR X iT rT) (sL : Slot "list" name iL) (tL : typeOf (.builtin iL) = pure (.type "method_descriptor")) (hL : MtR X iL rL) (ho : PE X o to) (ha : PA X (e :: es) t)
    (hbase : attributeBase o name X.env (eval o X.env) = eval o X.env := by rfl)
    (hfew : ((backTo cpos (starEach (e :: es) X.env)).all (fun z => !z.1) && (backToKw cpos (keywordEach [] X.env)).all (fun z => z.1.isSome) && decide ((e :: es).length + ([] : List Keyword).length + (if ([] : List Keyword).isEmpty then 0 else 1) < 30)) = true := by rfl)
    (hline : (apos.endLine == cpos.line) = true := by rfl) (hs : starEach (e :: es) X.env = (false, eval e X.env) :: starEach es X.env := by rfl) (hpl : (backTo cpos (starEach es X.env)).any (·.1) = false := by rfl) :
    PE X (.Call (.Attribute o name apos) (e :: es) [] cpos) (tMt2 X.K rT rL to t) := by
  constructor
  intro pins s σ H Q J hy
  refine wpAny_Call_method_late hbase hfew hline rfl (thn (ho.run pins s σ H _ J hy) fun v s1 ⟨x, H1, J1, r1, q1⟩ => ?_)
  rcases q1 with ⟨ty, q1⟩ | ⟨ty, q1⟩
  · obtain ⟨hT', hd⟩ := ty.is J1 r1
    refine ⟨"tuple", iT, PySem.F.plainAttrs_tuple, sT, tT, hT', hd, ?_⟩
    have hA := ha.run cpos pins s1 σ H1 _ J1 q1
    rw [hs] at hA ⊢
    refine Calls.callWith_builtin (by show (false || (backTo cpos (starEach es X.env)).any (·.1)) = false; rw [hpl] <;> rfl) (Calls.evalArgs_plain ?_)
    exact thn hA fun us s2 ⟨vs, H2, J2, r2, q2⟩ => hT pins s2 σ H2 x vs v us Q J2 r1 r2 q2
  · obtain ⟨hT', hd⟩ := tyV_is J1 r1 ty
    refine ⟨"list", iL, PySem.F.plainAttrs_list, sL, tL, hT', hd, ?_⟩
    have hA := ha.run cpos pins s1 σ H1 _ J1 q1
    rw [hs] at hA ⊢
    refine Calls.callWith_builtin (by show (false || (backTo cpos (starEach es X.env)).any (·.1)) = false; rw [hpl] <;> rfl) (Calls.evalArgs_plain ?_)
    exact thn hA fun us s2 ⟨vs, H2, J2, r2, q2⟩ => hL pins s2 σ H2 x vs v us Q J2 r1 r2 q2
end
/-- the first place of z in l -/
def FirstAt (l : List D) (z : D) (j : Nat) : Prop := (∃ x, l[j]? = some x ∧ D.eqb x z = true) ∧ ∀ m x, m < j → l[m]? = some x → D.eqb x z = false
def oIndex : D → D → (D → Prop) → Prop
  | .tup l, .int z, k => ∃ (ns : List Int) (j : Nat), l = ns.map D.int ∧ ns[j]? = some z ∧ (∀ m, m < j → ns[m]? ≠ some z) ∧ k (.int j)
  | .lst l, z, k => z.flat = true ∧ l.all D.flat = true ∧ ∃ j : Nat, FirstAt l z j ∧ k (.int j)
  | _, _, _ => False
def D.seq : D → Bool
  | .tup _ => true
  | .lst _ => true
  | _ => false
@[reducible] def wMt (f : D → D → (D → Prop) → Prop) (ma mb : (D → Prop) → Prop) : (D → Prop) → Prop := fun k => ma fun d => d.seq = true ∧ mb fun z => f d z k
def oCount : D → D → (D → Prop) → Prop
  | .tup l, .int z, k => ∃ ns : List Int, l = ns.map D.int ∧ k (.int (ns.count z : Nat))
  | .lst l, z, k => z.flat = true ∧ l.all D.flat = true ∧ k (.int (l.countP fun y => D.eqb y z : Nat))
  | _, _, _ => False
theorem IsAll.count {K : PySem.W.Frag} {cm : Cm} {F : Hp} {w : V} {z : D} (iz : Is K cm F w z) (fz : z.flat = true) : ∀ {vs : List V} {l : List D}, IsAll K cm F vs l → l.all D.flat = true → vs.countP (fun y => eqV y w) = l.countP fun y => D.eqb y z
  | _, _, .nil, _ => rfl
  | _, _, .cons h q, f => by
    rw [List.all_cons, Bool.and_eq_true] at f
    rw [List.countP_cons, List.countP_cons, IsAll.count iz fz q f.2, h.eqV iz f.1 fz]
section
variable {X : Cx} {g : Gv} {bs : List B} {a b : Expr} {ma mb : (D → Prop) → Prop} {apos cpos : Pos}
theorem mt2_core {rT rL : V → List V → Hp → VK → Prop} {f : D → D → (D → Prop) → Prop}
    (hT : ∀ {F H : Hp} {x w : V} {l : List D} {z : D} {k : D → Prop} {Q : VK}, Ex F H → Is X.K g.cm F x (.tup l) → Rs X.K g F H w z → f (.tup l) z k → (∀ z v F' H', k z → Stp g.hd g.cm.tb F H F' H' → Is X.K g.cm F' v z → Q v H') → rT x [w] H Q)
    (hL : ∀ {F H : Hp} {x w : V} {l : List D} {z : D} {k : D → Prop} {Q : VK}, Ex F H → Rs X.K g F H x (.lst l) → Rs X.K g F H w z → f (.lst l) z k → (∀ z v F' H', k z → Stp g.hd g.cm.tb F H F' H' → Is X.K g.cm F' v z → Q v H') → rL x [w] H Q)
    (σ : L2.St) (H : Hp) (Q : VK) (h : tM X.K g bs (wMt f ma mb) σ H Q) : tMt2 X.K rT rL (tR X.K g bs ma) (tAR X.K g bs (wcons mb wnil)) σ H Q := by
  obtain ⟨F, k, s, hm, q⟩ := h
  refine ⟨F, _, s, hm, fun d v F1 H1 kd st iv => ?_⟩
  obtain ⟨sq, kd⟩ := kd
  have go : ∀ {r : V → List V → Hp → VK → Prop}, (∀ z w F2 H2, f d z k → Stp g.hd g.cm.tb F1 H1 F2 H2 → Rs X.K g F2 H2 w z → r v [w] H2 Q) → tAR X.K g bs (wcons mb wnil) σ H1 fun xs H2 => r v xs H2 Q := fun hr => by
    refine ⟨F1, fun ds => match ds with | [z] => f d z k | _ => False, s.step st, kd, fun ds vs F2 H2 kk st2 iw => ?_⟩
    match ds, kk, iw with
    | [z], kk, .cons iw .nil => exact hr z _ F2 H2 kk st2 iw
    | [], kk, _ => exact kk.elim
    | _ :: _ :: _, kk, _ => exact kk.elim
  cases d with
  | tup l =>
    have i1 : Is X.K g.cm F1 v (.tup l) := iv.data fun _ z => nomatch z
    refine .inl ⟨?_, go fun z w F2 H2 kz st2 iw => hT st2.fh (i1.mono st2.ff) iw kz fun z v F' H' kz2 st3 iz => q z v F' H' kz2 ((st.trans st2).trans st3) iz⟩
    cases i1 with
    | tup h _ => exact ⟨_, _, rfl, h.ex st.fh⟩
  | lst l =>
    refine .inr ⟨?_, go fun z w F2 H2 kz st2 iw => hL st2.fh (iv.step st2) iw kz fun z v F' H' kz2 st3 iz => q z v F' H' kz2 ((st.trans st2).trans st3) iz⟩
    obtain ⟨a, vs, rfl, ha, _⟩ := iv.lst st.fh
    exact ty_own ha
  | _ => cases sq
theorem e_index (ha : PE X a (tR X.K g bs ma)) (hb : PE X b (tR X.K g bs mb)) (hbase : attributeBase a "index" X.env (eval a X.env) = eval a X.env := by rfl)
    (hfew : ((backTo cpos (starEach [b] X.env)).all (fun x => !x.1) && (backToKw cpos (keywordEach [] X.env)).all (fun x => x.1.isSome) && decide ([b].length + ([] : List Keyword).length + (if ([] : List Keyword).isEmpty then 0 else 1) < 30)) = true := by rfl)
    (hline : (apos.endLine == cpos.line) = true := by rfl) (hs : starEach [b] X.env = (false, eval b X.env) :: starEach [] X.env := by rfl) (hpl : (backTo cpos (starEach [] X.env)).any (·.1) = false := by rfl) :
    PE X (.Call (.Attribute a "index" apos) [b] [] cpos) (tM X.K g bs (wMt oIndex ma mb)) :=
  PE.imp (pe_mt2 PySem.F.slot_tuple_index PySem.F.type_tuple_index Rl.mt_tup_indexI PySem.F.slot_list_index PySem.F.type_list_index mt_index ha (r_cons hb r_nil hs) hbase hfew hline hs hpl) (mt2_core (f := oIndex)
    (fun {F H x w l z k Q} ex i1 iw kz q => by
      cases z with
      | int z =>
        obtain ⟨ns, j, rfl, hj, hn, kk⟩ := kz
        cases i1 with
        | tup h ia =>
          rename_i p vs
          obtain rfl := ia.ints_inv
          exact ⟨p, ns, z, j, rfl, by rw [iw.int], Evl.ex_t ex h.sq, hj, hn, ret0 ex (.int _) kk q⟩
      | _ => exact kz.elim)
    (fun {F H x w l z k Q} ex i1 iw kz q => by
      obtain ⟨fz, fl, j, ⟨⟨y, hy, ey⟩, hn⟩, kk⟩ := kz
      obtain ⟨p, vs, rfl, hp, ia⟩ := i1.lst ex
      have iw' : Is X.K g.cm F w z := iw.data fun ds e => by subst e; cases fz
      obtain ⟨u, hu, iu⟩ := ia.get hy
      have fy : y.flat = true := List.all_eq_true.mp fl y (List.mem_of_getElem? hy)
      refine ⟨p, vs, w, j, u, rfl, rfl, SqL.of hp, by rw [iw'.flat]; exact fz, by rw [ia.flat]; exact fl, hu, by rw [iu.eqV iw' fy fz]; exact ey, fun m u' lt hm => ?_, ret0 ex (.int _) kk q⟩
      obtain ⟨y', hy', iy'⟩ := ia.getV hm
      rw [iy'.eqV iw' (List.all_eq_true.mp fl y' (List.mem_of_getElem? hy')) fz]
      exact hn m y' lt hy'))
theorem e_count (ha : PE X a (tR X.K g bs ma)) (hb : PE X b (tR X.K g bs mb)) (hbase : attributeBase a "count" X.env (eval a X.env) = eval a X.env := by rfl)
    (hfew : ((backTo cpos (starEach [b] X.env)).all (fun x => !x.1) && (backToKw cpos (keywordEach [] X.env)).all (fun x => x.1.isSome) && decide ([b].length + ([] : List Keyword).length + (if ([] : List Keyword).isEmpty then 0 else 1) < 30)) = true := by rfl)
    (hline : (apos.endLine == cpos.line) = true := by rfl) (hs : starEach [b] X.env = (false, eval b X.env) :: starEach [] X.env := by rfl) (hpl : (backTo cpos (starEach [] X.env)).any (·.1) = false := by rfl) :
    PE X (.Call (.Attribute a "count" apos) [b] [] cpos) (tM X.K g bs (wMt oCount ma mb)) :=
  PE.imp (pe_mt2 PySem.F.slot_tuple_count PySem.F.type_tuple_count KR.mt_tcount PySem.F.slot_list_count PySem.F.type_list_count KX.mt_lcountF ha (r_cons hb r_nil hs) hbase hfew hline hs hpl) (mt2_core (f := oCount)
    (fun {F H x w l z k Q} ex i1 iw kz q => by
      cases z with
      | int z =>
        obtain ⟨ns, rfl, kk⟩ := kz
        cases i1 with
        | tup h ia =>
          rename_i p vs
          obtain rfl := ia.ints_inv
          exact ⟨p, ns, z, rfl, by rw [iw.int], Evl.ex_t ex h.sq, ret0 ex (.int _) kk q⟩
      | _ => exact kz.elim)
    (fun {F H x w l z k Q} ex i1 iw kz q => by
      obtain ⟨fz, fl, kk⟩ := kz
      obtain ⟨p, vs, rfl, hp, ia⟩ := i1.lst ex
      have iw' : Is X.K g.cm F w z := iw.data fun ds e => by subst e; cases fz
      refine ⟨p, vs, w, rfl, rfl, SqL.of hp, by rw [iw'.flat]; exact fz, by rw [ia.flat]; exact fl, ?_⟩
      rw [IsAll.count iw' fz ia fl]
      exact ret0 ex (.int _) kk q))
end
end FE
set_option Elab.async false
set_option linter.all false
set_option maxRecDepth 100000
set_option maxHeartbeats 4000000
/-! Lists of one form: what loops, comprehensions, walks make of them. -/
namespace FE
open PySem
/-- the ints a .. b - 1 -/
def rg (a b : Int) : List Int := (List.range (b - a).toNat).map fun i : Nat => a + (i : Int)
theorem rgD_rg (a b : Int) : rgD a b = (rg a b).map D.int := by
  unfold rgD rg
  rw [List.map_map]
  rfl
theorem rg_len (a b : Int) : (rg a b).length = (b - a).toNat := by
  unfold rg
  rw [List.length_map, List.length_range]
theorem mem_rg {a b z : Int} : z ∈ rg a b ↔ a ≤ z ∧ z < b := by
  unfold rg
  rw [List.mem_map]
  constructor
  · rintro ⟨i, hi, rfl⟩
    have := List.mem_range.mp hi
    omega
  · rintro ⟨h0, h1⟩
    exact ⟨(z - a).toNat, List.mem_range.mpr (by omega), by omega⟩
theorem rg_get {a b : Int} {i : Nat} (h : i < (b - a).toNat) : (rg a b)[i]? = some (a + (i : Int)) := by
  unfold rg
  rw [List.getElem?_map, List.getElem?_range h]
  rfl
theorem rg_nil {a b : Int} (h : b ≤ a) : rg a b = [] := by
  unfold rg
  rw [show (b - a).toNat = 0 by omega]
  rfl
theorem rg_cons {a b : Int} (h : a < b) : rg a b = a :: rg (a + 1) b := by
  unfold rg
  rw [show (b - a).toNat = (b - (a + 1)).toNat + 1 by omega, List.range_succ_eq_map, List.map_cons, List.map_map]
  refine congr (congrArg _ (by simp)) (List.map_congr_left fun i _ => ?_)
  show a + ((i + 1 : Nat) : Int) = a + 1 + (i : Int)
  omega
theorem rg_snoc {a b : Int} (h : a ≤ b) : rg a (b + 1) = rg a b ++ [b] := by
  unfold rg
  rw [show (b + 1 - a).toNat = (b - a).toNat + 1 by omega, List.range_succ, List.map_append, List.map_cons, List.map_nil]
  congr 2
  omega
theorem rg_sorted (a b : Int) : (rg a b).Pairwise (· < ·) := by
  unfold rg
  rw [List.pairwise_map]
  refine List.Pairwise.imp ?_ List.pairwise_lt_range
  intro i j h
  omega
theorem rg_nodup (a b : Int) : (rg a b).Nodup := (rg_sorted a b).imp fun h => by omega
/-- an ascending list is told by its members -/
theorem asc_ext : ∀ {l r : List Int}, l.Pairwise (· < ·) → r.Pairwise (· < ·) → (∀ z, z ∈ l ↔ z ∈ r) → l = r
  | [], [], _, _, _ => rfl
  | [], b :: r, _, _, h => absurd ((h b).mpr List.mem_cons_self) (by simp)
  | a :: l, [], _, _, h => absurd ((h a).mp List.mem_cons_self) (by simp)
  | a :: l, b :: r, hl, hr, h => by
    have pl := List.pairwise_cons.mp hl
    have pr := List.pairwise_cons.mp hr
    have ab : a = b := by
      rcases List.mem_cons.mp ((h a).mp List.mem_cons_self) with e | m1
      · exact e
      · rcases List.mem_cons.mp ((h b).mpr List.mem_cons_self) with e | m2
        · exact e.symm
        · have := pr.1 a m1
          have := pl.1 b m2
          omega
    subst ab
    rw [asc_ext pl.2 pr.2 fun z => ?_]
    constructor
    · intro m
      rcases List.mem_cons.mp ((h z).mp (List.mem_cons_of_mem _ m)) with e | m'
      · have := pl.1 z m
        omega
      · exact m'
    · intro m
      rcases List.mem_cons.mp ((h z).mpr (List.mem_cons_of_mem _ m)) with e | m'
      · have := pr.1 z m
        omega
      · exact m'
section
variable {α β S T : Type} {k : List D → Prop}
theorem lcW_T (enc : α → D) (p : α → Bool) (g : α → D) {f : D → (Option D → Prop) → Prop} : ∀ {xs : List α} {acc : List D}, (∀ a ∈ xs, ∀ ko : Option D → Prop, (if p a = true then ko (some (g a)) else ko none) → f (enc a) ko) → k (acc ++ (xs.filter p).map g) → lcW f (xs.map enc) acc k
  | [], acc, _, h => by
    rw [List.filter_nil, List.map_nil, List.append_nil] at h
    exact h
  | a :: xs, acc, h1, h => by
    refine h1 a List.mem_cons_self _ ?_
    by_cases c : p a = true
    · rw [if_pos c]
      refine lcW_T enc p g (fun x hx => h1 x (List.mem_cons_of_mem _ hx)) ?_
      rw [List.filter_cons_of_pos c, List.map_cons] at h
      rw [List.append_assoc]
      exact h
    · rw [if_neg c]
      refine lcW_T enc p g (fun x hx => h1 x (List.mem_cons_of_mem _ hx)) ?_
      rw [List.filter_cons_of_neg c] at h
      exact h
/-- [g(a) for a in xs if p(a)] -/
theorem lcT (enc : α → D) (p : α → Bool) (g : α → D) {f : D → (Option D → Prop) → Prop} {xs : List α} (h1 : ∀ a ∈ xs, ∀ ko : Option D → Prop, (if p a = true then ko (some (g a)) else ko none) → f (enc a) ko) (h : k ((xs.filter p).map g)) : lcW f (xs.map enc) [] k :=
  lcW_T enc p g h1 (by rw [List.nil_append]; exact h)
/-- [g(a) for a in xs] -/
theorem lcTm (enc : α → D) (g : α → D) {f : D → (Option D → Prop) → Prop} {xs : List α} (h1 : ∀ a ∈ xs, ∀ ko : Option D → Prop, ko (some (g a)) → f (enc a) ko) (h : k (xs.map g)) : lcW f (xs.map enc) [] k :=
  lcT enc (fun _ => true) g (fun a ha ko hk => h1 a ha ko (by rw [if_pos rfl] at hk; exact hk)) (by rw [List.filter_eq_self.mpr fun _ _ => rfl]; exact h)
/-- [g(a) for a in xs if p(a)], each item only known by a property -/
theorem lcTP (enc : α → D) (P : D → Prop) {f : D → (Option D → Prop) → Prop} {xs : List α} (h1 : ∀ a ∈ xs, ∀ ko : Option D → Prop, (∀ d, P d → ko (some d)) → f (enc a) ko) (h : ∀ l : List D, l.length = xs.length → (∀ d ∈ l, P d) → k l) : lcW f (xs.map enc) [] k :=
  lc_any P (fun x hx ko hko => by
    obtain ⟨a, ha, rfl⟩ := List.mem_map.mp hx
    exact h1 a ha ko hko) fun l hl hp => h l (by rw [hl, List.length_map]) hp
/-- the list of what is drawn for each, by a property that the item and its answer have -/
theorem lcW_R (enc : α → D) (R : α → β → Prop) (e2 : β → D) {f : D → (Option D → Prop) → Prop} : ∀ {xs : List α} {acc : List D}, (∀ a ∈ xs, ∀ ko : Option D → Prop, (∀ b, R a b → ko (some (e2 b))) → f (enc a) ko) → (∀ ys : List β, ys.length = xs.length → (∀ (i : Nat) a b, xs[i]? = some a → ys[i]? = some b → R a b) → k (acc ++ ys.map e2)) → lcW f (xs.map enc) acc k
  | [], acc, _, h => by
    have := h [] rfl (fun i a b h => by simp at h)
    rw [List.map_nil, List.append_nil] at this
    exact this
  | a :: xs, acc, h1, h => by
    refine h1 a List.mem_cons_self _ fun b hb => ?_
    refine lcW_R enc R e2 (fun x hx => h1 x (List.mem_cons_of_mem _ hx)) fun ys hl hr => ?_
    have := h (b :: ys) (by rw [List.length_cons, hl, List.length_cons]) fun i x y e1 e2 => by
      cases i with
      | zero => cases Option.some.inj e1; cases Option.some.inj e2; exact hb
      | succ i => exact hr i x y e1 e2
    rw [List.append_assoc]
    exact this
theorem lcR (enc : α → D) (R : α → β → Prop) (e2 : β → D) {f : D → (Option D → Prop) → Prop} {xs : List α} (h1 : ∀ a ∈ xs, ∀ ko : Option D → Prop, (∀ b, R a b → ko (some (e2 b))) → f (enc a) ko) (h : ∀ ys : List β, ys.length = xs.length → (∀ (i : Nat) a b, xs[i]? = some a → ys[i]? = some b → R a b) → k (ys.map e2)) : lcW f (xs.map enc) [] k :=
  lcW_R enc R e2 h1 fun ys hl hr => by rw [List.nil_append]; exact h ys hl hr
end
section
variable {α S T : Type} {f : D → S → (S → Prop) → Prop} {k : S → Prop}
/-- for a in xs: a fold -/
theorem forT (enc : α → D) (st : T → S) (step : T → α → T) : ∀ {xs : List α} {t : T}, (∀ a ∈ xs, ∀ t, ∀ p : S → Prop, p (st (step t a)) → f (enc a) (st t) p) → k (st (xs.foldl step t)) → forW f (xs.map enc) (st t) k
  | [], _, _, h => h
  | a :: xs, t, h1, h => h1 a List.mem_cons_self t _ (forT enc st step (fun x hx => h1 x (List.mem_cons_of_mem _ hx)) h)
/-- for a in xs: by what holds ahead of each, the ones gone through and those ahead being told -/
theorem forI (enc : α → D) (I : List α → S → Prop) {xs : List α} {s : S} (h0 : I [] s) (h1 : ∀ ys a zs, xs = ys ++ a :: zs → ∀ s, I ys s → ∀ p : S → Prop, (∀ s', I (ys ++ [a]) s' → p s') → f (enc a) s p) (h : ∀ s, I xs s → k s) : forW f (xs.map enc) s k := by
  have go : ∀ zs ys : List α, xs = ys ++ zs → ∀ s, I ys s → forW f (zs.map enc) s k := by
    intro zs
    induction zs with
    | nil =>
      intro ys e s hs
      rw [List.append_nil] at e
      exact h s (e ▸ hs)
    | cons a zs ih =>
      intro ys e s hs
      exact h1 ys a zs e s hs _ fun s' hs' => ih (ys ++ [a]) (by rw [e, List.append_assoc]; rfl) s' hs'
  exact go xs [] rfl s h0
/-- for a in xs: a way out at the first one of which p -/
theorem forF {f : D → Unit → (Unit → Prop) → Prop} {k : Unit → Prop} (enc : α → D) (p : α → Bool) (Out : α → Prop) : ∀ {xs : List α}, (∀ a ∈ xs, ∀ q : Unit → Prop, (if p a = true then Out a else q ()) → f (enc a) () q) → (match xs.find? p with | some a => Out a | none => k ()) → forW f (xs.map enc) () k
  | [], _, h => h
  | a :: xs, h1, h => by
    refine h1 a List.mem_cons_self _ ?_
    by_cases c : p a = true
    · rw [if_pos c]
      rw [List.find?_cons_of_pos c] at h
      exact h
    · rw [if_neg c]
      rw [List.find?_cons_of_neg c] at h
      exact forF enc p Out (fun x hx => h1 x (List.mem_cons_of_mem _ hx)) h
/-- a for whose turns leave nothing behind -/
theorem forU {f : D → Unit → (Unit → Prop) → Prop} {k : Unit → Prop} (enc : α → D) {xs : List α} (h1 : ∀ a ∈ xs, ∀ q : Unit → Prop, q () → f (enc a) () q) (h : k ()) : forW f (xs.map enc) () k :=
  forW_unit h fun x hx q hq => by
    obtain ⟨a, ha, rfl⟩ := List.mem_map.mp hx
    exact h1 a ha q hq
end
/-! ### walks -/
section
variable {α β : Type}
theorem enD_T (enc : α → D) (xs : List α) (j : Nat) : enD j (xs.map enc) = (xs.zipIdx j).map fun p => .tup [.int (p.2 : Nat), enc p.1] := by
  induction xs generalizing j with
  | nil => rfl
  | cons a r ih =>
    rw [List.map_cons, List.zipIdx_cons, List.map_cons]
    show .tup [.int (j : Nat), enc a] :: enD (j + 1) (r.map enc) = _
    rw [ih]
theorem zipD_T (e1 : α → D) (e2 : β → D) : ∀ (xs : List α) (ys : List β), zipD (xs.map e1) (ys.map e2) = (xs.zip ys).map fun p => .tup [e1 p.1, e2 p.2]
  | [], ys => by
    unfold zipD
    simp
  | a :: xs, [] => by
    unfold zipD
    simp
  | a :: xs, b :: ys => by
    have := zipD_T e1 e2 xs ys
    unfold zipD at this ⊢
    rw [List.map_cons, List.map_cons, List.zipWith_cons_cons, List.zip_cons_cons, List.map_cons, this]
theorem at_T (enc : α → D) {xs : List α} {i : Nat} (h : i < xs.length) : L2.atI (xs.map enc) (i : Int) = some (enc xs[i]) := L2.atI_nat (by rw [List.getElem?_map, List.getElem?_eq_getElem h]; rfl)
theorem at_Z (enc : α → D) {xs : List α} {z : Int} (h0 : 0 ≤ z) (h1 : z < xs.length) : ∃ a, xs[z.toNat]? = some a ∧ L2.atI (xs.map enc) z = some (enc a) := by
  have lt : z.toNat < xs.length := by omega
  refine ⟨xs[z.toNat], List.getElem?_eq_getElem lt, ?_⟩
  have := at_T enc lt
  rwa [show ((z.toNat : Nat) : Int) = z by omega] at this
theorem at_rg {n z : Int} (h0 : 0 ≤ z) (h1 : z < n) : L2.atI (rgD 0 n) z = some (.int z) := by
  have := L2.atI_nat (xs := rgD 0 n) (j := z.toNat) (v := .int z) (by rw [rgD_rg, List.getElem?_map, rg_get (by omega)]; show some (D.int (0 + (z.toNat : Int))) = _; congr 2; omega)
  rwa [show ((z.toNat : Nat) : Int) = z by omega] at this
/-- a mirror over an index of a range -/
theorem at_lab (g : Int → D) {n z : Int} (h0 : 0 ≤ z) (h1 : z < n) : L2.atI ((rg 0 n).map g) z = some (g z) := by
  have := L2.atI_nat (xs := (rg 0 n).map g) (j := z.toNat) (v := g z) (by rw [List.getElem?_map, rg_get (by omega)]; show some (g (0 + (z.toNat : Int))) = _; congr 2; omega)
  rwa [show ((z.toNat : Nat) : Int) = z by omega] at this
end
/-! ### any, all, sum -/
theorem u_allT {α : Type} {xs : List α} {p : α → Bool} {k : D → Prop} (h : k (.bl (xs.all p))) : oAll [.lst (xs.map fun x => .bl (p x))] k := by
  refine ⟨xs.map p, by rw [List.map_map]; rfl, ?_⟩
  rw [List.all_map]
  exact h
theorem u_anyT {α : Type} {xs : List α} {p : α → Bool} {k : D → Prop} (h : k (.bl (xs.any p))) : oAny [.lst (xs.map fun x => .bl (p x))] k := by
  refine ⟨xs.map p, by rw [List.map_map]; rfl, ?_⟩
  rw [List.any_map]
  exact h
theorem u_sumT {α : Type} {xs : List α} {p : α → Int} {k : D → Prop} (h : k (.int (xs.map p).sum)) : oSum [.lst (xs.map fun x => .int (p x))] k := ⟨xs.map p, by rw [List.map_map]; rfl, h⟩
theorem seq_tup {l : List D} : (D.seq (.tup l) = true) = True := by simp [D.seq]
theorem seq_lst {l : List D} : (D.seq (.lst l) = true) = True := by simp [D.seq]
theorem oIndex_tup {l : List D} {z : Int} {k : D → Prop} : oIndex (.tup l) (.int z) k = ∃ (ns : List Int) (j : Nat), l = ns.map D.int ∧ ns[j]? = some z ∧ (∀ m, m < j → ns[m]? ≠ some z) ∧ k (.int j) := rfl
theorem oRevI_lst {l : List D} {k : List D → Prop} : oRevI (.lst l) k = k l.reverse := rfl
theorem oRevI_tup {l : List D} {k : List D → Prop} : oRevI (.tup l) k = k l.reverse := rfl
/-- in a list of ints, in a tuple of ints -/
theorem inD_ints (z : Int) (ns : List Int) : inD (.int z) (ns.map D.int) = decide (z ∈ ns) := by
  unfold inD
  rw [List.any_map]
  induction ns with
  | nil => rfl
  | cons a r ih =>
    rw [List.any_cons, ih]
    show (D.eqb (.int a) (.int z) || _) = _
    rw [eqb_int]
    by_cases e : a = z
    · simp [e]
    · have e' : ¬ z = a := fun h => e h.symm
      simp [e, e']
theorem ints_flat (ns : List Int) : (ns.map D.int).all D.flat = true := by
  rw [List.all_map]
  exact List.all_eq_true.mpr fun _ _ => rfl
theorem u_inT {z : Int} {ns : List Int} {k : D → Prop} (h : k (.bl (decide (z ∈ ns)))) : oIn (.int z) (.tup (ns.map D.int)) k := by
  refine ⟨⟨rfl, ints_flat ns⟩, ?_⟩
  rw [inD_ints]
  exact h
theorem u_inL {z : Int} {ns : List Int} {k : D → Prop} (h : k (.bl (decide (z ∈ ns)))) : oIn (.int z) (.lst (ns.map D.int)) k := by
  refine ⟨.inl ⟨rfl, ints_flat ns⟩, ?_⟩
  rw [inD_ints]
  exact h
theorem u_notInT {z : Int} {ns : List Int} {k : D → Prop} (h : k (.bl (!decide (z ∈ ns)))) : oNotIn (.int z) (.tup (ns.map D.int)) k := u_inT (k := fun x => match x with | .bl b => k (.bl (!b)) | _ => False) h
theorem u_notInL {z : Int} {ns : List Int} {k : D → Prop} (h : k (.bl (!decide (z ∈ ns)))) : oNotIn (.int z) (.lst (ns.map D.int)) k := u_inL (k := fun x => match x with | .bl b => k (.bl (!b)) | _ => False) h
end FE
namespace FE
/-- what comes of the first part, by a property -/
theorem cutP {α : Type} {m : (α → Prop) → Prop} {K : α → Prop} (P : α → Prop) (h1 : ∀ k : α → Prop, (∀ a, P a → k a) → m k) (h2 : ∀ a, P a → K a) : m K := h1 K h2
theorem all_app {P : D → Prop} {l r : List D} (h : ∀ x ∈ l, P x) (q : ∀ x ∈ r, P x) : ∀ x ∈ l ++ r, P x := fun x hx => (List.mem_append.mp hx).elim (h x) (q x)
theorem all_one {P : D → Prop} {d : D} (h : P d) : ∀ x ∈ [d], P x := fun x hx => by rw [List.mem_singleton.mp hx]; exact h
theorem all_nil {P : D → Prop} : ∀ x ∈ ([] : List D), P x := fun _ h => nomatch h
theorem all_rep {P : D → Prop} {d : D} (h : P d) (n : Nat) : ∀ x ∈ (List.replicate n [d]).flatten, P x := fun x hx => by
  obtain ⟨m, hm, hx⟩ := List.mem_flatten.mp hx
  rw [List.eq_of_mem_replicate hm] at hx
  exact all_one h x hx
theorem rep1_len (d : D) (n : Nat) : (List.replicate n [d]).flatten.length = n := by
  induction n with
  | zero => rfl
  | succ n ih => rw [List.replicate_succ, List.flatten_cons, List.length_append, ih]; simp; omega
/-- an order's entries, exchanged -/
def InO (m : Nat) (l : List D) : Prop := l.length = m ∧ ∀ x ∈ l, ∃ i : Int, x = .int i ∧ 0 ≤ i ∧ i < m
theorem InO.set {m : Nat} {l : List D} (h : InO m l) {x : D} (hx : x ∈ l) (j : Nat) : InO m (l.set j x) := ⟨by rw [List.length_set]; exact h.1, fun y hy => by
  rcases List.mem_or_eq_of_mem_set hy with hy | rfl
  · exact h.2 y hy
  · exact h.2 y hx⟩
theorem InO.set' {m : Nat} {l : List D} (h : InO m l) {x : D} {i : Int} (hx : x = .int i ∧ 0 ≤ i ∧ i < m) (j : Nat) : InO m (l.set j x) := ⟨by rw [List.length_set]; exact h.1, fun y hy => by
  rcases List.mem_or_eq_of_mem_set hy with hy | rfl
  · exact h.2 y hy
  · exact ⟨i, hx⟩⟩
theorem InO.rg (m : Nat) : InO m (rgD 0 m) := ⟨by rw [rgD_len]; omega, fun x hx => by
  obtain ⟨i, rfl, h⟩ := rgD_mem hx
  exact ⟨i, rfl, h⟩⟩
theorem InO.at {m : Nat} {l : List D} (h : InO m l) {z : Int} (h0 : 0 ≤ z) (h1 : z < m) : ∃ i : Int, L2.atI l z = some (.int i) ∧ .int i ∈ l ∧ 0 ≤ i ∧ i < m := by
  obtain ⟨x, hx, mx⟩ := at_of (l := l) h0 (by rw [h.1]; exact h1)
  obtain ⟨i, rfl, hi⟩ := h.2 x mx
  exact ⟨i, hx, mx, hi⟩
theorem ixN_of {m : Nat} {z : Int} (h0 : 0 ≤ z) (h1 : z < m) : L2.ixN m z = some z.toNat := by
  unfold L2.ixN
  rw [if_pos h0, if_pos h1]
end FE
namespace FE
/-- data of ints, flags, texts, in lists and tuples -/
inductive Pl : Nat → D → Prop
  | int {n : Nat} (i : Int) : Pl n (.int i)
  | bl {n : Nat} (i : Bool) : Pl n (.bl i)
  | lst {n : Nat} {l : List D} (z : l.length ≤ 100000) (h : ∀ x ∈ l, Pl n x) : Pl (n + 1) (.lst l)
  | tup {n : Nat} {l : List D} (z : l.length ≤ 100000) (h : ∀ x ∈ l, Pl n x) : Pl (n + 1) (.tup l)
theorem Pl.up {n : Nat} {d : D} (h : Pl n d) : ∀ {m : Nat}, n ≤ m → Pl m d := by
  induction h with
  | int i => exact fun _ => .int i
  | bl i => exact fun _ => .bl i
  | lst z h ih =>
    intro m le
    obtain ⟨m, rfl⟩ : ∃ m', m = m' + 1 := ⟨m - 1, by omega⟩
    exact .lst z fun x hx => ih x hx (by omega)
  | tup z h ih =>
    intro m le
    obtain ⟨m, rfl⟩ : ∃ m', m = m' + 1 := ⟨m - 1, by omega⟩
    exact .tup z fun x hx => ih x hx (by omega)
theorem Pl.ints {n : Nat} {ns : List Int} (z : ns.length ≤ 100000) : Pl (n + 1) (encT ns) := .tup (by rw [List.length_map]; exact z) fun x hx => by
  obtain ⟨i, _, rfl⟩ := List.mem_map.mp hx
  exact .int i
theorem zip_self (l : List D) : zipD l l = l.map fun x => .tup [x, x] := by
  unfold zipD
  induction l with
  | nil => rfl
  | cons a r ih => rw [List.zipWith_cons_cons, List.map_cons, ih]
end FE
namespace FE
theorem repf_len (l : List D) (n : Nat) : (List.replicate n l).flatten.length = n * l.length := by
  induction n with
  | zero => rw [Nat.zero_mul]; rfl
  | succ n ih => rw [List.replicate_succ, List.flatten_cons, List.length_append, ih, Nat.succ_mul]; omega
end FE
set_option Elab.async false
set_option linter.all false
set_option maxRecDepth 100000
set_option maxHeartbeats 4000000
/-! Webs by their ties; what hangs together; labels that tell it. -/
namespace FE
open PySem
def isPair : D → Bool
  | .tup l => decide (l.length = 2)
  | _ => false
/-- a tie of so many places -/
def tieB (n : Int) : D → Bool
  | .tup [.int u, .int v] => decide (0 ≤ u) && decide (u ≤ v) && decide (v < n)
  | _ => false
/-- the part that is wrong -/
def wrong (m t : D) : Option D := match m with
  | .int n => if 1 ≤ n ∧ n ≤ 10 then match t with
    | .tup l => if l.length ≤ 16 then (l.findIdx? fun x => !tieB n x).map fun i => .int (i : Nat) else some (.str "ties")
    | _ => some (.str "ties") else some (.str "many")
  | _ => some (.str "many")
/-- parts of a web -/
structure Parts (m t : D) (n : Int) (l : List D) : Prop where
  m : m = .int n
  t : t = .tup l
  n1 : 1 ≤ n
  n2 : n ≤ 10
  len : l.length ≤ 16
  ties : ∀ x ∈ l, tieB n x = true
theorem Parts.ok {m t : D} {n : Int} {l : List D} (h : Parts m t n l) : wrong m t = none := by
  rw [h.m, h.t]
  unfold wrong
  simp only [if_pos (And.intro h.n1 h.n2), if_pos h.len]
  rw [List.findIdx?_eq_none_iff.mpr fun x hx => by rw [h.ties x hx]; rfl]
  rfl
theorem parts_of {m t : D} (h : wrong m t = none) : ∃ n l, Parts m t n l := by
  unfold wrong at h
  split at h
  · rename_i n
    split at h
    · rename_i c
      split at h
      · rename_i l
        split at h
        · rename_i c2
          refine ⟨n, l, rfl, rfl, c.1, c.2, c2, fun x hx => ?_⟩
          have := List.findIdx?_eq_none_iff.mp (Option.map_eq_none_iff.mp h) x hx
          simpa using this
        · cases h
      · cases h
    · cases h
  · cases h
theorem tie_inv {n : Int} {x : D} (h : tieB n x = true) : ∃ u v, x = .tup [.int u, .int v] ∧ 0 ≤ u ∧ u ≤ v ∧ v < n := by
  unfold tieB at h
  split at h
  · rename_i u v
    refine ⟨u, v, rfl, ?_⟩
    simpa [and_assoc] using h
  · cases h
theorem tie_nice {n : Int} {x : D} (hn : n ≤ 10) (h : tieB n x = true) (j : Nat) : Nice (j + 1) 200 x := by
  obtain ⟨u, v, rfl, h0, h1, h2⟩ := tie_inv h
  exact Nice.tup2 (Nice.int (by omega)) (Nice.int (by omega))
theorem Parts.nice {m t : D} {n : Int} {l : List D} (h : Parts m t n l) (j : Nat) : Nice j 4000 m ∧ Nice (j + 2) 4000 t := by
  rw [h.m, h.t]
  refine ⟨(Nice.int (by have := h.n1; have := h.n2; omega)).up (by decide), Nice.tup (fun d hd => tie_nice h.n2 (h.ties d hd) j) ?_⟩
  have := h.len
  omega
abbrev web (a b : D) : D := .obj "Web" ["many", "ties"] [a, b]
theorem Parts.can {m t : D} {n : Int} {l : List D} (h : Parts m t n l) : m.can 64 = true ∧ t.can 64 = true := ⟨(h.nice 64).1.can, (h.nice 62).2.can⟩
/-! ### what hangs together -/
abbrev Tie := Int × Int
inductive Conn (ps : List Tie) : Int → Int → Prop
  | rel {a b : Int} (h : (a, b) ∈ ps) : Conn ps a b
  | refl (a : Int) : Conn ps a a
  | symm {a b : Int} (h : Conn ps a b) : Conn ps b a
  | trans {a b c : Int} (h : Conn ps a b) (q : Conn ps b c) : Conn ps a c
theorem Conn.mono {ps qs : List Tie} (s : ∀ p ∈ ps, p ∈ qs) {a b : Int} (h : Conn ps a b) : Conn qs a b := by
  induction h with
  | rel h => exact .rel (s _ h)
  | refl a => exact .refl a
  | symm _ ih => exact ih.symm
  | trans _ _ ih1 ih2 => exact ih1.trans ih2
/-- labels that tell it -/
def Tells (L : Int → Int) (ps : List Tie) : Prop := ∀ a b, L a = L b ↔ Conn ps a b
theorem Tells.nil : Tells id [] := fun a b => ⟨fun h => by
  have h : a = b := h
  rw [h]
  exact .refl b, fun h => by
  induction h with
  | rel h => cases h
  | refl a => rfl
  | symm _ ih => exact ih.symm
  | trans _ _ ih1 ih2 => exact ih1.trans ih2⟩
def relab (L : Int → Int) (p : Tie) : Int → Int := fun a => if L a = L p.2 then L p.1 else L a
theorem Tells.add {L : Int → Int} {ps : List Tie} (h : Tells L ps) (p : Tie) : Tells (relab L p) (ps ++ [p]) := by
  obtain ⟨x, y⟩ := p
  have up : ∀ {a b}, L a = L b → Conn (ps ++ [(x, y)]) a b := fun {a b} e => ((h a b).mp e).mono fun q hq => List.mem_append_left _ hq
  have xy : Conn (ps ++ [(x, y)]) x y := .rel (by simp)
  intro a b
  constructor
  · intro e
    unfold relab at e
    dsimp only at e
    split at e
    · next ha =>
      split at e
      · next hb => exact up (ha.trans hb.symm)
      · next hb => exact (up ha).trans (xy.symm.trans (up e))
    · next ha =>
      split at e
      · next hb => exact (up e).trans (xy.trans (up hb.symm))
      · next hb => exact up e
  · intro c
    induction c with
    | rel hm =>
      rename_i a b
      unfold relab
      dsimp only
      rcases List.mem_append.mp hm with hm | hm
      · have := (h a b).mpr (.rel hm)
        rw [this]
      · have e := List.mem_singleton.mp hm
        cases e
        rw [if_pos rfl]
        split <;> rfl
    | refl a => rfl
    | symm _ ih => exact ih.symm
    | trans _ _ ih1 ih2 => exact ih1.trans ih2
/-! ### two places made one -/
/-- how a place is called when v gives way to the lesser u -/
def cal (u v a : Int) : Int := if a = v then u else if a > v then a - 1 else a
def mm (a b : Int) : Tie := (if b < a then b else a, if b > a then b else a)
def ren (u v : Int) (p : Tie) : Tie := mm (cal u v p.1) (cal u v p.2)
theorem mm_conn {ps : List Tie} {a b : Int} (h : mm a b ∈ ps) : Conn ps a b := by
  unfold mm at h
  split at h
  · rw [if_neg (by omega)] at h
    exact (Conn.rel h).symm
  · split at h
    · exact .rel h
    · have : a = b := by omega
      subst this
      exact .refl a
theorem mm_of {a b x y : Int} (h : mm a b = (x, y)) : (a = x ∧ b = y) ∨ (a = y ∧ b = x) := by
  unfold mm at h
  simp only [Prod.mk.injEq] at h
  split at h <;> split at h <;> omega
section
variable {u v : Int} {ps : List Tie} {t : Nat}
theorem mem_erase (ht : ps[t]? = some (u, v)) {p : Tie} (h : p ∈ ps) : p = (u, v) ∨ p ∈ ps.eraseIdx t := by
  obtain ⟨lt, e⟩ := List.getElem?_eq_some_iff.mp ht
  rw [List.eraseIdx_eq_take_drop_succ]
  have : ps = ps.take t ++ ps[t] :: ps.drop (t + 1) := by
    rw [List.getElem_cons_drop, List.take_append_drop]
  rw [this] at h
  rcases List.mem_append.mp h with h | h
  · exact .inr (List.mem_append_left _ h)
  · rcases List.mem_cons.mp h with h | h
    · exact .inl (h.trans e)
    · exact .inr (List.mem_append_right _ h)
theorem conn_self (ht : ps[t]? = some (u, u)) {a b : Int} : Conn ps a b ↔ Conn (ps.eraseIdx t) a b := by
  constructor
  · intro h
    induction h with
    | rel h =>
      rcases mem_erase ht h with e | h
      · cases e
        exact .refl _
      · exact .rel h
    | refl a => exact .refl a
    | symm _ ih => exact ih.symm
    | trans _ _ ih1 ih2 => exact ih1.trans ih2
  · exact fun h => h.mono fun p hp => List.mem_of_mem_eraseIdx hp
theorem conn_join (huv : u < v) (ht : ps[t]? = some (u, v)) {a b : Int} : Conn ps a b ↔ Conn ((ps.eraseIdx t).map (ren u v)) (cal u v a) (cal u v b) := by
  have cu : cal u v u = u := by unfold cal; rw [if_neg (by omega), if_neg (by omega)]
  have cv : cal u v v = u := by unfold cal; rw [if_pos rfl]
  have tie : Conn ps u v := .rel (List.mem_of_getElem? ht)
  constructor
  · intro h
    induction h with
    | rel h =>
      rcases mem_erase ht h with e | h
      · cases e
        rw [cu, cv]
        exact .refl _
      · exact mm_conn (List.mem_map.mpr ⟨_, h, rfl⟩)
    | refl a => exact .refl _
    | symm _ ih => exact ih.symm
    | trans _ _ ih1 ih2 => exact ih1.trans ih2
  · intro h
    have ker : ∀ a b, cal u v a = cal u v b → Conn ps a b := by
      intro a b e
      unfold cal at e
      by_cases h1 : a = v
      · by_cases h2 : b = v
        · rw [h1, h2]; exact .refl _
        · rw [if_pos h1, if_neg h2] at e
          have : b = u := by split at e <;> omega
          rw [h1, this]
          exact tie.symm
      · by_cases h2 : b = v
        · rw [if_neg h1, if_pos h2] at e
          have : a = u := by split at e <;> omega
          rw [h2, this]
          exact tie
        · rw [if_neg h1, if_neg h2] at e
          have : a = b := by split at e <;> split at e <;> omega
          rw [this]
          exact .refl _
    have onto : ∀ z, ∃ c, cal u v c = z := fun z => by
      by_cases hz : z < v
      · exact ⟨z, by unfold cal; rw [if_neg (by omega), if_neg (by omega)]⟩
      · exact ⟨z + 1, by unfold cal; rw [if_neg (by omega), if_pos (by omega)]; omega⟩
    have go : ∀ x y, Conn ((ps.eraseIdx t).map (ren u v)) x y → ∀ a b, cal u v a = x → cal u v b = y → Conn ps a b := by
      intro x y h
      induction h with
      | rel h =>
        intro a b ea eb
        obtain ⟨⟨p, q⟩, hm, e⟩ := List.mem_map.mp h
        have pq : Conn ps p q := .rel (List.mem_of_mem_eraseIdx hm)
        rcases mm_of e with ⟨e1, e2⟩ | ⟨e1, e2⟩
        · exact (ker a p (ea.trans e1.symm)).trans (pq.trans (ker q b (e2.trans eb.symm)))
        · exact (ker a q (ea.trans e2.symm)).trans (pq.symm.trans (ker p b (e1.trans eb.symm)))
      | refl x => exact fun a b ea eb => ker a b (ea.trans eb.symm)
      | symm _ ih => exact fun a b ea eb => (ih b a eb ea).symm
      | trans _ _ ih1 ih2 =>
        rename_i y z _ _
        intro a b ea eb
        obtain ⟨c, hc⟩ := onto y
        exact (ih1 a c ea hc).trans (ih2 c b hc eb)
    exact go _ _ h a b rfl rfl
end
/-! ### how many unlike ones -/
theorem nodup_le : ∀ {l es : List Int}, l.Nodup → (∀ z ∈ l, z ∈ es) → l.length ≤ es.length
  | [], _, _, _ => Nat.zero_le _
  | a :: r, es, nd, sub => by
    have nd' := List.nodup_cons.mp nd
    have ha := sub a List.mem_cons_self
    have := nodup_le (l := r) (es := es.erase a) nd'.2 fun z hz => (List.mem_erase_of_ne (fun e : z = a => nd'.1 (by rw [← e]; exact hz))).mpr (sub z (List.mem_cons_of_mem _ hz))
    rw [List.length_erase_of_mem ha] at this
    have := List.length_pos_of_mem ha
    rw [List.length_cons]
    omega
theorem unl_len {xs ys ds es : List Int} {f : Int → Int} (hx : Unl xs ds) (hy : Unl ys es) (hf : ∀ a ∈ xs, f a ∈ ys) (inj : ∀ a ∈ xs, ∀ b ∈ xs, f a = f b → a = b) : ds.length ≤ es.length := by
  have nd : (ds.map f).Nodup := by
    rw [List.nodup_iff_pairwise_ne, List.pairwise_map]
    refine List.Pairwise.imp_of_mem ?_ (List.nodup_iff_pairwise_ne.mp hx.nodup)
    intro a b ha hb n e
    exact n (inj a ((hx.mem a).mp ha) b ((hx.mem b).mp hb) e)
  have sub : ds.map f ⊆ es := fun z hz => by
    obtain ⟨a, ha, rfl⟩ := List.mem_map.mp hz
    exact (hy.mem _).mpr (hf a ((hx.mem a).mp ha))
  have := nodup_le nd sub
  rwa [List.length_map] at this
/-- the same kernel, as many unlike values -/
theorem ker_len {A B : Int → Int} {rs ds es : List Int} (hx : Unl (rs.map A) ds) (hy : Unl (rs.map B) es) (k : ∀ a ∈ rs, ∀ b ∈ rs, A a = A b ↔ B a = B b) : ds.length = es.length := by
  have half : ∀ {A B : Int → Int} {ds es : List Int}, Unl (rs.map A) ds → Unl (rs.map B) es → (∀ a ∈ rs, ∀ b ∈ rs, A a = A b ↔ B a = B b) → ds.length ≤ es.length := by
    intro A B ds es hx hy k
    have ch : ∀ z, ∃ a, z ∈ rs.map A → a ∈ rs ∧ A a = z := fun z => by
      by_cases h : z ∈ rs.map A
      · obtain ⟨a, ha, e⟩ := List.mem_map.mp h
        exact ⟨a, fun _ => ⟨ha, e⟩⟩
      · exact ⟨0, fun h' => absurd h' h⟩
    have : ∃ g : Int → Int, ∀ z, z ∈ rs.map A → g z ∈ rs ∧ A (g z) = z := ⟨fun z => (ch z).choose, fun z => (ch z).choose_spec⟩
    obtain ⟨g, hg⟩ := this
    refine unl_len (f := fun z => B (g z)) hx hy (fun z hz => List.mem_map.mpr ⟨_, (hg z hz).1, rfl⟩) fun z hz z' hz' e => ?_
    have := (k _ (hg z hz).1 _ (hg z' hz').1).mpr e
    rw [(hg z hz).2, (hg z' hz').2] at this
    exact this
  exact Nat.le_antisymm (half hx hy k) (half hy hx fun a ha b hb => (k a ha b hb).symm)
section
/-! ### webs by their ties -/
def tD (p : Tie) : D := .tup [.int p.1, .int p.2]
abbrev tl (ps : List Tie) : D := .tup (ps.map tD)
abbrev pt (n : Int) (ps : List Tie) : D := .tup [.int n, tl ps]
abbrev wb (n : Int) (ps : List Tie) : D := web (.int n) (tl ps)
structure Ok (n : Int) (ps : List Tie) : Prop where
  n1 : 1 ≤ n
  n2 : n ≤ 10
  len : ps.length ≤ 16
  ties : ∀ p ∈ ps, 0 ≤ p.1 ∧ p.1 ≤ p.2 ∧ p.2 < n
variable {n : Int} {ps : List Tie}
theorem Ok.parts (h : Ok n ps) : Parts (.int n) (tl ps) n (ps.map tD) := ⟨rfl, rfl, h.n1, h.n2, by rw [List.length_map]; exact h.len, fun x hx => by
  obtain ⟨p, hp, rfl⟩ := List.mem_map.mp hx
  have := h.ties p hp
  simp only [tD, tieB, Bool.and_eq_true, decide_eq_true_eq]
  exact ⟨⟨this.1, this.2.1⟩, this.2.2⟩⟩
theorem ok_of {l : List D} (h : Parts (.int n) (.tup l) n l) : ∃ ps, l = ps.map tD ∧ Ok n ps := by
  have : ∀ l : List D, (∀ x ∈ l, tieB n x = true) → ∃ ps : List Tie, l = ps.map tD ∧ ∀ p ∈ ps, 0 ≤ p.1 ∧ p.1 ≤ p.2 ∧ p.2 < n := by
    intro l
    induction l with
    | nil => exact fun _ => ⟨[], rfl, fun _ h => nomatch h⟩
    | cons x r ih =>
      intro h
      obtain ⟨ps, e, hp⟩ := ih fun y hy => h y (List.mem_cons_of_mem _ hy)
      obtain ⟨u, v, rfl, q⟩ := tie_inv (h x List.mem_cons_self)
      refine ⟨(u, v) :: ps, by rw [e]; rfl, fun p hm => ?_⟩
      rcases List.mem_cons.mp hm with rfl | hm
      · exact q
      · exact hp p hm
  obtain ⟨ps, e, hp⟩ := this l h.ties
  refine ⟨ps, e, h.n1, h.n2, ?_, hp⟩
  have := h.len
  rw [e, List.length_map] at this
  exact this
theorem Ok.erase (h : Ok n ps) (t : Nat) : Ok n (ps.eraseIdx t) := ⟨h.n1, h.n2, Nat.le_trans (List.length_eraseIdx_le ..) h.len, fun p hp => h.ties p (List.mem_of_mem_eraseIdx hp)⟩
end
/-! ### labels -/
section
variable {n : Int}
def lab (n : Int) (L : Int → Int) : List D := (rg 0 n).map fun a => .int (L a)
theorem lab_len (L : Int → Int) : (lab n L).length = n.toNat := by
  unfold lab
  rw [List.length_map, rg_len, Int.sub_zero]
theorem lab_at (L : Int → Int) {a : Int} (h0 : 0 ≤ a) (h : a < n) : L2.atI (lab n L) a = some (.int (L a)) := at_lab _ h0 h
theorem rg_lab : rgD 0 n = lab n id := rgD_rg 0 n
theorem lab_ints (L : Int → Int) : lab n L = ((rg 0 n).map L).map D.int := (List.map_map (f := L) (g := D.int) (l := rg 0 n)).symm
end
theorem tells_fold : ∀ {ps qs : List Tie} {L : Int → Int}, Tells L qs → Tells (ps.foldl relab L) (qs ++ ps)
  | [], qs, L, h => by
    rw [List.append_nil]
    exact h
  | p :: r, qs, L, h => by
    have := tells_fold (ps := r) (h.add p)
    rw [List.append_assoc] at this
    exact this
theorem web1 : wrong (.int 1) (.tup []) = none := by
  unfold wrong
  simp
/-! ### lots -/
def lotB : Int → Int → List D → Bool
  | _, _, [] => true
  | a, b, .int i :: r => decide (a ≤ i) && decide (i ≤ b - 1) && lotB (i + 1) b r
  | _, _, _ => false
def isLot (b : Int) : D → Bool
  | .tup l => lotB 0 b l
  | _ => false
theorem lot_find {b : Int} {f : D → D → (D → Prop) → Prop} {Out : Prop} {k : D → Prop} (st : Int → D) : ∀ {l : List D} {a : Int}, (∀ x a (p : D → Prop), (match x with | .int i => if a ≤ i ∧ i ≤ b - 1 then p (st (i + 1)) else Out | _ => Out) → f x (st a) p) → (if lotB a b l = true then ∀ s, k s else Out) → forW f l (st a) k
  | [], a, _, h => h _
  | x :: r, a, hf, h => by
    refine hf x a _ ?_
    cases x with
    | int i =>
      by_cases c : a ≤ i ∧ i ≤ b - 1
      · simp only [if_pos c]
        refine lot_find st hf ?_
        have : lotB a b (.int i :: r) = lotB (i + 1) b r := by simp [lotB, c.1, c.2]
        rw [this] at h
        exact h
      · simp only [if_neg c]
        have : ¬ lotB a b (.int i :: r) = true := fun z => c (by simp [lotB] at z; omega)
        rw [if_neg this] at h
        exact h
    | _ => exact h
/-- a lot as ints -/
def Asc (a b : Int) (ns : List Int) : Prop := ns.Pairwise (· < ·) ∧ ∀ z ∈ ns, a ≤ z ∧ z < b
theorem lot_of : ∀ {l : List D} {a b : Int}, lotB a b l = true → ∃ ns, l = ns.map D.int ∧ Asc a b ns
  | [], a, b, _ => ⟨[], rfl, List.Pairwise.nil, fun _ h => nomatch h⟩
  | .int i :: r, a, b, h => by
    have h' : (a ≤ i ∧ i ≤ b - 1) ∧ lotB (i + 1) b r = true := by simpa [lotB] using h
    obtain ⟨ns, e, hp, hm⟩ := lot_of h'.2
    refine ⟨i :: ns, by rw [e]; rfl, List.pairwise_cons.mpr ⟨fun z hz => by have := hm z hz; omega, hp⟩, fun z hz => ?_⟩
    rcases List.mem_cons.mp hz with rfl | hz
    · omega
    · have := hm z hz
      omega
  | .non :: r, _, _, h => nomatch h
  | .bl _ :: r, _, _, h => nomatch h
  | .str _ :: r, _, _, h => nomatch h
  | .lst _ :: r, _, _, h => nomatch h
  | .tup _ :: r, _, _, h => nomatch h
  | .dic _ _ :: r, _, _, h => nomatch h
  | .obj _ _ _ :: r, _, _, h => nomatch h
  | .dik _ _ :: r, _, _, h => nomatch h
  | .dit _ _ :: r, _, _, h => nomatch h
  | .cod _ :: r, _, _, h => nomatch h
theorem lot_ints : ∀ {ns : List Int} {a b : Int}, Asc a b ns → lotB a b (ns.map D.int) = true
  | [], _, _, _ => rfl
  | i :: r, a, b, h => by
    have p := List.pairwise_cons.mp h.1
    have m := h.2 i List.mem_cons_self
    have : lotB (i + 1) b (r.map D.int) = true := lot_ints ⟨p.2, fun z hz => by
      have := p.1 z hz
      have := h.2 z (List.mem_cons_of_mem _ hz)
      omega⟩
    show (decide (a ≤ i) && decide (i ≤ b - 1) && lotB (i + 1) b (r.map D.int)) = true
    rw [this, decide_eq_true m.1, decide_eq_true (by omega)]
    rfl
theorem isLot_of {b : Int} {d : D} (h : isLot b d = true) : ∃ ns, d = .tup (ns.map D.int) ∧ Asc 0 b ns := by
  cases d with
  | tup l =>
    obtain ⟨ns, rfl, a⟩ := lot_of (show lotB 0 b l = true from h)
    exact ⟨ns, rfl, a⟩
  | _ => cases h
theorem isLot_ints {b : Int} {ns : List Int} (h : Asc 0 b ns) : isLot b (.tup (ns.map D.int)) = true := lot_ints h
end FE
set_option Elab.async false
set_option linter.all false
set_option maxRecDepth 100000
set_option maxHeartbeats 4000000
/-! What hangs together by a lot of ties: labels, the lesser one kept. -/
namespace FE
open PySem
def mn (i j : Int) : Int := if j < i then j else i
def mx (i j : Int) : Int := if j > i then j else i
def relm (L : Int → Int) (p : Tie) : Int → Int := fun a => if L a = mx (L p.1) (L p.2) then mn (L p.1) (L p.2) else L a
theorem mx_le {i j : Int} (h : i ≤ j) : mx i j = j := by unfold mx; split <;> omega
theorem mn_le {i j : Int} (h : i ≤ j) : mn i j = i := by unfold mn; split <;> omega
theorem mx_gt {i j : Int} (h : j < i) : mx i j = i := by unfold mx; split <;> omega
theorem mn_gt {i j : Int} (h : j < i) : mn i j = j := by unfold mn; split <;> omega
theorem relm_in (i j z : Int) : (if z = mx i j then mn i j else z) = if decide (z ∈ [i, j]) = true then (if j < i then j else i) else z := by
  have e : (decide (z ∈ [i, j]) = true) ↔ (z = i ∨ z = j) := by simp
  by_cases c : z = i ∨ z = j
  · rw [if_pos (e.mpr c)]
    unfold mn mx
    split <;> split <;> (try split) <;> omega
  · rw [if_neg (fun h => c (e.mp h))]
    unfold mn mx
    split <;> (try split) <;> omega
theorem relm_ab (L : Int → Int) (p : Tie) : relm L p = relab L p ∨ relm L p = relab L (p.2, p.1) := by
  rcases Int.lt_or_le (L p.2) (L p.1) with h | h
  · right
    funext a
    unfold relm relab
    rw [mx_gt h, mn_gt h]
  · left
    funext a
    unfold relm relab
    rw [mx_le h, mn_le h]
theorem Conn.sub {ps qs : List Tie} (s : ∀ p ∈ ps, Conn qs p.1 p.2) {a b : Int} (h : Conn ps a b) : Conn qs a b := by
  induction h with
  | rel h => exact s _ h
  | refl a => exact .refl a
  | symm _ ih => exact ih.symm
  | trans _ _ ih1 ih2 => exact ih1.trans ih2
theorem Tells.same {L : Int → Int} {ps qs : List Tie} (h : Tells L ps) (s : ∀ p ∈ ps, Conn qs p.1 p.2) (t : ∀ p ∈ qs, Conn ps p.1 p.2) : Tells L qs := fun a b => (h a b).trans ⟨Conn.sub s, Conn.sub t⟩
theorem Tells.addm {L : Int → Int} {ps : List Tie} (h : Tells L ps) (p : Tie) : Tells (relm L p) (ps ++ [p]) := by
  rcases relm_ab L p with e | e
  · rw [e]; exact h.add p
  · rw [e]
    refine (h.add (p.2, p.1)).same (fun q hq => ?_) (fun q hq => ?_)
    · rcases List.mem_append.mp hq with hq | hq
      · exact .rel (List.mem_append_left _ hq)
      · have := List.mem_singleton.mp hq
        subst this
        exact (Conn.rel (List.mem_append_right _ List.mem_cons_self)).symm
    · rcases List.mem_append.mp hq with hq | hq
      · exact .rel (List.mem_append_left _ hq)
      · have := List.mem_singleton.mp hq
        subst this
        exact (Conn.rel (List.mem_append_right _ List.mem_cons_self)).symm
/-- the ties of a lot -/
def tiesAt (ps : List Tie) (ns : List Int) : List Tie := ns.map fun t => ps.getD t.toNat (0, 0)
def labs (ps : List Tie) (ns : List Int) : Int → Int := (tiesAt ps ns).foldl relm id
theorem tells_foldm : ∀ {ps qs : List Tie} {L : Int → Int}, Tells L qs → Tells (ps.foldl relm L) (qs ++ ps)
  | [], qs, L, h => by
    rw [List.append_nil]
    exact h
  | p :: r, qs, L, h => by
    have := tells_foldm (ps := r) (h.addm p)
    rw [List.append_assoc] at this
    exact this
theorem labs_tells (ps : List Tie) (ns : List Int) : Tells (labs ps ns) (tiesAt ps ns) := by
  have := tells_foldm (ps := tiesAt ps ns) Tells.nil
  rw [List.nil_append] at this
  exact this
/-- labels among the places -/
def InR (n : Int) (L : Int → Int) : Prop := ∀ a, 0 ≤ a → a < n → 0 ≤ L a ∧ L a < n
theorem InR.relm {n : Int} {L : Int → Int} (h : InR n L) {p : Tie} (hp : 0 ≤ p.1 ∧ p.1 ≤ p.2 ∧ p.2 < n) : InR n (relm L p) := fun a h0 h1 => by
  have a1 := h a h0 h1
  have a2 := h p.1 hp.1 (by omega)
  have a3 := h p.2 (by omega) hp.2.2
  unfold FE.relm mn
  split
  · split <;> assumption
  · exact a1
theorem InR.fold {n : Int} : ∀ {ps : List Tie} {L : Int → Int}, InR n L → (∀ p ∈ ps, 0 ≤ p.1 ∧ p.1 ≤ p.2 ∧ p.2 < n) → InR n (ps.foldl FE.relm L)
  | [], _, h, _ => h
  | p :: r, L, h, hp => InR.fold (ps := r) (h.relm (hp p List.mem_cons_self)) fun q hq => hp q (List.mem_cons_of_mem _ hq)
section
variable {n : Int} {ps : List Tie} {ns : List Int}
theorem tie_at (ns : List Int) {t : Int} (h0 : 0 ≤ t) (h1 : t < ps.length) : ps.getD t.toNat (0, 0) ∈ ps ∧ ps[t.toNat]? = some (ps.getD t.toNat (0, 0)) := by
  have lt : t.toNat < ps.length := by omega
  have e : ps.getD t.toNat (0, 0) = ps[t.toNat] := by simp [List.getD, lt]
  rw [e]
  exact ⟨List.getElem_mem lt, List.getElem?_eq_getElem lt⟩
theorem tiesAt_ok (h : Ok n ps) (a : Asc 0 ps.length ns) : ∀ p ∈ tiesAt ps ns, 0 ≤ p.1 ∧ p.1 ≤ p.2 ∧ p.2 < n := fun p hp => by
  obtain ⟨t, ht, rfl⟩ := List.mem_map.mp hp
  have := a.2 t ht
  exact h.ties _ (tie_at ns this.1 this.2).1
theorem labs_in (h : Ok n ps) (a : Asc 0 ps.length ns) : InR n (labs ps ns) := InR.fold (fun a h0 h1 => ⟨h0, h1⟩) (tiesAt_ok h a)
/-- the places with a label; the labels that there are; the parts -/
def cls (n : Int) (L : Int → Int) (m : Int) : List Int := (rg 0 n).filter fun a => decide (L a = m)
def hds (n : Int) (L : Int → Int) : List Int := (rg 0 n).filter fun m => !(cls n L m).isEmpty
def partI (n : Int) (L : Int → Int) : List (List Int) := (hds n L).map (cls n L)
def partD (n : Int) (L : Int → Int) : List D := (partI n L).map encT
theorem mem_cls {L : Int → Int} {m a : Int} : a ∈ cls n L m ↔ (0 ≤ a ∧ a < n) ∧ L a = m := by
  unfold cls
  rw [List.mem_filter, mem_rg, decide_eq_true_eq]
theorem mem_hds {L : Int → Int} {m : Int} : m ∈ hds n L ↔ (0 ≤ m ∧ m < n) ∧ ∃ a, (0 ≤ a ∧ a < n) ∧ L a = m := by
  unfold hds
  rw [List.mem_filter, mem_rg]
  refine and_congr_right fun _ => ?_
  cases e : cls n L m with
  | nil =>
    refine ⟨(fun z => nomatch z), fun ⟨a, h⟩ => ?_⟩
    have := mem_cls.mpr h
    rw [e] at this
    cases this
  | cons a r => exact ⟨fun _ => ⟨a, mem_cls.mp (by rw [e]; exact List.mem_cons_self)⟩, fun _ => rfl⟩
theorem hds_asc (n : Int) (L : Int → Int) : (hds n L).Pairwise (· < ·) := (rg_sorted 0 n).filter _
theorem hds_unl {L : Int → Int} (h : InR n L) : Unl ((rg 0 n).map L) (hds n L) := ⟨(hds_asc n L).imp fun h => by omega, fun z => by
  rw [mem_hds, List.mem_map]
  constructor
  · rintro ⟨_, a, ha, e⟩
    exact ⟨a, mem_rg.mpr ha, e⟩
  · rintro ⟨a, ha, rfl⟩
    have := mem_rg.mp ha
    exact ⟨h a this.1 this.2, a, this, rfl⟩⟩
/-- as many parts where the same hangs together -/
theorem hds_len {L M : Int → Int} {qs rs : List Tie} (hL : Tells L qs) (hM : Tells M rs) (iL : InR n L) (iM : InR n M) (e : ∀ a b, Conn qs a b ↔ Conn rs a b) : (hds n L).length = (hds n M).length :=
  ker_len (hds_unl iL) (hds_unl iM) fun a _ b _ => (hL a b).trans ((e a b).trans (hM a b).symm)
theorem relm_self {L : Int → Int} {p : Tie} (e : L p.1 = L p.2) : relm L p = L := by
  funext a
  unfold relm
  rw [e, mx_le (Int.le_refl _), mn_le (Int.le_refl _)]
  split
  · next h => exact h.symm
  · rfl
/-- a part less -/
theorem hds_less {L : Int → Int} {p : Tie} (iL : InR n L) (hp : 0 ≤ p.1 ∧ p.1 ≤ p.2 ∧ p.2 < n) (ne : L p.1 ≠ L p.2) : (hds n (relm L p)).length + 1 = (hds n L).length := by
  have u1 := hds_unl iL
  have u2 := hds_unl (iL.relm hp)
  have g : mx (L p.1) (L p.2) ∈ hds n L := by
    rw [u1.mem, List.mem_map]
    unfold mx
    split
    · exact ⟨p.2, mem_rg.mpr (by omega), rfl⟩
    · exact ⟨p.1, mem_rg.mpr (by omega), rfl⟩
  have mg : mn (L p.1) (L p.2) ≠ mx (L p.1) (L p.2) := by
    unfold mn mx
    split <;> split <;> omega
  have e : hds n (relm L p) = (hds n L).erase (mx (L p.1) (L p.2)) := by
    refine asc_ext (hds_asc _ _) ((hds_asc n L).erase _) fun z => ?_
    rw [u1.nodup.mem_erase_iff, u2.mem, u1.mem, List.mem_map, List.mem_map]
    constructor
    · rintro ⟨a, ha, rfl⟩
      unfold relm
      split
      · refine ⟨mg, ?_⟩
        unfold mn
        split
        · exact ⟨p.2, mem_rg.mpr (by omega), rfl⟩
        · exact ⟨p.1, mem_rg.mpr (by omega), rfl⟩
      · next h => exact ⟨h, a, ha, rfl⟩
    · rintro ⟨h, a, ha, rfl⟩
      exact ⟨a, ha, by unfold relm; rw [if_neg h]⟩
  rw [e, List.length_erase_of_mem g]
  have := List.length_pos_of_mem g
  omega
end
/-! ### the ties of a lot and one more -/
theorem sort_mem {ns ms : List Int} {t : Int} {N : Int} (a : Asc 0 N ns) (ht : 0 ≤ t ∧ t < N) (hn : t ∉ ns) (pm : ms.Perm (ns ++ [t])) (so : ms.Pairwise (· ≤ ·)) : Asc 0 N ms := by
  have nd : ms.Nodup := pm.nodup_iff.mpr (by
    rw [List.nodup_append]
    refine ⟨a.1.imp fun h => by omega, by simp, fun x hx y hy e => hn ?_⟩
    rw [List.mem_singleton] at hy
    rw [← hy, ← e]
    exact hx)
  refine ⟨?_, fun z hz => ?_⟩
  · have := List.Pairwise.and so (List.nodup_iff_pairwise_ne.mp nd)
    exact this.imp fun h => by omega
  · rcases List.mem_append.mp (pm.mem_iff.mp hz) with h | h
    · exact a.2 z h
    · rw [List.mem_singleton.mp h]; exact ht
/-- a tie more makes one of two parts, or leaves them -/
theorem rank_more {n : Int} {ps : List Tie} {ns ms : List Int} {t : Int} (h : Ok n ps) (a : Asc 0 ps.length ns) (ht : 0 ≤ t ∧ t < ps.length) (hn : t ∉ ns) (pm : ms.Perm (ns ++ [t])) (so : ms.Pairwise (· ≤ ·)) (L : Int → Int) (hL : L = labs ps ns) (p : Tie) (hp : p = ps.getD t.toNat (0, 0)) :
    ((hds n (labs ps ms)).length : Int) = (hds n L).length - (if L p.1 = L p.2 then 0 else 1) := by
  have am := sort_mem a ht hn pm so
  have hp1 := h.ties _ (tie_at ns ht.1 ht.2).1
  rw [← hp] at hp1
  have iL := labs_in h a
  have tL := labs_tells ps ns
  rw [← hL] at iL tL
  have e : (hds n (labs ps ms)).length = (hds n (relm L p)).length := by
    refine hds_len (labs_tells ps ms) (tL.addm p) (labs_in h am) (iL.relm hp1) fun x y => ?_
    have mm : ∀ q, q ∈ tiesAt ps ms ↔ q ∈ tiesAt ps ns ++ [p] := fun q => by
      unfold tiesAt
      rw [List.mem_append, List.mem_map, List.mem_map, List.mem_singleton, hp]
      constructor
      · rintro ⟨z, hz, e⟩
        rcases List.mem_append.mp (pm.mem_iff.mp hz) with m | m
        · exact .inl ⟨z, m, e⟩
        · rw [List.mem_singleton.mp m] at e
          exact .inr e.symm
      · rintro (⟨z, hz, e⟩ | e)
        · exact ⟨z, pm.mem_iff.mpr (List.mem_append_left _ hz), e⟩
        · exact ⟨t, pm.mem_iff.mpr (List.mem_append_right _ List.mem_cons_self), e.symm⟩
    exact ⟨Conn.mono fun q hq => (mm q).mp hq, Conn.mono fun q hq => (mm q).mpr hq⟩
  rw [e]
  by_cases c : L p.1 = L p.2
  · rw [if_pos c, relm_self c]
    omega
  · rw [if_neg c]
    have := hds_less iL hp1 c
    omega
/-- whether both ends lie in one part -/
theorem in_part {n : Int} {L : Int → Int} (iL : InR n L) {u v : Int} (hu : 0 ≤ u ∧ u < n) (hv : 0 ≤ v ∧ v < n) : ((partI n L).any fun c => decide (u ∈ c) && decide (v ∈ c)) = decide (L u = L v) := by
  by_cases e : L u = L v
  · rw [decide_eq_true e, List.any_eq_true]
    refine ⟨cls n L (L u), List.mem_map.mpr ⟨L u, mem_hds.mpr ⟨iL u hu.1 hu.2, u, hu, rfl⟩, rfl⟩, ?_⟩
    rw [decide_eq_true (mem_cls.mpr ⟨hu, rfl⟩), decide_eq_true (mem_cls.mpr ⟨hv, e.symm⟩)]
    rfl
  · rw [decide_eq_false e, List.any_eq_false]
    intro c hc z
    obtain ⟨m, _, rfl⟩ := List.mem_map.mp hc
    rw [Bool.and_eq_true, decide_eq_true_eq, decide_eq_true_eq] at z
    exact e ((mem_cls.mp z.1).2.trans (mem_cls.mp z.2).2.symm)
end FE
set_option Elab.async false
set_option linter.all false
set_option maxRecDepth 100000
set_option maxHeartbeats 4000000
/-! The text by places, what its top has written. -/
namespace K04
open PySem L2
def top (i : Nat) : Stmt := PySem.Challenge.pw_takenjoined_k04_whole_parts_and_ranks.main.body.getD i (.Pass ⟨0, 0, 0, 0⟩)
abbrev s_BadwebI : Stmt := inClass (top 2) 0
abbrev N_BadwebI : List Str := ["self", "part"]
theorem sc_BadwebI : FnScope N_BadwebI ["self", "part"] (defScope s_BadwebI) := ⟨rfl, rfl, rfl, by decide +kernel, rfl, by decide +kernel, by decide +kernel⟩
abbrev s_NoTies___init__ : Stmt := inClass (top 3) 0
abbrev N_NoTies___init__ : List Str := ["self"]
theorem sc_NoTies___init__ : FnScope N_NoTies___init__ ["self"] (defScope s_NoTies___init__) := ⟨rfl, rfl, rfl, by decide +kernel, rfl, by decide +kernel, by decide +kernel⟩
abbrev s_is_integer : Stmt := top 5
abbrev N_is_integer : List Str := ["thing"]
theorem sc_is_integer : FnScope N_is_integer ["thing"] (defScope s_is_integer) := ⟨rfl, rfl, rfl, by decide +kernel, rfl, by decide +kernel, by decide +kernel⟩
abbrev s_is_between : Stmt := top 6
abbrev N_is_between : List Str := ["thing", "least", "most"]
theorem sc_is_between : FnScope N_is_between ["thing", "least", "most"] (defScope s_is_between) := ⟨rfl, rfl, rfl, by decide +kernel, rfl, by decide +kernel, by decide +kernel⟩
abbrev s_is_below : Stmt := top 7
abbrev N_is_below : List Str := ["thing", "bound"]
theorem sc_is_below : FnScope N_is_below ["thing", "bound"] (defScope s_is_below) := ⟨rfl, rfl, rfl, by decide +kernel, rfl, by decide +kernel, by decide +kernel⟩
abbrev s_is_pair : Stmt := top 8
abbrev N_is_pair : List Str := ["thing"]
theorem sc_is_pair : FnScope N_is_pair ["thing"] (defScope s_is_pair) := ⟨rfl, rfl, rfl, by decide +kernel, rfl, by decide +kernel, by decide +kernel⟩
abbrev s_is_lot : Stmt := top 9
abbrev N_is_lot : List Str := ["thing", "bound", "least", "number"]
theorem sc_is_lot : FnScope N_is_lot ["thing", "bound"] (defScope s_is_lot) := ⟨rfl, rfl, rfl, by decide +kernel, rfl, by decide +kernel, by decide +kernel⟩
abbrev s_parts : Stmt := top 11
abbrev N_parts : List Str := ["web", "lot", "marks", "tie", "u", "v", "kept", "gone", "lots", "mark", "places"]
theorem sc_parts : FnScope N_parts ["web", "lot"] (defScope s_parts) := ⟨rfl, rfl, rfl, by decide +kernel, rfl, by decide +kernel, by decide +kernel⟩
abbrev s_marked : Stmt := top 12
abbrev N_marked : List Str := ["marks", "mark", "place", "own"]
theorem sc_marked : FnScope N_marked ["marks", "mark"] (defScope s_marked) := ⟨rfl, rfl, rfl, by decide +kernel, rfl, by decide +kernel, by decide +kernel⟩
abbrev s_rank : Stmt := top 13
abbrev N_rank : List Str := ["web", "lot"]
theorem sc_rank : FnScope N_rank ["web", "lot"] (defScope s_rank) := ⟨rfl, rfl, rfl, by decide +kernel, rfl, by decide +kernel, by decide +kernel⟩
abbrev s_webI : Stmt := inClass (top 17) 0
abbrev N_webI : List Str := ["self", "many", "ties", "number", "tie"]
theorem sc_webI : FnScope N_webI ["self", "many", "ties"] (defScope s_webI) := ⟨rfl, rfl, rfl, by decide +kernel, rfl, by decide +kernel, by decide +kernel⟩
abbrev s_is_tie : Stmt := top 18
abbrev N_is_tie : List Str := ["thing", "many"]
theorem sc_is_tie : FnScope N_is_tie ["thing", "many"] (defScope s_is_tie) := ⟨rfl, rfl, rfl, by decide +kernel, rfl, by decide +kernel, by decide +kernel⟩
abbrev s_l_hand : Stmt := top 20
abbrev N_l_hand : List Str := ["script", "cells", "cell"]
theorem sc_l_hand : FnScope N_l_hand ["script"] (defScope s_l_hand) := ⟨rfl, rfl, rfl, by decide +kernel, rfl, by decide +kernel, by decide +kernel⟩
abbrev s_l_draw : Stmt := top 21
abbrev N_l_draw : List Str := ["hand", "many", "cell", "figure", "number"]
theorem sc_l_draw : FnScope N_l_draw ["hand", "many"] (defScope s_l_draw) := ⟨rfl, rfl, rfl, by decide +kernel, rfl, by decide +kernel, by decide +kernel⟩
abbrev s_l_some : Stmt := top 22
abbrev N_l_some : List Str := ["hand", "things"]
theorem sc_l_some : FnScope N_l_some ["hand", "things"] (defScope s_l_some) := ⟨rfl, rfl, rfl, by decide +kernel, rfl, by decide +kernel, by decide +kernel⟩
abbrev s_l_pair : Stmt := top 23
abbrev N_l_pair : List Str := ["one", "other"]
theorem sc_l_pair : FnScope N_l_pair ["one", "other"] (defScope s_l_pair) := ⟨rfl, rfl, rfl, by decide +kernel, rfl, by decide +kernel, by decide +kernel⟩
abbrev s_l_ties : Stmt := top 24
abbrev N_l_ties : List Str := ["hand", "many", "kind", "found", "few", "turn", "one", "order", "at", "to", "place"]
theorem sc_l_ties : FnScope N_l_ties ["hand", "many", "kind"] (defScope s_l_ties) := ⟨rfl, rfl, rfl, by decide +kernel, rfl, by decide +kernel, by decide +kernel⟩
abbrev s_l_parts : Stmt := top 25
abbrev N_l_parts : List Str := ["many", "ties", "lot", "heads", "tie", "one", "other", "head", "place"]
theorem sc_l_parts : FnScope N_l_parts ["many", "ties", "lot"] (defScope s_l_parts) := ⟨rfl, rfl, rfl, by decide +kernel, rfl, by decide +kernel, by decide +kernel⟩
abbrev s_l_is : Stmt := top 26
abbrev N_l_is : List Str := ["told", "due", "one", "two"]
theorem sc_l_is : FnScope N_l_is ["told", "due"] (defScope s_l_is) := ⟨rfl, rfl, rfl, by decide +kernel, rfl, by decide +kernel, by decide +kernel⟩
abbrev s_l_lot : Stmt := top 27
abbrev N_l_lot : List Str := ["hand", "many", "share", "at"]
theorem sc_l_lot : FnScope N_l_lot ["hand", "many"] (defScope s_l_lot) := ⟨rfl, rfl, rfl, by decide +kernel, rfl, by decide +kernel, by decide +kernel⟩
abbrev s_l_deep : Stmt := top 28
abbrev N_l_deep : List Str := ["hand", "found", "turn"]
theorem sc_l_deep : FnScope N_l_deep ["hand"] (defScope s_l_deep) := ⟨rfl, rfl, rfl, by decide +kernel, rfl, by decide +kernel, by decide +kernel⟩
abbrev s_l_odd_lot : Stmt := top 29
abbrev N_l_odd_lot : List Str := ["hand", "lot", "many", "at", "some", "flags", "one"]
theorem sc_l_odd_lot : FnScope N_l_odd_lot ["hand", "lot", "many"] (defScope s_l_odd_lot) := ⟨rfl, rfl, rfl, by decide +kernel, rfl, by decide +kernel, by decide +kernel⟩
abbrev s_l_is_lot : Stmt := top 30
abbrev N_l_is_lot : List Str := ["thing", "many", "ahead", "one"]
theorem sc_l_is_lot : FnScope N_l_is_lot ["thing", "many"] (defScope s_l_is_lot) := ⟨rfl, rfl, rfl, by decide +kernel, rfl, by decide +kernel, by decide +kernel⟩
abbrev s_l_word : Stmt := top 31
abbrev N_l_word : List Str := ["call", "error"]
theorem sc_l_word : FnScope N_l_word ["call"] (defScope s_l_word) := ⟨rfl, rfl, rfl, by decide +kernel, rfl, by decide +kernel, by decide +kernel⟩
abbrev s_l_one_right : Stmt := top 32
abbrev N_l_one_right : List Str := ["web", "many", "ties", "lot", "due", "told"]
theorem sc_l_one_right : FnScope N_l_one_right ["web", "many", "ties", "lot"] (defScope s_l_one_right) := ⟨rfl, rfl, rfl, by decide +kernel, rfl, by decide +kernel, by decide +kernel⟩
abbrev s_l_web_right : Stmt := top 33
abbrev N_l_web_right : List Str := ["hand", "many", "ties", "lot", "own", "tie", "one", "other", "risen", "due", "words", "odd", "web", "turn", "part"]
theorem sc_l_web_right : FnScope N_l_web_right ["hand"] (defScope s_l_web_right) := ⟨rfl, rfl, rfl, by decide +kernel, rfl, by decide +kernel, by decide +kernel⟩
abbrev s_law : Stmt := top 34
abbrev N_law : List Str := ["script", "hand", "turn"]
theorem sc_law : FnScope N_law ["script"] (defScope s_law) := ⟨rfl, rfl, rfl, by decide +kernel, rfl, by decide +kernel, by decide +kernel⟩
/-- what the top has written -/
structure Tx (K : PySem.W.Frag) (mg : Str → Option Value) where
  f_BadwebI : Addr
  d_BadwebI : FuncData
  F_BadwebI : Fun K "__init__" "BadWeb.__init__" s_BadwebI f_BadwebI d_BadwebI
  b_BadwebI : Binds K d_BadwebI ["self", "part"] []
  f_NoTies___init__ : Addr
  d_NoTies___init__ : FuncData
  F_NoTies___init__ : Fun K "__init__" "NoTies.__init__" s_NoTies___init__ f_NoTies___init__ d_NoTies___init__
  b_NoTies___init__ : Binds K d_NoTies___init__ ["self"] []
  f_is_integer : Addr
  d_is_integer : FuncData
  F_is_integer : Fun K "is_integer" "is_integer" s_is_integer f_is_integer d_is_integer
  b_is_integer : Binds K d_is_integer ["thing"] []
  m_is_integer : mg "is_integer" = some (.ref f_is_integer)
  f_is_between : Addr
  d_is_between : FuncData
  F_is_between : Fun K "is_between" "is_between" s_is_between f_is_between d_is_between
  b_is_between : Binds K d_is_between ["thing", "least", "most"] []
  m_is_between : mg "is_between" = some (.ref f_is_between)
  f_is_below : Addr
  d_is_below : FuncData
  F_is_below : Fun K "is_below" "is_below" s_is_below f_is_below d_is_below
  b_is_below : Binds K d_is_below ["thing", "bound"] []
  m_is_below : mg "is_below" = some (.ref f_is_below)
  f_is_pair : Addr
  d_is_pair : FuncData
  F_is_pair : Fun K "is_pair" "is_pair" s_is_pair f_is_pair d_is_pair
  b_is_pair : Binds K d_is_pair ["thing"] []
  m_is_pair : mg "is_pair" = some (.ref f_is_pair)
  f_is_lot : Addr
  d_is_lot : FuncData
  F_is_lot : Fun K "is_lot" "is_lot" s_is_lot f_is_lot d_is_lot
  b_is_lot : Binds K d_is_lot ["thing", "bound"] []
  m_is_lot : mg "is_lot" = some (.ref f_is_lot)
  f_parts : Addr
  d_parts : FuncData
  F_parts : Fun K "parts" "parts" s_parts f_parts d_parts
  b_parts : Binds K d_parts ["web", "lot"] []
  m_parts : mg "parts" = some (.ref f_parts)
  f_marked : Addr
  d_marked : FuncData
  F_marked : Fun K "_marked" "_marked" s_marked f_marked d_marked
  b_marked : Binds K d_marked ["marks", "mark"] []
  m_marked : mg "_marked" = some (.ref f_marked)
  f_rank : Addr
  d_rank : FuncData
  F_rank : Fun K "rank" "rank" s_rank f_rank d_rank
  b_rank : Binds K d_rank ["web", "lot"] []
  m_rank : mg "rank" = some (.ref f_rank)
  f_webI : Addr
  d_webI : FuncData
  F_webI : Fun K "__init__" "Web.__init__" s_webI f_webI d_webI
  b_webI : Binds K d_webI ["self", "many", "ties"] []
  f_is_tie : Addr
  d_is_tie : FuncData
  F_is_tie : Fun K "_is_tie" "_is_tie" s_is_tie f_is_tie d_is_tie
  b_is_tie : Binds K d_is_tie ["thing", "many"] []
  m_is_tie : mg "_is_tie" = some (.ref f_is_tie)
  f_l_hand : Addr
  d_l_hand : FuncData
  F_l_hand : Fun K "_law_hand" "_law_hand" s_l_hand f_l_hand d_l_hand
  b_l_hand : Binds K d_l_hand ["script"] []
  m_l_hand : mg "_law_hand" = some (.ref f_l_hand)
  f_l_draw : Addr
  d_l_draw : FuncData
  F_l_draw : Fun K "_law_draw" "_law_draw" s_l_draw f_l_draw d_l_draw
  b_l_draw : Binds K d_l_draw ["hand", "many"] []
  m_l_draw : mg "_law_draw" = some (.ref f_l_draw)
  f_l_some : Addr
  d_l_some : FuncData
  F_l_some : Fun K "_law_some" "_law_some" s_l_some f_l_some d_l_some
  b_l_some : Binds K d_l_some ["hand", "things"] []
  m_l_some : mg "_law_some" = some (.ref f_l_some)
  f_l_pair : Addr
  d_l_pair : FuncData
  F_l_pair : Fun K "_law_pair" "_law_pair" s_l_pair f_l_pair d_l_pair
  b_l_pair : Binds K d_l_pair ["one", "other"] []
  m_l_pair : mg "_law_pair" = some (.ref f_l_pair)
  f_l_ties : Addr
  d_l_ties : FuncData
  F_l_ties : Fun K "_law_ties" "_law_ties" s_l_ties f_l_ties d_l_ties
  b_l_ties : Binds K d_l_ties ["hand", "many", "kind"] []
  m_l_ties : mg "_law_ties" = some (.ref f_l_ties)
  f_l_parts : Addr
  d_l_parts : FuncData
  F_l_parts : Fun K "_law_parts" "_law_parts" s_l_parts f_l_parts d_l_parts
  b_l_parts : Binds K d_l_parts ["many", "ties", "lot"] []
  m_l_parts : mg "_law_parts" = some (.ref f_l_parts)
  f_l_is : Addr
  d_l_is : FuncData
  F_l_is : Fun K "_law_is" "_law_is" s_l_is f_l_is d_l_is
  b_l_is : Binds K d_l_is ["told", "due"] []
  m_l_is : mg "_law_is" = some (.ref f_l_is)
  f_l_lot : Addr
  d_l_lot : FuncData
  F_l_lot : Fun K "_law_lot" "_law_lot" s_l_lot f_l_lot d_l_lot
  b_l_lot : Binds K d_l_lot ["hand", "many"] []
  m_l_lot : mg "_law_lot" = some (.ref f_l_lot)
  f_l_deep : Addr
  d_l_deep : FuncData
  F_l_deep : Fun K "_law_deep" "_law_deep" s_l_deep f_l_deep d_l_deep
  b_l_deep : Binds K d_l_deep ["hand"] []
  m_l_deep : mg "_law_deep" = some (.ref f_l_deep)
  f_l_odd_lot : Addr
  d_l_odd_lot : FuncData
  F_l_odd_lot : Fun K "_law_odd_lot" "_law_odd_lot" s_l_odd_lot f_l_odd_lot d_l_odd_lot
  b_l_odd_lot : Binds K d_l_odd_lot ["hand", "lot", "many"] []
  m_l_odd_lot : mg "_law_odd_lot" = some (.ref f_l_odd_lot)
  f_l_is_lot : Addr
  d_l_is_lot : FuncData
  F_l_is_lot : Fun K "_law_is_lot" "_law_is_lot" s_l_is_lot f_l_is_lot d_l_is_lot
  b_l_is_lot : Binds K d_l_is_lot ["thing", "many"] []
  m_l_is_lot : mg "_law_is_lot" = some (.ref f_l_is_lot)
  f_l_word : Addr
  d_l_word : FuncData
  F_l_word : Fun K "_law_word" "_law_word" s_l_word f_l_word d_l_word
  b_l_word : Binds K d_l_word ["call"] []
  m_l_word : mg "_law_word" = some (.ref f_l_word)
  f_l_one_right : Addr
  d_l_one_right : FuncData
  F_l_one_right : Fun K "_law_one_right" "_law_one_right" s_l_one_right f_l_one_right d_l_one_right
  b_l_one_right : Binds K d_l_one_right ["web", "many", "ties", "lot"] []
  m_l_one_right : mg "_law_one_right" = some (.ref f_l_one_right)
  f_l_web_right : Addr
  d_l_web_right : FuncData
  F_l_web_right : Fun K "_law_web_right" "_law_web_right" s_l_web_right f_l_web_right d_l_web_right
  b_l_web_right : Binds K d_l_web_right ["hand"] []
  m_l_web_right : mg "_law_web_right" = some (.ref f_l_web_right)
  f_law : Addr
  d_law : FuncData
  F_law : Fun K "law" "law" s_law f_law d_law
  b_law : Binds K d_law ["script"] []
  m_law : mg "law" = some (.ref f_law)
  c_l_web_right : Addr
  P_l_web_right : Addr
  cc_l_web_right : d_l_web_right.code = .ref c_l_web_right
  ot_BadWeb : PySem.W.typeIn K (.ref f_BadwebI) = some (.type "function")
  ot_NoTies : PySem.W.typeIn K (.ref f_NoTies___init__) = some (.type "function")
  ia : PySem.W.specialIn K (.builtin "object.__class__") "__get__" = some (some (.builtin "getset_descriptor.__get__"))
  ib : PySem.W.takesIn K (.builtin "object.__class__") = some true
  t_MOST_PLACES : Tok
  m_MOST_PLACES : mg "MOST_PLACES" = some (.int 10 t_MOST_PLACES)
  t_MOST_TIES : Tok
  m_MOST_TIES : mg "MOST_TIES" = some (.int 16 t_MOST_TIES)
  g_ValueError : mg "ValueError" = none
  g_abs : mg "abs" = none
  g_all : mg "all" = none
  g_any : mg "any" = none
  g_bool : mg "bool" = none
  g_enumerate : mg "enumerate" = none
  g_int : mg "int" = none
  g_isinstance : mg "isinstance" = none
  g_len : mg "len" = none
  g_list : mg "list" = none
  g_max : mg "max" = none
  g_min : mg "min" = none
  g_range : mg "range" = none
  g_set : mg "set" = none
  g_sorted : mg "sorted" = none
  g_tuple : mg "tuple" = none
  g_zip : mg "zip" = none
/-- what is known of the classes -/
structure TX {K : PySem.W.Frag} {mg : Str → Option Value} (T : Tx K mg) (cm : FE.Cm) : Prop where
  cls : cm.cls = (["Web"] : List Str)
  exs : cm.exs = (["PaintError", "BadWeb", "NoTies"] : List Str)
  mm_Web : mg "Web" = some (.ref (cm.ad "Web"))
  em_PaintError : mg "PaintError" = some (.ref (cm.ad "PaintError"))
  em_BadWeb : mg "BadWeb" = some (.ref (cm.ad "BadWeb"))
  em_NoTies : mg "NoTies" = some (.ref (cm.ad "NoTies"))
  cl_Web : Cls K (cm.ad "Web")
  mk_Web : Mk K (cm.ad "Web") T.f_webI
  ic_Web : PySem.W.findIn K (.ref (cm.ad "Web")) "__class__" = some (some (.builtin "object.__class__"))
  im_Web : PySem.W.mroIn K (cm.ad "Web") (.type "object") = some true
  no_Web_many : NoAttr K (cm.ad "Web") "many"
  no_Web_ties : NoAttr K (cm.ad "Web") "ties"
  ox_BadWeb : OexC K (cm.ad "BadWeb")
  oi_BadWeb : PySem.W.findIn K (.ref (cm.ad "BadWeb")) "__init__" = some (some (.ref T.f_BadwebI))
  xc_BadWeb : ExcC K (cm.ad "BadWeb")
  nf_BadWeb : PySem.W.findIn K (.ref (cm.ad "BadWeb")) "part" = some none
  ox_NoTies : OexC K (cm.ad "NoTies")
  oi_NoTies : PySem.W.findIn K (.ref (cm.ad "NoTies")) "__init__" = some (some (.ref T.f_NoTies___init__))
  xc_NoTies : ExcC K (cm.ad "NoTies")
  kw_Web_int : PySem.W.kitOne K (.ref (cm.ad "Web")) (.type "int") = some false
  kw_Web_bool : PySem.W.kitOne K (.ref (cm.ad "Web")) (.type "bool") = some false
  kw_Web_str : PySem.W.kitOne K (.ref (cm.ad "Web")) (.type "str") = some false
  kw_Web_tuple : PySem.W.kitOne K (.ref (cm.ad "Web")) (.type "tuple") = some false
  kw_Web_list : PySem.W.kitOne K (.ref (cm.ad "Web")) (.type "list") = some false
  kw_Web_dict : PySem.W.kitOne K (.ref (cm.ad "Web")) (.type "dict") = some false
  ko_Web_Web : PySem.W.kitOne K (.ref (cm.ad "Web")) (.ref (cm.ad "Web")) = some true
  kf_Web_NoneType : PySem.W.kitOne K (.type "NoneType") (.ref (cm.ad "Web")) = some false
  kf_Web_int : PySem.W.kitOne K (.type "int") (.ref (cm.ad "Web")) = some false
  kf_Web_bool : PySem.W.kitOne K (.type "bool") (.ref (cm.ad "Web")) = some false
  kf_Web_str : PySem.W.kitOne K (.type "str") (.ref (cm.ad "Web")) = some false
  kf_Web_tuple : PySem.W.kitOne K (.type "tuple") (.ref (cm.ad "Web")) = some false
  kf_Web_list : PySem.W.kitOne K (.type "list") (.ref (cm.ad "Web")) = some false
  kf_Web_dict : PySem.W.kitOne K (.type "dict") (.ref (cm.ad "Web")) = some false
  kf_Web_function : PySem.W.kitOne K (.type "function") (.ref (cm.ad "Web")) = some false
  kv_BadWeb : PySem.W.kitOne K (.ref (cm.ad "BadWeb")) (.type "ValueError") = some true
  ki_BadWeb_PaintError : PySem.W.kitOne K (.ref (cm.ad "BadWeb")) (.ref (cm.ad "PaintError")) = some true
  xm_BadWeb_PaintError : PySem.W.exmOne K (.ref (cm.ad "BadWeb")) (.ref (cm.ad "PaintError")) = some true
  ki_BadWeb_BadWeb : PySem.W.kitOne K (.ref (cm.ad "BadWeb")) (.ref (cm.ad "BadWeb")) = some true
  xm_BadWeb_BadWeb : PySem.W.exmOne K (.ref (cm.ad "BadWeb")) (.ref (cm.ad "BadWeb")) = some true
  ki_BadWeb_NoTies : PySem.W.kitOne K (.ref (cm.ad "BadWeb")) (.ref (cm.ad "NoTies")) = some false
  xm_BadWeb_NoTies : PySem.W.exmOne K (.ref (cm.ad "BadWeb")) (.ref (cm.ad "NoTies")) = some false
  kv_NoTies : PySem.W.kitOne K (.ref (cm.ad "NoTies")) (.type "ValueError") = some true
  ki_NoTies_PaintError : PySem.W.kitOne K (.ref (cm.ad "NoTies")) (.ref (cm.ad "PaintError")) = some true
  xm_NoTies_PaintError : PySem.W.exmOne K (.ref (cm.ad "NoTies")) (.ref (cm.ad "PaintError")) = some true
  ki_NoTies_BadWeb : PySem.W.kitOne K (.ref (cm.ad "NoTies")) (.ref (cm.ad "BadWeb")) = some false
  xm_NoTies_BadWeb : PySem.W.exmOne K (.ref (cm.ad "NoTies")) (.ref (cm.ad "BadWeb")) = some false
  ki_NoTies_NoTies : PySem.W.kitOne K (.ref (cm.ad "NoTies")) (.ref (cm.ad "NoTies")) = some true
  xm_NoTies_NoTies : PySem.W.exmOne K (.ref (cm.ad "NoTies")) (.ref (cm.ad "NoTies")) = some true
  tm_l_web_right : (T.P_l_web_right, (("_law_web_right" ++ ".<locals>.") ++ "<lambda>" : Str)) ∈ cm.tb
  to_l_web_right : ∀ p ∈ cm.tb, p.1 = T.P_l_web_right → p.2 = (("_law_web_right" ++ ".<locals>.") ++ "<lambda>" : Str)
/-- the code of the makers of lambdas, in the heap that is not tracked -/
structure TBs {K : PySem.W.Frag} {mg : Str → Option Value} (T : Tx K mg) (base : Heap) : Prop where
  tb_l_web_right : LamX.TabB base mg T.c_l_web_right T.P_l_web_right
section
variable {K : PySem.W.Frag} {mg : Str → Option Value} {T : Tx K mg} {cm : FE.Cm}
theorem TX.ein_PaintError (h : TX T cm) : ("PaintError" : Str) ∈ cm.exs := by
  rw [h.exs]
  simp
theorem TX.ein_BadWeb (h : TX T cm) : ("BadWeb" : Str) ∈ cm.exs := by
  rw [h.exs]
  simp
theorem TX.ein_NoTies (h : TX T cm) : ("NoTies" : Str) ∈ cm.exs := by
  rw [h.exs]
  simp
theorem TX.xf_BadWeb (h : TX T cm) : FE.XF K cm "BadWeb" := by
  refine ⟨h.xc_BadWeb, ⟨h.xc_BadWeb.hg, h.xc_BadWeb.hk, h.xc_BadWeb.hs, h.xc_BadWeb.hd⟩, h.kv_BadWeb, fun c' hc => ?_, fun c' hc => ?_⟩
  · rw [h.exs] at hc
    simp only [List.mem_cons, List.not_mem_nil, or_false] at hc
    rcases hc with rfl | rfl | rfl
    · exact h.ki_BadWeb_PaintError
    · exact h.ki_BadWeb_BadWeb
    · exact h.ki_BadWeb_NoTies
  · rw [h.exs] at hc
    simp only [List.mem_cons, List.not_mem_nil, or_false] at hc
    rcases hc with rfl | rfl | rfl
    · exact h.xm_BadWeb_PaintError
    · exact h.xm_BadWeb_BadWeb
    · exact h.xm_BadWeb_NoTies
theorem TX.xf_NoTies (h : TX T cm) : FE.XF K cm "NoTies" := by
  refine ⟨h.xc_NoTies, ⟨h.xc_NoTies.hg, h.xc_NoTies.hk, h.xc_NoTies.hs, h.xc_NoTies.hd⟩, h.kv_NoTies, fun c' hc => ?_, fun c' hc => ?_⟩
  · rw [h.exs] at hc
    simp only [List.mem_cons, List.not_mem_nil, or_false] at hc
    rcases hc with rfl | rfl | rfl
    · exact h.ki_NoTies_PaintError
    · exact h.ki_NoTies_BadWeb
    · exact h.ki_NoTies_NoTies
  · rw [h.exs] at hc
    simp only [List.mem_cons, List.not_mem_nil, or_false] at hc
    rcases hc with rfl | rfl | rfl
    · exact h.xm_NoTies_PaintError
    · exact h.xm_NoTies_BadWeb
    · exact h.xm_NoTies_NoTies
theorem TX.cf_Web (h : TX T cm) : FE.CF K cm "Web" := by
  refine ⟨h.cl_Web, h.ic_Web, T.ia, T.ib, h.im_Web, fun n hn => ?_, fun c' hc => ?_⟩
  · simp only [List.mem_cons, List.not_mem_nil, or_false] at hn
    rcases hn with rfl | rfl | rfl | rfl | rfl | rfl
    · exact h.kw_Web_int
    · exact h.kw_Web_bool
    · exact h.kw_Web_str
    · exact h.kw_Web_tuple
    · exact h.kw_Web_list
    · exact h.kw_Web_dict
  · rw [h.cls] at hc
    simp only [List.mem_cons, List.not_mem_nil, or_false] at hc
    subst hc
    · exact h.ko_Web_Web
theorem TX.ci_Web (h : TX T cm) : FE.CI K cm "Web" := by
  refine ⟨by rw [h.cls]; simp, fun n hn => ?_⟩
  simp only [List.mem_cons, List.not_mem_nil, or_false] at hn
  rcases hn with rfl | rfl | rfl | rfl | rfl | rfl | rfl | rfl
  · exact h.kf_Web_NoneType
  · exact h.kf_Web_int
  · exact h.kf_Web_bool
  · exact h.kf_Web_str
  · exact h.kf_Web_tuple
  · exact h.kf_Web_list
  · exact h.kf_Web_dict
  · exact h.kf_Web_function
end
end K04
set_option Elab.async false
set_option linter.all false
set_option maxRecDepth 100000
set_option maxHeartbeats 4000000
/-! Defs. -/
namespace K04
open PySem L2 FE PySem.Spec
section
variable {P : Program} {w : World} {K : PySem.W.Frag} {mg : Str → Option Value} {base : Heap} {T : Tx K mg} {cm : FE.Cm}
theorem okO_l_draw (T : Tx K mg) : FnOk P w K mg base CX0 1 T.f_l_draw T.d_l_draw ["hand", "many"] spDrawO := by
  refine T.F_l_draw.ok sc_l_draw (fun vs H Q E h => ?_) (fun cdv A outer s H vs Q E hr h => ?_)
  · obtain ⟨h, c, m, rfl, _⟩ := h
    rfl
  obtain ⟨h, c, many, rfl, m0, m1, ⟨cs, i, b, m, n, hh, hc, nch, i0, b0, z0⟩, q⟩ := h
  refine ⟨_, (Evl.pss_cut (ps_if (PW.pt (pw_and (pt_cmpR op_eq (pe_ix ix_list (pv 0) pe_int (fun _ _ => rfl)) pe_int (nomark _)) (pw_and1 (pt_cmpR op_lt (pe_ix ix_list (pv 0) pe_int (fun _ _ => rfl)) (pe_callB call_len_seq (by rfl) T.g_len PySem.boot_len (pa_cons (pe_ix ix_list (pv 0) pe_int (fun _ _ => rfl)) pa_nil)) (nomark _)))))
      (pss_cons (ps_set (i := 2) sc_l_draw.nd rfl (.inl rfl) (pe_ix ix_seq (pe_ix ix_list (pv 0) pe_int (fun _ _ => rfl)) (pe_ix ix_list (pv 0) pe_int (fun _ _ => rfl)) (fun _ _ => rfl)))
        (pss_cons (ps_asg (pe_op op_add (pe_ix ix_list (pv 0) pe_int (fun _ _ => rfl)) pe_int) (pg_sub (pv 0) pe_int set_list))
        (pss_cons (ps_asg (pe_op op_mod (pe_callTy call_int1 (by rfl) T.g_int (by decide +kernel) (pa_cons (pe_op op_add (pe_op op_add (pe_op op_mul (pe_ix ix_list (pv 0) pe_int (fun _ _ => rfl)) pe_int) (pv 2)) pe_int) pa_nil)) pe_int) (pg_sub (pv 0) pe_int set_list))
        (pss_one (ps_if (pt_cmpR op_ge (pv 2) (pe_op op_pow pe_int pe_int) (nomark _))
          (pss_one (ps_asg (pv 2) (pg_sub (pv 0) pe_int set_list)))
          pss_nil)))))
      pss_nil)
    (pss_cons (ps_if (pt_cmpR op_gt (pe_ix ix_list (pv 0) pe_int (fun _ _ => rfl)) pe_int (nomark _))
      (pss_cons (ps_set (i := 3) sc_l_draw.nd rfl (.inl rfl) (pe_op op_mod (pe_callTy call_int1 (by rfl) T.g_int (by decide +kernel) (pa_cons (pe_ix ix_list (pv 0) pe_int (fun _ _ => rfl)) pa_nil)) (pv 1)))
        (pss_cons (ps_asg (pe_op op_fdiv (pe_ix ix_list (pv 0) pe_int (fun _ _ => rfl)) (pv 1)) (pg_sub (pv 0) pe_int set_list))
        (pss_one (ps_ret (pv 3)))))
      pss_nil)
    (pss_cons (ps_asg (pe_op op_add (pe_ix ix_list (pv 0) pe_int (fun _ _ => rfl)) pe_int) (pg_sub (pv 0) pe_int set_list))
    (pss_cons (ps_set (i := 4) sc_l_draw.nd rfl (.inl rfl) (pe_op op_mod (pe_callTy call_int1 (by rfl) T.g_int (by decide +kernel) (pa_cons (pe_op op_mul (pe_callTy call_int1 (by rfl) T.g_int (by decide +kernel) (pa_cons (pe_op op_add (pe_ix ix_list (pv 0) pe_int (fun _ _ => rfl)) (pe_op op_mul pe_int (pe_ix ix_list (pv 0) pe_int (fun _ _ => rfl)))) pa_nil)) pe_int) pa_nil)) pe_int))
    (pss_cons (ps_set (i := 4) sc_l_draw.nd rfl (.inl rfl) (pe_op op_mod (pe_callTy call_int1 (by rfl) T.g_int (by decide +kernel) (pa_cons (pe_op op_mul (pv 4) (pe_op op_add (pe_op op_fdiv (pv 4) pe_int) pe_int)) pa_nil)) pe_int))
    (pss_cons (ps_set (i := 4) sc_l_draw.nd rfl (.inl rfl) (pe_op op_mod (pe_callTy call_int1 (by rfl) T.g_int (by decide +kernel) (pa_cons (pe_op op_mul (pv 4) (pe_op op_add (pe_op op_fdiv (pv 4) pe_int) pe_int)) pa_nil)) pe_int))
    (pss_one (ps_ret (pe_op op_mod (pe_callTy call_int1 (by rfl) T.g_int (by decide +kernel) (pa_cons (pe_op op_fdiv (pv 4) pe_int) pa_nil)) (pv 1)))))))))), ?_⟩
  refine ⟨fun σ' H' => ∃ y2, σ' = [some (.ref h), some (.int many), y2, none, none] ∧ Kp h H H' ∧ HandO H' h c, ?_, ?_⟩
  · have a0 : HandO H h c := .of hh hc nch i0 b0 z0
    refine ⟨_, rfl, h, _, 2, _, rfl, rfl, SqL.of hh, atI_nat (j := 2) rfl, rfl, _, rfl, ite2 (fun e => ?_) (fun e => ?_)⟩
    · refine ⟨_, rfl, h, _, 1, _, rfl, rfl, SqL.of hh, atI_nat (j := 1) rfl, _, rfl, h, _, 0, _, rfl, rfl, SqL.of hh, atI_nat (j := 0) rfl, c, _, rfl, .inl (SqL.of hc), i, _, rfl, rfl, _, rfl, ?_⟩
      refine ite2 (fun e2 => ?_) (fun e2 => ?_)
      · have lt : i < ((cs.length : Nat) : Int) := by
          have q1 := of_decide_eq_true e2
          rw [List.length_map] at q1
          exact q1
        obtain ⟨z, hz, hat⟩ := at_in i0 lt
        have zz := z0 z hz
        -- cell = ..
        refine ⟨_, rfl, h, _, 0, _, rfl, rfl, SqL.of hh, atI_nat (j := 0) rfl, _, rfl, h, _, 1, _, rfl, rfl, SqL.of hh, atI_nat (j := 1) rfl, .inl ⟨c, _, i, _, rfl, rfl, SqL.of hc, hat, ?_⟩⟩
        -- the next one's place
        refine ⟨_, rfl, h, _, 1, _, rfl, rfl, SqL.of hh, atI_nat (j := 1) rfl, i, 1, rfl, rfl, _, rfl, h, _, 1, 1, rfl, rfl, hh, rfl, ?_⟩
        -- the mix
        refine ⟨_, rfl, h, _, 3, _, rfl, rfl, SqL.of upd_same, atI_nat (j := 3) rfl, m, _, rfl, rfl, .inr ⟨by decide, by decide⟩, _, rfl, _, z, rfl, rfl, _, _, rfl, rfl, .inl ⟨_, rfl, _, _, rfl, rfl, pos_of (by decide), ?_⟩⟩
        refine ⟨_, rfl, h, _, 3, 3, rfl, rfl, upd_same, rfl, ?_⟩
        -- a great cell
        refine ⟨_, rfl, 10, 18, rfl, rfl, ⟨by decide, by decide, by decide⟩, z, _, rfl, rfl, _, rfl, ite2 (fun e3 => ?_) (fun e3 => ?_)⟩
        · refine ⟨_, rfl, _, rfl, h, _, 2, 2, rfl, rfl, upd_same, rfl, ?_⟩
          refine ⟨_, rfl, (((Kp.refl h H).upd).upd).upd, .of upd_same ?_ nch ?_ zz z0⟩
          · rw [upd_ne nch, upd_ne nch, upd_ne nch]
            exact hc
          · omega
        · refine ⟨_, rfl, ((Kp.refl h H).upd).upd, .of upd_same ?_ nch ?_ b0 z0⟩
          · rw [upd_ne nch, upd_ne nch]
            exact hc
          · omega
      · exact ⟨_, rfl, Kp.refl h H, a0⟩
    · refine iteF ?_
      exact ⟨_, rfl, Kp.refl h H, a0⟩
  · intro σ' H1 ⟨y2, e, k1, a1⟩
    subst e
    clear hh hc nch i0 b0 z0
    obtain ⟨cs, i, b, m, n, hh, hc, nch, i0, b0, z0⟩ := a1
    refine ⟨_, rfl, h, _, 2, _, rfl, rfl, SqL.of hh, atI_nat (j := 2) rfl, b, 0, rfl, rfl, _, rfl, ite2 (fun e => ?_) (fun e => ?_)⟩
    · refine ⟨_, rfl, h, _, 2, _, rfl, rfl, SqL.of hh, atI_nat (j := 2) rfl, .inl ⟨b, rfl, _, rfl, b, many, rfl, rfl, m0, ?_⟩⟩
      refine ⟨_, rfl, h, _, 2, _, rfl, rfl, SqL.of hh, atI_nat (j := 2) rfl, _, rfl, b, many, rfl, rfl, ⟨m0, m1⟩, _, rfl, h, _, 2, 2, rfl, rfl, hh, rfl, ?_⟩
      refine ⟨_, rfl, q (b % many) _ (Int.emod_nonneg _ (by omega)) (Int.emod_lt_of_pos _ m0) k1.upd (.of upd_same ?_ nch i0 (Int.ediv_nonneg b0 (by omega)) z0)⟩
      rw [upd_ne nch]
      exact hc
    · refine ⟨_, rfl, h, _, 4, _, rfl, rfl, SqL.of hh, atI_nat (j := 4) rfl, n, 1, rfl, rfl, _, rfl, h, _, 4, 4, rfl, rfl, hh, rfl, ?_⟩
      have k2 := k1.upd (o := .lst [.ref c, .int i, .int b, .int m, .int (n + 1)])
      have a2 : HandO (upd H1 h (.lst [.ref c, .int i, .int b, .int m, .int (n + 1)])) h c := .of upd_same (by rw [upd_ne nch]; exact hc) nch i0 b0 z0
      refine ⟨_, rfl, h, _, 3, _, rfl, rfl, SqL.of upd_same, atI_nat (j := 3) rfl, _, rfl, h, _, 4, _, rfl, rfl, SqL.of upd_same, atI_nat (j := 4) rfl, _, n + 1, rfl, rfl, .inl ⟨by decide, by decide⟩, m, _, rfl, rfl,
        .inl ⟨_, rfl, _, _, rfl, rfl, .inr ⟨by decide, by decide⟩, .inl ⟨_, rfl, _, _, rfl, rfl, pos_of (by decide), ?_⟩⟩⟩
      refine ⟨_, rfl, _, rfl, _, _, rfl, rfl, ⟨by decide, by decide⟩, _, _, rfl, rfl, _, _, rfl, rfl, .inl (m31 (by decide) (by decide)), .inl ⟨_, rfl, _, _, rfl, rfl, pos_of (by decide), ?_⟩⟩
      refine ⟨_, rfl, _, rfl, _, _, rfl, rfl, ⟨by decide, by decide⟩, _, _, rfl, rfl, _, _, rfl, rfl, .inl (m31 (by decide) (by decide)), .inl ⟨_, rfl, _, _, rfl, rfl, pos_of (by decide), ?_⟩⟩
      refine ⟨_, rfl, _, _, rfl, rfl, ⟨by decide, by decide⟩, .inl ⟨_, rfl, _, rfl, _, many, rfl, rfl, m0, ?_⟩⟩
      exact q _ _ (Int.emod_nonneg _ (by omega)) (Int.emod_lt_of_pos _ m0) k2 a2
theorem ok_l_hand (T : Tx K mg) : FnOk P w K mg base CX0 1 T.f_l_hand T.d_l_hand ["script"] (spHandO K) := by
  refine T.F_l_hand.ok sc_l_hand (fun vs H Q E h => ?_) (fun cdv A outer s H vs Q E hr h => ?_)
  · obtain ⟨a, ns, rfl, _⟩ := h
    rfl
  obtain ⟨a, ns, rfl, ha, hl, q⟩ := h
  refine ⟨_, (pss_cons (ps_setLc (i := 1) (own := [("cell", 2)]) (g := (gName 2)) (tt := tYes) (te := (tCB _ (tCons (tCB _ (tCons (tVar 2) tNil)) tNil))) rfl sc_l_hand.nd rfl rfl (sw_true rfl rfl rfl (by decide +kernel)) (pi_list (pe_slice sl_list (pv 0) po_none (po_some pe_int))) (blkOk_by (own := [("cell", 2)]) (N := N_l_hand) (sc := defScope s_l_hand) (by decide +kernel)) (fun _ _ _ _ _ => (pg_name (i := 2) sc_l_hand.nd rfl (.inl rfl))) (fun _ _ _ _ _ => pts_nil) (fun _ _ _ _ _ => (pe_callB call_abs (by rfl) T.g_abs (by decide +kernel) (pa_cons (pe_callTy call_int1 (by rfl) T.g_int (by decide +kernel) (pa_cons (pv 2) pa_nil)) pa_nil))))
    (pss_one (ps_ret (pe_lst (pa_cons (pv 1) (pa_cons pe_int (pa_cons pe_int (pa_cons (pe_op op_add pe_int (pe_callB call_len_seq (by rfl) T.g_len PySem.boot_len (pa_cons (pv 1) pa_nil))) (pa_cons pe_int pa_nil))))))))), ?_⟩
  refine ⟨_, rfl, 63, rfl, a, _, rfl, ha, fun p np => ?_⟩
  have s1 : Same H (upd H p (.lst (cutV (ns.map V.int) none (some 63)))) := same_upd np _
  have hp : (upd H p (.lst (cutV (ns.map V.int) none (some 63)))) p = some (.lst (ns.map V.int)) := by
    rw [upd_same, cut_hi _ _ (by decide), List.take_of_length_le (by rw [List.length_map]; exact Nat.le_trans hl (by decide))]
  refine ⟨p, rfl, ⟨_, SqL.of hp⟩, fun D nD => lc_list (xs := ns.map V.int) (fun i H' => Same H H' ∧ H' p = some (.lst (ns.map V.int)) ∧ H' D = some (.lst (((ns.take i).map ab).map V.int))) ?_ (fun i H' _ ⟨_, hp', _⟩ => SqL.of hp') ?_ ?_⟩
  · exact ⟨s1.trans (same_upd nD _), same_upd nD _ _ _ hp, upd_same⟩
  · intro i y H' hi ⟨sm, hp', hD⟩
    have li : i < ns.length := by
      have q1 := (List.getElem?_eq_some_iff.mp hi).1
      rw [List.length_map] at q1
      exact q1
    have ey : y = .int ns[i] := by
      rw [List.getElem?_map, List.getElem?_eq_getElem li] at hi
      exact (Option.some.inj hi).symm
    subst ey
    refine ⟨rfl, ?_⟩
    refine ⟨_, rfl, .inl ⟨_, rfl, _, rfl, _, hD, small1000 ?_, fun b o hb => ?_, ?_, ?_⟩⟩
    · rw [List.length_map, List.length_map, List.length_take]
      omega
    · rw [upd_ne (ne_of_none hb (s1.free nD))]
      exact sm _ _ hb
    · rw [upd_ne (ne_of_none hp nD)]
      exact hp'
    · rw [upd_same, List.take_add_one, List.getElem?_eq_getElem li, List.map_append, List.map_append]
      rfl
  · intro H' ⟨sm, hp', hD⟩
    rw [List.length_map, List.take_of_length_le (Nat.le_refl _)] at hD
    have nDn : H D = none := s1.free nD
    refine ⟨_, rfl, _, rfl, D, _, rfl, .inl (SqL.of hD), _, _, rfl, rfl, (by show 5 ≤ sizeLine; decide), fun h nh => ?_⟩
    have nDh : D ≠ h := ne_of_none hD nh
    refine q h D _ (sm.free nh) nDn (sm.trans (same_upd nh _)) (.of (c := D) (cs := ns.map ab) upd_same (by rw [upd_ne nDh]; exact hD) nDh (by decide) (by decide) fun z hz => ?_)
    obtain ⟨y, _, ez⟩ := List.mem_map.mp hz
    rw [← ez]
    exact ab_nn y
theorem ok_l_draw (hT : TX T cm) : KG.FnG P w K mg base 1 T.f_l_draw T.d_l_draw ["hand", "many"] (spM K cm true (mk1 m_draw)) := draw_of rfl (okO_l_draw T)
abbrev m_l_draw := FE.m_draw
theorem ok_BadwebI (hT : TX T cm) : FnOk P w K mg base CX0 1 T.f_BadwebI T.d_BadwebI ["self", "part"] (spI1 K (cm.ad "BadWeb") "part") := by
  refine T.F_BadwebI.ok sc_BadwebI (fun vs H Q E h => ?_) (fun cdv A outer s H vs Q E hr h => ?_)
  · obtain ⟨a, y, rfl, _⟩ := h
    rfl
  · obtain ⟨a, y, rfl, ox, no, ha, q⟩ := h
    refine ⟨_, pss_one (ps_ost (pv 0) (pv 1)), ?_⟩
    exact ⟨y, rfl, .ref a, rfl, a, _, rfl, ox, no, .inl ⟨ha, fun dx nd ne => q dx nd ne⟩⟩
theorem ok_NoTies___init__ (hT : TX T cm) : FnOk P w K mg base CX0 1 T.f_NoTies___init__ T.d_NoTies___init__ ["self"] spI0 := by
  refine T.F_NoTies___init__.ok sc_NoTies___init__ (fun vs H Q E h => ?_) (fun cdv A outer s H vs Q E hr h => ?_)
  · obtain ⟨a, rfl, _⟩ := h
    rfl
  · obtain ⟨a, rfl, q⟩ := h
    exact ⟨_, pss_one ps_pass, q⟩
end
end K04
set_option Elab.async false
set_option linter.all false
set_option maxRecDepth 100000
set_option maxHeartbeats 4000000
/-! Defs. -/
namespace K04
open PySem L2 FE PySem.Spec
section
variable {P : Program} {w : World} {K : PySem.W.Frag} {mg : Str → Option Value} {base : Heap} {T : Tx K mg} {cm : FE.Cm}
-- is_integer: M slots 0:thing
structure m_is_integer (q0 : D) (k : D → Prop) : Prop where of ::
  h : ((wAndV (wIsi (isB .int) (wv q0)) (wNotV (wIsi (isB .bool) (wv q0)))) k)
theorem ok_is_integer (hT : TX T cm) : KG.FnG P w K mg base 1 T.f_is_integer T.d_is_integer ["thing"] (spM K cm false (mk1 m_is_integer)) :=
  def_M (N := N_is_integer) T.F_is_integer sc_is_integer (fun ds k h => mk1_len h) fun cdv A out s H E hgd hr g ds k l hc hm => by
    subst hc
    obtain ⟨q0, rfl, h⟩ := mk1_inv hm
    refine ⟨_, ?_, (s_ret (e_and (e_r (e_isi .int (by rfl) T.g_isinstance (by decide +kernel) (e_r (e_v (pv 0))) (pe_ty (by rfl) T.g_int (by decide +kernel)))) (e_one (e_not (e_r (e_isi .bool (by rfl) T.g_isinstance (by decide +kernel) (e_r (e_v (pv 0))) (pe_ty (by rfl) T.g_bool (by decide +kernel))))))))⟩
    exact h.h
-- is_between: M slots 0:thing 1:least 2:most
structure m_is_between (q0 q1 q2 : D) (k : D → Prop) : Prop where of ::
  h : ((wAndV (wA (mk1 m_is_integer) (wcons (wv q0) wnil)) (wChain (oCmp (fun i j => decide (i ≤ j))) (oCmp (fun i j => decide (i ≤ j))) (wv q1) (wv q0) (wv q2))) k)
theorem ok_is_between (hT : TX T cm) : KG.FnG P w K mg base 2 T.f_is_between T.d_is_between ["thing", "least", "most"] (spM K cm false (mk3 m_is_between)) :=
  def_M (N := N_is_between) T.F_is_between sc_is_between (fun ds k h => mk3_len h) fun cdv A out s H E hgd hr g ds k l hc hm => by
    subst hc
    obtain ⟨q0, q1, q2, rfl, h⟩ := mk3_inv hm
    refine ⟨_, ?_, (s_ret (e_and (e_r (e_call hgd (ok_is_integer hT) (hr.mono (by decide)) (by rfl) T.m_is_integer T.F_is_integer.kp T.b_is_integer (a_cons (e_v (pv 0)) a_nil))) (e_one (e_chain op_le d_cmp op_le d_cmp (e_r (e_v (pv 1))) (e_r (e_v (pv 0))) (e_r (e_v (pv 2)))))))⟩
    exact h.h
-- is_below: M slots 0:thing 1:bound
structure m_is_below (q0 q1 : D) (k : D → Prop) : Prop where of ::
  h : ((wAndV (wA (mk1 m_is_integer) (wcons (wv q0) wnil)) (wChain (oCmp (fun i j => decide (i ≤ j))) (oCmp (fun i j => decide (i < j))) (wv (.int 0)) (wv q0) (wv q1))) k)
theorem ok_is_below (hT : TX T cm) : KG.FnG P w K mg base 2 T.f_is_below T.d_is_below ["thing", "bound"] (spM K cm false (mk2 m_is_below)) :=
  def_M (N := N_is_below) T.F_is_below sc_is_below (fun ds k h => mk2_len h) fun cdv A out s H E hgd hr g ds k l hc hm => by
    subst hc
    obtain ⟨q0, q1, rfl, h⟩ := mk2_inv hm
    refine ⟨_, ?_, (s_ret (e_and (e_r (e_call hgd (ok_is_integer hT) (hr.mono (by decide)) (by rfl) T.m_is_integer T.F_is_integer.kp T.b_is_integer (a_cons (e_v (pv 0)) a_nil))) (e_one (e_chain op_le d_cmp op_lt d_cmp (e_r e_int) (e_r (e_v (pv 0))) (e_r (e_v (pv 1)))))))⟩
    exact h.h
-- is_pair: M slots 0:thing
structure m_is_pair (q0 : D) (k : D → Prop) : Prop where of ::
  h : ((wAndV (wIsi (isB .tup) (wv q0)) (w2 oEqA (wA oLen (wcons (wv q0) wnil)) (wv (.int 2)))) k)
theorem ok_is_pair (hT : TX T cm) : KG.FnG P w K mg base 1 T.f_is_pair T.d_is_pair ["thing"] (spM K cm false (mk1 m_is_pair)) :=
  def_M (N := N_is_pair) T.F_is_pair sc_is_pair (fun ds k h => mk1_len h) fun cdv A out s H E hgd hr g ds k l hc hm => by
    subst hc
    obtain ⟨q0, rfl, h⟩ := mk1_inv hm
    refine ⟨_, ?_, (s_ret (e_and (e_r (e_isi .tup (by rfl) T.g_isinstance (by decide +kernel) (e_r (e_v (pv 0))) (pe_ty (by rfl) T.g_tuple (by decide +kernel)))) (e_one (e_cmp (op_eqA hr.units) d_eqA (e_r (e_cb call_lenA c_len (by rfl) T.g_len (r_cons (e_r (e_v (pv 0))) r_nil))) (e_r e_int) (nomark _)))))⟩
    exact h.h
-- is_lot: M slots 0:thing 1:bound 2:least 3:number
structure m_is_lot (q0 q1 : D) (k : D → Prop) : Prop where of ::
  h : (wJ (fun (J3 : Unit → Prop) => ((wNt (wTb (wIsi (isB .tup) (wv q0)))) fun y1 => if y1 = true then ((wv (.bl false)) k) else (J3 ()))) (fun (s2 : Unit) => ((wv (.int 0)) fun x4 => (wJ (fun (KR7 : D → Prop) => ((wSeq (wv q0)) fun items => forW (fun x s5 kc6 => ∃ a8 : D, x = (fun d : D => d) a8 ∧ (wJ (fun (J11 : Unit → Prop) => ((wNt (wTb (wA (mk3 m_is_between) (wcons (wv a8) (wcons (wv s5) (wcons (w2 oSub (wv q1) (wv (.int 1))) wnil)))))) fun y9 => if y9 = true then ((wv (.bl false)) k) else (J11 ()))) (fun (s10 : Unit) => ((w2 oAdd (wv a8) (wv (.int 1))) fun x12 => (kc6 x12))))) items x4 KR7)) (fun (s5 : D) => ((wv (.bl true)) k))))))
theorem ok_is_lot (hT : TX T cm) : KG.FnG P w K mg base 3 T.f_is_lot T.d_is_lot ["thing", "bound"] (spM K cm false (mk2 m_is_lot)) :=
  def_M (N := N_is_lot) T.F_is_lot sc_is_lot (fun ds k h => mk2_len h) fun cdv A out s H E hgd hr g ds k l hc hm => by
    subst hc
    obtain ⟨q0, q1, rfl, h⟩ := mk2_inv hm
    refine ⟨_, ?_, (s_ifJ (f := fun s2 : Unit => [.dat q0, .dat q1, .any, .any]) (t_not (t_val (e_r (e_isi .tup (by rfl) T.g_isinstance (by decide +kernel) (e_r (e_v (pv 0))) (pe_ty (by rfl) T.g_tuple (by decide +kernel))))))
 (fun J3 => (s_ret e_bl))
 (fun J3 => (s_nil (n := ⟨Unit, fun s2 => [.dat q0, .dat q1, .any, .any], J3⟩) (s := (())) (.cons .refl (.cons .refl (.cons .refl (.cons .refl .nil))))))
 (fun s2 =>
 (s_set (i := 2) (bs' := fun x4 => [.dat q0, .dat q1, .dat x4, .any]) e_int sc_is_lot.nd rfl (.inl rfl) (fun x4 =>
 (s_forJ (ba := fun a8 s5 => [.dat q0, .dat q1, .dat s5, .dat a8]) (fl := (fun s5 : D => [.dat q0, .dat q1, .dat s5, .any])) (fr := (fun s5 : D => [.dat q0, .dat q1, .dat s5, .any])) (s0 := (x4)) PassesOwn.never rfl (i_seq (e_v (pv 0))) (pg_name (i := 3) sc_is_lot.nd rfl (.inl rfl)) (fun _ => tg_n) (.cons .refl (.cons .refl (.cons .refl (.cons .refl .nil)))) (fun s5 => (.cons .refl (.cons .refl (.cons .refl (.cons .refl .nil)))))
 (fun A' eA1 a8 s5 kc6 KR7 =>
 (s_ifJ (f := fun s10 : Unit => [.dat q0, .dat q1, .dat s5, .dat a8]) (t_not (t_val (e_r (e_call hgd (ok_is_between hT) (hr.mono (by decide)) (by rfl) T.m_is_between T.F_is_between.kp T.b_is_between (a_cons (e_v (pv 3)) (a_cons (e_v (pv 2)) (a_cons (e_op op_sub d_sub (e_r (e_v (pv 1))) (e_r e_int)) a_nil)))))))
 (fun J11 => (s_ret e_bl))
 (fun J11 => (s_nil (n := ⟨Unit, fun s10 => [.dat q0, .dat q1, .dat s5, .dat a8], J11⟩) (s := (())) (.cons .refl (.cons .refl (.cons .refl (.cons .refl .nil))))))
 (fun s10 =>
 (s_set (i := 2) (bs' := fun x12 => [.dat q0, .dat q1, .dat x12, .dat a8]) (e_op op_addA d_add (e_r (e_v (pv 3))) (e_r e_int)) sc_is_lot.nd rfl (.inl rfl) (fun x12 =>
 (s_nil (n := ⟨D, (fun s5 : D => [.dat q0, .dat q1, .dat s5, .any]), kc6⟩) (s := (x12)) (.cons .refl (.cons .refl (.cons .refl (.cons .any .nil))))))))))
 (fun s5 =>
 (s_ret e_bl)))))))⟩
    exact h.h
-- _marked: M slots 0:marks 1:mark 2:place 3:own
structure m_marked (q0 q1 : D) (k : D → Prop) : Prop where of ::
  h : ((wA oTupOf (wcons (wl (wLc (fun a : D × D => .tup [a.1, a.2]) (wEnu (wv q0)) (fun a1 : D × D => (wTb (w2 oEqA (wv a1.2) (wv q1)))) (fun a1 : D × D => (wv a1.1)))) wnil)) k)
theorem ok_marked (hT : TX T cm) : KG.FnG P w K mg base 1 T.f_marked T.d_marked ["marks", "mark"] (spM K cm false (mk2 m_marked)) :=
  def_M (N := N_marked) T.F_marked sc_marked (fun ds k h => mk2_len h) fun cdv A out s H E hgd hr g ds k l hc hm => by
    subst hc
    obtain ⟨q0, q1, rfl, h⟩ := mk2_inv hm
    refine ⟨_, ?_, (s_ret (e_ct KT.call_tupA c_tup (by rfl) T.g_tuple (r_cons (e_r (e_l (l_lc (own := [("own", 3), ("place", 2)]) (bw := [.dat q0, .dat q1, .any, .any]) rfl sc_marked.nd (i_s (i_enu (by rfl) T.g_enumerate (e_v (pv 0)))) (blkOk_by (own := [("own", 3), ("place", 2)]) (N := N_marked) (sc := defScope s_marked) (by decide +kernel)) (tg_2 tg_n tg_n) (by decide) rfl (fun _ _ _ _ _ => (pg_tup rfl (pgs_cons (pg_name (i := 2) sc_marked.nd rfl (.inl rfl)) (pgs_cons (pg_name (i := 3) sc_marked.nd rfl (.inl rfl)) pgs_nil)))) (fun a1 _ _ _ _ _ => (tt_one (t_cmp (op_eqA hr.units) d_eqA (e_r (e_v (pv 3))) (e_r (e_v (pv 1))) (nomark _)))) (fun a1 _ _ _ _ _ => (e_v (pv 2)))))) r_nil)))⟩
    exact h.h
-- parts: L X slots 0:web 1:lot 2:marks 3:tie 4:u 5:v 6:kept 7:gone 8:lots 9:mark 10:places
structure m_parts (q0 q1 : D) (k : List D → Prop) (y : Xd) : Prop where of ::
  h : (wJ (fun (J3 : Unit → Prop) => ((wNt (wTb (wA (mk2 m_is_lot) (wcons (wv q1) (wcons (wA oLen (wcons (w1 (oFld "Web" "ties") (wv q0)) wnil)) wnil))))) fun y1 => if y1 = true then (y "NoTies" []) else (J3 ()))) (fun (s2 : Unit) => ((wl (wRgL (wRg1 (w1 (oFld "Web" "many") (wv q0))))) fun x4 => (wJ (fun (KR7 : D → Prop) => ((wSeq (wv q1)) fun items => forW (fun x s5 kc6 => ∃ a8 : D, x = (fun d : D => d) a8 ∧ ((w2 oIx (w1 (oFld "Web" "ties") (wv q0)) (wv a8)) fun d => ∃ a9 : D × D, d = (fun a : D × D => .tup [a.1, a.2]) a9 ∧ ((wTup (wcons (wA oMin2 (wcons (w2 oIx (wv s5) (wv a9.1)) (wcons (w2 oIx (wv s5) (wv a9.2)) wnil))) (wcons (wA oMax2 (wcons (w2 oIx (wv s5) (wv a9.1)) (wcons (w2 oIx (wv s5) (wv a9.2)) wnil))) wnil))) fun d => ∃ a10 : D × D, d = (fun a : D × D => .tup [a.1, a.2]) a10 ∧ ((wl (wLc (fun d : D => d) (wSeq (wv s5)) (fun a12 : D => wYes) (fun a12 : D => (wIf (wTb (w2 oEqA (wv a12) (wv a10.2))) (wv a10.1) (wv a12))))) fun x11 => (kc6 x11))))) items x4 KR7)) (fun (s5 : D) => (wl (wLc (fun d : D => d) (wRg (wRg1 (w1 (oFld "Web" "many") (wv q0)))) (fun a14 : D => wYes) (fun a14 : D => (wA (mk2 m_marked) (wcons (wv s5) (wcons (wv a14) wnil))))) fun x13 => ((wLc (fun d : D => d) (wSeq (wv x13)) (fun a15 : D => (wTt (wv a15))) (fun a15 : D => (wv a15))) k)))))))
theorem ok_parts (hT : TX T cm) : FnC P w K mg base (L2.CX P w) 4 T.f_parts T.d_parts ["web", "lot"] (spX K cm false fun ds r y => mkx2 m_parts ds r.l y) :=
  def_LX (N := N_parts) T.F_parts sc_parts (fun ds k y h => mkx2_len h) fun cdv A out s H E hgd hr g ds k l y hc hm am => by
    subst hc
    obtain ⟨q0, q1, rfl, h⟩ := mkx2_inv hm
    refine ⟨_, ?_, (s_ifJ (f := fun s2 : Unit => [.dat q0, .dat q1, .any, .any, .any, .any, .any, .any, .any, .any, .any]) (t_not (t_val (e_r (e_call hgd (ok_is_lot hT) (hr.mono (by decide)) (by rfl) T.m_is_lot T.F_is_lot.kp T.b_is_lot (a_cons (e_v (pv 1)) (a_cons (e_cb call_lenA c_len (by rfl) T.g_len (r_cons (e_r (e_fld (c := "Web") (e_r (e_v (pv 0))) hT.no_Web_ties)) r_nil)) a_nil))))))
 (fun J3 => (s_raise0 am rfl hT.xf_NoTies hT.ox_NoTies hT.oi_NoTies T.ot_NoTies (ok_NoTies___init__ hT) (hr.mono (by decide)) T.b_NoTies___init__ (by rfl) hT.em_NoTies (.cons .any (.cons .any (.cons .refl (.cons .refl (.cons .refl (.cons .refl (.cons .refl (.cons .refl (.cons .refl (.cons .refl (.cons .refl .nil)))))))))))))
 (fun J3 => (s_nil (n := ⟨Unit, fun s2 => [.dat q0, .dat q1, .any, .any, .any, .any, .any, .any, .any, .any, .any], J3⟩) (s := (())) (.cons .refl (.cons .refl (.cons .refl (.cons .refl (.cons .refl (.cons .refl (.cons .refl (.cons .refl (.cons .refl (.cons .refl (.cons .refl .nil)))))))))))))
 (fun s2 =>
 (s_set (i := 2) (bs' := fun x4 => [.dat q0, .dat q1, .dat x4, .any, .any, .any, .any, .any, .any, .any, .any]) (e_l (l_rg rfl (by rfl) T.g_list (g_rg1 (by rfl) T.g_range (e_r (e_fld (c := "Web") (e_r (e_v (pv 0))) hT.no_Web_many))))) sc_parts.nd rfl (.inr rfl) (fun x4 =>
 (s_forJ (ba := fun a8 s5 => [.dat q0, .dat q1, .dat s5, .dat a8, .any, .any, .any, .any, .any, .any, .any]) (fl := (fun s5 : D => [.dat q0, .dat q1, .dat s5, .any, .any, .any, .any, .any, .any, .any, .any])) (fr := (fun s5 : D => [.dat q0, .dat q1, .dat s5, .any, .any, .any, .any, .any, .any, .any, .any])) (s0 := (x4)) (passes_of rfl) rfl (i_seq (e_v (pv 1))) (pg_name (i := 3) sc_parts.nd rfl (.inl rfl)) (fun _ => tg_n) (.cons .refl (.cons .refl (.cons .refl (.cons .refl (.cons .refl (.cons .refl (.cons .refl (.cons .refl (.cons .refl (.cons .refl (.cons .refl .nil))))))))))) (fun s5 => (.cons .refl (.cons .refl (.cons .refl (.cons .refl (.cons .refl (.cons .refl (.cons .refl (.cons .refl (.cons .refl (.cons .refl (.cons .refl .nil))))))))))))
 (fun A' eA1 a8 s5 kc6 KR7 =>
 (s_asg (bs' := fun a9 => [.dat q0, .dat q1, .dat s5, .dat a8, .dat a9.1, .dat a9.2, .any, .any, .any, .any, .any]) (e_ix (e_r (e_fld (c := "Web") (e_r (e_v (pv 0))) hT.no_Web_ties)) (e_r (e_v (pv 3)))) (pg_tup rfl (pgs_cons (pg_name (i := 4) sc_parts.nd rfl (.inl rfl)) (pgs_cons (pg_name (i := 5) sc_parts.nd rfl (.inl rfl)) pgs_nil))) (tg_2 tg_n tg_n) (fun a9 =>
 (s_asg (bs' := fun a10 => [.dat q0, .dat q1, .dat s5, .dat a8, .dat a9.1, .dat a9.2, .dat a10.1, .dat a10.2, .any, .any, .any]) (e_tup (a_cons (e_cb (call_min2 rfl) c_min2 (by rfl) T.g_min (r_cons (e_r (e_ix (e_r (e_v (pv 2))) (e_r (e_v (pv 4))))) (r_cons (e_r (e_ix (e_r (e_v (pv 2))) (e_r (e_v (pv 5))))) r_nil))) (a_cons (e_cb (call_max2 rfl) c_max2 (by rfl) T.g_max (r_cons (e_r (e_ix (e_r (e_v (pv 2))) (e_r (e_v (pv 4))))) (r_cons (e_r (e_ix (e_r (e_v (pv 2))) (e_r (e_v (pv 5))))) r_nil))) a_nil))) (pg_tup rfl (pgs_cons (pg_name (i := 6) sc_parts.nd rfl (.inr rfl)) (pgs_cons (pg_name (i := 7) sc_parts.nd rfl (.inr rfl)) pgs_nil))) (tg_2 tg_n tg_n) (fun a10 =>
 (s_set (i := 2) (bs' := fun x11 => [.dat q0, .dat q1, .dat x11, .dat a8, .dat a9.1, .dat a9.2, .dat a10.1, .dat a10.2, .any, .any, .any]) (e_l (l_lc (own := [("mark", 9)]) (bw := [.dat q0, .dat q1, .dat s5, .dat a8, .dat a9.1, .dat a9.2, .dat a10.1, .dat a10.2, .any, .any, .any]) rfl sc_parts.nd (i_s (i_seq (e_v (pv 2)))) (blkOk_by (own := [("mark", 9)]) (N := N_parts) (sc := defScope s_parts) (by decide +kernel)) tg_n (by decide) rfl (fun _ _ _ _ _ => (pg_name (i := 9) sc_parts.nd rfl (.inl rfl))) (fun a12 _ _ _ _ _ => tt_nil) (fun a12 _ _ _ _ _ => (e_if (t_cmp (op_eqA hr.units) d_eqA (e_r (e_v (pv 9))) (e_r (e_v (pv 7))) (nomark _)) (e_v (pv 6)) (e_v (pv 9)))))) sc_parts.nd rfl (.inr rfl) (fun x11 =>
 (s_nil (n := ⟨D, (fun s5 : D => [.dat q0, .dat q1, .dat s5, .any, .any, .any, .any, .any, .any, .any, .any]), kc6⟩) (s := (x11)) (.cons .refl (.cons .refl (.cons .refl (.cons .any (.cons .any (.cons .any (.cons .any (.cons .any (.cons .refl (.cons .refl (.cons .refl .nil)))))))))))))))))))
 (fun s5 =>
 (s_lcD (i := 8) (own := [("mark", 9)]) (bw := [.dat q0, .dat q1, .dat s5, .any, .any, .any, .any, .any, .any, .any, .any]) (bs' := fun x13 => [.dat q0, .dat q1, .dat s5, .any, .any, .any, .any, .any, .dat x13, .any, .any]) rfl sc_parts.nd rfl rfl (sw_true rfl rfl rfl (by decide +kernel)) (i_s (i_rg1 (by rfl) T.g_range (e_r (e_fld (c := "Web") (e_r (e_v (pv 0))) hT.no_Web_many)))) (blkOk_by (own := [("mark", 9)]) (N := N_parts) (sc := defScope s_parts) (by decide +kernel)) tg_n (by decide) rfl (fun _ _ _ _ _ => (pg_name (i := 9) sc_parts.nd rfl (.inl rfl))) (fun a14 _ _ _ _ _ => tt_nil) (fun a14 _ _ _ _ _ => (e_call hgd (ok_marked hT) (hr.mono (by decide)) (by rfl) T.m_marked T.F_marked.kp T.b_marked (a_cons (e_v (pv 2)) (a_cons (e_v (pv 9)) a_nil)))) (fun x13 =>
 (s_retL (l_lc (own := [("places", 10)]) (bw := [.dat q0, .dat q1, .dat s5, .any, .any, .any, .any, .any, .dat x13, .any, .any]) rfl sc_parts.nd (i_s (i_seq (e_v (pv 8)))) (blkOk_by (own := [("places", 10)]) (N := N_parts) (sc := defScope s_parts) (by decide +kernel)) tg_n (by decide) rfl (fun _ _ _ _ _ => (pg_name (i := 10) sc_parts.nd rfl (.inl rfl))) (fun a15 _ _ _ _ _ => (tt_one (t_tru (e_r (e_v (pv 10)))))) (fun a15 _ _ _ _ _ => (e_v (pv 10)))))))))))))⟩
    exact h.h
-- rank: M X slots 0:web 1:lot
structure m_rank (q0 q1 : D) (k : D → Prop) (y : Xd) : Prop where of ::
  h : ((w2 oSub (w1 (oFld "Web" "many") (wv q0)) (wA oLen (wcons (wl (wAXL (mkx2 m_parts) (wcons (wv q0) (wcons (wv q1) wnil)) y)) wnil))) k)
theorem ok_rank (hT : TX T cm) : FnC P w K mg base (L2.CX P w) 5 T.f_rank T.d_rank ["web", "lot"] (spX K cm false fun ds r y => mkx2 m_rank ds r.d y) :=
  def_MX (N := N_rank) T.F_rank sc_rank (fun ds k y h => mkx2_len h) fun cdv A out s H E hgd hr g ds k l y hc hm am => by
    subst hc
    obtain ⟨q0, q1, rfl, h⟩ := mkx2_inv hm
    refine ⟨_, ?_, (s_ret (e_op op_sub d_sub (e_r (e_fld (c := "Web") (e_r (e_v (pv 0))) hT.no_Web_many)) (e_r (e_cb call_lenA c_len (by rfl) T.g_len (r_cons (e_r (e_l (l_callX am hgd (ok_parts hT) (hr.mono (by decide)) (by rfl) T.m_parts T.F_parts.kp T.b_parts (a_cons (e_v (pv 0)) (a_cons (e_v (pv 1)) a_nil)) (.cons .any (.cons .any .nil))))) r_nil)))))⟩
    exact h.h
-- _is_tie: M slots 0:thing 1:many
structure m_is_tie (q0 q1 : D) (k : D → Prop) : Prop where of ::
  h : ((wAndV (wA (mk1 m_is_pair) (wcons (wv q0) wnil)) (wAndV (wA (mk2 m_is_below) (wcons (w2 oIx (wv q0) (wv (.int 1))) (wcons (wv q1) wnil))) (wA (mk3 m_is_between) (wcons (w2 oIx (wv q0) (wv (.int 0))) (wcons (wv (.int 0)) (wcons (w2 oIx (wv q0) (wv (.int 1))) wnil)))))) k)
theorem ok_is_tie (hT : TX T cm) : KG.FnG P w K mg base 3 T.f_is_tie T.d_is_tie ["thing", "many"] (spM K cm false (mk2 m_is_tie)) :=
  def_M (N := N_is_tie) T.F_is_tie sc_is_tie (fun ds k h => mk2_len h) fun cdv A out s H E hgd hr g ds k l hc hm => by
    subst hc
    obtain ⟨q0, q1, rfl, h⟩ := mk2_inv hm
    refine ⟨_, ?_, (s_ret (e_and (e_r (e_call hgd (ok_is_pair hT) (hr.mono (by decide)) (by rfl) T.m_is_pair T.F_is_pair.kp T.b_is_pair (a_cons (e_v (pv 0)) a_nil))) (e_and (e_r (e_call hgd (ok_is_below hT) (hr.mono (by decide)) (by rfl) T.m_is_below T.F_is_below.kp T.b_is_below (a_cons (e_ix (e_r (e_v (pv 0))) (e_r e_int)) (a_cons (e_v (pv 1)) a_nil)))) (e_one (e_call hgd (ok_is_between hT) (hr.mono (by decide)) (by rfl) T.m_is_between T.F_is_between.kp T.b_is_between (a_cons (e_ix (e_r (e_v (pv 0))) (e_r e_int)) (a_cons e_int (a_cons (e_ix (e_r (e_v (pv 0))) (e_r e_int)) a_nil))))))))⟩
    exact h.h
-- Web.__init__: M X slots 0:self 1:many 2:ties 3:number 4:tie
structure m_webI (q0 q1 : D) (k : Prop) (y : Xd) : Prop where of ::
  h : (wJ (fun (J3 : Unit → Prop) => ((wNt (wTb (wA (mk3 m_is_between) (wcons (wv q0) (wcons (wv (.int 1)) (wcons (wv (.int 10)) wnil)))))) fun y1 => if y1 = true then ((wv (.str "many")) fun z => y "BadWeb" [("part", z)]) else (J3 ()))) (fun (s2 : Unit) => (wJ (fun (J6 : Unit → Prop) => ((wOr (wNt (wTb (wIsi (isB .tup) (wv q1)))) (wTb (w2 (oCmp (fun i j => decide (i > j))) (wA oLen (wcons (wv q1) wnil)) (wv (.int 16))))) fun y4 => if y4 = true then ((wv (.str "ties")) fun z => y "BadWeb" [("part", z)]) else (J6 ()))) (fun (s5 : Unit) => (wJ (fun (KR9 : Unit → Prop) => ((wEnu (wv q1)) fun items => forW (fun x s7 kc8 => ∃ a10 : D × D, x = (fun a : D × D => .tup [a.1, a.2]) a10 ∧ ((wNt (wTb (wA (mk2 m_is_tie) (wcons (wv a10.2) (wcons (wv q0) wnil))))) fun y11 => if y11 = true then ((wv a10.1) fun z => y "BadWeb" [("part", z)]) else (kc8 ()))) items () KR9)) (fun (s7 : Unit) => k))))))
theorem ok_webI (hT : TX T cm) : FnC P w K mg base (L2.CX P w) 4 T.f_webI T.d_webI ["self", "many", "ties"] (spI K cm "Web" "many" "ties" m_webI) :=
  def_I (N := N_webI) T.F_webI sc_webI rfl hT.cf_Web (by decide) fun cdv A out s H E hgd hr g a v1 v2 q0 q1 k y hc hm i1 i2 na nh nd hA am => by
    subst hc
    refine ⟨_, ?_, (s_ifJ (f := fun s2 : Unit => [.bth (.ref a) (.obj "Web" [] []), .bth v1 q0, .bth v2 q1, .any, .any]) (t_not (t_val (e_r (e_call hgd (ok_is_between hT) (hr.mono (by decide)) (by rfl) T.m_is_between T.F_is_between.kp T.b_is_between (a_cons (e_vb (pv 1)) (a_cons e_int (a_cons (e_gi (by rfl) T.m_MOST_PLACES) a_nil)))))))
 (fun J3 => (s_raise1 (f := "part") am rfl hT.xf_BadWeb hT.ox_BadWeb hT.oi_BadWeb T.ot_BadWeb (ok_BadwebI hT) (hr.mono (by decide)) T.b_BadwebI (by rfl) hT.em_BadWeb hT.nf_BadWeb e_str (.cons .any (.cons .any (.cons .any (.cons .refl (.cons .refl .nil)))))))
 (fun J3 => (s_nil (n := ⟨Unit, fun s2 => [.bth (.ref a) (.obj "Web" [] []), .bth v1 q0, .bth v2 q1, .any, .any], J3⟩) (s := (())) (.cons .refl (.cons .refl (.cons .refl (.cons .refl (.cons .refl .nil)))))))
 (fun s2 =>
 (s_ifJ (f := fun s5 : Unit => [.bth (.ref a) (.obj "Web" [] []), .bth v1 q0, .bth v2 q1, .any, .any]) (PW.pt (t_or (t_not (t_val (e_r (e_isi .tup (by rfl) T.g_isinstance (by decide +kernel) (e_r (e_vb (pv 2))) (pe_ty (by rfl) T.g_tuple (by decide +kernel)))))) (t_or1 (t_cmp op_gt d_cmp (e_r (e_cb call_lenA c_len (by rfl) T.g_len (r_cons (e_r (e_vb (pv 2))) r_nil))) (e_r (e_gi (by rfl) T.m_MOST_TIES)) (nomark _)))))
 (fun J6 => (s_raise1 (f := "part") am rfl hT.xf_BadWeb hT.ox_BadWeb hT.oi_BadWeb T.ot_BadWeb (ok_BadwebI hT) (hr.mono (by decide)) T.b_BadwebI (by rfl) hT.em_BadWeb hT.nf_BadWeb e_str (.cons .any (.cons .any (.cons .any (.cons .refl (.cons .refl .nil)))))))
 (fun J6 => (s_nil (n := ⟨Unit, fun s5 => [.bth (.ref a) (.obj "Web" [] []), .bth v1 q0, .bth v2 q1, .any, .any], J6⟩) (s := (())) (.cons .refl (.cons .refl (.cons .refl (.cons .refl (.cons .refl .nil)))))))
 (fun s5 =>
 (s_forJ (ba := fun a10 s7 => [.bth (.ref a) (.obj "Web" [] []), .bth v1 q0, .bth v2 q1, .dat a10.1, .dat a10.2]) (fl := (fun s7 : Unit => [.bth (.ref a) (.obj "Web" [] []), .bth v1 q0, .bth v2 q1, .any, .any])) (fr := (fun s7 : Unit => [.bth (.ref a) (.obj "Web" [] []), .bth v1 q0, .bth v2 q1, .any, .any])) (s0 := (())) (passes_of rfl) rfl (i_enu (by rfl) T.g_enumerate (e_vb (pv 2))) (pg_tup rfl (pgs_cons (pg_name (i := 3) sc_webI.nd rfl (.inl rfl)) (pgs_cons (pg_name (i := 4) sc_webI.nd rfl (.inl rfl)) pgs_nil))) (fun _ => (tg_2 tg_n tg_n)) (.cons .refl (.cons .refl (.cons .refl (.cons .refl (.cons .refl .nil))))) (fun s7 => (.cons .refl (.cons .refl (.cons .refl (.cons .refl (.cons .refl .nil))))))
 (fun A' eA1 a10 s7 kc8 KR9 =>
 (s_ifL (t_not (t_val (e_r (e_call hgd (ok_is_tie hT) (hr.mono (by decide)) (by rfl) T.m_is_tie T.F_is_tie.kp T.b_is_tie (a_cons (e_v (pv 4)) (a_cons (e_vb (pv 1)) a_nil))))))
 (s_raise1 (f := "part") (am.an eA1) rfl hT.xf_BadWeb hT.ox_BadWeb hT.oi_BadWeb T.ot_BadWeb (ok_BadwebI hT) (hr.mono (by decide)) T.b_BadwebI (by rfl) hT.em_BadWeb hT.nf_BadWeb (e_v (pv 3)) (.cons .any (.cons .any (.cons .any (.cons .any (.cons .any .nil))))))
 (s_nil (n := ⟨Unit, (fun s7 : Unit => [.bth (.ref a) (.obj "Web" [] []), .bth v1 q0, .bth v2 q1, .any, .any]), kc8⟩) (s := (())) (.cons .refl (.cons .refl (.cons .refl (.cons .any (.cons .any .nil))))))))
 (fun s7 =>
 (s_fld2 (n := 2) (pv 0) (pv 0) (pv 1) (pv 2) hT.no_Web_many hT.no_Web_ties (by decide) i1 i2 na nh nd hA)))))))⟩
    exact hm.h
end
end K04
set_option Elab.async false
set_option linter.all false
set_option maxRecDepth 100000
set_option maxHeartbeats 4000000
/-! Defs. -/
namespace K04
open PySem L2 FE PySem.Spec
section
variable {P : Program} {w : World} {K : PySem.W.Frag} {mg : Str → Option Value} {base : Heap} {T : Tx K mg} {cm : FE.Cm}
-- _law_some: M hand slots 0:hand 1:things
structure m_l_some (q0 : D) (k : D → Prop) : Prop where of ::
  h : ((w2 oIx (wv q0) (wA (mk1 m_l_draw) (wcons (wA oLen (wcons (wv q0) wnil)) wnil))) k)
theorem ok_l_some (hT : TX T cm) : KG.FnG P w K mg base 2 T.f_l_some T.d_l_some ["hand", "things"] (spM K cm true (mk1 m_l_some)) :=
  def_M (N := N_l_some) T.F_l_some sc_l_some (fun ds k h => congrArg (· + 1) (mk1_len h)) fun cdv A out s H E hgd hr g ds k l hc hm => by
    subst hc
    obtain ⟨q0, rfl, h⟩ := mk1_inv hm
    refine ⟨_, ?_, (s_ret (e_ix (e_r (e_v (pv 1))) (e_r (e_callH (i := 0) hgd (ok_l_draw hT) (hr.mono (by decide)) (by rfl) T.m_l_draw T.F_l_draw.kp T.b_l_draw (a_hand (pv 0) (a_cons (e_cb call_lenA c_len (by rfl) T.g_len (r_cons (e_r (e_v (pv 1))) r_nil)) a_nil))))))⟩
    exact h.h
-- _law_pair: M slots 0:one 1:other
structure m_l_pair (q0 q1 : D) (k : D → Prop) : Prop where of ::
  h : ((wTup (wcons (wA oMin2 (wcons (wv q0) (wcons (wv q1) wnil))) (wcons (wA oMax2 (wcons (wv q0) (wcons (wv q1) wnil))) wnil))) k)
theorem ok_l_pair (hT : TX T cm) : KG.FnG P w K mg base 1 T.f_l_pair T.d_l_pair ["one", "other"] (spM K cm false (mk2 m_l_pair)) :=
  def_M (N := N_l_pair) T.F_l_pair sc_l_pair (fun ds k h => mk2_len h) fun cdv A out s H E hgd hr g ds k l hc hm => by
    subst hc
    obtain ⟨q0, q1, rfl, h⟩ := mk2_inv hm
    refine ⟨_, ?_, (s_ret (e_tup (a_cons (e_cb (call_min2 rfl) c_min2 (by rfl) T.g_min (r_cons (e_r (e_v (pv 0))) (r_cons (e_r (e_v (pv 1))) r_nil))) (a_cons (e_cb (call_max2 rfl) c_max2 (by rfl) T.g_max (r_cons (e_r (e_v (pv 0))) (r_cons (e_r (e_v (pv 1))) r_nil))) a_nil))))⟩
    exact h.h
-- _law_ties: M hand slots 0:hand 1:many 2:kind 3:found 4:few 5:turn 6:one 7:order 8:at 9:to 10:place
structure m_l_ties (q0 q1 : D) (k : D → Prop) : Prop where of ::
  h : ((wEl (wLst wnil) (wEd (wIf (wTb (w2 (oCmp (fun i j => decide (i < j))) (wv q1) (wv (.int 5)))) (wv q0) (w2 oAdd (wv (.int 1)) (wA (mk1 m_l_draw) (wcons (wv q0) wnil)))) wEn)) (on2 kdL kdD fun u1 u2 => (wJ (fun (J5 : List D → Prop) => ((wTb (w2 oEqA (wv q1) (wv (.int 1)))) fun y3 => if y3 = true then ((w2L oMulL (wl (wLst (wcons (wA (mk2 m_l_pair) (wcons (wA (mk1 m_l_draw) (wcons (wv q0) wnil)) (wcons (wA (mk1 m_l_draw) (wcons (wv q0) wnil)) wnil))) wnil))) (wA (mk1 m_l_some) (wcons (wl (wLst (wcons (wv (.int 1)) (wcons (wv (.int 2)) (wcons (wv (.int 3)) (wcons (wv (.int 9)) (wcons (wv (.int 16)) wnil))))))) wnil))) fun x6 => (J5 x6)) else (J5 u1))) (fun (s4 : List D) => (wJ (fun (J9 : List D → Prop) => ((wTb (w2 oEqA (wv q1) (wv (.int 2)))) fun y7 => if y7 = true then ((wLc (fun d : D => d) (wRg (wRg2 (wv (.int 1)) (wv q0))) (fun a11 : D => wYes) (fun a11 : D => (wTup (wcons (wA (mk1 m_l_draw) (wcons (wv a11) wnil)) (wcons (wv a11) wnil))))) fun x10 => (J9 x10)) else (J9 s4))) (fun (s8 : List D) => (wJ (fun (J14 : List D → Prop) => ((wTb (w2 oEqA (wv q1) (wv (.int 3)))) fun y12 => if y12 = true then ((wLc (fun d : D => d) (wRg (wRg1 (wv q0))) (fun a16 : D => wYes) (fun a16 : D => (wA (mk2 m_l_pair) (wcons (wv a16) (wcons (w2 oMod (wA oInt (wcons (w2 oAdd (wv a16) (wv (.int 1))) wnil)) (wv q0)) wnil))))) fun x15 => (J14 x15)) else (J14 s8))) (fun (s13 : List D) => (wJ (fun (KR19 : List D → Prop) => ((wRg (wRg1 (wIf (wTb (wChain (oCmp (fun i j => decide (i < j))) (oCmp (fun i j => decide (i < j))) (wv (.int 0)) (wv q1) (wv (.int 4)))) (wA (mk1 m_l_some) (wcons (wl (wLst (wcons (wv (.int 0)) (wcons (wv (.int 0)) (wcons (wv (.int 1)) (wcons (wv (.int 2)) (wcons (wv (.int 3)) (wcons (wv (.int 5)) (wcons (wv (.int 8)) (wcons (wv (.int 16)) wnil)))))))))) wnil)) (wA (mk1 m_l_draw) (wcons (wv (.int 17)) wnil))))) fun items => forW (fun x s17 kc18 => ∃ a20 : D, x = (fun d : D => d) a20 ∧ ((wA (mk1 m_l_draw) (wcons (wv u2) wnil)) fun x21 => ((wA (mk2 m_l_pair) (wcons (wv x21) (wcons (wIf (wTb (w2 oEqA (wA (mk1 m_l_draw) (wcons (wv (.int 9)) wnil)) (wv (.int 0)))) (wv x21) (wA (mk1 m_l_draw) (wcons (wv u2) wnil))) wnil))) fun x22 => s17.length < 100000 ∧ (kc18 (s17 ++ [x22]))))) items s13 KR19)) (fun (s17 : List D) => ((wRgL (wRg1 (wA oLen (wcons (wv (.lst s17)) wnil)))) fun x23 => (wJ (fun (KR26 : List D → Prop) => ((wRg (wRg1 (wA oLen (wcons (wv (.lst x23)) wnil)))) fun items => forW (fun x s24 kc25 => ∃ a27 : D, x = (fun d : D => d) a27 ∧ ((w2 oAdd (wv a27) (wA (mk1 m_l_draw) (wcons (w2 oSub (wA oLen (wcons (wv (.lst s24)) wnil)) (wv a27)) wnil))) fun x28 => ((w2 oIx (wv (.lst s24)) (wv x28)) fun u29 => (w2 oIx (wv (.lst s24)) (wv a27)) fun v30 => (wv a27) fun z => oPut s24 z fun p31 => (wv x28) fun z => oPut (s24.set p31 u29) z fun q32 => (kc25 ((s24.set p31 u29).set q32 v30))))) items x23 KR26)) (fun (s24 : List D) => ((wA oTupOf (wcons (wl (wLc (fun d : D => d) (wSeq (wSl oSl (wv (.lst s24)) wO0 (wO1 (wv (.int 16))))) (fun a33 : D => wYes) (fun a33 : D => (w2 oIx (wv (.lst s17)) (wv a33))))) wnil)) k))))))))))))))
theorem ok_l_ties (hT : TX T cm) : KG.FnG P w K mg base 3 T.f_l_ties T.d_l_ties ["hand", "many", "kind"] (spM K cm true (mk2 m_l_ties)) :=
  def_M (N := N_l_ties) T.F_l_ties sc_l_ties (fun ds k h => congrArg (· + 1) (mk2_len h)) fun cdv A out s H E hgd hr g ds k l hc hm => by
    subst hc
    obtain ⟨q0, q1, rfl, h⟩ := mk2_inv hm
    refine ⟨_, ?_, (s_parC2 (i := 3) (j := 4) (k1 := kdL) (k2 := kdD) (bs' := fun u1 u2 => [.hand, .dat q0, .dat q1, .own u1, .dat u2, .any, .any, .any, .any, .any, .any]) rfl (pg_name (i := 3) sc_l_ties.nd rfl (.inr rfl)) (pg_name (i := 4) sc_l_ties.nd rfl (.inl rfl)) (b_l (l_lst a_nil) (b_d (e_if (t_cmp op_lt d_cmp (e_r (e_v (pv 2))) (e_r e_int) (nomark _)) (e_v (pv 1)) (e_op op_addA d_add (e_r e_int) (e_r (e_callH (i := 0) hgd (ok_l_draw hT) (hr.mono (by decide)) (by rfl) T.m_l_draw T.F_l_draw.kp T.b_l_draw (a_hand (pv 0) (a_cons (e_v (pv 1)) a_nil)))))) b_nil)) (fun u1 u2 =>
 (s_ifJ (f := fun s4 : List D => [.hand, .dat q0, .dat q1, .own s4, .dat u2, .any, .any, .any, .any, .any, .any]) (t_cmp (op_eqA hr.units) d_eqA (e_r (e_v (pv 2))) (e_r e_int) (nomark _))
 (fun J5 => (s_setO (i := 3) (bs' := fun x6 => [.hand, .dat q0, .dat q1, .own x6, .dat u2, .any, .any, .any, .any, .any, .any]) (l_op op_rep d_mulL (e_r (e_l (l_lst (a_cons (e_call hgd (ok_l_pair hT) (hr.mono (by decide)) (by rfl) T.m_l_pair T.F_l_pair.kp T.b_l_pair (a_cons (e_callH (i := 0) hgd (ok_l_draw hT) (hr.mono (by decide)) (by rfl) T.m_l_draw T.F_l_draw.kp T.b_l_draw (a_hand (pv 0) (a_cons (e_v (pv 1)) a_nil))) (a_cons (e_callH (i := 0) hgd (ok_l_draw hT) (hr.mono (by decide)) (by rfl) T.m_l_draw T.F_l_draw.kp T.b_l_draw (a_hand (pv 0) (a_cons (e_v (pv 1)) a_nil))) a_nil))) a_nil)))) (e_r (e_callH (i := 0) hgd (ok_l_some hT) (hr.mono (by decide)) (by rfl) T.m_l_some T.F_l_some.kp T.b_l_some (a_hand (pv 0) (a_cons (e_l (l_lst (a_cons e_int (a_cons e_int (a_cons e_int (a_cons e_int (a_cons e_int a_nil))))))) a_nil))))) sc_l_ties.nd rfl (.inr rfl) (fun x6 =>
 (s_nil (n := ⟨List D, fun s4 => [.hand, .dat q0, .dat q1, .own s4, .dat u2, .any, .any, .any, .any, .any, .any], J5⟩) (s := (x6)) (.cons .refl (.cons .refl (.cons .refl (.cons .refl (.cons .refl (.cons .refl (.cons .refl (.cons .refl (.cons .refl (.cons .refl (.cons .refl .nil)))))))))))))))
 (fun J5 => (s_nil (n := ⟨List D, fun s4 => [.hand, .dat q0, .dat q1, .own s4, .dat u2, .any, .any, .any, .any, .any, .any], J5⟩) (s := (u1)) (.cons .refl (.cons .refl (.cons .refl (.cons .refl (.cons .refl (.cons .refl (.cons .refl (.cons .refl (.cons .refl (.cons .refl (.cons .refl .nil)))))))))))))
 (fun s4 =>
 (s_ifJ (f := fun s8 : List D => [.hand, .dat q0, .dat q1, .own s8, .dat u2, .any, .any, .any, .any, .any, .any]) (t_cmp (op_eqA hr.units) d_eqA (e_r (e_v (pv 2))) (e_r e_int) (nomark _))
 (fun J9 => (s_setO (i := 3) (bs' := fun x10 => [.hand, .dat q0, .dat q1, .own x10, .dat u2, .any, .any, .any, .any, .any, .any]) (l_lc (own := [("place", 10)]) (bw := [.hand, .dat q0, .dat q1, .own s4, .dat u2, .any, .any, .any, .any, .any, .any]) rfl sc_l_ties.nd (i_s (i_rg2 (by rfl) T.g_range (e_r e_int) (e_r (e_v (pv 1))))) (blkOk_by (own := [("place", 10)]) (N := N_l_ties) (sc := defScope s_l_ties) (by decide +kernel)) tg_n (by decide) rfl (fun _ _ _ _ _ => (pg_name (i := 10) sc_l_ties.nd rfl (.inl rfl))) (fun a11 _ _ _ _ _ => tt_nil) (fun a11 _ _ _ _ _ => (e_tup (a_cons (e_callH (i := 0) hgd (ok_l_draw hT) (hr.mono (by decide)) (by rfl) T.m_l_draw T.F_l_draw.kp T.b_l_draw (a_hand (pv 0) (a_cons (e_v (pv 10)) a_nil))) (a_cons (e_v (pv 10)) a_nil))))) sc_l_ties.nd rfl (.inr rfl) (fun x10 =>
 (s_nil (n := ⟨List D, fun s8 => [.hand, .dat q0, .dat q1, .own s8, .dat u2, .any, .any, .any, .any, .any, .any], J9⟩) (s := (x10)) (.cons .refl (.cons .refl (.cons .refl (.cons .refl (.cons .refl (.cons .refl (.cons .refl (.cons .refl (.cons .refl (.cons .refl (.cons .refl .nil)))))))))))))))
 (fun J9 => (s_nil (n := ⟨List D, fun s8 => [.hand, .dat q0, .dat q1, .own s8, .dat u2, .any, .any, .any, .any, .any, .any], J9⟩) (s := (s4)) (.cons .refl (.cons .refl (.cons .refl (.cons .refl (.cons .refl (.cons .refl (.cons .refl (.cons .refl (.cons .refl (.cons .refl (.cons .refl .nil)))))))))))))
 (fun s8 =>
 (s_ifJ (f := fun s13 : List D => [.hand, .dat q0, .dat q1, .own s13, .dat u2, .any, .any, .any, .any, .any, .any]) (t_cmp (op_eqA hr.units) d_eqA (e_r (e_v (pv 2))) (e_r e_int) (nomark _))
 (fun J14 => (s_setO (i := 3) (bs' := fun x15 => [.hand, .dat q0, .dat q1, .own x15, .dat u2, .any, .any, .any, .any, .any, .any]) (l_lc (own := [("place", 10)]) (bw := [.hand, .dat q0, .dat q1, .own s8, .dat u2, .any, .any, .any, .any, .any, .any]) rfl sc_l_ties.nd (i_s (i_rg1 (by rfl) T.g_range (e_r (e_v (pv 1))))) (blkOk_by (own := [("place", 10)]) (N := N_l_ties) (sc := defScope s_l_ties) (by decide +kernel)) tg_n (by decide) rfl (fun _ _ _ _ _ => (pg_name (i := 10) sc_l_ties.nd rfl (.inl rfl))) (fun a16 _ _ _ _ _ => tt_nil) (fun a16 _ _ _ _ _ => (e_call hgd (ok_l_pair hT) (hr.mono (by decide)) (by rfl) T.m_l_pair T.F_l_pair.kp T.b_l_pair (a_cons (e_v (pv 10)) (a_cons (e_op op_mod d_mod (e_r (e_ct call_int1 c_int (by rfl) T.g_int (r_cons (e_r (e_op op_addA d_add (e_r (e_v (pv 10))) (e_r e_int))) r_nil))) (e_r (e_v (pv 1)))) a_nil))))) sc_l_ties.nd rfl (.inr rfl) (fun x15 =>
 (s_nil (n := ⟨List D, fun s13 => [.hand, .dat q0, .dat q1, .own s13, .dat u2, .any, .any, .any, .any, .any, .any], J14⟩) (s := (x15)) (.cons .refl (.cons .refl (.cons .refl (.cons .refl (.cons .refl (.cons .refl (.cons .refl (.cons .refl (.cons .refl (.cons .refl (.cons .refl .nil)))))))))))))))
 (fun J14 => (s_nil (n := ⟨List D, fun s13 => [.hand, .dat q0, .dat q1, .own s13, .dat u2, .any, .any, .any, .any, .any, .any], J14⟩) (s := (s8)) (.cons .refl (.cons .refl (.cons .refl (.cons .refl (.cons .refl (.cons .refl (.cons .refl (.cons .refl (.cons .refl (.cons .refl (.cons .refl .nil)))))))))))))
 (fun s13 =>
 (s_forJ (ba := fun a20 s17 => [.hand, .dat q0, .dat q1, .own s17, .dat u2, .dat a20, .any, .any, .any, .any, .any]) (fl := (fun s17 : List D => [.hand, .dat q0, .dat q1, .own s17, .dat u2, .any, .any, .any, .any, .any, .any])) (fr := (fun s17 : List D => [.hand, .dat q0, .dat q1, .own s17, .dat u2, .any, .any, .any, .any, .any, .any])) (s0 := (s13)) PassesOwn.never rfl (i_rg1 (by rfl) T.g_range (e_r (e_if (t_chain op_lt d_cmp op_lt d_cmp (e_r e_int) (e_r (e_v (pv 2))) (e_r e_int)) (e_callH (i := 0) hgd (ok_l_some hT) (hr.mono (by decide)) (by rfl) T.m_l_some T.F_l_some.kp T.b_l_some (a_hand (pv 0) (a_cons (e_l (l_lst (a_cons e_int (a_cons e_int (a_cons e_int (a_cons e_int (a_cons e_int (a_cons e_int (a_cons e_int (a_cons e_int a_nil)))))))))) a_nil))) (e_callH (i := 0) hgd (ok_l_draw hT) (hr.mono (by decide)) (by rfl) T.m_l_draw T.F_l_draw.kp T.b_l_draw (a_hand (pv 0) (a_cons e_int a_nil)))))) (pg_name (i := 5) sc_l_ties.nd rfl (.inl rfl)) (fun _ => tg_n) (.cons .refl (.cons .refl (.cons .refl (.cons .refl (.cons .refl (.cons .refl (.cons .refl (.cons .refl (.cons .refl (.cons .refl (.cons .refl .nil))))))))))) (fun s17 => (.cons .refl (.cons .refl (.cons .refl (.cons .refl (.cons .refl (.cons .refl (.cons .refl (.cons .refl (.cons .refl (.cons .refl (.cons .refl .nil))))))))))))
 (fun A' eA1 a20 s17 kc18 KR19 =>
 (s_set (i := 6) (bs' := fun x21 => [.hand, .dat q0, .dat q1, .own s17, .dat u2, .dat a20, .dat x21, .any, .any, .any, .any]) (e_callH (i := 0) hgd (ok_l_draw hT) (hr.mono (by decide)) (by rfl) T.m_l_draw T.F_l_draw.kp T.b_l_draw (a_hand (pv 0) (a_cons (e_v (pv 4)) a_nil))) sc_l_ties.nd rfl (.inl rfl) (fun x21 =>
 (s_app (bs' := fun x22 => [.hand, .dat q0, .dat q1, .own (s17 ++ [x22]), .dat u2, .dat a20, .dat x21, .any, .any, .any, .any]) (pv 3) (e_call hgd (ok_l_pair hT) (hr.mono (by decide)) (by rfl) T.m_l_pair T.F_l_pair.kp T.b_l_pair (a_cons (e_v (pv 6)) (a_cons (e_if (t_cmp (op_eqA hr.units) d_eqA (e_r (e_callH (i := 0) hgd (ok_l_draw hT) (hr.mono (by decide)) (by rfl) T.m_l_draw T.F_l_draw.kp T.b_l_draw (a_hand (pv 0) (a_cons e_int a_nil)))) (e_r e_int) (nomark _)) (e_v (pv 6)) (e_callH (i := 0) hgd (ok_l_draw hT) (hr.mono (by decide)) (by rfl) T.m_l_draw T.F_l_draw.kp T.b_l_draw (a_hand (pv 0) (a_cons (e_v (pv 4)) a_nil)))) a_nil))) (fun x22 =>
 (s_nil (n := ⟨List D, (fun s17 : List D => [.hand, .dat q0, .dat q1, .own s17, .dat u2, .any, .any, .any, .any, .any, .any]), kc18⟩) (s := ((s17 ++ [x22]))) (.cons .refl (.cons .refl (.cons .refl (.cons .refl (.cons .refl (.cons .any (.cons .any (.cons .refl (.cons .refl (.cons .refl (.cons .refl .nil)))))))))))))))))
 (fun s17 =>
 (s_setO (i := 7) (bs' := fun x23 => [.hand, .dat q0, .dat q1, .own s17, .dat u2, .any, .any, .own x23, .any, .any, .any]) (l_rg rfl (by rfl) T.g_list (g_rg1 (by rfl) T.g_range (e_r (e_cb call_lenA c_len (by rfl) T.g_len (r_cons (e_vo (pv 3)) r_nil))))) sc_l_ties.nd rfl (.inl rfl) (fun x23 =>
 (s_forJ (ba := fun a27 s24 => [.hand, .dat q0, .dat q1, .own s17, .dat u2, .any, .any, .own s24, .dat a27, .any, .any]) (fl := (fun s24 : List D => [.hand, .dat q0, .dat q1, .own s17, .dat u2, .any, .any, .own s24, .any, .any, .any])) (fr := (fun s24 : List D => [.hand, .dat q0, .dat q1, .own s17, .dat u2, .any, .any, .own s24, .any, .any, .any])) (s0 := (x23)) PassesOwn.never rfl (i_rg1 (by rfl) T.g_range (e_r (e_cb call_lenA c_len (by rfl) T.g_len (r_cons (e_vo (pv 7)) r_nil)))) (pg_name (i := 8) sc_l_ties.nd rfl (.inl rfl)) (fun _ => tg_n) (.cons .refl (.cons .refl (.cons .refl (.cons .refl (.cons .refl (.cons .refl (.cons .refl (.cons .refl (.cons .refl (.cons .refl (.cons .refl .nil))))))))))) (fun s24 => (.cons .refl (.cons .refl (.cons .refl (.cons .refl (.cons .refl (.cons .refl (.cons .refl (.cons .refl (.cons .refl (.cons .refl (.cons .refl .nil))))))))))))
 (fun A' eA1 a27 s24 kc25 KR26 =>
 (s_set (i := 9) (bs' := fun x28 => [.hand, .dat q0, .dat q1, .own s17, .dat u2, .any, .any, .own s24, .dat a27, .dat x28, .any]) (e_op op_addA d_add (e_r (e_v (pv 8))) (e_r (e_callH (i := 0) hgd (ok_l_draw hT) (hr.mono (by decide)) (by rfl) T.m_l_draw T.F_l_draw.kp T.b_l_draw (a_hand (pv 0) (a_cons (e_op op_sub d_sub (e_r (e_cb call_lenA c_len (by rfl) T.g_len (r_cons (e_vo (pv 7)) r_nil))) (e_r (e_v (pv 8)))) a_nil))))) sc_l_ties.nd rfl (.inl rfl) (fun x28 =>
 (s_swp (bs' := fun u29 v30 p31 q32 => [.hand, .dat q0, .dat q1, .own s17, .dat u2, .any, .any, .own ((s24.set p31 u29).set q32 v30), .dat a27, .dat x28, .any]) rfl (pv 7) (pv 7) (e_r (e_v (pv 8))) (fun u29 p31 => (e_r (e_v (pv 9)))) (e_ix (e_vo (pv 7)) (e_r (e_v (pv 9)))) (e_ix (e_vo (pv 7)) (e_r (e_v (pv 8)))) (fun u29 v30 p31 q32 =>
 (s_nil (n := ⟨List D, (fun s24 : List D => [.hand, .dat q0, .dat q1, .own s17, .dat u2, .any, .any, .own s24, .any, .any, .any]), kc25⟩) (s := (((s24.set p31 u29).set q32 v30))) (.cons .refl (.cons .refl (.cons .refl (.cons .refl (.cons .refl (.cons .refl (.cons .refl (.cons .refl (.cons .any (.cons .any (.cons .refl .nil)))))))))))))))))
 (fun s24 =>
 (s_ret (e_ct KT.call_tupA c_tup (by rfl) T.g_tuple (r_cons (e_r (e_l (l_lc (own := [("at", 8)]) (bw := [.hand, .dat q0, .dat q1, .own s17, .dat u2, .any, .any, .own s24, .any, .any, .any]) rfl sc_l_ties.nd (i_s (i_seq (e_sl (e_vo (pv 7)) o_0 (o_1 (e_r e_int))))) (blkOk_by (own := [("at", 8)]) (N := N_l_ties) (sc := defScope s_l_ties) (by decide +kernel)) tg_n (by decide) rfl (fun _ _ _ _ _ => (pg_name (i := 8) sc_l_ties.nd rfl (.inl rfl))) (fun a33 _ _ _ _ _ => tt_nil) (fun a33 _ _ _ _ _ => (e_ix (e_vo (pv 3)) (e_r (e_v (pv 8)))))))) r_nil)))))))))))))))))⟩
    exact h.h
-- _law_parts: L slots 0:many 1:ties 2:lot 3:heads 4:tie 5:one 6:other 7:head 8:place
structure m_l_parts (q0 q1 q2 : D) (k : List D → Prop) : Prop where of ::
  h : ((wl (wRgL (wRg1 (wv q0)))) fun x1 => (wJ (fun (KR4 : D → Prop) => ((wSeq (wv q2)) fun items => forW (fun x s2 kc3 => ∃ a5 : D, x = (fun d : D => d) a5 ∧ ((wTup (wcons (w2 oIx (wv s2) (w2 oIx (w2 oIx (wv q1) (wv a5)) (wv (.int 0)))) (wcons (w2 oIx (wv s2) (w2 oIx (w2 oIx (wv q1) (wv a5)) (wv (.int 1)))) wnil))) fun d => ∃ a6 : D × D, d = (fun a : D × D => .tup [a.1, a.2]) a6 ∧ ((wl (wLc (fun d : D => d) (wSeq (wv s2)) (fun a8 : D => wYes) (fun a8 : D => (wIf (wTb (w2 oIn (wv a8) (wTup (wcons (wv a6.1) (wcons (wv a6.2) wnil))))) (wA oMin2 (wcons (wv a6.1) (wcons (wv a6.2) wnil))) (wv a8))))) fun x7 => (kc3 x7)))) items x1 KR4)) (fun (s2 : D) => ((wLc (fun d : D => d) (wSeq (wl (w1L oSortedSet (wv s2)))) (fun a9 : D => wYes) (fun a9 : D => (wA oTupOf (wcons (wl (wLc (fun d : D => d) (wRg (wRg1 (wv q0))) (fun a10 : D => (wTb (w2 oEqA (w2 oIx (wv s2) (wv a10)) (wv a9)))) (fun a10 : D => (wv a10)))) wnil)))) k))))
theorem ok_l_parts (hT : TX T cm) : KG.FnG P w K mg base 1 T.f_l_parts T.d_l_parts ["many", "ties", "lot"] (spL K cm false (mk3 m_l_parts)) :=
  def_L (N := N_l_parts) T.F_l_parts sc_l_parts (fun ds k h => mk3_len h) fun cdv A out s H E hgd hr g ds k l hc hm => by
    subst hc
    obtain ⟨q0, q1, q2, rfl, h⟩ := mk3_inv hm
    refine ⟨_, ?_, (s_set (i := 3) (bs' := fun x1 => [.dat q0, .dat q1, .dat q2, .dat x1, .any, .any, .any, .any, .any]) (e_l (l_rg rfl (by rfl) T.g_list (g_rg1 (by rfl) T.g_range (e_r (e_v (pv 0)))))) sc_l_parts.nd rfl (.inr rfl) (fun x1 =>
 (s_forJ (ba := fun a5 s2 => [.dat q0, .dat q1, .dat q2, .dat s2, .dat a5, .any, .any, .any, .any]) (fl := (fun s2 : D => [.dat q0, .dat q1, .dat q2, .dat s2, .any, .any, .any, .any, .any])) (fr := (fun s2 : D => [.dat q0, .dat q1, .dat q2, .dat s2, .any, .any, .any, .any, .any])) (s0 := (x1)) PassesOwn.never rfl (i_seq (e_v (pv 2))) (pg_name (i := 4) sc_l_parts.nd rfl (.inl rfl)) (fun _ => tg_n) (.cons .refl (.cons .refl (.cons .refl (.cons .refl (.cons .refl (.cons .refl (.cons .refl (.cons .refl (.cons .refl .nil))))))))) (fun s2 => (.cons .refl (.cons .refl (.cons .refl (.cons .refl (.cons .refl (.cons .refl (.cons .refl (.cons .refl (.cons .refl .nil))))))))))
 (fun A' eA1 a5 s2 kc3 KR4 =>
 (s_asg (bs' := fun a6 => [.dat q0, .dat q1, .dat q2, .dat s2, .dat a5, .dat a6.1, .dat a6.2, .any, .any]) (e_tup (a_cons (e_ix (e_r (e_v (pv 3))) (e_r (e_ix (e_r (e_ix (e_r (e_v (pv 1))) (e_r (e_v (pv 4))))) (e_r e_int)))) (a_cons (e_ix (e_r (e_v (pv 3))) (e_r (e_ix (e_r (e_ix (e_r (e_v (pv 1))) (e_r (e_v (pv 4))))) (e_r e_int)))) a_nil))) (pg_tup rfl (pgs_cons (pg_name (i := 5) sc_l_parts.nd rfl (.inr rfl)) (pgs_cons (pg_name (i := 6) sc_l_parts.nd rfl (.inr rfl)) pgs_nil))) (tg_2 tg_n tg_n) (fun a6 =>
 (s_set (i := 3) (bs' := fun x7 => [.dat q0, .dat q1, .dat q2, .dat x7, .dat a5, .dat a6.1, .dat a6.2, .any, .any]) (e_l (l_lc (own := [("head", 7)]) (bw := [.dat q0, .dat q1, .dat q2, .dat s2, .dat a5, .dat a6.1, .dat a6.2, .any, .any]) rfl sc_l_parts.nd (i_s (i_seq (e_v (pv 3)))) (blkOk_by (own := [("head", 7)]) (N := N_l_parts) (sc := defScope s_l_parts) (by decide +kernel)) tg_n (by decide) rfl (fun _ _ _ _ _ => (pg_name (i := 7) sc_l_parts.nd rfl (.inl rfl))) (fun a8 _ _ _ _ _ => tt_nil) (fun a8 _ _ _ _ _ => (e_if (t_cmp (op_inA (u65 hr)) d_inA (e_r (e_v (pv 7))) (e_r (e_tup (a_cons (e_v (pv 5)) (a_cons (e_v (pv 6)) a_nil)))) (by rfl)) (e_cb (call_min2 rfl) c_min2 (by rfl) T.g_min (r_cons (e_r (e_v (pv 5))) (r_cons (e_r (e_v (pv 6))) r_nil))) (e_v (pv 7)))))) sc_l_parts.nd rfl (.inr rfl) (fun x7 =>
 (s_nil (n := ⟨D, (fun s2 : D => [.dat q0, .dat q1, .dat q2, .dat s2, .any, .any, .any, .any, .any]), kc3⟩) (s := (x7)) (.cons .refl (.cons .refl (.cons .refl (.cons .refl (.cons .any (.cons .any (.cons .any (.cons .refl (.cons .refl .nil)))))))))))))))
 (fun s2 =>
 (s_retL (l_lc (own := [("head", 7)]) (bw := [.dat q0, .dat q1, .dat q2, .dat s2, .any, .any, .any, .any, .any]) rfl sc_l_parts.nd (i_s (i_seq (e_l (l_sortedSet rfl (by rfl) T.g_sorted (by rfl) T.g_set (e_r (e_v (pv 3))))))) (blkOk_by (own := [("head", 7)]) (N := N_l_parts) (sc := defScope s_l_parts) (by decide +kernel)) tg_n (by decide) rfl (fun _ _ _ _ _ => (pg_name (i := 7) sc_l_parts.nd rfl (.inr rfl))) (fun a9 _ _ _ _ _ => tt_nil) (fun a9 _ _ _ _ _ => (e_ct KT.call_tupA c_tup (by rfl) T.g_tuple (r_cons (e_r (e_l (l_lc (own := [("place", 8)]) (bw := [.dat q0, .dat q1, .dat q2, .dat s2, .any, .any, .any, .dat a9, .any]) rfl sc_l_parts.nd (i_s (i_rg1 (by rfl) T.g_range (e_r (e_v (pv 0))))) (blkOk_by (own := [("place", 8)]) (N := N_l_parts) (sc := { kind := .function, names := [(".0", .local), ("head", .cell), ("tuple", .globalImplicit), ("range", .globalImplicit), ("heads", .cell), ("many", .cell)], isGenerator := false, isCoroutine := false }) (by decide +kernel)) tg_n (by decide) rfl (fun _ _ _ _ _ => (pg_name (i := 8) sc_l_parts.nd rfl (.inl rfl))) (fun a10 _ _ _ _ _ => (tt_one (t_cmp (op_eqA hr.units) d_eqA (e_r (e_ix (e_r (e_v (pv 3))) (e_r (e_v (pv 8))))) (e_r (e_v (pv 7))) (nomark _)))) (fun a10 _ _ _ _ _ => (e_v (pv 8)))))) r_nil)))))))))⟩
    exact h.h
end
end K04
set_option Elab.async false
set_option linter.all false
set_option maxRecDepth 100000
set_option maxHeartbeats 4000000
/-! Defs. -/
namespace K04
open PySem L2 FE PySem.Spec
section
variable {P : Program} {w : World} {K : PySem.W.Frag} {mg : Str → Option Value} {base : Heap} {T : Tx K mg} {cm : FE.Cm}
-- _law_is: M slots 0:told 1:due 2:one 3:two
structure mB_l_is (rq : D → D → (D → Prop) → Prop) (q0 q1 : D) (k : D → Prop) : Prop where of ::
  h : (wJ (fun (J3 : Unit → Prop) => ((wTb (wIsi (fun d => isB .tup d || isB .lst d) (wv q1))) fun y1 => if y1 = true then (wJ (fun (J6 : Unit → Prop) => ((wOr (wTb (w2 oNeA (wIsi (isB .tup) (wv q0)) (wIsi (isB .tup) (wv q1)))) (wNt (wTb (wIsi (fun d => isB .tup d || isB .lst d) (wv q0))))) fun y4 => if y4 = true then ((wv (.bl false)) k) else (J6 ()))) (fun (s5 : Unit) => ((wAndV (w2 oEqA (wA oLen (wcons (wv q0) wnil)) (wA oLen (wcons (wv q1) wnil))) (wA oAll (wcons (wl (wLc (fun a : D × D => .tup [a.1, a.2]) (wZip (wv q0) (wv q1)) (fun a7 : D × D => wYes) (fun a7 : D × D => (wA (mk2 rq) (wcons (wv a7.1) (wcons (wv a7.2) wnil)))))) wnil))) k))) else (J3 ()))) (fun (s2 : Unit) => (wJ (fun (J10 : Unit → Prop) => ((wOr (wTb (w2 oNeA (wIsi (isB .int) (wv q0)) (wIsi (isB .int) (wv q1)))) (wTb (w2 oNeA (wIsi (isB .bool) (wv q0)) (wIsi (isB .bool) (wv q1))))) fun y8 => if y8 = true then ((wv (.bl false)) k) else (J10 ()))) (fun (s9 : Unit) => ((w2 oEqA (wv q0) (wv q1)) k)))))
def m_l_is : Nat → D → D → (D → Prop) → Prop
  | 0 => fun _ _ _ => False
  | n + 1 => mB_l_is (m_l_is n)
theorem ok_l_is (hT : TX T cm) : ∀ n, KG.FnG P w K mg base (n + 1) T.f_l_is T.d_l_is ["told", "due"] (spM K cm false (mk2 (m_l_is n)))
  | 0 => rec0 fun ds k hm => by obtain ⟨q0, q1, rfl, h⟩ := mk2_inv hm; exact h
  | n + 1 => by
   have okr := ok_l_is hT n
   exact def_M (N := N_l_is) T.F_l_is sc_l_is (fun ds k h => mk2_len h) fun cdv A out s H E hgd hr g ds k l hc hm => by
    subst hc
    obtain ⟨q0, q1, rfl, h⟩ := mk2_inv hm
    refine ⟨_, ?_, (s_ifJ (f := fun s2 : Unit => [.dat q0, .dat q1, .any, .any]) (t_val (e_r (e_isi2 .tup .lst (by rfl) T.g_isinstance (by decide +kernel) (e_r (e_v (pv 1))) (pe_ty (by rfl) T.g_tuple (by decide +kernel)) (pe_ty (by rfl) T.g_list (by decide +kernel)))))
 (fun J3 => (s_ifJ (f := fun s5 : Unit => [.dat q0, .dat q1, .any, .any]) (PW.pt (t_or (t_cmp (op_neA hr.units) d_neA (e_r (e_isi .tup (by rfl) T.g_isinstance (by decide +kernel) (e_r (e_v (pv 0))) (pe_ty (by rfl) T.g_tuple (by decide +kernel)))) (e_r (e_isi .tup (by rfl) T.g_isinstance (by decide +kernel) (e_r (e_v (pv 1))) (pe_ty (by rfl) T.g_tuple (by decide +kernel)))) (nomark _)) (t_or1 (t_not (t_val (e_r (e_isi2 .tup .lst (by rfl) T.g_isinstance (by decide +kernel) (e_r (e_v (pv 0))) (pe_ty (by rfl) T.g_tuple (by decide +kernel)) (pe_ty (by rfl) T.g_list (by decide +kernel)))))))))
 (fun J6 => (s_ret e_bl))
 (fun J6 => (s_nil (n := ⟨Unit, fun s5 => [.dat q0, .dat q1, .any, .any], J6⟩) (s := (())) (.cons .refl (.cons .refl (.cons .refl (.cons .refl .nil))))))
 (fun s5 =>
 (s_ret (e_and (e_r (e_cmp (op_eqA hr.units) d_eqA (e_r (e_cb call_lenA c_len (by rfl) T.g_len (r_cons (e_r (e_v (pv 0))) r_nil))) (e_r (e_cb call_lenA c_len (by rfl) T.g_len (r_cons (e_r (e_v (pv 1))) r_nil))) (nomark _))) (e_one (e_cb (cr_all rfl) c_all (by rfl) T.g_all (r_cons (e_r (e_l (l_lc (own := [("one", 2), ("two", 3)]) (bw := [.dat q0, .dat q1, .any, .any]) rfl sc_l_is.nd (i_s (i_zip (by rfl) T.g_zip (e_v (pv 0)) (e_v (pv 1)))) (blkOk_by (own := [("one", 2), ("two", 3)]) (N := N_l_is) (sc := defScope s_l_is) (by decide +kernel)) (tg_2 tg_n tg_n) (by decide) rfl (fun _ _ _ _ _ => (pg_tup rfl (pgs_cons (pg_name (i := 2) sc_l_is.nd rfl (.inl rfl)) (pgs_cons (pg_name (i := 3) sc_l_is.nd rfl (.inl rfl)) pgs_nil)))) (fun a7 _ _ _ _ _ => tt_nil) (fun a7 _ _ _ _ _ => (e_call hgd okr (hr.mono (by omega)) (by rfl) T.m_l_is T.F_l_is.kp T.b_l_is (a_cons (e_v (pv 2)) (a_cons (e_v (pv 3)) a_nil))))))) r_nil))))))))
 (fun J3 => (s_nil (n := ⟨Unit, fun s2 => [.dat q0, .dat q1, .any, .any], J3⟩) (s := (())) (.cons .refl (.cons .refl (.cons .refl (.cons .refl .nil))))))
 (fun s2 =>
 (s_ifJ (f := fun s9 : Unit => [.dat q0, .dat q1, .any, .any]) (PW.pt (t_or (t_cmp (op_neA hr.units) d_neA (e_r (e_isi .int (by rfl) T.g_isinstance (by decide +kernel) (e_r (e_v (pv 0))) (pe_ty (by rfl) T.g_int (by decide +kernel)))) (e_r (e_isi .int (by rfl) T.g_isinstance (by decide +kernel) (e_r (e_v (pv 1))) (pe_ty (by rfl) T.g_int (by decide +kernel)))) (nomark _)) (t_or1 (t_cmp (op_neA hr.units) d_neA (e_r (e_isi .bool (by rfl) T.g_isinstance (by decide +kernel) (e_r (e_v (pv 0))) (pe_ty (by rfl) T.g_bool (by decide +kernel)))) (e_r (e_isi .bool (by rfl) T.g_isinstance (by decide +kernel) (e_r (e_v (pv 1))) (pe_ty (by rfl) T.g_bool (by decide +kernel)))) (nomark _)))))
 (fun J10 => (s_ret e_bl))
 (fun J10 => (s_nil (n := ⟨Unit, fun s9 => [.dat q0, .dat q1, .any, .any], J10⟩) (s := (())) (.cons .refl (.cons .refl (.cons .refl (.cons .refl .nil))))))
 (fun s9 =>
 (s_ret (e_cmp (op_eqA hr.units) d_eqA (e_r (e_v (pv 0))) (e_r (e_v (pv 1))) (nomark _)))))))⟩
    exact h.h
-- _law_lot: M hand slots 0:hand 1:many 2:share 3:at
structure m_l_lot (q0 : D) (k : D → Prop) : Prop where of ::
  h : ((wA (mk1 m_l_some) (wcons (wl (wLst (wcons (wv (.int 0)) (wcons (wv (.int 2)) (wcons (wv (.int 5)) (wcons (wv (.int 8)) (wcons (wv (.int 10)) wnil))))))) wnil)) fun x1 => ((wA oTupOf (wcons (wl (wLc (fun d : D => d) (wRg (wRg1 (wv q0))) (fun a2 : D => (wTb (w2 (oCmp (fun i j => decide (i < j))) (wA (mk1 m_l_draw) (wcons (wv (.int 10)) wnil)) (wv x1)))) (fun a2 : D => (wv a2)))) wnil)) k))
theorem ok_l_lot (hT : TX T cm) : KG.FnG P w K mg base 3 T.f_l_lot T.d_l_lot ["hand", "many"] (spM K cm true (mk1 m_l_lot)) :=
  def_M (N := N_l_lot) T.F_l_lot sc_l_lot (fun ds k h => congrArg (· + 1) (mk1_len h)) fun cdv A out s H E hgd hr g ds k l hc hm => by
    subst hc
    obtain ⟨q0, rfl, h⟩ := mk1_inv hm
    refine ⟨_, ?_, (s_set (i := 2) (bs' := fun x1 => [.hand, .dat q0, .dat x1, .any]) (e_callH (i := 0) hgd (ok_l_some hT) (hr.mono (by decide)) (by rfl) T.m_l_some T.F_l_some.kp T.b_l_some (a_hand (pv 0) (a_cons (e_l (l_lst (a_cons e_int (a_cons e_int (a_cons e_int (a_cons e_int (a_cons e_int a_nil))))))) a_nil))) sc_l_lot.nd rfl (.inr rfl) (fun x1 =>
 (s_ret (e_ct KT.call_tupA c_tup (by rfl) T.g_tuple (r_cons (e_r (e_l (l_lc (own := [("at", 3)]) (bw := [.hand, .dat q0, .dat x1, .any]) rfl sc_l_lot.nd (i_s (i_rg1 (by rfl) T.g_range (e_r (e_v (pv 1))))) (blkOk_by (own := [("at", 3)]) (N := N_l_lot) (sc := defScope s_l_lot) (by decide +kernel)) tg_n (by decide) rfl (fun _ _ _ _ _ => (pg_name (i := 3) sc_l_lot.nd rfl (.inl rfl))) (fun a2 _ _ _ _ _ => (tt_one (t_cmp op_lt d_cmp (e_r (e_callH (i := 0) hgd (ok_l_draw hT) (hr.mono (by decide)) (by rfl) T.m_l_draw T.F_l_draw.kp T.b_l_draw (a_hand (pv 0) (a_cons e_int a_nil)))) (e_r (e_v (pv 2))) (nomark _)))) (fun a2 _ _ _ _ _ => (e_v (pv 3)))))) r_nil)))))⟩
    exact h.h
-- _law_deep: M hand slots 0:hand 1:found 2:turn
structure m_l_deep (k : D → Prop) : Prop where of ::
  h : ((wA (mk1 m_l_some) (wcons (wl (wLst (wcons (wv .non) (wcons (wv (.int 0)) (wcons (wv (.str "a")) (wcons (wTup wnil) wnil)))))) wnil)) fun x1 => (wJ (fun (KR4 : D → Prop) => ((wRg (wRg1 (w2 oAdd (wv (.int 20)) (wA (mk1 m_l_draw) (wcons (wv (.int 15)) wnil))))) fun items => forW (fun x s2 kc3 => ∃ a5 : D, x = (fun d : D => d) a5 ∧ ((w2 oIx (wl (wLst (wcons (wTup (wcons (wv s2) wnil)) (wcons (wl (wLst (wcons (wv s2) wnil))) (wcons (wSl oSl (wTup (wcons (wv s2) (wcons (wv s2) wnil))) wO0 (wO1 (wv (.int 1)))) (wcons (w1 (fun d k => k (.dic [kD (.inl 0)] [d])) (wv s2)) wnil)))))) (wA (mk1 m_l_draw) (wcons (wv (.int 4)) wnil))) fun x6 => (kc3 x6))) items x1 KR4)) (fun (s2 : D) => ((wv s2) k))))
theorem ok_l_deep (hT : TX T cm) : KG.FnG P w K mg base 3 T.f_l_deep T.d_l_deep ["hand"] (spM K cm true (mk0 m_l_deep)) :=
  def_M (N := N_l_deep) T.F_l_deep sc_l_deep (fun ds k h => congrArg (· + 1) (mk0_len h)) fun cdv A out s H E hgd hr g ds k l hc hm => by
    subst hc
    obtain ⟨rfl, h⟩ := mk0_inv hm
    refine ⟨_, ?_, (s_set (i := 1) (bs' := fun x1 => [.hand, .dat x1, .any]) (e_callH (i := 0) hgd (ok_l_some hT) (hr.mono (by decide)) (by rfl) T.m_l_some T.F_l_some.kp T.b_l_some (a_hand (pv 0) (a_cons (e_l (l_lst (a_cons e_non (a_cons e_int (a_cons e_str (a_cons (e_tup a_nil) a_nil)))))) a_nil))) sc_l_deep.nd rfl (.inl rfl) (fun x1 =>
 (s_forJ (ba := fun a5 s2 => [.hand, .dat s2, .dat a5]) (fl := (fun s2 : D => [.hand, .dat s2, .any])) (fr := (fun s2 : D => [.hand, .dat s2, .any])) (s0 := (x1)) PassesOwn.never rfl (i_rg1 (by rfl) T.g_range (e_r (e_op op_addA d_add (e_r e_int) (e_r (e_callH (i := 0) hgd (ok_l_draw hT) (hr.mono (by decide)) (by rfl) T.m_l_draw T.F_l_draw.kp T.b_l_draw (a_hand (pv 0) (a_cons e_int a_nil))))))) (pg_name (i := 2) sc_l_deep.nd rfl (.inl rfl)) (fun _ => tg_n) (.cons .refl (.cons .refl (.cons .refl .nil))) (fun s2 => (.cons .refl (.cons .refl (.cons .refl .nil))))
 (fun A' eA1 a5 s2 kc3 KR4 =>
 (s_set (i := 1) (bs' := fun x6 => [.hand, .dat x6, .dat a5]) (e_ix (e_r (e_l (l_lst (a_cons (e_tup (a_cons (e_v (pv 1)) a_nil)) (a_cons (e_l (l_lst (a_cons (e_v (pv 1)) a_nil))) (a_cons (e_sl (e_r (e_tup (a_cons (e_v (pv 1)) (a_cons (e_v (pv 1)) a_nil)))) o_0 (o_1 (e_r e_int))) (a_cons (e_dic1 (key := (.inl 0)) pe_int (e_v (pv 1))) a_nil))))))) (e_r (e_callH (i := 0) hgd (ok_l_draw hT) (hr.mono (by decide)) (by rfl) T.m_l_draw T.F_l_draw.kp T.b_l_draw (a_hand (pv 0) (a_cons e_int a_nil))))) sc_l_deep.nd rfl (.inl rfl) (fun x6 =>
 (s_nil (n := ⟨D, (fun s2 : D => [.hand, .dat s2, .any]), kc3⟩) (s := (x6)) (.cons .refl (.cons .refl (.cons .any .nil)))))))
 (fun s2 =>
 (s_ret (e_v (pv 1)))))))⟩
    exact h.h
-- _law_odd_lot: M hand slots 0:hand 1:lot 2:many 3:at 4:some 5:flags 6:one
structure m_l_odd_lot (q0 q1 : D) (k : D → Prop) : Prop where of ::
  h : ((wA (mk1 m_l_draw) (wcons (w2 oAdd (wA oLen (wcons (wv q0) wnil)) (wv (.int 1))) wnil)) fun x1 => ((wl (wLst (wcons (wl (wAL oListOf (wcons (wv q0) wnil))) (wcons (w2 oAdd (wv q0) (wTup (wcons (wv q1) wnil))) (wcons (wTup (wcons (wv q1) wnil)) (wcons (wTup (wcons (w1 oNeg (wv (.int 1))) wnil)) (wcons (wTup (wcons (wv (.int 0)) (wcons (wv (.int 0)) wnil))) (wcons (w2 oAdd (wv q0) (wSl oSl (wv q0) (wO1 (w1 oNeg (wv (.int 1)))) wO0)) (wcons (w2 oAdd (w2 oAdd (wSl oSl (wv q0) wO0 (wO1 (wv x1))) (wTup (wcons (wv .non) wnil))) (wSl oSl (wv q0) (wO1 (wv x1)) wO0)) (wcons (wTup (wcons (wv (.bl true)) wnil)) wnil)))))))))) fun x2 => ((w2 oAdd (wv x2) (wl (wLst (wcons (wv .non) (wcons (w1 oRev (wv q0)) (wcons (wTup (wcons (wv (.str "0")) wnil)) (wcons (wv (.int 0)) (wcons (wv (.dic [] [])) (wcons (wv (.str "")) (wcons (wl (wLst wnil)) (wcons (wTup (wcons (wTup wnil) wnil)) (wcons (wTup (wcons (w2 oPow (wv (.int 10)) (wv (.int 19))) wnil)) (wcons (w2 oAdd (w2 oAdd (wSl oSl (wv q0) wO0 (wO1 (wv x1))) (wTup (wcons (w1 oNeg (wv (.int 1))) wnil))) (wSl oSl (wv q0) (wO1 (wv x1)) wO0)) wnil))))))))))))) fun x3 => ((wA oTupOf (wcons (wl (wLc (fun d : D => d) (wSeq (wv q0)) (fun a5 : D => wYes) (fun a5 : D => (wIf (wTb (w2 (oCmp (fun i j => decide (i < j))) (wv a5) (wv (.int 2)))) (w2 oEqA (wv a5) (wv (.int 1))) (wv a5))))) wnil)) fun x4 => ((wA (mk1 m_l_some) (wcons (w2 oAdd (wv x3) (wl (wLst (wcons (wA (mk0 m_l_deep) wnil) (wcons (wv x4) (wcons (w2 oAdd (w2 oAdd (wSl oSl (wv q0) wO0 (wO1 (wv x1))) (w2 oMul (wSl oSl (wv q0) (wO1 (wv x1)) (wO1 (w2 oAdd (wv x1) (wv (.int 1))))) (wv (.int 2)))) (wSl oSl (wv q0) (wO1 (w2 oAdd (wv x1) (wv (.int 1)))) wO0)) wnil)))))) wnil)) k)))))
theorem ok_l_odd_lot (hT : TX T cm) : KG.FnG P w K mg base 4 T.f_l_odd_lot T.d_l_odd_lot ["hand", "lot", "many"] (spM K cm true (mk2 m_l_odd_lot)) :=
  def_M (N := N_l_odd_lot) T.F_l_odd_lot sc_l_odd_lot (fun ds k h => congrArg (· + 1) (mk2_len h)) fun cdv A out s H E hgd hr g ds k l hc hm => by
    subst hc
    obtain ⟨q0, q1, rfl, h⟩ := mk2_inv hm
    refine ⟨_, ?_, (s_set (i := 3) (bs' := fun x1 => [.hand, .dat q0, .dat q1, .dat x1, .any, .any, .any]) (e_callH (i := 0) hgd (ok_l_draw hT) (hr.mono (by decide)) (by rfl) T.m_l_draw T.F_l_draw.kp T.b_l_draw (a_hand (pv 0) (a_cons (e_op op_addA d_add (e_r (e_cb call_lenA c_len (by rfl) T.g_len (r_cons (e_r (e_v (pv 1))) r_nil))) (e_r e_int)) a_nil))) sc_l_odd_lot.nd rfl (.inl rfl) (fun x1 =>
 (s_set (i := 4) (bs' := fun x2 => [.hand, .dat q0, .dat q1, .dat x1, .dat x2, .any, .any]) (e_l (l_lst (a_cons (e_l (l_ct call_list_of c_list (by rfl) T.g_list (r_cons (e_r (e_v (pv 1))) r_nil))) (a_cons (e_op op_addA d_add (e_r (e_v (pv 1))) (e_r (e_tup (a_cons (e_v (pv 2)) a_nil)))) (a_cons (e_tup (a_cons (e_v (pv 2)) a_nil)) (a_cons (e_tup (a_cons (e_neg (e_r e_int)) a_nil)) (a_cons (e_tup (a_cons e_int (a_cons e_int a_nil))) (a_cons (e_op op_addA d_add (e_r (e_v (pv 1))) (e_r (e_sl (e_r (e_v (pv 1))) (o_1 (e_r (e_neg (e_r e_int)))) o_0))) (a_cons (e_op op_addA d_add (e_r (e_op op_addA d_add (e_r (e_sl (e_r (e_v (pv 1))) o_0 (o_1 (e_r (e_v (pv 3)))))) (e_r (e_tup (a_cons e_non a_nil))))) (e_r (e_sl (e_r (e_v (pv 1))) (o_1 (e_r (e_v (pv 3)))) o_0))) (a_cons (e_tup (a_cons e_bl a_nil)) a_nil)))))))))) sc_l_odd_lot.nd rfl (.inl rfl) (fun x2 =>
 (s_set (i := 4) (bs' := fun x3 => [.hand, .dat q0, .dat q1, .dat x1, .dat x3, .any, .any]) (e_op op_addA d_add (e_r (e_v (pv 4))) (e_r (e_l (l_lst (a_cons e_non (a_cons (e_revT (e_r (e_v (pv 1)))) (a_cons (e_tup (a_cons e_str a_nil)) (a_cons e_int (a_cons e_dic0 (a_cons e_str (a_cons (e_l (l_lst a_nil)) (a_cons (e_tup (a_cons (e_tup a_nil) a_nil)) (a_cons (e_tup (a_cons (e_op op_pow d_pow (e_r e_int) (e_r e_int)) a_nil)) (a_cons (e_op op_addA d_add (e_r (e_op op_addA d_add (e_r (e_sl (e_r (e_v (pv 1))) o_0 (o_1 (e_r (e_v (pv 3)))))) (e_r (e_tup (a_cons (e_neg (e_r e_int)) a_nil))))) (e_r (e_sl (e_r (e_v (pv 1))) (o_1 (e_r (e_v (pv 3)))) o_0))) a_nil)))))))))))))) sc_l_odd_lot.nd rfl (.inl rfl) (fun x3 =>
 (s_set (i := 5) (bs' := fun x4 => [.hand, .dat q0, .dat q1, .dat x1, .dat x3, .dat x4, .any]) (e_ct KT.call_tupA c_tup (by rfl) T.g_tuple (r_cons (e_r (e_l (l_lc (own := [("one", 6)]) (bw := [.hand, .dat q0, .dat q1, .dat x1, .dat x3, .any, .any]) rfl sc_l_odd_lot.nd (i_s (i_seq (e_v (pv 1)))) (blkOk_by (own := [("one", 6)]) (N := N_l_odd_lot) (sc := defScope s_l_odd_lot) (by decide +kernel)) tg_n (by decide) rfl (fun _ _ _ _ _ => (pg_name (i := 6) sc_l_odd_lot.nd rfl (.inl rfl))) (fun a5 _ _ _ _ _ => tt_nil) (fun a5 _ _ _ _ _ => (e_if (t_cmp op_lt d_cmp (e_r (e_v (pv 6))) (e_r e_int) (nomark _)) (e_cmp (op_eqA hr.units) d_eqA (e_r (e_v (pv 6))) (e_r e_int) (nomark _)) (e_v (pv 6))))))) r_nil)) sc_l_odd_lot.nd rfl (.inl rfl) (fun x4 =>
 (s_ret (e_callH (i := 0) hgd (ok_l_some hT) (hr.mono (by decide)) (by rfl) T.m_l_some T.F_l_some.kp T.b_l_some (a_hand (pv 0) (a_cons (e_op op_addA d_add (e_r (e_v (pv 4))) (e_r (e_l (l_lst (a_cons (e_callH (i := 0) hgd (ok_l_deep hT) (hr.mono (by decide)) (by rfl) T.m_l_deep T.F_l_deep.kp T.b_l_deep (a_hand (pv 0) a_nil)) (a_cons (e_v (pv 5)) (a_cons (e_op op_addA d_add (e_r (e_op op_addA d_add (e_r (e_sl (e_r (e_v (pv 1))) o_0 (o_1 (e_r (e_v (pv 3)))))) (e_r (e_op op_mulA d_mul (e_r (e_sl (e_r (e_v (pv 1))) (o_1 (e_r (e_v (pv 3)))) (o_1 (e_r (e_op op_addA d_add (e_r (e_v (pv 3))) (e_r e_int)))))) (e_r e_int))))) (e_r (e_sl (e_r (e_v (pv 1))) (o_1 (e_r (e_op op_addA d_add (e_r (e_v (pv 3))) (e_r e_int)))) o_0))) a_nil))))))) a_nil))))))))))))⟩
    exact h.h
-- _law_is_lot: M slots 0:thing 1:many 2:ahead 3:one
structure m_l_is_lot (q0 q1 : D) (k : D → Prop) : Prop where of ::
  h : (wJ (fun (J3 : Unit → Prop) => ((wNt (wTb (wIsi (isB .tup) (wv q0)))) fun y1 => if y1 = true then ((wv (.bl false)) k) else (J3 ()))) (fun (s2 : Unit) => ((w1 oNeg (wv (.int 1))) fun x4 => (wJ (fun (KR7 : D → Prop) => ((wSeq (wv q0)) fun items => forW (fun x s5 kc6 => ∃ a8 : D, x = (fun d : D => d) a8 ∧ (wJ (fun (J11 : Unit → Prop) => ((wOr (wNt (wTb (wIsi (isB .int) (wv a8)))) (wOr (wTb (wIsi (isB .bool) (wv a8))) (wOr (wTb (w2 (oCmp (fun i j => decide (i ≤ j))) (wv a8) (wv s5))) (wTb (w2 (oCmp (fun i j => decide (i ≥ j))) (wv a8) (wv q1)))))) fun y9 => if y9 = true then ((wv (.bl false)) k) else (J11 ()))) (fun (s10 : Unit) => ((wv a8) fun x12 => (kc6 x12))))) items x4 KR7)) (fun (s5 : D) => ((wv (.bl true)) k))))))
theorem ok_l_is_lot (hT : TX T cm) : KG.FnG P w K mg base 1 T.f_l_is_lot T.d_l_is_lot ["thing", "many"] (spM K cm false (mk2 m_l_is_lot)) :=
  def_M (N := N_l_is_lot) T.F_l_is_lot sc_l_is_lot (fun ds k h => mk2_len h) fun cdv A out s H E hgd hr g ds k l hc hm => by
    subst hc
    obtain ⟨q0, q1, rfl, h⟩ := mk2_inv hm
    refine ⟨_, ?_, (s_ifJ (f := fun s2 : Unit => [.dat q0, .dat q1, .any, .any]) (t_not (t_val (e_r (e_isi .tup (by rfl) T.g_isinstance (by decide +kernel) (e_r (e_v (pv 0))) (pe_ty (by rfl) T.g_tuple (by decide +kernel))))))
 (fun J3 => (s_ret e_bl))
 (fun J3 => (s_nil (n := ⟨Unit, fun s2 => [.dat q0, .dat q1, .any, .any], J3⟩) (s := (())) (.cons .refl (.cons .refl (.cons .refl (.cons .refl .nil))))))
 (fun s2 =>
 (s_set (i := 2) (bs' := fun x4 => [.dat q0, .dat q1, .dat x4, .any]) (e_neg (e_r e_int)) sc_l_is_lot.nd rfl (.inl rfl) (fun x4 =>
 (s_forJ (ba := fun a8 s5 => [.dat q0, .dat q1, .dat s5, .dat a8]) (fl := (fun s5 : D => [.dat q0, .dat q1, .dat s5, .any])) (fr := (fun s5 : D => [.dat q0, .dat q1, .dat s5, .any])) (s0 := (x4)) PassesOwn.never rfl (i_seq (e_v (pv 0))) (pg_name (i := 3) sc_l_is_lot.nd rfl (.inl rfl)) (fun _ => tg_n) (.cons .refl (.cons .refl (.cons .refl (.cons .refl .nil)))) (fun s5 => (.cons .refl (.cons .refl (.cons .refl (.cons .refl .nil)))))
 (fun A' eA1 a8 s5 kc6 KR7 =>
 (s_ifJ (f := fun s10 : Unit => [.dat q0, .dat q1, .dat s5, .dat a8]) (PW.pt (t_or (t_not (t_val (e_r (e_isi .int (by rfl) T.g_isinstance (by decide +kernel) (e_r (e_v (pv 3))) (pe_ty (by rfl) T.g_int (by decide +kernel)))))) (t_or (t_val (e_r (e_isi .bool (by rfl) T.g_isinstance (by decide +kernel) (e_r (e_v (pv 3))) (pe_ty (by rfl) T.g_bool (by decide +kernel))))) (t_or (t_cmp op_le d_cmp (e_r (e_v (pv 3))) (e_r (e_v (pv 2))) (nomark _)) (t_or1 (t_cmp op_ge d_cmp (e_r (e_v (pv 3))) (e_r (e_v (pv 1))) (nomark _)))))))
 (fun J11 => (s_ret e_bl))
 (fun J11 => (s_nil (n := ⟨Unit, fun s10 => [.dat q0, .dat q1, .dat s5, .dat a8], J11⟩) (s := (())) (.cons .refl (.cons .refl (.cons .refl (.cons .refl .nil))))))
 (fun s10 =>
 (s_set (i := 2) (bs' := fun x12 => [.dat q0, .dat q1, .dat x12, .dat a8]) (e_v (pv 3)) sc_l_is_lot.nd rfl (.inl rfl) (fun x12 =>
 (s_nil (n := ⟨D, (fun s5 : D => [.dat q0, .dat q1, .dat s5, .any]), kc6⟩) (s := (x12)) (.cons .refl (.cons .refl (.cons .refl (.cons .any .nil))))))))))
 (fun s5 =>
 (s_ret e_bl)))))))⟩
    exact h.h
-- _law_word: M slots 0:call 1:error
structure m_l_word (qc : (D → Prop) → Xd → Prop) (k : D → Prop) : Prop where of ::
  h : (wJ (fun (J2 : Unit → Prop) => ((fun kq => qc kq (xTry "PaintError" (fun c4 fs5 => ((wIf (wAnd (wTb (wv (.bl (subX c4 "NoTies")))) (wTb (wv (.bl true)))) (wv (.str "ties")) (wv (.str "other"))) k)) xNo)) fun _ => (J2 ()))) (fun (s1 : Unit) => ((wv (.str "let")) k)))
theorem ok_l_word {X : Cx} {T : Tx X.K X.mg} {kk : Nat} (hT : TX T cm) : ∀ cdv, KL.Gives X N_l_word "_law_word" (defScope s_l_word) T.f_l_word cdv (defBody s_l_word) "call" kk (TTf X.K cm m_l_word) := fun cdv =>
  def_Th rfl fun f z G hr g qc k hc hm th => by
    subst hc
    refine ⟨_, ?_, (s_tryJ (bx := [.raw (.ref f), .any]) (i := 1) (f := fun s1 : Unit => [.raw (.ref f), .any]) (Ph := fun J2 c4 fs5 => ((wIf (wAnd (wTb (wv (.bl (subX c4 "NoTies")))) (wTb (wv (.bl true)))) (wv (.str "ties")) (wv (.str "other"))) k)) Am.no rfl rfl sc_l_word.nd rfl rfl ⟨by rfl, by decide, .inl hT.em_PaintError⟩ hT.ein_PaintError (fun _ => rfl) (fun z => nomatch z) (fun z => nomatch z) (.cons .refl (.cons .refl .nil))
 (fun J2 W1 pn xe am1 po =>
 (s_expr (e_r (th _ _ _ _ _ _ _ _ am1 (.cons .refl (.cons .refl .nil)) rfl))
 (s_nil (n := ⟨Unit, fun s1 => [.raw (.ref f), .any], J2⟩) (s := (())) (.cons .refl (.cons .refl .nil)))))
 (fun J2 A' eA c4 fs5 a oe cls d pn ei hz hf =>
 (s_ret (e_if (PW.pt (t_and (t_val (e_r (e_isX "NoTies" ei hz hf hT.ein_NoTies (by rfl) T.g_isinstance (by decide +kernel) (pv 1) (by rfl) hT.em_NoTies))) (t_and1 (t_val (e_r (e_isV ei hz hf (by rfl) T.g_isinstance (by decide +kernel) (pv 1) (by rfl) T.g_ValueError (by decide +kernel))))))) e_str e_str)))
 (fun s1 =>
 (s_ret e_str)))⟩
    exact hm.h
end
end K04
set_option Elab.async false
set_option linter.all false
set_option maxRecDepth 100000
set_option maxHeartbeats 4000000
/-! Defs. -/
namespace K04
open PySem L2 FE PySem.Spec
section
variable {P : Program} {w : World} {K : PySem.W.Frag} {mg : Str → Option Value} {base : Heap} {T : Tx K mg} {cm : FE.Cm}
-- _law_one_right: M slots 0:web 1:many 2:ties 3:lot 4:due 5:told
structure m_l_one_right (q0 q1 q2 q3 : D) (k : D → Prop) : Prop where of ::
  h : ((wl (wAL (mk3 m_l_parts) (wcons (wv q1) (wcons (wv q2) (wcons (wv q3) wnil))))) fun x1 => ((wAL (fun ds k => mkx2 m_parts ds k xNo) (wcons (wv q0) (wcons (wv q3) wnil))) fun x2 => (wJ (fun (J5 : Unit → Prop) => ((wOr (wNt (wTb (lnd (wA (mk2 (m_l_is 60)) (wcons (wv (D.lst x2)) (wcons (wv x1) wnil)))))) (wNt (wTb (wA (mk2 (m_l_is 60)) (wcons (wA (fun ds k => mkx2 m_rank ds k xNo) (wcons (wv q0) (wcons (wv q3) wnil))) (wcons (w2 oSub (wv q1) (wA oLen (wcons (wv x1) wnil))) wnil)))))) fun y3 => if y3 = true then ((wv (.bl false)) k) else (J5 ()))) (fun (s4 : Unit) => ((wv (.str "spoilt")) fun x6 => x2.length < 100000 ∧ ((wA (mk2 (m_l_is 60)) (wcons (wl (wAL (fun ds k => mkx2 m_parts ds k xNo) (wcons (wv q0) (wcons (wv q3) wnil)))) (wcons (wv x1) wnil))) k))))))
theorem ok_l_one_right (hT : TX T cm) : KG.FnG P w K mg base 62 T.f_l_one_right T.d_l_one_right ["web", "many", "ties", "lot"] (spM K cm false (mk4 m_l_one_right)) :=
  def_M (N := N_l_one_right) T.F_l_one_right sc_l_one_right (fun ds k h => mk4_len h) fun cdv A out s H E hgd hr g ds k l hc hm => by
    subst hc
    obtain ⟨q0, q1, q2, q3, rfl, h⟩ := mk4_inv hm
    refine ⟨_, ?_, (s_set (i := 4) (bs' := fun x1 => [.dat q0, .dat q1, .dat q2, .dat q3, .dat x1, .any]) (e_l (l_call hgd (ok_l_parts hT) (hr.mono (by decide)) (by rfl) T.m_l_parts T.F_l_parts.kp T.b_l_parts (a_cons (e_v (pv 1)) (a_cons (e_v (pv 2)) (a_cons (e_v (pv 3)) a_nil))))) sc_l_one_right.nd rfl (.inl rfl) (fun x1 =>
 (s_setO (i := 5) (bs' := fun x2 => [.dat q0, .dat q1, .dat q2, .dat q3, .dat x1, .own x2]) (l_call (f := fun ds k => mkx2 m_parts ds k xNo) hgd (ok_parts hT).calm (hr.mono (by decide)) (by rfl) T.m_parts T.F_parts.kp T.b_parts (a_cons (e_v (pv 0)) (a_cons (e_v (pv 3)) a_nil))) sc_l_one_right.nd rfl (.inl rfl) (fun x2 =>
 (s_ifJ (f := fun s4 : Unit => [.dat q0, .dat q1, .dat q2, .dat q3, .dat x1, .own x2]) (PW.pt (t_or (t_not (t_val (e_r (e_lend (ds := x2) 5 (e_call hgd (ok_l_is hT 60) (hr.mono (by decide)) (by rfl) T.m_l_is T.F_l_is.kp T.b_l_is (a_cons (e_v (pv 5)) (a_cons (e_v (pv 4)) a_nil))))))) (t_or1 (t_not (t_val (e_r (e_call hgd (ok_l_is hT 60) (hr.mono (by decide)) (by rfl) T.m_l_is T.F_l_is.kp T.b_l_is (a_cons (e_call (f := fun ds k => mkx2 m_rank ds k xNo) hgd (ok_rank hT).calm (hr.mono (by decide)) (by rfl) T.m_rank T.F_rank.kp T.b_rank (a_cons (e_v (pv 0)) (a_cons (e_v (pv 3)) a_nil))) (a_cons (e_op op_sub d_sub (e_r (e_v (pv 1))) (e_r (e_cb call_lenA c_len (by rfl) T.g_len (r_cons (e_r (e_v (pv 4))) r_nil)))) a_nil)))))))))
 (fun J5 => (s_ret e_bl))
 (fun J5 => (s_nil (n := ⟨Unit, fun s4 => [.dat q0, .dat q1, .dat q2, .dat q3, .dat x1, .own x2], J5⟩) (s := (())) (.cons .refl (.cons .refl (.cons .refl (.cons .refl (.cons .refl (.cons .refl .nil))))))))
 (fun s4 =>
 (s_app (bs' := fun x6 => [.dat q0, .dat q1, .dat q2, .dat q3, .dat x1, .own (x2 ++ [x6])]) (pv 5) e_str (fun x6 =>
 (s_ret (e_call hgd (ok_l_is hT 60) (hr.mono (by decide)) (by rfl) T.m_l_is T.F_l_is.kp T.b_l_is (a_cons (e_l (l_call (f := fun ds k => mkx2 m_parts ds k xNo) hgd (ok_parts hT).calm (hr.mono (by decide)) (by rfl) T.m_parts T.F_parts.kp T.b_parts (a_cons (e_v (pv 0)) (a_cons (e_v (pv 3)) a_nil)))) (a_cons (e_v (pv 4)) a_nil))))))))))))⟩
    exact h.h
-- _law_web_right: M hand slots 0:hand 1:many 2:ties 3:lot 4:own 5:tie 6:one 7:other 8:risen 9:due 10:words 11:odd 12:web 13:turn 14:part
structure m_l_web_right (k : D → Prop) : Prop where of ::
  h : ((wA (mk1 m_l_some) (wcons (wl (wLst (wcons (wv (.int 1)) (wcons (wv (.int 2)) (wcons (wv (.int 3)) (wcons (wv (.int 4)) (wcons (wv (.int 5)) (wcons (wv (.int 6)) (wcons (wv (.int 7)) (wcons (wv (.int 8)) (wcons (wv (.int 10)) wnil))))))))))) wnil)) fun x1 => ((wA (mk2 m_l_ties) (wcons (wv x1) (wcons (wA (mk1 m_l_draw) (wcons (wv (.int 7)) wnil)) wnil))) fun x2 => ((wMk "Web" "many" "ties" m_webI (wcons (wv x1) (wcons (wv x2) wnil)) xNo) fun x3 => (wJ (fun (KR7 : Unit → Prop) => ((wSeq (w2 oAdd (wl (wLst (wcons (wTup wnil) (wcons (wRgT (wRg1 (wA oLen (wcons (wv x2) wnil)))) wnil)))) (wl (wLc (fun d : D => d) (wRg (wRg1 (wv (.int 3)))) (fun a4 : D => wYes) (fun a4 : D => (wA (mk1 m_l_lot) (wcons (wA oLen (wcons (wv x2) wnil)) wnil))))))) fun items => forW (fun x s5 kc6 => ∃ a8 : D, x = (fun d : D => d) a8 ∧ (wJ (fun (J11 : Unit → Prop) => ((wNt (wTb (wA (mk4 m_l_one_right) (wcons (wv x3) (wcons (wv x1) (wcons (wv x2) (wcons (wv a8) wnil))))))) fun y9 => if y9 = true then ((wv (.bl false)) k) else (J11 ()))) (fun (s10 : Unit) => ((wl (wAL (mk3 m_l_parts) (wcons (wv x1) (wcons (wv x2) (wcons (wv a8) wnil))))) fun x12 => (wJ (fun (KR16 : Unit → Prop) => ((wSeq (wSl oSl (wl (wLc (fun d : D => d) (wRg (wRg1 (wA oLen (wcons (wv x2) wnil)))) (fun a13 : D => (wTb (w2 oNotIn (wv a13) (wv a8)))) (fun a13 : D => (wv a13)))) wO0 (wO1 (wv (.int 4))))) fun items => forW (fun x s14 kc15 => ∃ a17 : D, x = (fun d : D => d) a17 ∧ ((w2 oIx (wv x2) (wv a17)) fun d => ∃ a18 : D × D, d = (fun a : D × D => .tup [a.1, a.2]) a18 ∧ ((wA oInt (wcons (wNotV (wA oAny (wcons (wl (wLc (fun d : D => d) (wSeq (wv x12)) (fun a20 : D => wYes) (fun a20 : D => (wAndV (w2 oIn (wv a18.1) (wv a20)) (w2 oIn (wv a18.2) (wv a20)))))) wnil))) wnil)) fun x19 => ((wTb (w2 oNeA (w2 oSub (wA (fun ds k => mkx2 m_rank ds k xNo) (wcons (wv x3) (wcons (wA oTupOf (wcons (wl (wAL oSorted (wcons (w2 oAdd (wv a8) (wTup (wcons (wv a17) wnil))) wnil))) wnil)) wnil))) (wA (fun ds k => mkx2 m_rank ds k xNo) (wcons (wv x3) (wcons (wv a8) wnil)))) (wv x19))) fun y21 => if y21 = true then ((wv (.bl false)) k) else (kc15 ()))))) items () KR16)) (fun (s14 : Unit) => ((wA (mk2 m_l_odd_lot) (wcons (wv a8) (wcons (wA oLen (wcons (wv x2) wnil)) wnil))) fun x22 => ((wIf (wTb (wA (mk2 m_l_is_lot) (wcons (wv x22) (wcons (wA oLen (wcons (wv x2) wnil)) wnil)))) (wv (.str "let")) (wv (.str "ties"))) fun x23 => ((wLst (wcons (m_l_word fun k y => (wl (wAXL (mkx2 m_parts) (wcons (wv x3) (wcons (wv x22) wnil)) y)) k) wnil)) fun x24 => ((m_l_word fun k y => (wAX (mkx2 m_rank) (wcons (wv x3) (wcons (wv x22) wnil)) y) k) fun x25 => x24.length < 100000 ∧ ((wTb (w2 oNeA (wv (.lst (x24 ++ [x25]))) (w2 oMul (wl (wLst (wcons (wv x23) wnil))) (wv (.int 2))))) fun y26 => if y26 = true then ((wv (.bl false)) k) else (kc6 ())))))))))))) items () KR7)) (fun (s5 : Unit) => ((wA (mk2 (m_l_is 60)) (wcons (wTup (wcons (w1 (oFld "Web" "many") (wv x3)) (wcons (w1 (oFld "Web" "ties") (wv x3)) wnil))) (wcons (wTup (wcons (wv x1) (wcons (wv x2) wnil))) wnil))) k))))))
theorem ok_l_web_right (hT : TX T cm) (hB : TBs T base) : KG.FnG P w K mg base 63 T.f_l_web_right T.d_l_web_right ["hand"] (spM K cm true (mk0 m_l_web_right)) :=
  def_MC (N := N_l_web_right) T.F_l_web_right T.cc_l_web_right sc_l_web_right (fun ds k h => congrArg (· + 1) (mk0_len h)) fun A out s H E hgd hr g ds k l hc hm => by
    subst hc
    obtain ⟨rfl, h⟩ := mk0_inv hm
    refine ⟨_, ?_, (s_set (i := 1) (bs' := fun x1 => [.hand, .dat x1, .any, .any, .any, .any, .any, .any, .any, .any, .any, .any, .any, .any, .any]) (e_callH (i := 0) hgd (ok_l_some hT) (hr.mono (by decide)) (by rfl) T.m_l_some T.F_l_some.kp T.b_l_some (a_hand (pv 0) (a_cons (e_l (l_lst (a_cons e_int (a_cons e_int (a_cons e_int (a_cons e_int (a_cons e_int (a_cons e_int (a_cons e_int (a_cons e_int (a_cons e_int a_nil))))))))))) a_nil))) sc_l_web_right.nd rfl (.inl rfl) (fun x1 =>
 (s_set (i := 2) (bs' := fun x2 => [.hand, .dat x1, .dat x2, .any, .any, .any, .any, .any, .any, .any, .any, .any, .any, .any, .any]) (e_callH (i := 0) hgd (ok_l_ties hT) (hr.mono (by decide)) (by rfl) T.m_l_ties T.F_l_ties.kp T.b_l_ties (a_hand (pv 0) (a_cons (e_v (pv 1)) (a_cons (e_callH (i := 0) hgd (ok_l_draw hT) (hr.mono (by decide)) (by rfl) T.m_l_draw T.F_l_draw.kp T.b_l_draw (a_hand (pv 0) (a_cons e_int a_nil))) a_nil)))) sc_l_web_right.nd rfl (.inr rfl) (fun x2 =>
 (s_set (i := 12) (bs' := fun x3 => [.hand, .dat x1, .dat x2, .any, .any, .any, .any, .any, .any, .any, .any, .any, .dat x3, .any, .any]) (e_mk (cn := "Web") (f1 := "many") (f2 := "ties") Am.no hgd hT.mk_Web (ok_webI hT) (hr.mono (by decide)) (by rfl) hT.mm_Web T.b_webI (a_cons (e_v (pv 1)) (a_cons (e_v (pv 2)) a_nil)) (Le.refl _)) sc_l_web_right.nd rfl (.inr rfl) (fun x3 =>
 (s_forJ (ba := fun a8 s5 => [.hand, .dat x1, .dat x2, .dat a8, .any, .any, .any, .any, .any, .any, .any, .any, .dat x3, .any, .any]) (fl := (fun s5 : Unit => [.hand, .dat x1, .dat x2, .any, .any, .any, .any, .any, .any, .any, .any, .any, .dat x3, .any, .any])) (fr := (fun s5 : Unit => [.hand, .dat x1, .dat x2, .any, .any, .any, .any, .any, .any, .any, .any, .any, .dat x3, .any, .any])) (s0 := (())) PassesOwn.never rfl (i_seq (e_op op_addA d_add (e_r (e_l (l_lst (a_cons (e_tup a_nil) (a_cons (e_rgT rfl (by rfl) T.g_tuple (g_rg1 (by rfl) T.g_range (e_r (e_cb call_lenA c_len (by rfl) T.g_len (r_cons (e_r (e_v (pv 2))) r_nil))))) a_nil))))) (e_r (e_l (l_lc (own := [("turn", 13)]) (bw := [.hand, .dat x1, .dat x2, .any, .any, .any, .any, .any, .any, .any, .any, .any, .dat x3, .any, .any]) rfl sc_l_web_right.nd (i_s (i_rg1 (by rfl) T.g_range (e_r e_int))) (blkOk_by (own := [("turn", 13)]) (N := N_l_web_right) (sc := defScope s_l_web_right) (by decide +kernel)) tg_n (by decide) rfl (fun _ _ _ _ _ => (pg_name (i := 13) sc_l_web_right.nd rfl (.inl rfl))) (fun a4 _ _ _ _ _ => tt_nil) (fun a4 _ _ _ _ _ => (e_callH (i := 0) hgd (ok_l_lot hT) (hr.mono (by decide)) (by rfl) T.m_l_lot T.F_l_lot.kp T.b_l_lot (a_hand (pv 0) (a_cons (e_cb call_lenA c_len (by rfl) T.g_len (r_cons (e_r (e_v (pv 2))) r_nil)) a_nil))))))))) (pg_name (i := 3) sc_l_web_right.nd rfl (.inr rfl)) (fun _ => tg_n) (.cons .refl (.cons .refl (.cons .refl (.cons .refl (.cons .refl (.cons .refl (.cons .refl (.cons .refl (.cons .refl (.cons .refl (.cons .refl (.cons .refl (.cons .refl (.cons .refl (.cons .refl .nil))))))))))))))) (fun s5 => (.cons .refl (.cons .refl (.cons .refl (.cons .refl (.cons .refl (.cons .refl (.cons .refl (.cons .refl (.cons .refl (.cons .refl (.cons .refl (.cons .refl (.cons .refl (.cons .refl (.cons .refl .nil))))))))))))))))
 (fun A' eA1 a8 s5 kc6 KR7 =>
 (s_ifJ (f := fun s10 : Unit => [.hand, .dat x1, .dat x2, .dat a8, .any, .any, .any, .any, .any, .any, .any, .any, .dat x3, .any, .any]) (t_not (t_val (e_r (e_call hgd (ok_l_one_right hT) (hr.mono (by decide)) (by rfl) T.m_l_one_right T.F_l_one_right.kp T.b_l_one_right (a_cons (e_v (pv 12)) (a_cons (e_v (pv 1)) (a_cons (e_v (pv 2)) (a_cons (e_v (pv 3)) a_nil))))))))
 (fun J11 => (s_ret e_bl))
 (fun J11 => (s_nil (n := ⟨Unit, fun s10 => [.hand, .dat x1, .dat x2, .dat a8, .any, .any, .any, .any, .any, .any, .any, .any, .dat x3, .any, .any], J11⟩) (s := (())) (.cons .refl (.cons .refl (.cons .refl (.cons .refl (.cons .refl (.cons .refl (.cons .refl (.cons .refl (.cons .refl (.cons .refl (.cons .refl (.cons .refl (.cons .refl (.cons .refl (.cons .refl .nil)))))))))))))))))
 (fun s10 =>
 (s_set (i := 4) (bs' := fun x12 => [.hand, .dat x1, .dat x2, .dat a8, .dat x12, .any, .any, .any, .any, .any, .any, .any, .dat x3, .any, .any]) (e_l (l_call hgd (ok_l_parts hT) (hr.mono (by decide)) (by rfl) T.m_l_parts T.F_l_parts.kp T.b_l_parts (a_cons (e_v (pv 1)) (a_cons (e_v (pv 2)) (a_cons (e_v (pv 3)) a_nil))))) sc_l_web_right.nd rfl (.inl rfl) (fun x12 =>
 (s_forJ (ba := fun a17 s14 => [.hand, .dat x1, .dat x2, .dat a8, .dat x12, .dat a17, .any, .any, .any, .any, .any, .any, .dat x3, .any, .any]) (fl := (fun s14 : Unit => [.hand, .dat x1, .dat x2, .dat a8, .dat x12, .any, .any, .any, .any, .any, .any, .any, .dat x3, .any, .any])) (fr := (fun s14 : Unit => [.hand, .dat x1, .dat x2, .dat a8, .dat x12, .any, .any, .any, .any, .any, .any, .any, .dat x3, .any, .any])) (s0 := (())) PassesOwn.never rfl (i_seq (e_sl (e_r (e_l (l_lc (own := [("tie", 5)]) (bw := [.hand, .dat x1, .dat x2, .dat a8, .dat x12, .any, .any, .any, .any, .any, .any, .any, .dat x3, .any, .any]) rfl sc_l_web_right.nd (i_s (i_rg1 (by rfl) T.g_range (e_r (e_cb call_lenA c_len (by rfl) T.g_len (r_cons (e_r (e_v (pv 2))) r_nil))))) (blkOk_by (own := [("tie", 5)]) (N := N_l_web_right) (sc := defScope s_l_web_right) (by decide +kernel)) tg_n (by decide) rfl (fun _ _ _ _ _ => (pg_name (i := 5) sc_l_web_right.nd rfl (.inl rfl))) (fun a13 _ _ _ _ _ => (tt_one (t_cmp (op_notInA (u65 hr)) d_notInA (e_r (e_v (pv 5))) (e_r (e_v (pv 3))) (by rfl)))) (fun a13 _ _ _ _ _ => (e_v (pv 5)))))) o_0 (o_1 (e_r e_int)))) (pg_name (i := 5) sc_l_web_right.nd rfl (.inl rfl)) (fun _ => tg_n) (.cons .refl (.cons .refl (.cons .refl (.cons .refl (.cons .refl (.cons .refl (.cons .refl (.cons .refl (.cons .refl (.cons .refl (.cons .refl (.cons .refl (.cons .refl (.cons .refl (.cons .refl .nil))))))))))))))) (fun s14 => (.cons .refl (.cons .refl (.cons .refl (.cons .refl (.cons .refl (.cons .refl (.cons .refl (.cons .refl (.cons .refl (.cons .refl (.cons .refl (.cons .refl (.cons .refl (.cons .refl (.cons .refl .nil))))))))))))))))
 (fun A' eA2 a17 s14 kc15 KR16 =>
 (s_asg (bs' := fun a18 => [.hand, .dat x1, .dat x2, .dat a8, .dat x12, .dat a17, .dat a18.1, .dat a18.2, .any, .any, .any, .any, .dat x3, .any, .any]) (e_ix (e_r (e_v (pv 2))) (e_r (e_v (pv 5)))) (pg_tup rfl (pgs_cons (pg_name (i := 6) sc_l_web_right.nd rfl (.inr rfl)) (pgs_cons (pg_name (i := 7) sc_l_web_right.nd rfl (.inr rfl)) pgs_nil))) (tg_2 tg_n tg_n) (fun a18 =>
 (s_set (i := 8) (bs' := fun x19 => [.hand, .dat x1, .dat x2, .dat a8, .dat x12, .dat a17, .dat a18.1, .dat a18.2, .dat x19, .any, .any, .any, .dat x3, .any, .any]) (e_ct call_int1 c_int (by rfl) T.g_int (r_cons (e_r (e_not (e_r (e_cb (cr_any rfl) c_any (by rfl) T.g_any (r_cons (e_r (e_l (l_lc (own := [("part", 14)]) (bw := [.hand, .dat x1, .dat x2, .dat a8, .dat x12, .dat a17, .dat a18.1, .dat a18.2, .any, .any, .any, .any, .dat x3, .any, .any]) rfl sc_l_web_right.nd (i_s (i_seq (e_v (pv 4)))) (blkOk_by (own := [("part", 14)]) (N := N_l_web_right) (sc := defScope s_l_web_right) (by decide +kernel)) tg_n (by decide) rfl (fun _ _ _ _ _ => (pg_name (i := 14) sc_l_web_right.nd rfl (.inl rfl))) (fun a20 _ _ _ _ _ => tt_nil) (fun a20 _ _ _ _ _ => (e_and (e_r (e_cmp (op_inA (u65 hr)) d_inA (e_r (e_v (pv 6))) (e_r (e_v (pv 14))) (by rfl))) (e_one (e_cmp (op_inA (u65 hr)) d_inA (e_r (e_v (pv 7))) (e_r (e_v (pv 14))) (by rfl)))))))) r_nil))))) r_nil)) sc_l_web_right.nd rfl (.inl rfl) (fun x19 =>
 (s_ifL (t_cmp (op_neA hr.units) d_neA (e_r (e_op op_sub d_sub (e_r (e_call (f := fun ds k => mkx2 m_rank ds k xNo) hgd (ok_rank hT).calm (hr.mono (by decide)) (by rfl) T.m_rank T.F_rank.kp T.b_rank (a_cons (e_v (pv 12)) (a_cons (e_ct KT.call_tupA c_tup (by rfl) T.g_tuple (r_cons (e_r (e_l (l_cb cr_sortedA c_sorted (by rfl) T.g_sorted (r_cons (e_r (e_op op_addA d_add (e_r (e_v (pv 3))) (e_r (e_tup (a_cons (e_v (pv 5)) a_nil))))) r_nil)))) r_nil)) a_nil)))) (e_r (e_call (f := fun ds k => mkx2 m_rank ds k xNo) hgd (ok_rank hT).calm (hr.mono (by decide)) (by rfl) T.m_rank T.F_rank.kp T.b_rank (a_cons (e_v (pv 12)) (a_cons (e_v (pv 3)) a_nil)))))) (e_r (e_v (pv 8))) (nomark _))
 (s_ret e_bl)
 (s_nil (n := ⟨Unit, (fun s14 : Unit => [.hand, .dat x1, .dat x2, .dat a8, .dat x12, .any, .any, .any, .any, .any, .any, .any, .dat x3, .any, .any]), kc15⟩) (s := (())) (.cons .refl (.cons .refl (.cons .refl (.cons .refl (.cons .refl (.cons .any (.cons .any (.cons .any (.cons .any (.cons .refl (.cons .refl (.cons .refl (.cons .refl (.cons .refl (.cons .refl .nil))))))))))))))))))))))
 (fun s14 =>
 (s_set (i := 11) (bs' := fun x22 => [.hand, .dat x1, .dat x2, .dat a8, .dat x12, .any, .any, .any, .any, .any, .any, .dat x22, .dat x3, .any, .any]) (e_callH (i := 0) hgd (ok_l_odd_lot hT) (hr.mono (by decide)) (by rfl) T.m_l_odd_lot T.F_l_odd_lot.kp T.b_l_odd_lot (a_hand (pv 0) (a_cons (e_v (pv 3)) (a_cons (e_cb call_lenA c_len (by rfl) T.g_len (r_cons (e_r (e_v (pv 2))) r_nil)) a_nil)))) sc_l_web_right.nd rfl (.inr rfl) (fun x22 =>
 (s_set (i := 9) (bs' := fun x23 => [.hand, .dat x1, .dat x2, .dat a8, .dat x12, .any, .any, .any, .any, .dat x23, .any, .dat x22, .dat x3, .any, .any]) (e_if (t_val (e_r (e_call hgd (ok_l_is_lot hT) (hr.mono (by decide)) (by rfl) T.m_l_is_lot T.F_l_is_lot.kp T.b_l_is_lot (a_cons (e_v (pv 11)) (a_cons (e_cb call_lenA c_len (by rfl) T.g_len (r_cons (e_r (e_v (pv 2))) r_nil)) a_nil))))) e_str e_str) sc_l_web_right.nd rfl (.inl rfl) (fun x23 =>
 (s_setO (i := 10) (bs' := fun x24 => [.hand, .dat x1, .dat x2, .dat a8, .dat x12, .any, .any, .any, .any, .dat x23, .own x24, .dat x22, .dat x3, .any, .any]) (l_lst (a_cons (e_lamF (k := 60) (bl := [.any, .dat x1, .dat x2, .dat a8, .dat x12, .any, .any, .any, .any, .dat x23, .any, .dat x22, .dat x3, .any, .any]) hgd rfl (ok_l_word hT) (hr.mono (by decide)) (by rfl) T.m_l_word T.F_l_word T.b_l_word sc_l_word rfl (.inl rfl) hB.tb_l_web_right rfl hT.tm_l_web_right hT.to_l_web_right (show LamX.lamSB (defScope s_l_web_right) _ = true from by decide +kernel) rfl (fun _ _ _ _ _ => rfl) (fun A2 o2 s2 H2 E2 f2 kc2 hgd hr hd2 F2 H3 A3 y am =>
 (e_l (l_callX am hgd (ok_parts hT) (hr.mono (by decide)) (by rfl) T.m_parts T.F_parts.kp T.b_parts (a_cons (e_v (pv 12)) (a_cons (e_v (pv 11)) a_nil)) (.cons .refl (.cons .any (.cons .any (.cons .any (.cons .any (.cons .refl (.cons .refl (.cons .refl (.cons .refl (.cons .any (.cons .refl (.cons .any (.cons .any (.cons .refl (.cons .refl .nil))))))))))))))))))) a_nil)) sc_l_web_right.nd rfl (.inl rfl) (fun x24 =>
 (s_app (bs' := fun x25 => [.hand, .dat x1, .dat x2, .dat a8, .dat x12, .any, .any, .any, .any, .dat x23, .own (x24 ++ [x25]), .dat x22, .dat x3, .any, .any]) (pv 10) (e_lamF (k := 60) (bl := [.any, .dat x1, .dat x2, .dat a8, .dat x12, .any, .any, .any, .any, .dat x23, .any, .dat x22, .dat x3, .any, .any]) hgd rfl (ok_l_word hT) (hr.mono (by decide)) (by rfl) T.m_l_word T.F_l_word T.b_l_word sc_l_word rfl (.inl rfl) hB.tb_l_web_right rfl hT.tm_l_web_right hT.to_l_web_right (show LamX.lamSB (defScope s_l_web_right) _ = true from by decide +kernel) rfl (fun _ _ _ _ _ => rfl) (fun A2 o2 s2 H2 E2 f2 kc2 hgd hr hd2 F2 H3 A3 y am =>
 (e_callX am hgd (ok_rank hT) (hr.mono (by decide)) (by rfl) T.m_rank T.F_rank.kp T.b_rank (a_cons (e_v (pv 12)) (a_cons (e_v (pv 11)) a_nil)) (.cons .refl (.cons .any (.cons .any (.cons .any (.cons .any (.cons .refl (.cons .refl (.cons .refl (.cons .refl (.cons .any (.cons .refl (.cons .any (.cons .any (.cons .refl (.cons .refl .nil)))))))))))))))))) (fun x25 =>
 (s_ifL (t_cmp (op_neA hr.units) d_neA (e_vo (pv 10)) (e_r (e_op op_mulA d_mul (e_r (e_l (l_lst (a_cons (e_v (pv 9)) a_nil)))) (e_r e_int))) (nomark _))
 (s_ret e_bl)
 (s_nil (n := ⟨Unit, (fun s5 : Unit => [.hand, .dat x1, .dat x2, .any, .any, .any, .any, .any, .any, .any, .any, .any, .dat x3, .any, .any]), kc6⟩) (s := (())) (.cons .refl (.cons .refl (.cons .refl (.cons .any (.cons .any (.cons .refl (.cons .refl (.cons .refl (.cons .refl (.cons .any (.cons .any (.cons .any (.cons .refl (.cons .refl (.cons .refl .nil))))))))))))))))))))))))))))))))
 (fun s5 =>
 (s_ret (e_call hgd (ok_l_is hT 60) (hr.mono (by decide)) (by rfl) T.m_l_is T.F_l_is.kp T.b_l_is (a_cons (e_tup (a_cons (e_fld (c := "Web") (e_r (e_v (pv 12))) hT.no_Web_many) (a_cons (e_fld (c := "Web") (e_r (e_v (pv 12))) hT.no_Web_ties) a_nil))) (a_cons (e_tup (a_cons (e_v (pv 1)) (a_cons (e_v (pv 2)) a_nil))) a_nil))))))))))))⟩
    exact h.h
-- law: M slots 0:script 1:hand 2:turn
structure m_law : Prop where of ::
  h : (wJ (fun (KR3 : Unit → Prop) => ((wRg (wRg1 (wv (.int 4)))) fun items => forW (fun x s1 kc2 => ∃ a4 : D, x = (fun d : D => d) a4 ∧ ((wNt (wTb (wA (mk0 m_l_web_right) wnil))) fun y5 => if y5 = true then ((wv (.bl false)) (fun d : D => d = .bl true)) else (kc2 ()))) items () KR3)) (fun (s1 : Unit) => ((wv (.bl true)) (fun d : D => d = .bl true))))
theorem ok_law (hT : TX T cm) (hB : TBs T base) (hm : m_law) : KG.FnG P w K mg base 64 T.f_law T.d_law ["script"] (spLawT K cm.tb) :=
  def_law (cm := cm) (N := N_law) T.F_law sc_law rfl rfl rfl (.inl rfl) rfl rfl (by decide) (ok_l_hand T) T.m_l_hand T.F_l_hand.kp T.b_l_hand (by decide) rfl fun cdv A out s H E hgd hr g hc => by
    subst hc
    refine ⟨_, ?_, (s_forJ (ba := fun a4 s1 => [.any, .hand, .dat a4]) (fl := (fun s1 : Unit => [.any, .hand, .any])) (fr := (fun s1 : Unit => [.any, .hand, .any])) (s0 := (())) PassesOwn.never rfl (i_rg1 (by rfl) T.g_range (e_r e_int)) (pg_name (i := 2) sc_law.nd rfl (.inl rfl)) (fun _ => tg_n) (.cons .refl (.cons .refl (.cons .refl .nil))) (fun s1 => (.cons .refl (.cons .refl (.cons .refl .nil))))
 (fun A' eA1 a4 s1 kc2 KR3 =>
 (s_ifL (t_not (t_val (e_r (e_callH (i := 1) hgd (ok_l_web_right hT hB) (hr.mono (by decide)) (by rfl) T.m_l_web_right T.F_l_web_right.kp T.b_l_web_right (a_hand (pv 1) a_nil)))))
 (s_ret e_bl)
 (s_nil (n := ⟨Unit, (fun s1 : Unit => [.any, .hand, .any]), kc2⟩) (s := (())) (.cons .refl (.cons .refl (.cons .any .nil))))))
 (fun s1 =>
 (s_ret e_bl)))⟩
    exact hm.h
end
end K04
set_option Elab.async false
set_option linter.all false
set_option maxRecDepth 100000
set_option maxHeartbeats 4000000
/-! Mathematics. -/
namespace K04
open PySem FE
local macro_rules | `(tactic| sizeOf_list_dec) => `(tactic| try simp only [wv, wl, w1, w2, w1L, w2L, wnil, wcons, wA, wAL, wTb, wAnd, wOr, wNt, wAndV, wOrV, wIf, wChain, wTt, wNotV, wTup, wLst, wO0, wO1, wSl, wSlL, wRg1, wRg2, wRgL, wRgT, wSeq, wRg, wYes, wEn, wEd, wEl, on2, on3, kdD, kdL, wAX, wAXL, xTry, wIsi, wJoin, wEnu, wZip, wRevI, lnd, lndL,
  mk0, mk1, mk2, mk3, mk4, mk5, mk6, mkx0, mkx1, mkx2, mkx3, mkx4, mkx5, mkx6, wB, if_t, if_f, not_t, not_f, oTru_bl, oTru_int, oTru_lst, oTru_tup, oTru_non, oCmp_int, oAdd_int, oAdd_tup, oAdd_lst, oAdd_str, oAddL_lst, oAddI_int, oSub_int, oMul_int, oMul_lst, oMulL_lst, oMod_int, oDiv_int, oPow_int, oNeg_int, oAbs_int, oInt_int, oInt_bl, oRg1_int, oRg2_int,
  oIx_lst, oIx_tup, oLen_lst, oLen_tup, oMin2_int, oMax2_int, oItems_tup, oItems_lst, oTupOf_lst, oTupOf_tup, oListOf_lst, oListOf_tup, oSl_tup, oSl_lst, oSlL_lst, oRev_tup, oRevL_lst, oZip_lst, oZip_tup, oEnu_lst, oEnu_tup, oExt_lst, oPut_int, oEqA_str, oNeA_str, oEqA_int', oNeA_int', oEqA_bl', oNeA_bl', atI_0, atI_1, atI_2, Option.some.injEq, Prod.exists, D.tup.injEq, wLc2, wMt, wRgV, seq_tup, seq_lst, oRevI_lst, oRevI_tup, List.cons.injEq, and_true, true_and, exists_eq_left', exists_eq_left, exists_and_left, List.length_cons, List.length_nil, Nat.reduceAdd, Nat.reduceLeDiff, Int.reduceNeg, Int.reduceLE, Bool.not_true, Bool.not_false, Bool.false_eq_true, if_true, if_false, decide_true, decide_false, Int.reduceLT, wMk, wLc, fld_many, fld_ties])

theorem u_is_integer {d : D} {k : D → Prop} (h : k (.bl (isInt d))) : m_is_integer d k := by
  refine ⟨?_⟩
  cases d <;> sizeOf_list_dec <;> exact h
theorem u_is_between {d : D} {a b : Int} {k : D → Prop} (h : k (.bl (btw a b d))) : m_is_between d (.int a) (.int b) k := by
  refine ⟨?_⟩
  sizeOf_list_dec
  refine u_is_integer ?_
  cases d <;> sizeOf_list_dec
  case int i =>
    unfold btw at h
    by_cases c : a ≤ i
    · simpa [isInt, c] using h
    · simpa [isInt, c] using h
  all_goals exact h
theorem u_is_below {d : D} {b : Int} {k : D → Prop} (h : k (.bl (blw b d))) : m_is_below d (.int b) k := by
  refine ⟨?_⟩
  sizeOf_list_dec
  refine u_is_integer ?_
  cases d <;> sizeOf_list_dec
  case int i =>
    unfold blw at h
    by_cases c : 0 ≤ i
    · simpa [isInt, c] using h
    · simpa [isInt, c] using h
  all_goals exact h
theorem u_is_pair {d : D} {k : D → Prop} (h : k (.bl (isPair d))) : m_is_pair d k := by
  refine ⟨?_⟩
  cases d <;> sizeOf_list_dec
  case tup l =>
    have e : isPair (.tup l) = decide ((l.length : Int) = 2) := by
      show decide (l.length = 2) = _
      by_cases c : l.length = 2
      · rw [decide_eq_true c, decide_eq_true (by omega)]
      · rw [decide_eq_false c, decide_eq_false (by omega)]
    rw [e] at h
    exact h
  all_goals exact h
theorem u_is_tie {d : D} {n : Int} {k : D → Prop} (h : k (.bl (tieB n d))) : m_is_tie d (.int n) k := by
  refine ⟨?_⟩
  sizeOf_list_dec
  refine u_is_pair ?_
  by_cases c : isPair d = true
  · obtain ⟨x, y, rfl⟩ : ∃ x y, d = .tup [x, y] := by
      cases d with
      | tup l =>
        match l, c with
        | [x, y], _ => exact ⟨x, y, rfl⟩
        | [], c => exact absurd c (by decide)
        | [_], c => exact absurd c (by simp [isPair])
        | _ :: _ :: _ :: _, c => exact absurd c (by simp [isPair])
      | _ => cases c
    rw [c]
    sizeOf_list_dec
    refine u_is_below ?_
    cases y
    case int v =>
      by_cases c2 : blw n (.int v) = true
      · rw [c2]
        sizeOf_list_dec
        refine u_is_between ?_
        have c3 : 0 ≤ v ∧ v < n := by simpa [blw] using c2
        cases x <;> sizeOf_list_dec
        case int u => 
          have e : tieB n (.tup [.int u, .int v]) = btw 0 v (.int u) := by
            simp [tieB, btw, c3.2]
          rw [← e]
          exact h
        all_goals exact h
      · have c2' : blw n (.int v) = false := by simpa using c2
        rw [c2']
        sizeOf_list_dec
        have e : tieB n (.tup [x, .int v]) = false := by
          cases x
          case int u =>
            have c4 : ¬ (0 ≤ v ∧ v < n) := by simpa [blw] using c2
            have c5 : ¬ (0 ≤ u ∧ u ≤ v ∧ v < n) := fun z => c4 ⟨by omega, z.2.2⟩
            simpa [tieB, and_assoc] using c5
          all_goals rfl
        rw [e] at h
        exact h
    all_goals
      sizeOf_list_dec
      have e : ∀ z, (∀ v, z ≠ D.int v) → tieB n (.tup [x, z]) = false := fun z hz => by
        unfold tieB
        split
        · rename_i u v e
          simp only [D.tup.injEq, List.cons.injEq] at e
          exact absurd e.2.1 (hz v)
        · rfl
      rw [e _ (fun v z => by cases z)] at h
      exact h
  · have c' : isPair d = false := by simpa using c
    rw [c']
    sizeOf_list_dec
    have e : tieB n d = false := by
      unfold tieB
      split
      · exact absurd rfl c
      · rfl
    rw [e] at h
    exact h
theorem u_webI {m t : D} {k : Prop} {y : Xd} (h : match wrong m t with | some p => y "BadWeb" [("part", p)] | none => k) : m_webI m t k y := by
  refine ⟨wJ_u fun J hJ => ?_⟩
  sizeOf_list_dec
  refine u_is_between ?_
  cases m
  case int n =>
    by_cases c : 1 ≤ n ∧ n ≤ 10
    · have e : btw 1 10 (.int n) = true := by simpa [btw] using c
      rw [e]
      sizeOf_list_dec
      refine hJ (wJ_u fun J2 hJ2 => ?_)
      cases t
      case tup l =>
        sizeOf_list_dec
        by_cases c2 : l.length ≤ 16
        · rw [decide_eq_false (by omega)]
          sizeOf_list_dec
          refine hJ2 (wJ_u fun J3 hJ3 => ?_)
          sizeOf_list_dec
          have ew : wrong (.int n) (.tup l) = (l.findIdx? fun x => !tieB n x).map fun i => .int (i : Nat) := by
            unfold wrong
            simp only [if_pos c, if_pos c2]
          rw [ew] at h
          refine forW_en (Out := fun i => y "BadWeb" [("part", .int (i : Nat))]) (fun x => !tieB n x) (fun i t hi q hq => ?_) ?_
          · refine ⟨_, _, rfl, ?_⟩
            refine u_is_tie ?_
            sizeOf_list_dec
            rw [Nat.zero_add] at hq ⊢
            exact hq
          · cases e : l.findIdx? fun x => !tieB n x with
            | none => rw [e] at h; exact hJ3 h
            | some i =>
              rw [e] at h
              show y "BadWeb" [("part", .int ((0 + i : Nat) : Int))]
              rw [Nat.zero_add]
              exact h
        · rw [decide_eq_true (by omega)]
          sizeOf_list_dec
          have ew : wrong (.int n) (.tup l) = some (.str "ties") := by
            unfold wrong
            simp only [if_pos c, if_neg c2]
          rw [ew] at h
          exact h
      all_goals
        sizeOf_list_dec
        simp only [wrong, if_pos c] at h
        exact h
    · have e : btw 1 10 (.int n) = false := by
        have : ¬ (decide (1 ≤ n) && decide (n ≤ 10)) = true := by simpa using c
        simpa [btw] using this
      rw [e]
      sizeOf_list_dec
      have ew : wrong (.int n) t = some (.str "many") := by
        unfold wrong
        simp only [if_neg c]
      rw [ew] at h
      exact h
  all_goals
    sizeOf_list_dec
    exact h
theorem u_is_lot {d : D} {b : Int} {k : D → Prop} (h : k (.bl (isLot b d))) : m_is_lot d (.int b) k := by
  refine ⟨wJ_u fun J hJ => ?_⟩
  cases d
  case tup l =>
    sizeOf_list_dec
    refine hJ ?_
    sizeOf_list_dec
    refine wJ_all fun J2 hJ2 => ?_
    sizeOf_list_dec
    refine lot_find D.int (b := b) (Out := k (.bl false)) (fun x a p hp => wJ_u fun J11 hJ11 => u_is_between ?_) ?_
    · cases x with
      | int i =>
        dsimp only at hp
        by_cases c : a ≤ i ∧ i ≤ b - 1
        · rw [if_pos c] at hp
          have e : btw a (b - 1) (.int i) = true := by simpa [btw] using c
          rw [e]
          exact hJ11 hp
        · rw [if_neg c] at hp
          have e : btw a (b - 1) (.int i) = false := by
            rw [Bool.eq_false_iff]
            exact fun z => c (by simpa [btw] using z)
          rw [e]
          exact hp
      | _ => exact hp
    · have e : isLot b (.tup l) = lotB 0 b l := rfl
      rw [e] at h
      cases c : lotB 0 b l with
      | true => rw [c] at h; rw [if_pos rfl]; exact fun s => hJ2 s h
      | false => rw [c] at h; rw [if_neg Bool.false_ne_true]; exact h
  all_goals
    sizeOf_list_dec
    exact h

end K04
set_option Elab.async false
set_option linter.all false
set_option maxRecDepth 100000
set_option maxHeartbeats 4000000
/-! Mathematics. -/
namespace K04
open PySem FE
local macro_rules | `(tactic| sizeOf_list_dec) => `(tactic| try simp only [wv, wl, w1, w2, w1L, w2L, wnil, wcons, wA, wAL, wTb, wAnd, wOr, wNt, wAndV, wOrV, wIf, wChain, wTt, wNotV, wTup, wLst, wO0, wO1, wSl, wSlL, wRg1, wRg2, wRgL, wRgT, wSeq, wRg, wYes, wEn, wEd, wEl, on2, on3, kdD, kdL, wAX, wAXL, xTry, wIsi, wJoin, wEnu, wZip, wRevI, lnd, lndL,
  mk0, mk1, mk2, mk3, mk4, mk5, mk6, mkx0, mkx1, mkx2, mkx3, mkx4, mkx5, mkx6, wB, if_t, if_f, not_t, not_f, oTru_bl, oTru_int, oTru_lst, oTru_tup, oTru_non, oCmp_int, oAdd_int, oAdd_tup, oAdd_lst, oAdd_str, oAddL_lst, oAddI_int, oSub_int, oMul_int, oMul_lst, oMulL_lst, oMod_int, oDiv_int, oPow_int, oNeg_int, oAbs_int, oInt_int, oInt_bl, oRg1_int, oRg2_int,
  oIx_lst, oIx_tup, oLen_lst, oLen_tup, oMin2_int, oMax2_int, oItems_tup, oItems_lst, oTupOf_lst, oTupOf_tup, oListOf_lst, oListOf_tup, oSl_tup, oSl_lst, oSlL_lst, oRev_tup, oRevL_lst, oZip_lst, oZip_tup, oEnu_lst, oEnu_tup, oExt_lst, oPut_int, oEqA_str, oNeA_str, oEqA_int', oNeA_int', oEqA_bl', oNeA_bl', atI_0, atI_1, atI_2, Option.some.injEq, Prod.exists, D.tup.injEq, wLc2, wMt, wRgV, seq_tup, seq_lst, oRevI_lst, oRevI_tup, List.cons.injEq, and_true, true_and, exists_eq_left', exists_eq_left, exists_and_left, List.length_cons, List.length_nil, Nat.reduceAdd, Nat.reduceLeDiff, Int.reduceNeg, Int.reduceLE, Bool.not_true, Bool.not_false, Bool.false_eq_true, if_true, if_false, decide_true, decide_false, Int.reduceLT, wMk, wLc, fld_many, fld_ties])

theorem u_marked {n m : Int} {L : Int → Int} {k : D → Prop} (hn : 0 ≤ n ∧ n ≤ 10) (h : k (encT (cls n L m))) : m_marked (.lst (lab n L)) (.int m) k := by
  refine ⟨?_⟩
  sizeOf_list_dec
  have e : enD 0 (lab n L) = (rg 0 n).map fun a => .tup [.int a, .int (L a)] := by
    unfold lab
    rw [enD_T]
    refine List.ext_getElem? fun i => ?_
    rw [List.getElem?_map, List.getElem?_map, List.getElem?_zipIdx]
    by_cases hi : i < (n - 0).toNat
    · rw [rg_get hi]
      simp
    · rw [List.getElem?_eq_none (by rw [rg_len]; omega)]
      rfl
  rw [e]
  refine ⟨by rw [List.length_map, rg_len]; omega, lcT _ (fun a => decide (L a = m)) (fun a => .int a) (fun a ha ko hko => ?_) ?_⟩
  · sizeOf_list_dec
    refine ⟨_, _, ⟨rfl, rfl⟩, ?_⟩
    rw [oEqA_int']
    exact hko
  · exact h
variable {n : Int} {ps : List Tie} {ns : List Int}
theorem u_parts {k : List D → Prop} {y : Xd} (h : Ok n ps) (a : Asc 0 ps.length ns) (q : k (partD n (labs ps ns))) : m_parts (wb n ps) (encT ns) k y := by
  have n1 := h.n1
  have n2 := h.n2
  refine ⟨wJ_u fun J hJ => ?_⟩
  sizeOf_list_dec
  refine u_is_lot ?_
  rw [show isLot ((ps.map tD).length : Int) (encT ns) = true from isLot_ints (by rw [List.length_map]; exact a)]
  refine hJ ?_
  unfold encT
  sizeOf_list_dec
  refine ⟨⟨by omega, by omega⟩, wJ_all fun J2 hJ2 => ?_⟩
  sizeOf_list_dec
  rw [rg_lab]
  refine forT D.int (fun L => D.lst (lab n L)) (fun L t => relm L (ps.getD t.toNat (0, 0))) (fun t ht L p hp => ?_) ?_
  · have t1 := a.2 t ht
    have tt := h.ties _ (tie_at ns t1.1 t1.2).1
    have e : L2.atI (ps.map tD) t = some (tD (ps.getD t.toNat (0, 0))) := by
      obtain ⟨p, e1, e2⟩ := at_Z tD (xs := ps) t1.1 t1.2
      rw [e2]
      rw [(tie_at ns t1.1 t1.2).2] at e1
      rw [Option.some.inj e1]
    generalize ps.getD t.toNat (0, 0) = w at *
    sizeOf_list_dec
    refine ⟨_, e, ?_⟩
    unfold tD
    sizeOf_list_dec
    refine ⟨_, _, ⟨rfl, rfl⟩, ?_⟩
    have l1 := lab_at (n := n) L tt.1 (by omega)
    have l2 := lab_at (n := n) L (a := w.2) (by omega) tt.2.2
    refine ⟨_, l1, _, l2, ?_⟩
    sizeOf_list_dec
    refine ⟨_, l1, _, l2, ?_⟩
    sizeOf_list_dec
    refine ⟨_, _, ⟨rfl, rfl⟩, by rw [lab_len]; omega, ?_⟩
    unfold lab
    refine lcTm _ (fun a => .int (relm L w a)) (fun a ha ko hko => ?_) ?_
    · sizeOf_list_dec
      unfold relm mx mn at hko
      by_cases c : L a = if L w.2 > L w.1 then L w.2 else L w.1
      · rw [if_pos c] at hko
        rw [if_pos (decide_eq_true c)]
        exact hko
      · rw [if_neg c] at hko
        rw [if_neg (by simpa using c)]
        exact hko
    · exact hp
  · refine hJ2 _ ?_
    have el : (ns.foldl (fun L t => relm L (ps.getD t.toNat (0, 0))) id) = labs ps ns := by
      unfold labs tiesAt
      rw [List.foldl_map]
    rw [el]
    refine ⟨⟨by omega, by omega⟩, by rw [rgD_len]; omega, ?_⟩
    rw [rgD_rg]
    refine lcTm D.int (fun m => encT (cls n (labs ps ns) m)) (fun m hm ko hko => ?_) ?_
    · exact u_marked ⟨by omega, n2⟩ hko
    · refine ⟨by rw [List.length_map, rg_len]; omega, lcT _ (fun m => !(cls n (labs ps ns) m).isEmpty) (fun m => encT (cls n (labs ps ns) m)) (fun m hm ko hko => ?_) ?_⟩
      · unfold encT
        sizeOf_list_dec
        rw [List.isEmpty_map]
        exact hko
      · unfold partD partI hds at q
        rw [List.map_map] at q
        exact q
theorem u_partsX {d : D} {k : List D → Prop} {y : Xd} (hd : isLot (ps.length : Int) d = false) (q : y "NoTies" []) : m_parts (wb n ps) d k y := by
  refine ⟨wJ_u fun J hJ => ?_⟩
  sizeOf_list_dec
  refine u_is_lot ?_
  rw [List.length_map, hd]
  exact q
theorem u_rank {k : D → Prop} {y : Xd} (h : Ok n ps) (a : Asc 0 ps.length ns) (q : k (.int (n - ((hds n (labs ps ns)).length : Nat)))) : m_rank (wb n ps) (encT ns) k y := by
  refine ⟨?_⟩
  sizeOf_list_dec
  refine u_parts h a ?_
  sizeOf_list_dec
  unfold partD partI
  rw [List.length_map, List.length_map]
  exact q
theorem u_rankX {d : D} {k : D → Prop} {y : Xd} (hd : isLot (ps.length : Int) d = false) (q : y "NoTies" []) : m_rank (wb n ps) d k y := by
  refine ⟨?_⟩
  sizeOf_list_dec
  exact u_partsX hd q

theorem u_l_parts {k : List D → Prop} (h : Ok n ps) (a : Asc 0 ps.length ns) (q : k (partD n (labs ps ns))) : m_l_parts (.int n) (tl ps) (encT ns) k := by
  have n1 := h.n1
  have n2 := h.n2
  refine ⟨?_⟩
  unfold encT
  sizeOf_list_dec
  refine ⟨⟨by omega, by omega⟩, wJ_all fun J2 hJ2 => ?_⟩
  sizeOf_list_dec
  rw [rg_lab]
  refine forT D.int (fun L => D.lst (lab n L)) (fun L t => relm L (ps.getD t.toNat (0, 0))) (fun t ht L p hp => ?_) ?_
  · have t1 := a.2 t ht
    have tt := h.ties _ (tie_at ns t1.1 t1.2).1
    have e : L2.atI (ps.map tD) t = some (tD (ps.getD t.toNat (0, 0))) := by
      obtain ⟨p, e1, e2⟩ := at_Z tD (xs := ps) t1.1 t1.2
      rw [e2]
      rw [(tie_at ns t1.1 t1.2).2] at e1
      rw [Option.some.inj e1]
    generalize ps.getD t.toNat (0, 0) = w at *
    have l1 := lab_at (n := n) L tt.1 (by omega)
    have l2 := lab_at (n := n) L (a := w.2) (by omega) tt.2.2
    sizeOf_list_dec
    refine ⟨_, e, ?_⟩
    unfold tD
    sizeOf_list_dec
    refine ⟨_, l1, _, e, ?_⟩
    unfold tD
    sizeOf_list_dec
    refine ⟨_, l2, ?_⟩
    refine ⟨_, _, ⟨rfl, rfl⟩, by rw [lab_len]; omega, ?_⟩
    unfold lab
    refine lcTm _ (fun a => .int (relm L w a)) (fun a ha ko hko => ?_) ?_
    · sizeOf_list_dec
      refine u_inT (ns := [L w.1, L w.2]) ?_
      sizeOf_list_dec
      unfold relm at hko
      rw [relm_in] at hko
      split
      · next c => rw [if_pos c] at hko; exact hko
      · next c => rw [if_neg c] at hko; exact hko
    · exact hp
  · refine hJ2 _ ?_
    have el : (ns.foldl (fun L t => relm L (ps.getD t.toNat (0, 0))) id) = labs ps ns := by
      unfold labs tiesAt
      rw [List.foldl_map]
    rw [el]
    refine ⟨_, lab_ints _, by rw [List.length_map, rg_len]; omega, fun ms ma mm => ?_⟩
    have em : ms = hds n (labs ps ns) := by
      refine asc_ext ma (hds_asc _ _) fun z => ?_
      rw [mm, (hds_unl (labs_in h a)).mem]
    subst em
    refine ⟨by rw [List.length_map]; exact Nat.le_trans (List.length_filter_le ..) (by rw [rg_len]; omega), lcTm D.int (fun m => encT (cls n (labs ps ns) m)) (fun m hm ko hko => ?_) ?_⟩
    · refine ⟨⟨by omega, by omega⟩, by rw [rgD_len]; omega, ?_⟩
      rw [rgD_rg]
      refine lcT D.int (fun a => decide (labs ps ns a = m)) D.int (fun a ha ko hk => ?_) ?_
      · have := mem_rg.mp ha
        refine ⟨_, lab_at _ this.1 this.2, ?_⟩
        sizeOf_list_dec
        exact hk
      · exact hko
    · unfold partD partI at q
      rw [List.map_map] at q
      exact q
end K04
set_option Elab.async false
set_option linter.all false
set_option maxRecDepth 100000
set_option maxHeartbeats 4000000
/-! Mathematics. -/
namespace K04
open PySem FE
local macro_rules | `(tactic| sizeOf_list_dec) => `(tactic| try simp only [wv, wl, w1, w2, w1L, w2L, wnil, wcons, wA, wAL, wTb, wAnd, wOr, wNt, wAndV, wOrV, wIf, wChain, wTt, wNotV, wTup, wLst, wO0, wO1, wSl, wSlL, wRg1, wRg2, wRgL, wRgT, wSeq, wRg, wYes, wEn, wEd, wEl, on2, on3, kdD, kdL, wAX, wAXL, xTry, wIsi, wJoin, wEnu, wZip, wRevI, lnd, lndL,
  mk0, mk1, mk2, mk3, mk4, mk5, mk6, mkx0, mkx1, mkx2, mkx3, mkx4, mkx5, mkx6, wB, if_t, if_f, not_t, not_f, oTru_bl, oTru_int, oTru_lst, oTru_tup, oTru_non, oCmp_int, oAdd_int, oAdd_tup, oAdd_lst, oAdd_str, oAddL_lst, oAddI_int, oSub_int, oMul_int, oMul_lst, oMulL_lst, oMod_int, oDiv_int, oPow_int, oNeg_int, oAbs_int, oInt_int, oInt_bl, oRg1_int, oRg2_int,
  oIx_lst, oIx_tup, oLen_lst, oLen_tup, oMin2_int, oMax2_int, oItems_tup, oItems_lst, oTupOf_lst, oTupOf_tup, oListOf_lst, oListOf_tup, oSl_tup, oSl_lst, oSlL_lst, oRev_tup, oRevL_lst, oZip_lst, oZip_tup, oEnu_lst, oEnu_tup, oExt_lst, oPut_int, oEqA_str, oNeA_str, oEqA_int', oNeA_int', oEqA_bl', oNeA_bl', atI_0, atI_1, atI_2, Option.some.injEq, Prod.exists, D.tup.injEq, wLc2, wMt, wRgV, seq_tup, seq_lst, oRevI_lst, oRevI_tup, List.cons.injEq, and_true, true_and, exists_eq_left', exists_eq_left, exists_and_left, List.length_cons, List.length_nil, Nat.reduceAdd, Nat.reduceLeDiff, Int.reduceNeg, Int.reduceLE, Bool.not_true, Bool.not_false, Bool.false_eq_true, if_true, if_false, decide_true, decide_false, Int.reduceLT, wMk, wLc, fld_many, fld_ties])

theorem u_any {l : List D} {k : D → Prop} (h0 : 0 < l.length) (h1 : l.length < 1000000) (h : ∀ x ∈ l, k x) : m_l_some (.lst l) k := by
  refine ⟨?_⟩
  sizeOf_list_dec
  refine u_draw (by omega) (by omega) fun z z0 z1 => ?_
  obtain ⟨x, hx, mx⟩ := at_of (l := l) z0 z1
  exact ⟨x, hx, h x mx⟩
/-- one of some ints -/
theorem u_anyI {ns : List Int} {k : D → Prop} (h0 : 0 < ns.length) (h1 : ns.length < 1000000) (h : ∀ x ∈ ns, k (.int x)) : m_l_some (.lst (ns.map D.int)) k := u_any (by rw [List.length_map]; exact h0) (by rw [List.length_map]; exact h1) fun x hx => by
  obtain ⟨z, hz, rfl⟩ := List.mem_map.mp hx
  exact h z hz

theorem u_l_pair {a b : Int} {k : D → Prop} (h : k (tD (mn a b, mx a b))) : m_l_pair (.int a) (.int b) k := by
  refine ⟨?_⟩
  sizeOf_list_dec
  exact h
theorem pair_ok {n a b : Int} (ha : 0 ≤ a ∧ a < n) (hb : 0 ≤ b ∧ b < n) : tieB n (tD (mn a b, mx a b)) = true := by
  unfold mn mx tD tieB
  dsimp only
  simp only [Bool.and_eq_true, decide_eq_true_eq]
  split <;> split <;> omega
theorem ties_of {n : Int} {l : List D} (hn : 1 ≤ n ∧ n ≤ 10) (hl : l.length ≤ 16) (h : ∀ x ∈ l, tieB n x = true) : ∃ ps, l = ps.map tD ∧ Ok n ps := ok_of ⟨rfl, rfl, hn.1, hn.2, hl, h⟩
theorem u_l_ties {n w : Int} {k : D → Prop} (hn : 1 ≤ n ∧ n ≤ 10) (h : ∀ ps, Ok n ps → k (tl ps)) : m_l_ties (.int n) (.int w) k := by
  refine ⟨?_⟩
  dsimp only [wEl, wEd, wEn, wLst, wnil]
  refine ⟨by decide, ?_⟩
  refine cutP (m := wIf _ _ _) (fun d => ∃ few : Int, d = D.int few ∧ 1 ≤ few ∧ few ≤ n) (fun k hk => ?_) ?_
  · sizeOf_list_dec
    split
    · exact hk _ ⟨n, rfl, hn.1, Int.le_refl _⟩
    · exact u_draw (by omega) (by omega) fun z z0 z1 => hk _ ⟨1 + z, rfl, by omega, by omega⟩
  rintro _ ⟨few, rfl, f1, f2⟩
  dsimp only [on2, kdL, kdD]
  have R : ∀ {m : Int}, 1 ≤ m → m ≤ n → ∀ {k : D → Prop}, (∀ z : Int, (0 ≤ z ∧ z < n) → k (.int z)) → m_l_draw (.int m) k := fun m0 m1 k hk => u_draw (by omega) (by omega) fun z z0 z1 => hk z ⟨z0, by omega⟩
  refine wJ_all fun J hJ => ?_
  have J1 : ∀ l : List D, l.length ≤ 20 → (∀ x ∈ l, tieB n x = true) → J l := fun l ll lt => by
    refine hJ l (wJ_all fun J2 hJ2 => ?_)
    have J3 : ∀ l : List D, l.length ≤ 20 → (∀ x ∈ l, tieB n x = true) → J2 l := fun l ll lt => by
      refine hJ2 l (wJ_all fun J4 hJ4 => ?_)
      have J5 : ∀ l : List D, l.length ≤ 20 → (∀ x ∈ l, tieB n x = true) → J4 l := fun l ll lt => by
        refine hJ4 l (wJ_all fun J6 hJ6 => ?_)
        dsimp only [wRg, wRg1]
        refine cutP (m := wIf _ _ _) (fun d => ∃ m : Int, d = D.int m ∧ 0 ≤ m ∧ m ≤ 16) (fun k hk => ?_) ?_
        · sizeOf_list_dec
          split
          · split
            · exact u_anyI (ns := [0, 0, 1, 2, 3, 5, 8, 16]) (by decide) (by decide) fun x hx => hk _ ⟨x, rfl, by revert x; decide⟩
            · exact u_draw (by decide) (by decide) fun z z0 z1 => hk _ ⟨z, rfl, by omega⟩
          · exact u_draw (by decide) (by decide) fun z z0 z1 => hk _ ⟨z, rfl, by omega⟩
        rintro _ ⟨m, rfl, m0, m1⟩
        sizeOf_list_dec
        refine ⟨by omega, ?_⟩
        rw [rgD_rg]
        refine forI D.int (fun ys s => s.length ≤ 20 + ys.length ∧ ∀ x ∈ s, tieB n x = true) ⟨ll, lt⟩ (fun ys a zs e s hs p hp => ?_) (fun s hs => hJ6 s ?_)
        · have le : ys.length ≤ 16 := by
            have := congrArg List.length e
            rw [rg_len, List.length_append, List.length_cons] at this
            omega
          sizeOf_list_dec
          refine R f1 f2 fun z hz => R (k := fun d => d = d) f1 f2 (fun _ _ => rfl) |> fun _ => ?_
          have last : ∀ v : Int, (0 ≤ v ∧ v < n) → m_l_pair (.int z) (.int v) fun x => s.length < 100000 ∧ p (s ++ [x]) := fun v hv => u_l_pair ⟨by omega, hp _ ⟨by rw [List.length_append, List.length_append]; simp; omega, all_app hs.2 (all_one (pair_ok hz hv))⟩⟩
          refine u_draw (by decide) (by decide) fun v _ _ => ?_
          sizeOf_list_dec
          split
          · exact last z hz
          · exact R f1 f2 last
        · have sl : s.length ≤ 40 := by have := hs.1; rw [rg_len] at this; omega
          sizeOf_list_dec
          refine ⟨by omega, wJ_all fun J8 hJ8 => ?_⟩
          sizeOf_list_dec
          rw [rgD_len]
          refine ⟨by omega, ?_⟩
          rw [show ((((s.length : Nat) : Int) - 0).toNat : Int) = s.length by omega, rgD_rg]
          have o0 : InO s.length ((rg 0 s.length).map D.int) := by
            rw [← rgD_rg]
            exact InO.rg _
          refine forI D.int (fun ys o => InO s.length o) o0 (fun ys a zs e o ho p hp => ?_) (fun o ho => hJ8 o ?_)
          · have ha := mem_rg.mp (show a ∈ rg 0 (s.length : Int) by rw [e]; simp)
            sizeOf_list_dec
            rw [ho.1]
            refine u_draw (by omega) (by omega) fun z z0 z1 => ?_
            sizeOf_list_dec
            obtain ⟨i, e1, m1, h1⟩ := ho.at (z := a + z) (by omega) (by omega)
            obtain ⟨j, e2, m2, h2⟩ := ho.at (z := a) (by omega) (by omega)
            refine ⟨_, e1, _, e2, _, ixN_of ha.1 ha.2, ?_⟩
            have o1 := ho.set' ⟨rfl, h1⟩ a.toNat
            rw [o1.1]
            exact ⟨_, ixN_of (by omega) (by omega), hp _ (o1.set' ⟨rfl, h2⟩ _)⟩
          · sizeOf_list_dec
            have cl := cutD_len o none (some 16)
            have c16 : (cutD o none (some 16)).length ≤ 16 := by rw [cutD_to _ (by decide), List.length_take]; exact Nat.min_le_left _ _
            refine ⟨by omega, lc_any (fun d => tieB n d = true) (fun x hx ko hko => ?_) fun l hl hp => ?_⟩
            · obtain ⟨i, rfl, i0, i1⟩ := ho.2 x (cutD_sub hx)
              obtain ⟨y, hy, my⟩ := at_of (l := s) i0 (by omega)
              exact ⟨y, hy, hko y (hs.2 y my)⟩
            · obtain ⟨ps, rfl, ok⟩ := ties_of hn (by omega) hp
              exact h ps ok
      sizeOf_list_dec
      split
      · refine ⟨by omega, by rw [rgD_len]; omega, lc_any (fun d => tieB n d = true) (fun x hx ko hko => ?_) fun l hl hp => J5 l (by rw [hl, rgD_len]; omega) hp⟩
        obtain ⟨i, rfl, i0, i1⟩ := rgD_mem hx
        sizeOf_list_dec
        refine ⟨by omega, u_l_pair (hko _ (pair_ok ⟨by omega, by omega⟩ ⟨Int.emod_nonneg _ (by omega), Int.emod_lt_of_pos _ (by omega)⟩))⟩
      · exact J5 l ll lt
    sizeOf_list_dec
    split
    · refine ⟨by omega, by rw [rgD_len]; omega, lc_any (fun d => tieB n d = true) (fun x hx ko hko => ?_) fun l hl hp => J3 l (by rw [hl, rgD_len]; omega) hp⟩
      obtain ⟨i, rfl, i0, i1⟩ := rgD_mem hx
      refine u_draw (by omega) (by omega) fun z z0 z1 => ?_
      sizeOf_list_dec
      refine hko _ ?_
      simp only [tieB, Bool.and_eq_true, decide_eq_true_eq]
      omega
    · exact J3 l ll lt
  sizeOf_list_dec
  split
  · refine R hn.1 (Int.le_refl _) fun a ha => R hn.1 (Int.le_refl _) fun b hb => u_l_pair ?_
    refine u_anyI (ns := [1, 2, 3, 9, 16]) (by decide) (by decide) fun x hx => ?_
    have hx : 0 ≤ x ∧ x ≤ 16 := by revert x; decide
    sizeOf_list_dec
    exact ⟨by omega, J1 _ (by rw [rep1_len]; omega) (all_rep (pair_ok ha hb) _)⟩
  · exact J1 _ (by simp) all_nil
theorem u_l_lot {m : Int} {k : D → Prop} (hm : 0 ≤ m ∧ m ≤ 16) (h : ∀ ns, Asc 0 m ns → k (encT ns)) : m_l_lot (.int m) k := by
  refine ⟨?_⟩
  sizeOf_list_dec
  refine u_anyI (ns := [0, 2, 5, 8, 10]) (by decide) (by decide) fun x hx => ?_
  sizeOf_list_dec
  refine ⟨by omega, by rw [rgD_len]; omega, ?_⟩
  rw [rgD_rg]
  -- any of the places, in their order
  have go : ∀ (xs acc : List Int), (acc ++ xs).Pairwise (· < ·) → (∀ z ∈ acc ++ xs, 0 ≤ z ∧ z < m) → lcW (fun a ko => m_l_draw (.int 10) fun c => oCmp (fun i j => decide (i < j)) c (.int x) fun d => wB d fun b => if b = true then ko (some a) else ko none) (xs.map D.int) (acc.map D.int) fun l => k (.tup l) := by
    intro xs
    induction xs with
    | nil => exact fun acc h1 h2 => h acc ⟨by simpa using h1, by simpa using h2⟩
    | cons a r ih =>
      intro acc h1 h2
      rw [List.map_cons]
      unfold lcW
      refine u_draw (by decide) (by decide) fun z z0 z1 => ?_
      sizeOf_list_dec
      split
      · have := ih (acc ++ [a]) (by simpa using h1) (by simpa using h2)
        rw [List.map_append] at this
        exact this
      · exact ih acc (h1.sublist (List.Sublist.append_left (List.sublist_cons_self a r) acc)) fun z hz => h2 z ((List.Sublist.append_left (List.sublist_cons_self a r) acc).subset hz)
  have := go (rg 0 m) [] (rg_sorted 0 m) (fun z hz => mem_rg.mp hz)
  exact this
theorem u_l_deep {k : D → Prop} (h : ∀ d, k d) : m_l_deep k := by
  refine ⟨?_⟩
  sizeOf_list_dec
  refine u_any (by decide) (by decide) fun x hx => wJ_all fun J hJ => ?_
  sizeOf_list_dec
  refine u_draw (by decide) (by decide) fun z z0 z1 => ⟨by omega, ?_⟩
  refine forW_all (fun _ => True) trivial (fun x hx s _ p hp => ?_) fun s hs => hJ s (h s)
  sizeOf_list_dec
  refine u_draw (by decide) (by decide) fun v v0 v1 => ?_
  obtain ⟨y, hy, _⟩ := at_of (l := [D.tup [s], D.lst [s], D.tup (cutD [s, s] none (some 1)), D.dic [kD (.inl 0)] [s]]) v0 v1
  exact ⟨y, hy, hp y trivial⟩
theorem u_l_is_lot {d : D} {b : Int} {k : D → Prop} (h : k (.bl (isLot b d))) : m_l_is_lot d (.int b) k := by
  refine ⟨wJ_u fun J hJ => ?_⟩
  cases d
  case tup l =>
    sizeOf_list_dec
    refine hJ ?_
    sizeOf_list_dec
    refine wJ_all fun J2 hJ2 => ?_
    sizeOf_list_dec
    show forW _ l ((fun a : Int => D.int (a - 1)) 0) J2
    refine lot_find (fun a => .int (a - 1)) (a := 0) (b := b) (Out := k (.bl false)) (fun x a p hp => wJ_u fun J3 hJ3 => ?_) ?_
    · cases x with
      | int i =>
        sizeOf_list_dec
        dsimp only at hp
        by_cases c : a ≤ i
        · by_cases c2 : i ≤ b - 1
          · rw [if_pos ⟨c, c2⟩] at hp
            have e1 : decide (i ≤ a - 1) = false := decide_eq_false (by omega)
            have e2 : decide (i ≥ b) = false := decide_eq_false (by omega)
            simp only [isB, e1, e2, not_t, Bool.false_eq_true, if_false]
            refine hJ3 ?_
            rw [show i + 1 - 1 = i by omega] at hp
            exact hp
          · rw [if_neg (fun h => c2 h.2)] at hp
            have e1 : decide (i ≤ a - 1) = false := decide_eq_false (by omega)
            have e2 : decide (i ≥ b) = true := decide_eq_true (by omega)
            simp only [isB, e1, e2, not_t, Bool.false_eq_true, if_false, if_true]
            exact hp
        · rw [if_neg (fun h => c h.1)] at hp
          have e1 : decide (i ≤ a - 1) = true := decide_eq_true (by omega)
          simp only [isB, e1, not_t, Bool.false_eq_true, if_false, if_true]
          exact hp
      | _ =>
        sizeOf_list_dec
        simp only [isB, not_t, not_f, if_true, Bool.false_eq_true, if_false]
        exact hp
    · rw [show isLot b (.tup l) = lotB 0 b l from rfl] at h
      cases c : lotB 0 b l with
      | true => rw [c] at h; rw [if_pos rfl]; exact fun s => hJ2 s h
      | false => rw [c] at h; rw [if_neg Bool.false_ne_true]; exact h
  all_goals
    sizeOf_list_dec
    exact h
end K04
set_option Elab.async false
set_option linter.all false
set_option maxRecDepth 100000
set_option maxHeartbeats 4000000
/-! Mathematics. -/
namespace K04
open PySem FE
local macro_rules | `(tactic| sizeOf_list_dec) => `(tactic| try simp only [wv, wl, w1, w2, w1L, w2L, wnil, wcons, wA, wAL, wTb, wAnd, wOr, wNt, wAndV, wOrV, wIf, wChain, wTt, wNotV, wTup, wLst, wO0, wO1, wSl, wSlL, wRg1, wRg2, wRgL, wRgT, wSeq, wRg, wYes, wEn, wEd, wEl, on2, on3, kdD, kdL, wAX, wAXL, xTry, wIsi, wJoin, wEnu, wZip, wRevI, lnd, lndL,
  mk0, mk1, mk2, mk3, mk4, mk5, mk6, mkx0, mkx1, mkx2, mkx3, mkx4, mkx5, mkx6, wB, if_t, if_f, not_t, not_f, oTru_bl, oTru_int, oTru_lst, oTru_tup, oTru_non, oCmp_int, oAdd_int, oAdd_tup, oAdd_lst, oAdd_str, oAddL_lst, oAddI_int, oSub_int, oMul_int, oMul_lst, oMulL_lst, oMod_int, oDiv_int, oPow_int, oNeg_int, oAbs_int, oInt_int, oInt_bl, oRg1_int, oRg2_int,
  oIx_lst, oIx_tup, oLen_lst, oLen_tup, oMin2_int, oMax2_int, oItems_tup, oItems_lst, oTupOf_lst, oTupOf_tup, oListOf_lst, oListOf_tup, oSl_tup, oSl_lst, oSlL_lst, oRev_tup, oRevL_lst, oZip_lst, oZip_tup, oEnu_lst, oEnu_tup, oExt_lst, oPut_int, oEqA_str, oNeA_str, oEqA_int', oNeA_int', oEqA_bl', oNeA_bl', atI_0, atI_1, atI_2, Option.some.injEq, Prod.exists, D.tup.injEq, wLc2, wMt, wRgV, seq_tup, seq_lst, oRevI_lst, oRevI_tup, List.cons.injEq, and_true, true_and, exists_eq_left', exists_eq_left, exists_and_left, List.length_cons, List.length_nil, Nat.reduceAdd, Nat.reduceLeDiff, Int.reduceNeg, Int.reduceLE, Bool.not_true, Bool.not_false, Bool.false_eq_true, if_true, if_false, decide_true, decide_false, Int.reduceLT, wMk, wLc, fld_many, fld_ties])

theorem u_is_refl : ∀ {n : Nat} {d : D} {k : D → Prop}, Pl n d → k (.bl true) → m_l_is (n + 1) d d k
  | n, .int i, k, _, h => by
    refine ⟨wJ_u fun J hJ => ?_⟩
    sizeOf_list_dec
    simp only [isB, Bool.or_self, Bool.false_eq_true, if_false]
    refine hJ (wJ_u fun J2 hJ2 => ?_)
    sizeOf_list_dec
    simp only [isB, oNeA_bl', beq_self_eq_true, not_t, wB, Bool.false_eq_true, if_false]
    refine hJ2 ?_
    sizeOf_list_dec
    simpa using h
  | n, .bl b, k, _, h => by
    refine ⟨wJ_u fun J hJ => ?_⟩
    sizeOf_list_dec
    simp only [isB, Bool.or_self, Bool.false_eq_true, if_false]
    refine hJ (wJ_u fun J2 hJ2 => ?_)
    sizeOf_list_dec
    simp only [isB, oNeA_bl', beq_self_eq_true, not_t, wB, Bool.false_eq_true, if_false]
    refine hJ2 ?_
    sizeOf_list_dec
    rw [beq_self_eq_true]
    exact h
  | n + 1, .lst l, k, .lst z q, h => by
    refine ⟨wJ_u fun J hJ => ?_⟩
    sizeOf_list_dec
    simp only [isB, Bool.or_true, if_true]
    refine wJ_u fun J2 hJ2 => ?_
    sizeOf_list_dec
    simp only [isB, oNeA_bl', beq_self_eq_true, not_t, wB, Bool.false_eq_true, if_false, Bool.or_true]
    refine hJ2 ?_
    sizeOf_list_dec
    rw [zip_self]
    refine ⟨by rw [List.length_map]; exact z, lcTm (fun x : D => .tup [x, x]) (fun _ => .bl true) (fun x hx ko hko => ?_) ?_⟩
    · sizeOf_list_dec
      refine ⟨_, _, ⟨rfl, rfl⟩, u_is_refl (q x hx) ?_⟩
      exact hko
    · refine u_allT (p := fun _ => true) ?_
      rw [List.all_eq_true.mpr fun _ _ => rfl]
      exact h
  | n + 1, .tup l, k, .tup z q, h => by
    refine ⟨wJ_u fun J hJ => ?_⟩
    sizeOf_list_dec
    simp only [isB, Bool.true_or, if_true]
    refine wJ_u fun J2 hJ2 => ?_
    sizeOf_list_dec
    simp only [isB, oNeA_bl', beq_self_eq_true, not_t, wB, Bool.false_eq_true, if_false, Bool.true_or]
    refine hJ2 ?_
    sizeOf_list_dec
    rw [zip_self]
    refine ⟨by rw [List.length_map]; exact z, lcTm (fun x : D => .tup [x, x]) (fun _ => .bl true) (fun x hx ko hko => ?_) ?_⟩
    · sizeOf_list_dec
      refine ⟨_, _, ⟨rfl, rfl⟩, u_is_refl (q x hx) ?_⟩
      exact hko
    · refine u_allT (p := fun _ => true) ?_
      rw [List.all_eq_true.mpr fun _ _ => rfl]
      exact h
theorem u_is_at {n m : Nat} {d : D} {k : D → Prop} (h : Pl n d) (q : k (.bl true)) (le : n ≤ m := by decide) : m_l_is (m + 1) d d k := u_is_refl (h.up le) q

variable {n : Int} {ps : List Tie} {ns : List Int}
theorem Pl.part (hn : 0 ≤ n ∧ n ≤ 10) (L : Int → Int) : Pl 2 (.lst (partD n L)) := by
  have len : (hds n L).length ≤ 10 := Nat.le_trans (List.length_filter_le ..) (by rw [rg_len]; omega)
  refine .lst (by unfold partD partI; rw [List.length_map, List.length_map]; omega) fun x hx => ?_
  obtain ⟨c, hc, rfl⟩ := List.mem_map.mp hx
  obtain ⟨m, _, rfl⟩ := List.mem_map.mp hc
  exact Pl.ints (Nat.le_trans (List.length_filter_le ..) (by rw [rg_len]; omega))
theorem u_one_right {k : D → Prop} (h : Ok n ps) (a : Asc 0 ps.length ns) (q : k (.bl true)) : m_l_one_right (wb n ps) (.int n) (tl ps) (encT ns) k := by
  have n1 := h.n1
  have n2 := h.n2
  have len : (hds n (labs ps ns)).length ≤ 10 := Nat.le_trans (List.length_filter_le ..) (by rw [rg_len]; omega)
  refine ⟨?_⟩
  sizeOf_list_dec
  refine u_l_parts h a ?_
  refine u_parts h a ?_
  refine wJ_u fun J hJ => ?_
  sizeOf_list_dec
  refine u_is_at (Pl.part ⟨by omega, n2⟩ _) ?_
  refine ⟨rfl, ?_⟩
  sizeOf_list_dec
  refine u_rank h a ?_
  unfold partD partI
  rw [List.length_map, List.length_map]
  refine u_is_at (.int _ : Pl 0 _) ?_
  sizeOf_list_dec
  refine hJ ?_
  sizeOf_list_dec
  refine ⟨by unfold partD partI; rw [List.length_map, List.length_map]; omega, u_parts h a (u_is_at (Pl.part ⟨by omega, n2⟩ _) q)⟩
end K04
set_option Elab.async false
set_option linter.all false
set_option maxRecDepth 100000
set_option maxHeartbeats 4000000
/-! Mathematics. -/
namespace K04
open PySem FE
local macro_rules | `(tactic| sizeOf_list_dec) => `(tactic| try simp only [wv, wl, w1, w2, w1L, w2L, wnil, wcons, wA, wAL, wTb, wAnd, wOr, wNt, wAndV, wOrV, wIf, wChain, wTt, wNotV, wTup, wLst, wO0, wO1, wSl, wSlL, wRg1, wRg2, wRgL, wRgT, wSeq, wRg, wYes, wEn, wEd, wEl, on2, on3, kdD, kdL, wAX, wAXL, xTry, wIsi, wJoin, wEnu, wZip, wRevI, lnd, lndL,
  mk0, mk1, mk2, mk3, mk4, mk5, mk6, mkx0, mkx1, mkx2, mkx3, mkx4, mkx5, mkx6, wB, if_t, if_f, not_t, not_f, oTru_bl, oTru_int, oTru_lst, oTru_tup, oTru_non, oCmp_int, oAdd_int, oAdd_tup, oAdd_lst, oAdd_str, oAddL_lst, oAddI_int, oSub_int, oMul_int, oMul_lst, oMulL_lst, oMod_int, oDiv_int, oPow_int, oNeg_int, oAbs_int, oInt_int, oInt_bl, oRg1_int, oRg2_int,
  oIx_lst, oIx_tup, oLen_lst, oLen_tup, oMin2_int, oMax2_int, oItems_tup, oItems_lst, oTupOf_lst, oTupOf_tup, oListOf_lst, oListOf_tup, oSl_tup, oSl_lst, oSlL_lst, oRev_tup, oRevL_lst, oZip_lst, oZip_tup, oEnu_lst, oEnu_tup, oExt_lst, oPut_int, oEqA_str, oNeA_str, oEqA_int', oNeA_int', oEqA_bl', oNeA_bl', atI_0, atI_1, atI_2, Option.some.injEq, Prod.exists, D.tup.injEq, wLc2, wMt, wRgV, seq_tup, seq_lst, oRevI_lst, oRevI_tup, List.cons.injEq, and_true, true_and, exists_eq_left', exists_eq_left, exists_and_left, List.length_cons, List.length_nil, Nat.reduceAdd, Nat.reduceLeDiff, Int.reduceNeg, Int.reduceLE, Bool.not_true, Bool.not_false, Bool.false_eq_true, if_true, if_false, decide_true, decide_false, Int.reduceLT, wMk, wLc, fld_many, fld_ties])
local macro_rules | `(tactic| array_mem_dec) => `(tactic| first | omega | (simp only [List.length_append, List.length_cons, List.length_nil, List.length_map, List.length_reverse, List.length_replicate, repf_len, Int.reduceToNat, Nat.reduceMul] <;> omega) | exact ⟨by decide, by decide, by decide⟩ | decide)
local macro_rules | `(tactic| array_get_dec) => `(tactic| (try dsimp only); refine And.intro (by array_mem_dec) ?_)

variable {n : Int} {ps : List Tie} {ns : List Int}
theorem u_l_word {qc : (D → Prop) → Xd → Prop} {k : D → Prop} (b : Bool) (h : ∀ (j : D → Prop) (y : Xd), (if b = true then ∀ d, j d else y "NoTies" []) → qc j y) (q : k (.str (if b = true then "let" else "ties"))) : m_l_word qc k := by
  refine ⟨wJ_u fun J hJ => ?_⟩
  refine h _ _ ?_
  cases b with
  | true =>
    rw [if_pos rfl]
    exact fun d => hJ q
  | false =>
    rw [if_neg Bool.false_ne_true]
    refine xHit (by decide +kernel) ?_
    sizeOf_list_dec
    rw [show subX "NoTies" "NoTies" = true by decide +kernel]
    exact q
theorem u_l_odd_lot {b : Int} {k : D → Prop} (hl : ns.length ≤ 16) (h : ∀ d, k d) : m_l_odd_lot (encT ns) (.int b) k := by
  refine ⟨?_⟩
  unfold encT
  sizeOf_list_dec
  have e : (ns.map D.int).length = ns.length := List.length_map ..
  refine u_draw (by omega) (by omega) fun z z0 z1 => ?_
  have c1 := cutD_len (ns.map D.int) none (some z)
  have c2 := cutD_len (ns.map D.int) (some z) none
  have c3 := cutD_len (ns.map D.int) (some (-1)) none
  have c4 := cutD_len (ns.map D.int) (some (z + 1)) none
  have c5 := cutD_len (ns.map D.int) (some z) (some (z + 1))
  repeat array_get_dec
  refine lcTm D.int (fun x => if x < 2 then .bl (decide (x = 1)) else .int x) (fun x hx ko hko => ?_) ?_
  · sizeOf_list_dec
    by_cases c : x < 2
    · rw [if_pos c] at hko
      rw [if_pos (decide_eq_true c)]
      exact hko
    · rw [if_neg c] at hko
      rw [if_neg (by simpa using c)]
      exact hko
  refine u_l_deep fun d => ?_
  have cf : ∀ l : List D, l.length = 23 → 0 < l.length ∧ l.length < 1000000 := fun l hl => by omega
  sizeOf_list_dec
  repeat array_get_dec
  sizeOf_list_dec
  repeat array_get_dec
  sizeOf_list_dec
  repeat array_get_dec
  refine u_any ?_ ?_ fun x _ => h x
  · trace_state
    simp
  · simp
end K04
set_option Elab.async false
set_option linter.all false
set_option maxRecDepth 100000
set_option maxHeartbeats 4000000
/-! Mathematics. -/
namespace K04
open PySem FE
local macro_rules | `(tactic| sizeOf_list_dec) => `(tactic| try simp only [wv, wl, w1, w2, w1L, w2L, wnil, wcons, wA, wAL, wTb, wAnd, wOr, wNt, wAndV, wOrV, wIf, wChain, wTt, wNotV, wTup, wLst, wO0, wO1, wSl, wSlL, wRg1, wRg2, wRgL, wRgT, wSeq, wRg, wYes, wEn, wEd, wEl, on2, on3, kdD, kdL, wAX, wAXL, xTry, wIsi, wJoin, wEnu, wZip, wRevI, lnd, lndL,
  mk0, mk1, mk2, mk3, mk4, mk5, mk6, mkx0, mkx1, mkx2, mkx3, mkx4, mkx5, mkx6, wB, if_t, if_f, not_t, not_f, oTru_bl, oTru_int, oTru_lst, oTru_tup, oTru_non, oCmp_int, oAdd_int, oAdd_tup, oAdd_lst, oAdd_str, oAddL_lst, oAddI_int, oSub_int, oMul_int, oMul_lst, oMulL_lst, oMod_int, oDiv_int, oPow_int, oNeg_int, oAbs_int, oInt_int, oInt_bl, oRg1_int, oRg2_int,
  oIx_lst, oIx_tup, oLen_lst, oLen_tup, oMin2_int, oMax2_int, oItems_tup, oItems_lst, oTupOf_lst, oTupOf_tup, oListOf_lst, oListOf_tup, oSl_tup, oSl_lst, oSlL_lst, oRev_tup, oRevL_lst, oZip_lst, oZip_tup, oEnu_lst, oEnu_tup, oExt_lst, oPut_int, oEqA_str, oNeA_str, oEqA_int', oNeA_int', oEqA_bl', oNeA_bl', atI_0, atI_1, atI_2, Option.some.injEq, Prod.exists, D.tup.injEq, wLc2, wMt, wRgV, seq_tup, seq_lst, oRevI_lst, oRevI_tup, List.cons.injEq, and_true, true_and, exists_eq_left', exists_eq_left, exists_and_left, List.length_cons, List.length_nil, Nat.reduceAdd, Nat.reduceLeDiff, Int.reduceNeg, Int.reduceLE, Bool.not_true, Bool.not_false, Bool.false_eq_true, if_true, if_false, decide_true, decide_false, Int.reduceLT, wMk, wLc, fld_many, fld_ties])
local macro_rules | `(tactic| array_mem_dec) => `(tactic| first | omega | (simp only [List.length_append, List.length_cons, List.length_nil, List.length_map, List.length_reverse, List.length_replicate, repf_len, Int.reduceToNat, Nat.reduceMul] <;> omega) | exact ⟨by decide, by decide, by decide⟩ | decide)
local macro_rules | `(tactic| array_get_dec) => `(tactic| (try dsimp only); refine And.intro (by array_mem_dec) ?_)

variable {n : Int} {ps : List Tie} {ns : List Int}
theorem u_web {k : Prop} {y : Xd} (h : Ok n ps) (q : k) : m_webI (.int n) (tl ps) k y := by
  refine u_webI ?_
  rw [h.parts.ok]
  exact q
theorem asc_rg (m : Int) : Asc 0 m (rg 0 m) := ⟨rg_sorted 0 m, fun z hz => mem_rg.mp hz⟩
theorem asc_nil (m : Int) : Asc 0 m [] := ⟨.nil, fun _ h => nomatch h⟩
theorem Asc.len {m : Nat} (a : Asc 0 m ns) : ns.length ≤ m := by
  have := nodup_le (l := ns) (es := rg 0 m) (a.1.imp fun h => by omega) fun z hz => mem_rg.mpr (a.2 z hz)
  rw [rg_len] at this
  omega
theorem eqb_str {s t : Str} : D.eqb (.str s) (.str t) = (s == t) := rfl
theorem u_web_right {k : D → Prop} (q : k (.bl true)) : m_l_web_right k := by
  refine ⟨?_⟩
  dsimp only [wA, wcons, wl, wLst, wnil, wv]
  refine ⟨by decide, u_anyI (ns := [1, 2, 3, 4, 5, 6, 7, 8, 10]) (by decide) (by decide) fun n hn => ?_⟩
  have hn : 1 ≤ n ∧ n ≤ 10 := by revert n; decide
  refine u_draw (by decide) (by decide) fun w _ _ => u_l_ties hn fun ps ok => ?_
  sizeOf_list_dec
  refine u_web ok ?_
  have len := ok.len
  have el : ((ps.map tD).length : Int) = ps.length := by rw [List.length_map]
  refine wJ_u fun J hJ => ?_
  sizeOf_list_dec
  rw [el]
  refine ⟨by omega, ?_⟩
  refine ⟨by decide, lc_any (fun d => ∃ ns, d = encT ns ∧ Asc 0 ps.length ns) (fun x hx ko hko => ?_) fun lots hl hp => ?_⟩
  · exact u_l_lot (by omega) fun ns a => hko _ ⟨ns, rfl, a⟩
  rw [rgD_len] at hl
  refine ⟨by omega, ?_⟩
  refine forW_unit (hJ ?_) fun x hx p hp2 => ?_
  · sizeOf_list_dec
    have pl : Pl 3 (.tup [.int n, tl ps]) := .tup (by simp) fun x hx => by
      simp only [List.mem_cons, List.not_mem_nil, or_false] at hx
      rcases hx with rfl | rfl
      · exact .int _
      · refine .tup (by rw [List.length_map]; omega) fun y hy => ?_
        obtain ⟨t, _, rfl⟩ := List.mem_map.mp hy
        exact .tup (by simp) fun z hz => by
          simp only [List.mem_cons, List.not_mem_nil, or_false] at hz
          rcases hz with rfl | rfl <;> exact .int _
    exact u_is_at pl q
  · have hx' : ∃ ns, x = encT ns ∧ Asc 0 ps.length ns := by
      rcases List.mem_append.mp hx with hx | hx
      · simp only [List.mem_cons, List.not_mem_nil, or_false] at hx
        rcases hx with rfl | rfl
        · exact ⟨[], rfl, asc_nil _⟩
        · exact ⟨rg 0 ps.length, by rw [rgD_rg]; rfl, asc_rg _⟩
      · exact hp x hx
    obtain ⟨ns, rfl, a⟩ := hx'
    have al := Asc.len a
    sizeOf_list_dec
    refine wJ_u fun J2 hJ2 => ?_
    refine u_one_right ok a ?_
    sizeOf_list_dec
    refine hJ2 ?_
    refine u_l_parts ok a (wJ_u fun J3 hJ3 => ?_)
    sizeOf_list_dec
    refine ⟨by omega, by rw [rgD_len]; omega, ?_⟩
    rw [rgD_rg]
    refine lcT D.int (fun t => !decide (t ∈ ns)) D.int (fun t ht ko hko => ?_) ?_
    · refine u_notInT ?_
      sizeOf_list_dec
      exact hko
    refine forW_unit (hJ3 ?_) fun x hx p2 hp3 => ?_
    · -- odd lots
      sizeOf_list_dec
      refine u_l_odd_lot (by omega) fun d => ?_
      refine u_l_is_lot ?_
      cases c : isLot (ps.length : Int) d with
      | true =>
        obtain ⟨ms, rfl, am⟩ := isLot_of c
        refine u_l_word true (fun j y hj => u_parts ok am (hj _)) (u_l_word true (fun j y hj => u_rank ok am (hj _)) ?_)
        sizeOf_list_dec
        refine ⟨by decide, by decide, u_neA (by decide +kernel) (by decide +kernel) ?_⟩
        rw [show D.eqb _ _ = true by decide +kernel]
        exact hp2
      | false =>
        refine u_l_word false (fun j y hj => u_partsX c hj) (u_l_word false (fun j y hj => u_rankX c hj) ?_)
        sizeOf_list_dec
        refine ⟨by decide, by decide, u_neA (by decide +kernel) (by decide +kernel) ?_⟩
        rw [show D.eqb _ _ = true by decide +kernel]
        exact hp2
    · -- a tie more
      have hx := cutD_sub hx
      obtain ⟨t, ht, rfl⟩ := List.mem_map.mp hx
      have hf := List.mem_filter.mp ht
      have t1 := mem_rg.mp hf.1
      have tn : t ∉ ns := by simpa using hf.2
      obtain ⟨tm, te⟩ := tie_at ns t1.1 t1.2
      have hp := ok.ties _ tm
      have iL := labs_in ok a
      have hat : L2.atI (ps.map tD) t = some (tD (ps.getD t.toNat (0, 0))) := by
        obtain ⟨q, e1, e2⟩ := at_Z tD t1.1 t1.2
        rw [e2, Option.some.inj (e1.symm.trans te)]
      have more := fun ms pm so => rank_more (ms := ms) ok a t1 tn pm so _ rfl _ rfl
      revert more hat hp
      generalize ps.getD t.toNat (0, 0) = p
      intro hp hat more
      sizeOf_list_dec
      refine ⟨_, hat, _, _, rfl, ?_⟩
      have pl : (partD n (labs ps ns)).length ≤ 100000 := by
        unfold partD partI
        rw [List.length_map, List.length_map]
        exact Nat.le_trans (List.length_filter_le ..) (by rw [rg_len]; have := ok.n2; omega)
      refine ⟨pl, ?_⟩
      unfold partD
      refine lcTm encT (fun c => D.bl (decide (p.1 ∈ c) && decide (p.2 ∈ c))) (fun c hc ko hko => ?_) (u_anyT ?_)
      · refine u_inT ?_
        sizeOf_list_dec
        cases e : decide (p.1 ∈ c) with
        | false => rw [e] at hko; exact hko
        | true => rw [if_pos rfl]; refine u_inT ?_; rw [e] at hko; exact hko
      rw [in_part iL ⟨hp.1, by omega⟩ ⟨by omega, hp.2.2⟩]
      sizeOf_list_dec
      refine ⟨by rw [List.length_map]; simp only [List.length_cons, List.length_nil]; omega, .inl ⟨ns ++ [t], by rw [List.map_append]; rfl, fun ms pm so => ?_⟩⟩
      have am := sort_mem a t1 tn pm so
      refine u_rank ok am (u_rank ok a ?_)
      rw [more ms pm so]
      have h1 := hds_asc n (labs ps ns)
      by_cases c : labs ps ns p.1 = labs ps ns p.2
      · rw [if_pos c, decide_eq_true c]
        sizeOf_list_dec
        rw [decide_eq_true (by omega)]
        exact hp3
      · rw [if_neg c, decide_eq_false c]
        sizeOf_list_dec
        rw [decide_eq_true (by omega)]
        exact hp3
theorem law_true : m_law := by
  refine ⟨wJ_u fun J hJ => ?_⟩
  sizeOf_list_dec
  refine forW_unit (hJ rfl) fun x hx p hp => u_web_right ?_
  sizeOf_list_dec
  exact hp
end K04
namespace K04
open PySem L2
theorem all_mk {l : PySem.W.OpenLaw} {w : World} {K : PySem.W.Frag} {h : Heap} {mg : Str → Option Value} {fa f0 f1 f2 f3 f4 f5 f6 f7 f8 f9 f10 f11 f12 f13 f14 f15 f16 f17 f18 f19 f20 f21 f22 f23 f24 f25 f26 C_Web C_PaintError C_BadWeb C_NoTies cd25 : Addr} (X : K.In h) (G : h.Ns mainGlobals mg) (hfa : mg "law" = some (.ref fa))
    {od0 an0 od1 an1 od2 an2 od3 an3 od4 an4 od5 an5 od6 an6 od7 an7 od8 an8 od9 an9 od10 an10 od11 an11 od12 an12 od13 an13 od14 an14 od15 an15 od16 an16 od17 an17 od18 an18 od19 an19 od20 an20 od21 an21 od22 an22 od23 an23 od24 an24 od25 an25 od26 an26 : Option Addr} {sl0 sl1 sl2 sl3 sl4 sl5 sl6 sl7 sl8 sl9 sl10 sl11 sl12 sl13 sl14 sl15 sl16 sl17 sl18 sl19 sl20 sl21 sl22 sl23 sl24 sl25 sl26 : Array (Option Value)} {oc0 kV0 dc0 pm0 ct0 cd0 oc1 kV1 dc1 pm1 ct1 cd1 oc2 kV2 dc2 pm2 ct2 cd2 oc3 kV3 dc3 pm3 ct3 cd3 oc4 kV4 dc4 pm4 ct4 cd4 oc5 kV5 dc5 pm5 ct5 cd5 oc6 kV6 dc6 pm6 ct6 cd6 oc7 kV7 dc7 pm7 ct7 cd7 oc8 kV8 dc8 pm8 ct8 cd8 oc9 kV9 dc9 pm9 ct9 cd9 oc10 kV10 dc10 pm10 ct10 cd10 oc11 kV11 dc11 pm11 ct11 cd11 oc12 kV12 dc12 pm12 ct12 cd12 oc13 kV13 dc13 pm13 ct13 cd13 oc14 kV14 dc14 pm14 ct14 cd14 oc15 kV15 dc15 pm15 ct15 cd15 oc16 kV16 dc16 pm16 ct16 cd16 oc17 kV17 dc17 pm17 ct17 cd17 oc18 kV18 dc18 pm18 ct18 cd18 oc19 kV19 dc19 pm19 ct19 cd19 oc20 kV20 dc20 pm20 ct20 cd20 oc21 kV21 dc21 pm21 ct21 cd21 oc22 kV22 dc22 pm22 ct22 cd22 oc23 kV23 dc23 pm23 ct23 cd23 oc24 kV24 dc24 pm24 ct24 cd24 oc25 kV25 dc25 pm25 ct25 oc26 kV26 dc26 pm26 ct26 cd26 : Value} {t_MOST_PLACES t_MOST_TIES : Tok} {nm_BadWeb q_BadWeb : Str} {N_BadWeb : Addr} {bs_BadWeb : List Value} {sn_BadWeb : List Str} {sub_BadWeb : List Value} {ab_BadWeb : Bool} {col_BadWeb : Option Bool} {dd_BadWeb : Option Addr} {m0_BadWeb m1_BadWeb m2_BadWeb m3_BadWeb m5_BadWeb : Option Value} {nm_NoTies q_NoTies : Str} {N_NoTies : Addr} {bs_NoTies : List Value} {sn_NoTies : List Str} {sub_NoTies : List Value} {ab_NoTies : Bool} {col_NoTies : Option Bool} {dd_NoTies : Option Addr} {m0_NoTies m1_NoTies m2_NoTies m3_NoTies m5_NoTies : Option Value}
    (aC_Web : PySem.W.nsIn K mainGlobals "Web" = some (some (.ref C_Web)))
    (aC_PaintError : PySem.W.nsIn K mainGlobals "PaintError" = some (some (.ref C_PaintError)))
    (aC_BadWeb : PySem.W.nsIn K mainGlobals "BadWeb" = some (some (.ref C_BadWeb)))
    (aC_NoTies : PySem.W.nsIn K mainGlobals "NoTies" = some (some (.ref C_NoTies)))
    (a0 : PySem.W.findIn K (.ref C_BadWeb) "__init__" = some (some (.ref f0)))
    (i0 : PySem.W.isFn K (.ref f0) = true)
    (l0 : K.lookup f0 = some ⟨oc0, od0, .func (PySem.W.fnOf "__init__" "BadWeb.__init__" (defArgs s_BadwebI) (defBody s_BadwebI) (defScope s_BadwebI) .none kV0 dc0 pm0 an0 cd0 ct0), sl0⟩)
    (c0 : PySem.W.codeIn K cd0 "BadWeb.__init__" = true)
    (k0 : PySem.W.keepIn K (.ref f0) = true)
    (a1 : PySem.W.findIn K (.ref C_NoTies) "__init__" = some (some (.ref f1)))
    (i1 : PySem.W.isFn K (.ref f1) = true)
    (l1 : K.lookup f1 = some ⟨oc1, od1, .func (PySem.W.fnOf "__init__" "NoTies.__init__" (defArgs s_NoTies___init__) (defBody s_NoTies___init__) (defScope s_NoTies___init__) .none kV1 dc1 pm1 an1 cd1 ct1), sl1⟩)
    (c1 : PySem.W.codeIn K cd1 "NoTies.__init__" = true)
    (k1 : PySem.W.keepIn K (.ref f1) = true)
    (a2 : PySem.W.nsIn K mainGlobals "is_integer" = some (some (.ref f2)))
    (l2 : K.lookup f2 = some ⟨oc2, od2, .func (PySem.W.fnOf "is_integer" "is_integer" (defArgs s_is_integer) (defBody s_is_integer) (defScope s_is_integer) .none kV2 dc2 pm2 an2 cd2 ct2), sl2⟩)
    (c2 : PySem.W.codeIn K cd2 "is_integer" = true)
    (k2 : PySem.W.keepIn K (.ref f2) = true)
    (a3 : PySem.W.nsIn K mainGlobals "is_between" = some (some (.ref f3)))
    (l3 : K.lookup f3 = some ⟨oc3, od3, .func (PySem.W.fnOf "is_between" "is_between" (defArgs s_is_between) (defBody s_is_between) (defScope s_is_between) .none kV3 dc3 pm3 an3 cd3 ct3), sl3⟩)
    (c3 : PySem.W.codeIn K cd3 "is_between" = true)
    (k3 : PySem.W.keepIn K (.ref f3) = true)
    (a4 : PySem.W.nsIn K mainGlobals "is_below" = some (some (.ref f4)))
    (l4 : K.lookup f4 = some ⟨oc4, od4, .func (PySem.W.fnOf "is_below" "is_below" (defArgs s_is_below) (defBody s_is_below) (defScope s_is_below) .none kV4 dc4 pm4 an4 cd4 ct4), sl4⟩)
    (c4 : PySem.W.codeIn K cd4 "is_below" = true)
    (k4 : PySem.W.keepIn K (.ref f4) = true)
    (a5 : PySem.W.nsIn K mainGlobals "is_pair" = some (some (.ref f5)))
    (l5 : K.lookup f5 = some ⟨oc5, od5, .func (PySem.W.fnOf "is_pair" "is_pair" (defArgs s_is_pair) (defBody s_is_pair) (defScope s_is_pair) .none kV5 dc5 pm5 an5 cd5 ct5), sl5⟩)
    (c5 : PySem.W.codeIn K cd5 "is_pair" = true)
    (k5 : PySem.W.keepIn K (.ref f5) = true)
    (a6 : PySem.W.nsIn K mainGlobals "is_lot" = some (some (.ref f6)))
    (l6 : K.lookup f6 = some ⟨oc6, od6, .func (PySem.W.fnOf "is_lot" "is_lot" (defArgs s_is_lot) (defBody s_is_lot) (defScope s_is_lot) .none kV6 dc6 pm6 an6 cd6 ct6), sl6⟩)
    (c6 : PySem.W.codeIn K cd6 "is_lot" = true)
    (k6 : PySem.W.keepIn K (.ref f6) = true)
    (a7 : PySem.W.nsIn K mainGlobals "parts" = some (some (.ref f7)))
    (l7 : K.lookup f7 = some ⟨oc7, od7, .func (PySem.W.fnOf "parts" "parts" (defArgs s_parts) (defBody s_parts) (defScope s_parts) .none kV7 dc7 pm7 an7 cd7 ct7), sl7⟩)
    (c7 : PySem.W.codeIn K cd7 "parts" = true)
    (k7 : PySem.W.keepIn K (.ref f7) = true)
    (a8 : PySem.W.nsIn K mainGlobals "_marked" = some (some (.ref f8)))
    (l8 : K.lookup f8 = some ⟨oc8, od8, .func (PySem.W.fnOf "_marked" "_marked" (defArgs s_marked) (defBody s_marked) (defScope s_marked) .none kV8 dc8 pm8 an8 cd8 ct8), sl8⟩)
    (c8 : PySem.W.codeIn K cd8 "_marked" = true)
    (k8 : PySem.W.keepIn K (.ref f8) = true)
    (a9 : PySem.W.nsIn K mainGlobals "rank" = some (some (.ref f9)))
    (l9 : K.lookup f9 = some ⟨oc9, od9, .func (PySem.W.fnOf "rank" "rank" (defArgs s_rank) (defBody s_rank) (defScope s_rank) .none kV9 dc9 pm9 an9 cd9 ct9), sl9⟩)
    (c9 : PySem.W.codeIn K cd9 "rank" = true)
    (k9 : PySem.W.keepIn K (.ref f9) = true)
    (a10 : PySem.W.findIn K (.ref C_Web) "__init__" = some (some (.ref f10)))
    (i10 : PySem.W.isFn K (.ref f10) = true)
    (l10 : K.lookup f10 = some ⟨oc10, od10, .func (PySem.W.fnOf "__init__" "Web.__init__" (defArgs s_webI) (defBody s_webI) (defScope s_webI) .none kV10 dc10 pm10 an10 cd10 ct10), sl10⟩)
    (c10 : PySem.W.codeIn K cd10 "Web.__init__" = true)
    (k10 : PySem.W.keepIn K (.ref f10) = true)
    (a11 : PySem.W.nsIn K mainGlobals "_is_tie" = some (some (.ref f11)))
    (l11 : K.lookup f11 = some ⟨oc11, od11, .func (PySem.W.fnOf "_is_tie" "_is_tie" (defArgs s_is_tie) (defBody s_is_tie) (defScope s_is_tie) .none kV11 dc11 pm11 an11 cd11 ct11), sl11⟩)
    (c11 : PySem.W.codeIn K cd11 "_is_tie" = true)
    (k11 : PySem.W.keepIn K (.ref f11) = true)
    (a12 : PySem.W.nsIn K mainGlobals "_law_hand" = some (some (.ref f12)))
    (l12 : K.lookup f12 = some ⟨oc12, od12, .func (PySem.W.fnOf "_law_hand" "_law_hand" (defArgs s_l_hand) (defBody s_l_hand) (defScope s_l_hand) .none kV12 dc12 pm12 an12 cd12 ct12), sl12⟩)
    (c12 : PySem.W.codeIn K cd12 "_law_hand" = true)
    (k12 : PySem.W.keepIn K (.ref f12) = true)
    (a13 : PySem.W.nsIn K mainGlobals "_law_draw" = some (some (.ref f13)))
    (l13 : K.lookup f13 = some ⟨oc13, od13, .func (PySem.W.fnOf "_law_draw" "_law_draw" (defArgs s_l_draw) (defBody s_l_draw) (defScope s_l_draw) .none kV13 dc13 pm13 an13 cd13 ct13), sl13⟩)
    (c13 : PySem.W.codeIn K cd13 "_law_draw" = true)
    (k13 : PySem.W.keepIn K (.ref f13) = true)
    (a14 : PySem.W.nsIn K mainGlobals "_law_some" = some (some (.ref f14)))
    (l14 : K.lookup f14 = some ⟨oc14, od14, .func (PySem.W.fnOf "_law_some" "_law_some" (defArgs s_l_some) (defBody s_l_some) (defScope s_l_some) .none kV14 dc14 pm14 an14 cd14 ct14), sl14⟩)
    (c14 : PySem.W.codeIn K cd14 "_law_some" = true)
    (k14 : PySem.W.keepIn K (.ref f14) = true)
    (a15 : PySem.W.nsIn K mainGlobals "_law_pair" = some (some (.ref f15)))
    (l15 : K.lookup f15 = some ⟨oc15, od15, .func (PySem.W.fnOf "_law_pair" "_law_pair" (defArgs s_l_pair) (defBody s_l_pair) (defScope s_l_pair) .none kV15 dc15 pm15 an15 cd15 ct15), sl15⟩)
    (c15 : PySem.W.codeIn K cd15 "_law_pair" = true)
    (k15 : PySem.W.keepIn K (.ref f15) = true)
    (a16 : PySem.W.nsIn K mainGlobals "_law_ties" = some (some (.ref f16)))
    (l16 : K.lookup f16 = some ⟨oc16, od16, .func (PySem.W.fnOf "_law_ties" "_law_ties" (defArgs s_l_ties) (defBody s_l_ties) (defScope s_l_ties) .none kV16 dc16 pm16 an16 cd16 ct16), sl16⟩)
    (c16 : PySem.W.codeIn K cd16 "_law_ties" = true)
    (k16 : PySem.W.keepIn K (.ref f16) = true)
    (a17 : PySem.W.nsIn K mainGlobals "_law_parts" = some (some (.ref f17)))
    (l17 : K.lookup f17 = some ⟨oc17, od17, .func (PySem.W.fnOf "_law_parts" "_law_parts" (defArgs s_l_parts) (defBody s_l_parts) (defScope s_l_parts) .none kV17 dc17 pm17 an17 cd17 ct17), sl17⟩)
    (c17 : PySem.W.codeIn K cd17 "_law_parts" = true)
    (k17 : PySem.W.keepIn K (.ref f17) = true)
    (a18 : PySem.W.nsIn K mainGlobals "_law_is" = some (some (.ref f18)))
    (l18 : K.lookup f18 = some ⟨oc18, od18, .func (PySem.W.fnOf "_law_is" "_law_is" (defArgs s_l_is) (defBody s_l_is) (defScope s_l_is) .none kV18 dc18 pm18 an18 cd18 ct18), sl18⟩)
    (c18 : PySem.W.codeIn K cd18 "_law_is" = true)
    (k18 : PySem.W.keepIn K (.ref f18) = true)
    (a19 : PySem.W.nsIn K mainGlobals "_law_lot" = some (some (.ref f19)))
    (l19 : K.lookup f19 = some ⟨oc19, od19, .func (PySem.W.fnOf "_law_lot" "_law_lot" (defArgs s_l_lot) (defBody s_l_lot) (defScope s_l_lot) .none kV19 dc19 pm19 an19 cd19 ct19), sl19⟩)
    (c19 : PySem.W.codeIn K cd19 "_law_lot" = true)
    (k19 : PySem.W.keepIn K (.ref f19) = true)
    (a20 : PySem.W.nsIn K mainGlobals "_law_deep" = some (some (.ref f20)))
    (l20 : K.lookup f20 = some ⟨oc20, od20, .func (PySem.W.fnOf "_law_deep" "_law_deep" (defArgs s_l_deep) (defBody s_l_deep) (defScope s_l_deep) .none kV20 dc20 pm20 an20 cd20 ct20), sl20⟩)
    (c20 : PySem.W.codeIn K cd20 "_law_deep" = true)
    (k20 : PySem.W.keepIn K (.ref f20) = true)
    (a21 : PySem.W.nsIn K mainGlobals "_law_odd_lot" = some (some (.ref f21)))
    (l21 : K.lookup f21 = some ⟨oc21, od21, .func (PySem.W.fnOf "_law_odd_lot" "_law_odd_lot" (defArgs s_l_odd_lot) (defBody s_l_odd_lot) (defScope s_l_odd_lot) .none kV21 dc21 pm21 an21 cd21 ct21), sl21⟩)
    (c21 : PySem.W.codeIn K cd21 "_law_odd_lot" = true)
    (k21 : PySem.W.keepIn K (.ref f21) = true)
    (a22 : PySem.W.nsIn K mainGlobals "_law_is_lot" = some (some (.ref f22)))
    (l22 : K.lookup f22 = some ⟨oc22, od22, .func (PySem.W.fnOf "_law_is_lot" "_law_is_lot" (defArgs s_l_is_lot) (defBody s_l_is_lot) (defScope s_l_is_lot) .none kV22 dc22 pm22 an22 cd22 ct22), sl22⟩)
    (c22 : PySem.W.codeIn K cd22 "_law_is_lot" = true)
    (k22 : PySem.W.keepIn K (.ref f22) = true)
    (a23 : PySem.W.nsIn K mainGlobals "_law_word" = some (some (.ref f23)))
    (l23 : K.lookup f23 = some ⟨oc23, od23, .func (PySem.W.fnOf "_law_word" "_law_word" (defArgs s_l_word) (defBody s_l_word) (defScope s_l_word) .none kV23 dc23 pm23 an23 cd23 ct23), sl23⟩)
    (c23 : PySem.W.codeIn K cd23 "_law_word" = true)
    (k23 : PySem.W.keepIn K (.ref f23) = true)
    (a24 : PySem.W.nsIn K mainGlobals "_law_one_right" = some (some (.ref f24)))
    (l24 : K.lookup f24 = some ⟨oc24, od24, .func (PySem.W.fnOf "_law_one_right" "_law_one_right" (defArgs s_l_one_right) (defBody s_l_one_right) (defScope s_l_one_right) .none kV24 dc24 pm24 an24 cd24 ct24), sl24⟩)
    (c24 : PySem.W.codeIn K cd24 "_law_one_right" = true)
    (k24 : PySem.W.keepIn K (.ref f24) = true)
    (a25 : PySem.W.nsIn K mainGlobals "_law_web_right" = some (some (.ref f25)))
    (l25 : K.lookup f25 = some ⟨oc25, od25, .func (PySem.W.fnOf "_law_web_right" "_law_web_right" (defArgs s_l_web_right) (defBody s_l_web_right) (defScope s_l_web_right) .none kV25 dc25 pm25 an25 (.ref cd25) ct25), sl25⟩)
    (c25 : PySem.W.codeIn K (.ref cd25) "_law_web_right" = true)
    (th25 : PySem.W.codeHdIn K cd25 (KG.tabOf K cd25) = true)
    (tn25 : K.lookup (KG.tabOf K cd25) = none)
    (tz25 : h.get? (KG.tabOf K cd25) = some (PySem.W.tabObj #[]))
    (k25 : PySem.W.keepIn K (.ref f25) = true)
    (a26 : PySem.W.nsIn K mainGlobals "law" = some (some (.ref f26)))
    (l26 : K.lookup f26 = some ⟨oc26, od26, .func (PySem.W.fnOf "law" "law" (defArgs s_law) (defBody s_law) (defScope s_law) .none kV26 dc26 pm26 an26 cd26 ct26), sl26⟩)
    (c26 : PySem.W.codeIn K cd26 "law" = true)
    (k26 : PySem.W.keepIn K (.ref f26) = true)
    (pg_Web : PySem.W.plainGet K C_Web Str.empty = true)
    (hd_Web : PySem.W.hasDictIn K C_Web = true)
    (po_Web : PySem.W.plainOver K C_Web = true)
    (sa_Web : PySem.W.findIn K (.ref C_Web) "__setattr__" = some (some (.builtin "object.__setattr__")))
    (mk_Web : PySem.W.makesIn K C_Web = true)
    (kc_Web : PySem.W.keepIn K (.ref C_Web) = true)
    (ic_Web : PySem.W.findIn K (.ref C_Web) "__class__" = some (some (.builtin "object.__class__")))
    (im_Web : PySem.W.mroIn K C_Web (.type "object") = some true)
    (no_Web_many : PySem.W.findIn K (.ref C_Web) "many" = some none)
    (no_Web_ties : PySem.W.findIn K (.ref C_Web) "ties" = some none)
    (ia : PySem.W.specialIn K (.builtin "object.__class__") "__get__" = some (some (.builtin "getset_descriptor.__get__")))
    (ib : PySem.W.takesIn K (.builtin "object.__class__") = some true)
    (lx_BadWeb : K.lookup C_BadWeb = some (excClassObj nm_BadWeb q_BadWeb C_BadWeb N_BadWeb bs_BadWeb [.ref C_PaintError, .type "ValueError", .type "Exception", .type "BaseException", .type "object"] true sn_BadWeb sub_BadWeb ab_BadWeb col_BadWeb dd_BadWeb m0_BadWeb m1_BadWeb m2_BadWeb m3_BadWeb m5_BadWeb "ValueError.__new__"))
    (sa_BadWeb : PySem.W.findIn K (.ref C_BadWeb) "__setattr__" = some (some (.builtin "object.__setattr__")))
    (eb_BadWeb : PySem.W.subIn K (.ref C_BadWeb) (.type "BaseException") = some true)
    (ty_BadWeb : PySem.W.typeIn K (.ref C_BadWeb) = some (.type "type"))
    (kc_BadWeb : PySem.W.keepIn K (.ref C_BadWeb) = true)
    (ot_BadWeb : PySem.W.typeIn K (.ref f0) = some (.type "function"))
    (ga_BadWeb : PySem.W.findIn K (.ref C_BadWeb) "__getattribute__" = some (some (.builtin "BaseException.__getattribute__")))
    (gg_BadWeb : PySem.W.findIn K (.ref C_BadWeb) "__getattr__" = some none)
    (hd_BadWeb : PySem.W.hasDictIn K C_BadWeb = true)
    (ic_BadWeb : PySem.W.findIn K (.ref C_BadWeb) "__class__" = some (some (.builtin "object.__class__")))
    (im_BadWeb : PySem.W.mroIn K C_BadWeb (.type "object") = some true)
    (nf_BadWeb : PySem.W.findIn K (.ref C_BadWeb) "part" = some none)
    (lx_NoTies : K.lookup C_NoTies = some (excClassObj nm_NoTies q_NoTies C_NoTies N_NoTies bs_NoTies [.ref C_PaintError, .type "ValueError", .type "Exception", .type "BaseException", .type "object"] true sn_NoTies sub_NoTies ab_NoTies col_NoTies dd_NoTies m0_NoTies m1_NoTies m2_NoTies m3_NoTies m5_NoTies "ValueError.__new__"))
    (sa_NoTies : PySem.W.findIn K (.ref C_NoTies) "__setattr__" = some (some (.builtin "object.__setattr__")))
    (eb_NoTies : PySem.W.subIn K (.ref C_NoTies) (.type "BaseException") = some true)
    (ty_NoTies : PySem.W.typeIn K (.ref C_NoTies) = some (.type "type"))
    (kc_NoTies : PySem.W.keepIn K (.ref C_NoTies) = true)
    (ot_NoTies : PySem.W.typeIn K (.ref f1) = some (.type "function"))
    (ga_NoTies : PySem.W.findIn K (.ref C_NoTies) "__getattribute__" = some (some (.builtin "BaseException.__getattribute__")))
    (gg_NoTies : PySem.W.findIn K (.ref C_NoTies) "__getattr__" = some none)
    (hd_NoTies : PySem.W.hasDictIn K C_NoTies = true)
    (ic_NoTies : PySem.W.findIn K (.ref C_NoTies) "__class__" = some (some (.builtin "object.__class__")))
    (im_NoTies : PySem.W.mroIn K C_NoTies (.type "object") = some true)
    (kw_Web_int : PySem.W.kitOne K (.ref C_Web) (.type "int") = some false)
    (kw_Web_bool : PySem.W.kitOne K (.ref C_Web) (.type "bool") = some false)
    (kw_Web_str : PySem.W.kitOne K (.ref C_Web) (.type "str") = some false)
    (kw_Web_tuple : PySem.W.kitOne K (.ref C_Web) (.type "tuple") = some false)
    (kw_Web_list : PySem.W.kitOne K (.ref C_Web) (.type "list") = some false)
    (kw_Web_dict : PySem.W.kitOne K (.ref C_Web) (.type "dict") = some false)
    (ko_Web_Web : PySem.W.kitOne K (.ref C_Web) (.ref C_Web) = some true)
    (kf_Web_NoneType : PySem.W.kitOne K (.type "NoneType") (.ref C_Web) = some false)
    (kf_Web_int : PySem.W.kitOne K (.type "int") (.ref C_Web) = some false)
    (kf_Web_bool : PySem.W.kitOne K (.type "bool") (.ref C_Web) = some false)
    (kf_Web_str : PySem.W.kitOne K (.type "str") (.ref C_Web) = some false)
    (kf_Web_tuple : PySem.W.kitOne K (.type "tuple") (.ref C_Web) = some false)
    (kf_Web_list : PySem.W.kitOne K (.type "list") (.ref C_Web) = some false)
    (kf_Web_dict : PySem.W.kitOne K (.type "dict") (.ref C_Web) = some false)
    (kf_Web_function : PySem.W.kitOne K (.type "function") (.ref C_Web) = some false)
    (kv_BadWeb : PySem.W.kitOne K (.ref C_BadWeb) (.type "ValueError") = some true)
    (ki_BadWeb_PaintError : PySem.W.kitOne K (.ref C_BadWeb) (.ref C_PaintError) = some true)
    (xm_BadWeb_PaintError : PySem.W.exmOne K (.ref C_BadWeb) (.ref C_PaintError) = some true)
    (ki_BadWeb_BadWeb : PySem.W.kitOne K (.ref C_BadWeb) (.ref C_BadWeb) = some true)
    (xm_BadWeb_BadWeb : PySem.W.exmOne K (.ref C_BadWeb) (.ref C_BadWeb) = some true)
    (ki_BadWeb_NoTies : PySem.W.kitOne K (.ref C_BadWeb) (.ref C_NoTies) = some false)
    (xm_BadWeb_NoTies : PySem.W.exmOne K (.ref C_BadWeb) (.ref C_NoTies) = some false)
    (kv_NoTies : PySem.W.kitOne K (.ref C_NoTies) (.type "ValueError") = some true)
    (ki_NoTies_PaintError : PySem.W.kitOne K (.ref C_NoTies) (.ref C_PaintError) = some true)
    (xm_NoTies_PaintError : PySem.W.exmOne K (.ref C_NoTies) (.ref C_PaintError) = some true)
    (ki_NoTies_BadWeb : PySem.W.kitOne K (.ref C_NoTies) (.ref C_BadWeb) = some false)
    (xm_NoTies_BadWeb : PySem.W.exmOne K (.ref C_NoTies) (.ref C_BadWeb) = some false)
    (ki_NoTies_NoTies : PySem.W.kitOne K (.ref C_NoTies) (.ref C_NoTies) = some true)
    (xm_NoTies_NoTies : PySem.W.exmOne K (.ref C_NoTies) (.ref C_NoTies) = some true)
    (v_MOST_PLACES : PySem.W.nsIn K mainGlobals "MOST_PLACES" = some (some (.int 10 t_MOST_PLACES)))
    (v_MOST_TIES : PySem.W.nsIn K mainGlobals "MOST_TIES" = some (some (.int 16 t_MOST_TIES)))
    (z_ValueError : PySem.W.nsIn K mainGlobals "ValueError" = some none)
    (z_abs : PySem.W.nsIn K mainGlobals "abs" = some none)
    (z_all : PySem.W.nsIn K mainGlobals "all" = some none)
    (z_any : PySem.W.nsIn K mainGlobals "any" = some none)
    (z_bool : PySem.W.nsIn K mainGlobals "bool" = some none)
    (z_enumerate : PySem.W.nsIn K mainGlobals "enumerate" = some none)
    (z_int : PySem.W.nsIn K mainGlobals "int" = some none)
    (z_isinstance : PySem.W.nsIn K mainGlobals "isinstance" = some none)
    (z_len : PySem.W.nsIn K mainGlobals "len" = some none)
    (z_list : PySem.W.nsIn K mainGlobals "list" = some none)
    (z_max : PySem.W.nsIn K mainGlobals "max" = some none)
    (z_min : PySem.W.nsIn K mainGlobals "min" = some none)
    (z_range : PySem.W.nsIn K mainGlobals "range" = some none)
    (z_set : PySem.W.nsIn K mainGlobals "set" = some none)
    (z_sorted : PySem.W.nsIn K mainGlobals "sorted" = some none)
    (z_tuple : PySem.W.nsIn K mainGlobals "tuple" = some none)
    (z_zip : PySem.W.nsIn K mainGlobals "zip" = some none) :
    ∃ (fd : FuncData) (cs : List (Addr × Addr)) (tb : List (Addr × Str)), (∀ p ∈ cs, h.get? p.2 = some { cls := .none, data := .fields #[] }) ∧ (∀ p ∈ cs, K.lookup p.2 = none) ∧ (∀ p ∈ cs, PySem.W.CodeHd h p.1 p.2) ∧ (∀ t ∈ tb, t.1 ∈ cs.map (·.2)) ∧ (∀ (s : Shared) (v : Value), BindsTo s fd ⟨[v], []⟩ [("script", v)]) ∧ ∀ base : Heap, K.In base → base.Ns mainGlobals mg → (∀ p ∈ cs, LamX.TabB base mg p.1 p.2) → KG.FnG l.prog w K mg base 64 fa fd ["script"] (FE.spLawT K tb) := by
  have e := hfa.symm.trans (PySem.W.mg_of X G a26)
  cases e
  have F0 := fun_mk (st := s_BadwebI) l0 c0 k0
  have b0 := F0.binds (ps := ["self", "part"]) fun _ _ _ _ _ _ us hl => match us, hl with | [_, _], _ => rfl
  have F1 := fun_mk (st := s_NoTies___init__) l1 c1 k1
  have b1 := F1.binds (ps := ["self"]) fun _ _ _ _ _ _ us hl => match us, hl with | [_], _ => rfl
  have F2 := fun_mk (st := s_is_integer) l2 c2 k2
  have b2 := F2.binds (ps := ["thing"]) fun _ _ _ _ _ _ us hl => match us, hl with | [_], _ => rfl
  have F3 := fun_mk (st := s_is_between) l3 c3 k3
  have b3 := F3.binds (ps := ["thing", "least", "most"]) fun _ _ _ _ _ _ us hl => match us, hl with | [_, _, _], _ => rfl
  have F4 := fun_mk (st := s_is_below) l4 c4 k4
  have b4 := F4.binds (ps := ["thing", "bound"]) fun _ _ _ _ _ _ us hl => match us, hl with | [_, _], _ => rfl
  have F5 := fun_mk (st := s_is_pair) l5 c5 k5
  have b5 := F5.binds (ps := ["thing"]) fun _ _ _ _ _ _ us hl => match us, hl with | [_], _ => rfl
  have F6 := fun_mk (st := s_is_lot) l6 c6 k6
  have b6 := F6.binds (ps := ["thing", "bound"]) fun _ _ _ _ _ _ us hl => match us, hl with | [_, _], _ => rfl
  have F7 := fun_mk (st := s_parts) l7 c7 k7
  have b7 := F7.binds (ps := ["web", "lot"]) fun _ _ _ _ _ _ us hl => match us, hl with | [_, _], _ => rfl
  have F8 := fun_mk (st := s_marked) l8 c8 k8
  have b8 := F8.binds (ps := ["marks", "mark"]) fun _ _ _ _ _ _ us hl => match us, hl with | [_, _], _ => rfl
  have F9 := fun_mk (st := s_rank) l9 c9 k9
  have b9 := F9.binds (ps := ["web", "lot"]) fun _ _ _ _ _ _ us hl => match us, hl with | [_, _], _ => rfl
  have F10 := fun_mk (st := s_webI) l10 c10 k10
  have b10 := F10.binds (ps := ["self", "many", "ties"]) fun _ _ _ _ _ _ us hl => match us, hl with | [_, _, _], _ => rfl
  have F11 := fun_mk (st := s_is_tie) l11 c11 k11
  have b11 := F11.binds (ps := ["thing", "many"]) fun _ _ _ _ _ _ us hl => match us, hl with | [_, _], _ => rfl
  have F12 := fun_mk (st := s_l_hand) l12 c12 k12
  have b12 := F12.binds (ps := ["script"]) fun _ _ _ _ _ _ us hl => match us, hl with | [_], _ => rfl
  have F13 := fun_mk (st := s_l_draw) l13 c13 k13
  have b13 := F13.binds (ps := ["hand", "many"]) fun _ _ _ _ _ _ us hl => match us, hl with | [_, _], _ => rfl
  have F14 := fun_mk (st := s_l_some) l14 c14 k14
  have b14 := F14.binds (ps := ["hand", "things"]) fun _ _ _ _ _ _ us hl => match us, hl with | [_, _], _ => rfl
  have F15 := fun_mk (st := s_l_pair) l15 c15 k15
  have b15 := F15.binds (ps := ["one", "other"]) fun _ _ _ _ _ _ us hl => match us, hl with | [_, _], _ => rfl
  have F16 := fun_mk (st := s_l_ties) l16 c16 k16
  have b16 := F16.binds (ps := ["hand", "many", "kind"]) fun _ _ _ _ _ _ us hl => match us, hl with | [_, _, _], _ => rfl
  have F17 := fun_mk (st := s_l_parts) l17 c17 k17
  have b17 := F17.binds (ps := ["many", "ties", "lot"]) fun _ _ _ _ _ _ us hl => match us, hl with | [_, _, _], _ => rfl
  have F18 := fun_mk (st := s_l_is) l18 c18 k18
  have b18 := F18.binds (ps := ["told", "due"]) fun _ _ _ _ _ _ us hl => match us, hl with | [_, _], _ => rfl
  have F19 := fun_mk (st := s_l_lot) l19 c19 k19
  have b19 := F19.binds (ps := ["hand", "many"]) fun _ _ _ _ _ _ us hl => match us, hl with | [_, _], _ => rfl
  have F20 := fun_mk (st := s_l_deep) l20 c20 k20
  have b20 := F20.binds (ps := ["hand"]) fun _ _ _ _ _ _ us hl => match us, hl with | [_], _ => rfl
  have F21 := fun_mk (st := s_l_odd_lot) l21 c21 k21
  have b21 := F21.binds (ps := ["hand", "lot", "many"]) fun _ _ _ _ _ _ us hl => match us, hl with | [_, _, _], _ => rfl
  have F22 := fun_mk (st := s_l_is_lot) l22 c22 k22
  have b22 := F22.binds (ps := ["thing", "many"]) fun _ _ _ _ _ _ us hl => match us, hl with | [_, _], _ => rfl
  have F23 := fun_mk (st := s_l_word) l23 c23 k23
  have b23 := F23.binds (ps := ["call"]) fun _ _ _ _ _ _ us hl => match us, hl with | [_], _ => rfl
  have F24 := fun_mk (st := s_l_one_right) l24 c24 k24
  have b24 := F24.binds (ps := ["web", "many", "ties", "lot"]) fun _ _ _ _ _ _ us hl => match us, hl with | [_, _, _, _], _ => rfl
  have F25 := fun_mk (st := s_l_web_right) l25 c25 k25
  have b25 := F25.binds (ps := ["hand"]) fun _ _ _ _ _ _ us hl => match us, hl with | [_], _ => rfl
  have F26 := fun_mk (st := s_law) l26 c26 k26
  have b26 := F26.binds (ps := ["script"]) fun _ _ _ _ _ _ us hl => match us, hl with | [_], _ => rfl
  let T : Tx K mg := {
    f_BadwebI := f0, d_BadwebI := _, F_BadwebI := F0, b_BadwebI := b0,
    f_NoTies___init__ := f1, d_NoTies___init__ := _, F_NoTies___init__ := F1, b_NoTies___init__ := b1,
    f_is_integer := f2, d_is_integer := _, F_is_integer := F2, b_is_integer := b2, m_is_integer := PySem.W.mg_of X G a2,
    f_is_between := f3, d_is_between := _, F_is_between := F3, b_is_between := b3, m_is_between := PySem.W.mg_of X G a3,
    f_is_below := f4, d_is_below := _, F_is_below := F4, b_is_below := b4, m_is_below := PySem.W.mg_of X G a4,
    f_is_pair := f5, d_is_pair := _, F_is_pair := F5, b_is_pair := b5, m_is_pair := PySem.W.mg_of X G a5,
    f_is_lot := f6, d_is_lot := _, F_is_lot := F6, b_is_lot := b6, m_is_lot := PySem.W.mg_of X G a6,
    f_parts := f7, d_parts := _, F_parts := F7, b_parts := b7, m_parts := PySem.W.mg_of X G a7,
    f_marked := f8, d_marked := _, F_marked := F8, b_marked := b8, m_marked := PySem.W.mg_of X G a8,
    f_rank := f9, d_rank := _, F_rank := F9, b_rank := b9, m_rank := PySem.W.mg_of X G a9,
    f_webI := f10, d_webI := _, F_webI := F10, b_webI := b10,
    f_is_tie := f11, d_is_tie := _, F_is_tie := F11, b_is_tie := b11, m_is_tie := PySem.W.mg_of X G a11,
    f_l_hand := f12, d_l_hand := _, F_l_hand := F12, b_l_hand := b12, m_l_hand := PySem.W.mg_of X G a12,
    f_l_draw := f13, d_l_draw := _, F_l_draw := F13, b_l_draw := b13, m_l_draw := PySem.W.mg_of X G a13,
    f_l_some := f14, d_l_some := _, F_l_some := F14, b_l_some := b14, m_l_some := PySem.W.mg_of X G a14,
    f_l_pair := f15, d_l_pair := _, F_l_pair := F15, b_l_pair := b15, m_l_pair := PySem.W.mg_of X G a15,
    f_l_ties := f16, d_l_ties := _, F_l_ties := F16, b_l_ties := b16, m_l_ties := PySem.W.mg_of X G a16,
    f_l_parts := f17, d_l_parts := _, F_l_parts := F17, b_l_parts := b17, m_l_parts := PySem.W.mg_of X G a17,
    f_l_is := f18, d_l_is := _, F_l_is := F18, b_l_is := b18, m_l_is := PySem.W.mg_of X G a18,
    f_l_lot := f19, d_l_lot := _, F_l_lot := F19, b_l_lot := b19, m_l_lot := PySem.W.mg_of X G a19,
    f_l_deep := f20, d_l_deep := _, F_l_deep := F20, b_l_deep := b20, m_l_deep := PySem.W.mg_of X G a20,
    f_l_odd_lot := f21, d_l_odd_lot := _, F_l_odd_lot := F21, b_l_odd_lot := b21, m_l_odd_lot := PySem.W.mg_of X G a21,
    f_l_is_lot := f22, d_l_is_lot := _, F_l_is_lot := F22, b_l_is_lot := b22, m_l_is_lot := PySem.W.mg_of X G a22,
    f_l_word := f23, d_l_word := _, F_l_word := F23, b_l_word := b23, m_l_word := PySem.W.mg_of X G a23,
    f_l_one_right := f24, d_l_one_right := _, F_l_one_right := F24, b_l_one_right := b24, m_l_one_right := PySem.W.mg_of X G a24,
    f_l_web_right := f25, d_l_web_right := _, F_l_web_right := F25, b_l_web_right := b25, m_l_web_right := PySem.W.mg_of X G a25,
    f_law := fa, d_law := _, F_law := F26, b_law := b26, m_law := PySem.W.mg_of X G a26,
    c_l_web_right := cd25, P_l_web_right := KG.tabOf K cd25, cc_l_web_right := rfl,
    ot_BadWeb := ot_BadWeb,
    ot_NoTies := ot_NoTies,
    ia := ia, ib := ib,
    t_MOST_PLACES := t_MOST_PLACES, m_MOST_PLACES := PySem.W.mg_of X G v_MOST_PLACES,
    t_MOST_TIES := t_MOST_TIES, m_MOST_TIES := PySem.W.mg_of X G v_MOST_TIES,
    g_ValueError := PySem.W.mg_none_of X G z_ValueError, g_abs := PySem.W.mg_none_of X G z_abs, g_all := PySem.W.mg_none_of X G z_all, g_any := PySem.W.mg_none_of X G z_any, g_bool := PySem.W.mg_none_of X G z_bool, g_enumerate := PySem.W.mg_none_of X G z_enumerate, g_int := PySem.W.mg_none_of X G z_int, g_isinstance := PySem.W.mg_none_of X G z_isinstance, g_len := PySem.W.mg_none_of X G z_len, g_list := PySem.W.mg_none_of X G z_list, g_max := PySem.W.mg_none_of X G z_max, g_min := PySem.W.mg_none_of X G z_min, g_range := PySem.W.mg_none_of X G z_range, g_set := PySem.W.mg_none_of X G z_set, g_sorted := PySem.W.mg_none_of X G z_sorted, g_tuple := PySem.W.mg_none_of X G z_tuple, g_zip := PySem.W.mg_none_of X G z_zip }
  let cm : FE.Cm := ⟨fun c => ((([("Web", C_Web), ("PaintError", C_PaintError), ("BadWeb", C_BadWeb), ("NoTies", C_NoTies)] : List (Str × Addr)).lookup c).getD 0), ["Web"], ["PaintError", "BadWeb", "NoTies"], [(KG.tabOf K cd25, (("_law_web_right" ++ ".<locals>.") ++ "<lambda>" : Str))], fun _ => none⟩
  have e_Web : cm.ad "Web" = C_Web := rfl
  have e_PaintError : cm.ad "PaintError" = C_PaintError := rfl
  have e_BadWeb : cm.ad "BadWeb" = C_BadWeb := rfl
  have e_NoTies : cm.ad "NoTies" = C_NoTies := rfl
  have hT : TX T cm := {
    cls := rfl, exs := rfl,
    mm_Web := by rw [e_Web]; exact PySem.W.mg_of X G aC_Web
    em_PaintError := by rw [e_PaintError]; exact PySem.W.mg_of X G aC_PaintError
    em_BadWeb := by rw [e_BadWeb]; exact PySem.W.mg_of X G aC_BadWeb
    em_NoTies := by rw [e_NoTies]; exact PySem.W.mg_of X G aC_NoTies
    cl_Web := by rw [e_Web]; exact ⟨pg_Web, hd_Web, po_Web, sa_Web⟩
    mk_Web := by rw [e_Web]; exact ⟨mk_Web, a10, i10, kc_Web⟩
    ic_Web := by rw [e_Web]; exact ic_Web
    im_Web := by rw [e_Web]; exact im_Web
    no_Web_many := by rw [e_Web]; exact no_Web_many
    no_Web_ties := by rw [e_Web]; exact no_Web_ties
    ox_BadWeb := by rw [e_BadWeb]; exact ⟨⟨nm_BadWeb, q_BadWeb, N_BadWeb, bs_BadWeb, _, sn_BadWeb, sub_BadWeb, ab_BadWeb, col_BadWeb, dd_BadWeb, m0_BadWeb, m1_BadWeb, m2_BadWeb, m3_BadWeb, m5_BadWeb, lx_BadWeb, by first | rfl | decide +kernel⟩, sa_BadWeb, eb_BadWeb, ty_BadWeb, kc_BadWeb⟩
    oi_BadWeb := by rw [e_BadWeb]; exact a0
    xc_BadWeb := by rw [e_BadWeb]; exact ⟨ga_BadWeb, gg_BadWeb, eb_BadWeb, hd_BadWeb, ic_BadWeb, ia, ib, im_BadWeb⟩
    nf_BadWeb := by rw [e_BadWeb]; exact nf_BadWeb
    ox_NoTies := by rw [e_NoTies]; exact ⟨⟨nm_NoTies, q_NoTies, N_NoTies, bs_NoTies, _, sn_NoTies, sub_NoTies, ab_NoTies, col_NoTies, dd_NoTies, m0_NoTies, m1_NoTies, m2_NoTies, m3_NoTies, m5_NoTies, lx_NoTies, by first | rfl | decide +kernel⟩, sa_NoTies, eb_NoTies, ty_NoTies, kc_NoTies⟩
    oi_NoTies := by rw [e_NoTies]; exact a1
    xc_NoTies := by rw [e_NoTies]; exact ⟨ga_NoTies, gg_NoTies, eb_NoTies, hd_NoTies, ic_NoTies, ia, ib, im_NoTies⟩
    kw_Web_int := by rw [e_Web]; exact kw_Web_int
    kw_Web_bool := by rw [e_Web]; exact kw_Web_bool
    kw_Web_str := by rw [e_Web]; exact kw_Web_str
    kw_Web_tuple := by rw [e_Web]; exact kw_Web_tuple
    kw_Web_list := by rw [e_Web]; exact kw_Web_list
    kw_Web_dict := by rw [e_Web]; exact kw_Web_dict
    ko_Web_Web := by rw [e_Web]; exact ko_Web_Web
    kf_Web_NoneType := by rw [e_Web]; exact kf_Web_NoneType
    kf_Web_int := by rw [e_Web]; exact kf_Web_int
    kf_Web_bool := by rw [e_Web]; exact kf_Web_bool
    kf_Web_str := by rw [e_Web]; exact kf_Web_str
    kf_Web_tuple := by rw [e_Web]; exact kf_Web_tuple
    kf_Web_list := by rw [e_Web]; exact kf_Web_list
    kf_Web_dict := by rw [e_Web]; exact kf_Web_dict
    kf_Web_function := by rw [e_Web]; exact kf_Web_function
    kv_BadWeb := by rw [e_BadWeb]; exact kv_BadWeb
    ki_BadWeb_PaintError := by rw [e_BadWeb, e_PaintError]; exact ki_BadWeb_PaintError
    xm_BadWeb_PaintError := by rw [e_BadWeb, e_PaintError]; exact xm_BadWeb_PaintError
    ki_BadWeb_BadWeb := by rw [e_BadWeb]; exact ki_BadWeb_BadWeb
    xm_BadWeb_BadWeb := by rw [e_BadWeb]; exact xm_BadWeb_BadWeb
    ki_BadWeb_NoTies := by rw [e_BadWeb, e_NoTies]; exact ki_BadWeb_NoTies
    xm_BadWeb_NoTies := by rw [e_BadWeb, e_NoTies]; exact xm_BadWeb_NoTies
    kv_NoTies := by rw [e_NoTies]; exact kv_NoTies
    ki_NoTies_PaintError := by rw [e_NoTies, e_PaintError]; exact ki_NoTies_PaintError
    xm_NoTies_PaintError := by rw [e_NoTies, e_PaintError]; exact xm_NoTies_PaintError
    ki_NoTies_BadWeb := by rw [e_NoTies, e_BadWeb]; exact ki_NoTies_BadWeb
    xm_NoTies_BadWeb := by rw [e_NoTies, e_BadWeb]; exact xm_NoTies_BadWeb
    ki_NoTies_NoTies := by rw [e_NoTies]; exact ki_NoTies_NoTies
    xm_NoTies_NoTies := by rw [e_NoTies]; exact xm_NoTies_NoTies
    tm_l_web_right := by simp [cm, T]
    to_l_web_right := by
      intro p hp e
      have hp : p ∈ ([(KG.tabOf K cd25, (("_law_web_right" ++ ".<locals>.") ++ "<lambda>" : Str))] : List (Addr × Str)) := hp
      simp only [List.mem_cons, List.not_mem_nil, or_false] at hp
      rcases hp with rfl
      · rfl
  }
  have hcs : ∀ p ∈ ([(cd25, KG.tabOf K cd25)] : List (Addr × Addr)), h.get? p.2 = some { cls := .none, data := .fields #[] } ∧ K.lookup p.2 = none ∧ PySem.W.CodeHd h p.1 p.2 := by
    intro p hp
    simp only [List.mem_cons, List.not_mem_nil, or_false] at hp
    rcases hp with rfl
    · exact ⟨tz25, tn25, PySem.W.codeHd_of_K X th25⟩
  refine ⟨T.d_law, [(cd25, KG.tabOf K cd25)], cm.tb, fun p hp => (hcs p hp).1, fun p hp => (hcs p hp).2.1, fun p hp => (hcs p hp).2.2, fun t ht => ?_, fun s v => .of_eq rfl, fun base _ _ tb => ?_⟩
  · have ht : t ∈ ([(KG.tabOf K cd25, (("_law_web_right" ++ ".<locals>.") ++ "<lambda>" : Str))] : List (Addr × Str)) := ht
    simp only [List.mem_cons, List.not_mem_nil, or_false] at ht
    rcases ht with rfl <;> simp
  · have hB : TBs T base := ⟨tb (cd25, KG.tabOf K cd25) (by simp)⟩
    exact (ok_law hT hB law_true : KG.FnG l.prog w K mg base 64 T.f_law T.d_law _ (FE.spLawT K cm.tb))
end K04
open PySem PySem.W PyProof.Rows
set_option maxRecDepth 100000 in
set_option maxHeartbeats 0 in
theorem PySem.Challenge.cw_takenjoined_k04_whole_parts_and_ranks_holds : PySem.Challenge.rw_takenjoined_k04_whole_parts_and_ranks.Holds := by
  w_on; o_law; k_head; (case hw => w_witness2)
  k_fill
  refine KG.walk_ofGT (l := PySem.Challenge.rw_takenjoined_k04_whole_parts_and_ranks) (n := 63) (k := 64) rfl (by decide) rfl ⟨rfl, by decide, by decide⟩ (fun w h Y => PySem.W.km_in_of Y) ?F
  case F =>
    intro w mg fa h Y KX G hmg
    refine' K04.all_mk KX G hmg ?aC_Web ?aC_PaintError ?aC_BadWeb ?aC_NoTies ?a0 ?i0 ?l0 ?c0 ?k0 ?a1 ?i1 ?l1 ?c1 ?k1 ?a2 ?l2 ?c2 ?k2 ?a3 ?l3 ?c3 ?k3 ?a4 ?l4 ?c4 ?k4 ?a5 ?l5 ?c5 ?k5 ?a6 ?l6 ?c6 ?k6 ?a7 ?l7 ?c7 ?k7 ?a8 ?l8 ?c8 ?k8 ?a9 ?l9 ?c9 ?k9 ?a10 ?i10 ?l10 ?c10 ?k10 ?a11 ?l11 ?c11 ?k11 ?a12 ?l12 ?c12 ?k12 ?a13 ?l13 ?c13 ?k13 ?a14 ?l14 ?c14 ?k14 ?a15 ?l15 ?c15 ?k15 ?a16 ?l16 ?c16 ?k16 ?a17 ?l17 ?c17 ?k17 ?a18 ?l18 ?c18 ?k18 ?a19 ?l19 ?c19 ?k19 ?a20 ?l20 ?c20 ?k20 ?a21 ?l21 ?c21 ?k21 ?a22 ?l22 ?c22 ?k22 ?a23 ?l23 ?c23 ?k23 ?a24 ?l24 ?c24 ?k24 ?a25 ?l25 ?c25 ?th25 ?tn25 ?tz25 ?k25 ?a26 ?l26 ?c26 ?k26 ?pg_Web ?hd_Web ?po_Web ?sa_Web ?mk_Web ?kc_Web ?ic_Web ?im_Web ?no_Web_many ?no_Web_ties ?ia ?ib ?lx_BadWeb ?sa_BadWeb ?eb_BadWeb ?ty_BadWeb ?kc_BadWeb ?ot_BadWeb ?ga_BadWeb ?gg_BadWeb ?hd_BadWeb ?ic_BadWeb ?im_BadWeb ?nf_BadWeb ?lx_NoTies ?sa_NoTies ?eb_NoTies ?ty_NoTies ?kc_NoTies ?ot_NoTies ?ga_NoTies ?gg_NoTies ?hd_NoTies ?ic_NoTies ?im_NoTies ?kw_Web_int ?kw_Web_bool ?kw_Web_str ?kw_Web_tuple ?kw_Web_list ?kw_Web_dict ?ko_Web_Web ?kf_Web_NoneType ?kf_Web_int ?kf_Web_bool ?kf_Web_str ?kf_Web_tuple ?kf_Web_list ?kf_Web_dict ?kf_Web_function ?kv_BadWeb ?ki_BadWeb_PaintError ?xm_BadWeb_PaintError ?ki_BadWeb_BadWeb ?xm_BadWeb_BadWeb ?ki_BadWeb_NoTies ?xm_BadWeb_NoTies ?kv_NoTies ?ki_NoTies_PaintError ?xm_NoTies_PaintError ?ki_NoTies_BadWeb ?xm_NoTies_BadWeb ?ki_NoTies_NoTies ?xm_NoTies_NoTies ?v_MOST_PLACES ?v_MOST_TIES ?z_ValueError ?z_abs ?z_all ?z_any ?z_bool ?z_enumerate ?z_int ?z_isinstance ?z_len ?z_list ?z_max ?z_min ?z_range ?z_set ?z_sorted ?z_tuple ?z_zip
    (case aC_Web => k_is); (case aC_PaintError => k_is); (case aC_BadWeb => k_is); (case aC_NoTies => k_is); (case a0 => k_is)
    (case i0 => k_is); (case l0 => k_is); (case c0 => k_is); (case k0 => k_is); (case a1 => k_is)
    (case i1 => k_is); (case l1 => k_is); (case c1 => k_is); (case k1 => k_is); (case a2 => k_is)
    (case l2 => k_is); (case c2 => k_is); (case k2 => k_is); (case a3 => k_is); (case l3 => k_is)
    (case c3 => k_is); (case k3 => k_is); (case a4 => k_is); (case l4 => k_is); (case c4 => k_is)
    (case k4 => k_is); (case a5 => k_is); (case l5 => k_is); (case c5 => k_is); (case k5 => k_is)
    (case a6 => k_is); (case l6 => k_is); (case c6 => k_is); (case k6 => k_is); (case a7 => k_is)
    (case l7 => k_is); (case c7 => k_is); (case k7 => k_is); (case a8 => k_is); (case l8 => k_is)
    (case c8 => k_is); (case k8 => k_is); (case a9 => k_is); (case l9 => k_is); (case c9 => k_is)
    (case k9 => k_is); (case a10 => k_is); (case i10 => k_is); (case l10 => k_is); (case c10 => k_is)
    (case k10 => k_is); (case a11 => k_is); (case l11 => k_is); (case c11 => k_is); (case k11 => k_is)
    (case a12 => k_is); (case l12 => k_is); (case c12 => k_is); (case k12 => k_is); (case a13 => k_is)
    (case l13 => k_is); (case c13 => k_is); (case k13 => k_is); (case a14 => k_is); (case l14 => k_is)
    (case c14 => k_is); (case k14 => k_is); (case a15 => k_is); (case l15 => k_is); (case c15 => k_is)
    (case k15 => k_is); (case a16 => k_is); (case l16 => k_is); (case c16 => k_is); (case k16 => k_is)
    (case a17 => k_is); (case l17 => k_is); (case c17 => k_is); (case k17 => k_is); (case a18 => k_is)
    (case l18 => k_is); (case c18 => k_is); (case k18 => k_is); (case a19 => k_is); (case l19 => k_is)
    (case c19 => k_is); (case k19 => k_is); (case a20 => k_is); (case l20 => k_is); (case c20 => k_is)
    (case k20 => k_is); (case a21 => k_is); (case l21 => k_is); (case c21 => k_is); (case k21 => k_is)
    (case a22 => k_is); (case l22 => k_is); (case c22 => k_is); (case k22 => k_is); (case a23 => k_is)
    (case l23 => k_is); (case c23 => k_is); (case k23 => k_is); (case a24 => k_is); (case l24 => k_is)
    (case c24 => k_is); (case k24 => k_is); (case a25 => k_is); (case l25 => k_is); (case c25 => k_is)
    (case th25 => kernel_rfl); (case tn25 => kernel_rfl); (case tz25 => exact PySem.W.km_tabs_of Y _ (List.elem_iff.mp (by kernel_rfl))); (case k25 => k_is); (case a26 => k_is)
    (case l26 => k_is); (case c26 => k_is); (case k26 => k_is); (case pg_Web => k_is); (case hd_Web => k_is)
    (case po_Web => k_is); (case sa_Web => k_is); (case mk_Web => k_is); (case kc_Web => k_is); (case ic_Web => k_is)
    (case im_Web => k_is); (case no_Web_many => k_is); (case no_Web_ties => k_is); (case ia => k_is); (case ib => k_is)
    (case lx_BadWeb => k_is); (case sa_BadWeb => k_is); (case eb_BadWeb => k_is); (case ty_BadWeb => k_is); (case kc_BadWeb => k_is)
    (case ot_BadWeb => k_is); (case ga_BadWeb => k_is); (case gg_BadWeb => k_is); (case hd_BadWeb => k_is); (case ic_BadWeb => k_is)
    (case im_BadWeb => k_is); (case nf_BadWeb => k_is); (case lx_NoTies => k_is); (case sa_NoTies => k_is); (case eb_NoTies => k_is)
    (case ty_NoTies => k_is); (case kc_NoTies => k_is); (case ot_NoTies => k_is); (case ga_NoTies => k_is); (case gg_NoTies => k_is)
    (case hd_NoTies => k_is); (case ic_NoTies => k_is); (case im_NoTies => k_is); (case kw_Web_int => kit_is); (case kw_Web_bool => kit_is)
    (case kw_Web_str => kit_is); (case kw_Web_tuple => kit_is); (case kw_Web_list => kit_is); (case kw_Web_dict => kit_is); (case ko_Web_Web => kit_is)
    (case kf_Web_NoneType => kit_is); (case kf_Web_int => kit_is); (case kf_Web_bool => kit_is); (case kf_Web_str => kit_is); (case kf_Web_tuple => kit_is)
    (case kf_Web_list => kit_is); (case kf_Web_dict => kit_is); (case kf_Web_function => kit_is); (case kv_BadWeb => kit_is); (case ki_BadWeb_PaintError => kit_is)
    (case xm_BadWeb_PaintError => kts_exm); (case ki_BadWeb_BadWeb => kit_is); (case xm_BadWeb_BadWeb => kts_exm); (case ki_BadWeb_NoTies => kit_is); (case xm_BadWeb_NoTies => kts_exm)
    (case kv_NoTies => kit_is); (case ki_NoTies_PaintError => kit_is); (case xm_NoTies_PaintError => kts_exm); (case ki_NoTies_BadWeb => kit_is); (case xm_NoTies_BadWeb => kts_exm)
    (case ki_NoTies_NoTies => kit_is); (case xm_NoTies_NoTies => kts_exm); (case v_MOST_PLACES => k_is); (case v_MOST_TIES => k_is); (case z_ValueError => k_is)
    (case z_abs => k_is); (case z_all => k_is); (case z_any => k_is); (case z_bool => k_is); (case z_enumerate => k_is)
    (case z_int => k_is); (case z_isinstance => k_is); (case z_len => k_is); (case z_list => k_is); (case z_max => k_is)
    (case z_min => k_is); (case z_range => k_is); (case z_set => k_is); (case z_sorted => k_is); (case z_tuple => k_is)
    (case z_zip => k_is)

