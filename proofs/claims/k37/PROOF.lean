import PyProof.Rows.All
import Wide.All
import OpenK.AllK
import Wide.FinOn
import HandS.ForMost
import HandS.IsInst
import HandS.Wide
import HandS.OwnEq
import HandS.Strs
import HandS.SetFor
import HandS.SortInts
import HandS.TupAny
import HandS.Conv
import HandS.Flow
import HandS.Walk
import KE.GoesEnum
import HandS.Evl
import HandS.Zip
import HandS.Words
import HandS.Style
import PySem.Challenge.RW_takenjoined_k37_whole_sources_turned
set_option Elab.async false
set_option linter.all false
set_option maxRecDepth 100000
set_option maxHeartbeats 4000000
/-! Rules of my own over the hand layer: a tuple counted through. -/
namespace Rl
open PySem PySem.Spec PyProof.Rows L2
/-! ### for i, x in enumerate(t), t a tuple -/
theorem meets_enT (u : Addr) (vs : Array Value) (nn : Nat) (dd : Option Addr) (ss : Array (Option Value)) :
    Meets (Builtin.«enumerate.__new__» ⟨[.type "enumerate", .ref u], []⟩) (fun _ R s =>
      s.heap.get? u = some { cls := .type "tuple", dict := dd, data := .seq vs nn, slots := ss } ∧
      R (.ok (.ret (.ref (s.heap.push { cls := .type "tuple_iterator", data := .fields #[.ref u, .int 0 0] }).objs.size)))
        { s with heap := ((s.heap.push { cls := .type "tuple_iterator", data := .fields #[.ref u, .int 0 0] }).push
            ({ cls := .type "enumerate", data := .fields #[.none, .bool false, .ref s.heap.objs.size, rawInt 0, .none, .none] } : Obj)) }) :=
  .of_wp fun prog w A R s hy => by
    obtain ⟨hp, gg, dw, tk, oo⟩ := s; obtain ⟨hu, fin⟩ := hy
    have sb := sub_enumerate
    have tt : Heap.IsTuple (Shared.heap ⟨hp, gg, dw, tk, oo⟩) u vs := ⟨_, hu, rfl, nn, rfl⟩
    wp_walk using AutoSeq1.wpAny_loadPart' hu
    refine wpAny_stack_any fun stk => wpAny_pure ?_
    split
    · rename_i cc _ _ _ _ _
      cases (cc == Value.type "enumerate")
      · wp_walk using AutoSeq1.wpAny_loadPart' hu, wpAny_pyIter_tuple tt
        exact ⟨_, rfl, fin⟩
      · wp_walk using AutoSeq1.wpAny_loadPart' hu, wpAny_pyIter_tuple tt
        exact ⟨_, rfl, fin⟩
    · wp_walk using AutoSeq1.wpAny_loadPart' hu, wpAny_pyIter_tuple tt
      exact ⟨_, rfl, fin⟩
section
variable {prog : Program} {w : World} {A : Around} {E : Value → Shared → Prop} {s : Shared}
theorem call_enT {u : Addr} {vs : Array Value} {Q : Value → Shared → Prop} (ht : s.heap.IsTuple u vs)
    (fin : ∀ g, IsEnum g (s.heap.objs.size + 1) s.heap.objs.size 0 .none → g.IsTupleIter s.heap.objs.size u 0 → g.objs.size = s.heap.objs.size + 2 →
      (∀ b o, s.heap.get? b = some o → g.get? b = some o) → Q (.ref (s.heap.objs.size + 1)) { s with heap := g }) :
    wpAny (model prog w) A (call (.type "enumerate") [.ref u]) Q E s := by
  obtain ⟨⟨cc, dd, da, ss⟩, hu, ec, nn, ed⟩ := ht
  replace ec : cc = .type "tuple" := ec
  replace ed : da = .seq vs nn := ed
  subst ec ed
  refine callType_new F.called_enumerate (by decide) (F.typeCall_enumerate_1 _) (F.newCall_enumerate_1 _)
    (fun ob => F.args_object_init_2 ob _) F.entry_enumerate_new (meets_enT u vs nn dd ss) ⟨hu, ?_⟩
  have sz : (s.heap.push { cls := .type "tuple_iterator", data := .fields #[.ref u, .int 0 0] }).objs.size
      = s.heap.objs.size + 1 := Heap.size_push ..
  show _ ∧ _
  rw [sz]
  have en : IsEnum ((s.heap.push { cls := .type "tuple_iterator", data := .fields #[.ref u, .int 0 0] }).push
      { cls := .type "enumerate", data := .fields #[.none, .bool false, .ref s.heap.objs.size, rawInt 0, .none, .none] })
      (s.heap.objs.size + 1) s.heap.objs.size 0 .none := by
    have q := Heap.get?_push_size (s.heap.push { cls := .type "tuple_iterator", data := .fields #[.ref u, .int 0 0] })
      (o := { cls := .type "enumerate", data := .fields #[.none, .bool false, .ref s.heap.objs.size, rawInt 0, .none, .none] }) rfl
    rw [sz] at q
    exact q
  refine ⟨⟨_, en, rfl⟩, fin _ en ?_ (by rw [Heap.size_push, sz])
    fun b o x => Heap.get?_push_of_some _ (Heap.get?_push_of_some _ x)⟩
  have q0 := Heap.get?_push_size s.heap (o := { cls := .type "tuple_iterator", data := .fields #[.ref u, .int 0 0] }) rfl
  exact ⟨_, Heap.get?_push_of_some _ q0, rfl, rfl⟩
end
/-- the tuple at a, each item with its number in a new pair -/
def Iet (K : PySem.W.Frag) (a : Addr) : It :=
  ⟨fun i H => ∃ (ys : List V) (y : V), SqT K H a ys ∧ ys[i]? = some y,
   fun i H v H' => ∃ T y, v = .ref T ∧ H T = none ∧ H' = upd H T (.tup [.int (i : Nat), y]) ∧ ∀ ys, SqT K H a ys → ys[i]? = some y,
   fun i H => ∃ ys : List V, SqT K H a ys ∧ ys.length = i⟩
theorem turn_enT {P : Program} {w : World} {K : PySem.W.Frag} {elts : List Expr} {kk : Nat} {tp : Pos} (a e it : Addr) :
    Turn P w K (.Tuple elts kk tp) (Iet K a) [e, it] e
      (fun i h => (∃ old, IsEnum h e it ((i : Nat) : Int) old) ∧ h.IsTupleIter it a i ∧ e ≠ it) where
  mem := by simp
  obj := fun i h st b hb => by
    obtain ⟨⟨old, en⟩, ⟨o, ho, _, hd⟩, _⟩ := st
    have z : b = e ∨ b = it := by simpa using hb
    rcases z with z | z
    · rw [z]
      exact ⟨_, en, fun v q => nomatch q⟩
    · rw [z]
      exact ⟨o, ho, fun v q => by rw [hd] at q; cases q⟩
  keep := fun i h h' st k => by
    obtain ⟨⟨old, en⟩, ti, ne⟩ := st
    exact ⟨⟨old, k e (by simp) _ en⟩, ti.at fun o q => k it (by simp) o q, ne⟩
  item := by
    intro X eP ew eK hc i pins s σ H E I fk st go
    subst eP ew eK
    obtain ⟨⟨old, en⟩, ti, ne⟩ := st
    obtain ⟨ys, y, hq, hy⟩ := go
    obtain ⟨its, rv, pt, hz⟩ := I.tuple hq
    obtain ⟨u, hu, ru⟩ := rv.get hy
    have le : e < s.heap.objs.size := Heap.lt_size en
    have li : it < s.heap.objs.size := by obtain ⟨_, q, _⟩ := ti; exact Heap.lt_size q
    have hlt : i < its.toArray.size := by
      have q := (List.getElem?_eq_some_iff.mp hu).1
      simpa using q
    have nai : a ≠ it := fun z => by
      obtain ⟨o, ho, hcl, _⟩ := ti
      obtain ⟨o2, ho2, hcl2, _⟩ := pt
      rw [z] at ho2
      rw [ho] at ho2
      cases ho2
      rw [hcl] at hcl2
      exact absurd hcl2 (by simp)
    have nae : e ∉ [it, a] := fun z => by
      have z' : e = it ∨ e = a := by simpa using z
      rcases z' with z' | z'
      · exact ne z'
      · obtain ⟨o2, ho2, hcl2, _⟩ := pt
        rw [← z'] at ho2
        have q := en
        unfold IsEnum at q
        rw [q] at ho2
        cases ho2
        exact absurd hcl2 (by simp)
    have hh : X.A.in1.handled = none := by
      have q := I.ok.hd hc
      simpa using q
    refine wpAny_pyNext_enum_itemC (Draws.tuple hh it a nai its.toArray) en ⟨ti, pt⟩ hlt ne nae
      fun x h' tk ex out hst hT hsz hk => ?_
    have exu : u = x := by
      have q : its.toArray[i]? = some u := by simpa using hu
      exact Option.some.inj (q.symm.trans ex)
    subst exu
    refine ⟨_, rfl, wpAny_letOwnedTupleGo_enum (s := { s with heap := h', toks := tk + 1 }) out fun h2 en2 sb => ?_⟩
    have hT2 : h2.get? s.heap.objs.size = some { cls := .type "tuple", data := .seq #[.int i tk, u] } :=
      (sb.2 _ (Nat.ne_of_gt le)).trans hT
    have new : ObjOk X.prog X.w (upd H s.heap.objs.size (.tup [.int (i : Nat), y])) h2 s.heap.objs.size (.tup [.int (i : Nat), y]) :=
      ⟨by show 2 ≤ sizeLine; decide, [.int i tk, u], .cons ⟨_, rfl⟩ (.cons ru .nil), ⟨_, hT2, rfl, _, rfl⟩⟩
    have I1 : Inv X pins σ (upd H s.heap.objs.size (.tup [.int (i : Nat), y])) { s with heap := h2, toks := tk + 1 } :=
      I.turnedNew (ch := [e, it]) (fun b ob hb q => (sb.2 b (fun z => hb (by simp [z]))).trans
        (hk b ob (fun z => hb (by simp [z])) (fun z => hb (by simp [z])) q)) fk (Nat.le_refl _) new
    refine ⟨.ref s.heap.objs.size, _, I1, rfl, ⟨_, y, rfl, I.hok.fresh (Nat.le_refl _), rfl, fun zs hzs => by rw [I.tuple_inj hzs hq]; exact hy⟩,
      ⟨⟨u, ?_⟩, hst.1.at fun o q => (sb.2 it (Ne.symm ne)).trans q, ne⟩, fun b hb => ?_⟩
    · have e1 : ((i + 1 : Nat) : Int) = (i : Int) + 1 := by omega
      rw [e1]
      exact en2
    · have z : b = e ∨ b = it := by simpa using hb
      have hb' : b < s.heap.objs.size := by
        rcases z with z | z
        · rw [z]; exact le
        · rw [z]; exact li
      rw [upd_ne (Nat.ne_of_lt hb')]
      exact (fk b hb).1
  done := by
    intro X eP ew eK hc i pins s σ H E I fk st go
    subst eP ew eK
    obtain ⟨⟨old, en⟩, ti, ne⟩ := st
    obtain ⟨ys, hq, hl⟩ := go
    obtain ⟨its, rv, pt, hz⟩ := I.tuple hq
    obtain ⟨f0, f1, f2, f3, f4, f5⟩ := fk it (by simp)
    have ln := rv.length
    have hh : X.A.in1.handled = none := by
      have q := I.ok.hd hc
      simpa using q
    have nai : a ≠ it := fun z => by
      obtain ⟨o, ho, hcl, _⟩ := ti
      obtain ⟨o2, ho2, hcl2, _⟩ := pt
      rw [z] at ho2
      rw [ho] at ho2
      cases ho2
      rw [hcl] at hcl2
      exact absurd hcl2 (by simp)
    have ei : its.toArray.size = i := by
      rw [List.size_toArray, ← ln]
      exact hl
    refine wpAny_pyNext_enum_endD (Draws.tuple hh it a nai its.toArray) en (by rw [ei]; exact ⟨ti, pt⟩)
      fun h' eb => ⟨rfl, ?_⟩
    exact I.turned (t' := s.toks) (fun b o hb q => eb b o hb q) f0 f1 f3 f4 f5
  self := fun A i s Q E st h => let ⟨⟨_, en⟩, _⟩ := st; wpAny_pyIter_enum en h
def iEnT (K : PySem.W.Frag) (ta : TA) : TI := fun σ H R => ta σ H fun vs H1 => ∃ a ys, vs = [.ref a] ∧ SqT K H1 a ys ∧ R (Iet K a) H1
theorem pi_enT {X : Cx} {e : Expr} {ta : TA} {p pos tpos : Pos} {elts : List Expr} {kk : Nat} (hg : Gl X "enumerate") (hm : X.mg "enumerate" = none)
    (ha : PA X [e] ta) (hs : starEach [e] X.env = [(false, eval e X.env)] := by rfl) :
    PI X (.Tuple elts kk tpos) (.Call (.Name "enumerate" p) [e] [] pos) (iEnT X.K ta) := by
  refine ⟨fun pins s σ H R I hy => ?_⟩
  refine Call_ (ld_blt I hg hm boot_enumerate (PyProof.Rows.callWith_type1
    (thn (ha.run pos pins s σ H _ I hy) fun us s1 ⟨vs, H1, I1, r1, q1⟩ => ?_) hs rfl))
  obtain ⟨a, ys, ex, hq, q⟩ := q1
  subst ex
  cases r1 with
  | cons r rr =>
    cases rr
    cases r
    obtain ⟨its, rv, pt, hz⟩ := I1.tuple hq
    refine call_enT (show s1.heap.IsTuple a its.toArray from pt) fun g en ti hsz hk => wpAny_pyIter_enum en ?_
    have I2 : Inv X pins σ H1 { s1 with heap := g } := I1.kept (t' := s1.toks) hk
    refine ⟨s1.heap.objs.size + 1, [s1.heap.objs.size + 1, s1.heap.objs.size], _, _, H1, rfl, I2,
      turn_enT a (s1.heap.objs.size + 1) s1.heap.objs.size, ⟨⟨.none, en⟩, ti, Nat.succ_ne_self _⟩, fun b hb => ?_, q⟩
    have z : b = s1.heap.objs.size + 1 ∨ b = s1.heap.objs.size := by simpa using hb
    have le : s1.heap.objs.size ≤ b := by
      rcases z with z | z
      · rw [z]; exact Nat.le_succ _
      · exact Nat.le_of_eq z.symm
    exact I1.fpOk le (I1.hok.fresh le)
/-- the loop over it: each turn's pair is a new tuple at T -/
theorem for_enT {K : PySem.W.Frag} {a : Addr} {xs : List V} {g : TG} {tb : TS} {D : Ends} {σ : L2.St} {H : Hp}
    (Pv : Nat → L2.St → Hp → Prop) (h0 : Pv 0 σ H) (hq : ∀ i σ H, Pv i σ H → SqT K H a xs)
    (hs : ∀ (i : Nat) (x : V) (T : Addr) (σ : L2.St) (H : Hp), xs[i]? = some x → Pv i σ H → H T = none →
      g (.ref T) σ (upd H T (.tup [.int (i : Nat), x])) fun σ2 H2 => tb { D with nx := Pv (i + 1), ct := Pv (i + 1), bk := D.nx } σ2 H2)
    (hd : ∀ σ H, Pv xs.length σ H → D.nx σ H) :
    ∃ W : Nat → Nat → L2.St → Hp → Prop, (∃ m, W 0 m σ H) ∧ ∀ i m σ H, W i m σ H → ((Iet K a).stop i H ∧ D.nx σ H) ∨
      ((Iet K a).go i H ∧ ∃ N : L2.St → Hp → Prop, (∀ σ' H', N σ' H' → ∃ m', m' < m ∧ W (i + 1) m' σ' H') ∧
        ∀ v H', (Iet K a).yld i H v H' → g v σ H' fun σ2 H2 => tb { D with nx := N, ct := N, bk := D.nx } σ2 H2) := by
  refine ⟨fun i m σ H => m = xs.length - i ∧ i ≤ xs.length ∧ Pv i σ H, ⟨xs.length, rfl, Nat.zero_le _, h0⟩, fun i m σ H hw => ?_⟩
  obtain ⟨em, hi, p⟩ := hw
  subst em
  have qx := hq i σ H p
  by_cases lt : i < xs.length
  · refine .inr ⟨⟨xs, _, qx, List.getElem?_eq_getElem lt⟩, Pv (i + 1), fun σ' H' p' => ⟨xs.length - (i + 1), by omega, rfl, lt, p'⟩, fun v H' y => ?_⟩
    obtain ⟨T, x, ev, hT, eH, f⟩ := y
    subst ev eH
    exact hs i x T σ H (f xs qx) p hT
  · have e : i = xs.length := by omega
    subst e
    exact .inl ⟨⟨xs, qx, rfl⟩, hd σ H p⟩
theorem walk_enT {K : PySem.W.Frag} {a : Addr} {xs : List V} : Walk (Iet K a) xs.length (fun H => SqT K H a xs) (YPair (fun i => some (.int (i : Nat))) (fun i => xs[i]?)) := by
  refine ⟨fun i _ lt q => ⟨xs, _, q, List.getElem?_eq_getElem lt⟩, fun _ q => ⟨xs, q, rfl⟩, fun i H v H' _ q y => ?_⟩
  obtain ⟨T, x, g1, g2, g3, g4⟩ := y
  exact ⟨T, .int (i : Nat), x, g1, g2, g3, rfl, g4 xs q⟩
end Rl
set_option Elab.async false
set_option linter.all false
set_option maxRecDepth 100000
set_option maxHeartbeats 4000000
/-! The text by places, and what its top has written. -/
namespace K37
open PySem L2
def top (i : Nat) : Stmt := PySem.Challenge.pw_takenjoined_k37_whole_sources_turned.main.body.getD i (.Pass ⟨0, 0, 0, 0⟩)
abbrev s_is_integer : Stmt := top 6
abbrev N_is_integer : List Str := ["thing"]
theorem sc_is_integer : FnScope N_is_integer ["thing"] (defScope s_is_integer) := ⟨rfl, rfl, rfl, by decide +kernel, rfl, by decide +kernel, by decide +kernel⟩
abbrev s_is_between : Stmt := top 7
abbrev N_is_between : List Str := ["thing", "least", "most"]
theorem sc_is_between : FnScope N_is_between ["thing", "least", "most"] (defScope s_is_between) := ⟨rfl, rfl, rfl, by decide +kernel, rfl, by decide +kernel, by decide +kernel⟩
abbrev s_is_below : Stmt := top 8
abbrev N_is_below : List Str := ["thing", "bound"]
theorem sc_is_below : FnScope N_is_below ["thing", "bound"] (defScope s_is_below) := ⟨rfl, rfl, rfl, by decide +kernel, rfl, by decide +kernel, by decide +kernel⟩
abbrev s_is_pair : Stmt := top 9
abbrev N_is_pair : List Str := ["thing"]
theorem sc_is_pair : FnScope N_is_pair ["thing"] (defScope s_is_pair) := ⟨rfl, rfl, rfl, by decide +kernel, rfl, by decide +kernel, by decide +kernel⟩
abbrev s_is_flags : Stmt := top 10
abbrev N_is_flags : List Str := ["thing", "part"]
theorem sc_is_flags : FnScope N_is_flags ["thing"] (defScope s_is_flags) := ⟨rfl, rfl, rfl, by decide +kernel, rfl, by decide +kernel, by decide +kernel⟩
abbrev s_webI : Stmt := inClass (top 14) 0
abbrev N_webI : List Str := ["self", "many", "ties", "number", "tie"]
theorem sc_webI : FnScope N_webI ["self", "many", "ties"] (defScope s_webI) := ⟨rfl, rfl, rfl, by decide +kernel, rfl, by decide +kernel, by decide +kernel⟩
abbrev s_webE : Stmt := inClass (top 14) 1
abbrev N_webE : List Str := ["self", "other"]
theorem sc_webE : FnScope N_webE ["self", "other"] (defScope s_webE) := ⟨rfl, rfl, rfl, by decide +kernel, rfl, by decide +kernel, by decide +kernel⟩
abbrev s_is_tie : Stmt := top 15
abbrev N_is_tie : List Str := ["thing", "many"]
theorem sc_is_tie : FnScope N_is_tie ["thing", "many"] (defScope s_is_tie) := ⟨rfl, rfl, rfl, by decide +kernel, rfl, by decide +kernel, by decide +kernel⟩
abbrev s_is_signing : Stmt := top 17
abbrev N_is_signing : List Str := ["web", "thing"]
theorem sc_is_signing : FnScope N_is_signing ["web", "thing"] (defScope s_is_signing) := ⟨rfl, rfl, rfl, by decide +kernel, rfl, by decide +kernel, by decide +kernel⟩
abbrev s_is_rising : Stmt := top 18
abbrev N_is_rising : List Str := ["web", "thing"]
theorem sc_is_rising : FnScope N_is_rising ["web", "thing"] (defScope s_is_rising) := ⟨rfl, rfl, rfl, by decide +kernel, rfl, by decide +kernel, by decide +kernel⟩
abbrev s_goings : Stmt := top 19
abbrev N_goings : List Str := ["web", "signing", "flag", "u", "v"]
theorem sc_goings : FnScope N_goings ["web", "signing"] (defScope s_goings) := ⟨rfl, rfl, rfl, by decide +kernel, rfl, by decide +kernel, by decide +kernel⟩
abbrev s_round_of : Stmt := top 20
abbrev N_round_of : List Str := ["web", "signing", "goings", "left"]
theorem sc_round_of : FnScope N_round_of ["web", "signing"] (defScope s_round_of) := ⟨rfl, rfl, rfl, by decide +kernel, rfl, by decide +kernel, by decide +kernel⟩
abbrev s_never_sources : Stmt := top 21
abbrev N_never_sources : List Str := ["many", "goings", "left", "kept", "place", "ahead", "to"]
theorem sc_never_sources : FnScope N_never_sources ["many", "goings"] (defScope s_never_sources) := ⟨rfl, rfl, rfl, by decide +kernel, rfl, by decide +kernel, by decide +kernel⟩
abbrev s_round_behind : Stmt := top 22
abbrev N_round_behind : List Str := ["goings", "left", "place", "met", "back", "tie", "number", "ahead", "to"]
theorem sc_round_behind : FnScope N_round_behind ["goings", "left"] (defScope s_round_behind) := ⟨rfl, rfl, rfl, by decide +kernel, rfl, by decide +kernel, by decide +kernel⟩
abbrev s_sources : Stmt := top 23
abbrev N_sources : List Str := ["web", "signing", "gone_to", "_", "to", "place"]
theorem sc_sources : FnScope N_sources ["web", "signing"] (defScope s_sources) := ⟨rfl, rfl, rfl, by decide +kernel, rfl, by decide +kernel, by decide +kernel⟩
abbrev s_turned : Stmt := top 25
abbrev N_turned : List Str := ["web", "signing", "place"]
theorem sc_turned : FnScope N_turned ["web", "signing", "place"] (defScope s_turned) := ⟨rfl, rfl, rfl, by decide +kernel, rfl, by decide +kernel, by decide +kernel⟩
abbrev s_is_source : Stmt := top 26
abbrev N_is_source : List Str := ["web", "signing", "thing"]
theorem sc_is_source : FnScope N_is_source ["web", "signing", "thing"] (defScope s_is_source) := ⟨rfl, rfl, rfl, by decide +kernel, rfl, by decide +kernel, by decide +kernel⟩
abbrev s_behind : Stmt := top 27
abbrev N_behind : List Str := ["web", "signing", "place", "tie", "flag"]
theorem sc_behind : FnScope N_behind ["web", "signing", "place"] (defScope s_behind) := ⟨rfl, rfl, rfl, by decide +kernel, rfl, by decide +kernel, by decide +kernel⟩
abbrev s_l_urn : Stmt := top 29
abbrev N_l_urn : List Str := ["script", "cell"]
theorem sc_l_urn : FnScope N_l_urn ["script"] (defScope s_l_urn) := ⟨rfl, rfl, rfl, by decide +kernel, rfl, by decide +kernel, by decide +kernel⟩
abbrev s_l_pull : Stmt := top 30
abbrev N_l_pull : List Str := ["urn", "many", "cell", "figure", "number"]
theorem sc_l_pull : FnScope N_l_pull ["urn", "many"] (defScope s_l_pull) := ⟨rfl, rfl, rfl, by decide +kernel, rfl, by decide +kernel, by decide +kernel⟩
abbrev s_l_any : Stmt := top 31
abbrev N_l_any : List Str := ["urn", "things"]
theorem sc_l_any : FnScope N_l_any ["urn", "things"] (defScope s_l_any) := ⟨rfl, rfl, rfl, by decide +kernel, rfl, by decide +kernel, by decide +kernel⟩
abbrev s_l_mixed : Stmt := top 32
abbrev N_l_mixed : List Str := ["urn", "things", "left", "found"]
theorem sc_l_mixed : FnScope N_l_mixed ["urn", "things"] (defScope s_l_mixed) := ⟨rfl, rfl, rfl, by decide +kernel, rfl, by decide +kernel, by decide +kernel⟩
abbrev s_l_made : Stmt := top 33
abbrev N_l_made : List Str := ["web"]
theorem sc_l_made : FnScope N_l_made ["web"] (defScope s_l_made) := ⟨rfl, rfl, rfl, by decide +kernel, rfl, by decide +kernel, by decide +kernel⟩
abbrev s_l_arrows : Stmt := top 34
abbrev N_l_arrows : List Str := ["web", "signing", "flag", "u", "v"]
theorem sc_l_arrows : FnScope N_l_arrows ["web", "signing"] (defScope s_l_arrows) := ⟨rfl, rfl, rfl, by decide +kernel, rfl, by decide +kernel, by decide +kernel⟩
abbrev s_l_rises : Stmt := top 35
abbrev N_l_rises : List Str := ["web", "signing", "left", "arrows", "turn", "place", "begin", "to"]
theorem sc_l_rises : FnScope N_l_rises ["web", "signing"] (defScope s_l_rises) := ⟨rfl, rfl, rfl, by decide +kernel, rfl, by decide +kernel, by decide +kernel⟩
abbrev s_l_same : Stmt := top 36
abbrev N_l_same : List Str := ["told", "due", "one", "other"]
theorem sc_l_same : FnScope N_l_same ["told", "due"] (defScope s_l_same) := ⟨rfl, rfl, rfl, by decide +kernel, rfl, by decide +kernel, by decide +kernel⟩
abbrev s_l_web : Stmt := top 37
abbrev N_l_web : List Str := ["urn", "most", "top", "many", "ties", "turn", "u", "v", "place"]
theorem sc_l_web : FnScope N_l_web ["urn", "most", "top"] (defScope s_l_web) := ⟨rfl, rfl, rfl, by decide +kernel, rfl, by decide +kernel, by decide +kernel⟩
abbrev s_l_by_order : Stmt := top 38
abbrev N_l_by_order : List Str := ["urn", "web", "order", "u", "v"]
theorem sc_l_by_order : FnScope N_l_by_order ["urn", "web"] (defScope s_l_by_order) := ⟨rfl, rfl, rfl, by decide +kernel, rfl, by decide +kernel, by decide +kernel⟩
abbrev s_l_sources : Stmt := top 39
abbrev N_l_sources : List Str := ["web", "signing", "hit", "begin", "to", "place"]
theorem sc_l_sources : FnScope N_l_sources ["web", "signing"] (defScope s_l_sources) := ⟨rfl, rfl, rfl, by decide +kernel, rfl, by decide +kernel, by decide +kernel⟩
abbrev s_l_turned : Stmt := top 40
abbrev N_l_turned : List Str := ["web", "signing", "place", "tie", "flag"]
theorem sc_l_turned : FnScope N_l_turned ["web", "signing", "place"] (defScope s_l_turned) := ⟨rfl, rfl, rfl, by decide +kernel, rfl, by decide +kernel, by decide +kernel⟩
abbrev s_l_round_about : Stmt := top 41
abbrev N_l_round_about : List Str := ["web", "signing", "row", "left", "turn", "here", "place"]
theorem sc_l_round_about : FnScope N_l_round_about ["web", "signing"] (defScope s_l_round_about) := ⟨rfl, rfl, rfl, by decide +kernel, rfl, by decide +kernel, by decide +kernel⟩
abbrev s_l_are_turned_right : Stmt := top 42
abbrev N_l_are_turned_right : List Str := ["urn", "web", "made", "signing", "turn", "place", "told", "due", "begun", "tie"]
theorem sc_l_are_turned_right : FnScope N_l_are_turned_right ["urn"] (defScope s_l_are_turned_right) := ⟨rfl, rfl, rfl, by decide +kernel, rfl, by decide +kernel, by decide +kernel⟩
abbrev s_law : Stmt := top 43
abbrev N_law : List Str := ["script", "urn", "turn"]
theorem sc_law : FnScope N_law ["script"] (defScope s_law) := ⟨rfl, rfl, rfl, by decide +kernel, rfl, by decide +kernel, by decide +kernel⟩
/-- what the top has written -/
structure Tx (K : PySem.W.Frag) (mg : Str → Option Value) where
  f_is_integer : Addr
  d_is_integer : FuncData
  F_is_integer : Fun K "is_integer" "is_integer" s_is_integer f_is_integer d_is_integer
  b_is_integer : Binds K d_is_integer ["thing"] []
  m_is_integer : mg "is_integer" = some (.ref f_is_integer)
  f_is_between : Addr
  d_is_between : FuncData
  F_is_between : Fun K "is_between" "is_between" s_is_between f_is_between d_is_between
  b_is_between : Binds K d_is_between ["thing", "least", "most"] []
  m_is_between : mg "is_between" = some (.ref f_is_between)
  f_is_below : Addr
  d_is_below : FuncData
  F_is_below : Fun K "is_below" "is_below" s_is_below f_is_below d_is_below
  b_is_below : Binds K d_is_below ["thing", "bound"] []
  m_is_below : mg "is_below" = some (.ref f_is_below)
  f_is_pair : Addr
  d_is_pair : FuncData
  F_is_pair : Fun K "is_pair" "is_pair" s_is_pair f_is_pair d_is_pair
  b_is_pair : Binds K d_is_pair ["thing"] []
  m_is_pair : mg "is_pair" = some (.ref f_is_pair)
  f_is_flags : Addr
  d_is_flags : FuncData
  F_is_flags : Fun K "is_flags" "is_flags" s_is_flags f_is_flags d_is_flags
  b_is_flags : Binds K d_is_flags ["thing"] []
  m_is_flags : mg "is_flags" = some (.ref f_is_flags)
  f_webI : Addr
  d_webI : FuncData
  F_webI : Fun K "__init__" "Web.__init__" s_webI f_webI d_webI
  b_webI : Binds K d_webI ["self", "many", "ties"] []
  f_webE : Addr
  d_webE : FuncData
  F_webE : Fun K "__eq__" "Web.__eq__" s_webE f_webE d_webE
  b_webE : Binds K d_webE ["self", "other"] []
  f_is_tie : Addr
  d_is_tie : FuncData
  F_is_tie : Fun K "_is_tie" "_is_tie" s_is_tie f_is_tie d_is_tie
  b_is_tie : Binds K d_is_tie ["thing", "many"] []
  m_is_tie : mg "_is_tie" = some (.ref f_is_tie)
  f_is_signing : Addr
  d_is_signing : FuncData
  F_is_signing : Fun K "is_signing" "is_signing" s_is_signing f_is_signing d_is_signing
  b_is_signing : Binds K d_is_signing ["web", "thing"] []
  m_is_signing : mg "is_signing" = some (.ref f_is_signing)
  f_is_rising : Addr
  d_is_rising : FuncData
  F_is_rising : Fun K "is_rising" "is_rising" s_is_rising f_is_rising d_is_rising
  b_is_rising : Binds K d_is_rising ["web", "thing"] []
  m_is_rising : mg "is_rising" = some (.ref f_is_rising)
  f_goings : Addr
  d_goings : FuncData
  F_goings : Fun K "_goings" "_goings" s_goings f_goings d_goings
  b_goings : Binds K d_goings ["web", "signing"] []
  m_goings : mg "_goings" = some (.ref f_goings)
  f_round_of : Addr
  d_round_of : FuncData
  F_round_of : Fun K "round_of" "round_of" s_round_of f_round_of d_round_of
  b_round_of : Binds K d_round_of ["web", "signing"] []
  m_round_of : mg "round_of" = some (.ref f_round_of)
  f_never_sources : Addr
  d_never_sources : FuncData
  F_never_sources : Fun K "_never_sources" "_never_sources" s_never_sources f_never_sources d_never_sources
  b_never_sources : Binds K d_never_sources ["many", "goings"] []
  m_never_sources : mg "_never_sources" = some (.ref f_never_sources)
  f_round_behind : Addr
  d_round_behind : FuncData
  F_round_behind : Fun K "_round_behind" "_round_behind" s_round_behind f_round_behind d_round_behind
  b_round_behind : Binds K d_round_behind ["goings", "left"] []
  m_round_behind : mg "_round_behind" = some (.ref f_round_behind)
  f_sources : Addr
  d_sources : FuncData
  F_sources : Fun K "sources" "sources" s_sources f_sources d_sources
  b_sources : Binds K d_sources ["web", "signing"] []
  m_sources : mg "sources" = some (.ref f_sources)
  f_turned : Addr
  d_turned : FuncData
  F_turned : Fun K "turned" "turned" s_turned f_turned d_turned
  b_turned : Binds K d_turned ["web", "signing", "place"] []
  m_turned : mg "turned" = some (.ref f_turned)
  f_is_source : Addr
  d_is_source : FuncData
  F_is_source : Fun K "_is_source" "_is_source" s_is_source f_is_source d_is_source
  b_is_source : Binds K d_is_source ["web", "signing", "thing"] []
  m_is_source : mg "_is_source" = some (.ref f_is_source)
  f_behind : Addr
  d_behind : FuncData
  F_behind : Fun K "_behind" "_behind" s_behind f_behind d_behind
  b_behind : Binds K d_behind ["web", "signing", "place"] []
  m_behind : mg "_behind" = some (.ref f_behind)
  f_l_urn : Addr
  d_l_urn : FuncData
  F_l_urn : Fun K "_law_urn" "_law_urn" s_l_urn f_l_urn d_l_urn
  b_l_urn : Binds K d_l_urn ["script"] []
  m_l_urn : mg "_law_urn" = some (.ref f_l_urn)
  f_l_pull : Addr
  d_l_pull : FuncData
  F_l_pull : Fun K "_law_pull" "_law_pull" s_l_pull f_l_pull d_l_pull
  b_l_pull : Binds K d_l_pull ["urn", "many"] []
  m_l_pull : mg "_law_pull" = some (.ref f_l_pull)
  f_l_any : Addr
  d_l_any : FuncData
  F_l_any : Fun K "_law_any" "_law_any" s_l_any f_l_any d_l_any
  b_l_any : Binds K d_l_any ["urn", "things"] []
  m_l_any : mg "_law_any" = some (.ref f_l_any)
  f_l_mixed : Addr
  d_l_mixed : FuncData
  F_l_mixed : Fun K "_law_mixed" "_law_mixed" s_l_mixed f_l_mixed d_l_mixed
  b_l_mixed : Binds K d_l_mixed ["urn", "things"] []
  m_l_mixed : mg "_law_mixed" = some (.ref f_l_mixed)
  f_l_made : Addr
  d_l_made : FuncData
  F_l_made : Fun K "_law_made" "_law_made" s_l_made f_l_made d_l_made
  b_l_made : Binds K d_l_made ["web"] []
  m_l_made : mg "_law_made" = some (.ref f_l_made)
  f_l_arrows : Addr
  d_l_arrows : FuncData
  F_l_arrows : Fun K "_law_arrows" "_law_arrows" s_l_arrows f_l_arrows d_l_arrows
  b_l_arrows : Binds K d_l_arrows ["web", "signing"] []
  m_l_arrows : mg "_law_arrows" = some (.ref f_l_arrows)
  f_l_rises : Addr
  d_l_rises : FuncData
  F_l_rises : Fun K "_law_rises" "_law_rises" s_l_rises f_l_rises d_l_rises
  b_l_rises : Binds K d_l_rises ["web", "signing"] []
  m_l_rises : mg "_law_rises" = some (.ref f_l_rises)
  f_l_same : Addr
  d_l_same : FuncData
  F_l_same : Fun K "_law_same" "_law_same" s_l_same f_l_same d_l_same
  b_l_same : Binds K d_l_same ["told", "due"] []
  m_l_same : mg "_law_same" = some (.ref f_l_same)
  f_l_web : Addr
  d_l_web : FuncData
  F_l_web : Fun K "_law_web" "_law_web" s_l_web f_l_web d_l_web
  b_l_web : Binds K d_l_web ["urn", "most", "top"] []
  m_l_web : mg "_law_web" = some (.ref f_l_web)
  f_l_by_order : Addr
  d_l_by_order : FuncData
  F_l_by_order : Fun K "_law_by_order" "_law_by_order" s_l_by_order f_l_by_order d_l_by_order
  b_l_by_order : Binds K d_l_by_order ["urn", "web"] []
  m_l_by_order : mg "_law_by_order" = some (.ref f_l_by_order)
  f_l_sources : Addr
  d_l_sources : FuncData
  F_l_sources : Fun K "_law_sources" "_law_sources" s_l_sources f_l_sources d_l_sources
  b_l_sources : Binds K d_l_sources ["web", "signing"] []
  m_l_sources : mg "_law_sources" = some (.ref f_l_sources)
  f_l_turned : Addr
  d_l_turned : FuncData
  F_l_turned : Fun K "_law_turned" "_law_turned" s_l_turned f_l_turned d_l_turned
  b_l_turned : Binds K d_l_turned ["web", "signing", "place"] []
  m_l_turned : mg "_law_turned" = some (.ref f_l_turned)
  f_l_round_about : Addr
  d_l_round_about : FuncData
  F_l_round_about : Fun K "_law_round_about" "_law_round_about" s_l_round_about f_l_round_about d_l_round_about
  b_l_round_about : Binds K d_l_round_about ["web", "signing"] []
  m_l_round_about : mg "_law_round_about" = some (.ref f_l_round_about)
  f_l_are_turned_right : Addr
  d_l_are_turned_right : FuncData
  F_l_are_turned_right : Fun K "_law_are_turned_right" "_law_are_turned_right" s_l_are_turned_right f_l_are_turned_right d_l_are_turned_right
  b_l_are_turned_right : Binds K d_l_are_turned_right ["urn"] []
  m_l_are_turned_right : mg "_law_are_turned_right" = some (.ref f_l_are_turned_right)
  f_law : Addr
  d_law : FuncData
  F_law : Fun K "law" "law" s_law f_law d_law
  b_law : Binds K d_law ["script"] []
  m_law : mg "law" = some (.ref f_law)
  C_Web : Addr
  m_Web : mg "Web" = some (.ref C_Web)
  cl_Web : Cls K C_Web
  mk_Web : Mk K C_Web f_webI
  eq_Web : PySem.W.findIn K (.ref C_Web) "__eq__" = some (some (.ref f_webE))
  eqf_Web : PySem.W.isFn K (.ref f_webE) = true
  ic_Web : PySem.W.findIn K (.ref C_Web) "__class__" = some (some (.builtin "object.__class__"))
  im_Web : PySem.W.mroIn K C_Web (.type "object") = some true
  no_Web_many : NoAttr K C_Web "many"
  no_Web_ties : NoAttr K C_Web "ties"
  ia : PySem.W.specialIn K (.builtin "object.__class__") "__get__" = some (some (.builtin "getset_descriptor.__get__"))
  ib : PySem.W.takesIn K (.builtin "object.__class__") = some true
  t_MOST_PLACES : Tok
  m_MOST_PLACES : mg "MOST_PLACES" = some (.int 10 t_MOST_PLACES)
  t_MOST_TIES : Tok
  m_MOST_TIES : mg "MOST_TIES" = some (.int 16 t_MOST_TIES)
  g_abs : mg "abs" = none
  g_all : mg "all" = none
  g_any : mg "any" = none
  g_bool : mg "bool" = none
  g_enumerate : mg "enumerate" = none
  g_int : mg "int" = none
  g_isinstance : mg "isinstance" = none
  g_len : mg "len" = none
  g_list : mg "list" = none
  g_max : mg "max" = none
  g_min : mg "min" = none
  g_range : mg "range" = none
  g_reversed : mg "reversed" = none
  g_tuple : mg "tuple" = none
  g_zip : mg "zip" = none
end K37
set_option Elab.async false
set_option linter.all false
set_option maxRecDepth 100000
set_option maxHeartbeats 4000000
/-! The judges of kinds, and a web made. -/
namespace K37
open PySem L2 Rl
/-! ### promises -/
def spInt1 : Sp := fun vs H Q _ => ∃ i : Int, vs = [.int i] ∧ Q (.bl true) H
def spBetw : Sp := fun vs H Q _ => ∃ i l m : Int, vs = [.int i, .int l, .int m] ∧ Q (.bl (decide (l ≤ i) && decide (i ≤ m))) H
def spBelow : Sp := fun vs H Q _ => ∃ i m : Int, vs = [.int i, .int m] ∧ Q (.bl (decide (0 ≤ i) && decide (i < m))) H
def spPair : Sp := fun vs H Q _ => ∃ (a : Addr) (x y : V), vs = [.ref a] ∧ H a = some (.tup [x, y]) ∧ Q (.bl true) H
def spTie : Sp := fun vs H Q _ => ∃ (a : Addr) (u v n : Int), vs = [.ref a, .int n] ∧ H a = some (.tup [.int u, .int v]) ∧ 0 ≤ u ∧ u ≤ v ∧ v < n ∧ Q (.bl true) H
section
variable {P : Program} {w : World} {K : PySem.W.Frag} {mg : Str → Option Value} {base : Heap}
theorem ok_is_integer (T : Tx K mg) : FnOk P w K mg base CX0 1 T.f_is_integer T.d_is_integer ["thing"] spInt1 := by
  refine T.F_is_integer.ok sc_is_integer (fun vs H Q E h => ?_) (fun cdv A outer s H vs Q E hr h => ?_)
  · obtain ⟨i, rfl, _⟩ := h
    rfl
  obtain ⟨i, rfl, q⟩ := h
  refine ⟨_, (pss_one (ps_ret (pe_and (pe_callB call_isi (by rfl) T.g_isinstance (by decide +kernel) (pa_cons (pv 0) (pa_cons (pe_bltn (v := .ty "int") (by rfl) T.g_int (by decide +kernel) rfl) pa_nil))) (pe_one (pe_not (pe_callB call_isi (by rfl) T.g_isinstance (by decide +kernel) (pa_cons (pv 0) (pa_cons (pe_bltn (v := .ty "bool") (by rfl) T.g_bool (by decide +kernel) rfl) pa_nil)))))))), ?_⟩
  refine ⟨_, rfl, _, _, _, _, _, rfl, .ty _, .base (.int i), kit_ty (by decide +kernel), true, rfl, iteT ?_⟩
  refine ⟨_, rfl, _, _, _, _, _, rfl, .ty _, .base (.int i), kit_ty (b := "bool") (r := false) (by decide +kernel), false, rfl, ?_⟩
  exact q
theorem ok_is_between (T : Tx K mg) : FnOk P w K mg base CX0 2 T.f_is_between T.d_is_between ["thing", "least", "most"] spBetw := by
  refine T.F_is_between.ok sc_is_between (fun vs H Q E h => ?_) (fun cdv A outer s H vs Q E hr h => ?_)
  · obtain ⟨i, l, m, rfl, _⟩ := h
    rfl
  obtain ⟨i, l, m, rfl, q⟩ := h
  refine ⟨_, (pss_one (ps_ret (pe_and (pe_call (ok_is_integer T) (hr.mono (by decide)) (by rfl) T.m_is_integer T.F_is_integer.kp T.b_is_integer .nil pass0 (pa_cons (pv 0) pa_nil)) (pe_one (pe_chain op_le op_le (pv 1) (pv 0) (pv 2)))))), ?_⟩
  refine ⟨_, rfl, i, rfl, true, rfl, iteT ?_⟩
  refine ⟨_, rfl, _, rfl, l, i, rfl, rfl, _, rfl, ?_⟩
  cases hd : decide (l ≤ i) with
  | true =>
    rw [hd] at q
    exact iteT ⟨_, rfl, i, m, rfl, rfl, q⟩
  | false =>
    rw [hd] at q
    exact iteF q
theorem ok_is_below (T : Tx K mg) : FnOk P w K mg base CX0 2 T.f_is_below T.d_is_below ["thing", "bound"] spBelow := by
  refine T.F_is_below.ok sc_is_below (fun vs H Q E h => ?_) (fun cdv A outer s H vs Q E hr h => ?_)
  · obtain ⟨i, m, rfl, _⟩ := h
    rfl
  obtain ⟨i, m, rfl, q⟩ := h
  refine ⟨_, (pss_one (ps_ret (pe_and (pe_call (ok_is_integer T) (hr.mono (by decide)) (by rfl) T.m_is_integer T.F_is_integer.kp T.b_is_integer .nil pass0 (pa_cons (pv 0) pa_nil)) (pe_one (pe_chain op_le op_lt pe_int (pv 0) (pv 1)))))), ?_⟩
  refine ⟨_, rfl, i, rfl, true, rfl, iteT ?_⟩
  refine ⟨_, rfl, 0, i, rfl, rfl, _, rfl, ?_⟩
  cases hd : decide ((0 : Int) ≤ i) with
  | true =>
    rw [hd] at q
    exact iteT ⟨_, rfl, i, m, rfl, rfl, q⟩
  | false =>
    rw [hd] at q
    exact iteF q
theorem ok_is_pair (T : Tx K mg) : FnOk P w K mg base CX0 1 T.f_is_pair T.d_is_pair ["thing"] spPair := by
  refine T.F_is_pair.ok sc_is_pair (fun vs H Q E h => ?_) (fun cdv A outer s H vs Q E hr h => ?_)
  · obtain ⟨a, x, y, rfl, _⟩ := h
    rfl
  obtain ⟨a, x, y, rfl, ha, q⟩ := h
  refine ⟨_, (pss_one (ps_ret (pe_and (pe_callB call_isi (by rfl) T.g_isinstance (by decide +kernel) (pa_cons (pv 0) (pa_cons (pe_bltn (v := .ty "tuple") (by rfl) T.g_tuple (by decide +kernel) rfl) pa_nil))) (pe_one (pe_cmpR op_eq (pe_callB call_len_seq (by rfl) T.g_len PySem.boot_len (pa_cons (pv 0) pa_nil)) pe_int (nomark _)))))), ?_⟩
  refine ⟨_, rfl, _, _, _, _, _, rfl, .ty _, .base (.tup ha), kit_ty (by decide +kernel), true, rfl, iteT ?_⟩
  refine ⟨_, rfl, a, _, rfl, .inr (SqT.of ha), rfl, ?_⟩
  exact q
theorem ok_is_tie (T : Tx K mg) : FnOk P w K mg base CX0 3 T.f_is_tie T.d_is_tie ["thing", "many"] spTie := by
  refine T.F_is_tie.ok sc_is_tie (fun vs H Q E h => ?_) (fun cdv A outer s H vs Q E hr h => ?_)
  · obtain ⟨a, u, v, n, rfl, _⟩ := h
    rfl
  obtain ⟨a, u, v, n, rfl, ha, h0, h1, h2, q⟩ := h
  have sT : SqT K H a [.int u, .int v] := SqT.of ha
  refine ⟨_, (pss_one (ps_ret (pe_and (pe_call (ok_is_pair T) (hr.mono (by decide)) (by rfl) T.m_is_pair T.F_is_pair.kp T.b_is_pair .nil pass0 (pa_cons (pv 0) pa_nil)) (pe_and (pe_call (ok_is_below T) (hr.mono (by decide)) (by rfl) T.m_is_below T.F_is_below.kp T.b_is_below .nil pass0 (pa_cons (pe_ix ix_tup (pv 0) pe_int (fun _ _ => rfl)) (pa_cons (pv 1) pa_nil))) (pe_one (pe_call (ok_is_between T) (hr.mono (by decide)) (by rfl) T.m_is_between T.F_is_between.kp T.b_is_between .nil pass0 (pa_cons (pe_ix ix_tup (pv 0) pe_int (fun _ _ => rfl)) (pa_cons pe_int (pa_cons (pe_ix ix_tup (pv 0) pe_int (fun _ _ => rfl)) pa_nil))))))))), ?_⟩
  refine ⟨_, rfl, a, _, _, rfl, ha, true, rfl, iteT ?_⟩
  refine ⟨_, rfl, a, _, 1, .int v, rfl, rfl, sT, atI_nat (j := 1) rfl, _, rfl, v, n, rfl, _, rfl, ?_⟩
  have e1 : (decide (0 ≤ v) && decide (v < n)) = true := by
    rw [decide_eq_true (show (0 : Int) ≤ v by omega), decide_eq_true h2]
    rfl
  rw [e1]
  refine iteT ?_
  refine ⟨_, rfl, a, _, 0, .int u, rfl, rfl, sT, atI_nat (j := 0) rfl, _, rfl, a, _, 1, .int v, rfl, rfl, sT, atI_nat (j := 1) rfl, u, 0, v, rfl, ?_⟩
  have e2 : (decide (0 ≤ u) && decide (u ≤ v)) = true := by
    rw [decide_eq_true h0, decide_eq_true h1]
    rfl
  rw [e2]
  exact q
end
/-! ### webs -/
/-- the items of a list or tuple are pairs of ints, these -/
def PrsAt (H : Hp) (vs : List V) (ps : List (Int × Int)) : Prop := Paired (fun (v : V) (p : Int × Int) => ∃ a, v = .ref a ∧ H a = some (.tup [.int p.1, .int p.2])) vs ps
def TiesAt (H : Hp) (t : Addr) (ps : List (Int × Int)) : Prop := ∃ vs, H t = some (.tup vs) ∧ PrsAt H vs ps
def okP (n : Int) (p : Int × Int) : Prop := 0 ≤ p.1 ∧ p.1 ≤ p.2 ∧ p.2 < n
def wf (n : Int) (t : Addr) : List (Str × V) := putF "ties" (.ref t) (putF "many" (.int n) [])
def WebAt (C : Addr) (H : Hp) (x : Addr) (n : Int) (ps : List (Int × Int)) : Prop := ∃ dx t, H x = some (.ins C dx (wf n t)) ∧ TiesAt H t ps
theorem kmt : ¬ (("many" : Str) = "ties") := by decide +kernel
theorem wf_many (n : Int) (t : Addr) : (wf n t).lookup ("many" : Str) = some (.int n) := by
  unfold wf
  rw [lookup_putF, if_neg kmt, lookup_putF, if_pos rfl]
theorem wf_ties (n : Int) (t : Addr) : (wf n t).lookup ("ties" : Str) = some (.ref t) := by
  unfold wf
  rw [lookup_putF, if_pos rfl]
theorem PrsAt.get {H : Hp} : ∀ {vs : List V} {ps : List (Int × Int)} {i : Nat} {v : V}, PrsAt H vs ps → vs[i]? = some v → ∃ p a, ps[i]? = some p ∧ v = .ref a ∧ H a = some (.tup [.int p.1, .int p.2])
  | _, _, i, v, .nil, h => by simp at h
  | _, _, 0, v, .cons (a := x) (b := p) ⟨a, e, q⟩ _, h => by
    have e1 : x = v := Option.some.inj h
    exact ⟨p, a, rfl, e1.symm.trans e, q⟩
  | _, _, i + 1, v, .cons _ r, h => PrsAt.get (i := i) (v := v) r h
theorem PrsAt.mono {H H' : Hp} (e : ∀ a x y, H a = some (.tup [x, y]) → H' a = some (.tup [x, y])) : ∀ {vs : List V} {ps : List (Int × Int)}, PrsAt H vs ps → PrsAt H' vs ps
  | _, _, .nil => .nil
  | _, _, .cons ⟨a, e1, q⟩ r => .cons ⟨a, e1, e _ _ _ q⟩ (PrsAt.mono e r)
theorem PrsAt.len {H : Hp} {vs : List V} {ps : List (Int × Int)} (h : PrsAt H vs ps) : vs.length = ps.length := Paired.length h
theorem TiesAt.same {H H' : Hp} {t : Addr} {ps : List (Int × Int)} (e : Same H H') (h : TiesAt H t ps) : TiesAt H' t ps := by
  obtain ⟨vs, h1, h2⟩ := h
  exact ⟨vs, e _ _ h1, h2.mono fun a x y q => e _ _ q⟩
theorem WebAt.same {C : Addr} {H H' : Hp} {x : Addr} {n : Int} {ps : List (Int × Int)} (e : Same H H') (h : WebAt C H x n ps) : WebAt C H' x n ps := by
  obtain ⟨dx, t, h1, h2⟩ := h
  exact ⟨dx, t, e _ _ h1, h2.same e⟩
def spWebI (C : Addr) : Sp := fun vs H Q _ => ∃ (x dx t : Addr) (n : Int) (ps : List (Int × Int)), vs = [.ref x, .int n, .ref t] ∧ H x = some (.ins C dx []) ∧ 1 ≤ n ∧ n ≤ 10 ∧ TiesAt H t ps ∧ ps.length ≤ 16 ∧ (∀ p ∈ ps, okP n p) ∧
  ∀ H', (∀ b o, H b = some o → b ≠ x → H' b = some o) → H' x = some (.ins C dx (wf n t)) → Q .non H'
section
variable {P : Program} {w : World} {K : PySem.W.Frag} {mg : Str → Option Value} {base : Heap}
theorem same_new {H : Hp} {p : Addr} (h : H p = none) (o : HO) : Same H (upd H p o) := fun b u q => by
  rw [upd_ne (ne_of_none q h)]
  exact q
theorem ok_webI (T : Tx K mg) : FnOk P w K mg base CX0 4 T.f_webI T.d_webI ["self", "many", "ties"] (spWebI T.C_Web) := by
  refine T.F_webI.ok sc_webI (fun vs H Q E h => ?_) (fun cdv A outer s H vs Q E hr h => ?_)
  · obtain ⟨x, dx, t, n, ps, rfl, _⟩ := h
    rfl
  obtain ⟨x, dx, t, n, ps, rfl, hx, n1, n2, ht, hl, hp, q⟩ := h
  obtain ⟨vs, ht1, ht2⟩ := id ht
  refine ⟨_, (pss_cons (ps_if (pt_not (pt_val (pe_call (ok_is_between T) (hr.mono (by decide)) (by rfl) T.m_is_between T.F_is_between.kp T.b_is_between .nil pass0 (pa_cons (pv 1) (pa_cons pe_int (pa_cons (pe_glob (v := .int 10) rfl T.m_MOST_PLACES ⟨_, rfl⟩) pa_nil))))))
      (pss_one ps_never)
      pss_nil)
    (pss_cons (ps_if (PW.pt (pw_or (pt_not (pt_val (pe_callB call_isi (by rfl) T.g_isinstance (by decide +kernel) (pa_cons (pv 2) (pa_cons (pe_bltn (v := .ty "tuple") (by rfl) T.g_tuple (by decide +kernel) rfl) pa_nil))))) (pw_or1 (pt_cmpR op_gt (pe_callB call_len_seq (by rfl) T.g_len PySem.boot_len (pa_cons (pv 2) pa_nil)) (pe_glob (v := .int 16) rfl T.m_MOST_TIES ⟨_, rfl⟩) (nomark _)))))
      (pss_one ps_never)
      pss_nil)
    (pss_cons (ps_for PassesOwn.never rfl (pi_enT (by rfl) T.g_enumerate (pa_cons (pv 2) pa_nil)) (pg_tup rfl (pgs_cons (pg_name (i := 3) sc_webI.nd rfl (.inl rfl)) (pgs_cons (pg_name (i := 4) sc_webI.nd rfl (.inl rfl)) pgs_nil)))
      (pss_one (ps_if (pt_not (pt_val (pe_call (ok_is_tie T) (hr.mono (by decide)) (by rfl) T.m_is_tie T.F_is_tie.kp T.b_is_tie .nil pass0 (pa_cons (pv 4) (pa_cons (pv 1) pa_nil)))))
          (pss_one ps_never)
          pss_nil)))
    (pss_cons (ps_fld (pv 0) (pv 1) rfl)
    (pss_one (ps_fld (pv 0) (pv 2) rfl)))))), ?_⟩
  refine ⟨_, rfl, n, 1, 10, rfl, true, ?_, ?_⟩
  · rw [decide_eq_true n1, decide_eq_true n2]
    rfl
  refine iteF ?_
  refine ⟨_, rfl, _, _, _, _, _, rfl, .ty _, .base (.tup ht1), kit_ty (by decide +kernel), true, rfl, ?_⟩
  refine iteF ?_
  refine ⟨_, rfl, t, _, rfl, .inr (SqT.of ht1), _, 16, rfl, rfl, _, rfl, ?_⟩
  have e3 : ((vs.length : Nat) : Int) ≤ 16 := by
    rw [ht2.len]
    omega
  rw [decide_eq_false (show ¬ (16 : Int) < ((vs.length : Nat) : Int) by omega)]
  refine iteF ?_
  -- each tie is one
  refine ⟨_, rfl, t, _, rfl, SqT.of ht1, for_enT (fun i σ H' => ∃ y3 y4, σ = [some (.ref x), some (.int n), some (.ref t), y3, y4] ∧ Same H H')
    ⟨none, none, rfl, Same.refl H⟩ (fun i σ H' ⟨_, _, _, sm⟩ => SqT.of (sm _ _ ht1)) ?_ ?_⟩
  · intro i y S σ H' hi ⟨y3, y4, e, sm⟩ nS
    subst e
    obtain ⟨p, a, hpi, ey, ha⟩ := ht2.get hi
    subst ey
    have op := hp p (List.mem_of_getElem? hpi)
    have s2 : Same H (upd H' S (.tup [.int (i : Nat), .ref a])) := sm.trans (same_new nS _)
    refine ⟨S, _, rfl, SqT.of upd_same, rfl, _, _, rfl, _, _, rfl, rfl, ?_⟩
    refine ⟨_, rfl, _, rfl, a, p.1, p.2, n, rfl, s2 _ _ ha, op.1, op.2.1, op.2.2, true, rfl, ?_⟩
    exact iteF ⟨_, _, rfl, s2⟩
  · intro σ H' ⟨y3, y4, e, sm⟩
    subst e
    refine ⟨_, rfl, _, rfl, x, T.C_Web, dx, [], rfl, sm _ _ hx, T.cl_Web, T.no_Web_many, (by show 0 < 1000; decide), ?_⟩
    refine ⟨_, rfl, _, rfl, x, T.C_Web, dx, _, rfl, upd_same, T.cl_Web, T.no_Web_ties, (by show 1 < 1000; decide), ?_⟩
    refine q _ (fun b o hb nb => ?_) upd_same
    rw [upd_ne nb, upd_ne nb]
    exact sm _ _ hb
/-- Web(n, t): a right web, made -/
theorem web_made {C : Addr} {H : Hp} {t : Addr} {n : Int} {ps : List (Int × Int)} {Q : VK} {E : XK} (n1 : 1 ≤ n) (n2 : n ≤ 10) (ht : TiesAt H t ps) (hl : ps.length ≤ 16) (hp : ∀ p ∈ ps, okP n p)
    (q : ∀ x H', H x = none → Same H H' → WebAt C H' x n ps → Q (.ref x) H') :
    ∀ x dx, H x = none → H dx = none → dx ≠ x → spWebI C (.ref x :: ([.int n, .ref t] ++ [])) (upd (upd H dx (.own x)) x (.ins C dx [])) (fun v H2 => v = .non ∧ Q (.ref x) H2) E := by
  intro x dx nx nd nex
  have s0 : Same H (upd (upd H dx (.own x)) x (.ins C dx [])) := fun b o e => by
    rw [upd_ne (ne_of_none e nx), upd_ne (ne_of_none e nd)]
    exact e
  refine ⟨x, dx, t, n, ps, rfl, upd_same, n1, n2, ht.same s0, hl, hp, fun H' k hx => ⟨rfl, ?_⟩⟩
  have s1 : Same H H' := fun b o e => k b o (s0 b o e) (ne_of_none e nx)
  exact q x H' nx s1 ⟨dx, t, hx, ht.same s1⟩
end
end K37
set_option Elab.async false
set_option linter.all false
set_option maxRecDepth 100000
set_option maxHeartbeats 4000000
/-! Short answers. -/
namespace K37
open PySem L2 Rl
/-! ### short answers -/
theorem cut_hi (xs : List V) (k : Int) (h : 0 ≤ k) : cutV xs none (some k) = xs.take k.toNat := by
  obtain ⟨n, rfl⟩ := Int.eq_ofNat_of_zero_le h
  unfold cutV
  rw [HT.sIx_none, show HT.sIx xs.length xs.length (some (n : Int)) = min n xs.length from HT.sIx_nat _ _ n, List.drop_zero, Nat.sub_zero, Int.toNat_natCast]
  rcases Nat.le_total n xs.length with g | g
  · rw [Nat.min_eq_left g]
  · rw [Nat.min_eq_right g, List.take_of_length_le (Nat.le_refl _), List.take_of_length_le g]
theorem cut_lo (xs : List V) (k : Int) (h : 0 ≤ k) : cutV xs (some k) none = xs.drop k.toNat := by
  obtain ⟨n, rfl⟩ := Int.eq_ofNat_of_zero_le h
  unfold cutV
  rw [HT.sIx_none, show HT.sIx xs.length 0 (some (n : Int)) = min n xs.length from HT.sIx_nat _ _ n, Int.toNat_natCast]
  rcases Nat.le_total n xs.length with g | g
  · rw [Nat.min_eq_left g, List.take_of_length_le (by rw [List.length_drop]; exact Nat.le_refl _)]
  · rw [Nat.min_eq_right g, List.drop_of_length_le (Nat.le_refl _), List.drop_of_length_le g, List.take_nil]
theorem cut_all (xs : List V) (lo hi : Option Int) (h : HT.sIx xs.length 0 lo = 0 ∧ HT.sIx xs.length xs.length hi = xs.length) : cutV xs lo hi = xs := by
  unfold cutV
  rw [h.1, h.2, List.drop_zero, Nat.sub_zero, List.take_of_length_le (Nat.le_refl _)]
section
variable {K : PySem.W.Frag} {H : Hp} {Q : VK}
theorem sl_go {a : Addr} {xs : List V} {lo hi : Option Int} (ha : H a = some (.tup xs)) (q : ∀ p H', Same H H' → H' p = some (.tup (cutV xs lo hi)) → Q (.ref p) H') : rSlA K (.ref a) lo hi H Q :=
  ⟨a, xs, rfl, SqT.of ha, fun z => q a H (Same.refl H) (by rw [cut_all xs lo hi z]; exact ha), fun _ p np => q p _ (same_new np _) upd_same⟩
theorem cat_go {a b : Addr} {xs ys : List V} (ha : H a = some (.tup xs)) (hb : H b = some (.tup ys)) (hz : xs.length + ys.length ≤ 100000) (q : ∀ p H', Same H H' → H' p = some (.tup (xs ++ ys)) → Q (.ref p) H') : rCatA K (.ref a) (.ref b) H Q := by
  refine ⟨a, b, xs, ys, rfl, rfl, SqT.of ha, SqT.of hb, Nat.le_trans hz (by decide), fun e => ?_, fun _ e => ?_, fun _ _ p np => q p _ (same_new np _) upd_same⟩
  · subst e
    exact q b H (Same.refl H) hb
  · subst e
    exact q a H (Same.refl H) (by rw [List.append_nil]; exact ha)
end
theorem rd_same {H H' : Hp} (e : Same H H') {a : Addr} {u : HO} (h : L2.Rd H a u) : L2.Rd H' a u := by
  rcases h with h | ⟨o, h⟩
  · exact .inl (e _ _ h)
  · exact .inr ⟨o, e _ _ h⟩
theorem ty_tupR {K : PySem.W.Frag} {H : Hp} {a : Addr} {xs : List V} (h : L2.Rd H a (.tup xs)) : TyX K H (.ref a) (.type "tuple") := by
  rcases h with h | ⟨o, h⟩
  · exact .base (.tup h)
  · exact .fTuple h
theorem Same.tup {H H' : Hp} (e : Same H H') {a : Addr} {x y : V} (h : H a = some (.tup [x, y])) : H' a = some (.tup [x, y]) := e _ _ h
theorem PrsAt.same {H H' : Hp} {vs : List V} {ps : List (Int × Int)} (e : Same H H') (h : PrsAt H vs ps) : PrsAt H' vs ps := h.mono fun _ _ _ q => e _ _ q
theorem PrsAt.app {H : Hp} : ∀ {vs ws : List V} {ps qs : List (Int × Int)}, PrsAt H vs ps → PrsAt H ws qs → PrsAt H (vs ++ ws) (ps ++ qs)
  | _, _, _, _, .nil, h => h
  | _, _, _, _, .cons a r, h => .cons a (PrsAt.app r h)
theorem PrsAt.take {H : Hp} : ∀ {vs : List V} {ps : List (Int × Int)} (n : Nat), PrsAt H vs ps → PrsAt H (vs.take n) (ps.take n)
  | _, _, 0, _ => by rw [List.take_zero, List.take_zero]; exact .nil
  | _, _, _ + 1, .nil => .nil
  | _, _, n + 1, .cons a r => .cons a (PrsAt.take n r)
theorem PrsAt.drop {H : Hp} : ∀ {vs : List V} {ps : List (Int × Int)} (n : Nat), PrsAt H vs ps → PrsAt H (vs.drop n) (ps.drop n)
  | _, _, 0, h => h
  | _, _, _ + 1, .nil => .nil
  | _, _, n + 1, .cons a r => PrsAt.drop n r
/-- a list that is changed at an address that holds no tuple leaves the pairs -/
theorem PrsAt.upd {H : Hp} {D : Addr} {l : List V} {o : HO} {vs : List V} {ps : List (Int × Int)} (hD : H D = some (.lst l)) (h : PrsAt H vs ps) : PrsAt (upd H D o) vs ps :=
  h.mono fun a x y q => by
    rw [upd_ne (ne_of q hD (by intro z; cases z))]
    exact q
def Right (n : Int) (ps : List (Int × Int)) : Prop := 1 ≤ n ∧ n ≤ 10 ∧ ps.length ≤ 16 ∧ ∀ p ∈ ps, okP n p
/-- as min and max of two answer -/
def mn (i j : Int) : Int := if j < i then j else i
def mx (i j : Int) : Int := if j > i then j else i
def ix (ns : List Int) (k : Int) : Int := ns.getD k.toNat 0
def cal (ns : List Int) (p : Int × Int) : Int × Int := (mn (ix ns p.1) (ix ns p.2), mx (ix ns p.1) (ix ns p.2))
def inR (m : Nat) (p : Int × Int) : Prop := 0 ≤ p.1 ∧ p.1 < m ∧ 0 ≤ p.2 ∧ p.2 < m
theorem ix_at {ns : List Int} {k : Int} (h0 : 0 ≤ k) (h1 : k < ns.length) : atI (ns.map V.int) k = some (.int (ix ns k)) := by
  obtain ⟨n, rfl⟩ := Int.eq_ofNat_of_zero_le h0
  have hn : n < ns.length := by omega
  refine atI_nat ?_
  unfold ix
  rw [List.getElem?_map, Int.toNat_natCast, List.getD_eq_getElem?_getD, List.getElem?_eq_getElem hn]
  rfl
section
variable {P : Program} {w : World} {K : PySem.W.Frag} {mg : Str → Option Value} {base : Heap}
theorem ix_go {H : Hp} {m : Addr} {ns : List Int} {k : Int} {Q : VK} (hm : H m = some (.lst (ns.map V.int)) ∨ L2.Rd H m (.tup (ns.map V.int))) (h0 : 0 ≤ k) (h1 : k < ns.length) (q : Q (.int (ix ns k)) H) : rIx K (.ref m) (.int k) H Q := by
  rcases hm with hm | hm
  · exact .inl ⟨m, _, k, _, rfl, rfl, SqL.of hm, ix_at h0 h1, q⟩
  · exact .inr (.inl ⟨m, _, k, _, rfl, rfl, .inl hm, ix_at h0 h1, q⟩)
end
/-! ### data -/
def dI (ns : List Int) : List PyData := ns.map PyData.int
def dP (p : Int × Int) : PyData := .tuple [.int p.1, .int p.2]
theorem can_ints : ∀ ns : List Int, PyData.canLayAll0 (dI ns) = true
  | [] => by unfold dI; simp [PyData.canLayAll0]
  | n :: r => by
    have ih := can_ints r
    unfold dI at ih ⊢
    rw [List.map_cons]
    simp only [PyData.canLayAll0, PyData.canLay0, Bool.true_and]
    exact ih
theorem dep_ints : ∀ ns : List Int, PyData.depthAll (dI ns) = 0
  | [] => by unfold dI; simp [PyData.depthAll]
  | n :: r => by
    have ih := dep_ints r
    unfold dI at ih ⊢
    rw [List.map_cons]
    simp only [PyData.depthAll, PyData.depth]
    rw [ih]
    rfl
theorem can_pair (p : Int × Int) : (dP p).canLay0 = true := by
  unfold dP
  simp [PyData.canLay0, PyData.canLayAll0]
theorem dep_pair (p : Int × Int) : (dP p).depth = 1 := by
  unfold dP
  simp [PyData.depth, PyData.depthAll]
theorem can_prs : ∀ ps : List (Int × Int), PyData.canLayAll0 (ps.map dP) = true
  | [] => by simp [PyData.canLayAll0]
  | p :: r => by
    rw [List.map_cons]
    simp only [PyData.canLayAll0]
    rw [can_pair, can_prs r]
    rfl
theorem dep_prs : ∀ ps : List (Int × Int), PyData.depthAll (ps.map dP) ≤ 1
  | [] => by simp [PyData.depthAll]
  | p :: r => by
    rw [List.map_cons]
    simp only [PyData.depthAll]
    rw [dep_pair]
    exact Nat.max_le.mpr ⟨Nat.le_refl _, dep_prs r⟩
theorem shp_of {d : PyData} (h1 : d.canLay0 = true) (h2 : d.depth ≤ 64) : SeqAt.shaped d = true := Bool.and_eq_true_iff.mpr ⟨h1, decide_eq_true h2⟩
theorem shp_ints (ns : List Int) : SeqAt.shaped (.list (dI ns)) = true := shp_of
  (by simp only [PyData.canLay0]; exact can_ints ns) (by simp only [PyData.depth]; rw [dep_ints]; decide)
theorem shp_pair (p : Int × Int) : SeqAt.shaped (dP p) = true := shp_of (can_pair p) (by rw [dep_pair]; decide)
theorem shp_prs (ps : List (Int × Int)) : SeqAt.shaped (.tuple (ps.map dP)) = true := shp_of
  (by simp only [PyData.canLay0]; exact can_prs ps) (by simp only [PyData.depth]; have := dep_prs ps; omega)
theorem eqv_same {d : PyData} (h : SeqAt.shaped d = true) : PyData.eqv d d = true := SeqAt.eqv_refl d (SeqAt.canLay_of_shaped h)
theorem dpa_ints {K : PySem.W.Frag} {H : Hp} : ∀ ns : List Int, DpAll K H (ns.map V.int) (dI ns)
  | [] => .nil
  | n :: r => .cons (.int n) (dpa_ints r)
theorem dp_pair {K : PySem.W.Frag} {H : Hp} {a : Addr} {p : Int × Int} (h : H a = some (.tup [.int p.1, .int p.2])) : Dp K H (.ref a) (dP p) :=
  .tup (SqT.of h) (.cons (.int _) (.cons (.int _) .nil))
theorem dpa_prs {K : PySem.W.Frag} {H : Hp} : ∀ {vs : List V} {ps : List (Int × Int)}, PrsAt H vs ps → DpAll K H vs (ps.map dP)
  | _, _, .nil => .nil
  | _, _, .cons ⟨a, e, h⟩ r => by
    rw [e]
    exact .cons (dp_pair h) (dpa_prs r)
theorem dp_ties {K : PySem.W.Frag} {H : Hp} {t : Addr} {ps : List (Int × Int)} (h : TiesAt H t ps) : Dp K H (.ref t) (.tuple (ps.map dP)) := by
  obtain ⟨vs, h1, h2⟩ := h
  exact .tup (SqT.of h1) (dpa_prs h2)
/-! ### orders -/
def rn (n : Int) : List Int := (List.range n.toNat).map fun i : Nat => (i : Int)
theorem rg_rn (n : Int) : rgV 0 n = (rn n).map V.int := by
  unfold rgV rn
  rw [Int.sub_zero, List.map_map]
  refine List.map_congr_left fun i _ => ?_
  show V.int (0 + (i : Int)) = V.int (i : Int)
  rw [Int.zero_add]
theorem rn_len (n : Int) : (rn n).length = n.toNat := by
  unfold rn
  rw [List.length_map, List.length_range]
theorem mem_rn {n k : Int} : k ∈ rn n ↔ 0 ≤ k ∧ k < n := by
  unfold rn
  rw [List.mem_map]
  constructor
  · rintro ⟨i, hi, rfl⟩
    have := List.mem_range.mp hi
    omega
  · intro ⟨h0, h1⟩
    exact ⟨k.toNat, List.mem_range.mpr (by omega), by omega⟩
theorem rn_sorted (n : Int) : (rn n).Pairwise (· < ·) := by
  unfold rn
  refine List.pairwise_map.mpr ?_
  have q := List.pairwise_lt_range (n := n.toNat)
  exact q.imp fun {a b} h => by omega
theorem rn_get {n : Int} {i : Nat} (h : i < n.toNat) : (rn n)[i]? = some (i : Int) := by
  unfold rn
  rw [List.getElem?_map, List.getElem?_range h]
  rfl
def IsOrd (n : Int) (os : List Int) : Prop := os.Perm (rn n)
theorem ixN_of {m : Nat} {k : Int} (h0 : 0 ≤ k) (h1 : k.toNat < m) : ixN m k = some k.toNat := by
  obtain ⟨j, rfl⟩ := Int.eq_ofNat_of_zero_le h0
  rw [Int.toNat_natCast] at h1 ⊢
  exact Evl.ixN_nat h1
theorem getD_mem {ps : List (Int × Int)} {k : Nat} (h : k < ps.length) : ps.getD k (0, 0) ∈ ps := by
  rw [List.getD_eq_getElem?_getD, List.getElem?_eq_getElem h]
  exact List.getElem_mem h
theorem mn_mx {n a b : Int} (a0 : 0 ≤ a) (b0 : 0 ≤ b) (a1 : a < n) (b1 : b < n) : okP n (mn a b, mx a b) := by
  unfold okP mn mx
  by_cases h : b < a
  · rw [if_pos h, if_neg (by omega)]
    exact ⟨b0, by show b ≤ a; omega, a1⟩
  · rw [if_neg h]
    by_cases g : b > a
    · rw [if_pos g]
      exact ⟨a0, by show a ≤ b; omega, b1⟩
    · rw [if_neg g]
      exact ⟨a0, Int.le_refl _, a1⟩
theorem inR_of {n : Int} {p : Int × Int} {m : Nat} (h : okP n p) (e : m = n.toNat) : inR m p := by
  obtain ⟨h0, h1, h2⟩ := h
  unfold inR
  omega
theorem sorted_unique {a b : List Int} (ha : a.Pairwise (· < ·)) (hb : b.Pairwise (· < ·)) (h : ∀ k, k ∈ a ↔ k ∈ b) : a = b := by
  have na : a.Nodup := ha.imp fun {x y} l e => by omega
  have nb : b.Nodup := hb.imp fun {x y} l e => by omega
  exact PySem.W.ksm_same ((List.perm_ext_iff_of_nodup na nb).mpr h) (ha.imp fun l => Int.le_of_lt l) (hb.imp fun l => Int.le_of_lt l)
end K37
set_option Elab.async false
set_option linter.all false
set_option maxRecDepth 100000
set_option maxHeartbeats 4000000
/-! The hand of draws. -/
namespace K37
open PySem L2 Rl
/-- all but the object at h is as it was -/
def Kp (h : Addr) (H H' : Hp) : Prop := ∀ b o, b ≠ h → H b = some o → H' b = some o
theorem Kp.refl (h : Addr) (H : Hp) : Kp h H H := fun _ _ _ e => e
theorem Kp.trans {h : Addr} {H H1 H2 : Hp} (a : Kp h H H1) (b : Kp h H1 H2) : Kp h H H2 := fun c o n e => b c o n (a c o n e)
theorem Same.kp {h : Addr} {H H' : Hp} (e : Same H H') : Kp h H H' := fun b o _ q => e b o q
theorem Kp.upd {h : Addr} {H H' : Hp} {o : HO} (k : Kp h H H') : Kp h H (upd H' h o) := fun b u n e => by
  rw [upd_ne n]
  exact k b u n e
theorem pos_of {c : Int} (h : 0 < c) : (0 : Int) < c := h
theorem m31 {x c : Int} (h0 : 0 < c) (h1 : c ≤ 2147483647) : -(2 ^ 64) < x % c ∧ x % c < 2 ^ 64 := by
  have a := Int.emod_nonneg x (show c ≠ 0 by omega)
  have b := Int.emod_lt_of_pos x h0
  omega
structure HandAt (H : Hp) (h c : Addr) : Prop where
  ex : ∃ (cs : List Int) (i b m n : Int), H h = some (.lst [.ref c, .int i, .int b, .int m, .int n]) ∧ H c = some (.lst (cs.map V.int)) ∧ c ≠ h ∧ 0 ≤ i ∧ 0 ≤ b ∧ ∀ z ∈ cs, 0 ≤ z
theorem HandAt.same {H H' : Hp} {h c : Addr} (e : Same H H') (a : HandAt H h c) : HandAt H' h c := by
  obtain ⟨cs, i, b, m, n, h1, h2, h3⟩ := a.ex
  exact ⟨cs, i, b, m, n, e _ _ h1, e _ _ h2, h3⟩
/-- what a hand is made of, a store later -/
theorem HandAt.of {H : Hp} {h c : Addr} {cs : List Int} {i b m n : Int} (h1 : H h = some (.lst [.ref c, .int i, .int b, .int m, .int n])) (h2 : H c = some (.lst (cs.map V.int))) (h3 : c ≠ h) (h4 : 0 ≤ i) (h5 : 0 ≤ b) (h6 : ∀ z ∈ cs, 0 ≤ z) : HandAt H h c :=
  ⟨cs, i, b, m, n, h1, h2, h3, h4, h5, h6⟩
def spDraw : Sp := fun vs H Q _ => ∃ (h c : Addr) (m : Int), vs = [.ref h, .int m] ∧ 0 < m ∧ m < 1073741824 ∧ HandAt H h c ∧
  ∀ d H', 0 ≤ d → d < m → Kp h H H' → HandAt H' h c → Q (.int d) H'
theorem at_in {ns : List Int} {k : Int} (h0 : 0 ≤ k) (h1 : k < ns.length) : ∃ z ∈ ns, atI (ns.map V.int) k = some (.int z) := by
  obtain ⟨n, rfl⟩ := Int.eq_ofNat_of_zero_le h0
  have hn : n < ns.length := by omega
  refine ⟨ns[n], List.getElem_mem hn, atI_nat ?_⟩
  rw [List.getElem?_map, List.getElem?_eq_getElem hn]
  rfl
section
variable {P : Program} {w : World} {K : PySem.W.Frag} {mg : Str → Option Value} {base : Heap}
theorem ok_l_pull (T : Tx K mg) : FnOk P w K mg base CX0 1 T.f_l_pull T.d_l_pull ["urn", "many"] spDraw := by
  refine T.F_l_pull.ok sc_l_pull (fun vs H Q E h => ?_) (fun cdv A outer s H vs Q E hr h => ?_)
  · obtain ⟨h, c, m, rfl, _⟩ := h
    rfl
  obtain ⟨h, c, many, rfl, m0, m1, ⟨cs, i, b, m, n, hh, hc, nch, i0, b0, z0⟩, q⟩ := h
  refine ⟨_, (Evl.pss_cut (ps_if (PW.pt (pw_and (pt_cmpR op_eq (pe_ix ix_list (pv 0) pe_int (fun _ _ => rfl)) pe_int (nomark _)) (pw_and1 (pt_cmpR op_lt (pe_ix ix_list (pv 0) pe_int (fun _ _ => rfl)) (pe_callB call_len_seq (by rfl) T.g_len PySem.boot_len (pa_cons (pe_ix ix_list (pv 0) pe_int (fun _ _ => rfl)) pa_nil)) (nomark _)))))
      (pss_cons (ps_set (i := 2) sc_l_pull.nd rfl (.inl rfl) (pe_ix ix_seq (pe_ix ix_list (pv 0) pe_int (fun _ _ => rfl)) (pe_ix ix_list (pv 0) pe_int (fun _ _ => rfl)) (fun _ _ => rfl)))
        (pss_cons (ps_asg (pe_op op_add (pe_ix ix_list (pv 0) pe_int (fun _ _ => rfl)) pe_int) (pg_sub (pv 0) pe_int set_list))
        (pss_cons (ps_asg (pe_op op_mod (pe_callTy call_int1 (by rfl) T.g_int (by decide +kernel) (pa_cons (pe_op op_add (pe_op op_add (pe_op op_mul (pe_ix ix_list (pv 0) pe_int (fun _ _ => rfl)) pe_int) (pe_op op_mul (pv 2) pe_int)) pe_int) pa_nil)) pe_int) (pg_sub (pv 0) pe_int set_list))
        (pss_one (ps_if (pt_cmpR op_ge (pv 2) (pe_op op_pow pe_int pe_int) (nomark _))
          (pss_one (ps_asg (pv 2) (pg_sub (pv 0) pe_int set_list)))
          pss_nil)))))
      pss_nil)
    (pss_cons (ps_if (pt_cmpR op_gt (pe_ix ix_list (pv 0) pe_int (fun _ _ => rfl)) pe_int (nomark _))
      (pss_cons (ps_set (i := 3) sc_l_pull.nd rfl (.inl rfl) (pe_op op_mod (pe_callTy call_int1 (by rfl) T.g_int (by decide +kernel) (pa_cons (pe_ix ix_list (pv 0) pe_int (fun _ _ => rfl)) pa_nil)) (pv 1)))
        (pss_cons (ps_asg (pe_op op_fdiv (pe_ix ix_list (pv 0) pe_int (fun _ _ => rfl)) (pv 1)) (pg_sub (pv 0) pe_int set_list))
        (pss_one (ps_ret (pv 3)))))
      pss_nil)
    (pss_cons (ps_asg (pe_op op_add (pe_ix ix_list (pv 0) pe_int (fun _ _ => rfl)) pe_int) (pg_sub (pv 0) pe_int set_list))
    (pss_cons (ps_set (i := 4) sc_l_pull.nd rfl (.inl rfl) (pe_op op_mod (pe_callTy call_int1 (by rfl) T.g_int (by decide +kernel) (pa_cons (pe_op op_mul (pe_op op_add (pe_ix ix_list (pv 0) pe_int (fun _ _ => rfl)) (pe_op op_mul pe_int (pe_ix ix_list (pv 0) pe_int (fun _ _ => rfl)))) pe_int) pa_nil)) pe_int))
    (pss_cons (ps_set (i := 4) sc_l_pull.nd rfl (.inl rfl) (pe_op op_mod (pe_callTy call_int1 (by rfl) T.g_int (by decide +kernel) (pa_cons (pe_op op_mul (pv 4) (pe_op op_add (pe_op op_fdiv (pv 4) pe_int) pe_int)) pa_nil)) pe_int))
    (pss_cons (ps_set (i := 4) sc_l_pull.nd rfl (.inl rfl) (pe_op op_mod (pe_callTy call_int1 (by rfl) T.g_int (by decide +kernel) (pa_cons (pe_op op_mul (pv 4) (pe_op op_add (pe_op op_fdiv (pv 4) pe_int) pe_int)) pa_nil)) pe_int))
    (pss_one (ps_ret (pe_op op_mod (pe_callTy call_int1 (by rfl) T.g_int (by decide +kernel) (pa_cons (pe_op op_fdiv (pv 4) pe_int) pa_nil)) (pv 1)))))))))), ?_⟩
  refine ⟨fun σ' H' => ∃ y2, σ' = [some (.ref h), some (.int many), y2, none, none] ∧ Kp h H H' ∧ HandAt H' h c, ?_, ?_⟩
  · have a0 : HandAt H h c := .of hh hc nch i0 b0 z0
    refine ⟨_, rfl, h, _, 2, _, rfl, rfl, SqL.of hh, atI_nat (j := 2) rfl, rfl, _, rfl, ite2 (fun e => ?_) (fun e => ?_)⟩
    · refine ⟨_, rfl, h, _, 1, _, rfl, rfl, SqL.of hh, atI_nat (j := 1) rfl, _, rfl, h, _, 0, _, rfl, rfl, SqL.of hh, atI_nat (j := 0) rfl, c, _, rfl, .inl (SqL.of hc), i, _, rfl, rfl, _, rfl, ?_⟩
      refine ite2 (fun e2 => ?_) (fun e2 => ?_)
      · have lt : i < ((cs.length : Nat) : Int) := by
          have q1 := of_decide_eq_true e2
          rw [List.length_map] at q1
          exact q1
        obtain ⟨z, hz, hat⟩ := at_in i0 lt
        have zz := z0 z hz
        -- cell = ..
        refine ⟨_, rfl, h, _, 0, _, rfl, rfl, SqL.of hh, atI_nat (j := 0) rfl, _, rfl, h, _, 1, _, rfl, rfl, SqL.of hh, atI_nat (j := 1) rfl, .inl ⟨c, _, i, _, rfl, rfl, SqL.of hc, hat, ?_⟩⟩
        -- the next one's place
        refine ⟨_, rfl, h, _, 1, _, rfl, rfl, SqL.of hh, atI_nat (j := 1) rfl, i, 1, rfl, rfl, _, rfl, h, _, 1, 1, rfl, rfl, hh, rfl, ?_⟩
        -- the mix
        refine ⟨_, rfl, h, _, 3, _, rfl, rfl, SqL.of upd_same, atI_nat (j := 3) rfl, m, 131, rfl, rfl, .inr ⟨by decide, by decide⟩, _, rfl, z, 7, rfl, rfl, .inr ⟨by decide, by decide⟩, _, _, rfl, rfl, _, 5, rfl, rfl, .inl ⟨_, rfl, _, 2147483647, rfl, rfl, pos_of (by decide), ?_⟩⟩
        refine ⟨_, rfl, h, _, 3, 3, rfl, rfl, upd_same, rfl, ?_⟩
        -- a great cell
        refine ⟨_, rfl, 10, 18, rfl, rfl, ⟨by decide, by decide, by decide⟩, z, _, rfl, rfl, _, rfl, ite2 (fun e3 => ?_) (fun e3 => ?_)⟩
        · refine ⟨_, rfl, _, rfl, h, _, 2, 2, rfl, rfl, upd_same, rfl, ?_⟩
          refine ⟨_, rfl, (((Kp.refl h H).upd).upd).upd, .of upd_same ?_ nch ?_ zz z0⟩
          · rw [upd_ne nch, upd_ne nch, upd_ne nch]
            exact hc
          · omega
        · refine ⟨_, rfl, ((Kp.refl h H).upd).upd, .of upd_same ?_ nch ?_ b0 z0⟩
          · rw [upd_ne nch, upd_ne nch]
            exact hc
          · omega
      · exact ⟨_, rfl, Kp.refl h H, a0⟩
    · refine iteF ?_
      exact ⟨_, rfl, Kp.refl h H, a0⟩
  · intro σ' H1 ⟨y2, e, k1, a1⟩
    subst e
    clear hh hc nch i0 b0 z0
    obtain ⟨cs, i, b, m, n, hh, hc, nch, i0, b0, z0⟩ := a1
    refine ⟨_, rfl, h, _, 2, _, rfl, rfl, SqL.of hh, atI_nat (j := 2) rfl, b, 0, rfl, rfl, _, rfl, ite2 (fun e => ?_) (fun e => ?_)⟩
    · refine ⟨_, rfl, h, _, 2, _, rfl, rfl, SqL.of hh, atI_nat (j := 2) rfl, .inl ⟨b, rfl, _, rfl, b, many, rfl, rfl, m0, ?_⟩⟩
      refine ⟨_, rfl, h, _, 2, _, rfl, rfl, SqL.of hh, atI_nat (j := 2) rfl, _, rfl, b, many, rfl, rfl, ⟨m0, m1⟩, _, rfl, h, _, 2, 2, rfl, rfl, hh, rfl, ?_⟩
      refine ⟨_, rfl, q (b % many) _ (Int.emod_nonneg _ (by omega)) (Int.emod_lt_of_pos _ m0) k1.upd (.of upd_same ?_ nch i0 (Int.ediv_nonneg b0 (by omega)) z0)⟩
      rw [upd_ne nch]
      exact hc
    · refine ⟨_, rfl, h, _, 4, _, rfl, rfl, SqL.of hh, atI_nat (j := 4) rfl, n, 1, rfl, rfl, _, rfl, h, _, 4, 4, rfl, rfl, hh, rfl, ?_⟩
      have k2 := k1.upd (o := .lst [.ref c, .int i, .int b, .int m, .int (n + 1)])
      have a2 : HandAt (upd H1 h (.lst [.ref c, .int i, .int b, .int m, .int (n + 1)])) h c := .of upd_same (by rw [upd_ne nch]; exact hc) nch i0 b0 z0
      refine ⟨_, rfl, h, _, 3, _, rfl, rfl, SqL.of upd_same, atI_nat (j := 3) rfl, _, rfl, h, _, 4, _, rfl, rfl, SqL.of upd_same, atI_nat (j := 4) rfl, 104729, n + 1, rfl, rfl, .inl ⟨by decide, by decide⟩, m, _, rfl, rfl, _, 16807, rfl, rfl, .inr ⟨by decide, by decide⟩, .inl ⟨_, rfl, _, 2147483647, rfl, rfl, pos_of (by decide), ?_⟩⟩
      refine ⟨_, rfl, _, rfl, _, 877, rfl, rfl, ⟨by decide, by decide⟩, _, 69621, rfl, rfl, _, _, rfl, rfl, .inl (m31 (by decide) (by decide)), .inl ⟨_, rfl, _, 2147483647, rfl, rfl, pos_of (by decide), ?_⟩⟩
      refine ⟨_, rfl, _, rfl, _, 1999, rfl, rfl, ⟨by decide, by decide⟩, _, 40692, rfl, rfl, _, _, rfl, rfl, .inl (m31 (by decide) (by decide)), .inl ⟨_, rfl, _, 2147483399, rfl, rfl, pos_of (by decide), ?_⟩⟩
      refine ⟨_, rfl, _, 8, rfl, rfl, ⟨by decide, by decide⟩, .inl ⟨_, rfl, _, rfl, _, many, rfl, rfl, m0, ?_⟩⟩
      exact q _ _ (Int.emod_nonneg _ (by omega)) (Int.emod_lt_of_pos _ m0) k2 a2
/-! ### the hand, one of some -/
def spSome (K : PySem.W.Frag) : Sp := fun vs H Q _ => ∃ (h c a : Addr) (xs : List V), vs = [.ref h, .ref a] ∧ SqL K H a xs ∧ a ≠ h ∧ 0 < xs.length ∧ xs.length < 1000000 ∧ HandAt H h c ∧
  ∀ v H', v ∈ xs → Kp h H H' → HandAt H' h c → Q v H'
theorem Kp.seqL {h : Addr} {H H' : Hp} {a : Addr} {xs : List V} (k : Kp h H H') (n : a ≠ h) (e : SqL K H a xs) : SqL K H' a xs := by
  rcases e with (e | ⟨o, e⟩) | e
  · exact .inl (.inl (k _ _ n e))
  · exact .inl (.inr ⟨o, k _ _ n e⟩)
  · exact .inr e
theorem ok_l_any (T : Tx K mg) : FnOk P w K mg base CX0 2 T.f_l_any T.d_l_any ["urn", "things"] (spSome K) := by
  refine T.F_l_any.ok sc_l_any (fun vs H Q E h => ?_) (fun cdv A outer s H vs Q E hr h => ?_)
  · obtain ⟨h, c, a, xs, rfl, _⟩ := h
    rfl
  obtain ⟨h, c, a, xs, rfl, ha, nah, l0, l1, hd, q⟩ := h
  refine ⟨_, (pss_one (ps_ret (pe_ix ix_list (pv 1) (pe_call (ok_l_pull T) (hr.mono (by decide)) (by rfl) T.m_l_pull T.F_l_pull.kp T.b_l_pull .nil pass0 (pa_cons (pv 0) (pa_cons (pe_callB call_len_seq (by rfl) T.g_len PySem.boot_len (pa_cons (pv 1) pa_nil)) pa_nil))) (fun _ _ => rfl)))), ?_⟩
  refine ⟨_, rfl, _, rfl, _, rfl, a, xs, rfl, .inl ha, h, c, _, rfl, by omega, by omega, hd, fun d H' d0 d1 k hd' => ?_⟩
  obtain ⟨j, rfl⟩ := Int.eq_ofNat_of_zero_le d0
  have lj : j < xs.length := by omega
  refine ⟨a, xs, _, _, rfl, rfl, k.seqL nah ha, atI_nat (List.getElem?_eq_getElem lj), ?_⟩
  exact q _ _ (List.getElem_mem lj) k hd'
def ab (i : Int) : Int := if i < 0 then -i else i
def spHand (K : PySem.W.Frag) : Sp := fun vs H Q _ => ∃ (a : Addr) (ns : List Int), vs = [.ref a] ∧ SqL K H a (ns.map V.int) ∧ ns.length ≤ 63 ∧ ∀ h c H', H h = none → H c = none → Same H H' → HandAt H' h c → Q (.ref h) H'
theorem ok_l_urn (T : Tx K mg) : FnOk P w K mg base CX0 1 T.f_l_urn T.d_l_urn ["script"] (spHand K) := by
  refine T.F_l_urn.ok sc_l_urn (fun vs H Q E h => ?_) (fun cdv A outer s H vs Q E hr h => ?_)
  · obtain ⟨a, ns, rfl, _⟩ := h
    rfl
  obtain ⟨a, ns, rfl, ha, hl, q⟩ := h
  refine ⟨_, (pss_one (ps_ret (pe_lst (pa_cons (pe_lc (own := [("cell", 1)]) (g := (gName 1)) (tt := tYes) (te := (tCB _ (tCons (tCB _ (tCons (tVar 1) tNil)) tNil))) rfl sc_l_urn.nd (pi_list (pe_slice sl_list (pv 0) po_none (po_some pe_int))) (blkOk_by (own := [("cell", 1)]) (N := N_l_urn) (sc := defScope s_l_urn) (by decide +kernel)) (fun _ _ _ _ _ => (pg_name (i := 1) sc_l_urn.nd rfl (.inl rfl))) (fun _ _ _ _ _ => pts_nil) (fun _ _ _ _ _ => (pe_callB call_abs (by rfl) T.g_abs (by decide +kernel) (pa_cons (pe_callTy call_int1 (by rfl) T.g_int (by decide +kernel) (pa_cons (pv 1) pa_nil)) pa_nil)))) (pa_cons pe_int (pa_cons pe_int (pa_cons pe_int (pa_cons pe_int pa_nil)))))))), ?_⟩
  refine ⟨_, rfl, 63, rfl, a, _, rfl, ha, fun p np => ?_⟩
  have s1 : Same H (upd H p (.lst (cutV (ns.map V.int) none (some 63)))) := same_new np _
  have hp : (upd H p (.lst (cutV (ns.map V.int) none (some 63)))) p = some (.lst (ns.map V.int)) := by
    rw [upd_same, cut_hi _ _ (by decide), List.take_of_length_le (by rw [List.length_map]; exact hl)]
  refine ⟨p, rfl, ⟨_, SqL.of hp⟩, fun D nD => lc_list (xs := ns.map V.int) (fun i H' => Same H H' ∧ H' p = some (.lst (ns.map V.int)) ∧ H' D = some (.lst (((ns.take i).map ab).map V.int))) ?_ (fun i H' _ ⟨_, hp', _⟩ => SqL.of hp') ?_ ?_⟩
  · exact ⟨s1.trans (same_new nD _), same_new nD _ _ _ hp, upd_same⟩
  · intro i y H' hi ⟨sm, hp', hD⟩
    have li : i < ns.length := by
      have q1 := (List.getElem?_eq_some_iff.mp hi).1
      rw [List.length_map] at q1
      exact q1
    have ey : y = .int ns[i] := by
      rw [List.getElem?_map, List.getElem?_eq_getElem li] at hi
      exact (Option.some.inj hi).symm
    subst ey
    refine ⟨rfl, ?_⟩
    refine ⟨_, rfl, .inl ⟨_, rfl, _, rfl, _, hD, small1000 ?_, fun b o hb => ?_, ?_, ?_⟩⟩
    · rw [List.length_map, List.length_map, List.length_take]
      omega
    · rw [upd_ne (ne_of_none hb (s1.free nD))]
      exact sm _ _ hb
    · rw [upd_ne (ne_of_none hp nD)]
      exact hp'
    · rw [upd_same, List.take_add_one, List.getElem?_eq_getElem li, List.map_append, List.map_append]
      rfl
  · intro H' ⟨sm, hp', hD⟩
    rw [List.length_map, List.take_of_length_le (Nat.le_refl _)] at hD
    have nDn : H D = none := s1.free nD
    refine ⟨(by show 5 ≤ sizeLine; decide), fun h nh => ?_⟩
    have nDh : D ≠ h := ne_of_none hD nh
    refine q h D _ (sm.free nh) nDn (sm.trans (same_new nh _)) (.of (c := D) (cs := ns.map ab) upd_same (by rw [upd_ne nDh]; exact hD) nDh (by decide) (by decide) fun z hz => ?_)
    obtain ⟨y, _, ez⟩ := List.mem_map.mp hz
    rw [← ez]
    unfold ab
    split <;> omega
end
end K37
set_option Elab.async false
set_option linter.all false
set_option maxRecDepth 100000
set_option maxHeartbeats 4000000
/-! The mathematics of signings. -/
namespace K37
open PySem L2 Rl
def ar (p : Int × Int) (b : Bool) : Int × Int := if b = true then p else (p.2, p.1)
def ars (ps : List (Int × Int)) (s : List Bool) : List (Int × Int) := List.zipWith ar ps s
def inT (k : Int) (p : Int × Int) : Bool := decide (k ∈ [p.1, p.2])
def trn (ps : List (Int × Int)) (s : List Bool) (k : Int) : List Bool := List.zipWith (fun p b => b != inT k p) ps s
def tos (ps : List (Int × Int)) (s : List Bool) : List Int := (ars ps s).map fun q => q.2
def srcL (n : Int) (ps : List (Int × Int)) (s : List Bool) : List Int := (rn n).filter fun k => !decide (k ∈ tos ps s)
def okS (n : Int) (p : Int × Int) : Prop := 0 ≤ p.1 ∧ p.1 < p.2 ∧ p.2 < n
def Ranked (ps : List (Int × Int)) (s : List Bool) (r : Int → Int) : Prop := ∀ q ∈ ars ps s, r q.1 < r q.2
def Acy (ps : List (Int × Int)) (s : List Bool) : Prop := ∃ (r : Int → Int) (B : Int), (∀ x, r x < B) ∧ Ranked ps s r
def Src (ps : List (Int × Int)) (s : List Bool) (k : Int) : Prop := ∀ q ∈ ars ps s, q.2 ≠ k
theorem inT_iff {k : Int} {p : Int × Int} : inT k p = true ↔ k = p.1 ∨ k = p.2 := by
  unfold inT
  rw [decide_eq_true_eq]
  simp
theorem okS.ok {n : Int} {p : Int × Int} (h : okS n p) : okP n p := ⟨h.1, Int.le_of_lt h.2.1, h.2.2⟩
theorem ars_len {ps : List (Int × Int)} {s : List Bool} (h : s.length = ps.length) : (ars ps s).length = ps.length := by
  unfold ars
  rw [List.length_zipWith, h, Nat.min_self]
theorem trn_len {ps : List (Int × Int)} {s : List Bool} {k : Int} (h : s.length = ps.length) : (trn ps s k).length = ps.length := by
  unfold trn
  rw [List.length_zipWith, h, Nat.min_self]
theorem ars_get {ps : List (Int × Int)} {s : List Bool} {i : Nat} {p : Int × Int} {b : Bool} (hp : ps[i]? = some p) (hb : s[i]? = some b) : (ars ps s)[i]? = some (ar p b) := by
  unfold ars
  rw [List.getElem?_zipWith, hp, hb]
theorem trn_get {ps : List (Int × Int)} {s : List Bool} {k : Int} {i : Nat} {p : Int × Int} {b : Bool} (hp : ps[i]? = some p) (hb : s[i]? = some b) : (trn ps s k)[i]? = some (b != inT k p) := by
  unfold trn
  rw [List.getElem?_zipWith, hp, hb]
theorem ars_mem {ps : List (Int × Int)} {s : List Bool} {q : Int × Int} (h : q ∈ ars ps s) : ∃ (i : Nat) (p : Int × Int) (b : Bool), ps[i]? = some p ∧ s[i]? = some b ∧ q = ar p b := by
  obtain ⟨i, hi⟩ := List.mem_iff_getElem?.mp h
  unfold ars at hi
  rw [List.getElem?_zipWith] at hi
  cases hp : ps[i]? with
  | none => rw [hp] at hi; cases hi
  | some p =>
    cases hb : s[i]? with
    | none => rw [hp, hb] at hi; cases hi
    | some b =>
      rw [hp, hb] at hi
      exact ⟨i, p, b, hp, hb, (Option.some.inj hi).symm⟩
theorem ars_in {ps : List (Int × Int)} {s : List Bool} {i : Nat} {p : Int × Int} {b : Bool} (hp : ps[i]? = some p) (hb : s[i]? = some b) : ar p b ∈ ars ps s := List.mem_of_getElem? (ars_get hp hb)
theorem trn_mem {ps : List (Int × Int)} {s : List Bool} {k : Int} {q : Int × Int} (h : q ∈ ars ps (trn ps s k)) : ∃ (i : Nat) (p : Int × Int) (b : Bool), ps[i]? = some p ∧ s[i]? = some b ∧ q = ar p (b != inT k p) := by
  obtain ⟨i, p, c, hp, hc, e⟩ := ars_mem h
  unfold trn at hc
  rw [List.getElem?_zipWith, hp] at hc
  cases hb : s[i]? with
  | none => rw [hb] at hc; cases hc
  | some b =>
    rw [hb] at hc
    exact ⟨i, p, b, hp, hb, by rw [e, ← Option.some.inj hc]⟩
theorem ar_swap {p : Int × Int} {b : Bool} : ar p (!b) = ((ar p b).2, (ar p b).1) := by
  cases b <;> rfl
theorem ar_in {p : Int × Int} {b : Bool} {k : Int} (h : inT k p = true) : (ar p b).1 = k ∨ (ar p b).2 = k := by
  rcases inT_iff.mp h with e | e
  · cases b
    · exact .inr e.symm
    · exact .inl e.symm
  · cases b
    · exact .inl e.symm
    · exact .inr e.symm
theorem ar_out {p : Int × Int} {b : Bool} {k : Int} (h : inT k p = false) : (ar p b).1 ≠ k ∧ (ar p b).2 ≠ k := by
  have g : ¬ (k = p.1 ∨ k = p.2) := fun z => by
    rw [inT_iff.mpr z] at h
    cases h
  cases b
  · exact ⟨fun e => g (.inr e.symm), fun e => g (.inl e.symm)⟩
  · exact ⟨fun e => g (.inl e.symm), fun e => g (.inr e.symm)⟩
theorem ar_rng {n : Int} {p : Int × Int} {b : Bool} (h : okS n p) : (0 ≤ (ar p b).1 ∧ (ar p b).1 < n) ∧ 0 ≤ (ar p b).2 ∧ (ar p b).2 < n := by
  obtain ⟨h0, h1, h2⟩ := h
  cases b
  · show (0 ≤ p.2 ∧ p.2 < n) ∧ 0 ≤ p.1 ∧ p.1 < n
    omega
  · show (0 ≤ p.1 ∧ p.1 < n) ∧ 0 ≤ p.2 ∧ p.2 < n
    omega
theorem src_iff {ps : List (Int × Int)} {s : List Bool} {k : Int} : Src ps s k ↔ k ∉ tos ps s := by
  unfold Src tos
  rw [List.mem_map]
  exact ⟨fun h ⟨q, hq, e⟩ => h q hq e, fun h q hq e => h ⟨q, hq, e⟩⟩
theorem srcL_mem {n : Int} {ps : List (Int × Int)} {s : List Bool} {k : Int} : k ∈ srcL n ps s ↔ (0 ≤ k ∧ k < n) ∧ Src ps s k := by
  unfold srcL
  rw [List.mem_filter, mem_rn, src_iff]
  simp
/-- a source turned: the rank of its place is the greatest then -/
def up (r : Int → Int) (B k : Int) : Int → Int := fun x => if x = k then B else r x
theorem up_lt {r : Int → Int} {B k : Int} (h : ∀ x, r x < B) : ∀ x, up r B k x < B + 1 := fun x => by
  unfold up
  have := h x
  split <;> omega
theorem ranked_trn {ps : List (Int × Int)} {s : List Bool} {r : Int → Int} {B k : Int} (hB : ∀ x, r x < B) (hr : Ranked ps s r) (hs : Src ps s k) : Ranked ps (trn ps s k) (up r B k) := fun q hq => by
  obtain ⟨i, p, b, hp, hb, e⟩ := trn_mem hq
  have old := hr _ (ars_in hp hb)
  have no := hs _ (ars_in hp hb)
  cases c : inT k p with
  | true =>
    rw [c] at e
    have e2 : q = ((ar p b).2, (ar p b).1) := by
      rw [e, ← ar_swap]
      cases b <;> rfl
    rcases ar_in (b := b) c with g | g
    · subst e2
      unfold up
      show (if (ar p b).2 = k then B else r (ar p b).2) < (if (ar p b).1 = k then B else r (ar p b).1)
      rw [if_neg no, if_pos g]
      exact hB _
    · exact absurd g no
  | false =>
    rw [c] at e
    have e2 : q = ar p b := by
      rw [e]
      cases b <;> rfl
    subst e2
    obtain ⟨g1, g2⟩ := ar_out (b := b) c
    unfold up
    rw [if_neg g1, if_neg g2]
    exact old
theorem acy_trn {ps : List (Int × Int)} {s : List Bool} {k : Int} (h : Acy ps s) (hs : Src ps s k) : Acy ps (trn ps s k) := by
  obtain ⟨r, B, hB, hr⟩ := h
  exact ⟨up r B k, B + 1, up_lt hB, ranked_trn hB hr hs⟩
theorem min_ex (r : Int → Int) : ∀ {L : List Int}, L ≠ [] → ∃ k ∈ L, ∀ x ∈ L, r k ≤ r x
  | [], h => absurd rfl h
  | [a], _ => ⟨a, List.mem_singleton.mpr rfl, fun x hx => by rw [List.mem_singleton.mp hx]; exact Int.le_refl _⟩
  | a :: c :: t, _ => by
    obtain ⟨k, hk, hm⟩ := min_ex r (L := c :: t) (List.cons_ne_nil _ _)
    by_cases g : r a ≤ r k
    · refine ⟨a, List.mem_cons_self, fun x hx => ?_⟩
      rcases List.mem_cons.mp hx with e | e
      · rw [e]
        exact Int.le_refl _
      · exact Int.le_trans g (hm x e)
    · refine ⟨k, List.mem_cons_of_mem _ hk, fun x hx => ?_⟩
      rcases List.mem_cons.mp hx with e | e
      · rw [e]
        omega
      · exact hm x e
/-- the least of those that rank below all others is a source -/
theorem src_least {n : Int} {ps : List (Int × Int)} {s : List Bool} {r : Int → Int} {L : List Int} (hp : ∀ p ∈ ps, okS n p) (hr : Ranked ps s r) (hL : L ≠ []) (hlow : ∀ x ∈ L, ∀ y, 0 ≤ y → y < n → y ∉ L → r x < r y) : ∃ k ∈ L, Src ps s k := by
  obtain ⟨k, hk, hm⟩ := min_ex r hL
  refine ⟨k, hk, fun q hq e => ?_⟩
  obtain ⟨i, p, b, hp', hb, eq⟩ := ars_mem hq
  have old := hr q hq
  have rg := ar_rng (b := b) (hp p (List.mem_of_getElem? hp'))
  rw [← eq] at rg
  rw [e] at old
  by_cases c : q.1 ∈ L
  · have := hm _ c
    omega
  · have := hlow k hk q.1 rg.1.1 rg.1.2 c
    omega
theorem src_ex {n : Int} {ps : List (Int × Int)} {s : List Bool} (n1 : 1 ≤ n) (hp : ∀ p ∈ ps, okS n p) (h : Acy ps s) : srcL n ps s ≠ [] := by
  obtain ⟨r, B, hB, hr⟩ := h
  have ne : rn n ≠ [] := fun e => by
    have := rn_len n
    rw [e] at this
    have : (0 : Nat) = n.toNat := this
    omega
  obtain ⟨k, hk, hs⟩ := src_least hp hr ne fun x _ y y0 y1 c => absurd (mem_rn.mpr ⟨y0, y1⟩) c
  intro e
  have : k ∈ srcL n ps s := srcL_mem.mpr ⟨mem_rn.mp hk, hs⟩
  rw [e] at this
  cases this
/-! ### places struck -/
def kp (G : List (Int × Int)) (L : List Int) : List Int := L.filter fun k => G.any fun q => decide (q.1 ∈ L) && decide (q.2 = k)
theorem kp_le (G : List (Int × Int)) (L : List Int) : (kp G L).length ≤ L.length := List.length_filter_le ..
theorem kp_lt {ps : List (Int × Int)} {s : List Bool} {L : List Int} (h : Acy ps s) (hL : L ≠ []) : (kp (ars ps s) L).length < L.length := by
  obtain ⟨r, B, hB, hr⟩ := h
  obtain ⟨k, hk, hm⟩ := min_ex r hL
  refine List.length_filter_lt_length_iff_exists.mpr ⟨k, hk, fun z => ?_⟩
  obtain ⟨q, hq, e⟩ := List.any_eq_true.mp z
  obtain ⟨e1, e2⟩ := Bool.and_eq_true_iff.mp e
  have e1 := of_decide_eq_true e1
  have e2 := of_decide_eq_true e2
  have a := hm _ e1
  have b := hr q hq
  rw [e2] at b
  omega
theorem kp_nil (G : List (Int × Int)) : kp G [] = [] := rfl
/-! ### turned and not a source -/
theorem trn_src {n : Int} {ps : List (Int × Int)} {s : List Bool} {k : Int} (hl : s.length = ps.length) (hp : ∀ p ∈ ps, okS n p) (hs : Src ps s k) : Src ps (trn ps s k) k ↔ ∀ p ∈ ps, inT k p = false := by
  constructor
  · intro h p hp'
    obtain ⟨i, hi, e⟩ := List.mem_iff_getElem.mp hp'
    have g1 : ps[i]? = some p := by rw [List.getElem?_eq_getElem hi, e]
    have li : i < s.length := by omega
    have g2 : s[i]? = some s[i] := List.getElem?_eq_getElem li
    cases c : inT k p with
    | false => rfl
    | true =>
      have a := h _ (ars_in g1 (trn_get (k := k) g1 g2))
      have b := hs _ (ars_in g1 g2)
      rw [c] at a
      have e2 : ar p (s[i] != true) = ((ar p s[i]).2, (ar p s[i]).1) := by
        rw [← ar_swap]
        cases s[i] <;> rfl
      rw [e2] at a
      rcases ar_in (b := s[i]) c with g | g
      · exact absurd g a
      · exact absurd g b
  · intro h q hq e
    obtain ⟨i, p, b, hp', hb, eq⟩ := trn_mem hq
    have c := h p (List.mem_of_getElem? hp')
    have g := ar_out (b := b != inT k p) c
    rw [← eq] at g
    exact g.2 e
/-! ### each place turned once -/
def sg (ps : List (Int × Int)) (s : List Bool) (L : List Int) : List Bool := List.zipWith (fun p b => ((b != !decide (p.1 ∈ L)) != !decide (p.2 ∈ L))) ps s
theorem sg_len {ps : List (Int × Int)} {s : List Bool} {L : List Int} (h : s.length = ps.length) : (sg ps s L).length = ps.length := by
  unfold sg
  rw [List.length_zipWith, h, Nat.min_self]
theorem sg_full : ∀ {ps : List (Int × Int)} {s : List Bool} {L : List Int}, s.length = ps.length → (∀ p ∈ ps, p.1 ∈ L ∧ p.2 ∈ L) → sg ps s L = s
  | [], [], _, _, _ => rfl
  | [], _ :: _, _, h, _ => by cases h
  | _ :: _, [], _, h, _ => by cases h
  | p :: ps, b :: s, L, h, hp => by
    have ih := sg_full (ps := ps) (s := s) (L := L) (Nat.succ.inj h) fun q hq => hp q (List.mem_cons_of_mem _ hq)
    obtain ⟨h1, h2⟩ := hp p List.mem_cons_self
    unfold sg at ih ⊢
    rw [List.zipWith_cons_cons, ih, decide_eq_true h1, decide_eq_true h2]
    cases b <;> rfl
theorem sg_nil : ∀ {ps : List (Int × Int)} {s : List Bool}, s.length = ps.length → sg ps s [] = s
  | [], [], _ => rfl
  | [], _ :: _, h => by cases h
  | _ :: _, [], h => by cases h
  | p :: ps, b :: s, h => by
    have ih := sg_nil (ps := ps) (s := s) (Nat.succ.inj h)
    unfold sg at ih ⊢
    rw [List.zipWith_cons_cons, ih, decide_eq_false (List.not_mem_nil (a := p.1)), decide_eq_false (List.not_mem_nil (a := p.2))]
    cases b <;> rfl
theorem sg_one {k a c : Int} {L L' : List Int} (hk : k ∈ L) (hm : ∀ x, x ∈ L' ↔ x ∈ L ∧ x ≠ k) (hac : a < c) (b : Bool) :
    (((b != !decide (a ∈ L)) != !decide (c ∈ L)) != inT k (a, c)) = ((b != !decide (a ∈ L')) != !decide (c ∈ L')) := by
  have e1 : decide (a ∈ L') = (decide (a ∈ L) && !decide (a = k)) := by
    rw [Bool.eq_iff_iff, decide_eq_true_eq, hm a]
    simp
  have e2 : decide (c ∈ L') = (decide (c ∈ L) && !decide (c = k)) := by
    rw [Bool.eq_iff_iff, decide_eq_true_eq, hm c]
    simp
  have e3 : inT k (a, c) = (decide (a = k) || decide (c = k)) := by
    rw [Bool.eq_iff_iff, inT_iff, Bool.or_eq_true, decide_eq_true_eq, decide_eq_true_eq]
    exact ⟨fun h => h.imp Eq.symm Eq.symm, fun h => h.imp Eq.symm Eq.symm⟩
  rw [e1, e2, e3]
  by_cases h1 : a = k
  · have h2 : ¬ c = k := by omega
    have h3 : a ∈ L := by rw [h1]; exact hk
    rw [decide_eq_true h1, decide_eq_false h2, decide_eq_true h3]
    cases b <;> cases decide (c ∈ L) <;> rfl
  · by_cases h2 : c = k
    · have h3 : c ∈ L := by rw [h2]; exact hk
      rw [decide_eq_false h1, decide_eq_true h2, decide_eq_true h3]
      cases b <;> cases decide (a ∈ L) <;> rfl
    · rw [decide_eq_false h1, decide_eq_false h2]
      cases b <;> cases decide (a ∈ L) <;> cases decide (c ∈ L) <;> rfl
theorem sg_trn {n : Int} {k : Int} {L L' : List Int} (hk : k ∈ L) (hm : ∀ x, x ∈ L' ↔ x ∈ L ∧ x ≠ k) : ∀ {ps : List (Int × Int)} {s : List Bool}, s.length = ps.length → (∀ p ∈ ps, okS n p) → trn ps (sg ps s L) k = sg ps s L'
  | [], [], _, _ => rfl
  | [], _ :: _, h, _ => by cases h
  | _ :: _, [], h, _ => by cases h
  | p :: ps, b :: s, h, hp => by
    have ih := sg_trn (ps := ps) (s := s) hk hm (Nat.succ.inj h) fun q hq => hp q (List.mem_cons_of_mem _ hq)
    have op := hp p List.mem_cons_self
    unfold sg trn at ih ⊢
    rw [List.zipWith_cons_cons, List.zipWith_cons_cons, List.zipWith_cons_cons, ih]
    congr 1
    exact sg_one hk hm op.2.1 b
def Runs (n : Int) (ps : List (Int × Int)) : List Bool → List Int → List Bool → Prop
  | s, [], t => s = t
  | s, k :: r, t => Acy ps s ∧ (0 ≤ k ∧ k < n) ∧ Src ps s k ∧ Runs n ps (trn ps s k) r t
theorem Runs.snoc {n : Int} {ps : List (Int × Int)} {k : Int} {t : List Bool} : ∀ {r : List Int} {s : List Bool}, Runs n ps s r t → Acy ps t → (0 ≤ k ∧ k < n) → Src ps t k → Runs n ps s (r ++ [k]) (trn ps t k)
  | [], s, h, h1, h2, h3 => by
    have e : s = t := h
    subst e
    exact ⟨h1, h2, h3, rfl⟩
  | _ :: r, s, ⟨a, b, c, d⟩, h1, h2, h3 => ⟨a, b, c, Runs.snoc (r := r) d h1 h2 h3⟩
theorem acy_order {ps : List (Int × Int)} {os : List Int} (h : ∀ p ∈ ps, p.1 ∈ os ∧ p.2 ∈ os ∧ p.1 ≠ p.2) : Acy ps (ps.map fun p => decide (os.idxOf p.1 < os.idxOf p.2)) := by
  refine ⟨fun x => (os.idxOf x : Int), (os.length : Int) + 1, fun x => ?_, fun q hq => ?_⟩
  · have := List.idxOf_le_length (a := x) (l := os)
    show (os.idxOf x : Int) < (os.length : Int) + 1
    omega
  · obtain ⟨i, p, b, hp, hb, e⟩ := ars_mem hq
    rw [List.getElem?_map, hp] at hb
    have eb : decide (os.idxOf p.1 < os.idxOf p.2) = b := Option.some.inj hb
    obtain ⟨m1, m2, ne⟩ := h p (List.mem_of_getElem? hp)
    subst e
    by_cases c : os.idxOf p.1 < os.idxOf p.2
    · rw [decide_eq_true c] at eb
      subst eb
      show (os.idxOf p.1 : Int) < (os.idxOf p.2 : Int)
      omega
    · rw [decide_eq_false c] at eb
      subst eb
      show (os.idxOf p.2 : Int) < (os.idxOf p.1 : Int)
      have : os.idxOf p.1 ≠ os.idxOf p.2 := fun e => ne (by
        have l1 := List.idxOf_lt_length_iff.mpr m1
        have l2 := List.idxOf_lt_length_iff.mpr m2
        rw [← List.getElem_idxOf l1, ← List.getElem_idxOf l2]
        simp only [e])
      omega
/-! ### data of flags -/
def bV (s : List Bool) : List V := s.map V.bl
theorem bV_len (s : List Bool) : (bV s).length = s.length := List.length_map _
theorem bV_get {s : List Bool} {i : Nat} {v : V} (h : (bV s)[i]? = some v) : ∃ b, s[i]? = some b ∧ v = .bl b := by
  unfold bV at h
  rw [List.getElem?_map] at h
  cases e : s[i]? with
  | none => rw [e] at h; cases h
  | some b =>
    rw [e] at h
    exact ⟨b, rfl, (Option.some.inj h).symm⟩
theorem can_bools : ∀ s : List Bool, PyData.canLayAll0 (s.map PyData.bool) = true
  | [] => by simp [PyData.canLayAll0]
  | b :: r => by
    have ih := can_bools r
    rw [List.map_cons]
    simp only [PyData.canLayAll0, PyData.canLay0, Bool.true_and]
    exact ih
theorem dep_bools : ∀ s : List Bool, PyData.depthAll (s.map PyData.bool) = 0
  | [] => by simp [PyData.depthAll]
  | b :: r => by
    have ih := dep_bools r
    rw [List.map_cons]
    simp only [PyData.depthAll, PyData.depth]
    rw [ih]
    rfl
theorem shp_bools (s : List Bool) : SeqAt.shaped (.tuple (s.map PyData.bool)) = true := shp_of
  (by simp only [PyData.canLay0]; exact can_bools s) (by simp only [PyData.depth]; rw [dep_bools]; decide)
theorem dpa_bools {K : PySem.W.Frag} {H : Hp} : ∀ s : List Bool, DpAll K H (bV s) (s.map PyData.bool)
  | [] => .nil
  | b :: r => .cons (.bl b) (dpa_bools r)
theorem dp_bools {K : PySem.W.Frag} {H : Hp} {a : Addr} {s : List Bool} (h : H a = some (.tup (bV s))) : Dp K H (.ref a) (.tuple (s.map PyData.bool)) := .tup (SqT.of h) (dpa_bools s)
theorem eqv_lists {a b : List Int} (h : a.length ≠ b.length) : PyData.eqv (.list (dI a)) (.list (dI b)) = false := by
  have go : ∀ a b : List Int, a.length ≠ b.length → PyData.eqvAll (dI a) (dI b) = false := by
    intro a
    induction a with
    | nil =>
      intro b h
      cases b with
      | nil => exact absurd rfl h
      | cons y r => unfold dI; rw [List.map_nil, List.map_cons]; simp only [PyData.eqvAll]
    | cons x r ih =>
      intro b h
      cases b with
      | nil => unfold dI; rw [List.map_nil, List.map_cons]; simp only [PyData.eqvAll]
      | cons y t =>
        have := ih t fun e => h (by rw [List.length_cons, List.length_cons, e])
        unfold dI at this ⊢
        rw [List.map_cons, List.map_cons]
        simp only [PyData.eqvAll]
        rw [this, Bool.and_false]
  simp only [PyData.eqv]
  exact go a b h
theorem bne_bl (a b : Bool) : (!decide (V.bl a = V.bl b)) = (a != b) := by
  cases a <;> cases b <;> rfl
theorem in_ints {k : Int} {gs : List Int} : inV (.int k) (gs.map V.int) = decide (k ∈ gs) := by
  unfold inV
  rw [List.any_map]
  by_cases h : k ∈ gs
  · rw [decide_eq_true h]
    exact List.any_eq_true.mpr ⟨k, h, beq_self_eq_true k⟩
  · rw [decide_eq_false h]
    refine List.any_eq_false.mpr fun z hz e => h ?_
    have e' : z = k := eq_of_beq e
    exact e' ▸ hz
theorem flat_is : ∀ gs : List Int, (gs.map V.int).all flatV = true
  | [] => rfl
  | _ :: r => by
    rw [List.map_cons, List.all_cons, flat_is r]
    rfl
end K37
set_option Elab.async false
set_option linter.all false
set_option maxRecDepth 100000
set_option maxHeartbeats 4000000
/-! Signings, as the program reads them. -/
namespace K37
open PySem L2 Rl
/-- a comprehension over zip of two tuples of one length -/
theorem lc_zipT {K : PySem.W.Frag} {a b : Addr} {xs ys : List V} {g : TG} {tt : TT} {te : TE} {vs : List Nat} {σ : L2.St} {H1 : Hp} {D : Addr} {Qd : Hp → Prop} (hlen : xs.length = ys.length) (Pv : Nat → Hp → Prop) (h0 : Pv 0 (L2.upd H1 D (.lst [])))
    (hl : ∀ i H, Pv i H → SqT K H a xs ∧ SqT K H b ys)
    (hs : ∀ (i : Nat) (x y : V) (T : Addr) (H : Hp), xs[i]? = some x → ys[i]? = some y → Pv i H → H T = none → g (.ref T) (wipe σ vs) (L2.upd H T (.tup [x, y])) fun σ2 H2 => wipe σ2 vs = wipe σ vs ∧ tt σ2 H2 fun b H3 =>
      if b = true then te σ2 H3 fun y H4 => ∃ acc, H4 D = some (.lst acc) ∧ acc.length < sizeLine ∧ Pv (i + 1) (L2.upd H4 D (.lst (acc ++ [y]))) else Pv (i + 1) H3) (hd : ∀ H, Pv xs.length H → Qd H) :
    ∃ W : Nat → Nat → Hp → Prop, (∃ m, W 0 m (L2.upd H1 D (.lst []))) ∧ ∀ i m H, W i m H →
      ((RZ.ItzT K a b).stop i H ∧ Qd H) ∨ ((RZ.ItzT K a b).go i H ∧ ∃ Nx : Hp → Prop, (∀ H', Nx H' → ∃ m', m' < m ∧ W (i + 1) m' H') ∧ ∀ x H', (RZ.ItzT K a b).yld i H x H' → g x (wipe σ vs) H' fun σ2 H2 => wipe σ2 vs = wipe σ vs ∧ tt σ2 H2 fun b H3 =>
        if b = true then te σ2 H3 fun y H4 => ∃ acc, H4 D = some (.lst acc) ∧ acc.length < sizeLine ∧ Nx (L2.upd H4 D (.lst (acc ++ [y]))) else Nx H3) := by
  refine ⟨fun i m H => m = xs.length - i ∧ i ≤ xs.length ∧ Pv i H, ⟨xs.length, rfl, Nat.zero_le _, h0⟩, ?_⟩
  rintro i m H ⟨rfl, hi, p⟩
  obtain ⟨qx, qy⟩ := hl i H p
  by_cases hlt : i < xs.length
  · have hlt2 : i < ys.length := by omega
    refine .inr ⟨⟨xs, ys, _, _, qx, qy, List.getElem?_eq_getElem hlt, List.getElem?_eq_getElem hlt2⟩, Pv (i + 1), fun H' p' => ⟨xs.length - (i + 1), by omega, rfl, hlt, p'⟩, fun v H' y => ?_⟩
    obtain ⟨T, x', y', rfl, hT, rfl, f1, f2⟩ := y
    exact hs i x' y' T H (f1 xs qx) (f2 ys qy) p hT
  · have e : i = xs.length := by omega
    subst e
    exact .inl ⟨⟨xs, ys, qx, qy, .inl (Nat.le_refl _)⟩, hd H p⟩
def SgAt (H : Hp) (a : Addr) (s : List Bool) : Prop := H a = some (.tup (bV s))
theorem SgAt.same {H H' : Hp} {a : Addr} {s : List Bool} (e : Same H H') (h : SgAt H a s) : SgAt H' a s := e _ _ h
theorem PrsAt.snoc {H : Hp} {vs : List V} {ps : List (Int × Int)} {S : Addr} {p : Int × Int} (h : PrsAt H vs ps) (hS : H S = some (.tup [.int p.1, .int p.2])) : PrsAt H (vs ++ [.ref S]) (ps ++ [p]) := h.app (.cons ⟨S, rfl, hS⟩ .nil)
theorem take_snoc {α : Type} {l : List α} {i : Nat} {x : α} (h : l[i]? = some x) : l.take (i + 1) = l.take i ++ [x] := by
  rw [List.take_add_one, h]
  rfl
theorem mint {l : List Int} {i : Nat} {y : V} (h : (l.map V.int)[i]? = some y) : ∃ k, l[i]? = some k ∧ y = .int k := by
  rw [List.getElem?_map] at h
  cases e : l[i]? with
  | none => rw [e] at h; cases h
  | some k =>
    rw [e] at h
    exact ⟨k, rfl, (Option.some.inj h).symm⟩
/-- what a web and a signing of it are -/
structure Sgn (C : Addr) (H : Hp) (x a : Addr) (n : Int) (ps : List (Int × Int)) (s : List Bool) : Prop where
  w : WebAt C H x n ps
  g : SgAt H a s
  l : s.length = ps.length
  l16 : ps.length ≤ 16
  n0 : 1 ≤ n
  n1 : n ≤ 10
  ok : ∀ p ∈ ps, okS n p
theorem Sgn.same {C : Addr} {H H' : Hp} {x a : Addr} {n : Int} {ps : List (Int × Int)} {s : List Bool} (e : Same H H') (h : Sgn C H x a n ps s) : Sgn C H' x a n ps s :=
  ⟨h.w.same e, h.g.same e, h.l, h.l16, h.n0, h.n1, h.ok⟩
def spSgn (C : Addr) : Sp := fun vs H Q _ => ∃ (x a : Addr) (n : Int) (ps : List (Int × Int)) (s : List Bool), vs = [.ref x, .ref a] ∧ Sgn C H x a n ps s ∧ ∀ H', Same H H' → Q (.bl true) H'
def spFlags : Sp := fun vs H Q _ => ∃ (a : Addr) (s : List Bool), vs = [.ref a] ∧ H a = some (.tup (bV s)) ∧ s.length ≤ 16 ∧ ∀ H', Same H H' → Q (.bl true) H'
def spGo (C : Addr) : Sp := fun vs H Q _ => ∃ (x a : Addr) (n : Int) (ps : List (Int × Int)) (s : List Bool), vs = [.ref x, .ref a] ∧ Sgn C H x a n ps s ∧
  ∀ L us H', H L = none → Same H H' → H' L = some (.lst us) → PrsAt H' us (ars ps s) → Q (.ref L) H'
def spNever : Sp := fun vs H Q _ => ∃ (G : Addr) (us : List V) (n : Int) (ps : List (Int × Int)) (s : List Bool), vs = [.int n, .ref G] ∧ H G = some (.lst us) ∧ PrsAt H us (ars ps s) ∧ Acy ps s ∧ 0 ≤ n ∧ n ≤ 10 ∧ us.length ≤ 16 ∧
  ∀ L H', Same H H' → H' L = some (.lst []) → Q (.ref L) H'
def spRound (C : Addr) : Sp := fun vs H Q _ => ∃ (x a : Addr) (n : Int) (ps : List (Int × Int)) (s : List Bool), vs = [.ref x, .ref a] ∧ Sgn C H x a n ps s ∧ Acy ps s ∧ ∀ H', Same H H' → Q .non H'
def spRising (C : Addr) : Sp := fun vs H Q _ => ∃ (x a : Addr) (n : Int) (ps : List (Int × Int)) (s : List Bool), vs = [.ref x, .ref a] ∧ Sgn C H x a n ps s ∧ Acy ps s ∧ ∀ H', Same H H' → Q (.bl true) H'
def spSources (C : Addr) : Sp := fun vs H Q _ => ∃ (x a : Addr) (n : Int) (ps : List (Int × Int)) (s : List Bool), vs = [.ref x, .ref a] ∧ Sgn C H x a n ps s ∧ ∀ t H', Same H H' → H' t = some (.tup ((srcL n ps s).map V.int)) → Q (.ref t) H'
def spIsSource (C : Addr) : Sp := fun vs H Q _ => ∃ (x a : Addr) (n k : Int) (ps : List (Int × Int)) (s : List Bool), vs = [.ref x, .ref a, .int k] ∧ Sgn C H x a n ps s ∧ 0 ≤ k ∧ k < n ∧ Src ps s k ∧ ∀ H', Same H H' → Q (.bl true) H'
def spBehind (C : Addr) : Sp := fun vs H Q _ => ∃ (x a : Addr) (n k : Int) (ps : List (Int × Int)) (s : List Bool), vs = [.ref x, .ref a, .int k] ∧ Sgn C H x a n ps s ∧ ∀ t H', Same H H' → SgAt H' t (trn ps s k) → Q (.ref t) H'
def spTurned (C : Addr) : Sp := fun vs H Q _ => ∃ (x a : Addr) (n k : Int) (ps : List (Int × Int)) (s : List Bool), vs = [.ref x, .ref a, .int k] ∧ Sgn C H x a n ps s ∧ Acy ps s ∧ 0 ≤ k ∧ k < n ∧ Src ps s k ∧ ∀ t H', Same H H' → SgAt H' t (trn ps s k) → Q (.ref t) H'
def spNo : Sp := fun _ _ _ _ => False
section
variable {P : Program} {w : World} {K : PySem.W.Frag} {mg : Str → Option Value} {base : Heap}
theorem ok_round_behind (T : Tx K mg) : FnOk P w K mg base CX0 0 T.f_round_behind T.d_round_behind ["goings", "left"] spNo :=
  ⟨fun vs H Q E h => h.elim, fun A outer s H args us vs Q E _ _ _ _ h => h.elim⟩
theorem ok_is_flags (T : Tx K mg) : FnOk P w K mg base CX0 1 T.f_is_flags T.d_is_flags ["thing"] spFlags := by
  refine T.F_is_flags.ok sc_is_flags (fun vs H Q E h => ?_) (fun cdv A outer s H vs Q E hr h => ?_)
  · obtain ⟨a, s, rfl, _⟩ := h
    rfl
  obtain ⟨a, s, rfl, ha, l16, q⟩ := h
  refine ⟨_, (pss_one (ps_ret (pe_and (pe_callB call_isi (by rfl) T.g_isinstance (by decide +kernel) (pa_cons (pv 0) (pa_cons (pe_bltn (v := .ty "tuple") (by rfl) T.g_tuple (by decide +kernel) rfl) pa_nil))) (pe_one (pe_callB (cr_all rfl) (by rfl) T.g_all (by decide +kernel) (pa_cons (pe_lc (own := [("part", 1)]) (g := (gName 1)) (tt := tYes) (te := (tCB (rIsi K) (tCons (tVar 1) (tCons (tC _) tNil)))) rfl sc_is_flags.nd (pi_tup (pv 0)) (blkOk_by (own := [("part", 1)]) (N := N_is_flags) (sc := defScope s_is_flags) (by decide +kernel)) (fun _ _ _ _ _ => (pg_name (i := 1) sc_is_flags.nd rfl (.inl rfl))) (fun _ _ _ _ _ => pts_nil) (fun _ _ _ _ _ => (pe_callB call_isi (by rfl) T.g_isinstance (by decide +kernel) (pa_cons (pv 1) (pa_cons (pe_bltn (v := .ty "bool") (by rfl) T.g_bool (by decide +kernel) rfl) pa_nil))))) pa_nil)))))), ?_⟩
  refine ⟨_, rfl, _, _, _, _, _, rfl, .ty _, .base (.tup ha), kit_ty (by decide +kernel), true, rfl, ?_⟩
  refine iteT ?_
  refine ⟨_, rfl, a, rfl, ⟨_, SqT.of ha⟩, fun D nD => lc_tup (xs := bV s) (fun i H' => Same H H' ∧ H' D = some (.lst ((List.replicate i true).map V.bl))) ⟨same_new nD _, upd_same⟩ (fun i H' _ ⟨sm, _⟩ => SqT.of (sm _ _ ha)) ?_ ?_⟩
  · intro i y H' hi ⟨sm, hD⟩
    obtain ⟨b, hb, ey⟩ := bV_get hi
    subst ey
    have li := (List.getElem?_eq_some_iff.mp hb).1
    refine ⟨rfl, ?_⟩
    refine ⟨_, rfl, _, _, _, _, _, rfl, .ty _, .base (.bl b), kit_ty (r := true) (by decide +kernel), _, hD, small1000 ?_, fun c o hc => ?_, ?_⟩
    · rw [List.length_map, List.length_replicate]
      omega
    · rw [upd_ne (ne_of_none hc nD)]
      exact sm _ _ hc
    · rw [upd_same, List.replicate_succ', List.map_append]
      rfl
  · intro H1 ⟨sm, hD⟩
    refine ⟨D, _, rfl, SqL.of hD, ?_⟩
    have e2 : (List.replicate (bV s).length true).all id = true := by
      rw [List.all_replicate]
      cases (bV s).length <;> rfl
    rw [e2]
    exact q H1 sm
theorem ok_is_signing (T : Tx K mg) : FnOk P w K mg base CX0 2 T.f_is_signing T.d_is_signing ["web", "thing"] (spSgn T.C_Web) := by
  refine T.F_is_signing.ok sc_is_signing (fun vs H Q E h => ?_) (fun cdv A outer s H vs Q E hr h => ?_)
  · obtain ⟨x, a, n, ps, s, rfl, _⟩ := h
    rfl
  obtain ⟨x, a, n, ps, s, rfl, S, q⟩ := h
  obtain ⟨dx, t, hx, vs, htv, hv⟩ := S.w
  have ha : H a = some (.tup (bV s)) := S.g
  have lv := hv.len
  have ls := S.l
  have l16 := S.l16
  refine ⟨_, (pss_one (ps_ret (pe_and (pe_call (ok_is_flags T) (hr.mono (by decide)) (by rfl) T.m_is_flags T.F_is_flags.kp T.b_is_flags .nil pass0 (pa_cons (pv 1) pa_nil)) (pe_one (pe_cmpR op_eq (pe_callB call_len_seq (by rfl) T.g_len PySem.boot_len (pa_cons (pv 1) pa_nil)) (pe_callB call_len_seq (by rfl) T.g_len PySem.boot_len (pa_cons (pe_fld (pv 0) rfl) pa_nil)) (nomark _)))))), ?_⟩
  refine ⟨_, rfl, a, s, rfl, ha, by omega, fun H1 sm => ?_⟩
  refine ⟨true, rfl, iteT ?_⟩
  refine ⟨_, rfl, a, _, rfl, .inr (SqT.of (sm _ _ ha)), _, rfl, x, T.C_Web, dx, _, _, rfl, sm _ _ hx, T.cl_Web, T.no_Web_ties, wf_ties n t, t, _, rfl, .inr (SqT.of (sm _ _ htv)), rfl, ?_⟩
  rw [show (((bV s).length : Nat) : Int) = ((vs.length : Nat) : Int) by rw [bV_len]; omega, decide_eq_true rfl]
  exact q H1 sm
theorem ok_goings (T : Tx K mg) : FnOk P w K mg base CX0 1 T.f_goings T.d_goings ["web", "signing"] (spGo T.C_Web) := by
  refine T.F_goings.ok sc_goings (fun vs H Q E h => ?_) (fun cdv A outer s H vs Q E hr h => ?_)
  · obtain ⟨x, a, n, ps, s, rfl, _⟩ := h
    rfl
  obtain ⟨x, a, n, ps, s, rfl, S, q⟩ := h
  obtain ⟨dx, t, hx, vs, htv, hv⟩ := S.w
  have ha : H a = some (.tup (bV s)) := S.g
  have lv := hv.len
  have ls := S.l
  have l16 := S.l16
  have hlen : vs.length = (bV s).length := by rw [bV_len]; omega
  refine ⟨_, (pss_one (ps_ret (pe_lc (own := [("flag", 2), ("u", 3), ("v", 4)]) (g := (gTup K 2 (gCons (gTup K 2 (gCons (gName 3) (gCons (gName 4) gNil))) (gCons (gName 2) gNil)))) (tt := tYes) (te := (tIf (tB (tVar 2)) (tTup (tCons (tVar 3) (tCons (tVar 4) tNil))) (tTup (tCons (tVar 4) (tCons (tVar 3) tNil))))) rfl sc_goings.nd (RZ.pi_zipA (by rfl) T.g_zip (pa_cons (pe_fld (pv 0) rfl) (pa_cons (pv 1) pa_nil))) (blkOk_by (own := [("flag", 2), ("u", 3), ("v", 4)]) (N := N_goings) (sc := defScope s_goings) (by decide +kernel)) (fun _ _ _ _ _ => (pg_tup rfl (pgs_cons (pg_tup rfl (pgs_cons (pg_name (i := 3) sc_goings.nd rfl (.inl rfl)) (pgs_cons (pg_name (i := 4) sc_goings.nd rfl (.inl rfl)) pgs_nil))) (pgs_cons (pg_name (i := 2) sc_goings.nd rfl (.inl rfl)) pgs_nil)))) (fun _ _ _ _ _ => pts_nil) (fun _ _ _ _ _ => (pe_ifExp (pt_val (pv 2)) (pe_tup (pa_cons (pv 3) (pa_cons (pv 4) pa_nil))) (pe_tup (pa_cons (pv 4) (pa_cons (pv 3) pa_nil)))))))), ?_⟩
  refine ⟨_, rfl, x, T.C_Web, dx, _, _, rfl, hx, T.cl_Web, T.no_Web_ties, wf_ties n t, _, rfl, t, a, vs, bV s, rfl, .inr ⟨SqT.of htv, SqT.of ha, fun D nD => ?_⟩⟩
  refine lc_zipT hlen (fun i H' => Same H H' ∧ ∃ us, H' D = some (.lst us) ∧ PrsAt H' us ((ars ps s).take i)) ⟨same_new nD _, [], upd_same, by rw [List.take_zero]; exact .nil⟩ (fun i H' ⟨sm, _⟩ => ⟨SqT.of (sm _ _ htv), SqT.of (sm _ _ ha)⟩) ?_ ?_
  · intro i y z T2 H' hy hz ⟨sm, us, hD, pu⟩ nT
    obtain ⟨p, c, hp, ey, hc⟩ := (hv.same sm).get hy
    subst ey
    obtain ⟨b, hb, ez⟩ := bV_get hz
    subst ez
    have s2 : Same H' (L2.upd H' T2 (.tup [.ref c, .bl b])) := same_new nT _
    refine ⟨T2, _, rfl, SqT.of upd_same, rfl, _, _, rfl, c, _, rfl, SqT.of (s2 _ _ hc), rfl, _, _, rfl, _, _, rfl, rfl, _, _, rfl, rfl, rfl, ?_⟩
    have hD2 := s2 _ _ hD
    have pu2 := pu.same s2
    have sm2 := sm.trans s2
    generalize L2.upd H' T2 (.tup [.ref c, .bl b]) = H2 at *
    have lu := pu2.len
    have lt : i < (ars ps s).length := by
      have := (List.getElem?_eq_some_iff.mp hp).1
      rw [ars_len ls]
      exact this
    have lu2 : us.length < 100 := by
      rw [lu, List.length_take, ars_len ls]
      omega
    have fin : ∀ q : Int × Int, (ars ps s)[i]? = some q → ∀ S2, H2 S2 = none → ∃ acc, (L2.upd H2 S2 (.tup [.int q.1, .int q.2])) D = some (.lst acc) ∧ acc.length < sizeLine ∧ (Same H (L2.upd (L2.upd H2 S2 (.tup [.int q.1, .int q.2])) D (.lst (acc ++ [.ref S2]))) ∧
        ∃ us, (L2.upd (L2.upd H2 S2 (.tup [.int q.1, .int q.2])) D (.lst (acc ++ [.ref S2]))) D = some (.lst us) ∧ PrsAt (L2.upd (L2.upd H2 S2 (.tup [.int q.1, .int q.2])) D (.lst (acc ++ [.ref S2]))) us ((ars ps s).take (i + 1))) := fun q hq S2 nS => by
      have s3 : Same H2 (L2.upd H2 S2 (.tup [.int q.1, .int q.2])) := same_new nS _
      have hD3 := s3 _ _ hD2
      refine ⟨us, hD3, small1000 (by omega), fun o u ho => ?_, us ++ [.ref S2], upd_same, ?_⟩
      · rw [upd_ne (ne_of_none ho nD)]
        exact s3 _ _ (sm2 _ _ ho)
      · rw [take_snoc hq]
        exact ((pu2.same s3).snoc upd_same).upd hD3
    have ag := ars_get hp hb
    cases b with
    | true => exact ⟨_, rfl, true, rfl, iteT ⟨_, rfl, _, rfl, (by show 2 ≤ sizeLine; decide), fun S2 nS => fin _ ag S2 nS⟩⟩
    | false => exact ⟨_, rfl, false, rfl, iteF ⟨_, rfl, _, rfl, (by show 2 ≤ sizeLine; decide), fun S2 nS => fin _ ag S2 nS⟩⟩
  · intro H' ⟨sm, us, hD, pu⟩
    rw [List.take_of_length_le (by rw [ars_len ls]; omega)] at pu
    exact q D us H' nD sm hD pu
end
end K37
set_option Elab.async false
set_option linter.all false
set_option maxRecDepth 100000
set_option maxHeartbeats 4000000
/-! Places struck; sources; turned. -/
namespace K37
open PySem L2 Rl
theorem dec_vint {a b : Int} : decide (V.int a = V.int b) = decide (a = b) := by
  by_cases h : a = b
  · rw [decide_eq_true h, decide_eq_true (by rw [h])]
  · rw [decide_eq_false h, decide_eq_false fun e => h (by cases e; rfl)]
def cnd (L : List Int) (k : Int) (q : Int × Int) : Bool := decide (q.1 ∈ L) && decide (q.2 = k)
theorem kp_cnd (G : List (Int × Int)) (L : List Int) : kp G L = L.filter fun k => G.any (cnd L k) := rfl
theorem any_cnd {G : List (Int × Int)} {f : Int × Int → Bool} : (G.map f).any id = G.any f := by
  rw [List.any_map]
  rfl
theorem filt_snoc {l : List Int} {i : Nat} {k : Int} (f : Int → Bool) (h : l[i]? = some k) : (l.take (i + 1)).filter f = (l.take i).filter f ++ (if f k = true then [k] else []) := by
  rw [take_snoc h, List.filter_append]
  cases c : f k with
  | true => rw [if_pos rfl, List.filter_cons_of_pos c, List.filter_nil]
  | false => rw [if_neg Bool.false_ne_true, List.filter_cons_of_neg (by rw [c]; exact Bool.false_ne_true), List.filter_nil]
section
variable {P : Program} {w : World} {K : PySem.W.Frag} {mg : Str → Option Value} {base : Heap}
theorem ok_never_sources (T : Tx K mg) : FnOk P w K mg base CX0 1 T.f_never_sources T.d_never_sources ["many", "goings"] spNever := by
  refine T.F_never_sources.ok sc_never_sources (fun vs H Q E h => ?_) (fun cdv A outer s H vs Q E hr h => ?_)
  · obtain ⟨G, us, n, ps, sg, rfl, _⟩ := h
    rfl
  obtain ⟨G, us, n, ps, sg, rfl, hG, pG, ac, n0, n1, lu, q⟩ := h
  refine ⟨_, (pss_cons (ps_set (i := 2) sc_never_sources.nd rfl (.inr rfl) (pe_listRg rfl (by rfl) T.g_list (prg_1 (by rfl) T.g_range (pv 0))))
    (pss_one (ps_while PassesOwn.never (pt_val pe_bl)
      (pss_cons (ps_setLc (i := 3) (own := [("place", 4)]) (g := (gName 4)) (tt := (tB (tCB (rAny K) (tCons (tLc (iList K (tVar 1)) (gTup K 2 (gCons (gName 5) (gCons (gName 6) gNil))) tYes (tAndV (tOp (rIn K false) (tVar 5) (tVar 2)) (tOp rEq (tVar 6) (tVar 4))) [5, 6]) tNil)))) (te := (tVar 4)) rfl sc_never_sources.nd rfl rfl (sw_true rfl rfl rfl (by decide +kernel)) (pi_list (pv 2)) (blkOk_by (own := [("place", 4)]) (N := N_never_sources) (sc := defScope s_never_sources) (by decide +kernel)) (fun _ _ _ _ _ => (pg_name (i := 4) sc_never_sources.nd rfl (by first | exact .inl rfl | exact .inr rfl))) (fun _ _ _ _ _ => (pts_one (pt_val (pe_callB (cr_any rfl) (by rfl) T.g_any (by decide +kernel) (pa_cons (pe_lc (own := [("ahead", 5), ("to", 6)]) (g := (gTup K 2 (gCons (gName 5) (gCons (gName 6) gNil)))) (tt := tYes) (te := (tAndV (tOp (rIn K false) (tVar 5) (tVar 2)) (tOp rEq (tVar 6) (tVar 4)))) rfl sc_never_sources.nd (pi_list (pv 1)) (blkOk_by (own := [("ahead", 5), ("to", 6)]) (N := N_never_sources) (sc := { kind := .function, names := [(".0", .local), ("place", .cell), ("any", .globalImplicit), ("goings", .cell), ("left", .cell)], isGenerator := false, isCoroutine := false }) (by decide +kernel)) (fun _ _ _ _ _ => (pg_tup rfl (pgs_cons (pg_name (i := 5) sc_never_sources.nd rfl (.inl rfl)) (pgs_cons (pg_name (i := 6) sc_never_sources.nd rfl (.inl rfl)) pgs_nil)))) (fun _ _ _ _ _ => pts_nil) (fun _ _ _ _ _ => (pe_and (pe_cmpR op_in_seq (pv 5) (pv 2) (by rfl)) (pe_one (pe_cmpR op_eq (pv 6) (pv 4) (nomark _)))))) pa_nil))))) (fun _ _ _ _ _ => (pv 4)))
        (pss_cons (ps_if (pt_cmpR (op_eqD hr.units) (pv 3) (pv 2) (nomark _))
          (pss_one (ps_ret (pv 2)))
          pss_nil)
        (pss_one (ps_set (i := 2) sc_never_sources.nd rfl (.inr rfl) (pv 3)))))))), ?_⟩
  refine ⟨_, rfl, n, rfl, RgOk.of_le (by decide) (by omega) (by decide) n0, fun D nD => ?_⟩
  rw [rg_rn]
  refine ⟨fun m σ' H' => ∃ (D : Addr) (L : List Int) (y3 : Option V), σ' = [some (.int n), some (.ref G), some (.ref D), y3, none, none, none] ∧ Same H H' ∧ H' D = some (.lst (L.map V.int)) ∧ L.length ≤ 10 ∧ m = L.length,
    ⟨(rn n).length, D, rn n, none, rfl, same_new nD _, upd_same, by rw [rn_len]; omega, rfl⟩, ?_⟩
  intro m σ' H' ⟨D1, L, y3, e, sm, hD, lL, em⟩
  subst e em
  refine ⟨true, rfl, iteT ⟨fun σ' H' => ∃ (D : Addr) (L' : List Int) (y3 : Option V), σ' = [some (.int n), some (.ref G), some (.ref D), y3, none, none, none] ∧ Same H H' ∧ H' D = some (.lst (L'.map V.int)) ∧ L'.length < L.length, ?_, ?_⟩⟩
  · intro σ' H' ⟨D', L', y3, e, sm, hD, lt⟩
    exact ⟨L'.length, lt, D', L', y3, e, sm, hD, by omega, rfl⟩
  refine ⟨_, rfl, D1, rfl, ⟨_, SqL.of hD⟩, fun Z nZ => lc_list (xs := L.map V.int) (fun i H2 => Same H' H2 ∧ H2 Z = some (.lst (((L.take i).filter fun k => (ars ps sg).any (cnd L k)).map V.int))) ⟨same_new nZ _, upd_same⟩ (fun i H2 _ ⟨s2, _⟩ => SqL.of (s2 _ _ hD)) ?_ ?_⟩
  · intro i y H2 hi ⟨s2, hZ⟩
    obtain ⟨k, hk, ey⟩ := mint hi
    subst ey
    have hG2 := s2 _ _ (sm _ _ hG)
    have pG2 := pG.same (sm.trans s2)
    have hD2 := s2 _ _ hD
    have lG := pG2.len
    refine ⟨rfl, ?_⟩
    refine ⟨_, rfl, G, rfl, ⟨_, SqL.of hG2⟩, fun Y nY => lc_list (xs := us) (fun j H3 => Same H2 H3 ∧ H3 Y = some (.lst ((((ars ps sg).take j).map (cnd L k)).map V.bl))) ⟨same_new nY _, upd_same⟩ (fun j H3 _ ⟨s3, _⟩ => SqL.of (s3 _ _ hG2)) ?_ ?_⟩
    · intro j z H3 hj ⟨s3, hY⟩
      obtain ⟨p, a, hp, ez, ha⟩ := (pG2.same s3).get hj
      subst ez
      have hD3 := s3 _ _ hD2
      refine ⟨a, _, rfl, SqT.of ha, rfl, _, _, rfl, _, _, rfl, rfl, rfl, ?_⟩
      refine ⟨_, rfl, _, rfl, D1, _, rfl, .inl (SqL.of hD3), rfl, flat_is L, _, rfl, ?_⟩
      rw [if_neg Bool.false_ne_true, in_ints]
      have fin : ∀ b : Bool, b = cnd L k p → ∃ acc, H3 Y = some (.lst acc) ∧ acc.length < sizeLine ∧ (Same H2 (L2.upd H3 Y (.lst (acc ++ [.bl b]))) ∧ (L2.upd H3 Y (.lst (acc ++ [.bl b]))) Y = some (.lst ((((ars ps sg).take (j + 1)).map (cnd L k)).map V.bl))) := fun b eb => by
        refine ⟨_, hY, small1000 ?_, fun o u ho => ?_, ?_⟩
        · rw [List.length_map, List.length_map, List.length_take]
          omega
        · rw [upd_ne (ne_of_none ho nY)]
          exact s3 _ _ ho
        · rw [upd_same, take_snoc hp, List.map_append, List.map_append, eb]
          rfl
      by_cases c : p.1 ∈ L
      · rw [decide_eq_true c]
        refine iteT ⟨_, rfl, _, rfl, rfl, fin _ ?_⟩
        unfold cnd
        rw [decide_eq_true c, dec_vint]
        rfl
      · rw [decide_eq_false c]
        refine iteF (fin _ ?_)
        unfold cnd
        rw [decide_eq_false c]
        rfl
    · intro H3 ⟨s3, hY⟩
      rw [List.take_of_length_le (by omega)] at hY
      refine ⟨Y, _, rfl, SqL.of hY, _, rfl, ?_⟩
      rw [any_cnd]
      have fs := filt_snoc (fun k => (ars ps sg).any (cnd L k)) hk
      have s23 := s2.trans s3
      have hZ3 := s3 _ _ hZ
      cases c : (ars ps sg).any (cnd L k) with
      | true =>
        refine iteT ⟨_, rfl, _, hZ3, small1000 ?_, fun o u ho => ?_, ?_⟩
        · rw [List.length_map]
          have := List.length_filter_le (fun k => (ars ps sg).any (cnd L k)) (L.take i)
          rw [List.length_take] at this
          omega
        · rw [upd_ne (ne_of_none ho nZ)]
          exact s23 _ _ ho
        · rw [upd_same, fs, if_pos c, List.map_append]
          rfl
      | false =>
        refine iteF ⟨s23, ?_⟩
        rw [fs, if_neg (by rw [c]; exact Bool.false_ne_true), List.append_nil]
        exact hZ3
  · intro H2 ⟨s2, hZ⟩
    rw [List.length_map, List.take_of_length_le (Nat.le_refl _), ← kp_cnd] at hZ
    have hD2 := s2 _ _ hD
    have sm2 := sm.trans s2
    refine ⟨_, rfl, _, rfl, .list (dI (kp (ars ps sg) L)), .list (dI L), .lst (SqL.of hZ) (dpa_ints _), .lst (SqL.of hD2) (dpa_ints _), shp_ints _, shp_ints _, _, rfl, ?_⟩
    by_cases c : L = []
    · subst c
      rw [kp_nil, eqv_same (shp_ints _)]
      exact iteT ⟨_, rfl, q D1 H2 sm2 hD2⟩
    · have lt := kp_lt ac c
      rw [eqv_lists (by omega)]
      exact iteF ⟨_, rfl, Z, _, _, rfl, sm2, hZ, lt⟩
theorem ok_round_of (T : Tx K mg) : FnOk P w K mg base CX0 3 T.f_round_of T.d_round_of ["web", "signing"] (spRound T.C_Web) := by
  refine T.F_round_of.ok sc_round_of (fun vs H Q E h => ?_) (fun cdv A outer s H vs Q E hr h => ?_)
  · obtain ⟨x, a, n, ps, s, rfl, _⟩ := h
    rfl
  obtain ⟨x, a, n, ps, s, rfl, S, ac, q⟩ := h
  have ls := S.l
  have l16 := S.l16
  have n0 := S.n0
  have n1 := S.n1
  refine ⟨_, (pss_cons (ps_if (pt_not (pt_val (pe_call (ok_is_signing T) (hr.mono (by decide)) (by rfl) T.m_is_signing T.F_is_signing.kp T.b_is_signing .nil pass0 (pa_cons (pv 0) (pa_cons (pv 1) pa_nil)))))
      (pss_one ps_never)
      pss_nil)
    (pss_cons (ps_set (i := 2) sc_round_of.nd rfl (.inl rfl) (pe_call (ok_goings T) (hr.mono (by decide)) (by rfl) T.m_goings T.F_goings.kp T.b_goings .nil pass0 (pa_cons (pv 0) (pa_cons (pv 1) pa_nil))))
    (pss_cons (ps_set (i := 3) sc_round_of.nd rfl (.inl rfl) (pe_call (ok_never_sources T) (hr.mono (by decide)) (by rfl) T.m_never_sources T.F_never_sources.kp T.b_never_sources .nil pass0 (pa_cons (pe_fld (pv 0) rfl) (pa_cons (pv 2) pa_nil))))
    (pss_one (ps_ret (pe_ifExp (pt_truth (pv 3) (by intro _; rfl)) (pe_call (ok_round_behind T) (hr.mono (by decide)) (by rfl) T.m_round_behind T.F_round_behind.kp T.b_round_behind .nil pass0 (pa_cons (pv 2) (pa_cons (pv 3) pa_nil))) pe_non)))))), ?_⟩
  refine ⟨_, rfl, _, rfl, x, a, n, ps, s, rfl, S, fun H1 s1 => ⟨true, rfl, iteF ?_⟩⟩
  refine ⟨_, rfl, _, rfl, x, a, n, ps, s, rfl, S.same s1, fun G us H2 nG s2 hG pG => ?_⟩
  have s12 := s1.trans s2
  obtain ⟨dx, t, hx, vs, htv, hv⟩ := (S.same s12).w
  have lu := pG.len
  rw [ars_len ls] at lu
  refine ⟨_, rfl, x, T.C_Web, dx, _, _, rfl, hx, T.cl_Web, T.no_Web_many, wf_many n t, _, rfl, G, us, n, ps, s, rfl, hG, pG, ac, by omega, n1, by omega, fun L H3 s3 hL => ?_⟩
  refine ⟨_, rfl, false, .inl ⟨_, SqL.of hL, rfl⟩, ?_⟩
  exact iteF (q H3 (s12.trans s3))
theorem ok_is_rising (T : Tx K mg) : FnOk P w K mg base CX0 4 T.f_is_rising T.d_is_rising ["web", "thing"] (spRising T.C_Web) := by
  refine T.F_is_rising.ok sc_is_rising (fun vs H Q E h => ?_) (fun cdv A outer s H vs Q E hr h => ?_)
  · obtain ⟨x, a, n, ps, s, rfl, _⟩ := h
    rfl
  obtain ⟨x, a, n, ps, s, rfl, S, ac, q⟩ := h
  refine ⟨_, (pss_one (ps_ret (pe_and (pe_call (ok_is_signing T) (hr.mono (by decide)) (by rfl) T.m_is_signing T.F_is_signing.kp T.b_is_signing .nil pass0 (pa_cons (pv 0) (pa_cons (pv 1) pa_nil))) (pe_one (pe_cmpR op_isN (pe_call (ok_round_of T) (hr.mono (by decide)) (by rfl) T.m_round_of T.F_round_of.kp T.b_round_of .nil pass0 (pa_cons (pv 0) (pa_cons (pv 1) pa_nil))) pe_non (nomark _)))))), ?_⟩
  refine ⟨_, rfl, _, rfl, x, a, n, ps, s, rfl, S, fun H1 s1 => ⟨true, rfl, iteT ?_⟩⟩
  refine ⟨_, rfl, _, rfl, x, a, n, ps, s, rfl, S.same s1, ac, fun H2 s2 => ⟨rfl, ?_⟩⟩
  exact q H2 (s1.trans s2)
/-- the places gone to, of pairs -/
theorem ok_sources (T : Tx K mg) : FnOk P w K mg base CX0 3 T.f_sources T.d_sources ["web", "signing"] (spSources T.C_Web) := by
  refine T.F_sources.ok sc_sources (fun vs H Q E h => ?_) (fun cdv A outer s H vs Q E hr h => ?_)
  · obtain ⟨x, a, n, ps, s, rfl, _⟩ := h
    rfl
  obtain ⟨x, a, n, ps, s, rfl, S, q⟩ := h
  have ls := S.l
  have l16 := S.l16
  have n0 := S.n0
  have n1 := S.n1
  refine ⟨_, (pss_cons (ps_if (pt_not (pt_val (pe_call (ok_is_signing T) (hr.mono (by decide)) (by rfl) T.m_is_signing T.F_is_signing.kp T.b_is_signing .nil pass0 (pa_cons (pv 0) (pa_cons (pv 1) pa_nil)))))
      (pss_one ps_never)
      pss_nil)
    (pss_cons (ps_asg (pe_lc (own := [("_", 3), ("to", 4)]) (g := (gTup K 2 (gCons (gName 3) (gCons (gName 4) gNil)))) (tt := tYes) (te := (tVar 4)) rfl sc_sources.nd (pi_list (pe_call (ok_goings T) (hr.mono (by decide)) (by rfl) T.m_goings T.F_goings.kp T.b_goings .nil pass0 (pa_cons (pv 0) (pa_cons (pv 1) pa_nil)))) (blkOk_by (own := [("_", 3), ("to", 4)]) (N := N_sources) (sc := defScope s_sources) (by decide +kernel)) (fun _ _ _ _ _ => (pg_tup rfl (pgs_cons (pg_name (i := 3) sc_sources.nd rfl (.inl rfl)) (pgs_cons (pg_name (i := 4) sc_sources.nd rfl (.inl rfl)) pgs_nil)))) (fun _ _ _ _ _ => pts_nil) (fun _ _ _ _ _ => (pv 4))) (pg_name (i := 2) sc_sources.nd rfl (by first | exact .inl rfl | exact .inr rfl)))
    (pss_one (ps_ret (pe_callTy call_tuple_of (by rfl) T.g_tuple (by decide +kernel) (pa_cons (pe_lc (own := [("place", 5)]) (g := (gName 5)) (tt := (tTest (tOp (rIn K true) (tVar 5) (tVar 2)))) (te := (tVar 5)) rfl sc_sources.nd (pi_range1 (by rfl) T.g_range (pa_cons (pe_fld (pv 0) rfl) pa_nil)) (blkOk_by (own := [("place", 5)]) (N := N_sources) (sc := defScope s_sources) (by decide +kernel)) (fun _ _ _ _ _ => (pg_name (i := 5) sc_sources.nd rfl (.inl rfl))) (fun _ _ _ _ _ => (pts_one (pt_cmpR op_notIn_seq (pv 5) (pv 2) (by rfl)))) (fun _ _ _ _ _ => (pv 5))) pa_nil)))))), ?_⟩
  refine ⟨_, rfl, _, rfl, x, a, n, ps, s, rfl, S, fun H1 s1 => ⟨true, rfl, iteF ?_⟩⟩
  refine ⟨_, rfl, _, rfl, x, a, n, ps, s, rfl, S.same s1, fun G us H2 nG s2 hG pG => ?_⟩
  have s12 := s1.trans s2
  have lu := pG.len
  rw [ars_len ls] at lu
  refine ⟨G, rfl, ⟨_, SqL.of hG⟩, fun D nD => lc_list (xs := us) (fun i H3 => Same H2 H3 ∧ H3 D = some (.lst (((tos ps s).take i).map V.int))) ⟨same_new nD _, upd_same⟩ (fun i H3 _ ⟨s3, _⟩ => SqL.of (s3 _ _ hG)) ?_ ?_⟩
  · intro i y H3 hi ⟨s3, hD⟩
    obtain ⟨p, c, hp, ey, hc⟩ := (pG.same s3).get hi
    subst ey
    have et : (tos ps s)[i]? = some p.2 := by
      unfold tos
      rw [List.getElem?_map, hp]
      rfl
    refine ⟨c, _, rfl, SqT.of hc, rfl, _, _, rfl, _, _, rfl, rfl, rfl, ?_⟩
    refine ⟨_, rfl, _, hD, small1000 ?_, fun o u ho => ?_, ?_⟩
    · rw [List.length_map, List.length_take]
      have := (List.getElem?_eq_some_iff.mp hi).1
      omega
    · rw [upd_ne (ne_of_none ho nD)]
      exact s3 _ _ ho
    · rw [upd_same, take_snoc et, List.map_append]
      rfl
  · intro H3 ⟨s3, hD⟩
    have lt : (tos ps s).length = us.length := by
      unfold tos
      rw [List.length_map, ars_len ls, lu]
    rw [List.take_of_length_le (by omega)] at hD
    have s13 := s12.trans s3
    obtain ⟨dx, t, hx, vs, htv, hv⟩ := (S.same s13).w
    refine ⟨_, rfl, x, T.C_Web, dx, _, _, rfl, hx, T.cl_Web, T.no_Web_many, wf_many n t, n, rfl, by omega, by omega, fun Z nZ => ?_⟩
    refine lc_range (lo := 0) (n := n.toNat) (fun i H4 => Same H3 H4 ∧ H4 Z = some (.lst ((((rn n).take i).filter fun k => !decide (k ∈ tos ps s)).map V.int))) ⟨same_new nZ _, upd_same⟩ ?_ ?_
    · intro i H4 hi ⟨s4, hZ⟩
      have e0 : (0 : Int) + (i : Int) = (i : Int) := Int.zero_add _
      have er := rn_get hi
      have fs := filt_snoc (fun k => !decide (k ∈ tos ps s)) er
      have hD4 := s4 _ _ hD
      refine ⟨rfl, ?_⟩
      refine ⟨_, rfl, _, rfl, D, _, rfl, .inl (SqL.of hD4), rfl, flat_is _, _, rfl, ?_⟩
      rw [if_pos rfl, in_ints, e0]
      cases c : !decide ((i : Int) ∈ tos ps s) with
      | true =>
        refine iteT ⟨_, rfl, _, hZ, small1000 ?_, fun o u ho => ?_, ?_⟩
        · rw [List.length_map]
          have := List.length_filter_le (fun k => !decide (k ∈ tos ps s)) ((rn n).take i)
          rw [List.length_take] at this
          omega
        · rw [upd_ne (ne_of_none ho nZ)]
          exact s4 _ _ ho
        · rw [upd_same, fs, if_pos c, List.map_append]
          rfl
      | false =>
        refine iteF ⟨s4, ?_⟩
        rw [fs, if_neg (by rw [c]; exact Bool.false_ne_true), List.append_nil]
        exact hZ
    · intro H4 ⟨s4, hZ⟩
      rw [List.take_of_length_le (by rw [rn_len]; exact Nat.le_refl _)] at hZ
      refine ⟨Z, _, rfl, .inl ⟨SqL.of hZ, fun t2 nt => ?_⟩⟩
      exact q t2 _ (s13.trans (s4.trans (same_new nt _))) upd_same
theorem ok_is_source (T : Tx K mg) : FnOk P w K mg base CX0 4 T.f_is_source T.d_is_source ["web", "signing", "thing"] (spIsSource T.C_Web) := by
  refine T.F_is_source.ok sc_is_source (fun vs H Q E h => ?_) (fun cdv A outer s H vs Q E hr h => ?_)
  · obtain ⟨x, a, n, k, ps, s, rfl, _⟩ := h
    rfl
  obtain ⟨x, a, n, k, ps, s, rfl, S, k0, k1, hs, q⟩ := h
  obtain ⟨dx, t, hx, vs, htv, hv⟩ := S.w
  refine ⟨_, (pss_one (ps_ret (pe_and (pe_call (ok_is_below T) (hr.mono (by decide)) (by rfl) T.m_is_below T.F_is_below.kp T.b_is_below .nil pass0 (pa_cons (pv 2) (pa_cons (pe_fld (pv 0) rfl) pa_nil))) (pe_one (pe_cmpR op_in_seq (pv 2) (pe_call (ok_sources T) (hr.mono (by decide)) (by rfl) T.m_sources T.F_sources.kp T.b_sources .nil pass0 (pa_cons (pv 0) (pa_cons (pv 1) pa_nil))) (by rfl)))))), ?_⟩
  refine ⟨_, rfl, _, rfl, x, T.C_Web, dx, _, _, rfl, hx, T.cl_Web, T.no_Web_many, wf_many n t, k, n, rfl, _, rfl, ?_⟩
  rw [decide_eq_true k0, decide_eq_true k1]
  refine iteT ?_
  refine ⟨_, rfl, _, rfl, _, rfl, x, a, n, ps, s, rfl, S, fun u H1 s1 hu => ?_⟩
  refine ⟨u, _, rfl, .inr (SqT.of hu), rfl, flat_is _, ?_⟩
  rw [if_neg Bool.false_ne_true, in_ints, decide_eq_true (srcL_mem.mpr ⟨⟨k0, k1⟩, hs⟩)]
  exact q H1 s1
theorem in_pr {k : Int} {p : Int × Int} : inV (.int k) [.int p.1, .int p.2] = inT k p := in_ints (gs := [p.1, p.2])
theorem ok_behind (T : Tx K mg) : FnOk P w K mg base CX0 1 T.f_behind T.d_behind ["web", "signing", "place"] (spBehind T.C_Web) := by
  refine T.F_behind.ok sc_behind (fun vs H Q E h => ?_) (fun cdv A outer s H vs Q E hr h => ?_)
  · obtain ⟨x, a, n, k, ps, s, rfl, _⟩ := h
    rfl
  obtain ⟨x, a, n, k, ps, s, rfl, S, q⟩ := h
  obtain ⟨dx, t, hx, vs, htv, hv⟩ := S.w
  have ha : H a = some (.tup (bV s)) := S.g
  have lv := hv.len
  have ls := S.l
  have l16 := S.l16
  have hlen : vs.length = (bV s).length := by rw [bV_len]; omega
  refine ⟨_, (pss_one (ps_ret (pe_callTy call_tuple_of (by rfl) T.g_tuple (by decide +kernel) (pa_cons (pe_lc (own := [("flag", 4), ("tie", 3)]) (g := (gTup K 2 (gCons (gName 3) (gCons (gName 4) gNil)))) (tt := tYes) (te := (tOp _ (tVar 4) (tOp (rIn K false) (tVar 2) (tVar 3)))) rfl sc_behind.nd (RZ.pi_zipA (by rfl) T.g_zip (pa_cons (pe_fld (pv 0) rfl) (pa_cons (pv 1) pa_nil))) (blkOk_by (own := [("flag", 4), ("tie", 3)]) (N := N_behind) (sc := defScope s_behind) (by decide +kernel)) (fun _ _ _ _ _ => (pg_tup rfl (pgs_cons (pg_name (i := 3) sc_behind.nd rfl (.inl rfl)) (pgs_cons (pg_name (i := 4) sc_behind.nd rfl (.inl rfl)) pgs_nil)))) (fun _ _ _ _ _ => pts_nil) (fun _ _ _ _ _ => (pe_cmpR op_ne (pv 4) (pe_cmpR op_in_seq (pv 2) (pv 3) (by rfl)) (nomark _)))) pa_nil)))), ?_⟩
  refine ⟨_, rfl, x, T.C_Web, dx, _, _, rfl, hx, T.cl_Web, T.no_Web_ties, wf_ties n t, _, rfl, t, a, vs, bV s, rfl, .inr ⟨SqT.of htv, SqT.of ha, fun D nD => ?_⟩⟩
  refine lc_zipT hlen (fun i H' => Same H H' ∧ H' D = some (.lst (bV ((trn ps s k).take i)))) ⟨same_new nD _, upd_same⟩ (fun i H' ⟨sm, _⟩ => ⟨SqT.of (sm _ _ htv), SqT.of (sm _ _ ha)⟩) ?_ ?_
  · intro i y z T2 H' hy hz ⟨sm, hD⟩ nT
    obtain ⟨p, c, hp, ey, hc⟩ := (hv.same sm).get hy
    subst ey
    obtain ⟨b, hb, ez⟩ := bV_get hz
    subst ez
    have s2 : Same H' (L2.upd H' T2 (.tup [.ref c, .bl b])) := same_new nT _
    refine ⟨T2, _, rfl, SqT.of upd_same, rfl, _, _, rfl, _, _, rfl, rfl, rfl, ?_⟩
    have hD2 := s2 _ _ hD
    have hc2 := s2 _ _ hc
    have sm2 := sm.trans s2
    generalize L2.upd H' T2 (.tup [.ref c, .bl b]) = H2 at *
    refine ⟨_, rfl, _, rfl, _, rfl, c, _, rfl, .inr (SqT.of hc2), rfl, rfl, rfl, ?_⟩
    rw [if_neg Bool.false_ne_true, in_pr, bne_bl]
    refine ⟨_, hD2, small1000 ?_, fun o u ho => ?_, ?_⟩
    · rw [bV_len, List.length_take]
      have := (List.getElem?_eq_some_iff.mp hp).1
      omega
    · rw [upd_ne (ne_of_none ho nD)]
      exact sm2 _ _ ho
    · rw [upd_same, take_snoc (trn_get (k := k) hp hb)]
      unfold bV
      rw [List.map_append]
      rfl
  · intro H' ⟨sm, hD⟩
    rw [List.take_of_length_le (by rw [trn_len ls]; omega)] at hD
    refine ⟨D, _, rfl, .inl ⟨SqL.of hD, fun t2 nt => ?_⟩⟩
    exact q t2 _ (sm.trans (same_new nt _)) upd_same
theorem ok_turned (T : Tx K mg) : FnOk P w K mg base CX0 5 T.f_turned T.d_turned ["web", "signing", "place"] (spTurned T.C_Web) := by
  refine T.F_turned.ok sc_turned (fun vs H Q E h => ?_) (fun cdv A outer s H vs Q E hr h => ?_)
  · obtain ⟨x, a, n, k, ps, s, rfl, _⟩ := h
    rfl
  obtain ⟨x, a, n, k, ps, s, rfl, S, ac, k0, k1, hs, q⟩ := h
  refine ⟨_, (pss_cons (ps_if (pt_not (pt_val (pe_call (ok_is_rising T) (hr.mono (by decide)) (by rfl) T.m_is_rising T.F_is_rising.kp T.b_is_rising .nil pass0 (pa_cons (pv 0) (pa_cons (pv 1) pa_nil)))))
      (pss_one ps_never)
      pss_nil)
    (pss_cons (ps_if (pt_not (pt_val (pe_call (ok_is_source T) (hr.mono (by decide)) (by rfl) T.m_is_source T.F_is_source.kp T.b_is_source .nil pass0 (pa_cons (pv 0) (pa_cons (pv 1) (pa_cons (pv 2) pa_nil))))))
      (pss_one ps_never)
      pss_nil)
    (pss_one (ps_ret (pe_call (ok_behind T) (hr.mono (by decide)) (by rfl) T.m_behind T.F_behind.kp T.b_behind .nil pass0 (pa_cons (pv 0) (pa_cons (pv 1) (pa_cons (pv 2) pa_nil)))))))), ?_⟩
  refine ⟨_, rfl, _, rfl, x, a, n, ps, s, rfl, S, ac, fun H1 s1 => ⟨true, rfl, iteF ?_⟩⟩
  refine ⟨_, rfl, _, rfl, _, rfl, x, a, n, k, ps, s, rfl, S.same s1, k0, k1, hs, fun H2 s2 => ⟨true, rfl, iteF ?_⟩⟩
  have s12 := s1.trans s2
  exact ⟨_, rfl, _, rfl, _, rfl, x, a, n, k, ps, s, rfl, S.same s12, fun t H3 s3 ht => q t H3 (s12.trans s3) ht⟩
end
end K37
set_option Elab.async false
set_option linter.all false
set_option maxRecDepth 100000
set_option maxHeartbeats 4000000
/-! Webs drawn, orders drawn. -/
namespace K37
open PySem L2 Rl
def PrOk (H : Hp) (n : Int) (v : V) : Prop := ∃ (a : Addr) (p : Int × Int), v = .ref a ∧ H a = some (.tup [.int p.1, .int p.2]) ∧ okS n p
def AllOk (H : Hp) (n : Int) (vs : List V) : Prop := ∀ v ∈ vs, PrOk H n v
theorem PrOk.mono {H H' : Hp} {n : Int} {v : V} (e : ∀ a x y, H a = some (.tup [x, y]) → H' a = some (.tup [x, y])) (h : PrOk H n v) : PrOk H' n v := by
  obtain ⟨a, p, ev, ha, hp⟩ := h
  exact ⟨a, p, ev, e _ _ _ ha, hp⟩
theorem AllOk.mono {H H' : Hp} {n : Int} {vs : List V} (e : ∀ a x y, H a = some (.tup [x, y]) → H' a = some (.tup [x, y])) (h : AllOk H n vs) : AllOk H' n vs := fun v hv => (h v hv).mono e
theorem tup_same {H H' : Hp} (s : Same H H') : ∀ a x y, H a = some (.tup [x, y]) → H' a = some (.tup [x, y]) := fun _ _ _ h => s _ _ h
theorem tup_kp {H H' : Hp} {h c : Addr} (hd : HandAt H h c) (k : Kp h H H') : ∀ a x y, H a = some (.tup [x, y]) → H' a = some (.tup [x, y]) := fun a x y q => by
  obtain ⟨cs, i, b, m, n, h1, _⟩ := hd.ex
  exact k _ _ (ne_of q h1 (by intro z; cases z)) q
theorem tup_upd {H : Hp} {D : Addr} {l : List V} {o : HO} (hD : H D = some (.lst l)) : ∀ a x y, H a = some (.tup [x, y]) → (upd H D o) a = some (.tup [x, y]) := fun a x y q => by
  rw [upd_ne (ne_of q hD (by intro z; cases z))]
  exact q
theorem AllOk.nil {H : Hp} {n : Int} : AllOk H n [] := fun _ h => nomatch h
theorem AllOk.app {H : Hp} {n : Int} {vs ws : List V} (a : AllOk H n vs) (b : AllOk H n ws) : AllOk H n (vs ++ ws) := fun v h => (List.mem_append.mp h).elim (a v) (b v)
theorem AllOk.one {H : Hp} {n : Int} {v : V} (a : PrOk H n v) : AllOk H n [v] := fun x h => by
  rw [List.mem_singleton.mp h]
  exact a
theorem AllOk.prs {H : Hp} {n : Int} : ∀ {vs : List V}, AllOk H n vs → ∃ ps, PrsAt H vs ps ∧ ∀ p ∈ ps, okS n p
  | [], _ => ⟨[], .nil, fun _ h => nomatch h⟩
  | v :: r, h => by
    obtain ⟨ps, h1, h2⟩ := AllOk.prs (vs := r) fun x hx => h x (List.mem_cons_of_mem _ hx)
    obtain ⟨a, p, ev, ha, hp⟩ := h v List.mem_cons_self
    exact ⟨p :: ps, .cons ⟨a, ev, ha⟩ h1, fun q hq => (List.mem_cons.mp hq).elim (fun e => e ▸ hp) (h2 q)⟩
theorem HandAt.upd {H : Hp} {h c D : Addr} {o : HO} (hd : HandAt H h c) (nh : D ≠ h) (nc : D ≠ c) : HandAt (upd H D o) h c := by
  obtain ⟨cs, i, b, m, n, h1, h2, h3⟩ := hd.ex
  exact ⟨cs, i, b, m, n, by rw [upd_ne nh.symm]; exact h1, by rw [upd_ne nc.symm]; exact h2, h3⟩
theorem Kp.mut {h D : Addr} {H H' : Hp} {o : HO} (k : Kp h H H') (nD : H D = none) : Kp h H (L2.upd H' D o) := fun b u nb hb => by
  rw [upd_ne (ne_of_none hb nD)]
  exact k _ _ nb hb
theorem HandAt.ne {H : Hp} {h c D : Addr} (hd : HandAt H h c) (nD : H D = none) : D ≠ h ∧ D ≠ c := by
  obtain ⟨cs, i, b, m, n, h1, h2, _⟩ := hd.ex
  exact ⟨(ne_of_none h1 nD).symm, (ne_of_none h2 nD).symm⟩
theorem Kp.none {h c D : Addr} {H H' : Hp} (k : Kp h H H') (hd : HandAt H' h c) (nD : H' D = none) : H D = none := by
  cases e : H D with
  | none => rfl
  | some o =>
    rw [k _ _ (hd.ne nD).1 e] at nD
    cases nD
theorem HandAt.lst {H : Hp} {h c : Addr} (hd : HandAt H h c) : ∃ l, H h = some (.lst l) := by
  obtain ⟨cs, i, b, m, n, h1, _⟩ := hd.ex
  exact ⟨_, h1⟩
theorem HandAt.tne {H : Hp} {h c a : Addr} {xs : List V} (hd : HandAt H h c) (ha : H a = some (.tup xs)) : a ≠ h := by
  obtain ⟨l, hl⟩ := hd.lst
  exact ne_of ha hl (by intro z; cases z)
theorem TiesAt.kp {H H' : Hp} {h c t : Addr} {ps : List (Int × Int)} (hd : HandAt H h c) (k : Kp h H H') (a : TiesAt H t ps) : TiesAt H' t ps := by
  obtain ⟨vs, h1, h2⟩ := a
  exact ⟨vs, k _ _ (hd.tne h1) h1, h2.mono (tup_kp hd k)⟩
theorem seq_nat {j m : Nat} (h : j < m) : seqIndex? (j : Int) m = some j := by
  unfold seqIndex?
  have e : (if ((j : Int)) < 0 then (j : Int) + (m : Int) else (j : Int)) = (j : Int) := if_neg (by omega)
  simp only [e]
  rw [decide_eq_true (show (0 : Int) ≤ (j : Int) by omega), decide_eq_true (show (j : Int) < (m : Int) by omega)]
  rfl
theorem perm_ints {ys : List V} {l : List Int} (h : ys.Perm (l.map V.int)) : ∃ os : List Int, ys = os.map V.int ∧ os.Perm l := by
  let f : V → Int := fun v => match v with | .int k => k | _ => 0
  refine ⟨ys.map f, ?_, ?_⟩
  · rw [List.map_map]
    conv => lhs; rw [← List.map_id ys]
    refine List.map_congr_left fun v hv => ?_
    obtain ⟨k, _, e⟩ := List.mem_map.mp (h.mem_iff.mp hv)
    subst e
    rfl
  · have := h.map f
    rw [List.map_map] at this
    have e : (f ∘ V.int) = id := rfl
    rw [e, List.map_id] at this
    exact this
theorem erase_perm {α : Type} : ∀ {l : List α} {j : Nat} (h : j < l.length), (l[j] :: l.eraseIdx j).Perm l
  | a :: r, 0, _ => .refl _
  | a :: r, j + 1, h => by
    have ih := erase_perm (l := r) (j := j) (Nat.lt_of_succ_lt_succ h)
    show ((r[j]'(Nat.lt_of_succ_lt_succ h)) :: a :: r.eraseIdx j).Perm (a :: r)
    exact (List.Perm.swap a (r[j]'(Nat.lt_of_succ_lt_succ h)) (r.eraseIdx j)).trans (.cons a ih)
def spMixed : Sp := fun vs H Q _ => ∃ (h c L : Addr) (xs : List V), vs = [.ref h, .ref L] ∧ HandAt H h c ∧ H L = some (.lst xs) ∧ L ≠ h ∧ xs.length < 1000 ∧
  ∀ R ys H', Kp h H H' → HandAt H' h c → H R = none → H' R = some (.lst ys) → ys.Perm xs → Q (.ref R) H'
def WbAt (H : Hp) (y t : Addr) (n : Int) (ps : List (Int × Int)) : Prop := H y = some (.tup [.int n, .ref t]) ∧ TiesAt H t ps
theorem WbAt.same {H H' : Hp} {y t : Addr} {n : Int} {ps : List (Int × Int)} (e : Same H H') (h : WbAt H y t n ps) : WbAt H' y t n ps := ⟨e _ _ h.1, h.2.same e⟩
theorem WbAt.kp {H H' : Hp} {h c y t : Addr} {n : Int} {ps : List (Int × Int)} (hd : HandAt H h c) (k : Kp h H H') (a : WbAt H y t n ps) : WbAt H' y t n ps := ⟨k _ _ (hd.tne a.1) a.1, a.2.kp hd k⟩
def spWeb : Sp := fun vs H Q _ => ∃ (h c : Addr), vs = [.ref h, .int 10, .int 16] ∧ HandAt H h c ∧
  ∀ y t n ps H', Kp h H H' → HandAt H' h c → WbAt H' y t n ps → 1 ≤ n → n ≤ 10 → ps.length ≤ 16 → (∀ p ∈ ps, okS n p) → Q (.ref y) H'
def MidW (h c : Addr) (m : Nat) (H : Hp) : L2.St → Hp → Prop := fun σ' H' => ∃ (L : Addr) (acc : List V) (n : Int) (y5 y6 y7 : Option V),
  σ' = [some (.ref h), some (.int 10), some (.int 16), some (.int n), some (.ref L), y5, y6, y7, none] ∧ Kp h H H' ∧ HandAt H' h c ∧ L ≠ h ∧ L ≠ c ∧ H L = none ∧ H' L = some (.lst acc) ∧ acc.length ≤ m ∧ AllOk H' n acc ∧ 1 ≤ n ∧ n ≤ 10
def spByOrder : Sp := fun vs H Q _ => ∃ (h c y t : Addr) (n : Int) (ps : List (Int × Int)), vs = [.ref h, .ref y] ∧ HandAt H h c ∧ WbAt H y t n ps ∧ 1 ≤ n ∧ n ≤ 10 ∧ ps.length ≤ 16 ∧ (∀ p ∈ ps, okS n p) ∧
  ∀ a s H', Kp h H H' → HandAt H' h c → SgAt H' a s → s.length = ps.length → Acy ps s → Q (.ref a) H'
theorem idx_first {os : List Int} {u : Int} (h : u ∈ os) : (os.map V.int)[os.idxOf u]? = some (.int u) ∧ eqV (.int u) (.int u) = true ∧ ∀ (m : Nat) (z' : V), m < os.idxOf u → (os.map V.int)[m]? = some z' → eqV z' (.int u) = false := by
  have l := List.idxOf_lt_length_iff.mpr h
  refine ⟨?_, beq_self_eq_true u, fun m z' hm hz => ?_⟩
  · rw [List.getElem?_map, List.getElem?_eq_getElem l, List.getElem_idxOf]
    rfl
  · have lm : m < os.length := by omega
    rw [List.getElem?_map, List.getElem?_eq_getElem lm] at hz
    have ez : V.int os[m] = z' := Option.some.inj hz
    subst ez
    have := List.not_of_lt_findIdx (p := fun x => x == u) (xs := os) hm
    have e : (os[m] == u) = false := by simpa using this
    exact e
section
variable {P : Program} {w : World} {K : PySem.W.Frag} {mg : Str → Option Value} {base : Heap}
theorem ok_l_mixed (T : Tx K mg) : FnOk P w K mg base CX0 2 T.f_l_mixed T.d_l_mixed ["urn", "things"] spMixed := by
  refine T.F_l_mixed.ok sc_l_mixed (fun vs H Q E h => ?_) (fun cdv A outer s H vs Q E hr h => ?_)
  · obtain ⟨h, c, L, xs, rfl, _⟩ := h
    rfl
  obtain ⟨h, c, L, xs, rfl, hd, hL, Lh, lx, q⟩ := h
  refine ⟨_, (pss_cons (ps_par (i := 2) (j := 3) rfl sc_l_mixed.nd rfl rfl (by decide) rfl rfl (pa_cons (pe_callTy call_list_of (by rfl) T.g_list (by decide +kernel) (pa_cons (pv 1) pa_nil)) (pa_cons (pe_lst pa_nil) pa_nil)) (by rfl))
    (pss_cons (ps_while PassesOwn.never (pt_cmpR op_gt (pe_callB call_len_seq (by rfl) T.g_len PySem.boot_len (pa_cons (pv 2) pa_nil)) pe_int (nomark _))
      (pss_one (ps_expr (pe_bm PySem.F.plainAttrs_list PySem.F.slot_list_append PySem.F.type_list_append mt_append (pv 3) (pa_cons (pe_bm PySem.F.plainAttrs_list PySem.F.slot_list_pop PySem.F.type_list_pop mt_popAt (pv 2) (pa_cons (pe_call (ok_l_pull T) (hr.mono (by decide)) (by rfl) T.m_l_pull T.F_l_pull.kp T.b_l_pull .nil pass0 (pa_cons (pv 0) (pa_cons (pe_callB call_len_seq (by rfl) T.g_len PySem.boot_len (pa_cons (pv 2) pa_nil)) pa_nil))) pa_nil)) pa_nil)))))
    (pss_one (ps_ret (pv 3))))), ?_⟩
  refine ⟨_, rfl, L, xs, rfl, .inl (SqL.of hL), fun A nA => ⟨(by show 0 ≤ sizeLine; decide), fun F nF => ⟨_, _, rfl, ?_⟩⟩⟩
  have s1 : Same H (L2.upd H A (.lst xs)) := same_new nA _
  have hA1 : (L2.upd H A (.lst xs)) A = some (.lst xs) := upd_same
  have Ah := hd.ne nA
  have nHF : H F = none := s1.free nF
  have Fh := hd.ne nHF
  have AF : A ≠ F := ne_of_none hA1 nF
  have s2 := s1.trans (same_new nF (.lst []))
  have hA2 := same_new nF (.lst []) _ _ hA1
  have hF2 : (L2.upd (L2.upd H A (.lst xs)) F (.lst [])) F = some (.lst []) := upd_same
  generalize L2.upd (L2.upd H A (.lst xs)) F (.lst []) = H2 at *
  refine ⟨fun m σ' H' => ∃ ls fs, σ' = [some (.ref h), some (.ref L), some (.ref A), some (.ref F)] ∧ Kp h H H' ∧ HandAt H' h c ∧ H' A = some (.lst ls) ∧ H' F = some (.lst fs) ∧ (fs ++ ls).Perm xs ∧ m = ls.length,
    ⟨xs.length, xs, [], rfl, Same.kp s2, hd.same s2, hA2, hF2, .refl _, rfl⟩, ?_⟩
  intro m σ' H' ⟨ls, fs, e, kk, hd', hA, hF, pe, em⟩
  subst e em
  have ll : fs.length + ls.length = xs.length := by
    have := pe.length_eq
    rw [List.length_append] at this
    exact this
  refine ⟨_, rfl, A, _, rfl, .inl (SqL.of hA), _, 0, rfl, rfl, _, rfl, ite2 (fun e => ?_) (fun e => ?_)⟩
  · have pos : 0 < ls.length := by
      have : ((ls.length : Nat) : Int) > 0 := of_decide_eq_true e
      omega
    refine ⟨fun σ' H' => ∃ ls' fs, σ' = [some (.ref h), some (.ref L), some (.ref A), some (.ref F)] ∧ Kp h H H' ∧ HandAt H' h c ∧ H' A = some (.lst ls') ∧ H' F = some (.lst fs) ∧ (fs ++ ls').Perm xs ∧ ls'.length < ls.length,
      fun σ' H' ⟨ls', fs', e, k', d', a', f', p', lt⟩ => ⟨ls'.length, lt, ls', fs', e, k', d', a', f', p', rfl⟩, ?_⟩
    refine ⟨_, rfl, .inl ⟨rfl, _, SqL.of hF⟩, _, rfl, .inl ⟨rfl, _, SqL.of hA⟩, _, rfl, _, rfl, A, _, rfl, .inl (SqL.of hA), h, c, _, rfl, by omega, by omega, hd', fun d H3 d0 d1 k3 hd3 => ?_⟩
    obtain ⟨j, rfl⟩ := Int.eq_ofNat_of_zero_le d0
    have lj : j < ls.length := by omega
    have hA3 := k3 _ _ Ah.1 hA
    have hF3 := k3 _ _ Fh.1 hF
    refine ⟨A, ls, _, j, ls[j], rfl, rfl, hA3, by omega, by omega, seq_nat lj, List.getElem?_eq_getElem lj, F, fs, _, rfl, rfl, ?_, small1000 (by omega), ?_⟩
    · rw [upd_ne AF.symm]
      exact hF3
    · refine ⟨ls.eraseIdx j, fs ++ [ls[j]], rfl, ((kk.trans k3).mut nA).mut nHF, (hd3.upd Ah.1 Ah.2).upd Fh.1 Fh.2, ?_, upd_same, ?_, ?_⟩
      · rw [upd_ne AF]
        exact upd_same
      · refine .trans ?_ pe
        rw [List.append_assoc]
        exact .append_left fs (erase_perm lj)
      · rw [List.length_eraseIdx_of_lt lj]
        omega
  · have z : ls.length = 0 := by
      have : ¬ ((ls.length : Nat) : Int) > 0 := fun g => e (decide_eq_true g)
      omega
    have el : ls = [] := List.eq_nil_of_length_eq_zero z
    subst el
    rw [List.append_nil] at pe
    exact ⟨_, rfl, q F fs H' kk hd' nHF hF pe⟩
theorem ok_l_web (T : Tx K mg) : FnOk P w K mg base CX0 3 T.f_l_web T.d_l_web ["urn", "most", "top"] spWeb := by
  refine T.F_l_web.ok sc_l_web (fun vs H Q E h => ?_) (fun cdv A outer s H vs Q E hr h => ?_)
  · obtain ⟨h, c, rfl, _⟩ := h
    rfl
  obtain ⟨h, c, rfl, hd, q⟩ := h
  refine ⟨_, (pss_cons (ps_par (i := 3) (j := 4) rfl sc_l_web.nd rfl rfl (by decide) rfl rfl (pa_cons (pe_op op_add pe_int (pe_call (ok_l_pull T) (hr.mono (by decide)) (by rfl) T.m_l_pull T.F_l_pull.kp T.b_l_pull .nil pass0 (pa_cons (pv 0) (pa_cons (pv 1) pa_nil)))) (pa_cons (pe_lst pa_nil) pa_nil)) (by rfl))
    (Evl.pss_cut (ps_if (pt_cmpR op_gt (pe_call (ok_l_pull T) (hr.mono (by decide)) (by rfl) T.m_l_pull T.F_l_pull.kp T.b_l_pull .nil pass0 (pa_cons (pv 0) (pa_cons pe_int pa_nil))) pe_int (nomark _))
      (pss_one (ps_setLc (i := 4) (own := [("place", 8)]) (g := (gName 8)) (tt := tYes) (te := (tTup (tCons (tCall spDraw [] E0 (tCons (tVar 0) (tCons (tVar 8) tNil))) (tCons (tVar 8) tNil)))) rfl sc_l_web.nd rfl rfl (sw_true rfl rfl rfl (by decide +kernel)) (pi_range2 (by rfl) T.g_range (pa_cons pe_int (pa_cons (pv 3) pa_nil))) (blkOk_by (own := [("place", 8)]) (N := N_l_web) (sc := defScope s_l_web) (by decide +kernel)) (fun _ _ _ _ _ => (pg_name (i := 8) sc_l_web.nd rfl (.inl rfl))) (fun _ _ _ _ _ => pts_nil) (fun _ _ _ _ _ => (pe_tup (pa_cons (pe_call (ok_l_pull T) (hr.mono (by decide)) (by rfl) T.m_l_pull T.F_l_pull.kp T.b_l_pull .nil pass0 (pa_cons (pv 0) (pa_cons (pv 8) pa_nil))) (pa_cons (pv 8) pa_nil))))))
      pss_nil)
    (Evl.pss_cut (ps_for PassesOwn.never rfl (pi_range1 (by rfl) T.g_range (pa_cons (pe_ifExp (pt_cmpR op_gt (pv 3) pe_int (nomark _)) (pe_call (ok_l_pull T) (hr.mono (by decide)) (by rfl) T.m_l_pull T.F_l_pull.kp T.b_l_pull .nil pass0 (pa_cons (pv 0) (pa_cons (pe_op op_add (pv 2) pe_int) pa_nil))) pe_int) pa_nil)) (pg_name (i := 5) sc_l_web.nd rfl (.inl rfl))
      (pss_cons (ps_par (i := 6) (j := 7) rfl sc_l_web.nd rfl rfl (by decide) rfl rfl (pa_cons (pe_call (ok_l_pull T) (hr.mono (by decide)) (by rfl) T.m_l_pull T.F_l_pull.kp T.b_l_pull .nil pass0 (pa_cons (pv 0) (pa_cons (pv 3) pa_nil))) (pa_cons (pe_call (ok_l_pull T) (hr.mono (by decide)) (by rfl) T.m_l_pull T.F_l_pull.kp T.b_l_pull .nil pass0 (pa_cons (pv 0) (pa_cons (pv 3) pa_nil))) pa_nil)) (by rfl))
        (pss_one (ps_if (pt_cmpR op_ne (pv 6) (pv 7) (nomark _))
          (pss_one (ps_expr (pe_bm PySem.F.plainAttrs_list PySem.F.slot_list_append PySem.F.type_list_append mt_append (pv 4) (pa_cons (pe_tup (pa_cons (pe_callB (call_min2 rfl) (by rfl) T.g_min (by decide +kernel) (pa_cons (pv 6) (pa_cons (pv 7) pa_nil))) (pa_cons (pe_callB (call_max2 rfl) (by rfl) T.g_max (by decide +kernel) (pa_cons (pv 6) (pa_cons (pv 7) pa_nil))) pa_nil))) pa_nil))))
          (pss_one (ps_if (pt_cmpR op_gt (pe_callB call_len_seq (by rfl) T.g_len PySem.boot_len (pa_cons (pv 4) pa_nil)) pe_int (nomark _))
              (pss_one (ps_expr (pe_bm PySem.F.plainAttrs_list PySem.F.slot_list_append PySem.F.type_list_append mt_append (pv 4) (pa_cons (pe_call (ok_l_any T) (hr.mono (by decide)) (by rfl) T.m_l_any T.F_l_any.kp T.b_l_any .nil pass0 (pa_cons (pv 0) (pa_cons (pv 4) pa_nil))) pa_nil))))
              pss_nil))))))
    (pss_one (ps_ret (pe_tup (pa_cons (pv 3) (pa_cons (pe_callTy call_tuple_of (by rfl) T.g_tuple (by decide +kernel) (pa_cons (pe_call (ok_l_mixed T) (hr.mono (by decide)) (by rfl) T.m_l_mixed T.F_l_mixed.kp T.b_l_mixed .nil pass0 (pa_cons (pv 0) (pa_cons (pe_slice sl_list (pv 4) po_none (po_some (pv 2))) pa_nil))) pa_nil)) pa_nil)))))))), ?_⟩
  refine ⟨_, rfl, _, rfl, h, c, _, rfl, by omega, by omega, hd, fun d H1 d0 d1 k1 hd1 => ⟨1, d, rfl, rfl, (by show 0 ≤ sizeLine; decide), fun L nL => ⟨_, _, rfl, ?_⟩⟩⟩
  have Lh := hd1.ne nL
  have nHL : H L = none := Kp.none k1 hd1 nL
  have sL := same_new nL (.lst [])
  have k2 : Kp h H (L2.upd H1 L (.lst [])) := k1.trans (Same.kp sL)
  have hd2 := hd1.same sL
  have hL2 : (L2.upd H1 L (.lst [])) L = some (.lst []) := upd_same
  generalize L2.upd H1 L (.lst []) = H2 at *
  have n0 : 1 ≤ 1 + d := by omega
  have n1 : 1 + d ≤ 10 := by omega
  obtain ⟨n, en⟩ : ∃ n, 1 + d = n := ⟨_, rfl⟩
  rw [en] at n0 n1
  refine ⟨MidW h c 9 H, ?_, ?_⟩
  · refine ⟨_, rfl, h, c, _, rfl, by omega, by omega, hd2, fun z H3 z0 z1 k3 hd3 => ?_⟩
    have hL3 := k3 _ _ Lh.1 hL2
    refine ⟨_, 0, rfl, rfl, _, rfl, ite2 (fun e => ?_) (fun e => ?_)⟩
    · refine ⟨_, rfl, 1, n, (by subst en; rfl), ⟨by decide, by decide, by omega, by omega⟩, fun D nD => ?_⟩
      have nDh := hd3.ne nD
      have nD0 : H D = none := Kp.none (k2.trans k3) hd3 nD
      refine lc_range (lo := 1) (n := (n - 1).toNat) (fun i H' => Kp h H3 H' ∧ HandAt H' h c ∧ ∃ acc, H' D = some (.lst acc) ∧ acc.length = i ∧ AllOk H' n acc) ⟨Same.kp (same_new nD _), hd3.same (same_new nD _), [], upd_same, rfl, AllOk.nil⟩ ?_ ?_
      · intro i H' hi ⟨kk, hdd, acc, hD, la, pa⟩
        refine ⟨rfl, ?_⟩
        refine ⟨_, rfl, _, rfl, h, c, _, rfl, by omega, by omega, hdd, fun d H2 d0 d1 k2 hd2 => ⟨_, rfl, (by show 2 ≤ sizeLine; decide), fun S nS => ?_⟩⟩
        have hD2 := k2 _ _ nDh.1 hD
        have s3 : Same H2 (L2.upd H2 S (.tup [.int d, .int (1 + (i : Int))])) := same_new nS _
        have hD3 := s3 _ _ hD2
        refine ⟨acc, hD3, small1000 (by omega), (((kk.trans k2).trans (Same.kp s3)).mut nD), (hd2.same s3).upd nDh.1 nDh.2, acc ++ [.ref S], upd_same, by rw [List.length_append, la]; rfl, ?_⟩
        refine AllOk.mono (tup_upd hD3) (AllOk.app (AllOk.mono (tup_same s3) (AllOk.mono (tup_kp hdd k2) pa)) (AllOk.one ⟨S, (d, 1 + (i : Int)), rfl, upd_same, ?_⟩))
        unfold okS
        exact ⟨d0, by show d < 1 + (i : Int); omega, by show 1 + (i : Int) < n; omega⟩
      · intro H' ⟨kk, hdd, acc, hD, la, pa⟩
        exact ⟨D, acc, n, none, none, none, (by subst en; rfl), (k2.trans k3).trans kk, hdd, nDh.1, nDh.2, nD0, hD, by omega, pa, n0, n1⟩
    · exact ⟨L, [], n, none, none, none, (by subst en; rfl), k2.trans k3, hd3, Lh.1, Lh.2, nHL, hL3, by decide, AllOk.nil, n0, n1⟩
  clear hL2 hd2 k2 nHL Lh n0 n1 sL nL k1 hd1 d0 d1
  intro σ' H1 ⟨L, acc, n, y5, y6, y7, e, k1, hd1, Lh, Lc, nHL, hL, la, pa, n0, n1⟩
  subst e
  refine ⟨MidW h c 40 H, ?_, ?_⟩
  · refine ⟨_, rfl, _, 1, rfl, rfl, _, rfl, ite2 (fun e => ?_) (fun e => ?_)⟩
    · refine ⟨_, rfl, _, rfl, 16, 1, rfl, rfl, h, c, _, rfl, by omega, by omega, hd1, fun m H2 m0 m1 k2 hd2 => ⟨m, rfl, by omega, by omega, ?_⟩⟩
      have hL2 := k2 _ _ Lh hL
      refine for_range (lo := 0) (n := m.toNat) (fun i σ H' => ∃ y5 y6 y7 acc, σ = [some (.ref h), some (.int 10), some (.int 16), some (.int n), some (.ref L), y5, y6, y7, none] ∧ Kp h H H' ∧ HandAt H' h c ∧ H' L = some (.lst acc) ∧ acc.length ≤ 9 + i ∧ AllOk H' n acc)
        ⟨_, _, _, acc, rfl, k1.trans k2, hd2, hL2, la, AllOk.mono (tup_kp hd1 k2) pa⟩ ?_ ?_
      · intro i σ H' hi ⟨y5, y6, y7, acc, e, kk, hdd, hL, la, pa⟩
        subst e
        refine ⟨_, rfl, _, rfl, h, c, n, rfl, by omega, by omega, hdd, fun u H3 u0 u1 k3 hd3 => ⟨_, rfl, _, rfl, h, c, n, rfl, by omega, by omega, hd3, fun v H4 v0 v1 k4 hd4 => ⟨_, _, rfl, ?_⟩⟩⟩
        have hL4 := k4 _ _ Lh (k3 _ _ Lh hL)
        have pa4 := AllOk.mono (tup_kp hd3 k4) (AllOk.mono (tup_kp hdd k3) pa)
        have kk4 := (kk.trans k3).trans k4
        refine ⟨_, rfl, _, rfl, rfl, _, rfl, ite2 (fun e => ?_) (fun e => ?_)⟩
        · have ne : u ≠ v := fun z => by
            subst z
            rw [decide_eq_true rfl] at e
            cases e
          refine ⟨_, rfl, .inl ⟨rfl, _, SqL.of hL4⟩, _, rfl, _, rfl, _, _, rfl, _, rfl, _, rfl, _, _, rfl, (by show 2 ≤ sizeLine; decide), fun S nS => ?_⟩
          have s5 := same_new nS (.tup [.int (mn u v), .int (mx u v)])
          refine ⟨L, acc, _, rfl, rfl, s5 _ _ hL4, small1000 (by omega), ?_⟩
          refine ⟨_, _, _, acc ++ [.ref S], rfl, ((kk4.trans (Same.kp s5)).mut nHL), (hd4.same s5).upd Lh Lc, upd_same, by rw [List.length_append]; show acc.length + 1 ≤ _; omega, ?_⟩
          refine AllOk.mono (tup_upd (s5 _ _ hL4)) (AllOk.app (AllOk.mono (tup_same s5) pa4) (AllOk.one ⟨S, (mn u v, mx u v), rfl, upd_same, ?_⟩))
          have o := mn_mx (n := n) u0 v0 u1 v1
          refine ⟨o.1, ?_, o.2.2⟩
          show mn u v < mx u v
          unfold mn mx
          split <;> split <;> omega
        · refine ⟨_, rfl, L, _, rfl, .inl (SqL.of hL4), _, 0, rfl, rfl, _, rfl, ite2 (fun e2 => ?_) (fun e2 => ?_)⟩
          · have pos : 0 < acc.length := by
              have : ((acc.length : Nat) : Int) > 0 := of_decide_eq_true e2
              omega
            refine ⟨_, rfl, .inl ⟨rfl, _, SqL.of hL4⟩, _, rfl, _, rfl, h, c, L, acc, rfl, SqL.of hL4, Lh, pos, by omega, hd4, fun z H5 hz k5 hd5 => ?_⟩
            have hL5 := k5 _ _ Lh hL4
            have pa5 := AllOk.mono (tup_kp hd4 k5) pa4
            refine ⟨L, acc, _, rfl, rfl, hL5, small1000 (by omega), ?_⟩
            refine ⟨_, _, _, acc ++ [z], rfl, (kk4.trans k5).mut nHL, hd5.upd Lh Lc, upd_same, by rw [List.length_append]; show acc.length + 1 ≤ _; omega, ?_⟩
            exact AllOk.mono (tup_upd hL5) (AllOk.app pa5 (AllOk.one (pa5 z hz)))
          · exact ⟨_, _, _, acc, rfl, kk4, hd4, hL4, by omega, pa4⟩
      · intro σ H' ⟨y5, y6, y7, acc, e, kk, hdd, hL, la, pa⟩
        exact ⟨L, acc, n, y5, y6, y7, e, kk, hdd, Lh, Lc, nHL, hL, by omega, pa, n0, n1⟩
    · refine ⟨0, rfl, by omega, by omega, ?_⟩
      refine for_range (lo := 0) (n := (0 : Int).toNat) (fun i σ H' => MidW h c 40 H σ H') ⟨L, acc, n, _, _, _, rfl, k1, hd1, Lh, Lc, nHL, hL, by omega, pa, n0, n1⟩ (fun i σ H' hi => absurd hi (Nat.not_lt_zero i)) fun σ H' hm => hm
  clear hL pa la n0 n1 hd1 k1 Lh Lc nHL
  intro σ' H1 ⟨L, acc, n, y5, y6, y7, e, k1, hd1, Lh, Lc, nHL, hL, la, pa, n0, n1⟩
  subst e
  refine ⟨_, rfl, _, rfl, _, rfl, _, rfl, _, rfl, L, acc, rfl, SqL.of hL, fun Z nZ => ?_⟩
  have sZ := same_new nZ (.lst (cutV acc none (some 16)))
  have ec : cutV acc none (some 16) = acc.take 16 := cut_hi _ _ (by decide)
  have hZ : (L2.upd H1 Z (.lst (cutV acc none (some 16)))) Z = some (.lst (acc.take 16)) := by rw [upd_same, ec]
  have Zh := hd1.ne nZ
  have hd2 := hd1.same sZ
  have pa2 := AllOk.mono (tup_same sZ) pa
  have k2 := k1.trans (Same.kp sZ)
  generalize L2.upd H1 Z (.lst (cutV acc none (some 16))) = H2 at *
  have l16 : (acc.take 16).length ≤ 16 := by
    rw [List.length_take]
    omega
  refine ⟨h, c, Z, _, rfl, hd2, hZ, Zh.1, by omega, fun R ys H3 k3 hd3 nR hR pe => ?_⟩
  have py : AllOk H3 n ys := fun v hv => (AllOk.mono (tup_kp hd2 k3) pa2) v (List.mem_of_mem_take (pe.mem_iff.mp hv))
  refine ⟨R, _, rfl, .inl ⟨SqL.of hR, fun t nt => ⟨(by show 2 ≤ sizeLine; decide), fun y ny => ?_⟩⟩⟩
  have st := same_new nt (.tup ys)
  have sy := same_new ny (.tup [.int n, .ref t])
  have s5 := st.trans sy
  obtain ⟨ps, pp, po⟩ := AllOk.prs py
  have lp := pp.len
  have lq := pe.length_eq
  exact q y t n ps _ ((k2.trans k3).trans (Same.kp s5)) (hd3.same s5) ⟨upd_same, ys, sy _ _ upd_same, pp.same s5⟩ n0 n1 (by omega) po
theorem ok_l_by_order (T : Tx K mg) : FnOk P w K mg base CX0 3 T.f_l_by_order T.d_l_by_order ["urn", "web"] spByOrder := by
  refine T.F_l_by_order.ok sc_l_by_order (fun vs H Q E h => ?_) (fun cdv A outer s H vs Q E hr h => ?_)
  · obtain ⟨h, c, y, t, n, ps, rfl, _⟩ := h
    rfl
  obtain ⟨h, c, y, t, n, ps, rfl, hd, wb, n0, n1, l16, ok, q⟩ := h
  refine ⟨_, (pss_cons (ps_set (i := 2) sc_l_by_order.nd rfl (.inr rfl) (pe_call (ok_l_mixed T) (hr.mono (by decide)) (by rfl) T.m_l_mixed T.F_l_mixed.kp T.b_l_mixed .nil pass0 (pa_cons (pv 0) (pa_cons (pe_listRg rfl (by rfl) T.g_list (prg_1 (by rfl) T.g_range (pe_ix ix_tup (pv 1) pe_int (fun _ _ => rfl)))) pa_nil))))
    (pss_one (ps_ret (pe_callTy call_tuple_of (by rfl) T.g_tuple (by decide +kernel) (pa_cons (pe_lc (own := [("u", 3), ("v", 4)]) (g := (gTup K 2 (gCons (gName 3) (gCons (gName 4) gNil)))) (tt := tYes) (te := (tOp _ (tBM K _ (rIndex K) (tVar 2) (tCons (tVar 3) tNil)) (tBM K _ (rIndex K) (tVar 2) (tCons (tVar 4) tNil)))) rfl sc_l_by_order.nd (pi_tup (pe_ix ix_tup (pv 1) pe_int (fun _ _ => rfl))) (blkOk_by (own := [("u", 3), ("v", 4)]) (N := N_l_by_order) (sc := defScope s_l_by_order) (by decide +kernel)) (fun _ _ _ _ _ => (pg_tup rfl (pgs_cons (pg_name (i := 3) sc_l_by_order.nd rfl (.inl rfl)) (pgs_cons (pg_name (i := 4) sc_l_by_order.nd rfl (.inl rfl)) pgs_nil)))) (fun _ _ _ _ _ => pts_nil) (fun _ _ _ _ _ => (pe_cmpR op_lt (pe_bm PySem.F.plainAttrs_list PySem.F.slot_list_index PySem.F.type_list_index mt_index (pv 2) (pa_cons (pv 3) pa_nil)) (pe_bm PySem.F.plainAttrs_list PySem.F.slot_list_index PySem.F.type_list_index mt_index (pv 2) (pa_cons (pv 4) pa_nil)) (nomark _)))) pa_nil))))), ?_⟩
  refine ⟨_, rfl, _, rfl, y, _, 0, _, rfl, rfl, SqT.of wb.1, atI_nat (j := 0) rfl, n, rfl, RgOk.of_le (by decide) (by omega) (by decide) (by omega), fun D nD => ?_⟩
  rw [rg_rn]
  have sD := same_new nD (.lst ((rn n).map V.int))
  have Dh := hd.ne nD
  refine ⟨h, c, D, _, rfl, hd.same sD, upd_same, Dh.1, ?_, fun R ys H1 k1 hd1 nR hR pe => ?_⟩
  · rw [List.length_map, rn_len]
    omega
  obtain ⟨os, eo, po⟩ := perm_ints pe
  subst eo
  have k01 : Kp h H H1 := (Same.kp sD).trans k1
  have wb1 := wb.kp hd k01
  obtain ⟨vs, htv, hv⟩ := wb1.2
  have lv := hv.len
  have mem : ∀ p ∈ ps, p.1 ∈ os ∧ p.2 ∈ os ∧ p.1 ≠ p.2 := fun p hp => by
    obtain ⟨a, b, c⟩ := ok p hp
    exact ⟨po.mem_iff.mpr (mem_rn.mpr (by omega)), po.mem_iff.mpr (mem_rn.mpr (by omega)), by omega⟩
  refine ⟨_, rfl, y, _, 1, _, rfl, rfl, SqT.of wb1.1, atI_nat (j := 1) rfl, t, rfl, ⟨_, SqT.of htv⟩, fun Z nZ => lc_tup (xs := vs) (fun i H' => Same H1 H' ∧ H' Z = some (.lst (bV ((ps.map fun p => decide (os.idxOf p.1 < os.idxOf p.2)).take i)))) ⟨same_new nZ _, upd_same⟩ (fun i H' _ ⟨sm, _⟩ => SqT.of (sm _ _ htv)) ?_ ?_⟩
  · intro i z H' hi ⟨sm, hZ⟩
    obtain ⟨p, a, hp, ez, ha⟩ := (hv.same sm).get hi
    subst ez
    have hR' := sm _ _ hR
    obtain ⟨m1, m2, ne⟩ := mem p (List.mem_of_getElem? hp)
    obtain ⟨g1, g2, g3⟩ := idx_first m1
    obtain ⟨f1, f2, f3⟩ := idx_first m2
    refine ⟨a, _, rfl, SqT.of ha, rfl, _, _, rfl, _, _, rfl, rfl, rfl, ?_⟩
    refine ⟨_, rfl, .inl ⟨rfl, _, SqL.of hR'⟩, _, rfl, R, _, _, _, _, rfl, rfl, SqL.of hR', rfl, flat_is os, g1, g2, g3, ?_⟩
    refine ⟨_, rfl, .inl ⟨rfl, _, SqL.of hR'⟩, _, rfl, R, _, _, _, _, rfl, rfl, SqL.of hR', rfl, flat_is os, f1, f2, f3, ?_⟩
    refine ⟨_, _, rfl, rfl, _, hZ, small1000 ?_, fun o u ho => ?_, ?_⟩
    · rw [bV_len, List.length_take]
      have := (List.getElem?_eq_some_iff.mp hp).1
      omega
    · rw [upd_ne (ne_of_none ho nZ)]
      exact sm _ _ ho
    · have e : (ps.map fun p => decide (os.idxOf p.1 < os.idxOf p.2))[i]? = some (decide (os.idxOf p.1 < os.idxOf p.2)) := by
        rw [List.getElem?_map, hp]
        rfl
      have e3 : V.bl (decide (((os.idxOf p.1 : Nat) : Int) < ((os.idxOf p.2 : Nat) : Int))) = V.bl (decide (os.idxOf p.1 < os.idxOf p.2)) := by
        by_cases g : os.idxOf p.1 < os.idxOf p.2
        · rw [decide_eq_true g, decide_eq_true (show ((os.idxOf p.1 : Nat) : Int) < ((os.idxOf p.2 : Nat) : Int) by omega)]
        · rw [decide_eq_false g, decide_eq_false (show ¬ ((os.idxOf p.1 : Nat) : Int) < ((os.idxOf p.2 : Nat) : Int) by omega)]
      rw [upd_same, take_snoc e]
      unfold bV
      rw [List.map_append]
      exact congrArg (fun z => some (HO.lst (_ ++ [z]))) e3
  · intro H' ⟨sm, hZ⟩
    rw [List.take_of_length_le (by rw [List.length_map]; omega)] at hZ
    refine ⟨Z, _, rfl, .inl ⟨SqL.of hZ, fun u nu => ?_⟩⟩
    have su := sm.trans (same_new nu (.tup (bV (ps.map fun p => decide (os.idxOf p.1 < os.idxOf p.2)))))
    exact q u _ _ (k01.trans (Same.kp su)) (hd1.same su) upd_same (List.length_map _) (acy_order mem)
end
end K37
set_option Elab.async false
set_option linter.all false
set_option maxRecDepth 100000
set_option maxHeartbeats 4000000
/-! The law's own signings. -/
namespace K37
open PySem L2 Rl
/-- what a drawn web and a signing of it are -/
structure Own (H : Hp) (y t a : Addr) (n : Int) (ps : List (Int × Int)) (s : List Bool) : Prop where
  w : WbAt H y t n ps
  g : SgAt H a s
  l : s.length = ps.length
  l16 : ps.length ≤ 16
  n0 : 1 ≤ n
  n1 : n ≤ 10
  ok : ∀ p ∈ ps, okS n p
theorem Own.same {H H' : Hp} {y t a : Addr} {n : Int} {ps : List (Int × Int)} {s : List Bool} (e : Same H H') (h : Own H y t a n ps s) : Own H' y t a n ps s :=
  ⟨h.w.same e, h.g.same e, h.l, h.l16, h.n0, h.n1, h.ok⟩
def spArrows : Sp := fun vs H Q _ => ∃ (y t a : Addr) (n : Int) (ps : List (Int × Int)) (s : List Bool), vs = [.ref y, .ref a] ∧ Own H y t a n ps s ∧
  ∀ L us H', H L = none → Same H H' → H' L = some (.lst us) → PrsAt H' us (ars ps s) → Q (.ref L) H'
def spRises : Sp := fun vs H Q _ => ∃ (y t a : Addr) (n : Int) (ps : List (Int × Int)) (s : List Bool), vs = [.ref y, .ref a] ∧ Own H y t a n ps s ∧ Acy ps s ∧ ∀ H', Same H H' → Q (.bl true) H'
def spLSrc : Sp := fun vs H Q _ => ∃ (y t a : Addr) (n : Int) (ps : List (Int × Int)) (s : List Bool), vs = [.ref y, .ref a] ∧ Own H y t a n ps s ∧
  ∀ L H', H L = none → Same H H' → H' L = some (.lst ((srcL n ps s).map V.int)) → Q (.ref L) H'
def spLTurned : Sp := fun vs H Q _ => ∃ (y t a : Addr) (n k : Int) (ps : List (Int × Int)) (s : List Bool), vs = [.ref y, .ref a, .int k] ∧ Own H y t a n ps s ∧ ∀ u H', Same H H' → SgAt H' u (trn ps s k) → Q (.ref u) H'
def spMade (C : Addr) : Sp := fun vs H Q _ => ∃ (y t : Addr) (n : Int) (ps : List (Int × Int)), vs = [.ref y] ∧ WbAt H y t n ps ∧ 1 ≤ n ∧ n ≤ 10 ∧ ps.length ≤ 16 ∧ (∀ p ∈ ps, okS n p) ∧
  ∀ x H', H x = none → Same H H' → WebAt C H' x n ps → Q (.ref x) H'
def spSmB : Sp := fun vs H Q _ => ∃ b : Bool, vs = [.bl b, .bl b] ∧ Q (.bl true) H
def spSmT : Sp := fun vs H Q _ => ∃ (a b : Addr) (s : List Bool), vs = [.ref a, .ref b] ∧ SgAt H a s ∧ SgAt H b s ∧ s.length ≤ 1000 ∧ ∀ H', Same H H' → Q (.bl true) H'
section
variable {P : Program} {w : World} {K : PySem.W.Frag} {mg : Str → Option Value} {base : Heap}
theorem ok_l_made (T : Tx K mg) : FnOk P w K mg base CX0 6 T.f_l_made T.d_l_made ["web"] (spMade T.C_Web) := by
  refine T.F_l_made.ok sc_l_made (fun vs H Q E h => ?_) (fun cdv A outer s H vs Q E hr h => ?_)
  · obtain ⟨y, t, n, ps, rfl, _⟩ := h
    rfl
  obtain ⟨y, t, n, ps, rfl, wb, n0, n1, l16, ok, q⟩ := h
  refine ⟨_, (pss_one (ps_ret (pe_make T.mk_Web (ok_webI T) (hr.mono (by decide)) (by rfl) T.m_Web T.b_webI .nil pass0 (pa_cons (pe_ix ix_tup (pv 0) pe_int (fun _ _ => rfl)) (pa_cons (pe_ix ix_tup (pv 0) pe_int (fun _ _ => rfl)) pa_nil))))), ?_⟩
  refine ⟨_, rfl, y, _, 0, _, rfl, rfl, SqT.of wb.1, atI_nat (j := 0) rfl, _, rfl, y, _, 1, _, rfl, rfl, SqT.of wb.1, atI_nat (j := 1) rfl, fun x2 d2 nx nd ne => ?_⟩
  have s0 : Same H (L2.upd (L2.upd H d2 (.own x2)) x2 (.ins T.C_Web d2 [])) := fun b o e => by
    rw [upd_ne (ne_of_none e nx), upd_ne (ne_of_none e nd)]
    exact e
  refine ⟨x2, d2, t, n, ps, rfl, upd_same, n0, n1, wb.2.same s0, l16, fun p hp => (ok p hp).ok, fun H1 k9 hx9 => ⟨rfl, ?_⟩⟩
  have s1 : Same H H1 := fun b o e => k9 b o (s0 b o e) (ne_of_none e nx)
  exact q x2 H1 nx s1 ⟨d2, t, hx9, wb.2.same s1⟩
theorem ok_l_arrows (T : Tx K mg) : FnOk P w K mg base CX0 1 T.f_l_arrows T.d_l_arrows ["web", "signing"] spArrows := by
  refine T.F_l_arrows.ok sc_l_arrows (fun vs H Q E h => ?_) (fun cdv A outer s H vs Q E hr h => ?_)
  · obtain ⟨y, t, a, n, ps, s, rfl, _⟩ := h
    rfl
  obtain ⟨y, t, a, n, ps, s, rfl, S, q⟩ := h
  obtain ⟨hy, vs, htv, hv⟩ := S.w
  have ha : H a = some (.tup (bV s)) := S.g
  have lv := hv.len
  have ls := S.l
  have l16 := S.l16
  have hlen : vs.length = (bV s).length := by rw [bV_len]; omega
  refine ⟨_, (pss_one (ps_ret (pe_lc (own := [("flag", 2), ("u", 3), ("v", 4)]) (g := (gTup K 2 (gCons (gTup K 2 (gCons (gName 3) (gCons (gName 4) gNil))) (gCons (gName 2) gNil)))) (tt := tYes) (te := (tIf (tB (tVar 2)) (tTup (tCons (tVar 3) (tCons (tVar 4) tNil))) (tTup (tCons (tVar 4) (tCons (tVar 3) tNil))))) rfl sc_l_arrows.nd (RZ.pi_zipA (by rfl) T.g_zip (pa_cons (pe_ix ix_tup (pv 0) pe_int (fun _ _ => rfl)) (pa_cons (pv 1) pa_nil))) (blkOk_by (own := [("flag", 2), ("u", 3), ("v", 4)]) (N := N_l_arrows) (sc := defScope s_l_arrows) (by decide +kernel)) (fun _ _ _ _ _ => (pg_tup rfl (pgs_cons (pg_tup rfl (pgs_cons (pg_name (i := 3) sc_l_arrows.nd rfl (.inl rfl)) (pgs_cons (pg_name (i := 4) sc_l_arrows.nd rfl (.inl rfl)) pgs_nil))) (pgs_cons (pg_name (i := 2) sc_l_arrows.nd rfl (.inl rfl)) pgs_nil)))) (fun _ _ _ _ _ => pts_nil) (fun _ _ _ _ _ => (pe_ifExp (pt_val (pv 2)) (pe_tup (pa_cons (pv 3) (pa_cons (pv 4) pa_nil))) (pe_tup (pa_cons (pv 4) (pa_cons (pv 3) pa_nil)))))))), ?_⟩
  refine ⟨_, rfl, y, _, 1, _, rfl, rfl, SqT.of hy, atI_nat (j := 1) rfl, _, rfl, t, a, vs, bV s, rfl, .inr ⟨SqT.of htv, SqT.of ha, fun D nD => ?_⟩⟩
  refine lc_zipT hlen (fun i H' => Same H H' ∧ ∃ us, H' D = some (.lst us) ∧ PrsAt H' us ((ars ps s).take i)) ⟨same_new nD _, [], upd_same, by rw [List.take_zero]; exact .nil⟩ (fun i H' ⟨sm, _⟩ => ⟨SqT.of (sm _ _ htv), SqT.of (sm _ _ ha)⟩) ?_ ?_
  · intro i y z T2 H' hy hz ⟨sm, us, hD, pu⟩ nT
    obtain ⟨p, c, hp, ey, hc⟩ := (hv.same sm).get hy
    subst ey
    obtain ⟨b, hb, ez⟩ := bV_get hz
    subst ez
    have s2 : Same H' (L2.upd H' T2 (.tup [.ref c, .bl b])) := same_new nT _
    refine ⟨T2, _, rfl, SqT.of upd_same, rfl, _, _, rfl, c, _, rfl, SqT.of (s2 _ _ hc), rfl, _, _, rfl, _, _, rfl, rfl, _, _, rfl, rfl, rfl, ?_⟩
    have hD2 := s2 _ _ hD
    have pu2 := pu.same s2
    have sm2 := sm.trans s2
    generalize L2.upd H' T2 (.tup [.ref c, .bl b]) = H2 at *
    have lu := pu2.len
    have lt : i < (ars ps s).length := by
      have := (List.getElem?_eq_some_iff.mp hp).1
      rw [ars_len ls]
      exact this
    have lu2 : us.length < 100 := by
      rw [lu, List.length_take, ars_len ls]
      omega
    have fin : ∀ q : Int × Int, (ars ps s)[i]? = some q → ∀ S2, H2 S2 = none → ∃ acc, (L2.upd H2 S2 (.tup [.int q.1, .int q.2])) D = some (.lst acc) ∧ acc.length < sizeLine ∧ (Same H (L2.upd (L2.upd H2 S2 (.tup [.int q.1, .int q.2])) D (.lst (acc ++ [.ref S2]))) ∧
        ∃ us, (L2.upd (L2.upd H2 S2 (.tup [.int q.1, .int q.2])) D (.lst (acc ++ [.ref S2]))) D = some (.lst us) ∧ PrsAt (L2.upd (L2.upd H2 S2 (.tup [.int q.1, .int q.2])) D (.lst (acc ++ [.ref S2]))) us ((ars ps s).take (i + 1))) := fun q hq S2 nS => by
      have s3 : Same H2 (L2.upd H2 S2 (.tup [.int q.1, .int q.2])) := same_new nS _
      have hD3 := s3 _ _ hD2
      refine ⟨us, hD3, small1000 (by omega), fun o u ho => ?_, us ++ [.ref S2], upd_same, ?_⟩
      · rw [upd_ne (ne_of_none ho nD)]
        exact s3 _ _ (sm2 _ _ ho)
      · rw [take_snoc hq]
        exact ((pu2.same s3).snoc upd_same).upd hD3
    have ag := ars_get hp hb
    cases b with
    | true => exact ⟨_, rfl, true, rfl, iteT ⟨_, rfl, _, rfl, (by show 2 ≤ sizeLine; decide), fun S2 nS => fin _ ag S2 nS⟩⟩
    | false => exact ⟨_, rfl, false, rfl, iteF ⟨_, rfl, _, rfl, (by show 2 ≤ sizeLine; decide), fun S2 nS => fin _ ag S2 nS⟩⟩
  · intro H' ⟨sm, us, hD, pu⟩
    rw [List.take_of_length_le (by rw [ars_len ls]; omega)] at pu
    exact q D us H' nD sm hD pu
theorem ok_l_rises (T : Tx K mg) : FnOk P w K mg base CX0 2 T.f_l_rises T.d_l_rises ["web", "signing"] spRises := by
  refine T.F_l_rises.ok sc_l_rises (fun vs H Q E h => ?_) (fun cdv A outer s H vs Q E hr h => ?_)
  · obtain ⟨y, t, a, n, ps, s, rfl, _⟩ := h
    rfl
  obtain ⟨y, t, a, n, ps, sg, rfl, S, ac, q⟩ := h
  have hy := S.w.1
  have ls := S.l
  have l16 := S.l16
  have n0 := S.n0
  have n1 := S.n1
  refine ⟨_, (pss_cons (ps_asg (pe_tup (pa_cons (pe_listRg rfl (by rfl) T.g_list (prg_1 (by rfl) T.g_range (pe_ix ix_tup (pv 0) pe_int (fun _ _ => rfl)))) (pa_cons (pe_call (ok_l_arrows T) (hr.mono (by decide)) (by rfl) T.m_l_arrows T.F_l_arrows.kp T.b_l_arrows .nil pass0 (pa_cons (pv 0) (pa_cons (pv 1) pa_nil))) pa_nil))) (pg_tup rfl (pgs_cons (pg_name (i := 2) sc_l_rises.nd rfl (by first | exact .inl rfl | exact .inr rfl)) (pgs_cons (pg_name (i := 3) sc_l_rises.nd rfl (by first | exact .inl rfl | exact .inr rfl)) pgs_nil))))
    (pss_cons (ps_for PassesOwn.never rfl (pi_range1 (by rfl) T.g_range (pa_cons (pe_ix ix_tup (pv 0) pe_int (fun _ _ => rfl)) pa_nil)) (pg_name (i := 4) sc_l_rises.nd rfl (.inl rfl))
      (pss_one (ps_asg (pe_lc (own := [("place", 5)]) (g := (gName 5)) (tt := (tB (tCB (rAny K) (tCons (tLc (iList K (tVar 3)) (gTup K 2 (gCons (gName 6) (gCons (gName 7) gNil))) tYes (tAndV (tOp rEq (tVar 7) (tVar 5)) (tOp (rIn K false) (tVar 6) (tVar 2))) [6, 7]) tNil)))) (te := (tVar 5)) rfl sc_l_rises.nd (pi_list (pv 2)) (blkOk_by (own := [("place", 5)]) (N := N_l_rises) (sc := defScope s_l_rises) (by decide +kernel)) (fun _ _ _ _ _ => (pg_name (i := 5) sc_l_rises.nd rfl (by first | exact .inl rfl | exact .inr rfl))) (fun _ _ _ _ _ => (pts_one (pt_val (pe_callB (cr_any rfl) (by rfl) T.g_any (by decide +kernel) (pa_cons (pe_lc (own := [("begin", 6), ("to", 7)]) (g := (gTup K 2 (gCons (gName 6) (gCons (gName 7) gNil)))) (tt := tYes) (te := (tAndV (tOp rEq (tVar 7) (tVar 5)) (tOp (rIn K false) (tVar 6) (tVar 2)))) rfl sc_l_rises.nd (pi_list (pv 3)) (blkOk_by (own := [("begin", 6), ("to", 7)]) (N := N_l_rises) (sc := { kind := .function, names := [(".0", .local), ("place", .cell), ("any", .globalImplicit), ("arrows", .cell), ("left", .cell)], isGenerator := false, isCoroutine := false }) (by decide +kernel)) (fun _ _ _ _ _ => (pg_tup rfl (pgs_cons (pg_name (i := 6) sc_l_rises.nd rfl (.inl rfl)) (pgs_cons (pg_name (i := 7) sc_l_rises.nd rfl (.inl rfl)) pgs_nil)))) (fun _ _ _ _ _ => pts_nil) (fun _ _ _ _ _ => (pe_and (pe_cmpR op_eq (pv 7) (pv 5) (nomark _)) (pe_one (pe_cmpR op_in_seq (pv 6) (pv 2) (by rfl)))))) pa_nil))))) (fun _ _ _ _ _ => (pv 5))) (pg_name (i := 2) sc_l_rises.nd rfl (by first | exact .inl rfl | exact .inr rfl)))))
    (pss_one (ps_ret (pe_cmpR op_eq (pe_callB call_len_seq (by rfl) T.g_len PySem.boot_len (pa_cons (pv 2) pa_nil)) pe_int (nomark _)))))), ?_⟩
  refine ⟨_, rfl, y, _, 0, _, rfl, rfl, SqT.of hy, atI_nat (j := 0) rfl, n, rfl, RgOk.of_le (by decide) (by omega) (by decide) (by omega), fun D nD => ?_⟩
  rw [rg_rn]
  have sD := same_new nD (.lst ((rn n).map V.int))
  have hD : (L2.upd H D (.lst ((rn n).map V.int))) D = some (.lst ((rn n).map V.int)) := upd_same
  generalize L2.upd H D (.lst ((rn n).map V.int)) = H1 at *
  refine ⟨_, rfl, _, rfl, y, t, a, n, ps, sg, rfl, S.same sD, fun G us H2 nG s2 hG pG => ⟨(by show 2 ≤ sizeLine; decide), fun Z nZ => ⟨Z, _, rfl, SqT.of upd_same, rfl, _, _, rfl, _, _, rfl, rfl, ?_⟩⟩⟩
  have sZ := same_new nZ (.tup [.ref D, .ref G])
  have hD3 := sZ _ _ (s2 _ _ hD)
  have hG3 := sZ _ _ hG
  have pG3 := pG.same sZ
  have s3 := (sD.trans s2).trans sZ
  have lu := pG.len
  rw [ars_len ls] at lu
  generalize L2.upd H2 Z (.tup [.ref D, .ref G]) = H3 at *
  clear hD hG pG sD s2 sZ nZ nG nD
  refine ⟨_, rfl, y, _, 0, _, rfl, rfl, SqT.of (s3 _ _ hy), atI_nat (j := 0) rfl, n, rfl, by omega, by omega, ?_⟩
  refine for_range (lo := 0) (n := n.toNat) (fun i σ H' => ∃ (D : Addr) (L : List Int) (y4 : Option V), σ = [some (.ref y), some (.ref a), some (.ref D), some (.ref G), y4, none, none, none] ∧ Same H3 H' ∧ H' D = some (.lst (L.map V.int)) ∧ L.length + i ≤ n.toNat)
    ⟨D, rn n, none, rfl, Same.refl _, hD3, by rw [rn_len]; exact Nat.le_refl _⟩ ?_ ?_
  · intro i σ H' hi ⟨D1, L, y4, e, sm, hD, lL⟩
    subst e
    refine ⟨_, rfl, D1, rfl, ⟨_, SqL.of hD⟩, fun Z nZ => lc_list (xs := L.map V.int) (fun i H2 => Same H' H2 ∧ H2 Z = some (.lst (((L.take i).filter fun k => (ars ps sg).any (cnd L k)).map V.int))) ⟨same_new nZ _, upd_same⟩ (fun i H2 _ ⟨s2, _⟩ => SqL.of (s2 _ _ hD)) ?_ ?_⟩
    · intro i y H2 hi ⟨s2, hZ⟩
      obtain ⟨k, hk, ey⟩ := mint hi
      subst ey
      have hG2 := s2 _ _ (sm _ _ hG3)
      have pG2 := pG3.same (sm.trans s2)
      have hD2 := s2 _ _ hD
      have lG := pG2.len
      refine ⟨rfl, ?_⟩
      refine ⟨_, rfl, G, rfl, ⟨_, SqL.of hG2⟩, fun Y nY => lc_list (xs := us) (fun j H3 => Same H2 H3 ∧ H3 Y = some (.lst ((((ars ps sg).take j).map (cnd L k)).map V.bl))) ⟨same_new nY _, upd_same⟩ (fun j H3 _ ⟨s3, _⟩ => SqL.of (s3 _ _ hG2)) ?_ ?_⟩
      · intro j z H3 hj ⟨s3, hY⟩
        obtain ⟨p, a, hp, ez, ha⟩ := (pG2.same s3).get hj
        subst ez
        have hD3 := s3 _ _ hD2
        have fin : ∀ b : Bool, b = cnd L k p → ∃ acc, H3 Y = some (.lst acc) ∧ acc.length < sizeLine ∧ (Same H2 (L2.upd H3 Y (.lst (acc ++ [.bl b]))) ∧ (L2.upd H3 Y (.lst (acc ++ [.bl b]))) Y = some (.lst ((((ars ps sg).take (j + 1)).map (cnd L k)).map V.bl))) := fun b eb => by
          refine ⟨_, hY, small1000 ?_, fun o u ho => ?_, ?_⟩
          · rw [List.length_map, List.length_map, List.length_take]
            omega
          · rw [upd_ne (ne_of_none ho nY)]
            exact s3 _ _ ho
          · rw [upd_same, take_snoc hp, List.map_append, List.map_append, eb]
            rfl
        refine ⟨a, _, rfl, SqT.of ha, rfl, _, _, rfl, _, _, rfl, rfl, rfl, ?_⟩
        refine ⟨_, rfl, _, rfl, rfl, _, rfl, ?_⟩
        rw [dec_vint]
        by_cases c2 : p.2 = k
        · rw [decide_eq_true c2]
          refine iteT ⟨_, rfl, _, rfl, D1, _, rfl, .inl (SqL.of hD3), rfl, flat_is L, fin _ ?_⟩
          unfold cnd
          rw [if_neg Bool.false_ne_true, in_ints, decide_eq_true c2, Bool.and_true]
        · rw [decide_eq_false c2]
          refine iteF (fin _ ?_)
          unfold cnd
          rw [decide_eq_false c2, Bool.and_false]
      · intro H3 ⟨s3, hY⟩
        rw [List.take_of_length_le (by omega)] at hY
        refine ⟨Y, _, rfl, SqL.of hY, _, rfl, ?_⟩
        rw [any_cnd]
        have fs := filt_snoc (fun k => (ars ps sg).any (cnd L k)) hk
        have s23 := s2.trans s3
        have hZ3 := s3 _ _ hZ
        cases c : (ars ps sg).any (cnd L k) with
        | true =>
          refine iteT ⟨_, rfl, _, hZ3, small1000 ?_, fun o u ho => ?_, ?_⟩
          · rw [List.length_map]
            have := List.length_filter_le (fun k => (ars ps sg).any (cnd L k)) (L.take i)
            rw [List.length_take] at this
            omega
          · rw [upd_ne (ne_of_none ho nZ)]
            exact s23 _ _ ho
          · rw [upd_same, fs, if_pos c, List.map_append]
            rfl
        | false =>
          refine iteF ⟨s23, ?_⟩
          rw [fs, if_neg (by rw [c]; exact Bool.false_ne_true), List.append_nil]
          exact hZ3
    · intro H2 ⟨s2, hZ⟩
      rw [List.length_map, List.take_of_length_le (Nat.le_refl _), ← kp_cnd] at hZ
      refine ⟨Z, _, _, rfl, sm.trans s2, hZ, ?_⟩
      by_cases c : L = []
      · subst c
        show 0 + (i + 1) ≤ _
        omega
      · have lt := kp_lt ac c
        omega
  · intro σ H' ⟨D1, L, y4, e, sm, hD, lL⟩
    subst e
    have z : L = [] := List.eq_nil_of_length_eq_zero (by omega)
    subst z
    refine ⟨_, rfl, D1, _, rfl, .inl (SqL.of hD), rfl, ?_⟩
    exact q H' (s3.trans sm)
theorem ok_l_sources (T : Tx K mg) : FnOk P w K mg base CX0 2 T.f_l_sources T.d_l_sources ["web", "signing"] spLSrc := by
  refine T.F_l_sources.ok sc_l_sources (fun vs H Q E h => ?_) (fun cdv A outer s H vs Q E hr h => ?_)
  · obtain ⟨y, t, a, n, ps, s, rfl, _⟩ := h
    rfl
  obtain ⟨y, t, a, n, ps, s, rfl, S, q⟩ := h
  have hy := S.w.1
  have ls := S.l
  have l16 := S.l16
  have n0 := S.n0
  have n1 := S.n1
  refine ⟨_, (pss_cons (ps_asg (pe_lc (own := [("begin", 3), ("to", 4)]) (g := (gTup K 2 (gCons (gName 3) (gCons (gName 4) gNil)))) (tt := tYes) (te := (tVar 4)) rfl sc_l_sources.nd (pi_list (pe_call (ok_l_arrows T) (hr.mono (by decide)) (by rfl) T.m_l_arrows T.F_l_arrows.kp T.b_l_arrows .nil pass0 (pa_cons (pv 0) (pa_cons (pv 1) pa_nil)))) (blkOk_by (own := [("begin", 3), ("to", 4)]) (N := N_l_sources) (sc := defScope s_l_sources) (by decide +kernel)) (fun _ _ _ _ _ => (pg_tup rfl (pgs_cons (pg_name (i := 3) sc_l_sources.nd rfl (.inl rfl)) (pgs_cons (pg_name (i := 4) sc_l_sources.nd rfl (.inl rfl)) pgs_nil)))) (fun _ _ _ _ _ => pts_nil) (fun _ _ _ _ _ => (pv 4))) (pg_name (i := 2) sc_l_sources.nd rfl (by first | exact .inl rfl | exact .inr rfl)))
    (pss_one (ps_ret (pe_lc (own := [("place", 5)]) (g := (gName 5)) (tt := (tTest (tOp (rIn K true) (tVar 5) (tVar 2)))) (te := (tVar 5)) rfl sc_l_sources.nd (pi_range1 (by rfl) T.g_range (pa_cons (pe_ix ix_tup (pv 0) pe_int (fun _ _ => rfl)) pa_nil)) (blkOk_by (own := [("place", 5)]) (N := N_l_sources) (sc := defScope s_l_sources) (by decide +kernel)) (fun _ _ _ _ _ => (pg_name (i := 5) sc_l_sources.nd rfl (.inl rfl))) (fun _ _ _ _ _ => (pts_one (pt_cmpR op_notIn_seq (pv 5) (pv 2) (by rfl)))) (fun _ _ _ _ _ => (pv 5)))))), ?_⟩
  refine ⟨_, rfl, _, rfl, y, t, a, n, ps, s, rfl, S, fun G us H2 nG s2 hG pG => ?_⟩
  have lu := pG.len
  rw [ars_len ls] at lu
  refine ⟨G, rfl, ⟨_, SqL.of hG⟩, fun D nD => lc_list (xs := us) (fun i H3 => Same H2 H3 ∧ H3 D = some (.lst (((tos ps s).take i).map V.int))) ⟨same_new nD _, upd_same⟩ (fun i H3 _ ⟨s3, _⟩ => SqL.of (s3 _ _ hG)) ?_ ?_⟩
  · intro i y H3 hi ⟨s3, hD⟩
    obtain ⟨p, c, hp, ey, hc⟩ := (pG.same s3).get hi
    subst ey
    have et : (tos ps s)[i]? = some p.2 := by
      unfold tos
      rw [List.getElem?_map, hp]
      rfl
    refine ⟨c, _, rfl, SqT.of hc, rfl, _, _, rfl, _, _, rfl, rfl, rfl, ?_⟩
    refine ⟨_, rfl, _, hD, small1000 ?_, fun o u ho => ?_, ?_⟩
    · rw [List.length_map, List.length_take]
      have := (List.getElem?_eq_some_iff.mp hi).1
      omega
    · rw [upd_ne (ne_of_none ho nD)]
      exact s3 _ _ ho
    · rw [upd_same, take_snoc et, List.map_append]
      rfl
  · intro H3 ⟨s3, hD⟩
    have lt : (tos ps s).length = us.length := by
      unfold tos
      rw [List.length_map, ars_len ls, lu]
    rw [List.take_of_length_le (by omega)] at hD
    have s13 := s2.trans s3
    refine ⟨_, rfl, y, _, 0, _, rfl, rfl, SqT.of (s13 _ _ hy), atI_nat (j := 0) rfl, n, rfl, by omega, by omega, fun Z nZ => ?_⟩
    have nHZ : H Z = none := s13.free nZ
    refine lc_range (lo := 0) (n := n.toNat) (fun i H4 => Same H3 H4 ∧ H4 Z = some (.lst ((((rn n).take i).filter fun k => !decide (k ∈ tos ps s)).map V.int))) ⟨same_new nZ _, upd_same⟩ ?_ ?_
    · intro i H4 hi ⟨s4, hZ⟩
      have e0 : (0 : Int) + (i : Int) = (i : Int) := Int.zero_add _
      have er := rn_get hi
      have fs := filt_snoc (fun k => !decide (k ∈ tos ps s)) er
      have hD4 := s4 _ _ hD
      refine ⟨rfl, ?_⟩
      refine ⟨_, rfl, _, rfl, D, _, rfl, .inl (SqL.of hD4), rfl, flat_is _, _, rfl, ?_⟩
      rw [if_pos rfl, in_ints, e0]
      cases c : !decide ((i : Int) ∈ tos ps s) with
      | true =>
        refine iteT ⟨_, rfl, _, hZ, small1000 ?_, fun o u ho => ?_, ?_⟩
        · rw [List.length_map]
          have := List.length_filter_le (fun k => !decide (k ∈ tos ps s)) ((rn n).take i)
          rw [List.length_take] at this
          omega
        · rw [upd_ne (ne_of_none ho nZ)]
          exact s4 _ _ ho
        · rw [upd_same, fs, if_pos c, List.map_append]
          rfl
      | false =>
        refine iteF ⟨s4, ?_⟩
        rw [fs, if_neg (by rw [c]; exact Bool.false_ne_true), List.append_nil]
        exact hZ
    · intro H4 ⟨s4, hZ⟩
      rw [List.take_of_length_le (by rw [rn_len]; exact Nat.le_refl _)] at hZ
      exact q Z H4 nHZ (s13.trans s4) hZ
theorem ok_l_turned (T : Tx K mg) : FnOk P w K mg base CX0 1 T.f_l_turned T.d_l_turned ["web", "signing", "place"] spLTurned := by
  refine T.F_l_turned.ok sc_l_turned (fun vs H Q E h => ?_) (fun cdv A outer s H vs Q E hr h => ?_)
  · obtain ⟨y, t, a, n, k, ps, s, rfl, _⟩ := h
    rfl
  obtain ⟨y, t, a, n, k, ps, s, rfl, S, q⟩ := h
  obtain ⟨hy, vs, htv, hv⟩ := S.w
  have ha : H a = some (.tup (bV s)) := S.g
  have lv := hv.len
  have ls := S.l
  have l16 := S.l16
  have hlen : vs.length = (bV s).length := by rw [bV_len]; omega
  refine ⟨_, (pss_one (ps_ret (pe_callTy call_tuple_of (by rfl) T.g_tuple (by decide +kernel) (pa_cons (pe_lc (own := [("flag", 4), ("tie", 3)]) (g := (gTup K 2 (gCons (gName 3) (gCons (gName 4) gNil)))) (tt := tYes) (te := (tOp _ (tVar 4) (tOp (rIn K false) (tVar 2) (tVar 3)))) rfl sc_l_turned.nd (RZ.pi_zipA (by rfl) T.g_zip (pa_cons (pe_ix ix_tup (pv 0) pe_int (fun _ _ => rfl)) (pa_cons (pv 1) pa_nil))) (blkOk_by (own := [("flag", 4), ("tie", 3)]) (N := N_l_turned) (sc := defScope s_l_turned) (by decide +kernel)) (fun _ _ _ _ _ => (pg_tup rfl (pgs_cons (pg_name (i := 3) sc_l_turned.nd rfl (.inl rfl)) (pgs_cons (pg_name (i := 4) sc_l_turned.nd rfl (.inl rfl)) pgs_nil)))) (fun _ _ _ _ _ => pts_nil) (fun _ _ _ _ _ => (pe_cmpR op_ne (pv 4) (pe_cmpR op_in_seq (pv 2) (pv 3) (by rfl)) (nomark _)))) pa_nil)))), ?_⟩
  refine ⟨_, rfl, y, _, 1, _, rfl, rfl, SqT.of hy, atI_nat (j := 1) rfl, _, rfl, t, a, vs, bV s, rfl, .inr ⟨SqT.of htv, SqT.of ha, fun D nD => ?_⟩⟩
  refine lc_zipT hlen (fun i H' => Same H H' ∧ H' D = some (.lst (bV ((trn ps s k).take i)))) ⟨same_new nD _, upd_same⟩ (fun i H' ⟨sm, _⟩ => ⟨SqT.of (sm _ _ htv), SqT.of (sm _ _ ha)⟩) ?_ ?_
  · intro i y z T2 H' hy hz ⟨sm, hD⟩ nT
    obtain ⟨p, c, hp, ey, hc⟩ := (hv.same sm).get hy
    subst ey
    obtain ⟨b, hb, ez⟩ := bV_get hz
    subst ez
    have s2 : Same H' (L2.upd H' T2 (.tup [.ref c, .bl b])) := same_new nT _
    refine ⟨T2, _, rfl, SqT.of upd_same, rfl, _, _, rfl, _, _, rfl, rfl, rfl, ?_⟩
    have hD2 := s2 _ _ hD
    have hc2 := s2 _ _ hc
    have sm2 := sm.trans s2
    generalize L2.upd H' T2 (.tup [.ref c, .bl b]) = H2 at *
    refine ⟨_, rfl, _, rfl, _, rfl, c, _, rfl, .inr (SqT.of hc2), rfl, rfl, rfl, ?_⟩
    rw [if_neg Bool.false_ne_true, in_pr, bne_bl]
    refine ⟨_, hD2, small1000 ?_, fun o u ho => ?_, ?_⟩
    · rw [bV_len, List.length_take]
      have := (List.getElem?_eq_some_iff.mp hp).1
      omega
    · rw [upd_ne (ne_of_none ho nD)]
      exact sm2 _ _ ho
    · rw [upd_same, take_snoc (trn_get (k := k) hp hb)]
      unfold bV
      rw [List.map_append]
      rfl
  · intro H' ⟨sm, hD⟩
    rw [List.take_of_length_le (by rw [trn_len ls]; omega)] at hD
    refine ⟨D, _, rfl, .inl ⟨SqL.of hD, fun t2 nt => ?_⟩⟩
    exact q t2 _ (sm.trans (same_new nt _)) upd_same
theorem same_none (T : Tx K mg) : FnOk P w K mg base CX0 0 T.f_l_same T.d_l_same ["told", "due"] spNo :=
  ⟨fun vs H Q E h => h.elim, fun A outer s H args us vs Q E _ _ _ _ h => h.elim⟩
theorem same_flag (T : Tx K mg) : FnOk P w K mg base CX0 1 T.f_l_same T.d_l_same ["told", "due"] spSmB := by
  refine T.F_l_same.ok sc_l_same (fun vs H Q E h => ?_) (fun cdv A outer s H vs Q E hr h => ?_)
  · obtain ⟨b, rfl, _⟩ := h
    rfl
  obtain ⟨b, rfl, q⟩ := h
  have G := same_none (P := P) (w := w) (base := base) T
  refine ⟨_, (pss_cons (ps_if (pt_val (pe_callB call_isi (by rfl) T.g_isinstance (by decide +kernel) (pa_cons (pv 1) (pa_cons (pe_bltn (v := .ty "tuple") (by rfl) T.g_tuple (by decide +kernel) rfl) pa_nil))))
      (pss_cons (ps_if (PW.pt (pw_or (pt_not (pt_val (pe_callB call_isi (by rfl) T.g_isinstance (by decide +kernel) (pa_cons (pv 0) (pa_cons (pe_bltn (v := .ty "tuple") (by rfl) T.g_tuple (by decide +kernel) rfl) pa_nil))))) (pw_or1 (pt_cmpR op_ne (pe_callB call_len_seq (by rfl) T.g_len PySem.boot_len (pa_cons (pv 0) pa_nil)) (pe_callB call_len_seq (by rfl) T.g_len PySem.boot_len (pa_cons (pv 1) pa_nil)) (nomark _)))))
          (pss_one (ps_ret pe_bl))
          pss_nil)
        (pss_one (ps_ret (pe_callB (cr_all rfl) (by rfl) T.g_all (by decide +kernel) (pa_cons (pe_lc (own := [("one", 2), ("other", 3)]) (g := (gTup K 2 (gCons (gName 2) (gCons (gName 3) gNil)))) (tt := tYes) (te := (tCall spNo [] E0 (tCons (tVar 2) (tCons (tVar 3) tNil)))) rfl sc_l_same.nd (RZ.pi_zipA (by rfl) T.g_zip (pa_cons (pv 0) (pa_cons (pv 1) pa_nil))) (blkOk_by (own := [("one", 2), ("other", 3)]) (N := N_l_same) (sc := defScope s_l_same) (by decide +kernel)) (fun _ _ _ _ _ => (pg_tup rfl (pgs_cons (pg_name (i := 2) sc_l_same.nd rfl (.inl rfl)) (pgs_cons (pg_name (i := 3) sc_l_same.nd rfl (.inl rfl)) pgs_nil)))) (fun _ _ _ _ _ => pts_nil) (fun _ _ _ _ _ => (pe_call G (hr.mono (by decide)) (by rfl) T.m_l_same T.F_l_same.kp T.b_l_same .nil pass0 (pa_cons (pv 2) (pa_cons (pv 3) pa_nil))))) pa_nil)))))
      pss_nil)
    (pss_cons (ps_if (PW.pt (pw_or (pt_cmpR op_ne (pe_callB call_isi (by rfl) T.g_isinstance (by decide +kernel) (pa_cons (pv 0) (pa_cons (pe_bltn (v := .ty "int") (by rfl) T.g_int (by decide +kernel) rfl) pa_nil))) (pe_callB call_isi (by rfl) T.g_isinstance (by decide +kernel) (pa_cons (pv 1) (pa_cons (pe_bltn (v := .ty "int") (by rfl) T.g_int (by decide +kernel) rfl) pa_nil))) (nomark _)) (pw_or1 (pt_cmpR op_ne (pe_callB call_isi (by rfl) T.g_isinstance (by decide +kernel) (pa_cons (pv 0) (pa_cons (pe_bltn (v := .ty "bool") (by rfl) T.g_bool (by decide +kernel) rfl) pa_nil))) (pe_callB call_isi (by rfl) T.g_isinstance (by decide +kernel) (pa_cons (pv 1) (pa_cons (pe_bltn (v := .ty "bool") (by rfl) T.g_bool (by decide +kernel) rfl) pa_nil))) (nomark _)))))
      (pss_one (ps_ret pe_bl))
      pss_nil)
    (pss_one (ps_ret (pe_cmpR op_eq (pv 0) (pv 1) (nomark _)))))), ?_⟩
  refine ⟨_, rfl, _, _, _, _, _, rfl, .ty _, .base (.bl b), kit_ty (r := false) (by decide +kernel), false, rfl, iteF ?_⟩
  refine ⟨_, rfl, _, _, _, _, _, rfl, .ty _, .base (.bl b), kit_ty (r := true) (by decide +kernel), _, rfl, _, _, _, _, _, rfl, .ty _, .base (.bl b), kit_ty (r := true) (by decide +kernel), rfl, _, rfl, ?_⟩
  refine iteNS rfl ?_
  refine ⟨_, rfl, _, _, _, _, _, rfl, .ty _, .base (.bl b), kit_ty (r := true) (by decide +kernel), _, rfl, _, _, _, _, _, rfl, .ty _, .base (.bl b), kit_ty (r := true) (by decide +kernel), rfl, _, rfl, ?_⟩
  refine iteNS rfl ?_
  refine ⟨_, rfl, _, rfl, rfl, ?_⟩
  rw [decide_eq_true rfl]
  exact q
theorem ok_l_same (T : Tx K mg) : FnOk P w K mg base CX0 2 T.f_l_same T.d_l_same ["told", "due"] spSmT := by
  refine T.F_l_same.ok sc_l_same (fun vs H Q E h => ?_) (fun cdv A outer s H vs Q E hr h => ?_)
  · obtain ⟨a, b, s, rfl, _⟩ := h
    rfl
  obtain ⟨a, b, s, rfl, ha, hb, hl, q⟩ := h
  have ha : H a = some (.tup (bV s)) := ha
  have hb : H b = some (.tup (bV s)) := hb
  have G := same_flag (P := P) (w := w) (base := base) T
  refine ⟨_, (pss_cons (ps_if (pt_val (pe_callB call_isi (by rfl) T.g_isinstance (by decide +kernel) (pa_cons (pv 1) (pa_cons (pe_bltn (v := .ty "tuple") (by rfl) T.g_tuple (by decide +kernel) rfl) pa_nil))))
      (pss_cons (ps_if (PW.pt (pw_or (pt_not (pt_val (pe_callB call_isi (by rfl) T.g_isinstance (by decide +kernel) (pa_cons (pv 0) (pa_cons (pe_bltn (v := .ty "tuple") (by rfl) T.g_tuple (by decide +kernel) rfl) pa_nil))))) (pw_or1 (pt_cmpR op_ne (pe_callB call_len_seq (by rfl) T.g_len PySem.boot_len (pa_cons (pv 0) pa_nil)) (pe_callB call_len_seq (by rfl) T.g_len PySem.boot_len (pa_cons (pv 1) pa_nil)) (nomark _)))))
          (pss_one (ps_ret pe_bl))
          pss_nil)
        (pss_one (ps_ret (pe_callB (cr_all rfl) (by rfl) T.g_all (by decide +kernel) (pa_cons (pe_lc (own := [("one", 2), ("other", 3)]) (g := (gTup K 2 (gCons (gName 2) (gCons (gName 3) gNil)))) (tt := tYes) (te := (tCall spSmB [] E0 (tCons (tVar 2) (tCons (tVar 3) tNil)))) rfl sc_l_same.nd (RZ.pi_zipA (by rfl) T.g_zip (pa_cons (pv 0) (pa_cons (pv 1) pa_nil))) (blkOk_by (own := [("one", 2), ("other", 3)]) (N := N_l_same) (sc := defScope s_l_same) (by decide +kernel)) (fun _ _ _ _ _ => (pg_tup rfl (pgs_cons (pg_name (i := 2) sc_l_same.nd rfl (.inl rfl)) (pgs_cons (pg_name (i := 3) sc_l_same.nd rfl (.inl rfl)) pgs_nil)))) (fun _ _ _ _ _ => pts_nil) (fun _ _ _ _ _ => (pe_call G (hr.mono (by decide)) (by rfl) T.m_l_same T.F_l_same.kp T.b_l_same .nil pass0 (pa_cons (pv 2) (pa_cons (pv 3) pa_nil))))) pa_nil)))))
      pss_nil)
    (pss_cons (ps_if (PW.pt (pw_or (pt_cmpR op_ne (pe_callB call_isi (by rfl) T.g_isinstance (by decide +kernel) (pa_cons (pv 0) (pa_cons (pe_bltn (v := .ty "int") (by rfl) T.g_int (by decide +kernel) rfl) pa_nil))) (pe_callB call_isi (by rfl) T.g_isinstance (by decide +kernel) (pa_cons (pv 1) (pa_cons (pe_bltn (v := .ty "int") (by rfl) T.g_int (by decide +kernel) rfl) pa_nil))) (nomark _)) (pw_or1 (pt_cmpR op_ne (pe_callB call_isi (by rfl) T.g_isinstance (by decide +kernel) (pa_cons (pv 0) (pa_cons (pe_bltn (v := .ty "bool") (by rfl) T.g_bool (by decide +kernel) rfl) pa_nil))) (pe_callB call_isi (by rfl) T.g_isinstance (by decide +kernel) (pa_cons (pv 1) (pa_cons (pe_bltn (v := .ty "bool") (by rfl) T.g_bool (by decide +kernel) rfl) pa_nil))) (nomark _)))))
      (pss_one (ps_ret pe_bl))
      pss_nil)
    (pss_one (ps_ret (pe_cmpR op_eq (pv 0) (pv 1) (nomark _)))))), ?_⟩
  refine ⟨_, rfl, _, _, _, _, _, rfl, .ty _, .base (.tup hb), kit_ty (r := true) (by decide +kernel), true, rfl, iteT ?_⟩
  refine ⟨_, rfl, _, _, _, _, _, rfl, .ty _, .base (.tup ha), kit_ty (r := true) (by decide +kernel), true, rfl, iteF ?_⟩
  refine ⟨_, rfl, a, _, rfl, .inr (SqT.of ha), _, rfl, b, _, rfl, .inr (SqT.of hb), rfl, _, rfl, ?_⟩
  refine iteNS rfl ?_
  refine ⟨_, rfl, _, rfl, a, b, bV s, bV s, rfl, .inr ⟨SqT.of ha, SqT.of hb, fun D nD => ?_⟩⟩
  refine lc_zipT rfl (fun i H' => Same H H' ∧ H' D = some (.lst ((List.replicate i true).map V.bl))) ⟨same_new nD _, upd_same⟩ (fun i H' ⟨sm, _⟩ => ⟨SqT.of (sm _ _ ha), SqT.of (sm _ _ hb)⟩) ?_ ?_
  · intro i y z T2 H' hy hz ⟨sm, hD⟩ nT
    rw [hy] at hz
    cases hz
    obtain ⟨f, hf, ey⟩ := bV_get hy
    subst ey
    have s2 : Same H' (L2.upd H' T2 (.tup [.bl f, .bl f])) := same_new nT _
    refine ⟨T2, _, rfl, SqT.of upd_same, rfl, _, _, rfl, _, _, rfl, rfl, rfl, ?_⟩
    have hD2 := s2 _ _ hD
    have sm2 := sm.trans s2
    generalize L2.upd H' T2 (.tup [.bl f, .bl f]) = H2 at *
    refine ⟨_, rfl, _, rfl, f, rfl, _, hD2, small1000 ?_, fun o u ho => ?_, ?_⟩
    · rw [List.length_map, List.length_replicate]
      have := (List.getElem?_eq_some_iff.mp hf).1
      omega
    · rw [upd_ne (ne_of_none ho nD)]
      exact sm2 _ _ ho
    · rw [upd_same, List.replicate_succ', List.map_append]
      rfl
  · intro H' ⟨sm, hD⟩
    refine ⟨D, _, rfl, SqL.of hD, ?_⟩
    have e2 : (List.replicate (bV s).length true).all id = true := by
      rw [List.all_replicate]
      cases (bV s).length <;> rfl
    rw [e2]
    exact q H' sm
end
end K37
set_option Elab.async false
set_option linter.all false
set_option maxRecDepth 100000
set_option maxHeartbeats 8000000
/-! Each place turned once; the law. -/
namespace K37
open PySem L2 Rl
def spRoundAbout : Sp := fun vs H Q _ => ∃ (y t a : Addr) (n : Int) (ps : List (Int × Int)) (s : List Bool), vs = [.ref y, .ref a] ∧ Own H y t a n ps s ∧ Acy ps s ∧
  ∀ u row H', Same H H' → H' u = some (.tup (row.map V.int)) → Runs n ps s row s → Q (.ref u) H'
structure Inv (n : Int) (ps : List (Int × Int)) (s : List Bool) (i : Nat) (cur : List Bool) (lf row : List Int) : Prop where
  e : cur = sg ps s lf
  nd : lf.Nodup
  rg : ∀ x ∈ lf, 0 ≤ x ∧ x < n
  l1 : lf.length + i = n.toNat
  l2 : row.length = i
  ru : Runs n ps s row cur
  rk : ∃ (r : Int → Int) (B : Int), (∀ x, r x < B) ∧ Ranked ps cur r ∧ ∀ x ∈ lf, ∀ y, 0 ≤ y → y < n → y ∉ lf → r x < r y
theorem Inv.ac {n : Int} {ps : List (Int × Int)} {s cur : List Bool} {i : Nat} {lf row : List Int} (h : Inv n ps s i cur lf row) : Acy ps cur := by
  obtain ⟨r, B, a, b, _⟩ := h.rk
  exact ⟨r, B, a, b⟩
theorem Inv.start {n : Int} {ps : List (Int × Int)} {s : List Bool} (hl : s.length = ps.length) (ok : ∀ p ∈ ps, okS n p) (ac : Acy ps s) : Inv n ps s 0 s (rn n) [] := by
  obtain ⟨r, B, hB, hr⟩ := ac
  refine ⟨(sg_full hl fun p hp => ?_).symm, (rn_sorted n).imp fun h e => by omega, fun x hx => mem_rn.mp hx, rn_len n, rfl, rfl, r, B, hB, hr, fun x _ y y0 y1 c => absurd (mem_rn.mpr ⟨y0, y1⟩) c⟩
  obtain ⟨a, b, c⟩ := ok p hp
  exact ⟨mem_rn.mpr (by omega), mem_rn.mpr (by omega)⟩
theorem Inv.src {n : Int} {ps : List (Int × Int)} {s cur : List Bool} {i : Nat} {lf row : List Int} (h : Inv n ps s i cur lf row) (ok : ∀ p ∈ ps, okS n p) (hne : lf ≠ []) : (lf.filter fun k => decide (k ∈ srcL n ps cur)) ≠ [] := by
  obtain ⟨r, B, hB, hr, low⟩ := h.rk
  obtain ⟨k, hk, hs⟩ := src_least ok hr hne low
  intro e
  have : k ∈ lf.filter fun k => decide (k ∈ srcL n ps cur) := List.mem_filter.mpr ⟨hk, decide_eq_true (srcL_mem.mpr ⟨h.rg k hk, hs⟩)⟩
  rw [e] at this
  cases this
theorem Inv.step {n k : Int} {ps : List (Int × Int)} {s cur : List Bool} {i j : Nat} {lf row : List Int} (h : Inv n ps s i cur lf row) (hl : s.length = ps.length) (ok : ∀ p ∈ ps, okS n p) (hs : Src ps cur k) (hj : lf[j]? = some k) :
    Inv n ps s (i + 1) (trn ps cur k) (lf.eraseIdx j) (row ++ [k]) := by
  have hk := List.mem_of_getElem? hj
  obtain ⟨lj, ej⟩ := List.getElem?_eq_some_iff.mp hj
  have hm : ∀ x, x ∈ lf.eraseIdx j ↔ x ∈ lf ∧ x ≠ k := fun x => by
    have pe := erase_perm lj
    have nd2 := pe.nodup_iff.mpr h.nd
    rw [ej] at pe nd2
    have nk := (List.nodup_cons.mp nd2).1
    rw [← pe.mem_iff, List.mem_cons]
    exact ⟨fun hx => ⟨.inr hx, fun e => nk (e ▸ hx)⟩, fun ⟨a, b⟩ => a.resolve_left b⟩
  obtain ⟨r, B, hB, hr, low⟩ := h.rk
  refine ⟨?_, ?_, fun x hx => h.rg x ((hm x).mp hx).1, ?_, by rw [List.length_append, h.l2]; rfl, h.ru.snoc h.ac (h.rg k hk) hs, up r B k, B + 1, up_lt hB, ranked_trn hB hr hs, fun x hx y y0 y1 c => ?_⟩
  · rw [h.e]
    exact sg_trn (n := n) hk hm hl ok
  · exact (List.eraseIdx_sublist lf j).nodup h.nd
  · rw [List.length_eraseIdx_of_lt lj]
    have := h.l1
    omega
  · obtain ⟨a, b⟩ := (hm x).mp hx
    unfold up
    rw [if_neg b]
    by_cases g : y = k
    · rw [if_pos g]
      exact hB x
    · rw [if_neg g]
      exact low x a y y0 y1 fun z => c ((hm y).mpr ⟨z, g⟩)
theorem nodup_first {l : List Int} {j : Nat} {k : Int} (nd : l.Nodup) (h : l[j]? = some k) : ∀ m : Nat, m < j → l[m]? ≠ some k := fun m hm e => by
  obtain ⟨l1, e1⟩ := List.getElem?_eq_some_iff.mp h
  obtain ⟨l2, e2⟩ := List.getElem?_eq_some_iff.mp e
  exact List.pairwise_iff_getElem.mp nd m j l2 l1 hm (e2.trans e1.symm)
section
variable {P : Program} {w : World} {K : PySem.W.Frag} {mg : Str → Option Value} {base : Heap}
theorem ok_l_round_about (T : Tx K mg) : FnOk P w K mg base CX0 3 T.f_l_round_about T.d_l_round_about ["web", "signing"] spRoundAbout := by
  refine T.F_l_round_about.ok sc_l_round_about (fun vs H Q E h => ?_) (fun cdv A outer s H vs Q E hr h => ?_)
  · obtain ⟨y, t, a, n, ps, s, rfl, _⟩ := h
    rfl
  obtain ⟨y, t, a, n, ps, s, rfl, S, ac, q⟩ := h
  have hy := S.w.1
  have ls := S.l
  have l16 := S.l16
  have n0 := S.n0
  have n1 := S.n1
  have ok := S.ok
  refine ⟨_, (pss_cons (ps_par (i := 2) (j := 3) rfl sc_l_round_about.nd rfl rfl (by decide) rfl rfl (pa_cons (pe_lst pa_nil) (pa_cons (pe_listRg rfl (by rfl) T.g_list (prg_1 (by rfl) T.g_range (pe_ix ix_tup (pv 0) pe_int (fun _ _ => rfl)))) pa_nil)) (by rfl))
    (pss_cons (ps_for PassesOwn.never rfl (pi_range1 (by rfl) T.g_range (pa_cons (pe_ix ix_tup (pv 0) pe_int (fun _ _ => rfl)) pa_nil)) (pg_name (i := 4) sc_l_round_about.nd rfl (.inl rfl))
      (pss_cons (ps_set (i := 5) sc_l_round_about.nd rfl (.inl rfl) (pe_ix ix_list (pe_lc (own := [("place", 6)]) (g := (gName 6)) (tt := (tTest (tOp (rIn K false) (tVar 6) (tCall (spLSrc) [] E0 (tCons (tVar 0) (tCons (tVar 1) tNil)))))) (te := (tVar 6)) rfl sc_l_round_about.nd (pi_list (pv 3)) (blkOk_by (own := [("place", 6)]) (N := N_l_round_about) (sc := defScope s_l_round_about) (by decide +kernel)) (fun _ _ _ _ _ => (pg_name (i := 6) sc_l_round_about.nd rfl (.inl rfl))) (fun _ _ _ _ _ => (pts_one (pt_cmpR op_in_seq (pv 6) (pe_call (ok_l_sources T) (hr.mono (by decide)) (by rfl) T.m_l_sources T.F_l_sources.kp T.b_l_sources .nil pass0 (pa_cons (pv 0) (pa_cons (pv 1) pa_nil))) (by rfl)))) (fun _ _ _ _ _ => (pv 6))) pe_int (fun _ _ => rfl)))
        (pss_cons (ps_set (i := 1) sc_l_round_about.nd rfl (.inr rfl) (pe_call (ok_l_turned T) (hr.mono (by decide)) (by rfl) T.m_l_turned T.F_l_turned.kp T.b_l_turned .nil pass0 (pa_cons (pv 0) (pa_cons (pv 1) (pa_cons (pv 5) pa_nil)))))
        (pss_cons (ps_expr (pe_bm PySem.F.plainAttrs_list PySem.F.slot_list_remove PySem.F.type_list_remove mt_remove (pv 3) (pa_cons (pv 5) pa_nil)))
        (pss_one (ps_expr (pe_bm PySem.F.plainAttrs_list PySem.F.slot_list_append PySem.F.type_list_append mt_append (pv 2) (pa_cons (pv 5) pa_nil))))))))
    (pss_one (ps_ret (pe_callTy call_tuple_of (by rfl) T.g_tuple (by decide +kernel) (pa_cons (pv 2) pa_nil)))))), ?_⟩
  refine ⟨(by show 0 ≤ sizeLine; decide), fun R nR => ?_⟩
  have sR := same_new nR (.lst [])
  have hR : (L2.upd H R (.lst [])) R = some (.lst []) := upd_same
  generalize L2.upd H R (.lst []) = H1 at *
  refine ⟨_, rfl, y, _, 0, _, rfl, rfl, SqT.of (sR _ _ hy), atI_nat (j := 0) rfl, n, rfl, RgOk.of_le (by decide) (by omega) (by decide) (by omega), fun L nL => ⟨_, _, rfl, ?_⟩⟩
  rw [rg_rn]
  have sL := same_new nL (.lst ((rn n).map V.int))
  have hL : (L2.upd H1 L (.lst ((rn n).map V.int))) L = some (.lst ((rn n).map V.int)) := upd_same
  have RL : R ≠ L := ne_of_none hR nL
  have nHL : H L = none := sR.free nL
  have hR2 := sL _ _ hR
  have s2 := sR.trans sL
  generalize L2.upd H1 L (.lst ((rn n).map V.int)) = H2 at *
  refine ⟨_, rfl, y, _, 0, _, rfl, rfl, SqT.of (s2 _ _ hy), atI_nat (j := 0) rfl, n, rfl, by omega, by omega, ?_⟩
  refine for_range (lo := 0) (n := n.toNat) (fun i σ H' => ∃ (c : Addr) (cur : List Bool) (lf row : List Int) (y4 y5 : Option V), σ = [some (.ref y), some (.ref c), some (.ref R), some (.ref L), y4, y5, none] ∧ Same H H' ∧ SgAt H' c cur ∧ H' L = some (.lst (lf.map V.int)) ∧ H' R = some (.lst (row.map V.int)) ∧ Inv n ps s i cur lf row)
    ⟨a, s, rn n, [], none, none, rfl, s2, S.g.same s2, hL, hR2, Inv.start ls ok ac⟩ ?_ ?_
  · intro i σ H' hi ⟨c, cur, lf, row, y4, y5, e, sm, hc, hL, hR, iv⟩
    subst e
    have lc : cur.length = ps.length := by
      rw [iv.e]
      exact sg_len ls
    have l1 := iv.l1
    have l2 := iv.l2
    have hne : lf ≠ [] := fun z => by
      rw [z] at l1
      have : 0 + i = n.toNat := l1
      omega
    have O : Own H' y t c n ps cur := ⟨S.w.same sm, hc, lc, l16, n0, n1, ok⟩
    refine ⟨_, rfl, L, rfl, ⟨_, SqL.of hL⟩, fun Z nZ => lc_list (xs := lf.map V.int) (fun j H3 => Same H' H3 ∧ H3 Z = some (.lst (((lf.take j).filter fun k => decide (k ∈ srcL n ps cur)).map V.int))) ⟨same_new nZ _, upd_same⟩ (fun j H3 _ ⟨s3, _⟩ => SqL.of (s3 _ _ hL)) ?_ ?_⟩
    · intro j v H3 hj ⟨s3, hZ⟩
      obtain ⟨k, hk, ev⟩ := mint hj
      subst ev
      refine ⟨rfl, ?_⟩
      refine ⟨_, rfl, _, rfl, _, rfl, y, t, c, n, ps, cur, rfl, O.same s3, fun D H4 nD s4 hD => ?_⟩
      refine ⟨D, _, rfl, .inl (SqL.of hD), rfl, flat_is _, _, rfl, ?_⟩
      rw [if_neg Bool.false_ne_true, in_ints]
      have fs := filt_snoc (fun k => decide (k ∈ srcL n ps cur)) hk
      have hZ4 := s4 _ _ hZ
      have s34 := s3.trans s4
      cases g : decide (k ∈ srcL n ps cur) with
      | true =>
        refine iteT ⟨_, rfl, _, hZ4, small1000 ?_, fun o u ho => ?_, ?_⟩
        · rw [List.length_map]
          have := List.length_filter_le (fun k => decide (k ∈ srcL n ps cur)) (lf.take j)
          rw [List.length_take] at this
          omega
        · rw [upd_ne (ne_of_none ho nZ)]
          exact s34 _ _ ho
        · rw [upd_same, fs, if_pos g, List.map_append]
          rfl
      | false =>
        refine iteF ⟨s34, ?_⟩
        rw [fs, if_neg (by rw [g]; exact Bool.false_ne_true), List.append_nil]
        exact hZ4
    · intro H3 ⟨s3, hZ⟩
      rw [List.length_map, List.take_of_length_le (Nat.le_refl _)] at hZ
      obtain ⟨k, r, er⟩ : ∃ k r, (lf.filter fun k => decide (k ∈ srcL n ps cur)) = k :: r := List.exists_cons_of_ne_nil (iv.src ok hne)
      rw [er] at hZ
      have hk : k ∈ lf.filter fun k => decide (k ∈ srcL n ps cur) := by
        rw [er]
        exact List.mem_cons_self
      obtain ⟨kl, ks⟩ := List.mem_filter.mp hk
      have hs := (srcL_mem.mp (of_decide_eq_true ks)).2
      obtain ⟨j, lj, ej⟩ := List.mem_iff_getElem.mp kl
      have hj : lf[j]? = some k := by rw [List.getElem?_eq_getElem lj, ej]
      refine ⟨Z, _, 0, _, rfl, rfl, SqL.of hZ, atI_nat (j := 0) rfl, ?_⟩
      refine ⟨_, rfl, _, rfl, _, rfl, y, t, c, n, k, ps, cur, rfl, O.same s3, fun u H4 s4 hu => ?_⟩
      have s34 := s3.trans s4
      have hL4 := s34 _ _ hL
      have hR4 := s34 _ _ hR
      refine ⟨_, rfl, .inl ⟨rfl, _, SqL.of hL4⟩, _, rfl, L, lf, k, j, rfl, rfl, hL4, hj, nodup_first iv.nd hj, ?_⟩
      have hR5 : (L2.upd H4 L (.lst ((lf.eraseIdx j).map V.int))) R = some (.lst (row.map V.int)) := by
        rw [upd_ne RL]
        exact hR4
      refine ⟨_, rfl, .inl ⟨rfl, _, SqL.of hR5⟩, _, rfl, R, _, _, rfl, rfl, hR5, small1000 (by rw [List.length_map]; omega), ?_⟩
      refine ⟨u, _, _, row ++ [k], _, _, rfl, fun o x ho => ?_, ?_, ?_, ?_, iv.step ls ok hs hj⟩
      · rw [upd_ne (ne_of_none ho nR), upd_ne (ne_of_none ho nHL)]
        exact s34 _ _ (sm _ _ ho)
      · have nu : u ≠ R := ne_of hu hR4 (by intro z; cases z)
        have nu2 : u ≠ L := ne_of hu hL4 (by intro z; cases z)
        show (L2.upd (L2.upd H4 L _) R _) u = _
        rw [upd_ne nu, upd_ne nu2]
        exact hu
      · rw [upd_ne RL.symm, upd_same]
      · rw [upd_same, List.map_append]
        rfl
  · intro σ H' ⟨c, cur, lf, row, y4, y5, e, sm, hc, hL, hR, iv⟩
    subst e
    have z : lf = [] := List.eq_nil_of_length_eq_zero (by have := iv.l1; omega)
    have ec : cur = s := by
      rw [iv.e, z]
      exact sg_nil ls
    have ru := iv.ru
    rw [ec] at ru
    refine ⟨_, rfl, R, _, rfl, .inl ⟨SqL.of hR, fun u nu => ?_⟩⟩
    exact q u row _ (sm.trans (same_new nu _)) upd_same ru
def spRight : Sp := fun vs H Q _ => ∃ (h c : Addr), vs = [.ref h] ∧ HandAt H h c ∧ ∀ H', HandAt H' h c → Q (.bl true) H'
theorem Runs.at {n : Int} {ps : List (Int × Int)} {t : List Bool} : ∀ {row : List Int} {s : List Bool} {i : Nat} {k : Int}, Runs n ps s row t → row[i]? = some k → s.length = ps.length →
    ∃ s', s'.length = ps.length ∧ Runs n ps s' (row.drop i) t ∧ (row.drop i) = k :: row.drop (i + 1)
  | [], _, i, _, _, h, _ => by simp at h
  | a :: r, s, 0, k, hr, h, hl => ⟨s, hl, hr, by rw [← (Option.some.inj h : a = k)]; rfl⟩
  | a :: r, s, i + 1, k, hr, h, hl => Runs.at (row := r) (s := trn ps s a) (i := i) hr.2.2.2 h (trn_len hl)
theorem ok_l_are_turned_right (T : Tx K mg) : FnOk P w K mg base CX0 8 T.f_l_are_turned_right T.d_l_are_turned_right ["urn"] spRight := by
  refine T.F_l_are_turned_right.ok sc_l_are_turned_right (fun vs H Q E h => ?_) (fun cdv A outer s H vs Q E hr h => ?_)
  · obtain ⟨h, c, rfl, _⟩ := h
    rfl
  obtain ⟨h, c, rfl, hd, q⟩ := h
  refine ⟨_, (pss_cons (ps_set (i := 1) sc_l_are_turned_right.nd rfl (.inl rfl) (pe_call (ok_l_web T) (hr.mono (by decide)) (by rfl) T.m_l_web T.F_l_web.kp T.b_l_web .nil pass0 (pa_cons (pv 0) (pa_cons pe_int (pa_cons pe_int pa_nil)))))
    (pss_cons (ps_par (i := 2) (j := 3) rfl sc_l_are_turned_right.nd rfl rfl (by decide) rfl rfl (pa_cons (pe_call (ok_l_made T) (hr.mono (by decide)) (by rfl) T.m_l_made T.F_l_made.kp T.b_l_made .nil pass0 (pa_cons (pv 1) pa_nil)) (pa_cons (pe_call (ok_l_by_order T) (hr.mono (by decide)) (by rfl) T.m_l_by_order T.F_l_by_order.kp T.b_l_by_order .nil pass0 (pa_cons (pv 0) (pa_cons (pv 1) pa_nil))) pa_nil)) (by rfl))
    (pss_cons (ps_for PassesOwn.never rfl (pi_range1 (by rfl) T.g_range (pa_cons pe_int pa_nil)) (pg_name (i := 4) sc_l_are_turned_right.nd rfl (.inl rfl))
      (pss_cons (ps_set (i := 5) sc_l_are_turned_right.nd rfl (.inr rfl) (pe_call (ok_l_any T) (hr.mono (by decide)) (by rfl) T.m_l_any T.F_l_any.kp T.b_l_any .nil pass0 (pa_cons (pv 0) (pa_cons (pe_call (ok_l_sources T) (hr.mono (by decide)) (by rfl) T.m_l_sources T.F_l_sources.kp T.b_l_sources .nil pass0 (pa_cons (pv 1) (pa_cons (pv 3) pa_nil))) pa_nil))))
        (pss_cons (ps_par (i := 6) (j := 7) rfl sc_l_are_turned_right.nd rfl rfl (by decide) rfl rfl (pa_cons (pe_call (ok_turned T) (hr.mono (by decide)) (by rfl) T.m_turned T.F_turned.kp T.b_turned .nil pass0 (pa_cons (pv 2) (pa_cons (pv 3) (pa_cons (pv 5) pa_nil)))) (pa_cons (pe_call (ok_l_turned T) (hr.mono (by decide)) (by rfl) T.m_l_turned T.F_l_turned.kp T.b_l_turned .nil pass0 (pa_cons (pv 1) (pa_cons (pv 3) (pa_cons (pv 5) pa_nil)))) pa_nil)) (by rfl))
        (pss_cons (ps_if (PW.pt (pw_or (pt_not (pt_val (pe_call (ok_l_same T) (hr.mono (by decide)) (by rfl) T.m_l_same T.F_l_same.kp T.b_l_same .nil pass0 (pa_cons (pv 6) (pa_cons (pv 7) pa_nil))))) (pw_or1 (pt_not (pt_val (pe_call (ok_l_rises T) (hr.mono (by decide)) (by rfl) T.m_l_rises T.F_l_rises.kp T.b_l_rises .nil pass0 (pa_cons (pv 1) (pa_cons (pv 6) pa_nil))))))))
          (pss_one (ps_ret pe_bl))
          pss_nil)
        (pss_cons (ps_if (pt_cmpR op_ne (pe_cmpR op_in_seq (pv 5) (pe_call (ok_l_sources T) (hr.mono (by decide)) (by rfl) T.m_l_sources T.F_l_sources.kp T.b_l_sources .nil pass0 (pa_cons (pv 1) (pa_cons (pv 6) pa_nil))) (by rfl)) (pe_callB (cr_all rfl) (by rfl) T.g_all (by decide +kernel) (pa_cons (pe_lc (own := [("tie", 9)]) (g := (gName 9)) (tt := tYes) (te := (tOp (rIn K true) (tVar 5) (tVar 9))) rfl sc_l_are_turned_right.nd (pi_tup (pe_ix ix_tup (pv 1) pe_int (fun _ _ => rfl))) (blkOk_by (own := [("tie", 9)]) (N := N_l_are_turned_right) (sc := defScope s_l_are_turned_right) (by decide +kernel)) (fun _ _ _ _ _ => (pg_name (i := 9) sc_l_are_turned_right.nd rfl (.inl rfl))) (fun _ _ _ _ _ => pts_nil) (fun _ _ _ _ _ => (pe_cmpR op_notIn_seq (pv 5) (pv 9) (by rfl)))) pa_nil)) (nomark _))
          (pss_one (ps_ret pe_bl))
          pss_nil)
        (pss_one (ps_set (i := 3) sc_l_are_turned_right.nd rfl (.inl rfl) (pv 6))))))))
    (pss_cons (ps_set (i := 8) sc_l_are_turned_right.nd rfl (.inl rfl) (pv 3))
    (pss_cons (ps_for PassesOwn.never rfl (pi_tup (pe_call (ok_l_round_about T) (hr.mono (by decide)) (by rfl) T.m_l_round_about T.F_l_round_about.kp T.b_l_round_about .nil pass0 (pa_cons (pv 1) (pa_cons (pv 3) pa_nil)))) (pg_name (i := 5) sc_l_are_turned_right.nd rfl (by first | exact .inl rfl | exact .inr rfl))
      (pss_one (ps_set (i := 3) sc_l_are_turned_right.nd rfl (.inl rfl) (pe_call (ok_turned T) (hr.mono (by decide)) (by rfl) T.m_turned T.F_turned.kp T.b_turned .nil pass0 (pa_cons (pv 2) (pa_cons (pv 3) (pa_cons (pv 5) pa_nil)))))))
    (pss_one (ps_ret (pe_cmpR (op_eqD hr.units) (pv 3) (pv 8) (nomark _))))))))), ?_⟩
  refine ⟨_, rfl, h, c, rfl, hd, fun y t n ps H1 k1 hd1 wb n0 n1 l16 ok => ?_⟩
  refine ⟨_, rfl, y, t, n, ps, rfl, wb, n0, n1, l16, ok, fun x H2 nx s2 w2 => ?_⟩
  refine ⟨_, rfl, _, rfl, h, c, y, t, n, ps, rfl, hd1.same s2, wb.same s2, n0, n1, l16, ok, fun a s H3 k3 hd3 ha ls ac => ⟨_, _, rfl, ?_⟩⟩
  have wb3 := (wb.same s2).kp (hd1.same s2) k3
  have w3 : WebAt T.C_Web H3 x n ps := by
    obtain ⟨dx, t', hx, ht⟩ := w2
    obtain ⟨l, hl⟩ := (hd1.same s2).lst
    exact ⟨dx, t', k3 _ _ (ne_of hx hl (by intro z; cases z)) hx, ht.kp (hd1.same s2) k3⟩
  clear wb w2 k3 s2 nx k1 hd1 hd
  refine ⟨6, rfl, by decide, by decide, ?_⟩
  refine for_range (lo := 0) (n := (6 : Int).toNat) (fun i σ H' => ∃ (a : Addr) (s : List Bool) (y4 y5 y6 y7 : Option V), σ = [some (.ref h), some (.ref y), some (.ref x), some (.ref a), y4, y5, y6, y7, none, none] ∧ HandAt H' h c ∧ WbAt H' y t n ps ∧ WebAt T.C_Web H' x n ps ∧ SgAt H' a s ∧ s.length = ps.length ∧ Acy ps s)
    ⟨a, s, none, none, none, none, rfl, hd3, wb3, w3, ha, ls, ac⟩ ?_ ?_
  · intro i σ H' hi ⟨a, s, y4, y5, y6, y7, e, hd, wb, wx, ha, ls, ac⟩
    subst e
    have O : Own H' y t a n ps s := ⟨wb, ha, ls, l16, n0, n1, ok⟩
    refine ⟨_, rfl, _, rfl, _, rfl, y, t, a, n, ps, s, rfl, O, fun L H1 nL s1 hL => ?_⟩
    have ne := src_ex n0 ok ac
    have lsrc : (srcL n ps s).length ≤ 10 := by
      have := List.length_filter_le (fun k => !decide (k ∈ tos ps s)) (rn n)
      rw [rn_len] at this
      show ((rn n).filter _).length ≤ 10
      omega
    refine ⟨h, c, L, _, rfl, SqL.of hL, (hd.ne nL).1, ?_, ?_, hd.same s1, fun v H2 hv k2 hd2 => ?_⟩
    · rw [List.length_map]
      exact List.length_pos_iff.mpr ne
    · rw [List.length_map]
      omega
    obtain ⟨k, hk, ek⟩ := List.mem_map.mp hv
    subst ek
    obtain ⟨⟨k0, k1⟩, hs⟩ := srcL_mem.mp hk
    have hd1 := hd.same s1
    have wb2 := (wb.same s1).kp hd1 k2
    have wx2 : WebAt T.C_Web H2 x n ps := by
      obtain ⟨dx, t', hx, ht⟩ := wx.same s1
      obtain ⟨l, hl⟩ := hd1.lst
      exact ⟨dx, t', k2 _ _ (ne_of hx hl (by intro z; cases z)) hx, ht.kp hd1 k2⟩
    have ha2 : SgAt H2 a s := k2 _ _ (hd1.tne (ha.same s1)) (ha.same s1)
    have O2 : Own H2 y t a n ps s := ⟨wb2, ha2, ls, l16, n0, n1, ok⟩
    have S2 : Sgn T.C_Web H2 x a n ps s := ⟨wx2, ha2, ls, l16, n0, n1, ok⟩
    refine ⟨_, rfl, _, rfl, _, rfl, x, a, n, k, ps, s, rfl, S2, ac, k0, k1, hs, fun u H3 s3 hu => ?_⟩
    refine ⟨_, rfl, _, rfl, _, rfl, y, t, a, n, k, ps, s, rfl, O2.same s3, fun d H4 s4 hd4 => ⟨_, _, rfl, ?_⟩⟩
    have hu4 := hu.same s4
    have lt := trn_len (k := k) ls
    refine ⟨_, rfl, _, rfl, u, d, _, rfl, hu4, hd4, by omega, fun H5 s5 => ⟨true, rfl, iteF ?_⟩⟩
    have s35 := (s3.trans s4).trans s5
    have ac5 := acy_trn ac hs
    have O5 : Own H5 y t u n ps (trn ps s k) := ⟨wb2.same s35, hu4.same s5, lt, l16, n0, n1, ok⟩
    refine ⟨_, rfl, _, rfl, y, t, u, n, ps, _, rfl, O5, ac5, fun H6 s6 => ⟨true, rfl, iteF ?_⟩⟩
    have O6 := O5.same s6
    refine ⟨_, rfl, _, rfl, _, rfl, y, t, u, n, ps, _, rfl, O6, fun M H7 nM s7 hM => ?_⟩
    refine ⟨M, _, rfl, .inl (SqL.of hM), rfl, flat_is _, ?_⟩
    rw [if_neg Bool.false_ne_true, in_ints]
    have O7 := O6.same s7
    obtain ⟨hy7, vs, htv, hv7⟩ := O7.w
    have lv := hv7.len
    refine ⟨_, rfl, y, _, 1, _, rfl, rfl, SqT.of hy7, atI_nat (j := 1) rfl, t, rfl, ⟨_, SqT.of htv⟩, fun Z nZ => lc_tup (xs := vs) (fun j H8 => Same H7 H8 ∧ H8 Z = some (.lst (((ps.take j).map fun p => !inT k p).map V.bl))) ⟨same_new nZ _, upd_same⟩ (fun j H8 _ ⟨s8, _⟩ => SqT.of (s8 _ _ htv)) ?_ ?_⟩
    · intro j z H8 hj ⟨s8, hZ⟩
      obtain ⟨p, b, hp, ez, hb⟩ := (hv7.same s8).get hj
      subst ez
      refine ⟨rfl, ?_⟩
      refine ⟨_, rfl, _, rfl, b, _, rfl, .inr (SqT.of hb), rfl, rfl, ?_⟩
      rw [if_pos rfl, in_pr]
      refine ⟨_, hZ, small1000 ?_, fun o v ho => ?_, ?_⟩
      · rw [List.length_map, List.length_map, List.length_take]
        omega
      · rw [upd_ne (ne_of_none ho nZ)]
        exact s8 _ _ ho
      · rw [upd_same, take_snoc hp, List.map_append, List.map_append]
        rfl
    · intro H8 ⟨s8, hZ⟩
      rw [List.take_of_length_le (by omega)] at hZ
      refine ⟨Z, _, rfl, SqL.of hZ, rfl, _, rfl, ?_⟩
      have eq : decide (k ∈ srcL n ps (trn ps s k)) = (ps.map fun p => !inT k p).all id := by
        rw [Bool.eq_iff_iff, decide_eq_true_eq, srcL_mem, trn_src ls ok hs, List.all_map, List.all_eq_true]
        refine ⟨fun g p hp => ?_, fun g => ⟨⟨k0, k1⟩, fun p hp => ?_⟩⟩
        · have := g.2 p hp
          show (!inT k p) = true
          rw [this]
          rfl
        · have : (!inT k p) = true := g p hp
          cases z : inT k p with
          | false => rfl
          | true => rw [z] at this; cases this
      rw [eq]
      refine iteNS rfl ?_
      have s68 := s6.trans (s7.trans s8)
      have s28 := s35.trans s68
      exact ⟨_, rfl, u, trn ps s k, _, _, _, _, rfl, hd2.same s28, wb2.same s28, wx2.same s28, O5.g.same s68, lt, ac5⟩
  · intro σ H' ⟨a, s, y4, y5, y6, y7, e, hd, wb, wx, ha, ls, ac⟩
    subst e
    have O : Own H' y t a n ps s := ⟨wb, ha, ls, l16, n0, n1, ok⟩
    refine ⟨_, rfl, ?_⟩
    refine ⟨_, rfl, _, rfl, y, t, a, n, ps, s, rfl, O, ac, fun u row H1 s1 hu ru => ⟨u, rfl, ⟨_, SqT.of hu⟩, ?_⟩⟩
    refine for_tup (xs := row.map V.int) (fun i σ H2 => ∃ (b : Addr) (s' : List Bool) (y5 : Option V), σ = [some (.ref h), some (.ref y), some (.ref x), some (.ref b), y4, y5, y6, y7, some (.ref a), none] ∧ Same H1 H2 ∧ SgAt H2 b s' ∧ s'.length = ps.length ∧ Runs n ps s' (row.drop i) s)
      ⟨a, s, y5, rfl, Same.refl _, ha.same s1, ls, ru⟩ (fun i σ H2 _ ⟨_, _, _, _, s2, _⟩ => SqT.of (s2 _ _ hu)) ?_ ?_
    · intro i v σ H2 hi ⟨b, s', y5', e, s2, hb, ls', ru'⟩
      subst e
      obtain ⟨k, hk, ev⟩ := mint hi
      subst ev
      have ed : row.drop i = k :: row.drop (i + 1) := by
        obtain ⟨lk, ek⟩ := List.getElem?_eq_some_iff.mp hk
        rw [List.drop_eq_getElem_cons lk, ek]
      rw [ed] at ru'
      obtain ⟨ac', ⟨k0, k1⟩, hs', ru2⟩ := ru'
      have S2 : Sgn T.C_Web H2 x b n ps s' := ⟨wx.same (s1.trans s2), hb, ls', l16, n0, n1, ok⟩
      exact ⟨_, rfl, _, rfl, _, rfl, x, b, n, k, ps, s', rfl, S2, ac', k0, k1, hs', fun u2 H3 s3 hu3 => ⟨u2, _, _, rfl, s2.trans s3, hu3, trn_len ls', ru2⟩⟩
    · intro σ H2 ⟨b, s', y5', e, s2, hb, ls', ru'⟩
      subst e
      rw [List.length_map, List.drop_length] at ru'
      have es : s' = s := ru'
      subst es
      refine ⟨_, rfl, _, rfl, _, _, dp_bools hb, dp_bools (ha.same (s1.trans s2)), shp_bools _, shp_bools _, ?_⟩
      rw [eqv_same (shp_bools _)]
      exact q H2 (hd.same (s1.trans s2))
def spLaw (K : PySem.W.Frag) : Sp := fun vs H Q _ => ∃ (a : Addr) (ns : List Int), vs = [.ref a] ∧ SqL K H a (ns.map V.int) ∧ ns.length ≤ 63 ∧ ∀ H', Q (.bl true) H'
theorem ok_law (T : Tx K mg) : FnOk P w K mg base CX0 12 T.f_law T.d_law ["script"] (spLaw K) := by
  refine T.F_law.ok sc_law (fun vs H Q E h => ?_) (fun cdv A outer s H vs Q E hr h => ?_)
  · obtain ⟨a, ns, rfl, _⟩ := h
    rfl
  obtain ⟨a, ns, rfl, ha, hl, q⟩ := h
  refine ⟨_, (pss_cons (ps_set (i := 1) sc_law.nd rfl (.inl rfl) (pe_call (ok_l_urn T) (hr.mono (by decide)) (by rfl) T.m_l_urn T.F_l_urn.kp T.b_l_urn .nil pass0 (pa_cons (pv 0) pa_nil)))
    (pss_cons (ps_for PassesOwn.never rfl (pi_range1 (by rfl) T.g_range (pa_cons pe_int pa_nil)) (pg_name (i := 2) sc_law.nd rfl (.inl rfl))
      (pss_one (ps_if (pt_not (pt_val (pe_call (ok_l_are_turned_right T) (hr.mono (by decide)) (by rfl) T.m_l_are_turned_right T.F_l_are_turned_right.kp T.b_l_are_turned_right .nil pass0 (pa_cons (pv 1) pa_nil))))
          (pss_one (ps_ret pe_bl))
          pss_nil)))
    (pss_one (ps_ret pe_bl)))), ?_⟩
  refine ⟨_, rfl, a, ns, rfl, ha, hl, fun h c H1 nh nc s1 hd => ?_⟩
  refine ⟨5, rfl, by decide, by decide, ?_⟩
  refine for_range (lo := 0) (n := (5 : Int).toNat) (fun i σ H' => ∃ y2, σ = [some (.ref a), some (.ref h), y2] ∧ HandAt H' h c) ⟨none, rfl, hd⟩ ?_ ?_
  · intro i σ H' hi ⟨y2, e, hd⟩
    subst e
    exact ⟨_, rfl, h, c, rfl, hd, fun H2 hd2 => ⟨true, rfl, iteF ⟨_, rfl, hd2⟩⟩⟩
  · intro σ H' ⟨y2, e, hd⟩
    subst e
    exact q H'
end
end K37
namespace K37
open PySem L2 Rl
theorem all_mk {l : PySem.W.OpenLaw} {w : World} {K : PySem.W.Frag} {h : Heap} {mg : Str → Option Value} {fa f0 f1 f2 f3 f4 f5 f6 f7 f8 f9 f10 f11 f12 f13 f14 f15 f16 f17 f18 f19 f20 f21 f22 f23 f24 f25 f26 f27 f28 f29 f30 f31 f32 C_Web : Addr} (X : K.In h) (G : h.Ns mainGlobals mg) (hfa : mg "law" = some (.ref fa))
    {od0 an0 od1 an1 od2 an2 od3 an3 od4 an4 od5 an5 od6 an6 od7 an7 od8 an8 od9 an9 od10 an10 od11 an11 od12 an12 od13 an13 od14 an14 od15 an15 od16 an16 od17 an17 od18 an18 od19 an19 od20 an20 od21 an21 od22 an22 od23 an23 od24 an24 od25 an25 od26 an26 od27 an27 od28 an28 od29 an29 od30 an30 od31 an31 od32 an32 : Option Addr} {sl0 sl1 sl2 sl3 sl4 sl5 sl6 sl7 sl8 sl9 sl10 sl11 sl12 sl13 sl14 sl15 sl16 sl17 sl18 sl19 sl20 sl21 sl22 sl23 sl24 sl25 sl26 sl27 sl28 sl29 sl30 sl31 sl32 : Array (Option Value)} {oc0 kV0 dc0 pm0 cd0 ct0 oc1 kV1 dc1 pm1 cd1 ct1 oc2 kV2 dc2 pm2 cd2 ct2 oc3 kV3 dc3 pm3 cd3 ct3 oc4 kV4 dc4 pm4 cd4 ct4 oc5 kV5 dc5 pm5 cd5 ct5 oc6 kV6 dc6 pm6 cd6 ct6 oc7 kV7 dc7 pm7 cd7 ct7 oc8 kV8 dc8 pm8 cd8 ct8 oc9 kV9 dc9 pm9 cd9 ct9 oc10 kV10 dc10 pm10 cd10 ct10 oc11 kV11 dc11 pm11 cd11 ct11 oc12 kV12 dc12 pm12 cd12 ct12 oc13 kV13 dc13 pm13 cd13 ct13 oc14 kV14 dc14 pm14 cd14 ct14 oc15 kV15 dc15 pm15 cd15 ct15 oc16 kV16 dc16 pm16 cd16 ct16 oc17 kV17 dc17 pm17 cd17 ct17 oc18 kV18 dc18 pm18 cd18 ct18 oc19 kV19 dc19 pm19 cd19 ct19 oc20 kV20 dc20 pm20 cd20 ct20 oc21 kV21 dc21 pm21 cd21 ct21 oc22 kV22 dc22 pm22 cd22 ct22 oc23 kV23 dc23 pm23 cd23 ct23 oc24 kV24 dc24 pm24 cd24 ct24 oc25 kV25 dc25 pm25 cd25 ct25 oc26 kV26 dc26 pm26 cd26 ct26 oc27 kV27 dc27 pm27 cd27 ct27 oc28 kV28 dc28 pm28 cd28 ct28 oc29 kV29 dc29 pm29 cd29 ct29 oc30 kV30 dc30 pm30 cd30 ct30 oc31 kV31 dc31 pm31 cd31 ct31 oc32 kV32 dc32 pm32 cd32 ct32 : Value} {t_MOST_PLACES t_MOST_TIES : Tok}
    (aC_Web : PySem.W.nsIn K mainGlobals "Web" = some (some (.ref C_Web)))
    (a0 : PySem.W.nsIn K mainGlobals "is_integer" = some (some (.ref f0)))
    (l0 : K.lookup f0 = some ⟨oc0, od0, .func (PySem.W.fnOf "is_integer" "is_integer" (defArgs s_is_integer) (defBody s_is_integer) (defScope s_is_integer) .none kV0 dc0 pm0 an0 cd0 ct0), sl0⟩)
    (c0 : PySem.W.codeIn K cd0 "is_integer" = true)
    (k0 : PySem.W.keepIn K (.ref f0) = true)
    (a1 : PySem.W.nsIn K mainGlobals "is_between" = some (some (.ref f1)))
    (l1 : K.lookup f1 = some ⟨oc1, od1, .func (PySem.W.fnOf "is_between" "is_between" (defArgs s_is_between) (defBody s_is_between) (defScope s_is_between) .none kV1 dc1 pm1 an1 cd1 ct1), sl1⟩)
    (c1 : PySem.W.codeIn K cd1 "is_between" = true)
    (k1 : PySem.W.keepIn K (.ref f1) = true)
    (a2 : PySem.W.nsIn K mainGlobals "is_below" = some (some (.ref f2)))
    (l2 : K.lookup f2 = some ⟨oc2, od2, .func (PySem.W.fnOf "is_below" "is_below" (defArgs s_is_below) (defBody s_is_below) (defScope s_is_below) .none kV2 dc2 pm2 an2 cd2 ct2), sl2⟩)
    (c2 : PySem.W.codeIn K cd2 "is_below" = true)
    (k2 : PySem.W.keepIn K (.ref f2) = true)
    (a3 : PySem.W.nsIn K mainGlobals "is_pair" = some (some (.ref f3)))
    (l3 : K.lookup f3 = some ⟨oc3, od3, .func (PySem.W.fnOf "is_pair" "is_pair" (defArgs s_is_pair) (defBody s_is_pair) (defScope s_is_pair) .none kV3 dc3 pm3 an3 cd3 ct3), sl3⟩)
    (c3 : PySem.W.codeIn K cd3 "is_pair" = true)
    (k3 : PySem.W.keepIn K (.ref f3) = true)
    (a4 : PySem.W.nsIn K mainGlobals "is_flags" = some (some (.ref f4)))
    (l4 : K.lookup f4 = some ⟨oc4, od4, .func (PySem.W.fnOf "is_flags" "is_flags" (defArgs s_is_flags) (defBody s_is_flags) (defScope s_is_flags) .none kV4 dc4 pm4 an4 cd4 ct4), sl4⟩)
    (c4 : PySem.W.codeIn K cd4 "is_flags" = true)
    (k4 : PySem.W.keepIn K (.ref f4) = true)
    (a5 : PySem.W.findIn K (.ref C_Web) "__init__" = some (some (.ref f5)))
    (i5 : PySem.W.isFn K (.ref f5) = true)
    (l5 : K.lookup f5 = some ⟨oc5, od5, .func (PySem.W.fnOf "__init__" "Web.__init__" (defArgs s_webI) (defBody s_webI) (defScope s_webI) .none kV5 dc5 pm5 an5 cd5 ct5), sl5⟩)
    (c5 : PySem.W.codeIn K cd5 "Web.__init__" = true)
    (k5 : PySem.W.keepIn K (.ref f5) = true)
    (a6 : PySem.W.findIn K (.ref C_Web) "__eq__" = some (some (.ref f6)))
    (i6 : PySem.W.isFn K (.ref f6) = true)
    (l6 : K.lookup f6 = some ⟨oc6, od6, .func (PySem.W.fnOf "__eq__" "Web.__eq__" (defArgs s_webE) (defBody s_webE) (defScope s_webE) .none kV6 dc6 pm6 an6 cd6 ct6), sl6⟩)
    (c6 : PySem.W.codeIn K cd6 "Web.__eq__" = true)
    (k6 : PySem.W.keepIn K (.ref f6) = true)
    (a7 : PySem.W.nsIn K mainGlobals "_is_tie" = some (some (.ref f7)))
    (l7 : K.lookup f7 = some ⟨oc7, od7, .func (PySem.W.fnOf "_is_tie" "_is_tie" (defArgs s_is_tie) (defBody s_is_tie) (defScope s_is_tie) .none kV7 dc7 pm7 an7 cd7 ct7), sl7⟩)
    (c7 : PySem.W.codeIn K cd7 "_is_tie" = true)
    (k7 : PySem.W.keepIn K (.ref f7) = true)
    (a8 : PySem.W.nsIn K mainGlobals "is_signing" = some (some (.ref f8)))
    (l8 : K.lookup f8 = some ⟨oc8, od8, .func (PySem.W.fnOf "is_signing" "is_signing" (defArgs s_is_signing) (defBody s_is_signing) (defScope s_is_signing) .none kV8 dc8 pm8 an8 cd8 ct8), sl8⟩)
    (c8 : PySem.W.codeIn K cd8 "is_signing" = true)
    (k8 : PySem.W.keepIn K (.ref f8) = true)
    (a9 : PySem.W.nsIn K mainGlobals "is_rising" = some (some (.ref f9)))
    (l9 : K.lookup f9 = some ⟨oc9, od9, .func (PySem.W.fnOf "is_rising" "is_rising" (defArgs s_is_rising) (defBody s_is_rising) (defScope s_is_rising) .none kV9 dc9 pm9 an9 cd9 ct9), sl9⟩)
    (c9 : PySem.W.codeIn K cd9 "is_rising" = true)
    (k9 : PySem.W.keepIn K (.ref f9) = true)
    (a10 : PySem.W.nsIn K mainGlobals "_goings" = some (some (.ref f10)))
    (l10 : K.lookup f10 = some ⟨oc10, od10, .func (PySem.W.fnOf "_goings" "_goings" (defArgs s_goings) (defBody s_goings) (defScope s_goings) .none kV10 dc10 pm10 an10 cd10 ct10), sl10⟩)
    (c10 : PySem.W.codeIn K cd10 "_goings" = true)
    (k10 : PySem.W.keepIn K (.ref f10) = true)
    (a11 : PySem.W.nsIn K mainGlobals "round_of" = some (some (.ref f11)))
    (l11 : K.lookup f11 = some ⟨oc11, od11, .func (PySem.W.fnOf "round_of" "round_of" (defArgs s_round_of) (defBody s_round_of) (defScope s_round_of) .none kV11 dc11 pm11 an11 cd11 ct11), sl11⟩)
    (c11 : PySem.W.codeIn K cd11 "round_of" = true)
    (k11 : PySem.W.keepIn K (.ref f11) = true)
    (a12 : PySem.W.nsIn K mainGlobals "_never_sources" = some (some (.ref f12)))
    (l12 : K.lookup f12 = some ⟨oc12, od12, .func (PySem.W.fnOf "_never_sources" "_never_sources" (defArgs s_never_sources) (defBody s_never_sources) (defScope s_never_sources) .none kV12 dc12 pm12 an12 cd12 ct12), sl12⟩)
    (c12 : PySem.W.codeIn K cd12 "_never_sources" = true)
    (k12 : PySem.W.keepIn K (.ref f12) = true)
    (a13 : PySem.W.nsIn K mainGlobals "_round_behind" = some (some (.ref f13)))
    (l13 : K.lookup f13 = some ⟨oc13, od13, .func (PySem.W.fnOf "_round_behind" "_round_behind" (defArgs s_round_behind) (defBody s_round_behind) (defScope s_round_behind) .none kV13 dc13 pm13 an13 cd13 ct13), sl13⟩)
    (c13 : PySem.W.codeIn K cd13 "_round_behind" = true)
    (k13 : PySem.W.keepIn K (.ref f13) = true)
    (a14 : PySem.W.nsIn K mainGlobals "sources" = some (some (.ref f14)))
    (l14 : K.lookup f14 = some ⟨oc14, od14, .func (PySem.W.fnOf "sources" "sources" (defArgs s_sources) (defBody s_sources) (defScope s_sources) .none kV14 dc14 pm14 an14 cd14 ct14), sl14⟩)
    (c14 : PySem.W.codeIn K cd14 "sources" = true)
    (k14 : PySem.W.keepIn K (.ref f14) = true)
    (a15 : PySem.W.nsIn K mainGlobals "turned" = some (some (.ref f15)))
    (l15 : K.lookup f15 = some ⟨oc15, od15, .func (PySem.W.fnOf "turned" "turned" (defArgs s_turned) (defBody s_turned) (defScope s_turned) .none kV15 dc15 pm15 an15 cd15 ct15), sl15⟩)
    (c15 : PySem.W.codeIn K cd15 "turned" = true)
    (k15 : PySem.W.keepIn K (.ref f15) = true)
    (a16 : PySem.W.nsIn K mainGlobals "_is_source" = some (some (.ref f16)))
    (l16 : K.lookup f16 = some ⟨oc16, od16, .func (PySem.W.fnOf "_is_source" "_is_source" (defArgs s_is_source) (defBody s_is_source) (defScope s_is_source) .none kV16 dc16 pm16 an16 cd16 ct16), sl16⟩)
    (c16 : PySem.W.codeIn K cd16 "_is_source" = true)
    (k16 : PySem.W.keepIn K (.ref f16) = true)
    (a17 : PySem.W.nsIn K mainGlobals "_behind" = some (some (.ref f17)))
    (l17 : K.lookup f17 = some ⟨oc17, od17, .func (PySem.W.fnOf "_behind" "_behind" (defArgs s_behind) (defBody s_behind) (defScope s_behind) .none kV17 dc17 pm17 an17 cd17 ct17), sl17⟩)
    (c17 : PySem.W.codeIn K cd17 "_behind" = true)
    (k17 : PySem.W.keepIn K (.ref f17) = true)
    (a18 : PySem.W.nsIn K mainGlobals "_law_urn" = some (some (.ref f18)))
    (l18 : K.lookup f18 = some ⟨oc18, od18, .func (PySem.W.fnOf "_law_urn" "_law_urn" (defArgs s_l_urn) (defBody s_l_urn) (defScope s_l_urn) .none kV18 dc18 pm18 an18 cd18 ct18), sl18⟩)
    (c18 : PySem.W.codeIn K cd18 "_law_urn" = true)
    (k18 : PySem.W.keepIn K (.ref f18) = true)
    (a19 : PySem.W.nsIn K mainGlobals "_law_pull" = some (some (.ref f19)))
    (l19 : K.lookup f19 = some ⟨oc19, od19, .func (PySem.W.fnOf "_law_pull" "_law_pull" (defArgs s_l_pull) (defBody s_l_pull) (defScope s_l_pull) .none kV19 dc19 pm19 an19 cd19 ct19), sl19⟩)
    (c19 : PySem.W.codeIn K cd19 "_law_pull" = true)
    (k19 : PySem.W.keepIn K (.ref f19) = true)
    (a20 : PySem.W.nsIn K mainGlobals "_law_any" = some (some (.ref f20)))
    (l20 : K.lookup f20 = some ⟨oc20, od20, .func (PySem.W.fnOf "_law_any" "_law_any" (defArgs s_l_any) (defBody s_l_any) (defScope s_l_any) .none kV20 dc20 pm20 an20 cd20 ct20), sl20⟩)
    (c20 : PySem.W.codeIn K cd20 "_law_any" = true)
    (k20 : PySem.W.keepIn K (.ref f20) = true)
    (a21 : PySem.W.nsIn K mainGlobals "_law_mixed" = some (some (.ref f21)))
    (l21 : K.lookup f21 = some ⟨oc21, od21, .func (PySem.W.fnOf "_law_mixed" "_law_mixed" (defArgs s_l_mixed) (defBody s_l_mixed) (defScope s_l_mixed) .none kV21 dc21 pm21 an21 cd21 ct21), sl21⟩)
    (c21 : PySem.W.codeIn K cd21 "_law_mixed" = true)
    (k21 : PySem.W.keepIn K (.ref f21) = true)
    (a22 : PySem.W.nsIn K mainGlobals "_law_made" = some (some (.ref f22)))
    (l22 : K.lookup f22 = some ⟨oc22, od22, .func (PySem.W.fnOf "_law_made" "_law_made" (defArgs s_l_made) (defBody s_l_made) (defScope s_l_made) .none kV22 dc22 pm22 an22 cd22 ct22), sl22⟩)
    (c22 : PySem.W.codeIn K cd22 "_law_made" = true)
    (k22 : PySem.W.keepIn K (.ref f22) = true)
    (a23 : PySem.W.nsIn K mainGlobals "_law_arrows" = some (some (.ref f23)))
    (l23 : K.lookup f23 = some ⟨oc23, od23, .func (PySem.W.fnOf "_law_arrows" "_law_arrows" (defArgs s_l_arrows) (defBody s_l_arrows) (defScope s_l_arrows) .none kV23 dc23 pm23 an23 cd23 ct23), sl23⟩)
    (c23 : PySem.W.codeIn K cd23 "_law_arrows" = true)
    (k23 : PySem.W.keepIn K (.ref f23) = true)
    (a24 : PySem.W.nsIn K mainGlobals "_law_rises" = some (some (.ref f24)))
    (l24 : K.lookup f24 = some ⟨oc24, od24, .func (PySem.W.fnOf "_law_rises" "_law_rises" (defArgs s_l_rises) (defBody s_l_rises) (defScope s_l_rises) .none kV24 dc24 pm24 an24 cd24 ct24), sl24⟩)
    (c24 : PySem.W.codeIn K cd24 "_law_rises" = true)
    (k24 : PySem.W.keepIn K (.ref f24) = true)
    (a25 : PySem.W.nsIn K mainGlobals "_law_same" = some (some (.ref f25)))
    (l25 : K.lookup f25 = some ⟨oc25, od25, .func (PySem.W.fnOf "_law_same" "_law_same" (defArgs s_l_same) (defBody s_l_same) (defScope s_l_same) .none kV25 dc25 pm25 an25 cd25 ct25), sl25⟩)
    (c25 : PySem.W.codeIn K cd25 "_law_same" = true)
    (k25 : PySem.W.keepIn K (.ref f25) = true)
    (a26 : PySem.W.nsIn K mainGlobals "_law_web" = some (some (.ref f26)))
    (l26 : K.lookup f26 = some ⟨oc26, od26, .func (PySem.W.fnOf "_law_web" "_law_web" (defArgs s_l_web) (defBody s_l_web) (defScope s_l_web) .none kV26 dc26 pm26 an26 cd26 ct26), sl26⟩)
    (c26 : PySem.W.codeIn K cd26 "_law_web" = true)
    (k26 : PySem.W.keepIn K (.ref f26) = true)
    (a27 : PySem.W.nsIn K mainGlobals "_law_by_order" = some (some (.ref f27)))
    (l27 : K.lookup f27 = some ⟨oc27, od27, .func (PySem.W.fnOf "_law_by_order" "_law_by_order" (defArgs s_l_by_order) (defBody s_l_by_order) (defScope s_l_by_order) .none kV27 dc27 pm27 an27 cd27 ct27), sl27⟩)
    (c27 : PySem.W.codeIn K cd27 "_law_by_order" = true)
    (k27 : PySem.W.keepIn K (.ref f27) = true)
    (a28 : PySem.W.nsIn K mainGlobals "_law_sources" = some (some (.ref f28)))
    (l28 : K.lookup f28 = some ⟨oc28, od28, .func (PySem.W.fnOf "_law_sources" "_law_sources" (defArgs s_l_sources) (defBody s_l_sources) (defScope s_l_sources) .none kV28 dc28 pm28 an28 cd28 ct28), sl28⟩)
    (c28 : PySem.W.codeIn K cd28 "_law_sources" = true)
    (k28 : PySem.W.keepIn K (.ref f28) = true)
    (a29 : PySem.W.nsIn K mainGlobals "_law_turned" = some (some (.ref f29)))
    (l29 : K.lookup f29 = some ⟨oc29, od29, .func (PySem.W.fnOf "_law_turned" "_law_turned" (defArgs s_l_turned) (defBody s_l_turned) (defScope s_l_turned) .none kV29 dc29 pm29 an29 cd29 ct29), sl29⟩)
    (c29 : PySem.W.codeIn K cd29 "_law_turned" = true)
    (k29 : PySem.W.keepIn K (.ref f29) = true)
    (a30 : PySem.W.nsIn K mainGlobals "_law_round_about" = some (some (.ref f30)))
    (l30 : K.lookup f30 = some ⟨oc30, od30, .func (PySem.W.fnOf "_law_round_about" "_law_round_about" (defArgs s_l_round_about) (defBody s_l_round_about) (defScope s_l_round_about) .none kV30 dc30 pm30 an30 cd30 ct30), sl30⟩)
    (c30 : PySem.W.codeIn K cd30 "_law_round_about" = true)
    (k30 : PySem.W.keepIn K (.ref f30) = true)
    (a31 : PySem.W.nsIn K mainGlobals "_law_are_turned_right" = some (some (.ref f31)))
    (l31 : K.lookup f31 = some ⟨oc31, od31, .func (PySem.W.fnOf "_law_are_turned_right" "_law_are_turned_right" (defArgs s_l_are_turned_right) (defBody s_l_are_turned_right) (defScope s_l_are_turned_right) .none kV31 dc31 pm31 an31 cd31 ct31), sl31⟩)
    (c31 : PySem.W.codeIn K cd31 "_law_are_turned_right" = true)
    (k31 : PySem.W.keepIn K (.ref f31) = true)
    (a32 : PySem.W.nsIn K mainGlobals "law" = some (some (.ref f32)))
    (l32 : K.lookup f32 = some ⟨oc32, od32, .func (PySem.W.fnOf "law" "law" (defArgs s_law) (defBody s_law) (defScope s_law) .none kV32 dc32 pm32 an32 cd32 ct32), sl32⟩)
    (c32 : PySem.W.codeIn K cd32 "law" = true)
    (k32 : PySem.W.keepIn K (.ref f32) = true)
    (pg_Web : PySem.W.plainGet K C_Web Str.empty = true)
    (hd_Web : PySem.W.hasDictIn K C_Web = true)
    (po_Web : PySem.W.plainOver K C_Web = true)
    (sa_Web : PySem.W.findIn K (.ref C_Web) "__setattr__" = some (some (.builtin "object.__setattr__")))
    (mk_Web : PySem.W.makesIn K C_Web = true)
    (kc_Web : PySem.W.keepIn K (.ref C_Web) = true)
    (ic_Web : PySem.W.findIn K (.ref C_Web) "__class__" = some (some (.builtin "object.__class__")))
    (im_Web : PySem.W.mroIn K C_Web (.type "object") = some true)
    (no_Web_many : PySem.W.findIn K (.ref C_Web) "many" = some none)
    (no_Web_ties : PySem.W.findIn K (.ref C_Web) "ties" = some none)
    (ia : PySem.W.specialIn K (.builtin "object.__class__") "__get__" = some (some (.builtin "getset_descriptor.__get__")))
    (ib : PySem.W.takesIn K (.builtin "object.__class__") = some true)
    (v_MOST_PLACES : PySem.W.nsIn K mainGlobals "MOST_PLACES" = some (some (.int 10 t_MOST_PLACES)))
    (v_MOST_TIES : PySem.W.nsIn K mainGlobals "MOST_TIES" = some (some (.int 16 t_MOST_TIES)))
    (z_abs : PySem.W.nsIn K mainGlobals "abs" = some none)
    (z_all : PySem.W.nsIn K mainGlobals "all" = some none)
    (z_any : PySem.W.nsIn K mainGlobals "any" = some none)
    (z_bool : PySem.W.nsIn K mainGlobals "bool" = some none)
    (z_enumerate : PySem.W.nsIn K mainGlobals "enumerate" = some none)
    (z_int : PySem.W.nsIn K mainGlobals "int" = some none)
    (z_isinstance : PySem.W.nsIn K mainGlobals "isinstance" = some none)
    (z_len : PySem.W.nsIn K mainGlobals "len" = some none)
    (z_list : PySem.W.nsIn K mainGlobals "list" = some none)
    (z_max : PySem.W.nsIn K mainGlobals "max" = some none)
    (z_min : PySem.W.nsIn K mainGlobals "min" = some none)
    (z_range : PySem.W.nsIn K mainGlobals "range" = some none)
    (z_reversed : PySem.W.nsIn K mainGlobals "reversed" = some none)
    (z_tuple : PySem.W.nsIn K mainGlobals "tuple" = some none)
    (z_zip : PySem.W.nsIn K mainGlobals "zip" = some none) :
    ∃ fd : FuncData, (∀ (s : Shared) (v : Value), BindsTo s fd ⟨[v], []⟩ [("script", v)]) ∧ ∀ base : Heap, K.In base → base.Ns mainGlobals mg → FnOk l.prog w K mg base CX0 12 fa fd ["script"] (spLaw K) := by
  have e := hfa.symm.trans (PySem.W.mg_of X G a32)
  cases e
  have F0 := fun_mk (st := s_is_integer) l0 c0 k0
  have b0 := F0.binds (ps := ["thing"]) fun _ _ _ _ _ _ us hl => match us, hl with | [_], _ => rfl
  have F1 := fun_mk (st := s_is_between) l1 c1 k1
  have b1 := F1.binds (ps := ["thing", "least", "most"]) fun _ _ _ _ _ _ us hl => match us, hl with | [_, _, _], _ => rfl
  have F2 := fun_mk (st := s_is_below) l2 c2 k2
  have b2 := F2.binds (ps := ["thing", "bound"]) fun _ _ _ _ _ _ us hl => match us, hl with | [_, _], _ => rfl
  have F3 := fun_mk (st := s_is_pair) l3 c3 k3
  have b3 := F3.binds (ps := ["thing"]) fun _ _ _ _ _ _ us hl => match us, hl with | [_], _ => rfl
  have F4 := fun_mk (st := s_is_flags) l4 c4 k4
  have b4 := F4.binds (ps := ["thing"]) fun _ _ _ _ _ _ us hl => match us, hl with | [_], _ => rfl
  have F5 := fun_mk (st := s_webI) l5 c5 k5
  have b5 := F5.binds (ps := ["self", "many", "ties"]) fun _ _ _ _ _ _ us hl => match us, hl with | [_, _, _], _ => rfl
  have F6 := fun_mk (st := s_webE) l6 c6 k6
  have b6 := F6.binds (ps := ["self", "other"]) fun _ _ _ _ _ _ us hl => match us, hl with | [_, _], _ => rfl
  have F7 := fun_mk (st := s_is_tie) l7 c7 k7
  have b7 := F7.binds (ps := ["thing", "many"]) fun _ _ _ _ _ _ us hl => match us, hl with | [_, _], _ => rfl
  have F8 := fun_mk (st := s_is_signing) l8 c8 k8
  have b8 := F8.binds (ps := ["web", "thing"]) fun _ _ _ _ _ _ us hl => match us, hl with | [_, _], _ => rfl
  have F9 := fun_mk (st := s_is_rising) l9 c9 k9
  have b9 := F9.binds (ps := ["web", "thing"]) fun _ _ _ _ _ _ us hl => match us, hl with | [_, _], _ => rfl
  have F10 := fun_mk (st := s_goings) l10 c10 k10
  have b10 := F10.binds (ps := ["web", "signing"]) fun _ _ _ _ _ _ us hl => match us, hl with | [_, _], _ => rfl
  have F11 := fun_mk (st := s_round_of) l11 c11 k11
  have b11 := F11.binds (ps := ["web", "signing"]) fun _ _ _ _ _ _ us hl => match us, hl with | [_, _], _ => rfl
  have F12 := fun_mk (st := s_never_sources) l12 c12 k12
  have b12 := F12.binds (ps := ["many", "goings"]) fun _ _ _ _ _ _ us hl => match us, hl with | [_, _], _ => rfl
  have F13 := fun_mk (st := s_round_behind) l13 c13 k13
  have b13 := F13.binds (ps := ["goings", "left"]) fun _ _ _ _ _ _ us hl => match us, hl with | [_, _], _ => rfl
  have F14 := fun_mk (st := s_sources) l14 c14 k14
  have b14 := F14.binds (ps := ["web", "signing"]) fun _ _ _ _ _ _ us hl => match us, hl with | [_, _], _ => rfl
  have F15 := fun_mk (st := s_turned) l15 c15 k15
  have b15 := F15.binds (ps := ["web", "signing", "place"]) fun _ _ _ _ _ _ us hl => match us, hl with | [_, _, _], _ => rfl
  have F16 := fun_mk (st := s_is_source) l16 c16 k16
  have b16 := F16.binds (ps := ["web", "signing", "thing"]) fun _ _ _ _ _ _ us hl => match us, hl with | [_, _, _], _ => rfl
  have F17 := fun_mk (st := s_behind) l17 c17 k17
  have b17 := F17.binds (ps := ["web", "signing", "place"]) fun _ _ _ _ _ _ us hl => match us, hl with | [_, _, _], _ => rfl
  have F18 := fun_mk (st := s_l_urn) l18 c18 k18
  have b18 := F18.binds (ps := ["script"]) fun _ _ _ _ _ _ us hl => match us, hl with | [_], _ => rfl
  have F19 := fun_mk (st := s_l_pull) l19 c19 k19
  have b19 := F19.binds (ps := ["urn", "many"]) fun _ _ _ _ _ _ us hl => match us, hl with | [_, _], _ => rfl
  have F20 := fun_mk (st := s_l_any) l20 c20 k20
  have b20 := F20.binds (ps := ["urn", "things"]) fun _ _ _ _ _ _ us hl => match us, hl with | [_, _], _ => rfl
  have F21 := fun_mk (st := s_l_mixed) l21 c21 k21
  have b21 := F21.binds (ps := ["urn", "things"]) fun _ _ _ _ _ _ us hl => match us, hl with | [_, _], _ => rfl
  have F22 := fun_mk (st := s_l_made) l22 c22 k22
  have b22 := F22.binds (ps := ["web"]) fun _ _ _ _ _ _ us hl => match us, hl with | [_], _ => rfl
  have F23 := fun_mk (st := s_l_arrows) l23 c23 k23
  have b23 := F23.binds (ps := ["web", "signing"]) fun _ _ _ _ _ _ us hl => match us, hl with | [_, _], _ => rfl
  have F24 := fun_mk (st := s_l_rises) l24 c24 k24
  have b24 := F24.binds (ps := ["web", "signing"]) fun _ _ _ _ _ _ us hl => match us, hl with | [_, _], _ => rfl
  have F25 := fun_mk (st := s_l_same) l25 c25 k25
  have b25 := F25.binds (ps := ["told", "due"]) fun _ _ _ _ _ _ us hl => match us, hl with | [_, _], _ => rfl
  have F26 := fun_mk (st := s_l_web) l26 c26 k26
  have b26 := F26.binds (ps := ["urn", "most", "top"]) fun _ _ _ _ _ _ us hl => match us, hl with | [_, _, _], _ => rfl
  have F27 := fun_mk (st := s_l_by_order) l27 c27 k27
  have b27 := F27.binds (ps := ["urn", "web"]) fun _ _ _ _ _ _ us hl => match us, hl with | [_, _], _ => rfl
  have F28 := fun_mk (st := s_l_sources) l28 c28 k28
  have b28 := F28.binds (ps := ["web", "signing"]) fun _ _ _ _ _ _ us hl => match us, hl with | [_, _], _ => rfl
  have F29 := fun_mk (st := s_l_turned) l29 c29 k29
  have b29 := F29.binds (ps := ["web", "signing", "place"]) fun _ _ _ _ _ _ us hl => match us, hl with | [_, _, _], _ => rfl
  have F30 := fun_mk (st := s_l_round_about) l30 c30 k30
  have b30 := F30.binds (ps := ["web", "signing"]) fun _ _ _ _ _ _ us hl => match us, hl with | [_, _], _ => rfl
  have F31 := fun_mk (st := s_l_are_turned_right) l31 c31 k31
  have b31 := F31.binds (ps := ["urn"]) fun _ _ _ _ _ _ us hl => match us, hl with | [_], _ => rfl
  have F32 := fun_mk (st := s_law) l32 c32 k32
  have b32 := F32.binds (ps := ["script"]) fun _ _ _ _ _ _ us hl => match us, hl with | [_], _ => rfl
  let T : Tx K mg := {
    f_is_integer := f0, d_is_integer := _, F_is_integer := F0, b_is_integer := b0, m_is_integer := PySem.W.mg_of X G a0,
    f_is_between := f1, d_is_between := _, F_is_between := F1, b_is_between := b1, m_is_between := PySem.W.mg_of X G a1,
    f_is_below := f2, d_is_below := _, F_is_below := F2, b_is_below := b2, m_is_below := PySem.W.mg_of X G a2,
    f_is_pair := f3, d_is_pair := _, F_is_pair := F3, b_is_pair := b3, m_is_pair := PySem.W.mg_of X G a3,
    f_is_flags := f4, d_is_flags := _, F_is_flags := F4, b_is_flags := b4, m_is_flags := PySem.W.mg_of X G a4,
    f_webI := f5, d_webI := _, F_webI := F5, b_webI := b5,
    f_webE := f6, d_webE := _, F_webE := F6, b_webE := b6,
    f_is_tie := f7, d_is_tie := _, F_is_tie := F7, b_is_tie := b7, m_is_tie := PySem.W.mg_of X G a7,
    f_is_signing := f8, d_is_signing := _, F_is_signing := F8, b_is_signing := b8, m_is_signing := PySem.W.mg_of X G a8,
    f_is_rising := f9, d_is_rising := _, F_is_rising := F9, b_is_rising := b9, m_is_rising := PySem.W.mg_of X G a9,
    f_goings := f10, d_goings := _, F_goings := F10, b_goings := b10, m_goings := PySem.W.mg_of X G a10,
    f_round_of := f11, d_round_of := _, F_round_of := F11, b_round_of := b11, m_round_of := PySem.W.mg_of X G a11,
    f_never_sources := f12, d_never_sources := _, F_never_sources := F12, b_never_sources := b12, m_never_sources := PySem.W.mg_of X G a12,
    f_round_behind := f13, d_round_behind := _, F_round_behind := F13, b_round_behind := b13, m_round_behind := PySem.W.mg_of X G a13,
    f_sources := f14, d_sources := _, F_sources := F14, b_sources := b14, m_sources := PySem.W.mg_of X G a14,
    f_turned := f15, d_turned := _, F_turned := F15, b_turned := b15, m_turned := PySem.W.mg_of X G a15,
    f_is_source := f16, d_is_source := _, F_is_source := F16, b_is_source := b16, m_is_source := PySem.W.mg_of X G a16,
    f_behind := f17, d_behind := _, F_behind := F17, b_behind := b17, m_behind := PySem.W.mg_of X G a17,
    f_l_urn := f18, d_l_urn := _, F_l_urn := F18, b_l_urn := b18, m_l_urn := PySem.W.mg_of X G a18,
    f_l_pull := f19, d_l_pull := _, F_l_pull := F19, b_l_pull := b19, m_l_pull := PySem.W.mg_of X G a19,
    f_l_any := f20, d_l_any := _, F_l_any := F20, b_l_any := b20, m_l_any := PySem.W.mg_of X G a20,
    f_l_mixed := f21, d_l_mixed := _, F_l_mixed := F21, b_l_mixed := b21, m_l_mixed := PySem.W.mg_of X G a21,
    f_l_made := f22, d_l_made := _, F_l_made := F22, b_l_made := b22, m_l_made := PySem.W.mg_of X G a22,
    f_l_arrows := f23, d_l_arrows := _, F_l_arrows := F23, b_l_arrows := b23, m_l_arrows := PySem.W.mg_of X G a23,
    f_l_rises := f24, d_l_rises := _, F_l_rises := F24, b_l_rises := b24, m_l_rises := PySem.W.mg_of X G a24,
    f_l_same := f25, d_l_same := _, F_l_same := F25, b_l_same := b25, m_l_same := PySem.W.mg_of X G a25,
    f_l_web := f26, d_l_web := _, F_l_web := F26, b_l_web := b26, m_l_web := PySem.W.mg_of X G a26,
    f_l_by_order := f27, d_l_by_order := _, F_l_by_order := F27, b_l_by_order := b27, m_l_by_order := PySem.W.mg_of X G a27,
    f_l_sources := f28, d_l_sources := _, F_l_sources := F28, b_l_sources := b28, m_l_sources := PySem.W.mg_of X G a28,
    f_l_turned := f29, d_l_turned := _, F_l_turned := F29, b_l_turned := b29, m_l_turned := PySem.W.mg_of X G a29,
    f_l_round_about := f30, d_l_round_about := _, F_l_round_about := F30, b_l_round_about := b30, m_l_round_about := PySem.W.mg_of X G a30,
    f_l_are_turned_right := f31, d_l_are_turned_right := _, F_l_are_turned_right := F31, b_l_are_turned_right := b31, m_l_are_turned_right := PySem.W.mg_of X G a31,
    f_law := fa, d_law := _, F_law := F32, b_law := b32, m_law := PySem.W.mg_of X G a32,
    C_Web := C_Web, m_Web := PySem.W.mg_of X G aC_Web, cl_Web := ⟨pg_Web, hd_Web, po_Web, sa_Web⟩, mk_Web := ⟨mk_Web, a5, i5, kc_Web⟩,
    eq_Web := a6, eqf_Web := i6,
    ic_Web := ic_Web, im_Web := im_Web, no_Web_many := no_Web_many, no_Web_ties := no_Web_ties,
    ia := ia, ib := ib,
    t_MOST_PLACES := t_MOST_PLACES, m_MOST_PLACES := PySem.W.mg_of X G v_MOST_PLACES,
    t_MOST_TIES := t_MOST_TIES, m_MOST_TIES := PySem.W.mg_of X G v_MOST_TIES,
    g_abs := PySem.W.mg_none_of X G z_abs, g_all := PySem.W.mg_none_of X G z_all, g_any := PySem.W.mg_none_of X G z_any, g_bool := PySem.W.mg_none_of X G z_bool, g_enumerate := PySem.W.mg_none_of X G z_enumerate, g_int := PySem.W.mg_none_of X G z_int, g_isinstance := PySem.W.mg_none_of X G z_isinstance, g_len := PySem.W.mg_none_of X G z_len, g_list := PySem.W.mg_none_of X G z_list, g_max := PySem.W.mg_none_of X G z_max, g_min := PySem.W.mg_none_of X G z_min, g_range := PySem.W.mg_none_of X G z_range, g_reversed := PySem.W.mg_none_of X G z_reversed, g_tuple := PySem.W.mg_none_of X G z_tuple, g_zip := PySem.W.mg_none_of X G z_zip }
  exact ⟨_, fun s v => .of_eq rfl, fun base _ _ => (ok_law T : FnOk l.prog w K mg base CX0 12 T.f_law T.d_law _ _)⟩
end K37
open PySem PySem.W PyProof.Rows
set_option maxRecDepth 100000 in
set_option maxHeartbeats 0 in
theorem PySem.Challenge.cw_takenjoined_k37_whole_sources_turned_holds : PySem.Challenge.rw_takenjoined_k37_whole_sources_turned.Holds := by
  w_on; o_law; k_head; (case hw => w_witness2)
  k_fill
  refine L2.walk_of (l := PySem.Challenge.rw_takenjoined_k37_whole_sources_turned) (n := 63) (k := 12) (x := "script") (CX := fun _ => L2.CX0) (sp := fun w => K37.spLaw _) rfl (by decide) rfl ⟨rfl, by decide, by decide⟩ (fun w h Y => PySem.W.kIn_of Y) ?F (fun _ _ a ns hl _ hS => ⟨a, ns, rfl, hS, hl, fun _ => rfl⟩) (fun _ _ _ _ _ h => h)
  case F =>
    intro w mg fa h KX G hmg
    refine' K37.all_mk KX G hmg ?aC_Web ?a0 ?l0 ?c0 ?k0 ?a1 ?l1 ?c1 ?k1 ?a2 ?l2 ?c2 ?k2 ?a3 ?l3 ?c3 ?k3 ?a4 ?l4 ?c4 ?k4 ?a5 ?i5 ?l5 ?c5 ?k5 ?a6 ?i6 ?l6 ?c6 ?k6 ?a7 ?l7 ?c7 ?k7 ?a8 ?l8 ?c8 ?k8 ?a9 ?l9 ?c9 ?k9 ?a10 ?l10 ?c10 ?k10 ?a11 ?l11 ?c11 ?k11 ?a12 ?l12 ?c12 ?k12 ?a13 ?l13 ?c13 ?k13 ?a14 ?l14 ?c14 ?k14 ?a15 ?l15 ?c15 ?k15 ?a16 ?l16 ?c16 ?k16 ?a17 ?l17 ?c17 ?k17 ?a18 ?l18 ?c18 ?k18 ?a19 ?l19 ?c19 ?k19 ?a20 ?l20 ?c20 ?k20 ?a21 ?l21 ?c21 ?k21 ?a22 ?l22 ?c22 ?k22 ?a23 ?l23 ?c23 ?k23 ?a24 ?l24 ?c24 ?k24 ?a25 ?l25 ?c25 ?k25 ?a26 ?l26 ?c26 ?k26 ?a27 ?l27 ?c27 ?k27 ?a28 ?l28 ?c28 ?k28 ?a29 ?l29 ?c29 ?k29 ?a30 ?l30 ?c30 ?k30 ?a31 ?l31 ?c31 ?k31 ?a32 ?l32 ?c32 ?k32 ?pg_Web ?hd_Web ?po_Web ?sa_Web ?mk_Web ?kc_Web ?ic_Web ?im_Web ?no_Web_many ?no_Web_ties ?ia ?ib ?v_MOST_PLACES ?v_MOST_TIES ?z_abs ?z_all ?z_any ?z_bool ?z_enumerate ?z_int ?z_isinstance ?z_len ?z_list ?z_max ?z_min ?z_range ?z_reversed ?z_tuple ?z_zip
    (case aC_Web => k_is); (case a0 => k_is); (case l0 => k_is); (case c0 => k_is); (case k0 => k_is)
    (case a1 => k_is); (case l1 => k_is); (case c1 => k_is); (case k1 => k_is); (case a2 => k_is)
    (case l2 => k_is); (case c2 => k_is); (case k2 => k_is); (case a3 => k_is); (case l3 => k_is)
    (case c3 => k_is); (case k3 => k_is); (case a4 => k_is); (case l4 => k_is); (case c4 => k_is)
    (case k4 => k_is); (case a5 => k_is); (case i5 => k_is); (case l5 => k_is); (case c5 => k_is)
    (case k5 => k_is); (case a6 => k_is); (case i6 => k_is); (case l6 => k_is); (case c6 => k_is)
    (case k6 => k_is); (case a7 => k_is); (case l7 => k_is); (case c7 => k_is); (case k7 => k_is)
    (case a8 => k_is); (case l8 => k_is); (case c8 => k_is); (case k8 => k_is); (case a9 => k_is)
    (case l9 => k_is); (case c9 => k_is); (case k9 => k_is); (case a10 => k_is); (case l10 => k_is)
    (case c10 => k_is); (case k10 => k_is); (case a11 => k_is); (case l11 => k_is); (case c11 => k_is)
    (case k11 => k_is); (case a12 => k_is); (case l12 => k_is); (case c12 => k_is); (case k12 => k_is)
    (case a13 => k_is); (case l13 => k_is); (case c13 => k_is); (case k13 => k_is); (case a14 => k_is)
    (case l14 => k_is); (case c14 => k_is); (case k14 => k_is); (case a15 => k_is); (case l15 => k_is)
    (case c15 => k_is); (case k15 => k_is); (case a16 => k_is); (case l16 => k_is); (case c16 => k_is)
    (case k16 => k_is); (case a17 => k_is); (case l17 => k_is); (case c17 => k_is); (case k17 => k_is)
    (case a18 => k_is); (case l18 => k_is); (case c18 => k_is); (case k18 => k_is); (case a19 => k_is)
    (case l19 => k_is); (case c19 => k_is); (case k19 => k_is); (case a20 => k_is); (case l20 => k_is)
    (case c20 => k_is); (case k20 => k_is); (case a21 => k_is); (case l21 => k_is); (case c21 => k_is)
    (case k21 => k_is); (case a22 => k_is); (case l22 => k_is); (case c22 => k_is); (case k22 => k_is)
    (case a23 => k_is); (case l23 => k_is); (case c23 => k_is); (case k23 => k_is); (case a24 => k_is)
    (case l24 => k_is); (case c24 => k_is); (case k24 => k_is); (case a25 => k_is); (case l25 => k_is)
    (case c25 => k_is); (case k25 => k_is); (case a26 => k_is); (case l26 => k_is); (case c26 => k_is)
    (case k26 => k_is); (case a27 => k_is); (case l27 => k_is); (case c27 => k_is); (case k27 => k_is)
    (case a28 => k_is); (case l28 => k_is); (case c28 => k_is); (case k28 => k_is); (case a29 => k_is)
    (case l29 => k_is); (case c29 => k_is); (case k29 => k_is); (case a30 => k_is); (case l30 => k_is)
    (case c30 => k_is); (case k30 => k_is); (case a31 => k_is); (case l31 => k_is); (case c31 => k_is)
    (case k31 => k_is); (case a32 => k_is); (case l32 => k_is); (case c32 => k_is); (case k32 => k_is)
    (case pg_Web => k_is); (case hd_Web => k_is); (case po_Web => k_is); (case sa_Web => k_is); (case mk_Web => k_is)
    (case kc_Web => k_is); (case ic_Web => k_is); (case im_Web => k_is); (case no_Web_many => k_is); (case no_Web_ties => k_is)
    (case ia => k_is); (case ib => k_is); (case v_MOST_PLACES => k_is); (case v_MOST_TIES => k_is); (case z_abs => k_is)
    (case z_all => k_is); (case z_any => k_is); (case z_bool => k_is); (case z_enumerate => k_is); (case z_int => k_is)
    (case z_isinstance => k_is); (case z_len => k_is); (case z_list => k_is); (case z_max => k_is); (case z_min => k_is)
    (case z_range => k_is); (case z_reversed => k_is); (case z_tuple => k_is); (case z_zip => k_is)

