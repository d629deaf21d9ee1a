import PyProof.Rows.All
import Wide.All
import OpenK.AllK
import Wide.FinOn
import HandS.ForMost
import HandS.IsInst
import HandS.Wide
import HandS.OwnEq
import HandS.Strs
import HandS.SetFor
import HandS.SortInts
import HandS.TupAny
import HandS.Conv
import HandS.Flow
import HandS.Walk
import KE.GoesEnum
import PyProof.ReprRoads
import HandS.Words
import HandS.Ends
import PyProof.InstNe
import HandS.Evl
import HandS.Style
import HandS.ExcInit
import HandS.Rev
import HandS.ExcIs
import HandS.WordsExc
import HandS.TupMul
import HandS.Zip
import KE.RegKIsAll
import KE.RegKTryMore
import PySem.Challenge.RW_takenjoined_k17_worth_of_any_numbers
set_option Elab.async false
set_option linter.all false
set_option maxRecDepth 100000
set_option maxHeartbeats 4000000
/-! Rules of my own over the hand layer: a tuple counted through. -/
namespace Rl
open PySem PySem.Spec PyProof.Rows L2
/-! ### for i, x in enumerate(t), t a tuple -/
theorem meets_enT (u : Addr) (vs : Array Value) (nn : Nat) (dd : Option Addr) (ss : Array (Option Value)) :
    Meets (Builtin.«enumerate.__new__» ⟨[.type "enumerate", .ref u], []⟩) (fun _ R s =>
      s.heap.get? u = some { cls := .type "tuple", dict := dd, data := .seq vs nn, slots := ss } ∧
      R (.ok (.ret (.ref (s.heap.push { cls := .type "tuple_iterator", data := .fields #[.ref u, .int 0 0] }).objs.size)))
        { s with heap := ((s.heap.push { cls := .type "tuple_iterator", data := .fields #[.ref u, .int 0 0] }).push
            ({ cls := .type "enumerate", data := .fields #[.none, .bool false, .ref s.heap.objs.size, rawInt 0, .none, .none] } : Obj)) }) :=
  .of_wp fun prog w A R s hy => by
    obtain ⟨hp, gg, dw, tk, oo⟩ := s; obtain ⟨hu, fin⟩ := hy
    have sb := sub_enumerate
    have tt : Heap.IsTuple (Shared.heap ⟨hp, gg, dw, tk, oo⟩) u vs := ⟨_, hu, rfl, nn, rfl⟩
    wp_walk using AutoSeq1.wpAny_loadPart' hu
    refine wpAny_stack_any fun stk => wpAny_pure ?_
    split
    · rename_i cc _ _ _ _ _
      cases (cc == Value.type "enumerate")
      · wp_walk using AutoSeq1.wpAny_loadPart' hu, wpAny_pyIter_tuple tt
        exact ⟨_, rfl, fin⟩
      · wp_walk using AutoSeq1.wpAny_loadPart' hu, wpAny_pyIter_tuple tt
        exact ⟨_, rfl, fin⟩
    · wp_walk using AutoSeq1.wpAny_loadPart' hu, wpAny_pyIter_tuple tt
      exact ⟨_, rfl, fin⟩
section
variable {prog : Program} {w : World} {A : Around} {E : Value → Shared → Prop} {s : Shared}
theorem call_enT {u : Addr} {vs : Array Value} {Q : Value → Shared → Prop} (ht : s.heap.IsTuple u vs)
    (fin : ∀ g, IsEnum g (s.heap.objs.size + 1) s.heap.objs.size 0 .none → g.IsTupleIter s.heap.objs.size u 0 → g.objs.size = s.heap.objs.size + 2 →
      (∀ b o, s.heap.get? b = some o → g.get? b = some o) → Q (.ref (s.heap.objs.size + 1)) { s with heap := g }) :
    wpAny (model prog w) A (call (.type "enumerate") [.ref u]) Q E s := by
  obtain ⟨⟨cc, dd, da, ss⟩, hu, ec, nn, ed⟩ := ht
  replace ec : cc = .type "tuple" := ec
  replace ed : da = .seq vs nn := ed
  subst ec ed
  refine callType_new F.called_enumerate (by decide) (F.typeCall_enumerate_1 _) (F.newCall_enumerate_1 _)
    (fun ob => F.args_object_init_2 ob _) F.entry_enumerate_new (meets_enT u vs nn dd ss) ⟨hu, ?_⟩
  have sz : (s.heap.push { cls := .type "tuple_iterator", data := .fields #[.ref u, .int 0 0] }).objs.size
      = s.heap.objs.size + 1 := Heap.size_push ..
  show _ ∧ _
  rw [sz]
  have en : IsEnum ((s.heap.push { cls := .type "tuple_iterator", data := .fields #[.ref u, .int 0 0] }).push
      { cls := .type "enumerate", data := .fields #[.none, .bool false, .ref s.heap.objs.size, rawInt 0, .none, .none] })
      (s.heap.objs.size + 1) s.heap.objs.size 0 .none := by
    have q := Heap.get?_push_size (s.heap.push { cls := .type "tuple_iterator", data := .fields #[.ref u, .int 0 0] })
      (o := { cls := .type "enumerate", data := .fields #[.none, .bool false, .ref s.heap.objs.size, rawInt 0, .none, .none] }) rfl
    rw [sz] at q
    exact q
  refine ⟨⟨_, en, rfl⟩, fin _ en ?_ (by rw [Heap.size_push, sz])
    fun b o x => Heap.get?_push_of_some _ (Heap.get?_push_of_some _ x)⟩
  have q0 := Heap.get?_push_size s.heap (o := { cls := .type "tuple_iterator", data := .fields #[.ref u, .int 0 0] }) rfl
  exact ⟨_, Heap.get?_push_of_some _ q0, rfl, rfl⟩
end
/-- the tuple at a, each item with its number in a new pair -/
def Iet (K : PySem.W.Frag) (a : Addr) : It :=
  ⟨fun i H => ∃ (ys : List V) (y : V), SqT K H a ys ∧ ys[i]? = some y,
   fun i H v H' => ∃ T y, v = .ref T ∧ H T = none ∧ H' = upd H T (.tup [.int (i : Nat), y]) ∧ ∀ ys, SqT K H a ys → ys[i]? = some y,
   fun i H => ∃ ys : List V, SqT K H a ys ∧ ys.length = i⟩
theorem turn_enT {P : Program} {w : World} {K : PySem.W.Frag} {elts : List Expr} {kk : Nat} {tp : Pos} (a e it : Addr) :
    Turn P w K (.Tuple elts kk tp) (Iet K a) [e, it] e
      (fun i h => (∃ old, IsEnum h e it ((i : Nat) : Int) old) ∧ h.IsTupleIter it a i ∧ e ≠ it) where
  mem := by simp
  obj := fun i h st b hb => by
    obtain ⟨⟨old, en⟩, ⟨o, ho, _, hd⟩, _⟩ := st
    have z : b = e ∨ b = it := by simpa using hb
    rcases z with z | z
    · rw [z]
      exact ⟨_, en, fun v q => nomatch q⟩
    · rw [z]
      exact ⟨o, ho, fun v q => by rw [hd] at q; cases q⟩
  keep := fun i h h' st k => by
    obtain ⟨⟨old, en⟩, ti, ne⟩ := st
    exact ⟨⟨old, k e (by simp) _ en⟩, ti.at fun o q => k it (by simp) o q, ne⟩
  item := by
    intro X eP ew eK hc i pins s σ H E I fk st go
    subst eP ew eK
    obtain ⟨⟨old, en⟩, ti, ne⟩ := st
    obtain ⟨ys, y, hq, hy⟩ := go
    obtain ⟨its, rv, pt, hz⟩ := I.tuple hq
    obtain ⟨u, hu, ru⟩ := rv.get hy
    have le : e < s.heap.objs.size := Heap.lt_size en
    have li : it < s.heap.objs.size := by obtain ⟨_, q, _⟩ := ti; exact Heap.lt_size q
    have hlt : i < its.toArray.size := by
      have q := (List.getElem?_eq_some_iff.mp hu).1
      simpa using q
    have nai : a ≠ it := fun z => by
      obtain ⟨o, ho, hcl, _⟩ := ti
      obtain ⟨o2, ho2, hcl2, _⟩ := pt
      rw [z] at ho2
      rw [ho] at ho2
      cases ho2
      rw [hcl] at hcl2
      exact absurd hcl2 (by simp)
    have nae : e ∉ [it, a] := fun z => by
      have z' : e = it ∨ e = a := by simpa using z
      rcases z' with z' | z'
      · exact ne z'
      · obtain ⟨o2, ho2, hcl2, _⟩ := pt
        rw [← z'] at ho2
        have q := en
        unfold IsEnum at q
        rw [q] at ho2
        cases ho2
        exact absurd hcl2 (by simp)
    have hh : X.A.in1.handled = none := by
      have q := I.ok.hd hc
      simpa using q
    refine wpAny_pyNext_enum_itemC (Draws.tuple hh it a nai its.toArray) en ⟨ti, pt⟩ hlt ne nae
      fun x h' tk ex out hst hT hsz hk => ?_
    have exu : u = x := by
      have q : its.toArray[i]? = some u := by simpa using hu
      exact Option.some.inj (q.symm.trans ex)
    subst exu
    refine ⟨_, rfl, wpAny_letOwnedTupleGo_enum (s := { s with heap := h', toks := tk + 1 }) out fun h2 en2 sb => ?_⟩
    have hT2 : h2.get? s.heap.objs.size = some { cls := .type "tuple", data := .seq #[.int i tk, u] } :=
      (sb.2 _ (Nat.ne_of_gt le)).trans hT
    have new : ObjOk X.prog X.w (upd H s.heap.objs.size (.tup [.int (i : Nat), y])) h2 s.heap.objs.size (.tup [.int (i : Nat), y]) :=
      ⟨by show 2 ≤ sizeLine; decide, [.int i tk, u], .cons ⟨_, rfl⟩ (.cons ru .nil), ⟨_, hT2, rfl, _, rfl⟩⟩
    have I1 : Inv X pins σ (upd H s.heap.objs.size (.tup [.int (i : Nat), y])) { s with heap := h2, toks := tk + 1 } :=
      I.turnedNew (ch := [e, it]) (fun b ob hb q => (sb.2 b (fun z => hb (by simp [z]))).trans
        (hk b ob (fun z => hb (by simp [z])) (fun z => hb (by simp [z])) q)) fk (Nat.le_refl _) new
    refine ⟨.ref s.heap.objs.size, _, I1, rfl, ⟨_, y, rfl, I.hok.fresh (Nat.le_refl _), rfl, fun zs hzs => by rw [I.tuple_inj hzs hq]; exact hy⟩,
      ⟨⟨u, ?_⟩, hst.1.at fun o q => (sb.2 it (Ne.symm ne)).trans q, ne⟩, fun b hb => ?_⟩
    · have e1 : ((i + 1 : Nat) : Int) = (i : Int) + 1 := by omega
      rw [e1]
      exact en2
    · have z : b = e ∨ b = it := by simpa using hb
      have hb' : b < s.heap.objs.size := by
        rcases z with z | z
        · rw [z]; exact le
        · rw [z]; exact li
      rw [upd_ne (Nat.ne_of_lt hb')]
      exact (fk b hb).1
  done := by
    intro X eP ew eK hc i pins s σ H E I fk st go
    subst eP ew eK
    obtain ⟨⟨old, en⟩, ti, ne⟩ := st
    obtain ⟨ys, hq, hl⟩ := go
    obtain ⟨its, rv, pt, hz⟩ := I.tuple hq
    obtain ⟨f0, f1, f2, f3, f4, f5⟩ := fk it (by simp)
    have ln := rv.length
    have hh : X.A.in1.handled = none := by
      have q := I.ok.hd hc
      simpa using q
    have nai : a ≠ it := fun z => by
      obtain ⟨o, ho, hcl, _⟩ := ti
      obtain ⟨o2, ho2, hcl2, _⟩ := pt
      rw [z] at ho2
      rw [ho] at ho2
      cases ho2
      rw [hcl] at hcl2
      exact absurd hcl2 (by simp)
    have ei : its.toArray.size = i := by
      rw [List.size_toArray, ← ln]
      exact hl
    refine wpAny_pyNext_enum_endD (Draws.tuple hh it a nai its.toArray) en (by rw [ei]; exact ⟨ti, pt⟩)
      fun h' eb => ⟨rfl, ?_⟩
    exact I.turned (t' := s.toks) (fun b o hb q => eb b o hb q) f0 f1 f3 f4 f5
  self := fun A i s Q E st h => let ⟨⟨_, en⟩, _⟩ := st; wpAny_pyIter_enum en h
def iEnT (K : PySem.W.Frag) (ta : TA) : TI := fun σ H R => ta σ H fun vs H1 => ∃ a ys, vs = [.ref a] ∧ SqT K H1 a ys ∧ R (Iet K a) H1
theorem pi_enT {X : Cx} {e : Expr} {ta : TA} {p pos tpos : Pos} {elts : List Expr} {kk : Nat} (hg : Gl X "enumerate") (hm : X.mg "enumerate" = none)
    (ha : PA X [e] ta) (hs : starEach [e] X.env = [(false, eval e X.env)] := by rfl) :
    PI X (.Tuple elts kk tpos) (.Call (.Name "enumerate" p) [e] [] pos) (iEnT X.K ta) := by
  refine ⟨fun pins s σ H R I hy => ?_⟩
  refine Call_ (ld_blt I hg hm boot_enumerate (PyProof.Rows.callWith_type1
    (thn (ha.run pos pins s σ H _ I hy) fun us s1 ⟨vs, H1, I1, r1, q1⟩ => ?_) hs rfl))
  obtain ⟨a, ys, ex, hq, q⟩ := q1
  subst ex
  cases r1 with
  | cons r rr =>
    cases rr
    cases r
    obtain ⟨its, rv, pt, hz⟩ := I1.tuple hq
    refine call_enT (show s1.heap.IsTuple a its.toArray from pt) fun g en ti hsz hk => wpAny_pyIter_enum en ?_
    have I2 : Inv X pins σ H1 { s1 with heap := g } := I1.kept (t' := s1.toks) hk
    refine ⟨s1.heap.objs.size + 1, [s1.heap.objs.size + 1, s1.heap.objs.size], _, _, H1, rfl, I2,
      turn_enT a (s1.heap.objs.size + 1) s1.heap.objs.size, ⟨⟨.none, en⟩, ti, Nat.succ_ne_self _⟩, fun b hb => ?_, q⟩
    have z : b = s1.heap.objs.size + 1 ∨ b = s1.heap.objs.size := by simpa using hb
    have le : s1.heap.objs.size ≤ b := by
      rcases z with z | z
      · rw [z]; exact Nat.le_succ _
      · exact Nat.le_of_eq z.symm
    exact I1.fpOk le (I1.hok.fresh le)
/-- the loop over it: each turn's pair is a new tuple at T -/
theorem for_enT {K : PySem.W.Frag} {a : Addr} {xs : List V} {g : TG} {tb : TS} {D : Ends} {σ : L2.St} {H : Hp}
    (Pv : Nat → L2.St → Hp → Prop) (h0 : Pv 0 σ H) (hq : ∀ i σ H, Pv i σ H → SqT K H a xs)
    (hs : ∀ (i : Nat) (x : V) (T : Addr) (σ : L2.St) (H : Hp), xs[i]? = some x → Pv i σ H → H T = none →
      g (.ref T) σ (upd H T (.tup [.int (i : Nat), x])) fun σ2 H2 => tb { D with nx := Pv (i + 1), ct := Pv (i + 1), bk := D.nx } σ2 H2)
    (hd : ∀ σ H, Pv xs.length σ H → D.nx σ H) :
    ∃ W : Nat → Nat → L2.St → Hp → Prop, (∃ m, W 0 m σ H) ∧ ∀ i m σ H, W i m σ H → ((Iet K a).stop i H ∧ D.nx σ H) ∨
      ((Iet K a).go i H ∧ ∃ N : L2.St → Hp → Prop, (∀ σ' H', N σ' H' → ∃ m', m' < m ∧ W (i + 1) m' σ' H') ∧
        ∀ v H', (Iet K a).yld i H v H' → g v σ H' fun σ2 H2 => tb { D with nx := N, ct := N, bk := D.nx } σ2 H2) := by
  refine ⟨fun i m σ H => m = xs.length - i ∧ i ≤ xs.length ∧ Pv i σ H, ⟨xs.length, rfl, Nat.zero_le _, h0⟩, fun i m σ H hw => ?_⟩
  obtain ⟨em, hi, p⟩ := hw
  subst em
  have qx := hq i σ H p
  by_cases lt : i < xs.length
  · refine .inr ⟨⟨xs, _, qx, List.getElem?_eq_getElem lt⟩, Pv (i + 1), fun σ' H' p' => ⟨xs.length - (i + 1), by omega, rfl, lt, p'⟩, fun v H' y => ?_⟩
    obtain ⟨T, x, ev, hT, eH, f⟩ := y
    subst ev eH
    exact hs i x T σ H (f xs qx) p hT
  · have e : i = xs.length := by omega
    subst e
    exact .inl ⟨⟨xs, qx, rfl⟩, hd σ H p⟩
theorem walk_enT {K : PySem.W.Frag} {a : Addr} {xs : List V} : Walk (Iet K a) xs.length (fun H => SqT K H a xs) (YPair (fun i => some (.int (i : Nat))) (fun i => xs[i]?)) := by
  refine ⟨fun i _ lt q => ⟨xs, _, q, List.getElem?_eq_getElem lt⟩, fun _ q => ⟨xs, q, rfl⟩, fun i H v H' _ q y => ?_⟩
  obtain ⟨T, x, g1, g2, g3, g4⟩ := y
  exact ⟨T, .int (i : Nat), x, g1, g2, g3, rfl, g4 xs q⟩
end Rl
set_option Elab.async false
set_option linter.all false
set_option maxRecDepth 100000
set_option maxHeartbeats 4000000
/-! Rules of my own: defs that are called where no text of an object is under way; repr of deep things. -/
namespace KG
open PySem L2 PySem.Spec PyProof.Rows
/-- as FnOk, where it is known that no guard stands around -/
structure FnG (P : Program) (w : World) (K : PySem.W.Frag) (mg : Str → Option Value) (base : Heap) (k : Nat) (f : Addr) (fd : FuncData) (ps : List Str) (sp : Sp) : Prop where
  many : ∀ vs H Q E, sp vs H Q E → vs.length = ps.length
  go : ∀ (A : Around) (out : List Env) (s : Shared) (H : Hp) (args : Args) (us : List Value) (vs : List V) (Q : VK) (E : XK), A.guards = some [] → Room k A →
    Env0 P w K mg base A out s H → BindsTo s fd args (ps.zip us) → Vals vs us → sp vs H Q E → codeAny (model P w) A (.call (.ref f) args) (CR CX0 out P w H s Q E) s
section
variable {P : Program} {w : World} {K : PySem.W.Frag} {mg : Str → Option Value} {base : Heap}
theorem FnG.of {k : Nat} {f : Addr} {fd : FuncData} {ps : List Str} {sp : Sp} (F : FnOk P w K mg base CX0 k f fd ps sp) : FnG P w K mg base k f fd ps sp :=
  ⟨F.len, fun A out s H args us vs Q E _ hr he hb hv h => F.run A out s H args us vs Q E hr he hb hv h⟩
/-- a def by its body, no guard around -/
theorem okG {x qual : Str} {st : Stmt} {f : Addr} {fd : FuncData} {N ps : List Str} {k : Nat} {sp : Sp} (F : Fun K x qual st f fd) (S : FnScope N ps (defScope st))
    (many : ∀ vs H Q E, sp vs H Q E → vs.length = ps.length)
    (body : ∀ (cdv : Value) (A : Around) (out : List Env) (s : Shared) (H : Hp) (vs : List V) (Q : VK) (E : XK), A.guards = some [] →
      Room k (A.deeper (envOfC qual (defScope st) s.heap.objs.size f cdv)) → sp vs H Q E →
      ∃ t, PSs (cxOf CX0 P w K mg base N qual (defScope st) f cdv A out s H E).nox (defBody st) t ∧
        t { nx := fun _ H' => Q .non H', rt := Q } (L2.start N vs) H) : FnG P w K mg base (k + 1) f fd ps sp := by
  obtain ⟨oc, od, kV, doc, pm, an, cdv, ct, osl, rfl, lk, hcd⟩ := F.ex
  refine ⟨many, fun A out s H args us vs Q E hgd hr env hb rv hsp => ?_⟩
  obtain ⟨t, ht', hq⟩ := body cdv A out s H vs Q E hgd (hr.deeper _) hsp
  have ht := ht'.nox
  have inK : K.In s.heap := env.mod.kin.keeps fun a u e => (env.bs a u e).1
  have free : s.heap.NoLimit := env.mod.nolimit.keeps fun a u e => (env.bs a u e).1
  have kinds : ∀ y ∈ ps.zip us, (defScope st).names.lookup y.1 = some .local ∨
      ((defScope st).names.lookup y.1 = some .cell ∧ ((cellsFrom (s.heap.objs.size + 1) (defScope st).names []).lookup y.1).isSome = true) := by
    rintro ⟨y, u⟩ hy
    exact (S.par y (List.of_mem_zip hy).1).imp id fun c => ⟨c, PySem.W.cellsFrom_some _ _ _ (.inl c)⟩
  refine codeAny_call_function hr.depth (inK _ _ lk) rfl S.co S.gen rfl (PySem.W.codeRec_of inK hcd) (hb _ _ _ _ ?_)
  refine wpAny_newFunctionEnv_cells S.kind kinds fun env2 he s1 inside => ?_
  subst he
  refine ⟨free.keeps inside.toInCall.keep, codeAny_func ?_⟩
  have inv := inv_start (CX := CX0) (E := E) S hr.hd env (many _ _ _ _ hsp) rv inside
  refine wpAny_mono (ht.run [] s1 (L2.start N vs) H _ inv hq) ?_ fun _ _ z => z
  intro fl s2 z
  cases fl with
  | ret u =>
    obtain ⟨v, σ', H', J, rvu, q⟩ := z
    exact ⟨v, H', J.os, J.bare, J.base, J.hok, rvu, q⟩
  | next =>
    obtain ⟨σ', H', J, q⟩ := z
    exact ⟨V.non, H', J.os, J.bare, J.base, J.hok, rfl, q⟩
  | brk =>
    obtain ⟨_, _, _, q⟩ := z
    exact q.elim
  | cont =>
    obtain ⟨_, _, _, q⟩ := z
    exact q.elim
end
section
variable {X : Cx}
/-- f(e, ..), no guard around -/
theorem pe_callG {k : Nat} {f : Addr} {fd : FuncData} {ps : List Str} {sp : Sp} {x : Str} {p pos : Pos} {e : Expr} {es : List Expr} {t : TA} (hgd : X.A.guards = some []) (F : FnG X.prog X.w X.K X.mg X.base k f fd ps sp) (hr : Room k X.A) (hg : Gl X x) (hm : X.mg x = some (.ref f))
    (hk : PySem.W.keepIn X.K (.ref f) = true) (hb : Binds X.K fd ps []) (ha : PA X (e :: es) t) (hx : Passes CX0 X E0 := by exact pass0) (hdb : (x == ("__debug__" : Str)) = false := by decide)
    (he : starEach (e :: es) X.env = (false, eval e X.env) :: starEach es X.env := by rfl) (hpl : (backTo pos (starEach es X.env)).any (·.1) = false := by rfl) :
    PE X (.Call (.Name x p) (e :: es) [] pos) (tCall sp [] E0 t) := by
  refine ⟨fun pins s σ H Q I h => wpAny_Call_Name_kw (ld_glob I hg hm ?_ hdb)⟩
  refine PySem.W.callWith_K (h₀ := X.base) I.ok.mod.kin hk (thn (ha.run pos pins s σ H _ I h) ?_) he hpl
  rintro us s1 ⟨vs, H1, I1, r, q⟩
  refine ⟨I1.kIn, ?_⟩
  have q' : sp (vs ++ []) H1 Q E0 := q
  rw [List.append_nil] at q'
  have hl : us.length = ps.length := by rw [← Paired.length r]; exact F.many _ _ _ _ q'
  have b := hb s1 us I1.kIn (by rw [List.append_nil]; exact hl)
  rw [List.append_nil] at b
  refine wpAny_call (codeAny_mono (F.go X.A X.stack s1 H1 ⟨us, []⟩ us vs Q E0 hgd hr I1.env0 b r q') ?_)
  intro z s2 hz
  match z, hz with
  | .error er, hz => exact hx pins σ H1 s1 er s2 I1 hz
  | .ok (.ret u), hz => exact I1.after hz
  | .ok .next, hz => exact False.elim hz
  | .ok .brk, hz => exact False.elim hz
  | .ok .cont, hz => exact False.elim hz
/-- repr(x), x deep data -/
def rRepr (K : PySem.W.Frag) : List V → Hp → VK → Prop := fun xs H Q => ∃ (a : Addr) (d : PyData), xs = [.ref a] ∧ Dp K H (.ref a) d ∧ SeqAt.shaped d = true ∧ d.showable = true ∧ d.shown.length ≤ sizeLine ∧ Q (.str d.shown) H
theorem cr_repr (hgd : X.A.guards = some []) (hu : X.A.units + 70 < cLine) : CallR X (.builtin "repr") (rRepr X.K) := by
  intro pins s σ H xs us Q I r h
  obtain ⟨a, d, rfl, hd, hsh, hs, hz, q⟩ := h
  rw [Vals.ref1 r]
  obtain ⟨as, rd⟩ := Dp.reads I d (.ref a) (.ref a) hd rfl
  obtain ⟨hl, hdep⟩ := Bool.and_eq_true_iff.mp hsh
  have hdep := of_decide_eq_true hdep
  refine repr_of_reads' rd hs (PyData.noDict_hsm (PyData.hasDict_of_canLay d hl)) hgd (by omega) (fun _ _ e => e) (fun h' u tk k => ?_) hz
  exact ⟨.str d.shown, H, I.kept (t' := tk) k, ⟨u, rfl⟩, q⟩
end
end KG
set_option Elab.async false
set_option linter.all false
set_option maxRecDepth 100000
set_option maxHeartbeats 4000000
/-! A rule of my own: != of two objects of a class with an == of its own, which are equal. -/
namespace KN
open PySem L2 PySem.Spec PyProof.Rows
section
variable {prog : Program} {w : World} {A : Around} {E : Value → Shared → Prop} {s : Shared} {K : PySem.W.Frag} {x y C f : Addr} {ox : Obj} {od : Option Obj}
theorem ne_body (hu : A.units < cLine) (X : K.In s.heap) (I : PySem.W.InstAt s.heap x ox C od) (hs : PySem.W.findIn K (.ref C) "__eq__" = some (some (.ref f))) (hf : PySem.W.isFn K (.ref f) = true) {Q : Fin → Shared → Prop}
    (hq : wpAny (model prog w) A (call (.ref f) [.ref x, .ref y]) (fun v s' => v = .bool true ∧ Q (.done (.ret (.bool false))) s') E s) : wpAny (model prog w) A (Builtin.«object.__ne__» ⟨[.ref x, .ref y], []⟩) Q E s := by
  have one : wpAny (model prog w) A (callSpecialIfBound? (.ref x) (Str.ofString "__eq__") [.ref y]) (fun r s' => r = some (.bool true) ∧ Q (.done (.ret (.bool false))) s') E s :=
    PySem.W.ifBound_K X I hs hf (wpAny_mono hq (fun v s' z => ⟨by rw [z.1], z.2⟩) fun _ _ e => e)
  obtain ⟨h, g, d, t, os⟩ := s
  unfold Builtin.«object.__ne__»
  repeat (first
    | with_reducible refine wpAny_cRoomFor hu ?_
    | (refine wpAny_bind (m := callSpecialIfBound? (.ref x) (Str.ofString "__eq__") [.ref y]) (wpAny_mono one (fun r s' z => ?_) fun _ _ e => e))
    | wp_step)
  obtain ⟨z1, z2⟩ := z
  subst z1
  repeat (first | exact z2 | exact wpAny_pure z2 | exact wpAny_truthy_bool z2 | (refine wpAny_bind (m := truthy (.bool _)) (wpAny_truthy_bool ?_)) | wp_step)
theorem ne_try (hu : A.units + 1 < cLine) (X : K.In s.heap) (I : PySem.W.InstAt s.heap x ox C od) (hm : PySem.W.mroIn K C (.type "object") = some true) (hs : PySem.W.findIn K (.ref C) "__eq__" = some (some (.ref f)))
    (hn : PySem.W.findIn K (.ref C) "__ne__" = some (some (.builtin "object.__ne__"))) (hf : PySem.W.isFn K (.ref f) = true) {Q : Option Value → Shared → Prop}
    (hq : wpAny (model prog w) A.in1 (call (.ref f) [.ref x, .ref y]) (fun v s' => v = .bool true ∧ Q (some (.bool false)) s') E s) : wpAny (model prog w) A (tryCompare (.ref x) "__ne__" (.ref y)) Q E s := by
  have call1 : wpAny (model prog w) A (call (.builtin "object.__ne__") [.ref x, .ref y]) (fun v s' => v = .bool false ∧ Q (some (.bool false)) s') E s :=
    wpAny_call (codeAny_call_builtin F.cmp_object.ne.plain F.cmpEntry_ne (PySem.W.check_slot F.cmpKind_ne F.cmpSplit_ne (I.type.andThen (PySem.W.looks_mroIn X hm)) (F.cmpArgs_ne _ _)
      (ne_body (A := A.in1) (by show A.units + 1 < cLine; exact hu) X I hs hf (wpAny_mono hq (fun v s' z => ⟨z.1, rfl, z.2⟩) fun _ _ e => e))))
  have bound : wpAny (model prog w) A (callSpecialIfBound? (.ref x) (Str.ofString "__ne__") [.ref y]) (fun r s' => r = some (.bool false) ∧ Q (some (.bool false)) s') E s := by
    simp only [callSpecialIfBound?, bindSpecialIfBound?]
    refine wpAny_holding (wpAny_bind (wpAny_bind (wpAny_bind (I.type.here ((PySem.W.looks_findIn X hn).here ?_)))))
    refine wpAny_bind (wpAny_askSetting (wpAny_ite ?_))
    have fin : wpAny (model prog w) A (call (.builtin "object.__ne__") ([.ref x] ++ [.ref y]) >>= fun v => pure (some v)) (fun r s' => r = some (.bool false) ∧ Q (some (.bool false)) s') E s :=
      wpAny_bind (wpAny_mono call1 (fun v s' z => wpAny_pure ⟨by rw [z.1], z.2⟩) fun _ _ e => e)
    split
    · exact wpAny_bind (wpAny_of_eq (F.cmp_object.ne.bind _) (wpAny_pure (by exact fin)))
    · exact wpAny_tryCatch (wpAny_bind (wpAny_of_eq (F.cmp_object.ne.bind _) (wpAny_pure (by exact fin))))
  unfold tryCompare
  refine wpAny_bind (wpAny_mono bound (fun r s' z => ?_) fun _ _ e => e)
  obtain ⟨z1, z2⟩ := z
  subst z1
  exact wpAny_pure z2
end
/-- what is asked: as of ==; the answer False -/
def rNeG (D : Eqv) : R2 := fun x y H Q => D x y H ∧ ∀ H', Ext H H' → Q (.bl false) H'
section
variable {X : Cx} {n : Nat} {CX : CXT} {C f : Addr} {fd : FuncData} {ps : List Str} {R : Addr → Addr → Hp → Prop} {E : XK}
theorem op_neG (F : FnOk X.prog X.w X.K X.mg X.base CX n f fd ps (spEq R)) (hm : PySem.W.mroIn X.K C (.type "object") = some true) (hs : PySem.W.findIn X.K (.ref C) "__eq__" = some (some (.ref f)))
    (hn : PySem.W.findIn X.K (.ref C) "__ne__" = some (some (.builtin "object.__ne__"))) (hf : PySem.W.isFn X.K (.ref f) = true) (hb : Binds X.K fd ps []) (hx : Passes CX X E) (hr : Room (n + 1) X.A) : OpR X (compareOp .NotEq) (rNeG (DIns C R)) := by
  intro pins s σ H u v x y Q I rx ry h
  obtain ⟨⟨a, b, dx, dy, fs, gs, rfl, rfl, ha, hb', rab⟩, q⟩ := h
  cases rx
  cases ry
  obtain ⟨_, J, _⟩ := ins_get I.hok ha
  obtain ⟨_, J', _⟩ := ins_get I.hok hb'
  obtain ⟨od, J, _⟩ := J.look
  obtain ⟨od', J', _⟩ := J'.look
  have hu1 : X.A.units + 1 < cLine := by
    have := hr.un
    omega
  have e0 : Env0 X.prog X.w X.K X.mg X.base X.A.in1 X.stack s H := I.env0.in1
  have hsp : spEq R [.ref a, .ref b] H (fun v H' => v = .bl true ∧ Ext H H') E := ⟨a, b, rfl, rab, fun H' e => ⟨rfl, e⟩⟩
  have hl := F.len _ _ _ _ hsp
  have r2 : Vals [V.ref a, V.ref b] [Value.ref a, Value.ref b] := .cons rfl (.cons rfl .nil)
  have bd : BindsTo s fd ⟨[.ref a, .ref b], []⟩ (ps.zip [.ref a, .ref b]) := by
    have := hb s [.ref a, .ref b] I.kIn (by simpa using hl)
    simpa using this
  have own : wpAny (model X.prog X.w) X.A.in1 (call (.ref f) [.ref a, .ref b]) (fun v s' => v = .bool true ∧ ∃ H', Inv X pins σ H' s' ∧ Ext H H') X.xe s := by
    refine wpAny_call (codeAny_mono (F.run X.A.in1 X.stack s H ⟨[.ref a, .ref b], []⟩ [.ref a, .ref b] [.ref a, .ref b] _ E hr.in1 e0 bd r2 hsp) ?_)
    intro z s2 hz
    match z, hz with
    | .error e, hz => exact hx pins σ H s e s2 I hz
    | .ok .next, hz => exact False.elim hz
    | .ok .brk, hz => exact False.elim hz
    | .ok .cont, hz => exact False.elim hz
    | .ok (.ret u), hz =>
      obtain ⟨z, H', I', rz, ez, ex⟩ := I.after hz
      subst ez
      cases rz
      exact ⟨rfl, H', I', ex⟩
  have try1 : wpAny (model X.prog X.w) X.A (tryCompare (.ref a) (cmpInfo .NotEq).2.1 (.ref b)) (fun r s' => r = some (.bool false) ∧ ∃ H', Inv X pins σ H' s' ∧ Ext H H') X.xe s :=
    ne_try hu1 I.kIn J hm hs hn hf (wpAny_mono own (fun v s' z => ⟨z.1, rfl, z.2⟩) fun _ _ e => e)
  have fin : wpAny (model X.prog X.w) X.A (richCompare .NotEq (.ref a) (.ref b)) (EP X pins σ Q) X.xe s := by
    unfold richCompare
    simp only [oneThing_ref]
    refine wpAny_holding (wpAny_bind (wpAny_cRoomFor (Nat.lt_of_succ_lt hu1) ?_))
    refine wpAny_bind (J.type.here (wpAny_bind (J'.type.here ?_)))
    rw [show (Value.ref C != Value.ref C) = false from by simp]
    simp only [Bool.false_eq_true, if_false]
    refine wpAny_bind (wpAny_pure ?_)
    simp only [Bool.false_eq_true, if_false]
    refine wpAny_bind (wpAny_mono try1 (fun r s' z => ?_) fun _ _ e => e)
    obtain ⟨z1, H', I', ex⟩ := z
    subst z1
    exact wpAny_pure ⟨.bl false, H', I', rfl, q H' ex⟩
  unfold compareOp
  exact fin
end
end KN
set_option Elab.async false
set_option linter.all false
set_option maxRecDepth 100000
set_option maxHeartbeats 4000000
/-! A tuple turned about; how many times an int stands in a tuple of ints. -/
namespace KR
open PySem L2 PySem.Spec PyProof.Rows
section
variable {prog : Program} {w : World} {A : Around} {E : Value → Shared → Prop} {s : Shared}
theorem places_rev (n : Nat) : Builtin.Slice.slicePlaces ((n : Int) - 1) (-1) (-1) = n := by
  unfold Builtin.Slice.slicePlaces
  have h1 : ¬ ((-1 : Int) > 0) := by decide
  simp only [h1, if_false]
  by_cases h : (n : Int) - 1 > -1
  · simp only [h, if_true]
    have e : ((n : Int) - 1 - -1 - 1) / (- -1) + 1 = (n : Int) := by
      rw [show (- -1 : Int) = 1 by decide, Int.ediv_one]
      omega
    rw [e, Int.toNat_natCast]
  · simp only [h, if_false]
    omega
theorem sliceApplied_rev {sl : Addr} {vl vu vs : Value} {n : Nat} {Q : Int × Int × Nat → Shared → Prop} (hs : s.heap.IsSliceOf sl vl vu vs) (pl : IsPart vl none) (pu : IsPart vu none) (ps : IsPart vs (some (-1)))
    (h : Q ((n : Int) - 1, -1, n) s) : wpAny (model prog w) A (Builtin.Slice.sliceApplied (.ref sl) (pure (n : Int))) Q E s := by
  obtain ⟨os, hos, hcs, hds⟩ := id hs
  unfold Builtin.Slice.sliceApplied Builtin.Slice.sliceFields
  refine wpAny_bind (wpAny_bind (wpAny_field hos hds (x := vl) rfl (wpAny_bind (wpAny_field hos hds (x := vu) rfl (wpAny_bind (wpAny_field hos hds (x := vs) rfl (wpAny_pure ?_)))))))
  refine wpAny_bind (HT.slicePart_ ps ?_)
  show wpAny _ _ (if ((-1 : Int) == 0) = true then _ else _) _ _ s
  rw [if_neg (by decide)]
  refine wpAny_bind (HT.slicePart_ pl (wpAny_bind (HT.slicePart_ pu (wpAny_bind (wpAny_pure ?_)))))
  show wpAny _ _ (pure ((n : Int) - 1, (-1 : Int), Builtin.Slice.slicePlaces ((n : Int) - 1) (-1) (-1))) _ _ s
  rw [places_rev]
  exact wpAny_pure h
theorem pick_rev (xs : Array Value) : ((List.range xs.size).filterMap fun (m : Nat) => xs[(((xs.size : Int) - 1) + (m : Int) * (-1)).toNat]?).toArray = xs.toList.reverse.toArray := by
  have e : (List.range xs.size).filterMap (fun (m : Nat) => xs[(((xs.size : Int) - 1) + (m : Int) * (-1)).toNat]?) = ((List.range xs.size).map fun k => xs.size - 1 - k).filterMap (xs[·]?) := by
    rw [List.filterMap_map]
    congr 1
    funext m
    show xs[(((xs.size : Int) - 1) + (m : Int) * (-1)).toNat]? = xs[xs.size - 1 - m]?
    rw [show (((xs.size : Int) - 1) + (m : Int) * (-1)).toNat = xs.size - 1 - m by omega]
  rw [e, PySem.W.krv_range, List.filterMap_reverse, PySem.W.krv_all]
theorem getItem_tuple_rev {t sl : Addr} {items : Array Value} {vl vu vs : Value} {Q : Value → Shared → Prop} (ht : IsTup s.heap t items) (hs : s.heap.IsSliceOf sl vl vu vs) (pl : IsPart vl none) (pu : IsPart vu none) (ps : IsPart vs (some (-1)))
    (h : Q (.ref s.heap.objs.size) { s with heap := s.heap.push { cls := .type "tuple", data := .seq items.toList.reverse.toArray } })
    (hsz : items.size ≤ sizeLine) : wpAny (model prog w) A (getItem (.ref t) (.ref sl)) Q E s := by
  have htake : sizeOk (.seq items.toList.reverse.toArray) := by
    show items.toList.reverse.toArray.size ≤ sizeLine
    rw [List.size_toArray, List.length_reverse, Array.length_toList]
    omega
  obtain ⟨os, hos, hcs, hds⟩ := id hs
  have hTs : s.TypeIs (.ref sl) "slice" := ⟨os, hos, hcs⟩
  unfold getItem
  try with_reducible refine wpAny_holding ?_
  first | refine wpAny_bind (wpAny_pure ?_) | skip
  refine wpAny_bind (wpAny_sequenceKey ht.typeIs (by decide) ?_)
  refine wpAny_bind (wpAny_callSpecial?_slot (name := Str.ofString "__getitem__") ht.typeIs PyProof.Rows.slot_tuple_getitem
    (wpAny_call_entry PyProof.Rows.slot_tuple_getitem ht.typeIs entry_tuple_getitem ?_ (args_tuple_getitem _ _)))
  show wpAny _ _ (Builtin.Tuple.tupleItemsOf (.ref t) >>= _) _ _ s
  refine wpAny_bind (tupleItemsOf_ ht ?_)
  refine wpAny_bind (wpAny_typeOf hTs ?_)
  rw [if_pos (by decide)]
  refine wpAny_bind (sliceApplied_rev hs pl pu ps ?_)
  have hno : ¬ ((((items.size : Int) - 1) == 0 && (-1 : Int) == 1 && items.size == items.size) = true) := by
    intro q
    rw [Bool.and_eq_true, Bool.and_eq_true] at q
    exact absurd q.1.2 (by decide)
  show wpAny _ _ (if (((items.size : Int) - 1) == 0 && (-1 : Int) == 1 && items.size == items.size) = true then _ else _) _ _ s
  rw [if_neg hno, pick_rev]
  first
    | exact wpAny_bind (m := Builtin.Tuple.tupleExact _) (wpAny_newObj_type (wpAny_pure ⟨_, rfl, wpAny_pure h⟩) htake)
    | exact wpAny_bind (m := Builtin.Tuple.tupleExact _) (wpAny_newObj_type (wpAny_bind (wpAny_pure (wpAny_pure ⟨_, rfl, wpAny_pure h⟩))) htake)
    | exact wpAny_bind (wpAny_bind (m := Builtin.Tuple.tupleExact _) (wpAny_newObj_type (wpAny_pure (wpAny_pure ⟨_, rfl, wpAny_pure h⟩)) htake))
    | exact wpAny_bind (wpAny_bind (m := Builtin.Tuple.tupleExact _) (wpAny_newObj_type (wpAny_pure ⟨_, rfl, wpAny_pure h⟩) htake))
end
section
variable {X : Cx}
def tRevT (K : PySem.W.Frag) (te : TE) : TE := fun σ H Q => te σ H fun x H1 => ∃ a xs, x = .ref a ∧ SqT K H1 a xs ∧ ∀ p, H1 p = none → Q (.ref p) (upd H1 p (.tup xs.reverse))
/-- t[::-1] of a tuple -/
theorem pe_revT {e : Expr} {te : TE} {k : Nat} {p1 p2 p3 pos : Pos} (he : PE X e te) : PE X (.Subscript e (.Slice none none (some (.UnaryOp .USub (.Constant (.int 1) k p1) p2)) p3) pos) (tRevT X.K te) := by
  refine ⟨fun pins s σ H Q I h => ?_⟩
  refine Subscript_ (thn (he.run pins s σ H _ I h) fun v s1 ⟨x, H1, I1, r1, q1⟩ => ?_)
  obtain ⟨a, xs, ex, hx, q⟩ := q1
  subst ex
  cases r1
  have hst : PO X (some (.UnaryOp .USub (.Constant (.int 1) k p1) p2)) (tPart (tUn (rU fun i => .int (-i)) (tC (.int 1)))) := po_some (pe_un un_neg pe_int)
  refine wpAny_Slice (thn (po_none.run pins s1 σ H1 (fun o H2 => o = none ∧ H2 = H1) I1 ⟨rfl, rfl⟩) fun vl s2 ⟨l, H2, I2, pl, el, e2⟩ => ?_)
  subst el e2
  refine thn (po_none.run pins s2 σ H2 (fun o H3 => o = none ∧ H3 = H2) I2 ⟨rfl, rfl⟩) fun vu s3 ⟨u, H3, I3, pu, eu, e3⟩ => ?_
  subst eu e3
  refine thn (hst.run pins s3 σ H3 (fun o H4 => o = some (-1) ∧ H4 = H3) I3 ⟨1, rfl, -1, rfl, rfl, rfl⟩) fun vs s4 ⟨o, H4, I4, ps, eo, e4⟩ => ?_
  subst eo e4
  have I5 : Inv X pins σ H4 { s4 with heap := s4.heap.push { cls := .type "slice", data := .fields #[vl, vu, vs] } } := I4.kept (t' := s4.toks) fun b ob q => Heap.get?_push_of_some _ q
  obtain ⟨its, r, ht, hz⟩ := I5.tuple hx
  have hlen := r.length
  show wpAny (model X.prog X.w) X.A (subscriptTail e (.Slice none none (some (.UnaryOp .USub (.Constant (.int 1) k p1) p2)) p3) (.ref a) (.ref s4.heap.objs.size)) (EP X pins σ Q) X.xe { s4 with heap := s4.heap.push { cls := .type "slice", data := .fields #[vl, vu, vs] } }
  refine tail_any (ops := [.ref a, .ref s4.heap.objs.size]) ht.typeIs PyProof.Rows.slot_tuple_getitem.lookup ?_ (by with_unfolding_all rfl)
  refine getItem_tuple_rev ht (Heap.IsSliceOf.new _ vl vu vs) pl pu ps ?_ (by rw [List.size_toArray]; omega)
  refine ⟨.ref _, _, I5.laid (t' := s4.toks) (o := .tup xs.reverse) (fun b ob q => Heap.get?_push_of_some _ q) (Nat.le_refl _) ?_, rfl, q _ (I5.hok.fresh (Nat.le_refl _))⟩
  exact ⟨by rw [List.length_reverse]; exact hz, _, r.reverse, IsTup.new _ _⟩
/-- t.count(k) of a tuple of ints -/
def rCntT (K : PySem.W.Frag) : V → List V → Hp → VK → Prop := fun x xs H Q => ∃ (p : Addr) (ns : List Int) (k : Int), x = .ref p ∧ xs = [.int k] ∧ SqT K H p (ns.map V.int) ∧ Q (.int (ns.count k : Nat)) H
theorem mt_tcount : MtR X "tuple.count" (rCntT X.K) := by
  intro pins s σ H x xs v us Q I rx rxs h
  obtain ⟨p, ns, k, rfl, rfl, hs, q⟩ := h
  cases rx
  obtain ⟨u, rfl, ru⟩ := rxs.one
  obtain ⟨t, rfl⟩ := ru
  obtain ⟨its, rv, ⟨⟨cls, dd, data, sl⟩, ho, hc, n, hd⟩, hlen⟩ := I.tuple hs
  simp only at hc hd
  subst hc hd
  have hi := ints_of_vals rv
  refine call_meets PySem.F.slot_tuple_count ⟨_, ho, rfl⟩ PySem.F.entry_tuple_count (PySem.F.args_tuple_count_2 _ _)
    (SeqAt.tuple_countAt p its.toArray n dd sl (.int k t) (eqk k)) ⟨ho, fun y hy => (eqk_gives hi y (by simpa using hy)).at _ _, ?_⟩
  have ec : its.toArray.toList.countP (eqk k) = ns.count k := eqk_count hi
  refine ⟨.int (ns.count k : Nat), H, I.tok _, ⟨s.toks, ?_⟩, q⟩
  show Value.int ((its.toArray.toList.countP (eqk k) : Nat) : Int) s.toks = Value.int ((ns.count k : Nat) : Int) s.toks
  rw [ec]
/-- t + u, neither empty, the new object told with it -/
def rCatF (K : PySem.W.Frag) : R2 := fun x y H Q => ∃ a b xs ys, x = .ref a ∧ y = .ref b ∧ SqT K H a xs ∧ SqT K H b ys ∧ xs.length + ys.length ≤ sizeLine ∧ xs ≠ [] ∧ ys ≠ [] ∧
  ∀ l o, H l = none → o.dict = none → Q (.ref l) (upd H l (.frz o (.tup (xs ++ ys))))
theorem op_catF : OpR X (binaryOp .Add) (rCatF X.K) := by
  intro pins s σ H x y v u Q I rx ry h
  obtain ⟨a, b, xs, ys, rfl, rfl, ha, hb, hz, hx, hy, q⟩ := h
  cases rx
  cases ry
  obtain ⟨its, r1, p1, _⟩ := I.tuple ha
  obtain ⟨its2, r2, p2, _⟩ := I.tuple hb
  refine HT.cat_tup p1 p2 (fun z => hx (r1.nil_iff.mp z)) (fun z => absurd (r2.nil_iff.mp z) hy) (fun z => ?_) (by rw [← r1.length, ← r2.length]; exact hz)
  have hg : (s.heap.push { cls := .type "tuple", data := .seq (its ++ its2).toArray }).get? s.heap.objs.size = some { cls := .type "tuple", data := .seq (its ++ its2).toArray } :=
    Heap.get?_push_size _ rfl
  have I2 : Inv X pins σ (upd H s.heap.objs.size (.frz { cls := .type "tuple", data := .seq (its ++ its2).toArray } (.tup (xs ++ ys))))
      { s with heap := s.heap.push { cls := .type "tuple", data := .seq (its ++ its2).toArray } } :=
    I.laid (t' := s.toks) (fun b o e => Heap.get?_push_of_some _ e) (Nat.le_refl _) ⟨hg, by rw [List.length_append]; exact hz, its ++ its2, r1.append r2, IsTup.new _ _⟩
  exact ⟨.ref s.heap.objs.size, _, I2, rfl, q _ _ (I.hok.fresh (Nat.le_refl _)) rfl⟩
/-- t.count(k), t such a tuple of ints -/
def tTcn (K : PySem.W.Frag) (to : TE) (t : TA) : TE := fun σ H Q => to σ H fun x H1 => (∃ p o ys, x = V.ref p ∧ H1 p = some (.frz o (.tup ys)) ∧ o.dict = none) ∧ t σ H1 fun xs H2 => rCntT K x xs H2 Q
variable {o e : Expr} {es : List Expr} {to : TE} {t : TA} {apos cpos : Pos}
theorem pe_tcn (ho : PE X o to) (ha : PA X (e :: es) t)
    (hbase : attributeBase o "count" X.env (eval o X.env) = eval o X.env := by rfl)
    (hfew : ((backTo cpos (starEach (e :: es) X.env)).all (fun z => !z.1) && (backToKw cpos (keywordEach [] X.env)).all (fun z => z.1.isSome)
      && decide ((e :: es).length + ([] : List Keyword).length + (if ([] : List Keyword).isEmpty then 0 else 1) < 30)) = true := by rfl)
    (hline : (apos.endLine == cpos.line) = true := by rfl) (hs : starEach (e :: es) X.env = (false, eval e X.env) :: starEach es X.env := by rfl)
    (hpl : (backTo cpos (starEach es X.env)).any (·.1) = false := by rfl) :
    PE X (.Call (.Attribute o "count" apos) (e :: es) [] cpos) (tTcn X.K to t) := by
  refine ⟨fun pins s σ H Q I hy => ?_⟩
  refine wpAny_Call_method_late hbase hfew hline rfl (thn (ho.run pins s σ H _ I hy) fun v s1 ⟨x, H1, I1, r1, tt, q1⟩ => ?_)
  obtain ⟨p, ob, ys, ex, hp, hd⟩ := tt
  subst ex
  cases r1
  have hq : SqT X.K H1 p ys := .inl (.inr ⟨ob, hp⟩)
  obtain ⟨its, rv, pt, hz⟩ := I1.tuple hq
  have hgo : s1.heap.get? p = some ob := (I1.hok p _ hp).1
  have hT : s1.TypeIs (.ref p) "tuple" := by
    obtain ⟨o2, ho2, hc2, _⟩ := pt
    exact ⟨o2, ho2, hc2⟩
  refine ⟨"tuple", "tuple.count", PySem.F.plainAttrs_tuple, PySem.F.slot_tuple_count, PySem.F.type_tuple_count, hT, fun a ea => ?_, ?_⟩
  · cases ea
    exact ⟨ob, hgo, hd⟩
  have hA := ha.run cpos pins s1 σ H1 _ I1 q1
  rw [hs] at hA ⊢
  refine Calls.callWith_builtin (by show (false || (backTo cpos (starEach es X.env)).any (·.1)) = false; rw [hpl] <;> rfl) (Calls.evalArgs_plain ?_)
  exact thn hA fun us s2 ⟨vs, H2, I2, r2, q2⟩ => mt_tcount pins s2 σ H2 (.ref p) vs (.ref p) us Q I2 rfl r2 q2
end
end KR
set_option Elab.async false
set_option linter.all false
set_option maxRecDepth 100000
set_option maxHeartbeats 4000000
/-! An own exception made without an argument: its class's own __init__ writes nothing. -/
namespace KX
open PySem L2 PySem.Spec PyProof.Rows
section
variable {X : Cx}
/-- the end of C(): the exception is let go -/
theorem mk_endN {pins : List (Addr × Obj)} {σ : L2.St} {H1 H2 : Hp} {hp hp2 h2 : Heap} {g1 g2 : Array GenState} {d1 d2 : Drawn} {t1 t2 : Nat} {os1 os2 : OsState} {a C : Addr} (I1 : Inv X pins σ H1 ⟨hp, g1, d1, t1, os1⟩)
    (ha : hp.objs.size ≤ a) (k : ∀ b o, hp.get? b = some o → hp2.get? b = some o) (un : Un (frs X.stack) [] (upd H1 a (exo a C none)) H2 hp2 h2) (hok : HOk X.prog X.w H2 h2) (ho : os2 = os1) (hb : AllBare g2)
    (ea : H2 a = some (exo a C none)) :
    ∃ (t0 : Addr) (G : Heap), Inv X pins σ (del H2 a) ⟨G, g2, d2, t2, os2⟩ ∧ (∀ b o, G.get? b = some o → h2.get? b = some o) ∧ G.get? a = none ∧
      h2.get? a = some ({ cls := .ref C, dict := none, data := .fields #[.ref t0, .none, .none, .none, .bool false, .none] } : Obj) ∧ (del H2 a) a = none := by
  obtain ⟨t0, hoe⟩ := exo_at hok ea
  have hn : H1 a = none := I1.hok.fresh ha
  obtain ⟨G, g1', g2'⟩ := restrict h2 fun b => decide (b ≠ a)
  have gk : ∀ b, b ≠ a → G.get? b = h2.get? b := fun b hb => g1' b (decide_eq_true hb)
  have ge : G.get? a = none := g2' a (by simp)
  have nha : ∀ {b : Addr} {o : Obj}, hp.get? b = some o → b ≠ a := fun {b o} z => Nat.ne_of_lt (Nat.lt_of_lt_of_le (Heap.lt_size z) ha)
  have up : ∀ {b : Addr}, b ≠ a → H1 b = none → upd H1 a (exo a C none) b = none := fun {b} hb n => by rw [upd_ne hb]; exact n
  have U : Un (frs X.stack) [] H1 (del H2 a) hp G := {
    keep := fun b o z n hf hx => by
      rw [gk b (nha z)]
      exact un.keep b o (k b o z) (up (nha z) n) hf hx
    slot := fun b o z n hf hx => by
      rw [gk b (nha z)]
      exact un.slot b o (k b o z) (up (nha z) n) hf hx
    free := fun b o z n hx => by
      rw [del_ne (nha z)]
      exact un.free b o (k b o z) (up (nha z) n) hx
    there := fun b o z hx => by
      rw [gk b (nha z)]
      exact un.there b o (k b o z) hx
    tups := fun b xs z => by
      rw [del_ne (ne_of_none z hn)]
      exact un.tups b xs (by rw [upd_ne (ne_of_none z hn)]; exact z)
    frzs := fun b o v z => by
      rw [del_ne (ne_of_none z hn)]
      exact un.frzs b o v (by rw [upd_ne (ne_of_none z hn)]; exact z)
    tbls := fun b ps z => by
      rw [del_ne (ne_of_none z hn)]
      exact un.tbls b ps (by rw [upd_ne (ne_of_none z hn)]; exact z) }
  have hok3 : HOk X.prog X.w (del H2 a) G := fun b o z => by
    have hba : b ≠ a := fun e => by
      rw [e, del_same] at z
      cases z
    rw [del_ne hba] at z
    have noa : ∀ {c : Addr}, H2 c = some (.own b) → c ≠ a := fun {c} hc => at_ne ea hc exo_own
    exact (hok b o z).stay (fun c v hc y => by
        have hca : c ≠ a := by
          rcases hc with hc | hc
          · rw [hc]
            exact hba
          · exact noa hc
        rw [gk c hca]
        exact y)
      (fun c hc => by rw [del_ne (noa hc)]; exact hc) (fun c xs hc => by rw [del_ne (at_ne ea hc exo_tup)]; exact hc)
  have J : Inv X pins σ (del H2 a) ⟨G, g2, d2, t2, os2⟩ := I1.call' (ch := []) ho U hok3 hb (fun b z => absurd z (by simp))
  refine ⟨t0, G, J, fun b o z => ?_, ge, hoe, del_same⟩
  by_cases hba : b = a
  · rw [hba, ge] at z
    cases z
  · exact (gk b hba).symm.trans z
/-- C(), C's own __init__ keeping sp and writing nothing -/
def tMkO0 (C : Addr) (sp : Sp) (dvs : List V) : L2.St → Hp → XK → Prop := fun σ H Q => ∀ a, H a = none → sp (.ref a :: dvs) (upd H a (exo a C none))
  (fun v H2 => v = .non ∧ H2 a = some (exo a C none) ∧ Q (.ref C) none (del H2 a)) (fun _ _ _ => False)
theorem pmk_oex0 {CX : CXT} {x : Str} {C fI : Addr} {k : Nat} {fd : FuncData} {ps : List Str} {sp : Sp} {ds : List Value} {dvs : List V} {p pos : Pos} (T : OexC X.K C) (iC : PySem.W.findIn X.K (.ref C) "__init__" = some (some (.ref fI))) (tI : PySem.W.typeIn X.K (.ref fI) = some (.type "function"))
    (F1 : FnOk X.prog X.w X.K X.mg X.base CX k fI fd ps sp) (hr : Room (k + 1) X.A) (hb : Binds X.K fd ps ds) (hd : Vals dvs ds) (hx : Passes CX X (fun _ _ _ => False)) (hg : Gl X x) (hm : X.mg x = some (.ref C))
    (hdb : (x == ("__debug__" : Str)) = false := by decide) :
    PMk X (.Call (.Name x p) [] [] pos) (tMkO0 C sp dvs) := by
  intro pins s σ H Q I h
  obtain ⟨nm, q, N, bs, bm, sn, sub, ab, col, dd, k0, k1, k2, k3, k5, hC, hbm⟩ := T.cls
  refine wpAny_Call_Name_kw (ld_glob I hg hm ?_ hdb)
  refine PySem.W.callWith_K0 I.kIn T.kC ?_
  show wpAny _ _ (call (.ref C) []) _ _ _
  obtain ⟨hp, g, dr, tk, os⟩ := s
  have hsz : hp.objs.size ≤ hp.objs.size + 1 := Nat.le_succ _
  have hn : H (hp.objs.size + 1) = none := I.hok.fresh hsz
  have hq := h (hp.objs.size + 1) hn
  have kk : ∀ b o, hp.get? b = some o → ((hp.push (PySem.W.kdv_tup [])).push (PySem.HandSPX.excO C hp.objs.size)).get? b = some o := fun b o e => Heap.get?_push_of_some _ (Heap.get?_push_of_some _ e)
  have hget : ((hp.push (PySem.W.kdv_tup [])).push (PySem.HandSPX.excO C hp.objs.size)).get? (hp.objs.size + 1) = some (PySem.HandSPX.excO C hp.objs.size) := by heap_get
  have I2 : Inv X pins σ (upd H (hp.objs.size + 1) (exo (hp.objs.size + 1) C none)) ⟨(hp.push (PySem.W.kdv_tup [])).push (PySem.HandSPX.excO C hp.objs.size), g, dr, tk, os⟩ :=
    I.laid (t' := tk) (a := hp.objs.size + 1) (o := exo (hp.objs.size + 1) C none) (h' := (hp.push (PySem.W.kdv_tup [])).push (PySem.HandSPX.excO C hp.objs.size)) kk hsz (exo_ok hget)
  have r2 : Vals (V.ref (hp.objs.size + 1) :: dvs) (Value.ref (hp.objs.size + 1) :: ds) := .cons rfl hd
  have hl : ([Value.ref (hp.objs.size + 1)] ++ ds).length = ps.length := by
    have e := r2.length
    rw [F1.len _ _ _ _ hq] at e
    exact e.symm
  refine wpAny_call (PySem.HandSPX.call_own F.excBase_ValueError (fun Y => PySem.HandSPX.refsVE_contains Y bm hbm) (I.kIn _ _ hC) (PySem.W.looks_findIn I.kIn iC) (fun self => PySem.W.bind_fn I.kIn self tI) (Nat.zero_le _)
    (codeAny_mono (F1.run _ X.stack _ _ ⟨Value.ref (hp.objs.size + 1) :: [], []⟩ (Value.ref (hp.objs.size + 1) :: ds) _ _ (fun _ _ _ => False) (hr.make C [] []) (I2.env0.make C [] []) (hb _ [Value.ref (hp.objs.size + 1)] I2.kIn hl) r2 hq) fun r s' hq' => ?_))
  cases r with
  | error er => exact hx pins σ _ _ er s' I2 hq'
  | ok fl =>
    cases fl with
    | ret u =>
      obtain ⟨v, H2, os2, bare2, un2, hok2, rv, ev, ea, q2⟩ := hq'
      subst ev
      obtain ⟨h2, g2, d2, t2, os'⟩ := s'
      obtain ⟨t0, G, J, kG, ge, hoe, na⟩ := mk_endN (d2 := d2) (t2 := t2) I hsz kk un2 hok2 os2 bare2 ea
      exact ⟨rv, hp.objs.size + 1, _, _, ⟨G, g2, d2, t2, os'⟩, _, .ref C, none, rfl, J, kG, ge, hoe, ⟨rfl, rfl⟩, rfl, rfl, na, rfl, bare2, raises_own T.exC T.tyC, q2⟩
    | next => exact False.elim hq'
    | brk => exact False.elim hq'
    | cont => exact False.elim hq'
/-- a block whose reading is told by what is known of its start only -/
theorem pss_ex {α : Type} {Pr : α → Prop} {b : List Stmt} {t : α → TS} (h : ∀ x, Pr x → PSs X b (t x)) : PSs X b (fun D σ H => ∃ x, Pr x ∧ t x D σ H) :=
  ⟨fun pins s σ H D I ⟨x, hx, q⟩ => (h x hx).run pins s σ H D I q⟩
/-- xs.count(y), all of them flat -/
def rCntF (K : PySem.W.Frag) : V → List V → Hp → VK → Prop := fun x xs H Q => ∃ (a : Addr) (ys : List V) (y : V), x = .ref a ∧ xs = [y] ∧ SqL K H a ys ∧ flatV y = true ∧ ys.all flatV = true ∧ Q (.int ((ys.countP fun z => eqV z y : Nat) : Int)) H
theorem count_flat {y : V} : ∀ {ys : List V} {us : List Value}, Vals ys us → ys.all flatV = true → us.countP (eqU y) = ys.countP fun z => eqV z y
  | _, _, .nil, _ => rfl
  | z :: r, u :: t, .cons h1 h2, f => by
    have fz : flatV z = true := List.all_eq_true.mp f z List.mem_cons_self
    have fr : r.all flatV = true := List.all_eq_true.mpr fun w hw => List.all_eq_true.mp f w (List.mem_cons_of_mem _ hw)
    rw [List.countP_cons, List.countP_cons, count_flat h2 fr, eqU_of h1 fz]
theorem mt_lcountF : MtR X "list.count" (rCntF X.K) := by
  intro pins s σ H x xs v us Q I rx rxs h
  obtain ⟨a, ys, y, rfl, rfl, hs, fy, fys, q⟩ := h
  cases rx
  cases rxs with
  | cons ry rt =>
    rename_i uy ut
    cases rt
    obtain ⟨its, rv, ⟨⟨cls, dd, data, sl⟩, n, ho, hc, hdn, hd⟩, hlen⟩ := I.list hs
    simp only at hc hd
    subst hc hd
    refine call_meets PySem.F.slot_list_count ⟨_, ho, rfl⟩ PySem.F.entry_list_count (PySem.F.args_list_count_2 _ _)
      (SeqAt.list_countAt a its.toArray n dd sl uy (eqU y)) ⟨ho, fun u' hu' => mem_eqAt ry fy rv fys u' (by simpa using hu'), ?_⟩
    refine ⟨.int ((ys.countP fun z => eqV z y : Nat) : Int), H, I.tok _, ⟨s.toks, ?_⟩, q⟩
    show Value.int ((its.toArray.toList.countP (eqU y) : Nat) : Int) s.toks = _
    rw [show its.toArray.toList = its from by simp, count_flat rv fys]
end
end KX
set_option Elab.async false
set_option linter.all false
set_option maxRecDepth 100000
set_option maxHeartbeats 4000000
/-! The text by places, and what its top has written. -/
namespace K17
open PySem L2
def top (i : Nat) : Stmt := PySem.Challenge.pw_takenjoined_k17_worth_of_any_numbers.main.body.getD i (.Pass ⟨0, 0, 0, 0⟩)
abbrev s_NoColours___init__ : Stmt := inClass (top 3) 0
abbrev N_NoColours___init__ : List Str := ["self"]
theorem sc_NoColours___init__ : FnScope N_NoColours___init__ ["self"] (defScope s_NoColours___init__) := ⟨rfl, rfl, rfl, by decide +kernel, rfl, by decide +kernel, by decide +kernel⟩
abbrev s_NoNumbers___init__ : Stmt := inClass (top 4) 0
abbrev N_NoNumbers___init__ : List Str := ["self"]
theorem sc_NoNumbers___init__ : FnScope N_NoNumbers___init__ ["self"] (defScope s_NoNumbers___init__) := ⟨rfl, rfl, rfl, by decide +kernel, rfl, by decide +kernel, by decide +kernel⟩
abbrev s_is_integer : Stmt := top 6
abbrev N_is_integer : List Str := ["thing"]
theorem sc_is_integer : FnScope N_is_integer ["thing"] (defScope s_is_integer) := ⟨rfl, rfl, rfl, by decide +kernel, rfl, by decide +kernel, by decide +kernel⟩
abbrev s_is_between : Stmt := top 7
abbrev N_is_between : List Str := ["thing", "least", "most"]
theorem sc_is_between : FnScope N_is_between ["thing", "least", "most"] (defScope s_is_between) := ⟨rfl, rfl, rfl, by decide +kernel, rfl, by decide +kernel, by decide +kernel⟩
abbrev s_is_below : Stmt := top 8
abbrev N_is_below : List Str := ["thing", "bound"]
theorem sc_is_below : FnScope N_is_below ["thing", "bound"] (defScope s_is_below) := ⟨rfl, rfl, rfl, by decide +kernel, rfl, by decide +kernel, by decide +kernel⟩
abbrev s_is_pair : Stmt := top 9
abbrev N_is_pair : List Str := ["thing"]
theorem sc_is_pair : FnScope N_is_pair ["thing"] (defScope s_is_pair) := ⟨rfl, rfl, rfl, by decide +kernel, rfl, by decide +kernel, by decide +kernel⟩
abbrev s_is_integers : Stmt := top 10
abbrev N_is_integers : List Str := ["thing", "part"]
theorem sc_is_integers : FnScope N_is_integers ["thing"] (defScope s_is_integers) := ⟨rfl, rfl, rfl, by decide +kernel, rfl, by decide +kernel, by decide +kernel⟩
abbrev s_webI : Stmt := inClass (top 14) 0
abbrev N_webI : List Str := ["self", "many", "ties", "number", "tie"]
theorem sc_webI : FnScope N_webI ["self", "many", "ties"] (defScope s_webI) := ⟨rfl, rfl, rfl, by decide +kernel, rfl, by decide +kernel, by decide +kernel⟩
abbrev s_webE : Stmt := inClass (top 14) 1
abbrev N_webE : List Str := ["self", "other"]
theorem sc_webE : FnScope N_webE ["self", "other"] (defScope s_webE) := ⟨rfl, rfl, rfl, by decide +kernel, rfl, by decide +kernel, by decide +kernel⟩
abbrev s_is_tie : Stmt := top 15
abbrev N_is_tie : List Str := ["thing", "many"]
theorem sc_is_tie : FnScope N_is_tie ["thing", "many"] (defScope s_is_tie) := ⟨rfl, rfl, rfl, by decide +kernel, rfl, by decide +kernel, by decide +kernel⟩
abbrev s_worth : Stmt := top 18
abbrev N_worth : List Str := ["numbers", "q", "total", "number"]
theorem sc_worth : FnScope N_worth ["numbers", "q"] (defScope s_worth) := ⟨rfl, rfl, rfl, by decide +kernel, rfl, by decide +kernel, by decide +kernel⟩
abbrev s_l_hand : Stmt := top 20
abbrev N_l_hand : List Str := ["script", "cells", "cell"]
theorem sc_l_hand : FnScope N_l_hand ["script"] (defScope s_l_hand) := ⟨rfl, rfl, rfl, by decide +kernel, rfl, by decide +kernel, by decide +kernel⟩
abbrev s_l_draw : Stmt := top 21
abbrev N_l_draw : List Str := ["hand", "many", "cell", "digit", "number"]
theorem sc_l_draw : FnScope N_l_draw ["hand", "many"] (defScope s_l_draw) := ⟨rfl, rfl, rfl, by decide +kernel, rfl, by decide +kernel, by decide +kernel⟩
abbrev s_l_any : Stmt := top 22
abbrev N_l_any : List Str := ["hand", "some"]
theorem sc_l_any : FnScope N_l_any ["hand", "some"] (defScope s_l_any) := ⟨rfl, rfl, rfl, by decide +kernel, rfl, by decide +kernel, by decide +kernel⟩
abbrev s_l_great : Stmt := top 23
abbrev N_l_great : List Str := ["hand", "kind", "number"]
theorem sc_l_great : FnScope N_l_great ["hand"] (defScope s_l_great) := ⟨rfl, rfl, rfl, by decide +kernel, rfl, by decide +kernel, by decide +kernel⟩
abbrev s_l_sum : Stmt := top 24
abbrev N_l_sum : List Str := ["numbers", "q", "total", "number"]
theorem sc_l_sum : FnScope N_l_sum ["numbers", "q"] (defScope s_l_sum) := ⟨rfl, rfl, rfl, by decide +kernel, rfl, by decide +kernel, by decide +kernel⟩
abbrev s_l_deep : Stmt := top 25
abbrev N_l_deep : List Str := ["hand", "thing", "turn"]
theorem sc_l_deep : FnScope N_l_deep ["hand"] (defScope s_l_deep) := ⟨rfl, rfl, rfl, by decide +kernel, rfl, by decide +kernel, by decide +kernel⟩
abbrev s_l_no_numbers : Stmt := top 26
abbrev N_l_no_numbers : List Str := ["hand", "numbers", "odd", "at", "some"]
theorem sc_l_no_numbers : FnScope N_l_no_numbers ["hand", "numbers"] (defScope s_l_no_numbers) := ⟨rfl, rfl, rfl, by decide +kernel, rfl, by decide +kernel, by decide +kernel⟩
abbrev s_l_no_colours : Stmt := top 27
abbrev N_l_no_colours : List Str := ["hand"]
theorem sc_l_no_colours : FnScope N_l_no_colours ["hand"] (defScope s_l_no_colours) := ⟨rfl, rfl, rfl, by decide +kernel, rfl, by decide +kernel, by decide +kernel⟩
abbrev s_l_told : Stmt := top 28
abbrev N_l_told : List Str := ["numbers", "q", "error", "flags"]
theorem sc_l_told : FnScope N_l_told ["numbers", "q"] (defScope s_l_told) := ⟨rfl, rfl, rfl, by decide +kernel, rfl, by decide +kernel, by decide +kernel⟩
abbrev s_law : Stmt := top 29
abbrev N_law : List Str := ["script", "hand", "turn", "many", "numbers", "q", "word", "told", "none", "odd", "at"]
theorem sc_law : FnScope N_law ["script"] (defScope s_law) := ⟨rfl, rfl, rfl, by decide +kernel, rfl, by decide +kernel, by decide +kernel⟩
/-- what the top has written -/
structure Tx (K : PySem.W.Frag) (mg : Str → Option Value) where
  f_NoColours___init__ : Addr
  d_NoColours___init__ : FuncData
  F_NoColours___init__ : Fun K "__init__" "NoColours.__init__" s_NoColours___init__ f_NoColours___init__ d_NoColours___init__
  b_NoColours___init__ : Binds K d_NoColours___init__ ["self"] []
  f_NoNumbers___init__ : Addr
  d_NoNumbers___init__ : FuncData
  F_NoNumbers___init__ : Fun K "__init__" "NoNumbers.__init__" s_NoNumbers___init__ f_NoNumbers___init__ d_NoNumbers___init__
  b_NoNumbers___init__ : Binds K d_NoNumbers___init__ ["self"] []
  f_is_integer : Addr
  d_is_integer : FuncData
  F_is_integer : Fun K "is_integer" "is_integer" s_is_integer f_is_integer d_is_integer
  b_is_integer : Binds K d_is_integer ["thing"] []
  m_is_integer : mg "is_integer" = some (.ref f_is_integer)
  f_is_between : Addr
  d_is_between : FuncData
  F_is_between : Fun K "is_between" "is_between" s_is_between f_is_between d_is_between
  b_is_between : Binds K d_is_between ["thing", "least", "most"] []
  m_is_between : mg "is_between" = some (.ref f_is_between)
  f_is_below : Addr
  d_is_below : FuncData
  F_is_below : Fun K "is_below" "is_below" s_is_below f_is_below d_is_below
  b_is_below : Binds K d_is_below ["thing", "bound"] []
  m_is_below : mg "is_below" = some (.ref f_is_below)
  f_is_pair : Addr
  d_is_pair : FuncData
  F_is_pair : Fun K "is_pair" "is_pair" s_is_pair f_is_pair d_is_pair
  b_is_pair : Binds K d_is_pair ["thing"] []
  m_is_pair : mg "is_pair" = some (.ref f_is_pair)
  f_is_integers : Addr
  d_is_integers : FuncData
  F_is_integers : Fun K "is_integers" "is_integers" s_is_integers f_is_integers d_is_integers
  b_is_integers : Binds K d_is_integers ["thing"] []
  m_is_integers : mg "is_integers" = some (.ref f_is_integers)
  f_webI : Addr
  d_webI : FuncData
  F_webI : Fun K "__init__" "Web.__init__" s_webI f_webI d_webI
  b_webI : Binds K d_webI ["self", "many", "ties"] []
  f_webE : Addr
  d_webE : FuncData
  F_webE : Fun K "__eq__" "Web.__eq__" s_webE f_webE d_webE
  b_webE : Binds K d_webE ["self", "other"] []
  f_is_tie : Addr
  d_is_tie : FuncData
  F_is_tie : Fun K "_is_tie" "_is_tie" s_is_tie f_is_tie d_is_tie
  b_is_tie : Binds K d_is_tie ["thing", "many"] []
  m_is_tie : mg "_is_tie" = some (.ref f_is_tie)
  f_worth : Addr
  d_worth : FuncData
  F_worth : Fun K "worth" "worth" s_worth f_worth d_worth
  b_worth : Binds K d_worth ["numbers", "q"] []
  m_worth : mg "worth" = some (.ref f_worth)
  f_l_hand : Addr
  d_l_hand : FuncData
  F_l_hand : Fun K "_law_hand" "_law_hand" s_l_hand f_l_hand d_l_hand
  b_l_hand : Binds K d_l_hand ["script"] []
  m_l_hand : mg "_law_hand" = some (.ref f_l_hand)
  f_l_draw : Addr
  d_l_draw : FuncData
  F_l_draw : Fun K "_law_draw" "_law_draw" s_l_draw f_l_draw d_l_draw
  b_l_draw : Binds K d_l_draw ["hand", "many"] []
  m_l_draw : mg "_law_draw" = some (.ref f_l_draw)
  f_l_any : Addr
  d_l_any : FuncData
  F_l_any : Fun K "_law_any" "_law_any" s_l_any f_l_any d_l_any
  b_l_any : Binds K d_l_any ["hand", "some"] []
  m_l_any : mg "_law_any" = some (.ref f_l_any)
  f_l_great : Addr
  d_l_great : FuncData
  F_l_great : Fun K "_law_great" "_law_great" s_l_great f_l_great d_l_great
  b_l_great : Binds K d_l_great ["hand"] []
  m_l_great : mg "_law_great" = some (.ref f_l_great)
  f_l_sum : Addr
  d_l_sum : FuncData
  F_l_sum : Fun K "_law_sum" "_law_sum" s_l_sum f_l_sum d_l_sum
  b_l_sum : Binds K d_l_sum ["numbers", "q"] []
  m_l_sum : mg "_law_sum" = some (.ref f_l_sum)
  f_l_deep : Addr
  d_l_deep : FuncData
  F_l_deep : Fun K "_law_deep" "_law_deep" s_l_deep f_l_deep d_l_deep
  b_l_deep : Binds K d_l_deep ["hand"] []
  m_l_deep : mg "_law_deep" = some (.ref f_l_deep)
  f_l_no_numbers : Addr
  d_l_no_numbers : FuncData
  F_l_no_numbers : Fun K "_law_no_numbers" "_law_no_numbers" s_l_no_numbers f_l_no_numbers d_l_no_numbers
  b_l_no_numbers : Binds K d_l_no_numbers ["hand", "numbers"] []
  m_l_no_numbers : mg "_law_no_numbers" = some (.ref f_l_no_numbers)
  f_l_no_colours : Addr
  d_l_no_colours : FuncData
  F_l_no_colours : Fun K "_law_no_colours" "_law_no_colours" s_l_no_colours f_l_no_colours d_l_no_colours
  b_l_no_colours : Binds K d_l_no_colours ["hand"] []
  m_l_no_colours : mg "_law_no_colours" = some (.ref f_l_no_colours)
  f_l_told : Addr
  d_l_told : FuncData
  F_l_told : Fun K "_law_told" "_law_told" s_l_told f_l_told d_l_told
  b_l_told : Binds K d_l_told ["numbers", "q"] []
  m_l_told : mg "_law_told" = some (.ref f_l_told)
  f_law : Addr
  d_law : FuncData
  F_law : Fun K "law" "law" s_law f_law d_law
  b_law : Binds K d_law ["script"] []
  m_law : mg "law" = some (.ref f_law)
  C_Web : Addr
  m_Web : mg "Web" = some (.ref C_Web)
  cl_Web : Cls K C_Web
  mk_Web : Mk K C_Web f_webI
  eq_Web : PySem.W.findIn K (.ref C_Web) "__eq__" = some (some (.ref f_webE))
  eqf_Web : PySem.W.isFn K (.ref f_webE) = true
  ic_Web : PySem.W.findIn K (.ref C_Web) "__class__" = some (some (.builtin "object.__class__"))
  im_Web : PySem.W.mroIn K C_Web (.type "object") = some true
  no_Web_many : NoAttr K C_Web "many"
  no_Web_ties : NoAttr K C_Web "ties"
  C_PaintError : Addr
  m_PaintError : mg "PaintError" = some (.ref C_PaintError)
  C_NoNumbers : Addr
  m_NoNumbers : mg "NoNumbers" = some (.ref C_NoNumbers)
  ox_NoNumbers : OexC K C_NoNumbers
  oi_NoNumbers : PySem.W.findIn K (.ref C_NoNumbers) "__init__" = some (some (.ref f_NoNumbers___init__))
  ot_NoNumbers : PySem.W.typeIn K (.ref f_NoNumbers___init__) = some (.type "function")
  xc_NoNumbers : ExcC K C_NoNumbers
  C_NoColours : Addr
  m_NoColours : mg "NoColours" = some (.ref C_NoColours)
  ox_NoColours : OexC K C_NoColours
  oi_NoColours : PySem.W.findIn K (.ref C_NoColours) "__init__" = some (some (.ref f_NoColours___init__))
  ot_NoColours : PySem.W.typeIn K (.ref f_NoColours___init__) = some (.type "function")
  xc_NoColours : ExcC K C_NoColours
  kv_NoNumbers : PySem.W.kitOne K (.ref C_NoNumbers) (.type "ValueError") = some true
  ki_NoNumbers_NoNumbers : PySem.W.kitOne K (.ref C_NoNumbers) (.ref C_NoNumbers) = some true
  ki_NoNumbers_NoColours : PySem.W.kitOne K (.ref C_NoNumbers) (.ref C_NoColours) = some false
  xm_NoNumbers_PaintError : PySem.W.exmOne K (.ref C_NoNumbers) (.ref C_PaintError) = some true
  kv_NoColours : PySem.W.kitOne K (.ref C_NoColours) (.type "ValueError") = some true
  ki_NoColours_NoNumbers : PySem.W.kitOne K (.ref C_NoColours) (.ref C_NoNumbers) = some false
  ki_NoColours_NoColours : PySem.W.kitOne K (.ref C_NoColours) (.ref C_NoColours) = some true
  xm_NoColours_PaintError : PySem.W.exmOne K (.ref C_NoColours) (.ref C_PaintError) = some true
  kw_Web_int : PySem.W.kitOne K (.ref C_Web) (.type "int") = some false
  kw_Web_bool : PySem.W.kitOne K (.ref C_Web) (.type "bool") = some false
  kw_Web_tuple : PySem.W.kitOne K (.ref C_Web) (.type "tuple") = some false
  ia : PySem.W.specialIn K (.builtin "object.__class__") "__get__" = some (some (.builtin "getset_descriptor.__get__"))
  ib : PySem.W.takesIn K (.builtin "object.__class__") = some true
  t_MOST_NUMBERS : Tok
  m_MOST_NUMBERS : mg "MOST_NUMBERS" = some (.int 64 t_MOST_NUMBERS)
  t_MOST_PLACES : Tok
  m_MOST_PLACES : mg "MOST_PLACES" = some (.int 10 t_MOST_PLACES)
  t_MOST_TIES : Tok
  m_MOST_TIES : mg "MOST_TIES" = some (.int 16 t_MOST_TIES)
  g_ValueError : mg "ValueError" = none
  g_abs : mg "abs" = none
  g_all : mg "all" = none
  g_bool : mg "bool" = none
  g_enumerate : mg "enumerate" = none
  g_int : mg "int" = none
  g_isinstance : mg "isinstance" = none
  g_len : mg "len" = none
  g_list : mg "list" = none
  g_range : mg "range" = none
  g_reversed : mg "reversed" = none
  g_tuple : mg "tuple" = none
end K17
set_option Elab.async false
set_option linter.all false
set_option maxRecDepth 100000
set_option maxHeartbeats 8000000
/-! Kinds of any thing; worth, with what it refuses. -/
namespace K17
open PySem L2 Rl
/-- what a thing is judged by: is it an int, a flag, a tuple -/
structure Kd (K : PySem.W.Frag) (H : Hp) (x : V) (i b t : Bool) : Prop where
  ex : ∃ c, TyOf K H x c ∧ PySem.W.kitOne K c (.type "int") = some i ∧ PySem.W.kitOne K c (.type "bool") = some b ∧ PySem.W.kitOne K c (.type "tuple") = some t
def wsum (ns : List Int) (q : Int) : Int := ns.reverse.foldl (fun t n => t * q + n) 0
def bits (i : Int) (k : Nat) : Prop := i.natAbs < 2 ^ k
def spInt (K : PySem.W.Frag) : Sp := fun vs H Q _ => ∃ (x : V) (i b t : Bool), vs = [x] ∧ Kd K H x i b t ∧ Q (.bl (i && !b)) H
/-- no tuple, or one with an item that is none -/
def spInts (K : PySem.W.Frag) : Sp := fun vs H Q _ => ∃ x : V, vs = [x] ∧
  ((∃ i b, Kd K H x i b false ∧ Q (.bl false) H) ∨
    ∃ (a : Addr) (xs : List V) (f : V → Bool), x = .ref a ∧ (∃ i b, Kd K H x i b true) ∧ H a = some (.tup xs) ∧ xs.length ≤ 1000 ∧ (∀ y ∈ xs, ∃ i b t, Kd K H y i b t ∧ f y = (i && !b)) ∧ ∀ H', Same H H' → Q (.bl (xs.all f)) H')
def BadN (K : PySem.W.Frag) (H : Hp) (x : V) : Prop := (∃ i b, Kd K H x i b false) ∨
  ∃ (a : Addr) (xs : List V) (f : V → Bool), x = .ref a ∧ (∃ i b, Kd K H x i b true) ∧ H a = some (.tup xs) ∧ xs.length ≤ 1000 ∧ (∀ y ∈ xs, ∃ i b t, Kd K H y i b t ∧ f y = (i && !b)) ∧ (xs.all f = false ∨ 64 < xs.length)
def spWorth (K : PySem.W.Frag) (C1 C2 : Addr) : Sp := fun vs H Q E => ∃ x y : V, vs = [x, y] ∧
  ((BadN K H x ∧ ∀ H', Same H H' → E (.ref C1) none H') ∨
   ∃ (a : Addr) (ns : List Int), x = .ref a ∧ H a = some (.tup (ns.map V.int)) ∧ ns.length ≤ 64 ∧ (∃ i b, Kd K H x i b true) ∧
     ((∃ i b t, Kd K H y i b t ∧ (i && !b) = false ∧ ∀ H', Same H H' → E (.ref C2) none H') ∨
      ∃ q : Int, y = .int q ∧ bits q 70 ∧ (∀ n ∈ ns, bits n 70) ∧ ∀ H', Same H H' → Q (.int (wsum ns q)) H'))
theorem same_new {H : Hp} {p : Addr} (h : H p = none) (o : HO) : Same H (upd H p o) := fun b u q => by
  rw [upd_ne (ne_of_none q h)]
  exact q
theorem tyO_same {K : PySem.W.Frag} {H H' : Hp} (e : Same H H') {x : V} {t : Value} (h : TyOf K H x t) : TyOf K H' x t := by
  cases h with
  | non => exact .non
  | bl b => exact .bl b
  | int i => exact .int i
  | str z => exact .str z
  | flt z => exact .flt z
  | lst q => exact .lst (e _ _ q)
  | frz q => exact .frz (e _ _ q)
  | tup q => exact .tup (e _ _ q)
  | dK q => exact .dK (e _ _ q)
  | dT q => exact .dT (e _ _ q)
  | ins q cl ha hn htk hm => exact .ins (e _ _ q) cl ha hn htk hm
theorem Kd.same {K : PySem.W.Frag} {H H' : Hp} (e : Same H H') {x : V} {i b t : Bool} (h : Kd K H x i b t) : Kd K H' x i b t := by
  obtain ⟨c, ty, h1⟩ := h.ex
  exact ⟨c, tyO_same e ty, h1⟩
theorem seqT_same {K : PySem.W.Frag} {H H' : Hp} (e : Same H H') {a : Addr} {xs : List V} (h : SqT K H a xs) : SqT K H' a xs := by
  rcases h with (q | ⟨o, q⟩) | q
  · exact .inl (.inl (e _ _ q))
  · exact .inl (.inr ⟨o, e _ _ q⟩)
  · exact .inr q
theorem kd_int {K : PySem.W.Frag} {H : Hp} (i : Int) : Kd K H (.int i) true false false := ⟨_, .int i, kit_ty (by decide +kernel), kit_ty (by decide +kernel), kit_ty (by decide +kernel)⟩
def spNoInit : Sp := fun vs H Q _ => ∃ a : Addr, vs = [.ref a] ∧ Q .non H
theorem bits_mul {x q n : Int} {k : Nat} (hx : bits x k) (hq : bits q 70) (hn : bits n 70) (hk : 70 ≤ k) : bits (x * q + n) (k + 71) := by
  unfold bits at *
  have h1 : (x * q + n).natAbs ≤ x.natAbs * q.natAbs + n.natAbs := by
    have := Int.natAbs_add_le (x * q) n
    rw [Int.natAbs_mul] at this
    exact this
  have h2 : x.natAbs * q.natAbs ≤ 2 ^ k * 2 ^ 70 := Nat.mul_le_mul (Nat.le_of_lt hx) (Nat.le_of_lt hq)
  have h3 : n.natAbs < 2 ^ k * 2 ^ 70 := by
    refine Nat.lt_of_lt_of_le hn ?_
    have : 1 ≤ 2 ^ k := Nat.one_le_two_pow
    have := Nat.mul_le_mul this (Nat.le_refl (2 ^ 70))
    omega
  have e : 2 ^ (k + 71) = 2 ^ k * 2 ^ 70 * 2 := by rw [Nat.pow_add, show (2 : Nat) ^ 71 = 2 ^ 70 * 2 from by decide, ← Nat.mul_assoc]
  rw [e]
  omega
theorem log_bits {x : Int} {k : Nat} (h : bits x k) (hk : 0 < k) : x.natAbs.log2 < k := by
  unfold bits at h
  by_cases z : x.natAbs = 0
  · rw [z]
    exact hk
  · exact (Nat.log2_lt z).mpr h
section
variable {P : Program} {w : World} {K : PySem.W.Frag} {mg : Str → Option Value} {base : Heap}
theorem ok_NoNumbers___init__ (T : Tx K mg) : FnOk P w K mg base CX0 1 T.f_NoNumbers___init__ T.d_NoNumbers___init__ ["self"] spNoInit := by
  refine T.F_NoNumbers___init__.ok sc_NoNumbers___init__ (fun vs H Q E h => ?_) (fun cdv A outer s H vs Q E hr h => ?_)
  · obtain ⟨a, rfl, _⟩ := h
    rfl
  obtain ⟨a, rfl, q⟩ := h
  exact ⟨_, (pss_one ps_pass), q⟩
theorem ok_NoColours___init__ (T : Tx K mg) : FnOk P w K mg base CX0 1 T.f_NoColours___init__ T.d_NoColours___init__ ["self"] spNoInit := by
  refine T.F_NoColours___init__.ok sc_NoColours___init__ (fun vs H Q E h => ?_) (fun cdv A outer s H vs Q E hr h => ?_)
  · obtain ⟨a, rfl, _⟩ := h
    rfl
  obtain ⟨a, rfl, q⟩ := h
  exact ⟨_, (pss_one ps_pass), q⟩
theorem ok_is_integer (T : Tx K mg) : FnOk P w K mg base CX0 1 T.f_is_integer T.d_is_integer ["thing"] (spInt K) := by
  refine T.F_is_integer.ok sc_is_integer (fun vs H Q E h => ?_) (fun cdv A outer s H vs Q E hr h => ?_)
  · obtain ⟨x, i, b, t, rfl, _⟩ := h
    rfl
  obtain ⟨x, i, b, t, rfl, ⟨c, ty, h1, h2, h3⟩, q⟩ := h
  refine ⟨_, (pss_one (ps_ret (pe_and (pe_callB call_isi (by rfl) T.g_isinstance (by decide +kernel) (pa_cons (pv 0) (pa_cons (pe_bltn (v := .ty "int") (by rfl) T.g_int (by decide +kernel) rfl) pa_nil))) (pe_one (pe_not (pe_callB call_isi (by rfl) T.g_isinstance (by decide +kernel) (pa_cons (pv 0) (pa_cons (pe_bltn (v := .ty "bool") (by rfl) T.g_bool (by decide +kernel) rfl) pa_nil)))))))), ?_⟩
  refine ⟨_, rfl, _, _, _, _, _, rfl, .ty _, .base ty, h1, i, rfl, ?_⟩
  cases i with
  | true => exact iteT ⟨_, rfl, _, _, _, _, _, rfl, .ty _, .base ty, h2, _, rfl, q⟩
  | false => exact iteF q
theorem ok_is_integers (T : Tx K mg) : FnOk P w K mg base CX0 2 T.f_is_integers T.d_is_integers ["thing"] (spInts K) := by
  refine T.F_is_integers.ok sc_is_integers (fun vs H Q E h => ?_) (fun cdv A outer s H vs Q E hr h => ?_)
  · obtain ⟨x, rfl, _⟩ := h
    rfl
  obtain ⟨x, rfl, h⟩ := h
  refine ⟨_, (pss_one (ps_ret (pe_and (pe_callB call_isi (by rfl) T.g_isinstance (by decide +kernel) (pa_cons (pv 0) (pa_cons (pe_bltn (v := .ty "tuple") (by rfl) T.g_tuple (by decide +kernel) rfl) pa_nil))) (pe_one (pe_callB (cr_all rfl) (by rfl) T.g_all (by decide +kernel) (pa_cons (pe_lc (own := [("part", 1)]) (g := (gName 1)) (tt := tYes) (te := (tCall (spInt K) [] E0 (tCons (tVar 1) tNil))) rfl sc_is_integers.nd (pi_tup (pv 0)) (blkOk_by (own := [("part", 1)]) (N := N_is_integers) (sc := defScope s_is_integers) (by decide +kernel)) (fun _ _ _ _ _ => (pg_name (i := 1) sc_is_integers.nd rfl (.inl rfl))) (fun _ _ _ _ _ => pts_nil) (fun _ _ _ _ _ => (pe_call (ok_is_integer T) (hr.mono (by decide)) (by rfl) T.m_is_integer T.F_is_integer.kp T.b_is_integer .nil pass0 (pa_cons (pv 1) pa_nil)))) pa_nil)))))), ?_⟩
  rcases h with ⟨i, b, ⟨c, ty, h1, h2, h3⟩, q⟩ | ⟨a, xs, f, rfl, ⟨i, b, ⟨c, ty, h1, h2, h3⟩⟩, hx, lx, hf, q⟩
  · exact ⟨_, rfl, _, _, _, _, _, rfl, .ty _, .base ty, h3, false, rfl, iteF q⟩
  · refine ⟨_, rfl, _, _, _, _, _, rfl, .ty _, .base ty, h3, true, rfl, iteT ?_⟩
    refine ⟨_, rfl, a, rfl, ⟨_, SqT.of hx⟩, fun D nD => lc_tup (xs := xs) (fun j H' => Same H H' ∧ H' D = some (.lst (((xs.take j).map f).map V.bl))) ⟨same_new nD _, upd_same⟩ (fun j H' _ ⟨sm, _⟩ => SqT.of (sm _ _ hx)) ?_ ?_⟩
    · intro j y H' hj ⟨sm, hD⟩
      obtain ⟨i', b', t', kd, ef⟩ := hf y (List.mem_of_getElem? hj)
      have lj := (List.getElem?_eq_some_iff.mp hj).1
      refine ⟨rfl, _, rfl, y, i', b', t', rfl, kd.same sm, _, hD, small1000 ?_, fun o u ho => ?_, ?_⟩
      · rw [List.length_map, List.length_map, List.length_take]
        omega
      · rw [upd_ne (ne_of_none ho nD)]
        exact sm _ _ ho
      · rw [upd_same, ← ef, List.take_add_one, hj, List.map_append, List.map_append]
        rfl
    · intro H' ⟨sm, hD⟩
      rw [List.take_of_length_le (Nat.le_refl _)] at hD
      refine ⟨D, _, rfl, SqL.of hD, ?_⟩
      rw [List.all_map]
      exact q H' sm
end
end K17
set_option Elab.async false
set_option linter.all false
set_option maxRecDepth 100000
set_option maxHeartbeats 8000000
/-! Worth. -/
namespace K17
open PySem L2 Rl
theorem rev_get {α : Type} {xs : List α} {i : Nat} {x : α} (h : i < xs.length) (e : xs[xs.length - 1 - i]? = some x) : xs.reverse[i]? = some x := by
  rw [List.getElem?_reverse h]
  exact e
def wpre (ns : List Int) (q : Int) (i : Nat) : Int := (ns.reverse.take i).foldl (fun t n => t * q + n) 0
theorem wpre_step {ns : List Int} {q n : Int} {i : Nat} (h : ns.reverse[i]? = some n) : wpre ns q (i + 1) = wpre ns q i * q + n := by
  unfold wpre
  rw [List.take_add_one, h, List.foldl_append]
  rfl
theorem wpre_bits {ns : List Int} {q : Int} (hq : bits q 70) (hn : ∀ n ∈ ns, bits n 70) : ∀ i : Nat, i ≤ ns.length → bits (wpre ns q i) (70 + 71 * i)
  | 0, _ => by
    unfold wpre bits
    rw [List.take_zero]
    show (0 : Int).natAbs < 2 ^ 70
    decide
  | i + 1, h => by
    have ih := wpre_bits hq hn i (by omega)
    have li : i < ns.reverse.length := by rw [List.length_reverse]; omega
    have e := List.getElem?_eq_getElem li
    rw [wpre_step e]
    have := bits_mul ih hq (hn _ (List.mem_reverse.mp (List.getElem_mem li))) (by omega)
    rw [show 70 + 71 * (i + 1) = 70 + 71 * i + 71 by omega]
    exact this
section
variable {P : Program} {w : World} {K : PySem.W.Frag} {mg : Str → Option Value} {base : Heap}
theorem del_upd {H : Hp} {a : Addr} {o : HO} (h : H a = none) : Same H (del (upd H a o) a) := fun b u q => by
  have ne : b ≠ a := ne_of_none q h
  rw [del_ne ne, upd_ne ne]
  exact q
theorem ok_worth (T : Tx K mg) : FnOk P w K mg base (L2.CX P w) 4 T.f_worth T.d_worth ["numbers", "q"] (spWorth K T.C_NoNumbers T.C_NoColours) := by
  refine T.F_worth.okX sc_worth (fun vs H Q E h => ?_) (fun cdv A outer s H vs Q E hr h => ?_)
  · obtain ⟨x, y, rfl, _⟩ := h
    rfl
  obtain ⟨x, y, rfl, h⟩ := h
  refine ⟨_, (pss_cons (ps_if (PW.pt (pw_or (pt_not (pt_val (pe_call (ok_is_integers T) (hr.mono (by decide)) (by rfl) T.m_is_integers T.F_is_integers.kp T.b_is_integers .nil pass0 (pa_cons (pv 0) pa_nil)))) (pw_or1 (pt_cmpR op_gt (pe_callB call_len_seq (by rfl) T.g_len PySem.boot_len (pa_cons (pv 0) pa_nil)) (pe_glob (v := .int 64) rfl T.m_MOST_NUMBERS ⟨_, rfl⟩) (nomark _)))))
      (pss_one (ps_raise rfl (takes_of rfl rfl rfl rfl) (KX.pmk_oex0 T.ox_NoNumbers T.oi_NoNumbers T.ot_NoNumbers (ok_NoNumbers___init__ T) (hr.mono (by decide)) T.b_NoNumbers___init__ .nil pass0 (by rfl) T.m_NoNumbers)))
      pss_nil)
    (pss_cons (ps_if (pt_not (pt_val (pe_call (ok_is_integer T) (hr.mono (by decide)) (by rfl) T.m_is_integer T.F_is_integer.kp T.b_is_integer .nil pass0 (pa_cons (pv 1) pa_nil))))
      (pss_one (ps_raise rfl (takes_of rfl rfl rfl rfl) (KX.pmk_oex0 T.ox_NoColours T.oi_NoColours T.ot_NoColours (ok_NoColours___init__ T) (hr.mono (by decide)) T.b_NoColours___init__ .nil pass0 (by rfl) T.m_NoColours)))
      pss_nil)
    (PSs.nox (pss_cons (ps_set (i := 2) sc_worth.nd rfl (.inl rfl) pe_int)
    (pss_cons (ps_for PassesOwn.never rfl (RT.pi_revA (by rfl) T.g_reversed (pv 0)) (pg_name (i := 3) sc_worth.nd rfl (.inl rfl))
      (pss_one (ps_set (i := 2) sc_worth.nd rfl (.inl rfl) (pe_op op_add (pe_op op_mulW (pv 2) (pv 1)) (pv 3)))))
    (pss_one (ps_ret (pv 2)))))))), ?_⟩
  rcases h with ⟨bad, q⟩ | ⟨a, ns, rfl, ha, l64, ⟨i0, b0, k0⟩, h⟩
  · refine ⟨_, rfl, x, rfl, ?_⟩
    rcases bad with ⟨i, b, kd⟩ | ⟨a, xs, f, rfl, ⟨i, b, kd⟩, hx, lx, hf, no⟩
    · exact .inl ⟨i, b, kd, false, rfl, iteT fun e ne => ⟨e, rfl, rfl, upd_same, q _ (del_upd ne)⟩⟩
    · refine .inr ⟨a, xs, f, rfl, ⟨i, b, kd⟩, hx, lx, hf, fun H' sm => ?_⟩
      cases c : xs.all f with
      | false => exact ⟨false, rfl, iteT fun e ne => ⟨e, rfl, rfl, upd_same, q _ (sm.trans (del_upd ne))⟩⟩
      | true =>
        have long : 64 < xs.length := no.resolve_left fun z => by rw [c] at z; cases z
        refine ⟨true, rfl, iteF ⟨_, rfl, a, xs, rfl, .inr (SqT.of (sm _ _ hx)), _, _, rfl, rfl, _, rfl, ?_⟩⟩
        rw [decide_eq_true (show ((xs.length : Nat) : Int) > 64 by omega)]
        exact iteT fun e ne => ⟨e, rfl, rfl, upd_same, q _ (sm.trans (del_upd ne))⟩
  · have ln : (ns.map V.int).length = ns.length := List.length_map _
    have hat := ha
    have ha : SqT K H a (ns.map V.int) := SqT.of ha
    have fl : ∀ v ∈ ns.map V.int, ∃ i b t, Kd K H v i b t ∧ (fun _ : V => true) v = (i && !b) := fun v hv => by
      obtain ⟨z, _, ez⟩ := List.mem_map.mp hv
      subst ez
      exact ⟨true, false, false, kd_int z, rfl⟩
    refine ⟨_, rfl, .ref a, rfl, .inr ⟨a, ns.map V.int, fun _ => true, rfl, ⟨i0, b0, k0⟩, hat, by omega, fl, fun H1 s1 => ?_⟩⟩
    rw [show (ns.map V.int).all (fun _ => true) = true from List.all_eq_true.mpr fun _ _ => rfl]
    have ha1 := seqT_same s1 ha
    refine ⟨true, rfl, iteF ⟨_, rfl, a, _, rfl, .inr ha1, _, _, rfl, rfl, _, rfl, ?_⟩⟩
    rw [decide_eq_false (show ¬ (((ns.map V.int).length : Nat) : Int) > 64 by omega)]
    refine iteF ?_
    rcases h with ⟨i, b, t, kd, no, q⟩ | ⟨z, rfl, hz, hn, q⟩
    · refine ⟨_, rfl, y, i, b, t, rfl, kd.same s1, _, rfl, ?_⟩
      rw [no]
      exact iteT fun e ne => ⟨e, rfl, rfl, upd_same, q _ (s1.trans (del_upd ne))⟩
    · refine ⟨_, rfl, .int z, true, false, false, rfl, kd_int z, true, rfl, iteF ?_⟩
      refine ⟨_, rfl, a, ns.map V.int, rfl, .inr ⟨ha1, ?_⟩⟩
      refine RT.for_ItvT (xs := ns.map V.int) (fun i σ H' => ∃ y3, σ = [some (.ref a), some (.int z), some (.int (wpre ns z i)), y3] ∧ H' = H1 ∧ i ≤ ns.length) ⟨none, rfl, rfl, Nat.zero_le _⟩ (fun i σ H' ⟨_, _, e, _⟩ => by rw [e]; exact ha1) ?_ ?_
      · intro i v σ H' hi hv ⟨y3, e, eH, li⟩
        subst e eH
        have hi' : i < ns.length := by omega
        rw [ln, List.getElem?_map] at hv
        cases hg : ns[ns.length - 1 - i]? with
        | none =>
          rw [hg] at hv
          cases hv
        | some n =>
          rw [hg] at hv
          have ev : V.int n = v := Option.some.inj hv
          subst ev
          have st := wpre_step (q := z) (rev_get hi' hg)
          have bw := wpre_bits hz hn i (by omega)
          have l1 := log_bits bw (by omega)
          have l2 := log_bits hz (by decide)
          refine ⟨_, rfl, _, rfl, _, z, rfl, rfl, (show _ + _ < 1000000 by omega), _, rfl, _, n, rfl, rfl, ?_⟩
          exact ⟨_, by rw [st]; rfl, rfl, hi'⟩
      · intro σ H' ⟨y3, e, eH, li⟩
        subst e eH
        refine ⟨_, rfl, ?_⟩
        have e2 : wpre ns z (ns.map V.int).length = wsum ns z := by
          unfold wpre wsum
          rw [List.take_of_length_le (by rw [List.length_reverse, ln]; exact Nat.le_refl _)]
        rw [e2]
        exact q _ s1
end
end K17
set_option Elab.async false
set_option linter.all false
set_option maxRecDepth 100000
set_option maxHeartbeats 4000000
/-! Between, below; a web made. -/
namespace K17
open PySem L2 Rl
def spBetw : Sp := fun vs H Q _ => ∃ i l m : Int, vs = [.int i, .int l, .int m] ∧ Q (.bl (decide (l ≤ i) && decide (i ≤ m))) H
def spBelow : Sp := fun vs H Q _ => ∃ i m : Int, vs = [.int i, .int m] ∧ Q (.bl (decide (0 ≤ i) && decide (i < m))) H
def spPair : Sp := fun vs H Q _ => ∃ (a : Addr) (x y : V), vs = [.ref a] ∧ H a = some (.tup [x, y]) ∧ Q (.bl true) H
def spTie : Sp := fun vs H Q _ => ∃ (a : Addr) (u v n : Int), vs = [.ref a, .int n] ∧ H a = some (.tup [.int u, .int v]) ∧ 0 ≤ u ∧ u ≤ v ∧ v < n ∧ Q (.bl true) H
section
variable {P : Program} {w : World} {K : PySem.W.Frag} {mg : Str → Option Value} {base : Heap}
theorem ok_is_between (T : Tx K mg) : FnOk P w K mg base CX0 2 T.f_is_between T.d_is_between ["thing", "least", "most"] spBetw := by
  refine T.F_is_between.ok sc_is_between (fun vs H Q E h => ?_) (fun cdv A outer s H vs Q E hr h => ?_)
  · obtain ⟨i, l, m, rfl, _⟩ := h
    rfl
  obtain ⟨i, l, m, rfl, q⟩ := h
  refine ⟨_, (pss_one (ps_ret (pe_and (pe_call (ok_is_integer T) (hr.mono (by decide)) (by rfl) T.m_is_integer T.F_is_integer.kp T.b_is_integer .nil pass0 (pa_cons (pv 0) pa_nil)) (pe_one (pe_chain op_le op_le (pv 1) (pv 0) (pv 2)))))), ?_⟩
  refine ⟨_, rfl, .int i, true, false, false, rfl, kd_int i, true, rfl, iteT ?_⟩
  refine ⟨_, rfl, _, rfl, l, i, rfl, rfl, _, rfl, ?_⟩
  cases hd : decide (l ≤ i) with
  | true =>
    rw [hd] at q
    exact iteT ⟨_, rfl, i, m, rfl, rfl, q⟩
  | false =>
    rw [hd] at q
    exact iteF q
theorem ok_is_below (T : Tx K mg) : FnOk P w K mg base CX0 2 T.f_is_below T.d_is_below ["thing", "bound"] spBelow := by
  refine T.F_is_below.ok sc_is_below (fun vs H Q E h => ?_) (fun cdv A outer s H vs Q E hr h => ?_)
  · obtain ⟨i, m, rfl, _⟩ := h
    rfl
  obtain ⟨i, m, rfl, q⟩ := h
  refine ⟨_, (pss_one (ps_ret (pe_and (pe_call (ok_is_integer T) (hr.mono (by decide)) (by rfl) T.m_is_integer T.F_is_integer.kp T.b_is_integer .nil pass0 (pa_cons (pv 0) pa_nil)) (pe_one (pe_chain op_le op_lt pe_int (pv 0) (pv 1)))))), ?_⟩
  refine ⟨_, rfl, .int i, true, false, false, rfl, kd_int i, true, rfl, iteT ?_⟩
  refine ⟨_, rfl, 0, i, rfl, rfl, _, rfl, ?_⟩
  cases hd : decide ((0 : Int) ≤ i) with
  | true =>
    rw [hd] at q
    exact iteT ⟨_, rfl, i, m, rfl, rfl, q⟩
  | false =>
    rw [hd] at q
    exact iteF q
theorem ok_is_pair (T : Tx K mg) : FnOk P w K mg base CX0 1 T.f_is_pair T.d_is_pair ["thing"] spPair := by
  refine T.F_is_pair.ok sc_is_pair (fun vs H Q E h => ?_) (fun cdv A outer s H vs Q E hr h => ?_)
  · obtain ⟨a, x, y, rfl, _⟩ := h
    rfl
  obtain ⟨a, x, y, rfl, ha, q⟩ := h
  refine ⟨_, (pss_one (ps_ret (pe_and (pe_callB call_isi (by rfl) T.g_isinstance (by decide +kernel) (pa_cons (pv 0) (pa_cons (pe_bltn (v := .ty "tuple") (by rfl) T.g_tuple (by decide +kernel) rfl) pa_nil))) (pe_one (pe_cmpR op_eq (pe_callB call_len_seq (by rfl) T.g_len PySem.boot_len (pa_cons (pv 0) pa_nil)) pe_int (nomark _)))))), ?_⟩
  refine ⟨_, rfl, _, _, _, _, _, rfl, .ty _, .base (.tup ha), kit_ty (by decide +kernel), true, rfl, iteT ?_⟩
  refine ⟨_, rfl, a, _, rfl, .inr (SqT.of ha), rfl, ?_⟩
  exact q
theorem ok_is_tie (T : Tx K mg) : FnOk P w K mg base CX0 3 T.f_is_tie T.d_is_tie ["thing", "many"] spTie := by
  refine T.F_is_tie.ok sc_is_tie (fun vs H Q E h => ?_) (fun cdv A outer s H vs Q E hr h => ?_)
  · obtain ⟨a, u, v, n, rfl, _⟩ := h
    rfl
  obtain ⟨a, u, v, n, rfl, ha, h0, h1, h2, q⟩ := h
  have sT : SqT K H a [.int u, .int v] := SqT.of ha
  refine ⟨_, (pss_one (ps_ret (pe_and (pe_call (ok_is_pair T) (hr.mono (by decide)) (by rfl) T.m_is_pair T.F_is_pair.kp T.b_is_pair .nil pass0 (pa_cons (pv 0) pa_nil)) (pe_and (pe_call (ok_is_below T) (hr.mono (by decide)) (by rfl) T.m_is_below T.F_is_below.kp T.b_is_below .nil pass0 (pa_cons (pe_ix ix_tup (pv 0) pe_int (fun _ _ => rfl)) (pa_cons (pv 1) pa_nil))) (pe_one (pe_call (ok_is_between T) (hr.mono (by decide)) (by rfl) T.m_is_between T.F_is_between.kp T.b_is_between .nil pass0 (pa_cons (pe_ix ix_tup (pv 0) pe_int (fun _ _ => rfl)) (pa_cons pe_int (pa_cons (pe_ix ix_tup (pv 0) pe_int (fun _ _ => rfl)) pa_nil))))))))), ?_⟩
  refine ⟨_, rfl, a, _, _, rfl, ha, true, rfl, iteT ?_⟩
  refine ⟨_, rfl, a, _, 1, .int v, rfl, rfl, sT, atI_nat (j := 1) rfl, _, rfl, v, n, rfl, _, rfl, ?_⟩
  have e1 : (decide (0 ≤ v) && decide (v < n)) = true := by
    rw [decide_eq_true (show (0 : Int) ≤ v by omega), decide_eq_true h2]
    rfl
  rw [e1]
  refine iteT ?_
  refine ⟨_, rfl, a, _, 0, .int u, rfl, rfl, sT, atI_nat (j := 0) rfl, _, rfl, a, _, 1, .int v, rfl, rfl, sT, atI_nat (j := 1) rfl, u, 0, v, rfl, ?_⟩
  have e2 : (decide (0 ≤ u) && decide (u ≤ v)) = true := by
    rw [decide_eq_true h0, decide_eq_true h1]
    rfl
  rw [e2]
  exact q
end
/-! ### webs -/
/-- the items of a list or tuple are pairs of ints, these -/
def PrsAt (H : Hp) (vs : List V) (ps : List (Int × Int)) : Prop := Paired (fun (v : V) (p : Int × Int) => ∃ a, v = .ref a ∧ H a = some (.tup [.int p.1, .int p.2])) vs ps
def TiesAt (H : Hp) (t : Addr) (ps : List (Int × Int)) : Prop := ∃ vs, H t = some (.tup vs) ∧ PrsAt H vs ps
def okP (n : Int) (p : Int × Int) : Prop := 0 ≤ p.1 ∧ p.1 ≤ p.2 ∧ p.2 < n
def wf (n : Int) (t : Addr) : List (Str × V) := putF "ties" (.ref t) (putF "many" (.int n) [])
def WebAt (C : Addr) (H : Hp) (x : Addr) (n : Int) (ps : List (Int × Int)) : Prop := ∃ dx t, H x = some (.ins C dx (wf n t)) ∧ TiesAt H t ps
theorem kmt : ¬ (("many" : Str) = "ties") := by decide +kernel
theorem wf_many (n : Int) (t : Addr) : (wf n t).lookup ("many" : Str) = some (.int n) := by
  unfold wf
  rw [lookup_putF, if_neg kmt, lookup_putF, if_pos rfl]
theorem wf_ties (n : Int) (t : Addr) : (wf n t).lookup ("ties" : Str) = some (.ref t) := by
  unfold wf
  rw [lookup_putF, if_pos rfl]
theorem PrsAt.get {H : Hp} : ∀ {vs : List V} {ps : List (Int × Int)} {i : Nat} {v : V}, PrsAt H vs ps → vs[i]? = some v → ∃ p a, ps[i]? = some p ∧ v = .ref a ∧ H a = some (.tup [.int p.1, .int p.2])
  | _, _, i, v, .nil, h => by simp at h
  | _, _, 0, v, .cons (a := x) (b := p) ⟨a, e, q⟩ _, h => by
    have e1 : x = v := Option.some.inj h
    exact ⟨p, a, rfl, e1.symm.trans e, q⟩
  | _, _, i + 1, v, .cons _ r, h => PrsAt.get (i := i) (v := v) r h
theorem PrsAt.mono {H H' : Hp} (e : ∀ a x y, H a = some (.tup [x, y]) → H' a = some (.tup [x, y])) : ∀ {vs : List V} {ps : List (Int × Int)}, PrsAt H vs ps → PrsAt H' vs ps
  | _, _, .nil => .nil
  | _, _, .cons ⟨a, e1, q⟩ r => .cons ⟨a, e1, e _ _ _ q⟩ (PrsAt.mono e r)
theorem PrsAt.len {H : Hp} {vs : List V} {ps : List (Int × Int)} (h : PrsAt H vs ps) : vs.length = ps.length := Paired.length h
theorem TiesAt.same {H H' : Hp} {t : Addr} {ps : List (Int × Int)} (e : Same H H') (h : TiesAt H t ps) : TiesAt H' t ps := by
  obtain ⟨vs, h1, h2⟩ := h
  exact ⟨vs, e _ _ h1, h2.mono fun a x y q => e _ _ q⟩
theorem WebAt.same {C : Addr} {H H' : Hp} {x : Addr} {n : Int} {ps : List (Int × Int)} (e : Same H H') (h : WebAt C H x n ps) : WebAt C H' x n ps := by
  obtain ⟨dx, t, h1, h2⟩ := h
  exact ⟨dx, t, e _ _ h1, h2.same e⟩
def spWebI (C : Addr) : Sp := fun vs H Q _ => ∃ (x dx t : Addr) (n : Int) (ps : List (Int × Int)), vs = [.ref x, .int n, .ref t] ∧ H x = some (.ins C dx []) ∧ 1 ≤ n ∧ n ≤ 10 ∧ TiesAt H t ps ∧ ps.length ≤ 16 ∧ (∀ p ∈ ps, okP n p) ∧
  ∀ H', (∀ b o, H b = some o → b ≠ x → H' b = some o) → H' x = some (.ins C dx (wf n t)) → Q .non H'
section
variable {P : Program} {w : World} {K : PySem.W.Frag} {mg : Str → Option Value} {base : Heap}
theorem ok_webI (T : Tx K mg) : FnOk P w K mg base CX0 4 T.f_webI T.d_webI ["self", "many", "ties"] (spWebI T.C_Web) := by
  refine T.F_webI.ok sc_webI (fun vs H Q E h => ?_) (fun cdv A outer s H vs Q E hr h => ?_)
  · obtain ⟨x, dx, t, n, ps, rfl, _⟩ := h
    rfl
  obtain ⟨x, dx, t, n, ps, rfl, hx, n1, n2, ht, hl, hp, q⟩ := h
  obtain ⟨vs, ht1, ht2⟩ := id ht
  refine ⟨_, (pss_cons (ps_if (pt_not (pt_val (pe_call (ok_is_between T) (hr.mono (by decide)) (by rfl) T.m_is_between T.F_is_between.kp T.b_is_between .nil pass0 (pa_cons (pv 1) (pa_cons pe_int (pa_cons (pe_glob (v := .int 10) rfl T.m_MOST_PLACES ⟨_, rfl⟩) pa_nil))))))
      (pss_one ps_never)
      pss_nil)
    (pss_cons (ps_if (PW.pt (pw_or (pt_not (pt_val (pe_callB call_isi (by rfl) T.g_isinstance (by decide +kernel) (pa_cons (pv 2) (pa_cons (pe_bltn (v := .ty "tuple") (by rfl) T.g_tuple (by decide +kernel) rfl) pa_nil))))) (pw_or1 (pt_cmpR op_gt (pe_callB call_len_seq (by rfl) T.g_len PySem.boot_len (pa_cons (pv 2) pa_nil)) (pe_glob (v := .int 16) rfl T.m_MOST_TIES ⟨_, rfl⟩) (nomark _)))))
      (pss_one ps_never)
      pss_nil)
    (pss_cons (ps_for PassesOwn.never rfl (pi_enT (by rfl) T.g_enumerate (pa_cons (pv 2) pa_nil)) (pg_tup rfl (pgs_cons (pg_name (i := 3) sc_webI.nd rfl (.inl rfl)) (pgs_cons (pg_name (i := 4) sc_webI.nd rfl (.inl rfl)) pgs_nil)))
      (pss_one (ps_if (pt_not (pt_val (pe_call (ok_is_tie T) (hr.mono (by decide)) (by rfl) T.m_is_tie T.F_is_tie.kp T.b_is_tie .nil pass0 (pa_cons (pv 4) (pa_cons (pv 1) pa_nil)))))
          (pss_one ps_never)
          pss_nil)))
    (pss_cons (ps_fld (pv 0) (pv 1) rfl)
    (pss_one (ps_fld (pv 0) (pv 2) rfl)))))), ?_⟩
  refine ⟨_, rfl, n, 1, 10, rfl, true, ?_, ?_⟩
  · rw [decide_eq_true n1, decide_eq_true n2]
    rfl
  refine iteF ?_
  refine ⟨_, rfl, _, _, _, _, _, rfl, .ty _, .base (.tup ht1), kit_ty (by decide +kernel), true, rfl, ?_⟩
  refine iteF ?_
  refine ⟨_, rfl, t, _, rfl, .inr (SqT.of ht1), _, 16, rfl, rfl, _, rfl, ?_⟩
  have e3 : ((vs.length : Nat) : Int) ≤ 16 := by
    rw [ht2.len]
    omega
  rw [decide_eq_false (show ¬ (16 : Int) < ((vs.length : Nat) : Int) by omega)]
  refine iteF ?_
  -- each tie is one
  refine ⟨_, rfl, t, _, rfl, SqT.of ht1, for_enT (fun i σ H' => ∃ y3 y4, σ = [some (.ref x), some (.int n), some (.ref t), y3, y4] ∧ Same H H')
    ⟨none, none, rfl, Same.refl H⟩ (fun i σ H' ⟨_, _, _, sm⟩ => SqT.of (sm _ _ ht1)) ?_ ?_⟩
  · intro i y S σ H' hi ⟨y3, y4, e, sm⟩ nS
    subst e
    obtain ⟨p, a, hpi, ey, ha⟩ := ht2.get hi
    subst ey
    have op := hp p (List.mem_of_getElem? hpi)
    have s2 : Same H (upd H' S (.tup [.int (i : Nat), .ref a])) := sm.trans (same_new nS _)
    refine ⟨S, _, rfl, SqT.of upd_same, rfl, _, _, rfl, _, _, rfl, rfl, ?_⟩
    refine ⟨_, rfl, _, rfl, a, p.1, p.2, n, rfl, s2 _ _ ha, op.1, op.2.1, op.2.2, true, rfl, ?_⟩
    exact iteF ⟨_, _, rfl, s2⟩
  · intro σ H' ⟨y3, y4, e, sm⟩
    subst e
    refine ⟨_, rfl, _, rfl, x, T.C_Web, dx, [], rfl, sm _ _ hx, T.cl_Web, T.no_Web_many, (by show 0 < 1000; decide), ?_⟩
    refine ⟨_, rfl, _, rfl, x, T.C_Web, dx, _, rfl, upd_same, T.cl_Web, T.no_Web_ties, (by show 1 < 1000; decide), ?_⟩
    refine q _ (fun b o hb nb => ?_) upd_same
    rw [upd_ne nb, upd_ne nb]
    exact sm _ _ hb
/-- Web(n, t): a right web, made -/
theorem web_made {C : Addr} {H : Hp} {t : Addr} {n : Int} {ps : List (Int × Int)} {Q : VK} {E : XK} (n1 : 1 ≤ n) (n2 : n ≤ 10) (ht : TiesAt H t ps) (hl : ps.length ≤ 16) (hp : ∀ p ∈ ps, okP n p)
    (q : ∀ x H', H x = none → Same H H' → WebAt C H' x n ps → Q (.ref x) H') :
    ∀ x dx, H x = none → H dx = none → dx ≠ x → spWebI C (.ref x :: ([.int n, .ref t] ++ [])) (upd (upd H dx (.own x)) x (.ins C dx [])) (fun v H2 => v = .non ∧ Q (.ref x) H2) E := by
  intro x dx nx nd nex
  have s0 : Same H (upd (upd H dx (.own x)) x (.ins C dx [])) := fun b o e => by
    rw [upd_ne (ne_of_none e nx), upd_ne (ne_of_none e nd)]
    exact e
  refine ⟨x, dx, t, n, ps, rfl, upd_same, n1, n2, ht.same s0, hl, hp, fun H' k hx => ⟨rfl, ?_⟩⟩
  have s1 : Same H H' := fun b o e => k b o (s0 b o e) (ne_of_none e nx)
  exact q x H' nx s1 ⟨dx, t, hx, ht.same s1⟩
end
end K17
set_option Elab.async false
set_option linter.all false
set_option maxRecDepth 100000
set_option maxHeartbeats 4000000
/-! Short answers. -/
namespace K17
open PySem L2 Rl
/-! ### short answers -/
theorem cut_hi (xs : List V) (k : Int) (h : 0 ≤ k) : cutV xs none (some k) = xs.take k.toNat := by
  obtain ⟨n, rfl⟩ := Int.eq_ofNat_of_zero_le h
  unfold cutV
  rw [HT.sIx_none, show HT.sIx xs.length xs.length (some (n : Int)) = min n xs.length from HT.sIx_nat _ _ n, List.drop_zero, Nat.sub_zero, Int.toNat_natCast]
  rcases Nat.le_total n xs.length with g | g
  · rw [Nat.min_eq_left g]
  · rw [Nat.min_eq_right g, List.take_of_length_le (Nat.le_refl _), List.take_of_length_le g]
theorem cut_lo (xs : List V) (k : Int) (h : 0 ≤ k) : cutV xs (some k) none = xs.drop k.toNat := by
  obtain ⟨n, rfl⟩ := Int.eq_ofNat_of_zero_le h
  unfold cutV
  rw [HT.sIx_none, show HT.sIx xs.length 0 (some (n : Int)) = min n xs.length from HT.sIx_nat _ _ n, Int.toNat_natCast]
  rcases Nat.le_total n xs.length with g | g
  · rw [Nat.min_eq_left g, List.take_of_length_le (by rw [List.length_drop]; exact Nat.le_refl _)]
  · rw [Nat.min_eq_right g, List.drop_of_length_le (Nat.le_refl _), List.drop_of_length_le g, List.take_nil]
theorem cut_all (xs : List V) (lo hi : Option Int) (h : HT.sIx xs.length 0 lo = 0 ∧ HT.sIx xs.length xs.length hi = xs.length) : cutV xs lo hi = xs := by
  unfold cutV
  rw [h.1, h.2, List.drop_zero, Nat.sub_zero, List.take_of_length_le (Nat.le_refl _)]
section
variable {K : PySem.W.Frag} {H : Hp} {Q : VK}
theorem sl_go {a : Addr} {xs : List V} {lo hi : Option Int} (ha : H a = some (.tup xs)) (q : ∀ p H', Same H H' → H' p = some (.tup (cutV xs lo hi)) → Q (.ref p) H') : rSlA K (.ref a) lo hi H Q :=
  ⟨a, xs, rfl, SqT.of ha, fun z => q a H (Same.refl H) (by rw [cut_all xs lo hi z]; exact ha), fun _ p np => q p _ (same_new np _) upd_same⟩
theorem cat_go {a b : Addr} {xs ys : List V} (ha : H a = some (.tup xs)) (hb : H b = some (.tup ys)) (hz : xs.length + ys.length ≤ 100000) (q : ∀ p H', Same H H' → H' p = some (.tup (xs ++ ys)) → Q (.ref p) H') : rCatA K (.ref a) (.ref b) H Q := by
  refine ⟨a, b, xs, ys, rfl, rfl, SqT.of ha, SqT.of hb, Nat.le_trans hz (by decide), fun e => ?_, fun _ e => ?_, fun _ _ p np => q p _ (same_new np _) upd_same⟩
  · subst e
    exact q b H (Same.refl H) hb
  · subst e
    exact q a H (Same.refl H) (by rw [List.append_nil]; exact ha)
end
theorem rd_same {H H' : Hp} (e : Same H H') {a : Addr} {u : HO} (h : L2.Rd H a u) : L2.Rd H' a u := by
  rcases h with h | ⟨o, h⟩
  · exact .inl (e _ _ h)
  · exact .inr ⟨o, e _ _ h⟩
theorem ty_tupR {K : PySem.W.Frag} {H : Hp} {a : Addr} {xs : List V} (h : L2.Rd H a (.tup xs)) : TyX K H (.ref a) (.type "tuple") := by
  rcases h with h | ⟨o, h⟩
  · exact .base (.tup h)
  · exact .fTuple h
theorem Same.tup {H H' : Hp} (e : Same H H') {a : Addr} {x y : V} (h : H a = some (.tup [x, y])) : H' a = some (.tup [x, y]) := e _ _ h
theorem PrsAt.same {H H' : Hp} {vs : List V} {ps : List (Int × Int)} (e : Same H H') (h : PrsAt H vs ps) : PrsAt H' vs ps := h.mono fun _ _ _ q => e _ _ q
theorem PrsAt.app {H : Hp} : ∀ {vs ws : List V} {ps qs : List (Int × Int)}, PrsAt H vs ps → PrsAt H ws qs → PrsAt H (vs ++ ws) (ps ++ qs)
  | _, _, _, _, .nil, h => h
  | _, _, _, _, .cons a r, h => .cons a (PrsAt.app r h)
theorem PrsAt.take {H : Hp} : ∀ {vs : List V} {ps : List (Int × Int)} (n : Nat), PrsAt H vs ps → PrsAt H (vs.take n) (ps.take n)
  | _, _, 0, _ => by rw [List.take_zero, List.take_zero]; exact .nil
  | _, _, _ + 1, .nil => .nil
  | _, _, n + 1, .cons a r => .cons a (PrsAt.take n r)
theorem PrsAt.drop {H : Hp} : ∀ {vs : List V} {ps : List (Int × Int)} (n : Nat), PrsAt H vs ps → PrsAt H (vs.drop n) (ps.drop n)
  | _, _, 0, h => h
  | _, _, _ + 1, .nil => .nil
  | _, _, n + 1, .cons a r => PrsAt.drop n r
/-- a list that is changed at an address that holds no tuple leaves the pairs -/
theorem PrsAt.upd {H : Hp} {D : Addr} {l : List V} {o : HO} {vs : List V} {ps : List (Int × Int)} (hD : H D = some (.lst l)) (h : PrsAt H vs ps) : PrsAt (upd H D o) vs ps :=
  h.mono fun a x y q => by
    rw [upd_ne (ne_of q hD (by intro z; cases z))]
    exact q
def Right (n : Int) (ps : List (Int × Int)) : Prop := 1 ≤ n ∧ n ≤ 10 ∧ ps.length ≤ 16 ∧ ∀ p ∈ ps, okP n p
/-- as min and max of two answer -/
def mn (i j : Int) : Int := if j < i then j else i
def mx (i j : Int) : Int := if j > i then j else i
def ix (ns : List Int) (k : Int) : Int := ns.getD k.toNat 0
def cal (ns : List Int) (p : Int × Int) : Int × Int := (mn (ix ns p.1) (ix ns p.2), mx (ix ns p.1) (ix ns p.2))
def inR (m : Nat) (p : Int × Int) : Prop := 0 ≤ p.1 ∧ p.1 < m ∧ 0 ≤ p.2 ∧ p.2 < m
theorem ix_at {ns : List Int} {k : Int} (h0 : 0 ≤ k) (h1 : k < ns.length) : atI (ns.map V.int) k = some (.int (ix ns k)) := by
  obtain ⟨n, rfl⟩ := Int.eq_ofNat_of_zero_le h0
  have hn : n < ns.length := by omega
  refine atI_nat ?_
  unfold ix
  rw [List.getElem?_map, Int.toNat_natCast, List.getD_eq_getElem?_getD, List.getElem?_eq_getElem hn]
  rfl
section
variable {P : Program} {w : World} {K : PySem.W.Frag} {mg : Str → Option Value} {base : Heap}
theorem ix_go {H : Hp} {m : Addr} {ns : List Int} {k : Int} {Q : VK} (hm : H m = some (.lst (ns.map V.int)) ∨ L2.Rd H m (.tup (ns.map V.int))) (h0 : 0 ≤ k) (h1 : k < ns.length) (q : Q (.int (ix ns k)) H) : rIx K (.ref m) (.int k) H Q := by
  rcases hm with hm | hm
  · exact .inl ⟨m, _, k, _, rfl, rfl, SqL.of hm, ix_at h0 h1, q⟩
  · exact .inr (.inl ⟨m, _, k, _, rfl, rfl, .inl hm, ix_at h0 h1, q⟩)
end
/-! ### data -/
def dI (ns : List Int) : List PyData := ns.map PyData.int
def dP (p : Int × Int) : PyData := .tuple [.int p.1, .int p.2]
theorem can_ints : ∀ ns : List Int, PyData.canLayAll0 (dI ns) = true
  | [] => by unfold dI; simp [PyData.canLayAll0]
  | n :: r => by
    have ih := can_ints r
    unfold dI at ih ⊢
    rw [List.map_cons]
    simp only [PyData.canLayAll0, PyData.canLay0, Bool.true_and]
    exact ih
theorem dep_ints : ∀ ns : List Int, PyData.depthAll (dI ns) = 0
  | [] => by unfold dI; simp [PyData.depthAll]
  | n :: r => by
    have ih := dep_ints r
    unfold dI at ih ⊢
    rw [List.map_cons]
    simp only [PyData.depthAll, PyData.depth]
    rw [ih]
    rfl
theorem can_pair (p : Int × Int) : (dP p).canLay0 = true := by
  unfold dP
  simp [PyData.canLay0, PyData.canLayAll0]
theorem dep_pair (p : Int × Int) : (dP p).depth = 1 := by
  unfold dP
  simp [PyData.depth, PyData.depthAll]
theorem can_prs : ∀ ps : List (Int × Int), PyData.canLayAll0 (ps.map dP) = true
  | [] => by simp [PyData.canLayAll0]
  | p :: r => by
    rw [List.map_cons]
    simp only [PyData.canLayAll0]
    rw [can_pair, can_prs r]
    rfl
theorem dep_prs : ∀ ps : List (Int × Int), PyData.depthAll (ps.map dP) ≤ 1
  | [] => by simp [PyData.depthAll]
  | p :: r => by
    rw [List.map_cons]
    simp only [PyData.depthAll]
    rw [dep_pair]
    exact Nat.max_le.mpr ⟨Nat.le_refl _, dep_prs r⟩
theorem shp_of {d : PyData} (h1 : d.canLay0 = true) (h2 : d.depth ≤ 64) : SeqAt.shaped d = true := Bool.and_eq_true_iff.mpr ⟨h1, decide_eq_true h2⟩
theorem shp_ints (ns : List Int) : SeqAt.shaped (.list (dI ns)) = true := shp_of
  (by simp only [PyData.canLay0]; exact can_ints ns) (by simp only [PyData.depth]; rw [dep_ints]; decide)
theorem shp_pair (p : Int × Int) : SeqAt.shaped (dP p) = true := shp_of (can_pair p) (by rw [dep_pair]; decide)
theorem shp_prs (ps : List (Int × Int)) : SeqAt.shaped (.tuple (ps.map dP)) = true := shp_of
  (by simp only [PyData.canLay0]; exact can_prs ps) (by simp only [PyData.depth]; have := dep_prs ps; omega)
theorem eqv_same {d : PyData} (h : SeqAt.shaped d = true) : PyData.eqv d d = true := SeqAt.eqv_refl d (SeqAt.canLay_of_shaped h)
theorem dpa_ints {K : PySem.W.Frag} {H : Hp} : ∀ ns : List Int, DpAll K H (ns.map V.int) (dI ns)
  | [] => .nil
  | n :: r => .cons (.int n) (dpa_ints r)
theorem dp_pair {K : PySem.W.Frag} {H : Hp} {a : Addr} {p : Int × Int} (h : H a = some (.tup [.int p.1, .int p.2])) : Dp K H (.ref a) (dP p) :=
  .tup (SqT.of h) (.cons (.int _) (.cons (.int _) .nil))
theorem dpa_prs {K : PySem.W.Frag} {H : Hp} : ∀ {vs : List V} {ps : List (Int × Int)}, PrsAt H vs ps → DpAll K H vs (ps.map dP)
  | _, _, .nil => .nil
  | _, _, .cons ⟨a, e, h⟩ r => by
    rw [e]
    exact .cons (dp_pair h) (dpa_prs r)
theorem dp_ties {K : PySem.W.Frag} {H : Hp} {t : Addr} {ps : List (Int × Int)} (h : TiesAt H t ps) : Dp K H (.ref t) (.tuple (ps.map dP)) := by
  obtain ⟨vs, h1, h2⟩ := h
  exact .tup (SqT.of h1) (dpa_prs h2)
/-! ### orders -/
def rn (n : Int) : List Int := (List.range n.toNat).map fun i : Nat => (i : Int)
theorem rg_rn (n : Int) : rgV 0 n = (rn n).map V.int := by
  unfold rgV rn
  rw [Int.sub_zero, List.map_map]
  refine List.map_congr_left fun i _ => ?_
  show V.int (0 + (i : Int)) = V.int (i : Int)
  rw [Int.zero_add]
theorem rn_len (n : Int) : (rn n).length = n.toNat := by
  unfold rn
  rw [List.length_map, List.length_range]
theorem mem_rn {n k : Int} : k ∈ rn n ↔ 0 ≤ k ∧ k < n := by
  unfold rn
  rw [List.mem_map]
  constructor
  · rintro ⟨i, hi, rfl⟩
    have := List.mem_range.mp hi
    omega
  · intro ⟨h0, h1⟩
    exact ⟨k.toNat, List.mem_range.mpr (by omega), by omega⟩
theorem rn_sorted (n : Int) : (rn n).Pairwise (· < ·) := by
  unfold rn
  refine List.pairwise_map.mpr ?_
  have q := List.pairwise_lt_range (n := n.toNat)
  exact q.imp fun {a b} h => by omega
theorem rn_get {n : Int} {i : Nat} (h : i < n.toNat) : (rn n)[i]? = some (i : Int) := by
  unfold rn
  rw [List.getElem?_map, List.getElem?_range h]
  rfl
def IsOrd (n : Int) (os : List Int) : Prop := os.Perm (rn n)
theorem ixN_of {m : Nat} {k : Int} (h0 : 0 ≤ k) (h1 : k.toNat < m) : ixN m k = some k.toNat := by
  obtain ⟨j, rfl⟩ := Int.eq_ofNat_of_zero_le h0
  rw [Int.toNat_natCast] at h1 ⊢
  exact Evl.ixN_nat h1
theorem getD_mem {ps : List (Int × Int)} {k : Nat} (h : k < ps.length) : ps.getD k (0, 0) ∈ ps := by
  rw [List.getD_eq_getElem?_getD, List.getElem?_eq_getElem h]
  exact List.getElem_mem h
theorem mn_mx {n a b : Int} (a0 : 0 ≤ a) (b0 : 0 ≤ b) (a1 : a < n) (b1 : b < n) : okP n (mn a b, mx a b) := by
  unfold okP mn mx
  by_cases h : b < a
  · rw [if_pos h, if_neg (by omega)]
    exact ⟨b0, by show b ≤ a; omega, a1⟩
  · rw [if_neg h]
    by_cases g : b > a
    · rw [if_pos g]
      exact ⟨a0, by show a ≤ b; omega, b1⟩
    · rw [if_neg g]
      exact ⟨a0, Int.le_refl _, a1⟩
theorem inR_of {n : Int} {p : Int × Int} {m : Nat} (h : okP n p) (e : m = n.toNat) : inR m p := by
  obtain ⟨h0, h1, h2⟩ := h
  unfold inR
  omega
theorem sorted_unique {a b : List Int} (ha : a.Pairwise (· < ·)) (hb : b.Pairwise (· < ·)) (h : ∀ k, k ∈ a ↔ k ∈ b) : a = b := by
  have na : a.Nodup := ha.imp fun {x y} l e => by omega
  have nb : b.Nodup := hb.imp fun {x y} l e => by omega
  exact PySem.W.ksm_same ((List.perm_ext_iff_of_nodup na nb).mpr h) (ha.imp fun l => Int.le_of_lt l) (hb.imp fun l => Int.le_of_lt l)
end K17
set_option Elab.async false
set_option linter.all false
set_option maxRecDepth 100000
set_option maxHeartbeats 4000000
/-! The hand of draws. -/
namespace K17
open PySem L2 Rl
/-- all but the object at h is as it was -/
def Kp (h : Addr) (H H' : Hp) : Prop := ∀ b o, b ≠ h → H b = some o → H' b = some o
theorem Kp.refl (h : Addr) (H : Hp) : Kp h H H := fun _ _ _ e => e
theorem Kp.trans {h : Addr} {H H1 H2 : Hp} (a : Kp h H H1) (b : Kp h H1 H2) : Kp h H H2 := fun c o n e => b c o n (a c o n e)
theorem Same.kp {h : Addr} {H H' : Hp} (e : Same H H') : Kp h H H' := fun b o _ q => e b o q
theorem Kp.upd {h : Addr} {H H' : Hp} {o : HO} (k : Kp h H H') : Kp h H (upd H' h o) := fun b u n e => by
  rw [upd_ne n]
  exact k b u n e
theorem pos_of {c : Int} (h : 0 < c) : (0 : Int) < c := h
theorem m31 {x c : Int} (h0 : 0 < c) (h1 : c ≤ 2147483647) : -(2 ^ 64) < x % c ∧ x % c < 2 ^ 64 := by
  have a := Int.emod_nonneg x (show c ≠ 0 by omega)
  have b := Int.emod_lt_of_pos x h0
  omega
structure HandAt (H : Hp) (h c : Addr) : Prop where
  ex : ∃ (cs : List Int) (i b m n : Int), H h = some (.lst [.ref c, .int i, .int b, .int m, .int n]) ∧ H c = some (.lst (cs.map V.int)) ∧ c ≠ h ∧ 0 ≤ i ∧ 0 ≤ b ∧ ∀ z ∈ cs, 0 ≤ z
theorem HandAt.same {H H' : Hp} {h c : Addr} (e : Same H H') (a : HandAt H h c) : HandAt H' h c := by
  obtain ⟨cs, i, b, m, n, h1, h2, h3⟩ := a.ex
  exact ⟨cs, i, b, m, n, e _ _ h1, e _ _ h2, h3⟩
/-- what a hand is made of, a store later -/
theorem HandAt.of {H : Hp} {h c : Addr} {cs : List Int} {i b m n : Int} (h1 : H h = some (.lst [.ref c, .int i, .int b, .int m, .int n])) (h2 : H c = some (.lst (cs.map V.int))) (h3 : c ≠ h) (h4 : 0 ≤ i) (h5 : 0 ≤ b) (h6 : ∀ z ∈ cs, 0 ≤ z) : HandAt H h c :=
  ⟨cs, i, b, m, n, h1, h2, h3, h4, h5, h6⟩
def spDraw : Sp := fun vs H Q _ => ∃ (h c : Addr) (m : Int), vs = [.ref h, .int m] ∧ 0 < m ∧ m < 1073741824 ∧ HandAt H h c ∧
  ∀ d H', 0 ≤ d → d < m → Kp h H H' → HandAt H' h c → Q (.int d) H'
theorem at_in {ns : List Int} {k : Int} (h0 : 0 ≤ k) (h1 : k < ns.length) : ∃ z ∈ ns, atI (ns.map V.int) k = some (.int z) := by
  obtain ⟨n, rfl⟩ := Int.eq_ofNat_of_zero_le h0
  have hn : n < ns.length := by omega
  refine ⟨ns[n], List.getElem_mem hn, atI_nat ?_⟩
  rw [List.getElem?_map, List.getElem?_eq_getElem hn]
  rfl
section
variable {P : Program} {w : World} {K : PySem.W.Frag} {mg : Str → Option Value} {base : Heap}
theorem ok_l_draw (T : Tx K mg) : FnOk P w K mg base CX0 1 T.f_l_draw T.d_l_draw ["hand", "many"] spDraw := by
  refine T.F_l_draw.ok sc_l_draw (fun vs H Q E h => ?_) (fun cdv A outer s H vs Q E hr h => ?_)
  · obtain ⟨h, c, m, rfl, _⟩ := h
    rfl
  obtain ⟨h, c, many, rfl, m0, m1, ⟨cs, i, b, m, n, hh, hc, nch, i0, b0, z0⟩, q⟩ := h
  refine ⟨_, (Evl.pss_cut (ps_if (PW.pt (pw_and (pt_cmpR op_eq (pe_ix ix_list (pv 0) pe_int (fun _ _ => rfl)) pe_int (nomark _)) (pw_and1 (pt_cmpR op_lt (pe_ix ix_list (pv 0) pe_int (fun _ _ => rfl)) (pe_callB call_len_seq (by rfl) T.g_len PySem.boot_len (pa_cons (pe_ix ix_list (pv 0) pe_int (fun _ _ => rfl)) pa_nil)) (nomark _)))))
      (pss_cons (ps_set (i := 2) sc_l_draw.nd rfl (.inl rfl) (pe_ix ix_seq (pe_ix ix_list (pv 0) pe_int (fun _ _ => rfl)) (pe_ix ix_list (pv 0) pe_int (fun _ _ => rfl)) (fun _ _ => rfl)))
        (pss_cons (ps_asg (pe_op op_add (pe_ix ix_list (pv 0) pe_int (fun _ _ => rfl)) pe_int) (pg_sub (pv 0) pe_int set_list))
        (pss_cons (ps_asg (pe_op op_mod (pe_callTy call_int1 (by rfl) T.g_int (by decide +kernel) (pa_cons (pe_op op_add (pe_op op_add (pe_op op_mul (pe_ix ix_list (pv 0) pe_int (fun _ _ => rfl)) pe_int) (pv 2)) pe_int) pa_nil)) pe_int) (pg_sub (pv 0) pe_int set_list))
        (pss_one (ps_if (pt_cmpR op_ge (pv 2) (pe_op op_pow pe_int pe_int) (nomark _))
          (pss_one (ps_asg (pv 2) (pg_sub (pv 0) pe_int set_list)))
          pss_nil)))))
      pss_nil)
    (pss_cons (ps_if (pt_cmpR op_gt (pe_ix ix_list (pv 0) pe_int (fun _ _ => rfl)) pe_int (nomark _))
      (pss_cons (ps_set (i := 3) sc_l_draw.nd rfl (.inl rfl) (pe_op op_mod (pe_callTy call_int1 (by rfl) T.g_int (by decide +kernel) (pa_cons (pe_ix ix_list (pv 0) pe_int (fun _ _ => rfl)) pa_nil)) (pv 1)))
        (pss_cons (ps_asg (pe_op op_fdiv (pe_ix ix_list (pv 0) pe_int (fun _ _ => rfl)) (pv 1)) (pg_sub (pv 0) pe_int set_list))
        (pss_one (ps_ret (pv 3)))))
      pss_nil)
    (pss_cons (ps_asg (pe_op op_add (pe_ix ix_list (pv 0) pe_int (fun _ _ => rfl)) pe_int) (pg_sub (pv 0) pe_int set_list))
    (pss_cons (ps_set (i := 4) sc_l_draw.nd rfl (.inl rfl) (pe_op op_mod (pe_callTy call_int1 (by rfl) T.g_int (by decide +kernel) (pa_cons (pe_op op_mul (pe_callTy call_int1 (by rfl) T.g_int (by decide +kernel) (pa_cons (pe_op op_add (pe_ix ix_list (pv 0) pe_int (fun _ _ => rfl)) (pe_op op_mul pe_int (pe_ix ix_list (pv 0) pe_int (fun _ _ => rfl)))) pa_nil)) pe_int) pa_nil)) pe_int))
    (pss_cons (ps_set (i := 4) sc_l_draw.nd rfl (.inl rfl) (pe_op op_mod (pe_callTy call_int1 (by rfl) T.g_int (by decide +kernel) (pa_cons (pe_op op_mul (pv 4) (pe_op op_add (pe_op op_fdiv (pv 4) pe_int) pe_int)) pa_nil)) pe_int))
    (pss_cons (ps_set (i := 4) sc_l_draw.nd rfl (.inl rfl) (pe_op op_mod (pe_callTy call_int1 (by rfl) T.g_int (by decide +kernel) (pa_cons (pe_op op_mul (pv 4) (pe_op op_add (pe_op op_fdiv (pv 4) pe_int) pe_int)) pa_nil)) pe_int))
    (pss_one (ps_ret (pe_op op_mod (pe_callTy call_int1 (by rfl) T.g_int (by decide +kernel) (pa_cons (pe_op op_fdiv (pv 4) pe_int) pa_nil)) (pv 1)))))))))), ?_⟩
  refine ⟨fun σ' H' => ∃ y2, σ' = [some (.ref h), some (.int many), y2, none, none] ∧ Kp h H H' ∧ HandAt H' h c, ?_, ?_⟩
  · have a0 : HandAt H h c := .of hh hc nch i0 b0 z0
    refine ⟨_, rfl, h, _, 2, _, rfl, rfl, SqL.of hh, atI_nat (j := 2) rfl, rfl, _, rfl, ite2 (fun e => ?_) (fun e => ?_)⟩
    · refine ⟨_, rfl, h, _, 1, _, rfl, rfl, SqL.of hh, atI_nat (j := 1) rfl, _, rfl, h, _, 0, _, rfl, rfl, SqL.of hh, atI_nat (j := 0) rfl, c, _, rfl, .inl (SqL.of hc), i, _, rfl, rfl, _, rfl, ?_⟩
      refine ite2 (fun e2 => ?_) (fun e2 => ?_)
      · have lt : i < ((cs.length : Nat) : Int) := by
          have q1 := of_decide_eq_true e2
          rw [List.length_map] at q1
          exact q1
        obtain ⟨z, hz, hat⟩ := at_in i0 lt
        have zz := z0 z hz
        -- cell = ..
        refine ⟨_, rfl, h, _, 0, _, rfl, rfl, SqL.of hh, atI_nat (j := 0) rfl, _, rfl, h, _, 1, _, rfl, rfl, SqL.of hh, atI_nat (j := 1) rfl, .inl ⟨c, _, i, _, rfl, rfl, SqL.of hc, hat, ?_⟩⟩
        -- the next one's place
        refine ⟨_, rfl, h, _, 1, _, rfl, rfl, SqL.of hh, atI_nat (j := 1) rfl, i, 1, rfl, rfl, _, rfl, h, _, 1, 1, rfl, rfl, hh, rfl, ?_⟩
        -- the mix
        refine ⟨_, rfl, h, _, 3, _, rfl, rfl, SqL.of upd_same, atI_nat (j := 3) rfl, m, 69621, rfl, rfl, .inr ⟨by decide, by decide⟩, _, rfl, _, z, rfl, rfl, _, 11, rfl, rfl, .inl ⟨_, rfl, _, 2147483629, rfl, rfl, pos_of (by decide), ?_⟩⟩
        refine ⟨_, rfl, h, _, 3, 3, rfl, rfl, upd_same, rfl, ?_⟩
        -- a great cell
        refine ⟨_, rfl, 10, 18, rfl, rfl, ⟨by decide, by decide, by decide⟩, z, _, rfl, rfl, _, rfl, ite2 (fun e3 => ?_) (fun e3 => ?_)⟩
        · refine ⟨_, rfl, _, rfl, h, _, 2, 2, rfl, rfl, upd_same, rfl, ?_⟩
          refine ⟨_, rfl, (((Kp.refl h H).upd).upd).upd, .of upd_same ?_ nch ?_ zz z0⟩
          · rw [upd_ne nch, upd_ne nch, upd_ne nch]
            exact hc
          · omega
        · refine ⟨_, rfl, ((Kp.refl h H).upd).upd, .of upd_same ?_ nch ?_ b0 z0⟩
          · rw [upd_ne nch, upd_ne nch]
            exact hc
          · omega
      · exact ⟨_, rfl, Kp.refl h H, a0⟩
    · refine iteF ?_
      exact ⟨_, rfl, Kp.refl h H, a0⟩
  · intro σ' H1 ⟨y2, e, k1, a1⟩
    subst e
    clear hh hc nch i0 b0 z0
    obtain ⟨cs, i, b, m, n, hh, hc, nch, i0, b0, z0⟩ := a1
    refine ⟨_, rfl, h, _, 2, _, rfl, rfl, SqL.of hh, atI_nat (j := 2) rfl, b, 0, rfl, rfl, _, rfl, ite2 (fun e => ?_) (fun e => ?_)⟩
    · refine ⟨_, rfl, h, _, 2, _, rfl, rfl, SqL.of hh, atI_nat (j := 2) rfl, .inl ⟨b, rfl, _, rfl, b, many, rfl, rfl, m0, ?_⟩⟩
      refine ⟨_, rfl, h, _, 2, _, rfl, rfl, SqL.of hh, atI_nat (j := 2) rfl, _, rfl, b, many, rfl, rfl, ⟨m0, m1⟩, _, rfl, h, _, 2, 2, rfl, rfl, hh, rfl, ?_⟩
      refine ⟨_, rfl, q (b % many) _ (Int.emod_nonneg _ (by omega)) (Int.emod_lt_of_pos _ m0) k1.upd (.of upd_same ?_ nch i0 (Int.ediv_nonneg b0 (by omega)) z0)⟩
      rw [upd_ne nch]
      exact hc
    · refine ⟨_, rfl, h, _, 4, _, rfl, rfl, SqL.of hh, atI_nat (j := 4) rfl, n, 1, rfl, rfl, _, rfl, h, _, 4, 4, rfl, rfl, hh, rfl, ?_⟩
      have k2 := k1.upd (o := .lst [.ref c, .int i, .int b, .int m, .int (n + 1)])
      have a2 : HandAt (upd H1 h (.lst [.ref c, .int i, .int b, .int m, .int (n + 1)])) h c := .of upd_same (by rw [upd_ne nch]; exact hc) nch i0 b0 z0
      refine ⟨_, rfl, h, _, 3, _, rfl, rfl, SqL.of upd_same, atI_nat (j := 3) rfl, _, rfl, h, _, 4, _, rfl, rfl, SqL.of upd_same, atI_nat (j := 4) rfl, 7919, n + 1, rfl, rfl, .inl ⟨by decide, by decide⟩, m, _, rfl, rfl,
        .inl ⟨_, rfl, _, 48271, rfl, rfl, .inr ⟨by decide, by decide⟩, .inl ⟨_, rfl, _, 2147483647, rfl, rfl, pos_of (by decide), ?_⟩⟩⟩
      refine ⟨_, rfl, _, rfl, _, 1009, rfl, rfl, ⟨by decide, by decide⟩, _, 69621, rfl, rfl, _, _, rfl, rfl, .inl (m31 (by decide) (by decide)), .inl ⟨_, rfl, _, 2147483647, rfl, rfl, pos_of (by decide), ?_⟩⟩
      refine ⟨_, rfl, _, rfl, _, 2003, rfl, rfl, ⟨by decide, by decide⟩, _, 40692, rfl, rfl, _, _, rfl, rfl, .inl (m31 (by decide) (by decide)), .inl ⟨_, rfl, _, 2147483399, rfl, rfl, pos_of (by decide), ?_⟩⟩
      refine ⟨_, rfl, _, 16, rfl, rfl, ⟨by decide, by decide⟩, .inl ⟨_, rfl, _, rfl, _, many, rfl, rfl, m0, ?_⟩⟩
      exact q _ _ (Int.emod_nonneg _ (by omega)) (Int.emod_lt_of_pos _ m0) k2 a2
/-! ### the hand, one of some -/
def spSome (K : PySem.W.Frag) : Sp := fun vs H Q _ => ∃ (h c a : Addr) (xs : List V), vs = [.ref h, .ref a] ∧ (SqL K H a xs ∨ SqT K H a xs) ∧ a ≠ h ∧ 0 < xs.length ∧ xs.length < 1000000 ∧ HandAt H h c ∧
  ∀ v H', v ∈ xs → Kp h H H' → HandAt H' h c → Q v H'
theorem Kp.seqL {h : Addr} {H H' : Hp} {a : Addr} {xs : List V} (k : Kp h H H') (n : a ≠ h) (e : SqL K H a xs) : SqL K H' a xs := by
  rcases e with (e | ⟨o, e⟩) | e
  · exact .inl (.inl (k _ _ n e))
  · exact .inl (.inr ⟨o, k _ _ n e⟩)
  · exact .inr e
theorem Kp.seqT {h : Addr} {H H' : Hp} {a : Addr} {xs : List V} (k : Kp h H H') (n : a ≠ h) (e : SqT K H a xs) : SqT K H' a xs := by
  rcases e with (e | ⟨o, e⟩) | e
  · exact .inl (.inl (k _ _ n e))
  · exact .inl (.inr ⟨o, k _ _ n e⟩)
  · exact .inr e
theorem ok_l_any (T : Tx K mg) : FnOk P w K mg base CX0 2 T.f_l_any T.d_l_any ["hand", "some"] (spSome K) := by
  refine T.F_l_any.ok sc_l_any (fun vs H Q E h => ?_) (fun cdv A outer s H vs Q E hr h => ?_)
  · obtain ⟨h, c, a, xs, rfl, _⟩ := h
    rfl
  obtain ⟨h, c, a, xs, rfl, ha, nah, l0, l1, hd, q⟩ := h
  refine ⟨_, (pss_one (ps_ret (pe_ix ix_seq (pv 1) (pe_call (ok_l_draw T) (hr.mono (by decide)) (by rfl) T.m_l_draw T.F_l_draw.kp T.b_l_draw .nil pass0 (pa_cons (pv 0) (pa_cons (pe_callB call_len_seq (by rfl) T.g_len PySem.boot_len (pa_cons (pv 1) pa_nil)) pa_nil))) (fun _ _ => rfl)))), ?_⟩
  refine ⟨_, rfl, _, rfl, _, rfl, a, xs, rfl, ha, h, c, _, rfl, by omega, by omega, hd, fun d H' d0 d1 k hd' => ?_⟩
  obtain ⟨j, rfl⟩ := Int.eq_ofNat_of_zero_le d0
  have lj : j < xs.length := by omega
  rcases ha with ha | ha
  · exact .inl ⟨a, xs, _, _, rfl, rfl, k.seqL nah ha, atI_nat (List.getElem?_eq_getElem lj), q _ _ (List.getElem_mem lj) k hd'⟩
  · exact .inr (.inl ⟨a, xs, _, _, rfl, rfl, k.seqT nah ha, atI_nat (List.getElem?_eq_getElem lj), q _ _ (List.getElem_mem lj) k hd'⟩)
def ab (i : Int) : Int := if i < 0 then -i else i
def spHand (K : PySem.W.Frag) : Sp := fun vs H Q _ => ∃ (a : Addr) (ns : List Int), vs = [.ref a] ∧ SqL K H a (ns.map V.int) ∧ ns.length ≤ 63 ∧ ∀ h c H', H h = none → H c = none → Same H H' → HandAt H' h c → Q (.ref h) H'
theorem ok_l_hand (T : Tx K mg) : FnOk P w K mg base CX0 1 T.f_l_hand T.d_l_hand ["script"] (spHand K) := by
  refine T.F_l_hand.ok sc_l_hand (fun vs H Q E h => ?_) (fun cdv A outer s H vs Q E hr h => ?_)
  · obtain ⟨a, ns, rfl, _⟩ := h
    rfl
  obtain ⟨a, ns, rfl, ha, hl, q⟩ := h
  refine ⟨_, (pss_cons (ps_setLc (i := 1) (own := [("cell", 2)]) (g := (gName 2)) (tt := tYes) (te := (tCB _ (tCons (tCB _ (tCons (tVar 2) tNil)) tNil))) rfl sc_l_hand.nd rfl rfl (sw_true rfl rfl rfl (by decide +kernel)) (pi_list (pe_slice sl_list (pv 0) po_none (po_some pe_int))) (blkOk_by (own := [("cell", 2)]) (N := N_l_hand) (sc := defScope s_l_hand) (by decide +kernel)) (fun _ _ _ _ _ => (pg_name (i := 2) sc_l_hand.nd rfl (.inl rfl))) (fun _ _ _ _ _ => pts_nil) (fun _ _ _ _ _ => (pe_callB call_abs (by rfl) T.g_abs (by decide +kernel) (pa_cons (pe_callTy call_int1 (by rfl) T.g_int (by decide +kernel) (pa_cons (pv 2) pa_nil)) pa_nil))))
    (pss_one (ps_ret (pe_lst (pa_cons (pv 1) (pa_cons pe_int (pa_cons pe_int (pa_cons (pe_op op_add pe_int (pe_callB call_len_seq (by rfl) T.g_len PySem.boot_len (pa_cons (pv 1) pa_nil))) (pa_cons pe_int pa_nil))))))))), ?_⟩
  refine ⟨_, rfl, 63, rfl, a, _, rfl, ha, fun p np => ?_⟩
  have s1 : Same H (upd H p (.lst (cutV (ns.map V.int) none (some 63)))) := same_new np _
  have hp : (upd H p (.lst (cutV (ns.map V.int) none (some 63)))) p = some (.lst (ns.map V.int)) := by
    rw [upd_same, cut_hi _ _ (by decide), List.take_of_length_le (by rw [List.length_map]; exact hl)]
  refine ⟨p, rfl, ⟨_, SqL.of hp⟩, fun D nD => lc_list (xs := ns.map V.int) (fun i H' => Same H H' ∧ H' p = some (.lst (ns.map V.int)) ∧ H' D = some (.lst (((ns.take i).map ab).map V.int))) ?_ (fun i H' _ ⟨_, hp', _⟩ => SqL.of hp') ?_ ?_⟩
  · exact ⟨s1.trans (same_new nD _), same_new nD _ _ _ hp, upd_same⟩
  · intro i y H' hi ⟨sm, hp', hD⟩
    have li : i < ns.length := by
      have q1 := (List.getElem?_eq_some_iff.mp hi).1
      rw [List.length_map] at q1
      exact q1
    have ey : y = .int ns[i] := by
      rw [List.getElem?_map, List.getElem?_eq_getElem li] at hi
      exact (Option.some.inj hi).symm
    subst ey
    refine ⟨rfl, ?_⟩
    refine ⟨_, rfl, .inl ⟨_, rfl, _, rfl, _, hD, small1000 ?_, fun b o hb => ?_, ?_, ?_⟩⟩
    · rw [List.length_map, List.length_map, List.length_take]
      omega
    · rw [upd_ne (ne_of_none hb (s1.free nD))]
      exact sm _ _ hb
    · rw [upd_ne (ne_of_none hp nD)]
      exact hp'
    · rw [upd_same, List.take_add_one, List.getElem?_eq_getElem li, List.map_append, List.map_append]
      rfl
  · intro H' ⟨sm, hp', hD⟩
    rw [List.length_map, List.take_of_length_le (Nat.le_refl _)] at hD
    have nDn : H D = none := s1.free nD
    refine ⟨_, rfl, _, rfl, D, _, rfl, .inl (SqL.of hD), 41, _, rfl, rfl, (by show 5 ≤ sizeLine; decide), fun h nh => ?_⟩
    have nDh : D ≠ h := ne_of_none hD nh
    refine q h D _ (sm.free nh) nDn (sm.trans (same_new nh _)) (.of (c := D) (cs := ns.map ab) upd_same (by rw [upd_ne nDh]; exact hD) nDh (by decide) (by decide) fun z hz => ?_)
    obtain ⟨y, _, ez⟩ := List.mem_map.mp hz
    rw [← ez]
    unfold ab
    split <;> omega
end
end K17
set_option Elab.async false
set_option linter.all false
set_option maxRecDepth 100000
set_option maxHeartbeats 8000000
/-! Things drawn: great numbers, deep things; the law's own sum. -/
namespace K17
open PySem L2 Rl
theorem mint {l : List Int} {i : Nat} {y : V} (h : (l.map V.int)[i]? = some y) : ∃ k, l[i]? = some k ∧ y = .int k := by
  rw [List.getElem?_map] at h
  cases e : l[i]? with
  | none => rw [e] at h; cases h
  | some k =>
    rw [e] at h
    exact ⟨k, rfl, (Option.some.inj h).symm⟩
theorem HandAt.lst {H : Hp} {h c : Addr} (hd : HandAt H h c) : ∃ l, H h = some (.lst l) := by
  obtain ⟨cs, i, b, m, n, h1, _⟩ := hd.ex
  exact ⟨_, h1⟩
theorem HandAt.ne {H : Hp} {h c D : Addr} (hd : HandAt H h c) (nD : H D = none) : D ≠ h ∧ D ≠ c := by
  obtain ⟨cs, i, b, m, n, h1, h2, _⟩ := hd.ex
  exact ⟨(ne_of_none h1 nD).symm, (ne_of_none h2 nD).symm⟩
theorem HandAt.tne {H : Hp} {h c a : Addr} {xs : List V} (hd : HandAt H h c) (ha : H a = some (.tup xs)) : a ≠ h := by
  obtain ⟨l, hl⟩ := hd.lst
  exact ne_of ha hl (by intro z; cases z)
theorem tyO_kp {K : PySem.W.Frag} {h : Addr} {H H' : Hp} (e : Kp h H H') {x : V} {t : Value} (nx : x ≠ .ref h) (q : TyOf K H x t) : TyOf K H' x t := by
  have na : ∀ {a : Addr}, V.ref a ≠ V.ref h → a ≠ h := fun z y => z (by rw [y])
  cases q with
  | non => exact .non
  | bl b => exact .bl b
  | int i => exact .int i
  | str z => exact .str z
  | flt z => exact .flt z
  | lst q => exact .lst (e _ _ (na nx) q)
  | frz q => exact .frz (e _ _ (na nx) q)
  | tup q => exact .tup (e _ _ (na nx) q)
  | dK q => exact .dK (e _ _ (na nx) q)
  | dT q => exact .dT (e _ _ (na nx) q)
  | ins q cl ha hn htk hm => exact .ins (e _ _ (na nx) q) cl ha hn htk hm
/-- what is typed by the heap stands at an address that holds something -/
theorem tyO_ne {K : PySem.W.Frag} {H : Hp} {S : Addr} {x : V} {t : Value} (n : H S = none) (q : TyOf K H x t) : x ≠ .ref S := by
  intro z
  subst z
  cases q with
  | lst q => rw [n] at q; cases q
  | frz q => rw [n] at q; cases q
  | tup q => rw [n] at q; cases q
  | dK q => rw [n] at q; cases q
  | dT q => rw [n] at q; cases q
  | ins q => rw [n] at q; cases q
theorem Kd.kp {K : PySem.W.Frag} {h : Addr} {H H' : Hp} (e : Kp h H H') {x : V} {i b t : Bool} (nx : x ≠ .ref h) (k : Kd K H x i b t) : Kd K H' x i b t := by
  obtain ⟨c, ty, h1⟩ := k.ex
  exact ⟨c, tyO_kp e nx ty, h1⟩
/-- a thing that is no integer -/
def Od (K : PySem.W.Frag) (H : Hp) (h : Addr) (x : V) : Prop := x ≠ .ref h ∧ ∃ i b t, Kd K H x i b t ∧ (i && !b) = false
/-- a thing that is no tuple of at most 64 integers -/
def Bd (K : PySem.W.Frag) (H : Hp) (h : Addr) (x : V) : Prop := x ≠ .ref h ∧ ((∃ i b, Kd K H x i b false) ∨
  ∃ (a : Addr) (xs : List V) (f : V → Bool), x = .ref a ∧ (∃ i b, Kd K H x i b true) ∧ H a = some (.tup xs) ∧ xs.length ≤ 1000 ∧ (∀ y ∈ xs, y ≠ .ref h ∧ ∃ i b t, Kd K H y i b t ∧ f y = (i && !b)) ∧ (xs.all f = false ∨ 64 < xs.length))
theorem Bd.bad {K : PySem.W.Frag} {H : Hp} {h : Addr} {x : V} (q : Bd K H h x) : BadN K H x := by
  rcases q.2 with q | ⟨a, xs, f, e, k, s, l, hf, no⟩
  · exact .inl q
  · exact .inr ⟨a, xs, f, e, k, s, l, fun y hy => (hf y hy).2, no⟩
theorem Od.kp {K : PySem.W.Frag} {h : Addr} {H H' : Hp} (e : Kp h H H') {x : V} (q : Od K H h x) : Od K H' h x := by
  obtain ⟨nx, i, b, t, k, no⟩ := q
  exact ⟨nx, i, b, t, k.kp e nx, no⟩
theorem Bd.kp {K : PySem.W.Frag} {h : Addr} {H H' : Hp} (e : Kp h H H') {x : V} (q : Bd K H h x) : Bd K H' h x := by
  obtain ⟨nx, q⟩ := q
  refine ⟨nx, ?_⟩
  rcases q with ⟨i, b, k⟩ | ⟨a, xs, f, ex, ⟨i, b, k⟩, s, l, hf, no⟩
  · exact .inl ⟨i, b, k.kp e nx⟩
  · refine .inr ⟨a, xs, f, ex, ⟨i, b, k.kp e nx⟩, e _ _ (fun z => nx (by rw [ex, z])) s, l, fun y hy => ?_, no⟩
    obtain ⟨ny, i, b, t, k, ef⟩ := hf y hy
    exact ⟨ny, i, b, t, k.kp e ny, ef⟩
theorem kd_tup {K : PySem.W.Frag} {H : Hp} {a : Addr} {xs : List V} (h : H a = some (.tup xs)) : Kd K H (.ref a) false false true := ⟨_, .tup h, kit_ty (by decide +kernel), kit_ty (by decide +kernel), kit_ty (by decide +kernel)⟩
theorem kd_lst {K : PySem.W.Frag} {H : Hp} {a : Addr} {xs : List V} (h : H a = some (.lst xs)) : Kd K H (.ref a) false false false := ⟨_, .lst h, kit_ty (by decide +kernel), kit_ty (by decide +kernel), kit_ty (by decide +kernel)⟩
theorem kd_non {K : PySem.W.Frag} {H : Hp} : Kd K H .non false false false := ⟨_, .non, kit_ty (by decide +kernel), kit_ty (by decide +kernel), kit_ty (by decide +kernel)⟩
theorem kd_bl {K : PySem.W.Frag} {H : Hp} (b : Bool) : Kd K H (.bl b) true true false := ⟨_, .bl b, kit_ty (by decide +kernel), kit_ty (by decide +kernel), kit_ty (by decide +kernel)⟩
theorem kd_str {K : PySem.W.Frag} {H : Hp} (z : Str) : Kd K H (.str z) false false false := ⟨_, .str z, kit_ty (by decide +kernel), kit_ty (by decide +kernel), kit_ty (by decide +kernel)⟩
theorem kd_dict {K : PySem.W.Frag} {H : Hp} {a : Addr} {kvs : List (Key × V)} (h : H a = some (.dK kvs)) : Kd K H (.ref a) false false false := ⟨_, .dK h, kit_ty (by decide +kernel), kit_ty (by decide +kernel), kit_ty (by decide +kernel)⟩
theorem Kd.ne {K : PySem.W.Frag} {H : Hp} {S : Addr} {x : V} {i b t : Bool} (n : H S = none) (k : Kd K H x i b t) : x ≠ .ref S := by
  obtain ⟨c, ty, _⟩ := k.ex
  exact tyO_ne n ty
theorem Od.kp2 {K : PySem.W.Frag} {h s : Addr} {H H' : Hp} (e : Kp h H H') {x : V} (a : Od K H h x) (b : Od K H s x) : Od K H' s x := ⟨b.1, (a.kp e).2⟩
theorem Bd.kp2 {K : PySem.W.Frag} {h s : Addr} {H H' : Hp} (e : Kp h H H') {x : V} (p : Bd K H h x) (q : Bd K H s x) : Bd K H' s x := by
  refine ⟨q.1, ?_⟩
  have nx := p.1
  rcases q.2 with ⟨i, b, k⟩ | ⟨a, xs, f, ex, ⟨i, b, k⟩, ha, l, hf, no⟩
  · exact .inl ⟨i, b, k.kp e nx⟩
  · rcases p.2 with ⟨i', b', k'⟩ | ⟨a', xs', f', ex', _, ha', _, hf', _⟩
    · exact .inl ⟨i', b', k'.kp e nx⟩
    · have ea : a = a' := V.ref.inj (ex.symm.trans ex')
      subst ea
      rw [ha] at ha'
      have exs : xs = xs' := HO.tup.inj (Option.some.inj ha')
      subst exs
      refine .inr ⟨a, xs, f, ex, ⟨i, b, k.kp e nx⟩, e _ _ (fun z => nx (by rw [ex, z])) ha, l, fun y hy => ?_, no⟩
      obtain ⟨ny, i2, b2, t2, k2, ef⟩ := hf y hy
      exact ⟨ny, i2, b2, t2, k2.kp e (hf' y hy).1, ef⟩
/-- nothing of it stands at a free address -/
theorem Od.free {K : PySem.W.Frag} {h S : Addr} {H : Hp} {x : V} (n : H S = none) (a : Od K H h x) : Od K H S x := by
  obtain ⟨_, i, b, t, k, no⟩ := a
  exact ⟨k.ne n, i, b, t, k, no⟩
theorem Bd.free {K : PySem.W.Frag} {h S : Addr} {H : Hp} {x : V} (n : H S = none) (p : Bd K H h x) : Bd K H S x := by
  rcases p.2 with ⟨i, b, k⟩ | ⟨a, xs, f, ex, ⟨i, b, k⟩, ha, l, hf, no⟩
  · exact ⟨k.ne n, .inl ⟨i, b, k⟩⟩
  · refine ⟨k.ne n, .inr ⟨a, xs, f, ex, ⟨i, b, k⟩, ha, l, fun y hy => ?_, no⟩⟩
    obtain ⟨_, i2, b2, t2, k2, ef⟩ := hf y hy
    exact ⟨k2.ne n, i2, b2, t2, k2, ef⟩
/-- a store at S leaves what does not stand there -/
theorem kp_set {S : Addr} {H : Hp} {o : HO} : Kp S H (upd H S o) := fun b u n e => by rw [upd_ne n]; exact e
theorem Kp.gone {h c D : Addr} {H H' : Hp} (k : Kp h H H') (hd : HandAt H' h c) (nD : H' D = none) : H D = none := by
  cases e : H D with
  | none => rfl
  | some o =>
    rw [k _ _ (hd.ne nD).1 e] at nD
    cases nD
def spGreat : Sp := fun vs H Q _ => ∃ (h c : Addr), vs = [.ref h] ∧ HandAt H h c ∧ ∀ v H', bits v 70 → Kp h H H' → HandAt H' h c → Q (.int v) H'
def spLSum (K : PySem.W.Frag) : Sp := fun vs H Q _ => ∃ (a : Addr) (q : Int) (ns : List Int), vs = [.ref a, .int q] ∧ SqT K H a (ns.map V.int) ∧ ns.length ≤ 1000 ∧ bits q 70 ∧ (∀ n ∈ ns, bits n 70) ∧ ∀ H', Same H H' → Q (.int (wsum ns q)) H'
def spDeep (K : PySem.W.Frag) : Sp := fun vs H Q _ => ∃ (h c : Addr), vs = [.ref h] ∧ HandAt H h c ∧ ∀ x H', (∀ s, (s = h ∨ H s ≠ none) → Od K H' s x ∧ Bd K H' s x) → Kp h H H' → HandAt H' h c → Q x H'
section
variable {P : Program} {w : World} {K : PySem.W.Frag} {mg : Str → Option Value} {base : Heap}
theorem ok_l_great (T : Tx K mg) : FnOk P w K mg base CX0 3 T.f_l_great T.d_l_great ["hand"] spGreat := by
  refine T.F_l_great.ok sc_l_great (fun vs H Q E h => ?_) (fun cdv A outer s H vs Q E hr h => ?_)
  · obtain ⟨h, c, rfl, _⟩ := h
    rfl
  obtain ⟨h, c, rfl, hd, q⟩ := h
  refine ⟨_, (pss_cons (ps_par (i := 1) (j := 2) rfl sc_l_great.nd rfl rfl (by decide) rfl rfl (pa_cons (pe_call (ok_l_draw T) (hr.mono (by decide)) (by rfl) T.m_l_draw T.F_l_draw.kp T.b_l_draw .nil pass0 (pa_cons (pv 0) (pa_cons pe_int pa_nil))) (pa_cons (pe_call (ok_l_draw T) (hr.mono (by decide)) (by rfl) T.m_l_draw T.F_l_draw.kp T.b_l_draw .nil pass0 (pa_cons (pv 0) (pa_cons (pe_op op_pow pe_int pe_int) pa_nil))) pa_nil)) (by rfl))
    (pss_cons (ps_if (pt_cmpR op_lt (pv 1) pe_int (nomark _))
      (pss_one (ps_ret (pe_call (ok_l_any T) (hr.mono (by decide)) (by rfl) T.m_l_any T.F_l_any.kp T.b_l_any .nil pass0 (pa_cons (pv 0) (pa_cons (pe_lst (pa_cons pe_int (pa_cons pe_int (pa_cons pe_int (pa_cons (pe_un un_neg pe_int) (pa_cons pe_int (pa_cons (pe_un un_neg pe_int) (pa_cons pe_int pa_nil)))))))) pa_nil)))))
      pss_nil)
    (pss_cons (ps_if (pt_cmpR op_eq (pv 1) pe_int (nomark _))
      (pss_one (ps_ret (pe_op op_sub (pv 2) (pe_op op_pow pe_int pe_int))))
      pss_nil)
    (pss_one (ps_ret (pe_call (ok_l_any T) (hr.mono (by decide)) (by rfl) T.m_l_any T.F_l_any.kp T.b_l_any .nil pass0 (pa_cons (pv 0) (pa_cons (pe_lst (pa_cons (pe_op op_sub (pe_op op_pow pe_int pe_int) pe_int) (pa_cons (pe_op op_sub pe_int (pe_op op_pow pe_int pe_int)) (pa_cons (pe_op op_add (pe_op op_pow pe_int pe_int) (pv 2)) (pa_cons (pe_op op_sub (pe_un un_neg pe_int) (pe_op op_mul (pv 2) (pe_op op_pow pe_int pe_int))) pa_nil))))) pa_nil)))))))), ?_⟩
  refine ⟨_, rfl, h, c, _, rfl, by omega, by omega, hd, fun k H1 k0 k1 kk1 hd1 => ?_⟩
  refine ⟨_, rfl, 10, 9, rfl, rfl, ⟨by decide, by decide, by decide⟩, h, c, _, rfl, by decide, by decide, hd1, fun n H2 n0 n1 kk2 hd2 => ⟨_, _, rfl, ?_⟩⟩
  have kk := kk1.trans kk2
  have n1 : n < 1000000000 := n1
  have small : ∀ {v : Int}, -(2 ^ 69) < v → v < 2 ^ 69 → bits v 70 := fun {v} a b => by unfold bits; omega
  refine ⟨_, rfl, _, 3, rfl, rfl, _, rfl, ite2 (fun e => ?_) (fun e => ?_)⟩
  · refine ⟨_, rfl, 1, rfl, 3, rfl, (by show 7 ≤ sizeLine; decide), fun G nG => ?_⟩
    refine ⟨h, c, G, _, rfl, .inl (SqL.of upd_same), (hd2.ne nG).1, by show 0 < 7; decide, by show 7 < 1000000; decide, hd2.same (same_new nG _), fun v H3 hv k3 hd3 => ?_⟩
    obtain ⟨i, rfl, i0, i1⟩ : ∃ i : Int, v = .int i ∧ -10 ≤ i ∧ i ≤ 10 := by
      simp only [List.mem_cons, List.not_mem_nil, or_false] at hv
      rcases hv with e | e | e | e | e | e | e <;> subst e
      · exact ⟨0, rfl, by decide, by decide⟩
      · exact ⟨0, rfl, by decide, by decide⟩
      · exact ⟨1, rfl, by decide, by decide⟩
      · exact ⟨-1, rfl, by decide, by decide⟩
      · exact ⟨2, rfl, by decide, by decide⟩
      · exact ⟨-3, rfl, by decide, by decide⟩
      · exact ⟨7, rfl, by decide, by decide⟩
    exact q i H3 (small (by omega) (by omega)) (kk.trans ((Same.kp (same_new nG _)).trans k3)) hd3
  · refine ⟨_, rfl, rfl, _, rfl, ite2 (fun e => ?_) (fun e => ?_)⟩
    · refine ⟨_, rfl, 10, 8, rfl, rfl, ⟨by decide, by decide, by decide⟩, _, _, rfl, rfl, ?_⟩
      have e8 : (10 : Int) ^ (8 : Int).toNat = 100000000 := by decide
      rw [e8]
      exact q _ H2 (small (by omega) (by omega)) kk hd2
    · refine ⟨_, rfl, 10, 20, rfl, rfl, ⟨by decide, by decide, by decide⟩, _, 1, rfl, rfl, 10, 20, rfl, rfl, ⟨by decide, by decide, by decide⟩, 1, _, rfl, rfl, 10, 10, rfl, rfl, ⟨by decide, by decide, by decide⟩, _, rfl, _, n, rfl, rfl, 1, rfl, _, rfl, 10, 11, rfl, rfl, ⟨by decide, by decide, by decide⟩, n, _, rfl, rfl, .inl ⟨by omega, by omega⟩, _, _, rfl, rfl, (by show 4 ≤ sizeLine; decide), fun G nG => ?_⟩
      have p20 : (10 : Int) ^ (20 : Int).toNat = 100000000000000000000 := by decide
      have p10 : (10 : Int) ^ (10 : Int).toNat = 10000000000 := by decide
      have p11 : (10 : Int) ^ (11 : Int).toNat = 100000000000 := by decide
      refine ⟨h, c, G, _, rfl, .inl (SqL.of upd_same), (hd2.ne nG).1, by show 0 < 4; decide, by show 4 < 1000000; decide, hd2.same (same_new nG _), fun v H3 hv k3 hd3 => ?_⟩
      obtain ⟨i, rfl, ib⟩ : ∃ i : Int, v = .int i ∧ bits i 70 := by
        simp only [List.mem_cons, List.not_mem_nil, or_false] at hv
        rcases hv with e | e | e | e <;> subst e
        · exact ⟨_, rfl, small (by rw [p20]; omega) (by rw [p20]; omega)⟩
        · exact ⟨_, rfl, small (by rw [p20]; omega) (by rw [p20]; omega)⟩
        · exact ⟨_, rfl, small (by rw [p10]; omega) (by rw [p10]; omega)⟩
        · exact ⟨_, rfl, small (by rw [p11]; omega) (by rw [p11]; omega)⟩
      exact q i H3 ib (kk.trans ((Same.kp (same_new nG _)).trans k3)) hd3
theorem ok_l_sum (T : Tx K mg) : FnOk P w K mg base CX0 1 T.f_l_sum T.d_l_sum ["numbers", "q"] (spLSum K) := by
  refine T.F_l_sum.ok sc_l_sum (fun vs H Q E h => ?_) (fun cdv A outer s H vs Q E hr h => ?_)
  · obtain ⟨a, z, ns, rfl, _⟩ := h
    rfl
  obtain ⟨a, z, ns, rfl, ha, l1000, hz, hn, q⟩ := h
  refine ⟨_, (pss_cons (ps_set (i := 2) sc_l_sum.nd rfl (.inl rfl) pe_int)
    (pss_cons (ps_for PassesOwn.never rfl (pi_tup (KR.pe_revT (pv 0))) (pg_name (i := 3) sc_l_sum.nd rfl (.inl rfl))
      (pss_one (ps_set (i := 2) sc_l_sum.nd rfl (.inl rfl) (pe_op op_add (pe_op op_mulW (pv 2) (pv 1)) (pv 3)))))
    (pss_one (ps_ret (pv 2))))), ?_⟩
  refine ⟨_, rfl, a, _, rfl, ha, fun p np => ?_⟩
  have s1 := same_new np (.tup (ns.map V.int).reverse)
  have hp : (L2.upd H p (.tup (ns.map V.int).reverse)) p = some (.tup (ns.map V.int).reverse) := upd_same
  generalize L2.upd H p (.tup (ns.map V.int).reverse) = H1 at *
  refine ⟨p, rfl, ⟨_, SqT.of hp⟩, for_tup (xs := (ns.map V.int).reverse) (fun i σ H' => ∃ y3, σ = [some (.ref a), some (.int z), some (.int (wpre ns z i)), y3] ∧ H' = H1 ∧ i ≤ ns.length) ⟨none, rfl, rfl, Nat.zero_le _⟩ (fun i σ H' _ ⟨_, _, e, _⟩ => by rw [e]; exact SqT.of hp) ?_ ?_⟩
  · intro i v σ H' hi ⟨y3, e, eH, li⟩
    subst e eH
    rw [← List.map_reverse] at hi
    obtain ⟨n, hg, ev⟩ := mint hi
    subst ev
    have li2 := (List.getElem?_eq_some_iff.mp hg).1
    rw [List.length_reverse] at li2
    have st := wpre_step (q := z) hg
    have bw := wpre_bits hz hn i li
    have l1 := log_bits bw (by omega)
    have l2 := log_bits hz (by decide)
    refine ⟨_, rfl, _, rfl, _, z, rfl, rfl, (show _ + _ < 1000000 by omega), _, rfl, _, n, rfl, rfl, ?_⟩
    exact ⟨_, by rw [st]; rfl, rfl, li2⟩
  · intro σ H' ⟨y3, e, eH, li⟩
    subst e eH
    refine ⟨_, rfl, ?_⟩
    have e2 : wpre ns z (ns.map V.int).reverse.length = wsum ns z := by
      unfold wpre wsum
      rw [List.take_of_length_le (by rw [List.length_reverse, List.length_reverse, List.length_map]; exact Nat.le_refl _)]
    rw [e2]
    exact q _ s1
end
end K17
set_option Elab.async false
set_option linter.all false
set_option maxRecDepth 100000
set_option maxHeartbeats 8000000
/-! Things that are no numbers. -/
namespace K17
open PySem L2 Rl
def Dp (K : PySem.W.Frag) (H : Hp) (h : Addr) (j : Nat) (x : V) : Prop := x ≠ .ref h ∧ (∃ i b t, Kd K H x i b t) ∧ (1 ≤ j → Od K H h x) ∧ (2 ≤ j → Bd K H h x)
theorem Dp.kp2 {K : PySem.W.Frag} {h s : Addr} {H H' : Hp} {j : Nat} (e : Kp h H H') {x : V} (p : Dp K H h j x) (q : Dp K H s j x) : Dp K H' s j x := by
  obtain ⟨nx, ⟨i, b, t, k⟩, o, d⟩ := p
  exact ⟨q.1, ⟨i, b, t, k.kp e nx⟩, fun l => (o l).kp2 e (q.2.2.1 l), fun l => (d l).kp2 e (q.2.2.2 l)⟩
theorem nref {a h : Addr} (n : a ≠ h) : V.ref a ≠ V.ref h := fun z => n (V.ref.inj z)
theorem od_of {K : PySem.W.Frag} {H : Hp} {h : Addr} {x : V} {b t : Bool} (n : x ≠ .ref h) (k : Kd K H x false b t) : Od K H h x := ⟨n, _, _, _, k, rfl⟩
theorem bd_of {K : PySem.W.Frag} {H : Hp} {h : Addr} {x : V} {i b : Bool} (n : x ≠ .ref h) (k : Kd K H x i b false) : Bd K H h x := ⟨n, .inl ⟨_, _, k⟩⟩
def fI : V → Bool := fun y => match y with
  | .int _ => true
  | _ => false
theorem od_no {K : PySem.W.Frag} {H : Hp} {h : Addr} {k : Int} (o : Od K H h (.int k)) : False := by
  obtain ⟨_, i, b, t, ⟨c, ty, h1, h2, _⟩, no⟩ := o
  cases ty with
  | int =>
    rw [kit_ty (r := true) (by decide +kernel)] at h1
    rw [kit_ty (r := false) (by decide +kernel)] at h2
    cases h1
    cases h2
    cases no
theorem fI_od {K : PySem.W.Frag} {H : Hp} {h : Addr} {x : V} (o : Od K H h x) : fI x = false := by
  cases x with
  | int k => exact (od_no o).elim
  | _ => rfl
/-- a tuple with an odd thing in it -/
theorem bd_mix {K : PySem.W.Frag} {H : Hp} {h a : Addr} {xs : List V} {x : V} (n : a ≠ h) (ha : H a = some (.tup xs)) (l : xs.length ≤ 1000) (o : Od K H h x) (hx : x ∈ xs) (hi : ∀ y ∈ xs, y = x ∨ ∃ k, y = .int k) : Bd K H h (.ref a) := by
  refine ⟨nref n, .inr ⟨a, xs, fI, rfl, ⟨_, _, kd_tup ha⟩, ha, l, fun y hy => ?_, .inl ?_⟩⟩
  · rcases hi y hy with e | ⟨k, e⟩
    · rw [e, fI_od o]
      obtain ⟨nx, i, b, t, k, no⟩ := o
      exact ⟨nx, i, b, t, k, no.symm⟩
    · subst e
      exact ⟨fun z => (by cases z), _, _, _, kd_int k, rfl⟩
  · refine List.all_eq_false.mpr ⟨x, hx, ?_⟩
    rw [fI_od o]
    exact Bool.false_ne_true
theorem bd_long {K : PySem.W.Frag} {H : Hp} {h a : Addr} {ns : List Int} (n : a ≠ h) (ha : H a = some (.tup (ns.map V.int))) (l : ns.length ≤ 1000) (l2 : 64 < ns.length) : Bd K H h (.ref a) := by
  refine ⟨nref n, .inr ⟨a, _, fI, rfl, ⟨_, _, kd_tup ha⟩, ha, by rw [List.length_map]; exact l, fun y hy => ?_, .inr (by rw [List.length_map]; exact l2)⟩⟩
  obtain ⟨k, _, e⟩ := List.mem_map.mp hy
  subst e
  exact ⟨fun z => (by cases z), _, _, _, kd_int k, rfl⟩
section
variable {P : Program} {w : World} {K : PySem.W.Frag} {mg : Str → Option Value} {base : Heap}
theorem ok_l_deep (T : Tx K mg) : FnOk P w K mg base CX0 3 T.f_l_deep T.d_l_deep ["hand"] (spDeep K) := by
  refine T.F_l_deep.ok sc_l_deep (fun vs H Q E h => ?_) (fun cdv A outer s H vs Q E hr h => ?_)
  · obtain ⟨h, c, rfl, _⟩ := h
    rfl
  obtain ⟨h, c, rfl, hd, q⟩ := h
  have ns : ∀ {A : Addr}, H A = none → ∀ s, (s = h ∨ H s ≠ none) → A ≠ s := fun {A} nA s hs e => by
    subst e
    rcases hs with e | e
    · exact (hd.ne nA).1 e
    · exact e nA
  refine ⟨_, (pss_cons (ps_set (i := 1) sc_l_deep.nd rfl (.inl rfl) (pe_call (ok_l_any T) (hr.mono (by decide)) (by rfl) T.m_l_any T.F_l_any.kp T.b_l_any .nil pass0 (pa_cons (pv 0) (pa_cons (pe_lst (pa_cons pe_int (pa_cons (pe_tup pa_nil) (pa_cons pe_non pa_nil)))) pa_nil))))
    (pss_cons (ps_for PassesOwn.never rfl (pi_range1 (by rfl) T.g_range (pa_cons (pe_op op_add pe_int (pe_call (ok_l_draw T) (hr.mono (by decide)) (by rfl) T.m_l_draw T.F_l_draw.kp T.b_l_draw .nil pass0 (pa_cons (pv 0) (pa_cons pe_int pa_nil)))) pa_nil)) (pg_name (i := 2) sc_l_deep.nd rfl (.inl rfl))
      (pss_one (ps_set (i := 1) sc_l_deep.nd rfl (.inl rfl) (pe_call (ok_l_any T) (hr.mono (by decide)) (by rfl) T.m_l_any T.F_l_any.kp T.b_l_any .nil pass0 (pa_cons (pv 0) (pa_cons (pe_lst (pa_cons (pe_tup (pa_cons (pv 1) pa_nil)) (pa_cons (pe_lst (pa_cons (pv 1) pa_nil)) pa_nil))) pa_nil))))))
    (pss_one (ps_ret (pv 1))))), ?_⟩
  refine ⟨_, rfl, (by show 0 ≤ sizeLine; decide), fun e0 ne0 => ⟨(by show 3 ≤ sizeLine; decide), fun G nG => ?_⟩⟩
  have ns0 := ns ne0
  have s1 := same_new ne0 (.tup [])
  have he : (L2.upd H e0 (.tup [])) e0 = some (.tup []) := upd_same
  have hd1 := hd.same s1
  generalize L2.upd H e0 (.tup []) = H1 at *
  have s2 := same_new nG (.lst [V.int 1, V.ref e0, V.non])
  refine ⟨h, c, G, _, rfl, .inl (SqL.of upd_same), (hd1.ne nG).1, by show 0 < 3; decide, by show 3 < 1000000; decide, hd1.same s2, fun v H2 hv k2 hd2 => ?_⟩
  have k02 : Kp h H H2 := (Same.kp (s1.trans s2)).trans k2
  have d0 : ∀ s, (s = h ∨ H s ≠ none) → Dp K H2 s 0 v := fun s hs => by
    refine ⟨?_, ?_, fun l => absurd l (by decide), fun l => absurd l (by decide)⟩
    · simp only [List.mem_cons, List.not_mem_nil, or_false] at hv
      rcases hv with e | e | e <;> subst e
      · exact fun z => by cases z
      · exact nref (ns0 s hs)
      · exact fun z => by cases z
    · simp only [List.mem_cons, List.not_mem_nil, or_false] at hv
      rcases hv with e | e | e <;> subst e
      · exact ⟨_, _, _, kd_int 1⟩
      · exact ⟨_, _, _, kd_tup (k2 _ _ (ns0 h (.inl rfl)) (s2 _ _ he))⟩
      · exact ⟨_, _, _, kd_non⟩
  clear hv
  refine ⟨_, rfl, h, c, _, rfl, by omega, by omega, hd2, fun d H3 d0' d1 k3 hd3 => ⟨20, d, rfl, rfl, 20 + d, rfl, by omega, by omega, ?_⟩⟩
  refine for_range (lo := 0) (n := (20 + d).toNat) (fun j σ H' => ∃ x y2, σ = [some (.ref h), some x, y2] ∧ Kp h H H' ∧ HandAt H' h c ∧ ∀ s, (s = h ∨ H s ≠ none) → Dp K H' s j x) ⟨v, none, rfl, k02.trans k3, hd3, fun s hs => (d0 h (.inl rfl)).kp2 k3 (d0 s hs)⟩ ?_ ?_
  · intro j σ H4 hj ⟨x, y2, e, kk, hdd, dx⟩
    subst e
    refine ⟨_, rfl, _, rfl, (by show 1 ≤ sizeLine; decide), fun A nA => ⟨_, rfl, (by show 1 ≤ sizeLine; decide), fun B nB => ⟨(by show 2 ≤ sizeLine; decide), fun G nG => ?_⟩⟩⟩
    have nsA := ns (kk.gone hdd nA)
    have sA := same_new nA (.tup [x])
    have hA : (L2.upd H4 A (.tup [x])) A = some (.tup [x]) := upd_same
    have hdA := hdd.same sA
    have nsB := ns (kk.gone hdd (sA.free nB))
    generalize L2.upd H4 A (.tup [x]) = H5 at *
    have sB := same_new nB (.lst [x])
    have hB : (L2.upd H5 B (.lst [x])) B = some (.lst [x]) := upd_same
    have hdB := hdA.same sB
    have hA6 := sB _ _ hA
    generalize L2.upd H5 B (.lst [x]) = H6 at *
    have sG := same_new nG (.lst [V.ref A, V.ref B])
    refine ⟨h, c, G, _, rfl, .inl (SqL.of upd_same), (hdB.ne nG).1, by show 0 < 2; decide, by show 2 < 1000000; decide, hdB.same sG, fun v H7 hv k7 hd7 => ?_⟩
    have k67 : Kp h H6 H7 := (Same.kp sG).trans k7
    have k47 : Kp h H4 H7 := (Same.kp (sA.trans sB)).trans k67
    have d7 : ∀ s, (s = h ∨ H s ≠ none) → Dp K H7 s j x := fun s hs => (dx h (.inl rfl)).kp2 k47 (dx s hs)
    refine ⟨v, _, rfl, kk.trans k47, hd7, fun s hs => ?_⟩
    obtain ⟨nx, ⟨xi, xb, xt, xk⟩, xo, xd⟩ := d7 s hs
    have nAh := nsA h (.inl rfl)
    have nBh := nsB h (.inl rfl)
    have nAs := nsA s hs
    have nBs := nsB s hs
    simp only [List.mem_cons, List.not_mem_nil, or_false] at hv
    rcases hv with e | e <;> subst e
    · have kA := kd_tup (K := K) (k67 _ _ nAh hA6)
      refine ⟨nref nAs, ⟨_, _, _, kA⟩, fun _ => od_of (nref nAs) kA, fun l => ?_⟩
      obtain ⟨_, i, b, t, k, no⟩ := xo (by omega)
      exact ⟨nref nAs, .inr ⟨A, [x], fun _ => false, rfl, ⟨_, _, kA⟩, k67 _ _ nAh hA6, by show 1 ≤ 1000; decide, fun y hy => by rw [List.mem_singleton.mp hy]; exact ⟨nx, i, b, t, k, no.symm⟩, .inl rfl⟩⟩
    · have kB := kd_lst (K := K) (k67 _ _ nBh hB)
      exact ⟨nref nBs, ⟨_, _, _, kB⟩, fun _ => od_of (nref nBs) kB, fun _ => bd_of (nref nBs) kB⟩
  · intro σ H4 ⟨x, y2, e, kk, hdd, dx⟩
    subst e
    exact ⟨_, rfl, q x H4 (fun s hs => ⟨(dx s hs).2.2.1 (by omega), (dx s hs).2.2.2 (by omega)⟩) kk hdd⟩
end
end K17
set_option Elab.async false
set_option linter.all false
set_option maxRecDepth 100000
set_option maxHeartbeats 8000000
/-! What is no colours. -/
namespace K17
open PySem L2 Rl
def spNoC (K : PySem.W.Frag) : Sp := fun vs H Q _ => ∃ (h c : Addr), vs = [.ref h] ∧ HandAt H h c ∧ ∀ x H', Od K H' h x → Kp h H H' → HandAt H' h c → Q x H'
theorem kd_web {K : PySem.W.Frag} {mg : Str → Option Value} (T : Tx K mg) {H : Hp} {x dx : Addr} {fs : List (Str × V)} (h : H x = some (.ins T.C_Web dx fs)) : Kd K H (.ref x) false false false :=
  ⟨_, .ins h T.cl_Web T.ic_Web T.ia T.ib T.im_Web, T.kw_Web_int, T.kw_Web_bool, T.kw_Web_tuple⟩
section
variable {P : Program} {w : World} {K : PySem.W.Frag} {mg : Str → Option Value} {base : Heap}
theorem ok_l_no_colours (T : Tx K mg) : FnOk P w K mg base CX0 6 T.f_l_no_colours T.d_l_no_colours ["hand"] (spNoC K) := by
  refine T.F_l_no_colours.ok sc_l_no_colours (fun vs H Q E h => ?_) (fun cdv A outer s H vs Q E hr h => ?_)
  · obtain ⟨h, c, rfl, _⟩ := h
    rfl
  obtain ⟨h, c, rfl, hd, q⟩ := h
  refine ⟨_, (pss_one (ps_ret (pe_call (ok_l_any T) (hr.mono (by decide)) (by rfl) T.m_l_any T.F_l_any.kp T.b_l_any .nil pass0 (pa_cons (pv 0) (pa_cons (pe_lst (pa_cons pe_bl (pa_cons pe_bl (pa_cons pe_non (pa_cons pe_str (pa_cons (pe_tup (pa_cons pe_int pa_nil)) (pa_cons (pe_lst (pa_cons pe_int pa_nil)) (pa_cons pe_dnewK (pa_cons (pe_make T.mk_Web (ok_webI T) (hr.mono (by decide)) (by rfl) T.m_Web T.b_webI .nil pass0 (pa_cons pe_int (pa_cons (pe_tup pa_nil) pa_nil))) (pa_cons (pe_call (ok_l_deep T) (hr.mono (by decide)) (by rfl) T.m_l_deep T.F_l_deep.kp T.b_l_deep .nil pass0 (pa_cons (pv 0) pa_nil)) pa_nil)))))))))) pa_nil))))), ?_⟩
  refine ⟨_, rfl, (by show 1 ≤ sizeLine; decide), fun A nA => ⟨(by show 1 ≤ sizeLine; decide), fun B nB => fun D nD => ⟨(by show 0 ≤ sizeLine; decide), fun e ne => ?_⟩⟩⟩
  have sA := same_new nA (.tup [V.int 3])
  have hA : (L2.upd H A (.tup [V.int 3])) A = some (.tup [V.int 3]) := upd_same
  have nAh := (hd.ne nA).1
  have hdA := hd.same sA
  generalize L2.upd H A (.tup [V.int 3]) = HA at *
  have sB := same_new nB (.lst [V.int 3])
  have hB : (L2.upd HA B (.lst [V.int 3])) B = some (.lst [V.int 3]) := upd_same
  have nBh := (hdA.ne nB).1
  have hdB := hdA.same sB
  generalize L2.upd HA B (.lst [V.int 3]) = HB at *
  have sD := same_new nD (.dK [])
  have hD : (L2.upd HB D (.dK [])) D = some (.dK []) := upd_same
  have nDh := (hdB.ne nD).1
  have hdD := hdB.same sD
  generalize L2.upd HB D (.dK []) = HD at *
  have se := same_new ne (.tup [])
  have he : (L2.upd HD e (.tup [])) e = some (.tup []) := upd_same
  have hde := hdD.same se
  generalize L2.upd HD e (.tup []) = HE at *
  refine fun x2 d2 nx nd ne2 => ?_
  have s0 : Same HE (L2.upd (L2.upd HE d2 (.own x2)) x2 (.ins T.C_Web d2 [])) := fun b o e => by
    rw [upd_ne (ne_of_none e nx), upd_ne (ne_of_none e nd)]
    exact e
  refine ⟨x2, d2, e, 3, [], rfl, upd_same, by decide, by decide, ⟨[], s0 _ _ he, .nil⟩, by decide, (fun p hp => nomatch hp), fun H1 k1 hx1 => ⟨rfl, ?_⟩⟩
  have s1 : Same HE H1 := fun b o e => k1 b o (s0 b o e) (ne_of_none e nx)
  have nxh := (hde.ne nx).1
  have hd1 := hde.same s1
  clear k1 s0 ne2 nd nx
  have sB1 := sD.trans (se.trans s1)
  have oA : Od K H1 h (.ref A) := od_of (nref nAh) (kd_tup (sB1 _ _ (sB _ _ hA)))
  have oB : Od K H1 h (.ref B) := od_of (nref nBh) (kd_lst (sB1 _ _ hB))
  have oD : Od K H1 h (.ref D) := od_of (nref nDh) (kd_dict (s1 _ _ (se _ _ hD)))
  have oX : Od K H1 h (.ref x2) := od_of (nref nxh) (kd_web T hx1)
  have s01 : Same H H1 := sA.trans (sB.trans sB1)
  refine ⟨_, rfl, h, c, rfl, hd1, fun x H2 odd k2 hd2 => ⟨(by show 9 ≤ sizeLine; decide), fun G nG => ?_⟩⟩
  have sG := same_new nG (.lst [V.bl true, V.bl false, V.non, V.str "3", V.ref A, V.ref B, V.ref D, V.ref x2, x])
  refine ⟨h, c, G, _, rfl, .inl (SqL.of upd_same), (hd2.ne nG).1, by show 0 < 9; decide, by show 9 < 1000000; decide, hd2.same sG, fun v H3 hv k3 hd3 => ?_⟩
  have k23 := (Same.kp (h := h) sG).trans k3
  have k13 := k2.trans k23
  have ov : Od K H3 h v := by
    simp only [List.mem_cons, List.not_mem_nil, or_false] at hv
    rcases hv with e | e | e | e | e | e | e | e | e <;> subst e
    · exact ⟨fun z => (by cases z), _, _, _, kd_bl true, rfl⟩
    · exact ⟨fun z => (by cases z), _, _, _, kd_bl false, rfl⟩
    · exact od_of (fun z => by cases z) kd_non
    · exact od_of (fun z => by cases z) (kd_str _)
    · exact oA.kp k13
    · exact oB.kp k13
    · exact oD.kp k13
    · exact oX.kp k13
    · exact (odd h (.inl rfl)).1.kp k23
  exact q v H3 ov ((Same.kp s01).trans k13) hd3
end
end K17
set_option Elab.async false
set_option linter.all false
set_option maxRecDepth 100000
set_option maxHeartbeats 8000000
/-! What is no numbers. -/
namespace K17
open PySem L2 Rl
theorem np {σ : L2.St} {H : Hp} {Q : Option Int → Hp → Prop} (h : Q none H) : tNoPart σ H Q := h
theorem cutV_mem {xs : List V} {lo hi : Option Int} {v : V} (h : v ∈ cutV xs lo hi) : v ∈ xs := by
  unfold cutV at h
  exact List.mem_of_mem_drop (List.mem_of_mem_take h)
def spNoN (K : PySem.W.Frag) : Sp := fun vs H Q _ => ∃ (h c N : Addr) (ns : List Int), vs = [.ref h, .ref N] ∧ HandAt H h c ∧ H N = some (.tup (ns.map V.int)) ∧ ns.length ≤ 64 ∧ ∀ x H', Bd K H' h x → Kp h H H' → HandAt H' h c → Q x H'
section
variable {P : Program} {w : World} {K : PySem.W.Frag} {mg : Str → Option Value} {base : Heap}
theorem ok_l_no_numbers (T : Tx K mg) : FnOk P w K mg base CX0 6 T.f_l_no_numbers T.d_l_no_numbers ["hand", "numbers"] (spNoN K) := by
  refine T.F_l_no_numbers.ok sc_l_no_numbers (fun vs H Q E h => ?_) (fun cdv A outer s H vs Q E hr h => ?_)
  · obtain ⟨h, c, N, ns, rfl, _⟩ := h
    rfl
  obtain ⟨h, c, N, ns, rfl, hd, hN, l64, q⟩ := h
  have nNh := hd.tne hN
  refine ⟨_, (pss_cons (ps_set (i := 2) sc_l_no_numbers.nd rfl (.inl rfl) (pe_call (ok_l_any T) (hr.mono (by decide)) (by rfl) T.m_l_any T.F_l_any.kp T.b_l_any .nil pass0 (pa_cons (pv 0) (pa_cons (pe_lst (pa_cons pe_bl (pa_cons pe_bl (pa_cons pe_non (pa_cons pe_str (pa_cons (pe_tup (pa_cons pe_int pa_nil)) (pa_cons (pe_lst (pa_cons pe_int pa_nil)) (pa_cons pe_dnewK (pa_cons (pe_make T.mk_Web (ok_webI T) (hr.mono (by decide)) (by rfl) T.m_Web T.b_webI .nil pass0 (pa_cons pe_int (pa_cons (pe_tup pa_nil) pa_nil))) (pa_cons (pe_call (ok_l_deep T) (hr.mono (by decide)) (by rfl) T.m_l_deep T.F_l_deep.kp T.b_l_deep .nil pass0 (pa_cons (pv 0) pa_nil)) pa_nil)))))))))) pa_nil))))
    (pss_cons (ps_set (i := 3) sc_l_no_numbers.nd rfl (.inl rfl) (pe_call (ok_l_draw T) (hr.mono (by decide)) (by rfl) T.m_l_draw T.F_l_draw.kp T.b_l_draw .nil pass0 (pa_cons (pv 0) (pa_cons (pe_op op_add (pe_callB call_len_seq (by rfl) T.g_len PySem.boot_len (pa_cons (pv 1) pa_nil)) pe_int) pa_nil))))
    (pss_cons (ps_set (i := 4) sc_l_no_numbers.nd rfl (.inl rfl) (pe_lst (pa_cons (pe_callTy call_list_of (by rfl) T.g_list (by decide +kernel) (pa_cons (pv 1) pa_nil)) (pa_cons pe_non (pa_cons pe_int (pa_cons pe_str (pa_cons (pe_disp (pps_cons pe_int pe_int pps_nil) (by rfl) (by rfl) (fun z => by cases z) (by decide)) (pa_cons (pe_make T.mk_Web (ok_webI T) (hr.mono (by decide)) (by rfl) T.m_Web T.b_webI .nil pass0 (pa_cons pe_int (pa_cons (pe_tup (pa_cons (pe_tup (pa_cons pe_int (pa_cons pe_int pa_nil))) pa_nil)) pa_nil))) (pa_cons (pe_op op_repT (pe_tup (pa_cons pe_int pa_nil)) pe_int) (pa_cons (pe_op op_repT (pe_tup (pa_cons pe_int pa_nil)) pe_int) (pa_cons (pe_op op_repT (pe_tup (pa_cons pe_int pa_nil)) pe_int) pa_nil)))))))))))
    (pss_cons (ps_expr (pe_bm PySem.F.plainAttrs_list PySem.F.slot_list_append PySem.F.type_list_append mt_append (pv 4) (pa_cons (pe_call (ok_l_deep T) (hr.mono (by decide)) (by rfl) T.m_l_deep T.F_l_deep.kp T.b_l_deep .nil pass0 (pa_cons (pv 0) pa_nil)) pa_nil)))
    (pss_one (ps_ret (pe_call (ok_l_any T) (hr.mono (by decide)) (by rfl) T.m_l_any T.F_l_any.kp T.b_l_any .nil pass0 (pa_cons (pv 0) (pa_cons (pe_op op_cat (pe_op op_cat (pe_op op_rep (pe_lst (pa_cons (pe_op op_catA (pe_op op_catA (pe_slice sl_tupA (pv 1) po_none (po_some (pv 3))) (pe_tup (pa_cons (pv 2) pa_nil))) (pe_slice sl_tupA (pv 1) (po_some (pe_op op_add (pv 3) pe_int)) po_none)) (pa_cons (pe_tup (pa_cons (pv 2) pa_nil)) (pa_cons (pe_op op_catA (pe_tup (pa_cons pe_int (pa_cons pe_int pa_nil))) (pe_tup (pa_cons (pv 2) pa_nil))) pa_nil)))) pe_int) (pv 4)) (pe_lst (pa_cons pe_bl pa_nil))) pa_nil))))))))), ?_⟩
  refine ⟨_, rfl, (by show 1 ≤ sizeLine; decide), fun A nA => ⟨(by show 1 ≤ sizeLine; decide), fun B nB => fun D nD => ⟨(by show 0 ≤ sizeLine; decide), fun e ne => ?_⟩⟩⟩
  have sA := same_new nA (.tup [V.int 1])
  have hA : (L2.upd H A (.tup [V.int 1])) A = some (.tup [V.int 1]) := upd_same
  have nAh := (hd.ne nA).1
  have hdA := hd.same sA
  generalize L2.upd H A (.tup [V.int 1]) = HA at *
  have sB := same_new nB (.lst [V.int 1])
  have hB : (L2.upd HA B (.lst [V.int 1])) B = some (.lst [V.int 1]) := upd_same
  have nBh := (hdA.ne nB).1
  have hdB := hdA.same sB
  generalize L2.upd HA B (.lst [V.int 1]) = HB at *
  have sD := same_new nD (.dK [])
  have hD : (L2.upd HB D (.dK [])) D = some (.dK []) := upd_same
  have nDh := (hdB.ne nD).1
  have hdD := hdB.same sD
  generalize L2.upd HB D (.dK []) = HD at *
  have se := same_new ne (.tup [])
  have he : (L2.upd HD e (.tup [])) e = some (.tup []) := upd_same
  have hde := hdD.same se
  generalize L2.upd HD e (.tup []) = HE at *
  refine fun x2 d2 nx nd ne2 => ?_
  have s0 : Same HE (L2.upd (L2.upd HE d2 (.own x2)) x2 (.ins T.C_Web d2 [])) := fun b o e => by
    rw [upd_ne (ne_of_none e nx), upd_ne (ne_of_none e nd)]
    exact e
  refine ⟨x2, d2, e, 1, [], rfl, upd_same, by decide, by decide, ⟨[], s0 _ _ he, .nil⟩, by decide, (fun p hp => nomatch hp), fun H1 k1 hx1 => ⟨rfl, ?_⟩⟩
  have s1 : Same HE H1 := fun b o e => k1 b o (s0 b o e) (ne_of_none e nx)
  have nxh := (hde.ne nx).1
  have hd1 := hde.same s1
  clear k1 s0 ne2 nd nx
  have sB1 := sD.trans (se.trans s1)
  have oA : Od K H1 h (.ref A) := od_of (nref nAh) (kd_tup (sB1 _ _ (sB _ _ hA)))
  have oB : Od K H1 h (.ref B) := od_of (nref nBh) (kd_lst (sB1 _ _ hB))
  have oD : Od K H1 h (.ref D) := od_of (nref nDh) (kd_dict (s1 _ _ (se _ _ hD)))
  have oX : Od K H1 h (.ref x2) := od_of (nref nxh) (kd_web T hx1)
  have s01 : Same H H1 := sA.trans (sB.trans sB1)
  refine ⟨_, rfl, h, c, rfl, hd1, fun x H2 odd k2 hd2 => ⟨(by show 9 ≤ sizeLine; decide), fun G nG => ?_⟩⟩
  have sG := same_new nG (.lst [V.bl true, V.bl false, V.non, V.str "1", V.ref A, V.ref B, V.ref D, V.ref x2, x])
  refine ⟨h, c, G, _, rfl, .inl (SqL.of upd_same), (hd2.ne nG).1, by show 0 < 9; decide, by show 9 < 1000000; decide, hd2.same sG, fun v H3 hv k3 hd3 => ?_⟩
  have k23 := (Same.kp (h := h) sG).trans k3
  have k13 := k2.trans k23
  have ov : Od K H3 h v := by
    simp only [List.mem_cons, List.not_mem_nil, or_false] at hv
    rcases hv with e | e | e | e | e | e | e | e | e <;> subst e
    · exact ⟨fun z => (by cases z), _, _, _, kd_bl true, rfl⟩
    · exact ⟨fun z => (by cases z), _, _, _, kd_bl false, rfl⟩
    · exact od_of (fun z => by cases z) kd_non
    · exact od_of (fun z => by cases z) (kd_str _)
    · exact oA.kp k13
    · exact oB.kp k13
    · exact oD.kp k13
    · exact oX.kp k13
    · exact (odd h (.inl rfl)).1.kp k23
  have k03 : Kp h H H3 := (Same.kp s01).trans k13
  have hN3 := k03 _ _ nNh hN
  clear oA oB oD oX hv k23 k13 sG nG k2 hd2 odd s01 sB1 hd1 s1 hx1 he hde hD hdD hB hdB hA hdA sA sB sD se
  refine ⟨_, rfl, _, rfl, N, _, rfl, .inr (SqT.of hN3), _, 1, rfl, rfl, h, c, _, rfl, by omega, by rw [List.length_map]; omega, hd3, fun at' H4 at0 at1 k4 hd4 => ?_⟩
  have ov4 := ov.kp k4
  have hN4 := k4 _ _ nNh hN3
  have k04 := k03.trans k4
  clear ov hN3 hd3 k3 k03 k4 hN hd
  -- the second list
  refine ⟨_, rfl, N, _, rfl, .inr (SqT.of hN4), fun M nM => ?_⟩
  have sM := same_new nM (.lst (ns.map V.int))
  have hM : (L2.upd H4 M (.lst (ns.map V.int))) M = some (.lst (ns.map V.int)) := upd_same
  have nMh := (hd4.ne nM).1
  have hdM := hd4.same sM
  generalize L2.upd H4 M (.lst (ns.map V.int)) = HM at *
  refine fun J nJ => ⟨upd_same, [(.inl 1, V.int 2)], rfl, by decide, ?_⟩
  have sJ : Same HM (L2.upd (L2.upd HM J (.dK [])) J (.dK (mergeK [] [(.inl 1, V.int 2)]))) := fun b o e => by
    rw [upd_ne (ne_of_none e nJ), upd_ne (ne_of_none e nJ)]
    exact e
  have hJ : (L2.upd (L2.upd HM J (.dK [])) J (.dK (mergeK [] [(.inl 1, V.int 2)]))) J = some (.dK (mergeK [] [(.inl 1, V.int 2)])) := upd_same
  have nJh := (hdM.ne nJ).1
  have hdJ := hdM.same sJ
  generalize L2.upd (L2.upd HM J (.dK [])) J (.dK (mergeK [] [(.inl 1, V.int 2)])) = HJ at *
  refine ⟨(by show 2 ≤ sizeLine; decide), fun P0 nP => ⟨(by show 1 ≤ sizeLine; decide), fun e2 ne2 => ?_⟩⟩
  have sP := same_new nP (.tup [V.int 0, V.int 1])
  have hP : (L2.upd HJ P0 (.tup [V.int 0, V.int 1])) P0 = some (.tup [V.int 0, V.int 1]) := upd_same
  have hdP := hdJ.same sP
  generalize L2.upd HJ P0 (.tup [V.int 0, V.int 1]) = HP at *
  have se2 := same_new ne2 (.tup [V.ref P0])
  have he2 : (L2.upd HP e2 (.tup [V.ref P0])) e2 = some (.tup [V.ref P0]) := upd_same
  have hde2 := hdP.same se2
  have hP2 := se2 _ _ hP
  generalize L2.upd HP e2 (.tup [V.ref P0]) = HE2 at *
  refine fun x3 d3 nx3 nd3 nee3 => ?_
  have s03 : Same HE2 (L2.upd (L2.upd HE2 d3 (.own x3)) x3 (.ins T.C_Web d3 [])) := fun b o e => by
    rw [upd_ne (ne_of_none e nx3), upd_ne (ne_of_none e nd3)]
    exact e
  refine ⟨x3, d3, e2, 2, [(0, 1)], rfl, upd_same, by decide, by decide, ⟨[.ref P0], s03 _ _ he2, .cons ⟨P0, rfl, s03 _ _ hP2⟩ .nil⟩, by decide, (fun p hp => by rw [List.mem_singleton.mp hp]; exact ⟨by decide, by decide, by decide⟩), fun H5 k5 hx5 => ⟨rfl, ?_⟩⟩
  have s5 : Same HE2 H5 := fun b o e => k5 b o (s03 b o e) (ne_of_none e nx3)
  have nx3h := (hde2.ne nx3).1
  have hd5 := hde2.same s5
  have s4J := sP.trans (se2.trans s5)
  have bM : Bd K H5 h (.ref M) := bd_of (nref nMh) (kd_lst (s4J _ _ (sJ _ _ hM)))
  have bJ : Bd K H5 h (.ref J) := bd_of (nref nJh) (kd_dict (s4J _ _ hJ))
  have bX : Bd K H5 h (.ref x3) := bd_of (nref nx3h) (kd_web T hx5)
  have s45 : Same H4 H5 := sM.trans (sJ.trans s4J)
  clear k5 s03 nee3 nd3 nx3 hx5
  -- long tuples
  have rep : ∀ (z : V) (k : Nat), (List.replicate k [z]).flatten = List.replicate k z := fun z k => by
    induction k with
    | zero => rfl
    | succ k ih => rw [List.replicate_succ, List.flatten_cons, ih, List.replicate_succ]; rfl
  refine ⟨(by show 1 ≤ sizeLine; decide), fun a1 n1 => ⟨a1, 65, [V.int 1], rfl, rfl, SqT.of upd_same, (by intro z; cases z), by decide, by decide, by decide, fun R1 nR1 => ?_⟩⟩
  have t1 := same_new n1 (.tup [V.int 1])
  have t2 := same_new nR1 (.tup (List.replicate (65 : Int).toNat [V.int 1]).flatten)
  have hR1 : (L2.upd (L2.upd H5 a1 (.tup [V.int 1])) R1 (.tup (List.replicate (65 : Int).toNat [V.int 1]).flatten)) R1 = some (.tup ((List.replicate 65 (1 : Int)).map V.int)) := by
    rw [upd_same, rep, List.map_replicate]
    rfl
  have nR1h := ((hd5.same t1).ne nR1).1
  have hd6 := (hd5.same t1).same t2
  have s6 := t1.trans t2
  generalize L2.upd (L2.upd H5 a1 (.tup [V.int 1])) R1 (.tup (List.replicate (65 : Int).toNat [V.int 1]).flatten) = H6 at *
  refine ⟨(by show 1 ≤ sizeLine; decide), fun a2 n2 => ⟨a2, 65, [V.int 0], rfl, rfl, SqT.of upd_same, (by intro z; cases z), by decide, by decide, by decide, fun R2 nR2 => ?_⟩⟩
  have t1' := same_new n2 (.tup [V.int 0])
  have t2' := same_new nR2 (.tup (List.replicate (65 : Int).toNat [V.int 0]).flatten)
  have hR2 : (L2.upd (L2.upd H6 a2 (.tup [V.int 0])) R2 (.tup (List.replicate (65 : Int).toNat [V.int 0]).flatten)) R2 = some (.tup ((List.replicate 65 (0 : Int)).map V.int)) := by
    rw [upd_same, rep, List.map_replicate]
    rfl
  have nR2h := ((hd6.same t1').ne nR2).1
  have hd7 := (hd6.same t1').same t2'
  have s7 := t1'.trans t2'
  generalize L2.upd (L2.upd H6 a2 (.tup [V.int 0])) R2 (.tup (List.replicate (65 : Int).toNat [V.int 0]).flatten) = H7 at *
  refine ⟨(by show 1 ≤ sizeLine; decide), fun a3 n3 => ⟨a3, 200, [V.int 1], rfl, rfl, SqT.of upd_same, (by intro z; cases z), by decide, by decide, by decide, fun R3 nR3 => ⟨(by show 9 ≤ sizeLine; decide), fun S nS => ?_⟩⟩⟩
  have t1'' := same_new n3 (.tup [V.int 1])
  have t2'' := same_new nR3 (.tup (List.replicate (200 : Int).toNat [V.int 1]).flatten)
  have hR3 : (L2.upd (L2.upd H7 a3 (.tup [V.int 1])) R3 (.tup (List.replicate (200 : Int).toNat [V.int 1]).flatten)) R3 = some (.tup ((List.replicate 200 (1 : Int)).map V.int)) := by
    rw [upd_same, rep, List.map_replicate]
    rfl
  have nR3h := ((hd7.same t1'').ne nR3).1
  have hd8 := (hd7.same t1'').same t2''
  have s8 := t1''.trans t2''
  generalize L2.upd (L2.upd H7 a3 (.tup [V.int 1])) R3 (.tup (List.replicate (200 : Int).toNat [V.int 1]).flatten) = H8 at *
  have bR1 : Bd K H6 h (.ref R1) := bd_long nR1h hR1 (by rw [List.length_replicate]; decide) (by rw [List.length_replicate]; decide)
  have bR2 : Bd K H7 h (.ref R2) := bd_long nR2h hR2 (by rw [List.length_replicate]; decide) (by rw [List.length_replicate]; decide)
  have bR3 : Bd K H8 h (.ref R3) := bd_long nR3h hR3 (by rw [List.length_replicate]; decide) (by rw [List.length_replicate]; decide)
  have k58 := Same.kp (h := h) (s6.trans (s7.trans s8))
  have all8 : ∀ y ∈ [V.ref M, V.non, V.int 5, V.str "12", V.ref J, V.ref x3, V.ref R1, V.ref R2, V.ref R3], Bd K H8 h y := fun y hy => by
    simp only [List.mem_cons, List.not_mem_nil, or_false] at hy
    rcases hy with e | e | e | e | e | e | e | e | e <;> subst e
    · exact bM.kp k58
    · exact bd_of (fun z => by cases z) kd_non
    · exact bd_of (fun z => by cases z) (kd_int 5)
    · exact bd_of (fun z => by cases z) (kd_str _)
    · exact bJ.kp k58
    · exact bX.kp k58
    · exact bR1.kp (Same.kp (s7.trans s8))
    · exact bR2.kp (Same.kp s8)
    · exact bR3
  have s48 : Same H4 H8 := s45.trans (s6.trans (s7.trans s8))
  have ov8 := ov4.kp (Same.kp s48)
  have hN8 := s48 _ _ hN4
  have k08 := k04.trans (Same.kp s48)
  have sS := same_new nS (.lst [V.ref M, V.non, V.int 5, V.str "12", V.ref J, V.ref x3, V.ref R1, V.ref R2, V.ref R3])
  have hS9 : (L2.upd H8 S (.lst [V.ref M, V.non, V.int 5, V.str "12", V.ref J, V.ref x3, V.ref R1, V.ref R2, V.ref R3])) S = some (.lst [V.ref M, V.non, V.int 5, V.str "12", V.ref J, V.ref x3, V.ref R1, V.ref R2, V.ref R3]) := upd_same
  have nSh := (hd8.ne nS).1
  have nSc := (hd8.ne nS).2
  have hd9 := hd8.same sS
  have all9 : ∀ y ∈ [V.ref M, V.non, V.int 5, V.str "12", V.ref J, V.ref x3, V.ref R1, V.ref R2, V.ref R3], Bd K (L2.upd H8 S (.lst [V.ref M, V.non, V.int 5, V.str "12", V.ref J, V.ref x3, V.ref R1, V.ref R2, V.ref R3])) h y := fun y hy => (all8 y hy).kp (Same.kp sS)
  have nS0 : H S = none := by
    cases e : H S with
    | none => rfl
    | some o => rw [k08 _ _ nSh e] at nS; cases nS
  have all8S : ∀ y ∈ [V.ref M, V.non, V.int 5, V.str "12", V.ref J, V.ref x3, V.ref R1, V.ref R2, V.ref R3], Bd K (L2.upd H8 S (.lst [V.ref M, V.non, V.int 5, V.str "12", V.ref J, V.ref x3, V.ref R1, V.ref R2, V.ref R3])) S y := fun y hy => (all8 y hy).kp2 (Same.kp sS) ((all8 y hy).free nS)
  have ov9S := ov8.kp2 (Same.kp (h := h) sS) (ov8.free nS)
  have ov9 := ov8.kp (Same.kp sS)
  have hN9 := sS _ _ hN8
  have k09 := k08.trans (Same.kp sS)
  have lts : [V.ref M, V.non, V.int 5, V.str "12", V.ref J, V.ref x3, V.ref R1, V.ref R2, V.ref R3].length = 9 := rfl
  clear all8 ov8 hN8 k08 s48 k58 bR1 bR2 bR3 bM bJ bX s45
  generalize [V.ref M, V.non, V.int 5, V.str "12", V.ref J, V.ref x3, V.ref R1, V.ref R2, V.ref R3] = ts at *
  generalize L2.upd H8 S (.lst ts) = H9 at *
  refine ⟨_, rfl, .inl ⟨rfl, _, SqL.of hS9⟩, _, rfl, h, c, rfl, hd9, fun x H10 odd k10 hd10 => ?_⟩
  have hS10 := k10 _ _ nSh hS9
  refine ⟨S, ts, x, rfl, rfl, hS10, small1000 (by omega), ?_⟩
  have NS : N ≠ S := ne_of hN9 hS9 (by intro z; cases z)
  have sS9 : H9 S ≠ none := by rw [hS9]; exact fun z => by cases z
  have hd11 : HandAt (L2.upd H10 S (.lst (ts ++ [x]))) h c := by
    obtain ⟨cs, i, b, m, n, h1, h2, h3⟩ := hd10.ex
    exact ⟨cs, i, b, m, n, by rw [upd_ne nSh.symm]; exact h1, by
      rw [upd_ne nSc.symm]
      exact h2, h3⟩
  have hS11 : (L2.upd H10 S (.lst (ts ++ [x]))) S = some (.lst (ts ++ [x])) := upd_same
  have k11 : Kp h H (L2.upd H10 S (.lst (ts ++ [x]))) := fun b o nb hb => by
    rw [upd_ne (ne_of_none hb nS0)]
    exact (k09.trans k10) b o nb hb
  have hN11 : (L2.upd H10 S (.lst (ts ++ [x]))) N = some (.tup (ns.map V.int)) := by
    rw [upd_ne NS]
    exact k10 _ _ nNh hN9
  have b11 : ∀ y ∈ ts ++ [x], Bd K (L2.upd H10 S (.lst (ts ++ [x]))) h y := fun y hy => by
    rcases List.mem_append.mp hy with m | m
    · exact Bd.kp2 kp_set ((all9 y m).kp2 k10 (all8S y m)) ((all9 y m).kp k10)
    · rw [List.mem_singleton.mp m]
      exact Bd.kp2 kp_set (odd S (.inr sS9)).2 (odd h (.inl rfl)).2
  have ov11 : Od K (L2.upd H10 S (.lst (ts ++ [x]))) h v := Od.kp2 kp_set (ov9.kp2 k10 ov9S) (ov9.kp k10)
  have lts1 : (ts ++ [x]).length = 10 := by rw [List.length_append, lts]; rfl
  generalize ts ++ [x] = us at *
  generalize L2.upd H10 S (.lst us) = H11 at *
  clear all9 all8S ov9 ov9S hS10 hS9 odd hd10 hd9 hN9 k09 k10 sS9
  -- the tuples put together
  have lns : (ns.map V.int).length ≤ 64 := by rw [List.length_map]; exact l64
  have cutl := fun lo hi => cutV_length (ns.map V.int) lo hi
  refine ⟨_, rfl, _, rfl, _, rfl, at', rfl, sl_go hN11 fun p1 H12 s12 h12 => ?_⟩
  refine ⟨_, rfl, (by show 1 ≤ sizeLine; decide), fun O1 nO1 => ?_⟩
  have t1 := same_new nO1 (.tup [v])
  refine cat_go (t1 _ _ h12) upd_same (by have := cutl none (some at'); show (cutV (ns.map V.int) none (some at')).length + 1 ≤ 100000; omega) fun p2 H13 s13 h13 => ?_
  have s1113 := s12.trans (t1.trans s13)
  refine ⟨_, rfl, _, rfl, at', 1, rfl, rfl, at' + 1, rfl, ?_⟩
  refine np ?_
  refine sl_go (s1113 _ _ hN11) fun p3 H14 s14 h14 => ?_
  refine cat_go (s14 _ _ h13) h14 (by have := cutl none (some at'); have := cutl (some (at' + 1)) none; rw [List.length_append]; show (cutV (ns.map V.int) none (some at')).length + 1 + _ ≤ 100000; omega) fun p4 H15 s15 h15 => ?_
  have s15' := s1113.trans (s14.trans s15)
  refine ⟨_, rfl, (by show 1 ≤ sizeLine; decide), fun O2 nO2 => ?_⟩
  have t2 := same_new nO2 (.tup [v])
  have hO2 : (L2.upd H15 O2 (.tup [v])) O2 = some (.tup [v]) := upd_same
  have h15a := t2 _ _ h15
  generalize L2.upd H15 O2 (.tup [v]) = H16 at *
  refine ⟨(by show 2 ≤ sizeLine; decide), fun U nU => ⟨_, rfl, (by show 1 ≤ sizeLine; decide), fun O3 nO3 => ?_⟩⟩
  have t3 := same_new nU (.tup [V.int 1, V.int 2])
  have hU : (L2.upd H16 U (.tup [V.int 1, V.int 2])) U = some (.tup [V.int 1, V.int 2]) := upd_same
  generalize L2.upd H16 U (.tup [V.int 1, V.int 2]) = H17 at *
  have t4 := same_new nO3 (.tup [v])
  refine cat_go (t4 _ _ hU) upd_same (by show 2 + 1 ≤ 100000; decide) fun p5 H18 s18 h18 => ?_
  have s1618 := t3.trans (t4.trans s18)
  have s1118 := s15'.trans (t2.trans s1618)
  have hd18 := hd11.same s1118
  have f4 := s1618 _ _ h15a
  have f2 := s1618 _ _ hO2
  have o18 := ov11.kp (Same.kp s1118)
  have allI : ∀ y ∈ cutV (ns.map V.int) none (some at') ++ [v] ++ cutV (ns.map V.int) (some (at' + 1)) none, y = v ∨ ∃ k, y = .int k := fun y hy => by
    have go : ∀ {lo hi : Option Int}, y ∈ cutV (ns.map V.int) lo hi → ∃ k, y = .int k := fun m => by
      obtain ⟨z, _, e⟩ := List.mem_map.mp (cutV_mem m)
      exact ⟨z, e.symm⟩
    rcases List.mem_append.mp hy with m | m
    · rcases List.mem_append.mp m with m | m
      · exact .inr (go m)
      · exact .inl (List.mem_singleton.mp m)
    · exact .inr (go m)
  have c4 : Bd K H18 h (.ref p4) := bd_mix (hd18.tne f4) f4 (by
    have a1 := cutl none (some at')
    have a2 := cutl (some (at' + 1)) none
    rw [List.length_append, List.length_append]
    show (cutV (ns.map V.int) none (some at')).length + 1 + _ ≤ 1000
    omega) o18 (List.mem_append.mpr (.inl (List.mem_append.mpr (.inr List.mem_cons_self)))) allI
  have c2 : Bd K H18 h (.ref O2) := bd_mix (hd18.tne f2) f2 (by show 1 ≤ 1000; decide) o18 List.mem_cons_self fun y hy => .inl (List.mem_singleton.mp hy)
  have c5 : Bd K H18 h (.ref p5) := bd_mix (hd18.tne h18) h18 (by show 3 ≤ 1000; decide) o18 (by simp) fun y hy => by
    simp only [List.cons_append, List.nil_append, List.mem_cons, List.not_mem_nil, or_false] at hy
    rcases hy with e | e | e
    · exact .inr ⟨1, e⟩
    · exact .inr ⟨2, e⟩
    · exact .inl e
  have hS18 := s1118 _ _ hS11
  have b18 : ∀ y ∈ us, Bd K H18 h y := fun y hy => (b11 y hy).kp (Same.kp s1118)
  have k18 := k11.trans (Same.kp s1118)
  clear s12 t1 s13 s1113 s14 s15 s15' t2 t3 t4 s18 s1618 s1118 b11 ov11 hS11 hN11 hd11 k11 h12 h13 h14 h15 h15a hO2 hU f4 f2
  refine ⟨(by show 3 ≤ sizeLine; decide), fun Y nY => ⟨Y, 3, _, rfl, rfl, upd_same, by decide, by decide, by show 3 * 3 ≤ sizeLine; decide, fun Z nZ => ⟨_, rfl, Z, S, _, us, rfl, rfl, upd_same, same_new nZ _ _ _ (same_new nY _ _ _ hS18), (by rw [lts1]; show 9 + 10 ≤ sizeLine; decide), fun Z2 nZ2 => ⟨(by show 1 ≤ sizeLine; decide), fun W0 nW => ⟨Z2, W0, _, _, rfl, rfl, same_new nW _ _ _ upd_same, upd_same, (by rw [List.length_append, lts1]; show 9 + 10 + 1 ≤ sizeLine; decide), fun Z3 nZ3 => ?_⟩⟩⟩⟩⟩
  have u1 := same_new nY (.lst [V.ref p4, V.ref O2, V.ref p5])
  have uu := u1.trans ((same_new nZ _).trans ((same_new nZ2 _).trans ((same_new nW _).trans (same_new nZ3 (.lst ((List.replicate (Int.toNat 3) [V.ref p4, V.ref O2, V.ref p5]).flatten ++ us ++ [V.bl true]))))))
  refine ⟨h, c, Z3, _, rfl, .inl (SqL.of upd_same), ((hd18.same (u1.trans ((same_new nZ _).trans ((same_new nZ2 _).trans (same_new nW _))))).ne nZ3).1, ?_, ?_, hd18.same uu, fun y H19 hy k19 hd19 => ?_⟩
  · simp
  · rw [List.length_append, List.length_append, lts1]
    show 9 + 10 + 1 < 1000000
    decide
  refine q y H19 ?_ (k18.trans ((Same.kp uu).trans k19)) hd19
  have t19 := (Same.kp (h := h) uu).trans k19
  have three : ∀ z ∈ (List.replicate (3 : Int).toNat [V.ref p4, V.ref O2, V.ref p5]).flatten, Bd K H18 h z := fun z hz => by
    have hz : z ∈ [V.ref p4, V.ref O2, V.ref p5, V.ref p4, V.ref O2, V.ref p5, V.ref p4, V.ref O2, V.ref p5] := hz
    simp only [List.mem_cons, List.not_mem_nil, or_false] at hz
    rcases hz with e | e | e | e | e | e | e | e | e <;> subst e <;> first | exact c4 | exact c2 | exact c5
  rcases List.mem_append.mp hy with m | m
  · rcases List.mem_append.mp m with m | m
    · exact (three y m).kp t19
    · exact (b18 y m).kp t19
  · rw [List.mem_singleton.mp m]
    exact bd_of (fun z => by cases z) (kd_bl true)
end
end K17
set_option Elab.async false
set_option linter.all false
set_option maxRecDepth 100000
set_option maxHeartbeats 8000000
/-! What worth tells. -/
namespace K17
open PySem L2 Rl
def spTold (K : PySem.W.Frag) : Sp := fun vs H Q _ => ∃ x y : V, vs = [x, y] ∧
  ((BadN K H x ∧ ∀ u H', Same H H' → H' u = some (.tup [.str "numbers", .int 0]) → Q (.ref u) H') ∨
   ∃ (a : Addr) (ns : List Int), x = .ref a ∧ H a = some (.tup (ns.map V.int)) ∧ ns.length ≤ 64 ∧
     ((∃ i b t, Kd K H y i b t ∧ (i && !b) = false ∧ ∀ u H', Same H H' → H' u = some (.tup [.str "colours", .int 0]) → Q (.ref u) H') ∨
      ∃ q : Int, y = .int q ∧ bits q 70 ∧ (∀ n ∈ ns, bits n 70) ∧ ∀ u H', Same H H' → H' u = some (.tup [.str "told", .int (wsum ns q)]) → Q (.ref u) H'))
section
variable {P : Program} {w : World} {K : PySem.W.Frag} {mg : Str → Option Value} {base : Heap}
theorem ok_l_told (T : Tx K mg) : FnOk P w K mg base CX0 6 T.f_l_told T.d_l_told ["numbers", "q"] (spTold K) := by
  refine T.F_l_told.ok sc_l_told (fun vs H Q E h => ?_) (fun cdv A outer s H vs Q E hr h => ?_)
  · obtain ⟨x, y, rfl, _⟩ := h
    rfl
  obtain ⟨x, y, rfl, h⟩ := h
  refine ⟨_, pss_one (ps_try_as (i := 2) (tb := fun W => tRet (tTup (tCons (tC (.str "told")) (tCons (tCallS (spWorth K T.C_NoNumbers T.C_NoColours) (WE W) (tCons (tVar 0) (tCons (tVar 1) tNil))) tNil))))
    (ts := fun a cls d => fun D σ H => ∃ C : Addr, (cls = .ref C ∧ d = none ∧ ExcC K C) ∧ tSeq (tAsg (tLst (tCons (tCB (rIsE K C a) (tCons (tVar 2) (tCons (tC (.ref T.C_NoNumbers)) tNil))) (tCons (tCB (rIsE K C a) (tCons (tVar 2) (tCons (tC (.ref T.C_NoColours)) tNil))) tNil))) (gName 3))
      (tSeq (tIfS (tOr (tTest (tOp rNe (tBM K "list" (KX.rCntF K) (tVar 3) (tCons (tC (.bl true)) tNil)) (tC (.int 1)))) (tNot (tB (tCB (rIsE K C a) (tCons (tVar 2) (tCons (tC (.ty "ValueError")) tNil))))))
        (tRet (tTup (tCons (tC (.str "other")) (tCons (tC (.int 0)) tNil)))) tNext)
        (tRet (tTup (tCons (tOp (rIxL K) (tLst (tCons (tC (.str "numbers")) (tCons (tC (.str "colours")) tNil))) (tBM K "list" (rIndex K) (tVar 3) (tCons (tC (.bl true)) tNil))) (tCons (tC (.int 0)) tNil))))) D σ H)
    (Wout := fun _ _ _ _ => False) rfl rfl sc_l_told.nd rfl rfl ⟨rfl, by decide, Or.inl T.m_PaintError⟩ takes0
    (fun W pn xe tk _ => pss_one (ps_ret (pe_tup (pa_cons pe_str (pa_cons (pe_callS (ok_worth T) (hr.mono (by decide)) rfl T.m_worth T.F_worth.kp T.b_worth (fun σ => passAt tk σ) (pa_cons (pv 0) (pa_cons (pv 1) pa_nil))) pa_nil)))))
    (fun a oe cls d pn hz hf => KX.pss_ex fun C hC => ?_)), ?_⟩
  · obtain ⟨e1, e2, xc⟩ := hC
    subst e1 e2
    exact pss_cons (ps_set (i := 3) sc_l_told.nd rfl (.inl rfl) (pe_lst (pa_cons (pe_callB (call_isE xc hz hf) (by rfl) T.g_isinstance (by decide +kernel) (pa_cons (pv 2) (pa_cons (pe_glob (v := .ref T.C_NoNumbers) (by rfl) T.m_NoNumbers rfl) pa_nil)))
        (pa_cons (pe_callB (call_isE xc hz hf) (by rfl) T.g_isinstance (by decide +kernel) (pa_cons (pv 2) (pa_cons (pe_glob (v := .ref T.C_NoColours) (by rfl) T.m_NoColours rfl) pa_nil))) pa_nil))))
      (pss_cons (ps_if (PW.pt (pw_or (pt_cmpR op_ne (pe_bm PySem.F.plainAttrs_list PySem.F.slot_list_count PySem.F.type_list_count KX.mt_lcountF (pv 3) (pa_cons pe_bl pa_nil)) pe_int (nomark _)) (pw_or1 (pt_not (pt_val (pe_callB (call_isE xc hz hf) (by rfl) T.g_isinstance (by decide +kernel) (pa_cons (pv 2) (pa_cons (pe_bltn (v := .ty "ValueError") (by rfl) T.g_ValueError (by decide +kernel) rfl) pa_nil))))))))
        (pss_one (ps_ret (pe_tup (pa_cons pe_str (pa_cons pe_int pa_nil))))) pss_nil)
      (pss_one (ps_ret (pe_tup (pa_cons (pe_ix ix_list (pe_lst (pa_cons pe_str (pa_cons pe_str pa_nil))) (pe_bm PySem.F.plainAttrs_list PySem.F.slot_list_index PySem.F.type_list_index mt_index (pv 3) (pa_cons pe_bl pa_nil)) (fun _ _ => rfl)) (pa_cons pe_int pa_nil))))))
  · refine ⟨x, rfl, y, rfl, x, y, rfl, ?_⟩
    rcases h with ⟨bad, q⟩ | ⟨a, ns, rfl, ha, l64, ⟨i, b, t, kd, no, q⟩ | ⟨z, rfl, bz, bn, q⟩⟩
    · refine .inl ⟨bad, fun H' sm => ⟨true, T.xm_NoNumbers_PaintError, fun _ u na => ⟨T.C_NoNumbers, ⟨rfl, rfl, T.xc_NoNumbers⟩, ?_⟩, fun z => by cases z⟩⟩
      refine ⟨.ref u, rfl, .ref T.C_NoNumbers, .ref T.C_NoNumbers, true, rfl, fun u r => by cases r; rfl, T.ki_NoNumbers_NoNumbers, ?_⟩
      refine ⟨.ref u, rfl, .ref T.C_NoColours, .ref T.C_NoColours, false, rfl, fun u r => by cases r; rfl, T.ki_NoNumbers_NoColours, ?_⟩
      refine ⟨by decide, fun L nL => ?_⟩
      refine ⟨_, rfl, ?_⟩
      refine ⟨.inl ⟨rfl, _, SqL.of upd_same⟩, L, [V.bl true, V.bl false], V.bl true, rfl, rfl, SqL.of upd_same, rfl, rfl, ?_⟩
      refine ⟨rfl, _, rfl, iteF ?_⟩
      refine ⟨.ref u, rfl, .ty "ValueError", .type "ValueError", true, rfl, fun u r => by cases r; rfl, T.kv_NoNumbers, true, rfl, iteF ?_⟩
      refine ⟨by decide, fun M nM => ?_⟩
      refine ⟨_, rfl, ?_⟩
      have hL := same_new nM (.lst [V.str "numbers", V.str "colours"]) _ _ (upd_same (H := H') (a := L) (o := .lst [V.bl true, V.bl false]))
      refine ⟨.inl ⟨rfl, _, SqL.of hL⟩, L, [V.bl true, V.bl false], V.bl true, 0, V.bl true, rfl, rfl, SqL.of hL, rfl, rfl, rfl, rfl, fun m z' lt => absurd lt (Nat.not_lt_zero _), ?_⟩
      refine ⟨M, [V.str "numbers", V.str "colours"], 0, V.str "numbers", rfl, rfl, SqL.of upd_same, rfl, ?_⟩
      exact ⟨by decide, fun p np => q p _ (sm.trans ((same_new nL _).trans ((same_new nM _).trans (same_new np _)))) upd_same⟩
    · refine .inr ⟨a, ns, rfl, ha, l64, ⟨_, _, kd_tup ha⟩, .inl ⟨i, b, t, kd, no, fun H' sm => ⟨true, T.xm_NoColours_PaintError, fun _ u na => ⟨T.C_NoColours, ⟨rfl, rfl, T.xc_NoColours⟩, ?_⟩, fun z => by cases z⟩⟩⟩
      refine ⟨.ref u, rfl, .ref T.C_NoNumbers, .ref T.C_NoNumbers, false, rfl, fun u r => by cases r; rfl, T.ki_NoColours_NoNumbers, ?_⟩
      refine ⟨.ref u, rfl, .ref T.C_NoColours, .ref T.C_NoColours, true, rfl, fun u r => by cases r; rfl, T.ki_NoColours_NoColours, ?_⟩
      refine ⟨by decide, fun L nL => ?_⟩
      refine ⟨_, rfl, ?_⟩
      refine ⟨.inl ⟨rfl, _, SqL.of upd_same⟩, L, [V.bl false, V.bl true], V.bl true, rfl, rfl, SqL.of upd_same, rfl, rfl, ?_⟩
      refine ⟨rfl, _, rfl, iteF ?_⟩
      refine ⟨.ref u, rfl, .ty "ValueError", .type "ValueError", true, rfl, fun u r => by cases r; rfl, T.kv_NoColours, true, rfl, iteF ?_⟩
      refine ⟨by decide, fun M nM => ?_⟩
      refine ⟨_, rfl, ?_⟩
      have hL := same_new nM (.lst [V.str "numbers", V.str "colours"]) _ _ (upd_same (H := H') (a := L) (o := .lst [V.bl false, V.bl true]))
      refine ⟨.inl ⟨rfl, _, SqL.of hL⟩, L, [V.bl false, V.bl true], V.bl true, 1, V.bl true, rfl, rfl, SqL.of hL, rfl, rfl, rfl, rfl, fun m z' lt ez => by
        obtain rfl : m = 0 := by omega
        cases ez
        rfl, ?_⟩
      refine ⟨M, [V.str "numbers", V.str "colours"], 1, V.str "colours", rfl, rfl, SqL.of upd_same, rfl, ?_⟩
      exact ⟨by decide, fun p np => q p _ (sm.trans ((same_new nL _).trans ((same_new nM _).trans (same_new np _)))) upd_same⟩
    · refine .inr ⟨a, ns, rfl, ha, l64, ⟨_, _, kd_tup ha⟩, .inr ⟨z, rfl, bz, bn, fun H' sm => ?_⟩⟩
      exact ⟨by show 2 ≤ sizeLine; decide, fun p np => q p _ (sm.trans (same_new np _)) upd_same⟩
end
end K17
set_option Elab.async false
set_option linter.all false
set_option maxRecDepth 100000
set_option maxHeartbeats 16000000
/-! The law. -/
namespace K17
open PySem L2 Rl
theorem HandAt.updn {H : Hp} {h c D : Addr} {o : HO} (hd : HandAt H h c) (n1 : D ≠ h) (n2 : D ≠ c) : HandAt (upd H D o) h c := by
  obtain ⟨cs, i, b, m, n, h1, h2, h3⟩ := hd.ex
  exact ⟨cs, i, b, m, n, by rw [upd_ne (Ne.symm n1)]; exact h1, by rw [upd_ne (Ne.symm n2)]; exact h2, h3⟩
def dW (s : Str) : PyData := .tuple [.str s, .int 0]
theorem dp_w {K : PySem.W.Frag} {H : Hp} {a : Addr} {s : Str} (h : H a = some (.tup [.str s, .int 0])) : L2.Dp K H (.ref a) (dW s) := .tup (SqT.of h) (.cons (.str _) (.cons (.int _) .nil))
theorem shN : SeqAt.shaped (dW "numbers") = true := shp_of (by unfold dW; simp [PyData.canLay0, PyData.canLayAll0]; decide +kernel) (by unfold dW; simp [PyData.depth, PyData.depthAll])
theorem shC : SeqAt.shaped (dW "colours") = true := shp_of (by unfold dW; simp [PyData.canLay0, PyData.canLayAll0]; decide +kernel) (by unfold dW; simp [PyData.depth, PyData.depthAll])
theorem shT : SeqAt.shaped (dW "told") = true := shp_of (by unfold dW; simp [PyData.canLay0, PyData.canLayAll0]; decide +kernel) (by unfold dW; simp [PyData.depth, PyData.depthAll])
section
variable {P : Program} {w : World} {K : PySem.W.Frag} {mg : Str → Option Value} {base : Heap}
def spLaw (K : PySem.W.Frag) : Sp := fun vs H Q _ => ∃ (a : Addr) (ns : List Int), vs = [.ref a] ∧ SqL K H a (ns.map V.int) ∧ ns.length ≤ 63 ∧ ∀ H', Q (.bl true) H'
theorem ok_law (T : Tx K mg) : FnOk P w K mg base CX0 12 T.f_law T.d_law ["script"] (spLaw K) := by
  refine T.F_law.ok sc_law (fun vs H Q E h => ?_) (fun cdv A outer s H vs Q E hr h => ?_)
  · obtain ⟨a, ns, rfl, _⟩ := h
    rfl
  obtain ⟨a, ns, rfl, hs, l63, q⟩ := h
  refine ⟨_, (pss_cons (ps_set (i := 1) sc_law.nd rfl (.inr rfl) (pe_call (ok_l_hand T) (hr.mono (by decide)) (by rfl) T.m_l_hand T.F_l_hand.kp T.b_l_hand .nil pass0 (pa_cons (pv 0) pa_nil)))
    (pss_cons (ps_for PassesOwn.never rfl (pi_range1 (by rfl) T.g_range (pa_cons pe_int pa_nil)) (pg_name (i := 2) sc_law.nd rfl (.inl rfl))
      (pss_cons (ps_set (i := 3) sc_law.nd rfl (.inl rfl) (pe_call (ok_l_any T) (hr.mono (by decide)) (by rfl) T.m_l_any T.F_l_any.kp T.b_l_any .nil pass0 (pa_cons (pv 1) (pa_cons (pe_lst (pa_cons pe_int (pa_cons pe_int (pa_cons pe_int (pa_cons pe_int (pa_cons pe_int (pa_cons pe_int (pa_cons pe_int (pa_cons pe_int (pa_cons pe_int (pa_cons (pe_call (ok_l_draw T) (hr.mono (by decide)) (by rfl) T.m_l_draw T.F_l_draw.kp T.b_l_draw .nil pass0 (pa_cons (pv 1) (pa_cons pe_int pa_nil))) pa_nil))))))))))) pa_nil))))
        (pss_cons (ps_set (i := 4) sc_law.nd rfl (.inl rfl) (pe_callTy call_tuple_of (by rfl) T.g_tuple (by decide +kernel) (pa_cons (pe_lc (own := [("at", 10)]) (g := (gName 10)) (tt := tYes) (te := (tCall _ _ _ (tCons (tVar 1) tNil))) rfl sc_law.nd (pi_range1 (by rfl) T.g_range (pa_cons (pv 3) pa_nil)) (blkOk_by (own := [("at", 10)]) (N := N_law) (sc := defScope s_law) (by decide +kernel)) (fun _ _ _ _ _ => (pg_name (i := 10) sc_law.nd rfl (.inl rfl))) (fun _ _ _ _ _ => pts_nil) (fun _ _ _ _ _ => (pe_call (ok_l_great T) (hr.mono (by decide)) (by rfl) T.m_l_great T.F_l_great.kp T.b_l_great .nil pass0 (pa_cons (pv 1) pa_nil)))) pa_nil)))
        (pss_cons (ps_set (i := 5) sc_law.nd rfl (.inl rfl) (pe_call (ok_l_any T) (hr.mono (by decide)) (by rfl) T.m_l_any T.F_l_any.kp T.b_l_any .nil pass0 (pa_cons (pv 1) (pa_cons (pe_lst (pa_cons pe_int (pa_cons pe_int (pa_cons pe_int (pa_cons (pe_un un_neg pe_int) (pa_cons pe_int (pa_cons (pe_un un_neg pe_int) (pa_cons pe_int (pa_cons (pe_call (ok_l_great T) (hr.mono (by decide)) (by rfl) T.m_l_great T.F_l_great.kp T.b_l_great .nil pass0 (pa_cons (pv 1) pa_nil)) (pa_cons (pe_call (ok_l_great T) (hr.mono (by decide)) (by rfl) T.m_l_great T.F_l_great.kp T.b_l_great .nil pass0 (pa_cons (pv 1) pa_nil)) pa_nil)))))))))) pa_nil))))
        (pss_cons (ps_asg (pe_call (ok_l_told T) (hr.mono (by decide)) (by rfl) T.m_l_told T.F_l_told.kp T.b_l_told .nil pass0 (pa_cons (pv 4) (pa_cons (pv 5) pa_nil))) (pg_tup rfl (pgs_cons (pg_name (i := 6) sc_law.nd rfl (.inl rfl)) (pgs_cons (pg_name (i := 7) sc_law.nd rfl (.inl rfl)) pgs_nil))))
        (pss_cons (ps_if (PW.pt (pw_or (pt_cmpR op_ne (pv 6) pe_str (nomark _)) (pw_or (pt_val (pe_callB call_isi (by rfl) T.g_isinstance (by decide +kernel) (pa_cons (pv 7) (pa_cons (pe_bltn (v := .ty "bool") (by rfl) T.g_bool (by decide +kernel) rfl) pa_nil)))) (pw_or (pt_not (pt_val (pe_callB call_isi (by rfl) T.g_isinstance (by decide +kernel) (pa_cons (pv 7) (pa_cons (pe_bltn (v := .ty "int") (by rfl) T.g_int (by decide +kernel) rfl) pa_nil))))) (pw_or1 (pt_cmpR op_ne (pv 7) (pe_call (ok_l_sum T) (hr.mono (by decide)) (by rfl) T.m_l_sum T.F_l_sum.kp T.b_l_sum .nil pass0 (pa_cons (pv 4) (pa_cons (pv 5) pa_nil))) (nomark _)))))))
          (pss_one (ps_ret pe_bl))
          pss_nil)
        (pss_cons (ps_par (i := 8) (j := 9) rfl sc_law.nd rfl rfl (by decide) rfl rfl (pa_cons (pe_call (ok_l_no_numbers T) (hr.mono (by decide)) (by rfl) T.m_l_no_numbers T.F_l_no_numbers.kp T.b_l_no_numbers .nil pass0 (pa_cons (pv 1) (pa_cons (pv 4) pa_nil))) (pa_cons (pe_call (ok_l_no_colours T) (hr.mono (by decide)) (by rfl) T.m_l_no_colours T.F_l_no_colours.kp T.b_l_no_colours .nil pass0 (pa_cons (pv 1) pa_nil)) pa_nil)) (by rfl))
        (pss_cons (ps_if (PW.pt (pw_or (pt_cmpR (op_neD hr.units) (pe_call (ok_l_told T) (hr.mono (by decide)) (by rfl) T.m_l_told T.F_l_told.kp T.b_l_told .nil pass0 (pa_cons (pv 8) (pa_cons (pv 5) pa_nil))) (pe_tup (pa_cons pe_str (pa_cons pe_int pa_nil))) (nomark _)) (pw_or1 (pt_cmpR (op_neD hr.units) (pe_call (ok_l_told T) (hr.mono (by decide)) (by rfl) T.m_l_told T.F_l_told.kp T.b_l_told .nil pass0 (pa_cons (pv 8) (pa_cons (pv 9) pa_nil))) (pe_tup (pa_cons pe_str (pa_cons pe_int pa_nil))) (nomark _)))))
          (pss_one (ps_ret pe_bl))
          pss_nil)
        (pss_one (ps_if (pt_cmpR (op_neD hr.units) (pe_call (ok_l_told T) (hr.mono (by decide)) (by rfl) T.m_l_told T.F_l_told.kp T.b_l_told .nil pass0 (pa_cons (pv 4) (pa_cons (pv 9) pa_nil))) (pe_tup (pa_cons pe_str (pa_cons pe_int pa_nil))) (nomark _))
          (pss_one (ps_ret pe_bl))
          pss_nil))))))))))
    (pss_one (ps_ret (pe_and (pe_cmpR (op_eqD hr.units) (pe_call (ok_l_told T) (hr.mono (by decide)) (by rfl) T.m_l_told T.F_l_told.kp T.b_l_told .nil pass0 (pa_cons (pe_tup pa_nil) (pa_cons (pe_call (ok_l_great T) (hr.mono (by decide)) (by rfl) T.m_l_great T.F_l_great.kp T.b_l_great .nil pass0 (pa_cons (pv 1) pa_nil)) pa_nil))) (pe_tup (pa_cons pe_str (pa_cons pe_int pa_nil))) (nomark _)) (pe_one (pe_cmpR (op_eqD hr.units) (pe_call (ok_l_told T) (hr.mono (by decide)) (by rfl) T.m_l_told T.F_l_told.kp T.b_l_told .nil pass0 (pa_cons (pe_tup pa_nil) (pa_cons pe_non pa_nil))) (pe_tup (pa_cons pe_str (pa_cons pe_int pa_nil))) (nomark _)))))))), ?_⟩
  refine ⟨.ref a, rfl, a, ns, rfl, hs, l63, fun h c H1 nh nc sm hd => ?_⟩
  refine ⟨8, rfl, by decide, by decide, ?_⟩
  refine for_range (lo := 0) (n := (8 : Int).toNat) (fun i σ H' => ∃ y2 y3 y4 y5 y6 y7 y8 y9, σ = [some (.ref a), some (.ref h), y2, y3, y4, y5, y6, y7, y8, y9, none] ∧ HandAt H' h c) ⟨none, none, none, none, none, none, none, none, rfl, hd⟩ ?_ ?_
  · intro i σ H2 hi ⟨y2, y3, y4, y5, y6, y7, y8, y9, e, hd2⟩
    subst e
    clear hd sm nh nc
    refine ⟨_, rfl, _, rfl, h, c, 65, rfl, by decide, by decide, hd2, fun d H3 d0 d1 k3 hd3 => ⟨(by show 10 ≤ sizeLine; decide), fun L nL => ?_⟩⟩
    refine ⟨h, c, L, [.int 0, .int 1, .int 2, .int 3, .int 4, .int 7, .int 11, .int 63, .int 64, .int d], rfl, .inl (SqL.of upd_same), (hd3.ne nL).1, (by show 0 < 10; decide), (by show 10 < 1000000; decide), hd3.same (same_new nL _), fun v H4 hv k4 hd4 => ?_⟩
    obtain ⟨m, rfl, m0, m1⟩ : ∃ m : Int, v = .int m ∧ 0 ≤ m ∧ m ≤ 64 := by
      simp only [List.mem_cons, List.not_mem_nil, or_false] at hv
      rcases hv with e | e | e | e | e | e | e | e | e | e <;> exact ⟨_, e, by omega, by omega⟩
    clear hv k4 nL k3 hd3 hd2
    refine ⟨_, rfl, m, rfl, by omega, by omega, fun D nD => lc_range (lo := 0) (n := m.toNat) (fun j H' => Kp h H4 H' ∧ HandAt H' h c ∧ ∃ zs : List Int, H' D = some (.lst (zs.map V.int)) ∧ zs.length = j ∧ ∀ z ∈ zs, bits z 70) ⟨Same.kp (same_new nD _), hd4.same (same_new nD _), [], upd_same, rfl, fun z hz => by cases hz⟩ ?_ ?_⟩
    · intro j H' hj ⟨kp, hd', zs, hD, lz, bz⟩
      have nDh := (hd4.ne nD).1
      refine ⟨rfl, ?_⟩
      refine ⟨_, rfl, h, c, rfl, hd', fun v H6 bv k6 hd6 => ?_⟩
      have sD : HandAt (upd H6 D (.lst (zs.map V.int ++ [V.int v]))) h c := hd6.updn nDh (hd4.ne nD).2
      refine ⟨_, k6 _ _ nDh hD, small1000 (by rw [List.length_map]; omega), ?_, sD, zs ++ [v], ?_, ?_, ?_⟩
      · intro b o n e
        rw [upd_ne (ne_of_none e nD)]
        exact (kp.trans k6) b o n e
      · rw [upd_same, List.map_append]
        rfl
      · rw [List.length_append, lz]
        rfl
      · intro z hz
        rcases List.mem_append.mp hz with hz | hz
        · exact bz z hz
        · rw [List.mem_singleton.mp hz]
          exact bv
    · intro H5 ⟨kp, hd5, zs, hD, lz, bz⟩
      refine ⟨D, zs.map V.int, rfl, .inl ⟨SqL.of hD, fun N nN => ?_⟩⟩
      have hN := upd_same (H := H5) (a := N) (o := .tup (zs.map V.int))
      have hdN := hd5.same (same_new nN (.tup (zs.map V.int)))
      have nNh := (hd5.ne nN).1
      have l64 : zs.length ≤ 64 := by omega
      generalize upd H5 N (.tup (zs.map V.int)) = H6 at *
      clear hD nN hd5 kp nD hd4 D lz m0 m1 H4 H3 H2 d0 d1
      refine ⟨_, rfl, 1, rfl, 2, rfl, .ref h, rfl, h, c, rfl, hdN, fun g1 H7 bg1 k7 hd7 => ⟨.ref h, rfl, h, c, rfl, hd7, fun g2 H8 bg2 k8 hd8 => ⟨(by show 9 ≤ sizeLine; decide), fun L nL => ?_⟩⟩⟩
      refine ⟨h, c, L, [.int 0, .int 0, .int 1, .int (-1), .int 2, .int (-2), .int 3, .int g1, .int g2], rfl, .inl (SqL.of upd_same), (hd8.ne nL).1, (by show 0 < 9; decide), (by show 9 < 1000000; decide), hd8.same (same_new nL _), fun v H9 hv k9 hd9 => ?_⟩
      obtain ⟨z, rfl, bzz⟩ : ∃ z : Int, v = .int z ∧ bits z 70 := by
        simp only [List.mem_cons, List.not_mem_nil, or_false] at hv
        rcases hv with e | e | e | e | e | e | e | e | e <;> first | exact ⟨_, e, bg1⟩ | exact ⟨_, e, bg2⟩ | exact ⟨_, e, by unfold bits; decide⟩
      have hN9 := (k7.trans (k8.trans ((Same.kp (same_new nL _)).trans k9))) N _ nNh hN
      clear hv k9 nL k8 hd8 k7 hd7 hN hdN bg1 bg2
      refine ⟨.ref N, rfl, .int z, rfl, .ref N, .int z, rfl, .inr ⟨N, zs, rfl, hN9, l64, .inr ⟨z, rfl, bzz, bz, fun u H10 s10 hu => ?_⟩⟩⟩
      have hN10 := s10 _ _ hN9
      have hd10 := hd9.same s10
      refine ⟨u, _, rfl, SqT.of hu, rfl, ?_⟩
      refine ⟨_, _, rfl, _, _, rfl, rfl, ?_⟩
      refine ⟨_, rfl, rfl, _, rfl, iteF ?_⟩
      refine ⟨_, rfl, _, _, _, _, false, rfl, .ty _, .base (.int _), kit_ty (by decide +kernel), false, rfl, iteF ?_⟩
      refine ⟨_, rfl, _, _, _, _, true, rfl, .ty _, .base (.int _), kit_ty (by decide +kernel), true, rfl, iteF ?_⟩
      refine ⟨_, rfl, _, rfl, _, rfl, N, z, zs, rfl, SqT.of hN10, by omega, bzz, bz, fun H11 s11 => ⟨rfl, false, by rw [decide_eq_true rfl]; rfl, iteF ?_⟩⟩
      have hN11 := s11 _ _ hN10
      have hd11 := hd10.same s11
      clear hN9 hN10 hd10 hd9 hu s11 s10 H10 H9
      refine ⟨.ref h, rfl, .ref N, rfl, h, c, N, zs, rfl, hd11, hN11, l64, fun x H12 bx k12 hd12 => ?_⟩
      refine ⟨.ref h, rfl, h, c, rfl, hd12, fun o H13 ox k13 hd13 => ⟨x, o, rfl, ?_⟩⟩
      have bx := bx.kp k13
      have hN13 := (k12.trans k13) N _ nNh hN11
      refine ⟨x, rfl, .int z, rfl, x, .int z, rfl, .inl ⟨bx.bad, fun u H14 s1 hu => ?_⟩⟩
      refine ⟨(by show 2 ≤ sizeLine; decide), fun p np => ?_⟩
      have e1 := s1.trans (same_new np (.tup [.str "numbers", .int 0]))
      refine ⟨dW "numbers", dW "numbers", dp_w (same_new np _ _ _ hu), dp_w upd_same, shN, shN, false, by rw [eqv_same shN]; rfl, iteF ?_⟩
      refine ⟨x, rfl, o, rfl, x, o, rfl, .inl ⟨(bx.kp (Same.kp e1)).bad, fun u H15 s2 hu => ?_⟩⟩
      refine ⟨(by show 2 ≤ sizeLine; decide), fun p np => ?_⟩
      have e2 := s2.trans (same_new np (.tup [.str "numbers", .int 0]))
      refine ⟨dW "numbers", dW "numbers", dp_w (same_new np _ _ _ hu), dp_w upd_same, shN, shN, false, by rw [eqv_same shN]; rfl, iteF ?_⟩
      obtain ⟨_, i3, b3, t3, kd, no⟩ := ox.kp (Same.kp (e1.trans e2))
      refine ⟨.ref N, rfl, o, rfl, .ref N, o, rfl, .inr ⟨N, zs, rfl, e2 _ _ (e1 _ _ hN13), l64, .inl ⟨i3, b3, t3, kd, no, fun u H16 s3 hu => ?_⟩⟩⟩
      refine ⟨(by show 2 ≤ sizeLine; decide), fun p np => ?_⟩
      have e3 := s3.trans (same_new np (.tup [.str "colours", .int 0]))
      refine ⟨dW "colours", dW "colours", dp_w (same_new np _ _ _ hu), dp_w upd_same, shC, shC, false, by rw [eqv_same shC]; rfl, iteF ?_⟩
      exact ⟨_, _, _, _, _, _, _, _, rfl, ((hd13.same e1).same e2).same e3⟩
  · intro σ H2 ⟨y2, y3, y4, y5, y6, y7, y8, y9, e, hd2⟩
    subst e
    refine ⟨(by show 0 ≤ sizeLine; decide), fun p np => ?_⟩
    have nph := (hd2.ne np).1
    refine ⟨.ref h, rfl, h, c, rfl, hd2.same (same_new np _), fun g H3 bg k3 hd3 => ?_⟩
    refine ⟨.ref p, .int g, rfl, .inr ⟨p, [], rfl, k3 _ _ nph upd_same, by decide, .inr ⟨g, rfl, bg, (fun n hn => by cases hn), fun u H4 s4 hu => ?_⟩⟩⟩
    refine ⟨(by show 2 ≤ sizeLine; decide), fun p2 np2 => ?_⟩
    refine ⟨dW "told", dW "told", dp_w (same_new np2 _ _ _ hu), dp_w upd_same, shT, shT, true, by rw [eqv_same shT], iteT ?_⟩
    refine ⟨(by show 0 ≤ sizeLine; decide), fun p3 np3 => ?_⟩
    refine ⟨.ref p3, .non, rfl, .inr ⟨p3, [], rfl, upd_same, by decide, .inl ⟨_, _, _, kd_non, rfl, fun u2 H5 s5 hu2 => ?_⟩⟩⟩
    refine ⟨(by show 2 ≤ sizeLine; decide), fun p4 np4 => ?_⟩
    refine ⟨dW "colours", dW "colours", dp_w (same_new np4 _ _ _ hu2), dp_w upd_same, shC, shC, ?_⟩
    rw [eqv_same shC]
    exact q _
end
end K17
namespace K17
open PySem L2 Rl
theorem all_mk {l : PySem.W.OpenLaw} {w : World} {K : PySem.W.Frag} {h : Heap} {mg : Str → Option Value} {fa f0 f1 f2 f3 f4 f5 f6 f7 f8 f9 f10 f11 f12 f13 f14 f15 f16 f17 f18 f19 f20 C_Web C_PaintError C_NoNumbers C_NoColours : Addr} (X : K.In h) (G : h.Ns mainGlobals mg) (hfa : mg "law" = some (.ref fa))
    {od0 an0 od1 an1 od2 an2 od3 an3 od4 an4 od5 an5 od6 an6 od7 an7 od8 an8 od9 an9 od10 an10 od11 an11 od12 an12 od13 an13 od14 an14 od15 an15 od16 an16 od17 an17 od18 an18 od19 an19 od20 an20 : Option Addr} {sl0 sl1 sl2 sl3 sl4 sl5 sl6 sl7 sl8 sl9 sl10 sl11 sl12 sl13 sl14 sl15 sl16 sl17 sl18 sl19 sl20 : Array (Option Value)} {oc0 kV0 dc0 pm0 cd0 ct0 oc1 kV1 dc1 pm1 cd1 ct1 oc2 kV2 dc2 pm2 cd2 ct2 oc3 kV3 dc3 pm3 cd3 ct3 oc4 kV4 dc4 pm4 cd4 ct4 oc5 kV5 dc5 pm5 cd5 ct5 oc6 kV6 dc6 pm6 cd6 ct6 oc7 kV7 dc7 pm7 cd7 ct7 oc8 kV8 dc8 pm8 cd8 ct8 oc9 kV9 dc9 pm9 cd9 ct9 oc10 kV10 dc10 pm10 cd10 ct10 oc11 kV11 dc11 pm11 cd11 ct11 oc12 kV12 dc12 pm12 cd12 ct12 oc13 kV13 dc13 pm13 cd13 ct13 oc14 kV14 dc14 pm14 cd14 ct14 oc15 kV15 dc15 pm15 cd15 ct15 oc16 kV16 dc16 pm16 cd16 ct16 oc17 kV17 dc17 pm17 cd17 ct17 oc18 kV18 dc18 pm18 cd18 ct18 oc19 kV19 dc19 pm19 cd19 ct19 oc20 kV20 dc20 pm20 cd20 ct20 : Value} {t_MOST_NUMBERS t_MOST_PLACES t_MOST_TIES : Tok} {nm_NoNumbers q_NoNumbers : Str} {N_NoNumbers : Addr} {bs_NoNumbers : List Value} {sn_NoNumbers : List Str} {sub_NoNumbers : List Value} {ab_NoNumbers : Bool} {col_NoNumbers : Option Bool} {dd_NoNumbers : Option Addr} {m0_NoNumbers m1_NoNumbers m2_NoNumbers m3_NoNumbers m5_NoNumbers : Option Value} {nm_NoColours q_NoColours : Str} {N_NoColours : Addr} {bs_NoColours : List Value} {sn_NoColours : List Str} {sub_NoColours : List Value} {ab_NoColours : Bool} {col_NoColours : Option Bool} {dd_NoColours : Option Addr} {m0_NoColours m1_NoColours m2_NoColours m3_NoColours m5_NoColours : Option Value}
    (aC_Web : PySem.W.nsIn K mainGlobals "Web" = some (some (.ref C_Web)))
    (aC_PaintError : PySem.W.nsIn K mainGlobals "PaintError" = some (some (.ref C_PaintError)))
    (aC_NoNumbers : PySem.W.nsIn K mainGlobals "NoNumbers" = some (some (.ref C_NoNumbers)))
    (aC_NoColours : PySem.W.nsIn K mainGlobals "NoColours" = some (some (.ref C_NoColours)))
    (a0 : PySem.W.findIn K (.ref C_NoColours) "__init__" = some (some (.ref f0)))
    (i0 : PySem.W.isFn K (.ref f0) = true)
    (l0 : K.lookup f0 = some ⟨oc0, od0, .func (PySem.W.fnOf "__init__" "NoColours.__init__" (defArgs s_NoColours___init__) (defBody s_NoColours___init__) (defScope s_NoColours___init__) .none kV0 dc0 pm0 an0 cd0 ct0), sl0⟩)
    (c0 : PySem.W.codeIn K cd0 "NoColours.__init__" = true)
    (k0 : PySem.W.keepIn K (.ref f0) = true)
    (a1 : PySem.W.findIn K (.ref C_NoNumbers) "__init__" = some (some (.ref f1)))
    (i1 : PySem.W.isFn K (.ref f1) = true)
    (l1 : K.lookup f1 = some ⟨oc1, od1, .func (PySem.W.fnOf "__init__" "NoNumbers.__init__" (defArgs s_NoNumbers___init__) (defBody s_NoNumbers___init__) (defScope s_NoNumbers___init__) .none kV1 dc1 pm1 an1 cd1 ct1), sl1⟩)
    (c1 : PySem.W.codeIn K cd1 "NoNumbers.__init__" = true)
    (k1 : PySem.W.keepIn K (.ref f1) = true)
    (a2 : PySem.W.nsIn K mainGlobals "is_integer" = some (some (.ref f2)))
    (l2 : K.lookup f2 = some ⟨oc2, od2, .func (PySem.W.fnOf "is_integer" "is_integer" (defArgs s_is_integer) (defBody s_is_integer) (defScope s_is_integer) .none kV2 dc2 pm2 an2 cd2 ct2), sl2⟩)
    (c2 : PySem.W.codeIn K cd2 "is_integer" = true)
    (k2 : PySem.W.keepIn K (.ref f2) = true)
    (a3 : PySem.W.nsIn K mainGlobals "is_between" = some (some (.ref f3)))
    (l3 : K.lookup f3 = some ⟨oc3, od3, .func (PySem.W.fnOf "is_between" "is_between" (defArgs s_is_between) (defBody s_is_between) (defScope s_is_between) .none kV3 dc3 pm3 an3 cd3 ct3), sl3⟩)
    (c3 : PySem.W.codeIn K cd3 "is_between" = true)
    (k3 : PySem.W.keepIn K (.ref f3) = true)
    (a4 : PySem.W.nsIn K mainGlobals "is_below" = some (some (.ref f4)))
    (l4 : K.lookup f4 = some ⟨oc4, od4, .func (PySem.W.fnOf "is_below" "is_below" (defArgs s_is_below) (defBody s_is_below) (defScope s_is_below) .none kV4 dc4 pm4 an4 cd4 ct4), sl4⟩)
    (c4 : PySem.W.codeIn K cd4 "is_below" = true)
    (k4 : PySem.W.keepIn K (.ref f4) = true)
    (a5 : PySem.W.nsIn K mainGlobals "is_pair" = some (some (.ref f5)))
    (l5 : K.lookup f5 = some ⟨oc5, od5, .func (PySem.W.fnOf "is_pair" "is_pair" (defArgs s_is_pair) (defBody s_is_pair) (defScope s_is_pair) .none kV5 dc5 pm5 an5 cd5 ct5), sl5⟩)
    (c5 : PySem.W.codeIn K cd5 "is_pair" = true)
    (k5 : PySem.W.keepIn K (.ref f5) = true)
    (a6 : PySem.W.nsIn K mainGlobals "is_integers" = some (some (.ref f6)))
    (l6 : K.lookup f6 = some ⟨oc6, od6, .func (PySem.W.fnOf "is_integers" "is_integers" (defArgs s_is_integers) (defBody s_is_integers) (defScope s_is_integers) .none kV6 dc6 pm6 an6 cd6 ct6), sl6⟩)
    (c6 : PySem.W.codeIn K cd6 "is_integers" = true)
    (k6 : PySem.W.keepIn K (.ref f6) = true)
    (a7 : PySem.W.findIn K (.ref C_Web) "__init__" = some (some (.ref f7)))
    (i7 : PySem.W.isFn K (.ref f7) = true)
    (l7 : K.lookup f7 = some ⟨oc7, od7, .func (PySem.W.fnOf "__init__" "Web.__init__" (defArgs s_webI) (defBody s_webI) (defScope s_webI) .none kV7 dc7 pm7 an7 cd7 ct7), sl7⟩)
    (c7 : PySem.W.codeIn K cd7 "Web.__init__" = true)
    (k7 : PySem.W.keepIn K (.ref f7) = true)
    (a8 : PySem.W.findIn K (.ref C_Web) "__eq__" = some (some (.ref f8)))
    (i8 : PySem.W.isFn K (.ref f8) = true)
    (l8 : K.lookup f8 = some ⟨oc8, od8, .func (PySem.W.fnOf "__eq__" "Web.__eq__" (defArgs s_webE) (defBody s_webE) (defScope s_webE) .none kV8 dc8 pm8 an8 cd8 ct8), sl8⟩)
    (c8 : PySem.W.codeIn K cd8 "Web.__eq__" = true)
    (k8 : PySem.W.keepIn K (.ref f8) = true)
    (a9 : PySem.W.nsIn K mainGlobals "_is_tie" = some (some (.ref f9)))
    (l9 : K.lookup f9 = some ⟨oc9, od9, .func (PySem.W.fnOf "_is_tie" "_is_tie" (defArgs s_is_tie) (defBody s_is_tie) (defScope s_is_tie) .none kV9 dc9 pm9 an9 cd9 ct9), sl9⟩)
    (c9 : PySem.W.codeIn K cd9 "_is_tie" = true)
    (k9 : PySem.W.keepIn K (.ref f9) = true)
    (a10 : PySem.W.nsIn K mainGlobals "worth" = some (some (.ref f10)))
    (l10 : K.lookup f10 = some ⟨oc10, od10, .func (PySem.W.fnOf "worth" "worth" (defArgs s_worth) (defBody s_worth) (defScope s_worth) .none kV10 dc10 pm10 an10 cd10 ct10), sl10⟩)
    (c10 : PySem.W.codeIn K cd10 "worth" = true)
    (k10 : PySem.W.keepIn K (.ref f10) = true)
    (a11 : PySem.W.nsIn K mainGlobals "_law_hand" = some (some (.ref f11)))
    (l11 : K.lookup f11 = some ⟨oc11, od11, .func (PySem.W.fnOf "_law_hand" "_law_hand" (defArgs s_l_hand) (defBody s_l_hand) (defScope s_l_hand) .none kV11 dc11 pm11 an11 cd11 ct11), sl11⟩)
    (c11 : PySem.W.codeIn K cd11 "_law_hand" = true)
    (k11 : PySem.W.keepIn K (.ref f11) = true)
    (a12 : PySem.W.nsIn K mainGlobals "_law_draw" = some (some (.ref f12)))
    (l12 : K.lookup f12 = some ⟨oc12, od12, .func (PySem.W.fnOf "_law_draw" "_law_draw" (defArgs s_l_draw) (defBody s_l_draw) (defScope s_l_draw) .none kV12 dc12 pm12 an12 cd12 ct12), sl12⟩)
    (c12 : PySem.W.codeIn K cd12 "_law_draw" = true)
    (k12 : PySem.W.keepIn K (.ref f12) = true)
    (a13 : PySem.W.nsIn K mainGlobals "_law_any" = some (some (.ref f13)))
    (l13 : K.lookup f13 = some ⟨oc13, od13, .func (PySem.W.fnOf "_law_any" "_law_any" (defArgs s_l_any) (defBody s_l_any) (defScope s_l_any) .none kV13 dc13 pm13 an13 cd13 ct13), sl13⟩)
    (c13 : PySem.W.codeIn K cd13 "_law_any" = true)
    (k13 : PySem.W.keepIn K (.ref f13) = true)
    (a14 : PySem.W.nsIn K mainGlobals "_law_great" = some (some (.ref f14)))
    (l14 : K.lookup f14 = some ⟨oc14, od14, .func (PySem.W.fnOf "_law_great" "_law_great" (defArgs s_l_great) (defBody s_l_great) (defScope s_l_great) .none kV14 dc14 pm14 an14 cd14 ct14), sl14⟩)
    (c14 : PySem.W.codeIn K cd14 "_law_great" = true)
    (k14 : PySem.W.keepIn K (.ref f14) = true)
    (a15 : PySem.W.nsIn K mainGlobals "_law_sum" = some (some (.ref f15)))
    (l15 : K.lookup f15 = some ⟨oc15, od15, .func (PySem.W.fnOf "_law_sum" "_law_sum" (defArgs s_l_sum) (defBody s_l_sum) (defScope s_l_sum) .none kV15 dc15 pm15 an15 cd15 ct15), sl15⟩)
    (c15 : PySem.W.codeIn K cd15 "_law_sum" = true)
    (k15 : PySem.W.keepIn K (.ref f15) = true)
    (a16 : PySem.W.nsIn K mainGlobals "_law_deep" = some (some (.ref f16)))
    (l16 : K.lookup f16 = some ⟨oc16, od16, .func (PySem.W.fnOf "_law_deep" "_law_deep" (defArgs s_l_deep) (defBody s_l_deep) (defScope s_l_deep) .none kV16 dc16 pm16 an16 cd16 ct16), sl16⟩)
    (c16 : PySem.W.codeIn K cd16 "_law_deep" = true)
    (k16 : PySem.W.keepIn K (.ref f16) = true)
    (a17 : PySem.W.nsIn K mainGlobals "_law_no_numbers" = some (some (.ref f17)))
    (l17 : K.lookup f17 = some ⟨oc17, od17, .func (PySem.W.fnOf "_law_no_numbers" "_law_no_numbers" (defArgs s_l_no_numbers) (defBody s_l_no_numbers) (defScope s_l_no_numbers) .none kV17 dc17 pm17 an17 cd17 ct17), sl17⟩)
    (c17 : PySem.W.codeIn K cd17 "_law_no_numbers" = true)
    (k17 : PySem.W.keepIn K (.ref f17) = true)
    (a18 : PySem.W.nsIn K mainGlobals "_law_no_colours" = some (some (.ref f18)))
    (l18 : K.lookup f18 = some ⟨oc18, od18, .func (PySem.W.fnOf "_law_no_colours" "_law_no_colours" (defArgs s_l_no_colours) (defBody s_l_no_colours) (defScope s_l_no_colours) .none kV18 dc18 pm18 an18 cd18 ct18), sl18⟩)
    (c18 : PySem.W.codeIn K cd18 "_law_no_colours" = true)
    (k18 : PySem.W.keepIn K (.ref f18) = true)
    (a19 : PySem.W.nsIn K mainGlobals "_law_told" = some (some (.ref f19)))
    (l19 : K.lookup f19 = some ⟨oc19, od19, .func (PySem.W.fnOf "_law_told" "_law_told" (defArgs s_l_told) (defBody s_l_told) (defScope s_l_told) .none kV19 dc19 pm19 an19 cd19 ct19), sl19⟩)
    (c19 : PySem.W.codeIn K cd19 "_law_told" = true)
    (k19 : PySem.W.keepIn K (.ref f19) = true)
    (a20 : PySem.W.nsIn K mainGlobals "law" = some (some (.ref f20)))
    (l20 : K.lookup f20 = some ⟨oc20, od20, .func (PySem.W.fnOf "law" "law" (defArgs s_law) (defBody s_law) (defScope s_law) .none kV20 dc20 pm20 an20 cd20 ct20), sl20⟩)
    (c20 : PySem.W.codeIn K cd20 "law" = true)
    (k20 : PySem.W.keepIn K (.ref f20) = true)
    (pg_Web : PySem.W.plainGet K C_Web Str.empty = true)
    (hd_Web : PySem.W.hasDictIn K C_Web = true)
    (po_Web : PySem.W.plainOver K C_Web = true)
    (sa_Web : PySem.W.findIn K (.ref C_Web) "__setattr__" = some (some (.builtin "object.__setattr__")))
    (mk_Web : PySem.W.makesIn K C_Web = true)
    (kc_Web : PySem.W.keepIn K (.ref C_Web) = true)
    (ic_Web : PySem.W.findIn K (.ref C_Web) "__class__" = some (some (.builtin "object.__class__")))
    (im_Web : PySem.W.mroIn K C_Web (.type "object") = some true)
    (no_Web_many : PySem.W.findIn K (.ref C_Web) "many" = some none)
    (no_Web_ties : PySem.W.findIn K (.ref C_Web) "ties" = some none)
    (ia : PySem.W.specialIn K (.builtin "object.__class__") "__get__" = some (some (.builtin "getset_descriptor.__get__")))
    (ib : PySem.W.takesIn K (.builtin "object.__class__") = some true)
    (kw_Web_int : PySem.W.kitOne K (.ref C_Web) (.type "int") = some false)
    (kw_Web_bool : PySem.W.kitOne K (.ref C_Web) (.type "bool") = some false)
    (kw_Web_tuple : PySem.W.kitOne K (.ref C_Web) (.type "tuple") = some false)
    (lx_NoNumbers : K.lookup C_NoNumbers = some (excClassObj nm_NoNumbers q_NoNumbers C_NoNumbers N_NoNumbers bs_NoNumbers [.ref C_PaintError, .type "ValueError", .type "Exception", .type "BaseException", .type "object"] true sn_NoNumbers sub_NoNumbers ab_NoNumbers col_NoNumbers dd_NoNumbers m0_NoNumbers m1_NoNumbers m2_NoNumbers m3_NoNumbers m5_NoNumbers "ValueError.__new__"))
    (sa_NoNumbers : PySem.W.findIn K (.ref C_NoNumbers) "__setattr__" = some (some (.builtin "object.__setattr__")))
    (eb_NoNumbers : PySem.W.subIn K (.ref C_NoNumbers) (.type "BaseException") = some true)
    (ty_NoNumbers : PySem.W.typeIn K (.ref C_NoNumbers) = some (.type "type"))
    (kc_NoNumbers : PySem.W.keepIn K (.ref C_NoNumbers) = true)
    (ot_NoNumbers : PySem.W.typeIn K (.ref f1) = some (.type "function"))
    (ga_NoNumbers : PySem.W.findIn K (.ref C_NoNumbers) "__getattribute__" = some (some (.builtin "BaseException.__getattribute__")))
    (gg_NoNumbers : PySem.W.findIn K (.ref C_NoNumbers) "__getattr__" = some none)
    (hd_NoNumbers : PySem.W.hasDictIn K C_NoNumbers = true)
    (ic_NoNumbers : PySem.W.findIn K (.ref C_NoNumbers) "__class__" = some (some (.builtin "object.__class__")))
    (im_NoNumbers : PySem.W.mroIn K C_NoNumbers (.type "object") = some true)
    (kv_NoNumbers : PySem.W.kitOne K (.ref C_NoNumbers) (.type "ValueError") = some true)
    (ki_NoNumbers_NoNumbers : PySem.W.kitOne K (.ref C_NoNumbers) (.ref C_NoNumbers) = some true)
    (ki_NoNumbers_NoColours : PySem.W.kitOne K (.ref C_NoNumbers) (.ref C_NoColours) = some false)
    (xm_NoNumbers_PaintError : PySem.W.exmOne K (.ref C_NoNumbers) (.ref C_PaintError) = some true)
    (lx_NoColours : K.lookup C_NoColours = some (excClassObj nm_NoColours q_NoColours C_NoColours N_NoColours bs_NoColours [.ref C_PaintError, .type "ValueError", .type "Exception", .type "BaseException", .type "object"] true sn_NoColours sub_NoColours ab_NoColours col_NoColours dd_NoColours m0_NoColours m1_NoColours m2_NoColours m3_NoColours m5_NoColours "ValueError.__new__"))
    (sa_NoColours : PySem.W.findIn K (.ref C_NoColours) "__setattr__" = some (some (.builtin "object.__setattr__")))
    (eb_NoColours : PySem.W.subIn K (.ref C_NoColours) (.type "BaseException") = some true)
    (ty_NoColours : PySem.W.typeIn K (.ref C_NoColours) = some (.type "type"))
    (kc_NoColours : PySem.W.keepIn K (.ref C_NoColours) = true)
    (ot_NoColours : PySem.W.typeIn K (.ref f0) = some (.type "function"))
    (ga_NoColours : PySem.W.findIn K (.ref C_NoColours) "__getattribute__" = some (some (.builtin "BaseException.__getattribute__")))
    (gg_NoColours : PySem.W.findIn K (.ref C_NoColours) "__getattr__" = some none)
    (hd_NoColours : PySem.W.hasDictIn K C_NoColours = true)
    (ic_NoColours : PySem.W.findIn K (.ref C_NoColours) "__class__" = some (some (.builtin "object.__class__")))
    (im_NoColours : PySem.W.mroIn K C_NoColours (.type "object") = some true)
    (kv_NoColours : PySem.W.kitOne K (.ref C_NoColours) (.type "ValueError") = some true)
    (ki_NoColours_NoNumbers : PySem.W.kitOne K (.ref C_NoColours) (.ref C_NoNumbers) = some false)
    (ki_NoColours_NoColours : PySem.W.kitOne K (.ref C_NoColours) (.ref C_NoColours) = some true)
    (xm_NoColours_PaintError : PySem.W.exmOne K (.ref C_NoColours) (.ref C_PaintError) = some true)
    (v_MOST_NUMBERS : PySem.W.nsIn K mainGlobals "MOST_NUMBERS" = some (some (.int 64 t_MOST_NUMBERS)))
    (v_MOST_PLACES : PySem.W.nsIn K mainGlobals "MOST_PLACES" = some (some (.int 10 t_MOST_PLACES)))
    (v_MOST_TIES : PySem.W.nsIn K mainGlobals "MOST_TIES" = some (some (.int 16 t_MOST_TIES)))
    (z_ValueError : PySem.W.nsIn K mainGlobals "ValueError" = some none)
    (z_abs : PySem.W.nsIn K mainGlobals "abs" = some none)
    (z_all : PySem.W.nsIn K mainGlobals "all" = some none)
    (z_bool : PySem.W.nsIn K mainGlobals "bool" = some none)
    (z_enumerate : PySem.W.nsIn K mainGlobals "enumerate" = some none)
    (z_int : PySem.W.nsIn K mainGlobals "int" = some none)
    (z_isinstance : PySem.W.nsIn K mainGlobals "isinstance" = some none)
    (z_len : PySem.W.nsIn K mainGlobals "len" = some none)
    (z_list : PySem.W.nsIn K mainGlobals "list" = some none)
    (z_range : PySem.W.nsIn K mainGlobals "range" = some none)
    (z_reversed : PySem.W.nsIn K mainGlobals "reversed" = some none)
    (z_tuple : PySem.W.nsIn K mainGlobals "tuple" = some none) :
    ∃ fd : FuncData, (∀ (s : Shared) (v : Value), BindsTo s fd ⟨[v], []⟩ [("script", v)]) ∧ ∀ base : Heap, K.In base → base.Ns mainGlobals mg → FnOk l.prog w K mg base CX0 12 fa fd ["script"] (spLaw K) := by
  have e := hfa.symm.trans (PySem.W.mg_of X G a20)
  cases e
  have F0 := fun_mk (st := s_NoColours___init__) l0 c0 k0
  have b0 := F0.binds (ps := ["self"]) fun _ _ _ _ _ _ us hl => match us, hl with | [_], _ => rfl
  have F1 := fun_mk (st := s_NoNumbers___init__) l1 c1 k1
  have b1 := F1.binds (ps := ["self"]) fun _ _ _ _ _ _ us hl => match us, hl with | [_], _ => rfl
  have F2 := fun_mk (st := s_is_integer) l2 c2 k2
  have b2 := F2.binds (ps := ["thing"]) fun _ _ _ _ _ _ us hl => match us, hl with | [_], _ => rfl
  have F3 := fun_mk (st := s_is_between) l3 c3 k3
  have b3 := F3.binds (ps := ["thing", "least", "most"]) fun _ _ _ _ _ _ us hl => match us, hl with | [_, _, _], _ => rfl
  have F4 := fun_mk (st := s_is_below) l4 c4 k4
  have b4 := F4.binds (ps := ["thing", "bound"]) fun _ _ _ _ _ _ us hl => match us, hl with | [_, _], _ => rfl
  have F5 := fun_mk (st := s_is_pair) l5 c5 k5
  have b5 := F5.binds (ps := ["thing"]) fun _ _ _ _ _ _ us hl => match us, hl with | [_], _ => rfl
  have F6 := fun_mk (st := s_is_integers) l6 c6 k6
  have b6 := F6.binds (ps := ["thing"]) fun _ _ _ _ _ _ us hl => match us, hl with | [_], _ => rfl
  have F7 := fun_mk (st := s_webI) l7 c7 k7
  have b7 := F7.binds (ps := ["self", "many", "ties"]) fun _ _ _ _ _ _ us hl => match us, hl with | [_, _, _], _ => rfl
  have F8 := fun_mk (st := s_webE) l8 c8 k8
  have b8 := F8.binds (ps := ["self", "other"]) fun _ _ _ _ _ _ us hl => match us, hl with | [_, _], _ => rfl
  have F9 := fun_mk (st := s_is_tie) l9 c9 k9
  have b9 := F9.binds (ps := ["thing", "many"]) fun _ _ _ _ _ _ us hl => match us, hl with | [_, _], _ => rfl
  have F10 := fun_mk (st := s_worth) l10 c10 k10
  have b10 := F10.binds (ps := ["numbers", "q"]) fun _ _ _ _ _ _ us hl => match us, hl with | [_, _], _ => rfl
  have F11 := fun_mk (st := s_l_hand) l11 c11 k11
  have b11 := F11.binds (ps := ["script"]) fun _ _ _ _ _ _ us hl => match us, hl with | [_], _ => rfl
  have F12 := fun_mk (st := s_l_draw) l12 c12 k12
  have b12 := F12.binds (ps := ["hand", "many"]) fun _ _ _ _ _ _ us hl => match us, hl with | [_, _], _ => rfl
  have F13 := fun_mk (st := s_l_any) l13 c13 k13
  have b13 := F13.binds (ps := ["hand", "some"]) fun _ _ _ _ _ _ us hl => match us, hl with | [_, _], _ => rfl
  have F14 := fun_mk (st := s_l_great) l14 c14 k14
  have b14 := F14.binds (ps := ["hand"]) fun _ _ _ _ _ _ us hl => match us, hl with | [_], _ => rfl
  have F15 := fun_mk (st := s_l_sum) l15 c15 k15
  have b15 := F15.binds (ps := ["numbers", "q"]) fun _ _ _ _ _ _ us hl => match us, hl with | [_, _], _ => rfl
  have F16 := fun_mk (st := s_l_deep) l16 c16 k16
  have b16 := F16.binds (ps := ["hand"]) fun _ _ _ _ _ _ us hl => match us, hl with | [_], _ => rfl
  have F17 := fun_mk (st := s_l_no_numbers) l17 c17 k17
  have b17 := F17.binds (ps := ["hand", "numbers"]) fun _ _ _ _ _ _ us hl => match us, hl with | [_, _], _ => rfl
  have F18 := fun_mk (st := s_l_no_colours) l18 c18 k18
  have b18 := F18.binds (ps := ["hand"]) fun _ _ _ _ _ _ us hl => match us, hl with | [_], _ => rfl
  have F19 := fun_mk (st := s_l_told) l19 c19 k19
  have b19 := F19.binds (ps := ["numbers", "q"]) fun _ _ _ _ _ _ us hl => match us, hl with | [_, _], _ => rfl
  have F20 := fun_mk (st := s_law) l20 c20 k20
  have b20 := F20.binds (ps := ["script"]) fun _ _ _ _ _ _ us hl => match us, hl with | [_], _ => rfl
  let T : Tx K mg := {
    f_NoColours___init__ := f0, d_NoColours___init__ := _, F_NoColours___init__ := F0, b_NoColours___init__ := b0,
    f_NoNumbers___init__ := f1, d_NoNumbers___init__ := _, F_NoNumbers___init__ := F1, b_NoNumbers___init__ := b1,
    f_is_integer := f2, d_is_integer := _, F_is_integer := F2, b_is_integer := b2, m_is_integer := PySem.W.mg_of X G a2,
    f_is_between := f3, d_is_between := _, F_is_between := F3, b_is_between := b3, m_is_between := PySem.W.mg_of X G a3,
    f_is_below := f4, d_is_below := _, F_is_below := F4, b_is_below := b4, m_is_below := PySem.W.mg_of X G a4,
    f_is_pair := f5, d_is_pair := _, F_is_pair := F5, b_is_pair := b5, m_is_pair := PySem.W.mg_of X G a5,
    f_is_integers := f6, d_is_integers := _, F_is_integers := F6, b_is_integers := b6, m_is_integers := PySem.W.mg_of X G a6,
    f_webI := f7, d_webI := _, F_webI := F7, b_webI := b7,
    f_webE := f8, d_webE := _, F_webE := F8, b_webE := b8,
    f_is_tie := f9, d_is_tie := _, F_is_tie := F9, b_is_tie := b9, m_is_tie := PySem.W.mg_of X G a9,
    f_worth := f10, d_worth := _, F_worth := F10, b_worth := b10, m_worth := PySem.W.mg_of X G a10,
    f_l_hand := f11, d_l_hand := _, F_l_hand := F11, b_l_hand := b11, m_l_hand := PySem.W.mg_of X G a11,
    f_l_draw := f12, d_l_draw := _, F_l_draw := F12, b_l_draw := b12, m_l_draw := PySem.W.mg_of X G a12,
    f_l_any := f13, d_l_any := _, F_l_any := F13, b_l_any := b13, m_l_any := PySem.W.mg_of X G a13,
    f_l_great := f14, d_l_great := _, F_l_great := F14, b_l_great := b14, m_l_great := PySem.W.mg_of X G a14,
    f_l_sum := f15, d_l_sum := _, F_l_sum := F15, b_l_sum := b15, m_l_sum := PySem.W.mg_of X G a15,
    f_l_deep := f16, d_l_deep := _, F_l_deep := F16, b_l_deep := b16, m_l_deep := PySem.W.mg_of X G a16,
    f_l_no_numbers := f17, d_l_no_numbers := _, F_l_no_numbers := F17, b_l_no_numbers := b17, m_l_no_numbers := PySem.W.mg_of X G a17,
    f_l_no_colours := f18, d_l_no_colours := _, F_l_no_colours := F18, b_l_no_colours := b18, m_l_no_colours := PySem.W.mg_of X G a18,
    f_l_told := f19, d_l_told := _, F_l_told := F19, b_l_told := b19, m_l_told := PySem.W.mg_of X G a19,
    f_law := fa, d_law := _, F_law := F20, b_law := b20, m_law := PySem.W.mg_of X G a20,
    C_Web := C_Web, m_Web := PySem.W.mg_of X G aC_Web, cl_Web := ⟨pg_Web, hd_Web, po_Web, sa_Web⟩, mk_Web := ⟨mk_Web, a7, i7, kc_Web⟩,
    eq_Web := a8, eqf_Web := i8,
    ic_Web := ic_Web, im_Web := im_Web, no_Web_many := no_Web_many, no_Web_ties := no_Web_ties,
    ia := ia, ib := ib,
    kw_Web_int := kw_Web_int,
    kw_Web_bool := kw_Web_bool,
    kw_Web_tuple := kw_Web_tuple,
    C_PaintError := C_PaintError, m_PaintError := PySem.W.mg_of X G aC_PaintError,
    C_NoNumbers := C_NoNumbers, m_NoNumbers := PySem.W.mg_of X G aC_NoNumbers, ox_NoNumbers := ⟨⟨nm_NoNumbers, q_NoNumbers, N_NoNumbers, bs_NoNumbers, _, sn_NoNumbers, sub_NoNumbers, ab_NoNumbers, col_NoNumbers, dd_NoNumbers, m0_NoNumbers, m1_NoNumbers, m2_NoNumbers, m3_NoNumbers, m5_NoNumbers, lx_NoNumbers, by first | rfl | decide +kernel⟩, sa_NoNumbers, eb_NoNumbers, ty_NoNumbers, kc_NoNumbers⟩,
    oi_NoNumbers := a1, ot_NoNumbers := ot_NoNumbers, xc_NoNumbers := ⟨ga_NoNumbers, gg_NoNumbers, eb_NoNumbers, hd_NoNumbers, ic_NoNumbers, ia, ib, im_NoNumbers⟩, kv_NoNumbers := kv_NoNumbers, ki_NoNumbers_NoNumbers := ki_NoNumbers_NoNumbers, ki_NoNumbers_NoColours := ki_NoNumbers_NoColours, xm_NoNumbers_PaintError := xm_NoNumbers_PaintError,
    C_NoColours := C_NoColours, m_NoColours := PySem.W.mg_of X G aC_NoColours, ox_NoColours := ⟨⟨nm_NoColours, q_NoColours, N_NoColours, bs_NoColours, _, sn_NoColours, sub_NoColours, ab_NoColours, col_NoColours, dd_NoColours, m0_NoColours, m1_NoColours, m2_NoColours, m3_NoColours, m5_NoColours, lx_NoColours, by first | rfl | decide +kernel⟩, sa_NoColours, eb_NoColours, ty_NoColours, kc_NoColours⟩,
    oi_NoColours := a0, ot_NoColours := ot_NoColours, xc_NoColours := ⟨ga_NoColours, gg_NoColours, eb_NoColours, hd_NoColours, ic_NoColours, ia, ib, im_NoColours⟩, kv_NoColours := kv_NoColours, ki_NoColours_NoNumbers := ki_NoColours_NoNumbers, ki_NoColours_NoColours := ki_NoColours_NoColours, xm_NoColours_PaintError := xm_NoColours_PaintError,
    t_MOST_NUMBERS := t_MOST_NUMBERS, m_MOST_NUMBERS := PySem.W.mg_of X G v_MOST_NUMBERS,
    t_MOST_PLACES := t_MOST_PLACES, m_MOST_PLACES := PySem.W.mg_of X G v_MOST_PLACES,
    t_MOST_TIES := t_MOST_TIES, m_MOST_TIES := PySem.W.mg_of X G v_MOST_TIES,
    g_ValueError := PySem.W.mg_none_of X G z_ValueError, g_abs := PySem.W.mg_none_of X G z_abs, g_all := PySem.W.mg_none_of X G z_all, g_bool := PySem.W.mg_none_of X G z_bool, g_enumerate := PySem.W.mg_none_of X G z_enumerate, g_int := PySem.W.mg_none_of X G z_int, g_isinstance := PySem.W.mg_none_of X G z_isinstance, g_len := PySem.W.mg_none_of X G z_len, g_list := PySem.W.mg_none_of X G z_list, g_range := PySem.W.mg_none_of X G z_range, g_reversed := PySem.W.mg_none_of X G z_reversed, g_tuple := PySem.W.mg_none_of X G z_tuple }
  exact ⟨_, fun s v => .of_eq rfl, fun base _ _ => (ok_law T : FnOk l.prog w K mg base CX0 12 T.f_law T.d_law _ _)⟩
end K17
open PySem PySem.W PyProof.Rows
set_option maxRecDepth 100000 in
set_option maxHeartbeats 0 in
theorem PySem.Challenge.cw_takenjoined_k17_worth_of_any_numbers_holds : PySem.Challenge.rw_takenjoined_k17_worth_of_any_numbers.Holds := by
  w_on; o_law; k_head; (case hw => w_witness2)
  k_fill
  refine L2.walk_of (l := PySem.Challenge.rw_takenjoined_k17_worth_of_any_numbers) (n := 63) (k := 12) (x := "script") (CX := fun _ => L2.CX0) (sp := fun w => K17.spLaw _) rfl (by decide) rfl ⟨rfl, by decide, by decide⟩ (fun w h Y => PySem.W.kIn_of Y) ?F (fun _ _ a ns hl _ hS => ⟨a, ns, rfl, hS, hl, fun _ => rfl⟩) (fun _ _ _ _ _ h => h)
  case F =>
    intro w mg fa h KX G hmg
    refine' K17.all_mk KX G hmg ?aC_Web ?aC_PaintError ?aC_NoNumbers ?aC_NoColours ?a0 ?i0 ?l0 ?c0 ?k0 ?a1 ?i1 ?l1 ?c1 ?k1 ?a2 ?l2 ?c2 ?k2 ?a3 ?l3 ?c3 ?k3 ?a4 ?l4 ?c4 ?k4 ?a5 ?l5 ?c5 ?k5 ?a6 ?l6 ?c6 ?k6 ?a7 ?i7 ?l7 ?c7 ?k7 ?a8 ?i8 ?l8 ?c8 ?k8 ?a9 ?l9 ?c9 ?k9 ?a10 ?l10 ?c10 ?k10 ?a11 ?l11 ?c11 ?k11 ?a12 ?l12 ?c12 ?k12 ?a13 ?l13 ?c13 ?k13 ?a14 ?l14 ?c14 ?k14 ?a15 ?l15 ?c15 ?k15 ?a16 ?l16 ?c16 ?k16 ?a17 ?l17 ?c17 ?k17 ?a18 ?l18 ?c18 ?k18 ?a19 ?l19 ?c19 ?k19 ?a20 ?l20 ?c20 ?k20 ?pg_Web ?hd_Web ?po_Web ?sa_Web ?mk_Web ?kc_Web ?ic_Web ?im_Web ?no_Web_many ?no_Web_ties ?ia ?ib ?kw_Web_int ?kw_Web_bool ?kw_Web_tuple ?lx_NoNumbers ?sa_NoNumbers ?eb_NoNumbers ?ty_NoNumbers ?kc_NoNumbers ?ot_NoNumbers ?ga_NoNumbers ?gg_NoNumbers ?hd_NoNumbers ?ic_NoNumbers ?im_NoNumbers ?kv_NoNumbers ?ki_NoNumbers_NoNumbers ?ki_NoNumbers_NoColours ?xm_NoNumbers_PaintError ?lx_NoColours ?sa_NoColours ?eb_NoColours ?ty_NoColours ?kc_NoColours ?ot_NoColours ?ga_NoColours ?gg_NoColours ?hd_NoColours ?ic_NoColours ?im_NoColours ?kv_NoColours ?ki_NoColours_NoNumbers ?ki_NoColours_NoColours ?xm_NoColours_PaintError ?v_MOST_NUMBERS ?v_MOST_PLACES ?v_MOST_TIES ?z_ValueError ?z_abs ?z_all ?z_bool ?z_enumerate ?z_int ?z_isinstance ?z_len ?z_list ?z_range ?z_reversed ?z_tuple
    (case aC_Web => k_is); (case aC_PaintError => k_is); (case aC_NoNumbers => k_is); (case aC_NoColours => k_is); (case a0 => k_is)
    (case i0 => k_is); (case l0 => k_is); (case c0 => k_is); (case k0 => k_is); (case a1 => k_is)
    (case i1 => k_is); (case l1 => k_is); (case c1 => k_is); (case k1 => k_is); (case a2 => k_is)
    (case l2 => k_is); (case c2 => k_is); (case k2 => k_is); (case a3 => k_is); (case l3 => k_is)
    (case c3 => k_is); (case k3 => k_is); (case a4 => k_is); (case l4 => k_is); (case c4 => k_is)
    (case k4 => k_is); (case a5 => k_is); (case l5 => k_is); (case c5 => k_is); (case k5 => k_is)
    (case a6 => k_is); (case l6 => k_is); (case c6 => k_is); (case k6 => k_is); (case a7 => k_is)
    (case i7 => k_is); (case l7 => k_is); (case c7 => k_is); (case k7 => k_is); (case a8 => k_is)
    (case i8 => k_is); (case l8 => k_is); (case c8 => k_is); (case k8 => k_is); (case a9 => k_is)
    (case l9 => k_is); (case c9 => k_is); (case k9 => k_is); (case a10 => k_is); (case l10 => k_is)
    (case c10 => k_is); (case k10 => k_is); (case a11 => k_is); (case l11 => k_is); (case c11 => k_is)
    (case k11 => k_is); (case a12 => k_is); (case l12 => k_is); (case c12 => k_is); (case k12 => k_is)
    (case a13 => k_is); (case l13 => k_is); (case c13 => k_is); (case k13 => k_is); (case a14 => k_is)
    (case l14 => k_is); (case c14 => k_is); (case k14 => k_is); (case a15 => k_is); (case l15 => k_is)
    (case c15 => k_is); (case k15 => k_is); (case a16 => k_is); (case l16 => k_is); (case c16 => k_is)
    (case k16 => k_is); (case a17 => k_is); (case l17 => k_is); (case c17 => k_is); (case k17 => k_is)
    (case a18 => k_is); (case l18 => k_is); (case c18 => k_is); (case k18 => k_is); (case a19 => k_is)
    (case l19 => k_is); (case c19 => k_is); (case k19 => k_is); (case a20 => k_is); (case l20 => k_is)
    (case c20 => k_is); (case k20 => k_is); (case pg_Web => k_is); (case hd_Web => k_is); (case po_Web => k_is)
    (case sa_Web => k_is); (case mk_Web => k_is); (case kc_Web => k_is); (case ic_Web => k_is); (case im_Web => k_is)
    (case no_Web_many => k_is); (case no_Web_ties => k_is); (case ia => k_is); (case ib => k_is); (case kw_Web_int => kit_is)
    (case kw_Web_bool => kit_is); (case kw_Web_tuple => kit_is); (case lx_NoNumbers => k_is); (case sa_NoNumbers => k_is); (case eb_NoNumbers => k_is)
    (case ty_NoNumbers => k_is); (case kc_NoNumbers => k_is); (case ot_NoNumbers => k_is); (case ga_NoNumbers => k_is); (case gg_NoNumbers => k_is)
    (case hd_NoNumbers => k_is); (case ic_NoNumbers => k_is); (case im_NoNumbers => k_is); (case kv_NoNumbers => kit_is); (case ki_NoNumbers_NoNumbers => kit_is)
    (case ki_NoNumbers_NoColours => kit_is); (case xm_NoNumbers_PaintError => kts_exm); (case lx_NoColours => k_is); (case sa_NoColours => k_is); (case eb_NoColours => k_is)
    (case ty_NoColours => k_is); (case kc_NoColours => k_is); (case ot_NoColours => k_is); (case ga_NoColours => k_is); (case gg_NoColours => k_is)
    (case hd_NoColours => k_is); (case ic_NoColours => k_is); (case im_NoColours => k_is); (case kv_NoColours => kit_is); (case ki_NoColours_NoNumbers => kit_is)
    (case ki_NoColours_NoColours => kit_is); (case xm_NoColours_PaintError => kts_exm); (case v_MOST_NUMBERS => k_is); (case v_MOST_PLACES => k_is); (case v_MOST_TIES => k_is)
    (case z_ValueError => k_is); (case z_abs => k_is); (case z_all => k_is); (case z_bool => k_is); (case z_enumerate => k_is)
    (case z_int => k_is); (case z_isinstance => k_is); (case z_len => k_is); (case z_list => k_is); (case z_range => k_is)
    (case z_reversed => k_is); (case z_tuple => k_is)

