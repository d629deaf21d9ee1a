import PyProof.Rows.All
import Wide.All
import OpenK.AllK
import Wide.FinOn
import HandS.ForMost
import HandS.IsInst
import HandS.Wide
import HandS.OwnEq
import HandS.Strs
import HandS.SetFor
import HandS.SortInts
import HandS.TupAny
import HandS.Conv
import HandS.Flow
import HandS.Walk
import KE.GoesEnum
import PyProof.ReprRoads
import HandS.Words
import HandS.Ends
import PyProof.InstNe
import HandS.Evl
import HandS.Style
import HandS.Zip
import PySem.Challenge.RW_takenjoined_k42_whole_rooted_signings
set_option Elab.async false
set_option linter.all false
set_option maxRecDepth 100000
set_option maxHeartbeats 4000000
/-! Rules of my own over the hand layer: a tuple counted through. -/
namespace Rl
open PySem PySem.Spec PyProof.Rows L2
/-! ### for i, x in enumerate(t), t a tuple -/
theorem meets_enT (u : Addr) (vs : Array Value) (nn : Nat) (dd : Option Addr) (ss : Array (Option Value)) :
    Meets (Builtin.«enumerate.__new__» ⟨[.type "enumerate", .ref u], []⟩) (fun _ R s =>
      s.heap.get? u = some { cls := .type "tuple", dict := dd, data := .seq vs nn, slots := ss } ∧
      R (.ok (.ret (.ref (s.heap.push { cls := .type "tuple_iterator", data := .fields #[.ref u, .int 0 0] }).objs.size)))
        { s with heap := ((s.heap.push { cls := .type "tuple_iterator", data := .fields #[.ref u, .int 0 0] }).push
            ({ cls := .type "enumerate", data := .fields #[.none, .bool false, .ref s.heap.objs.size, rawInt 0, .none, .none] } : Obj)) }) :=
  .of_wp fun prog w A R s hy => by
    obtain ⟨hp, gg, dw, tk, oo⟩ := s; obtain ⟨hu, fin⟩ := hy
    have sb := sub_enumerate
    have tt : Heap.IsTuple (Shared.heap ⟨hp, gg, dw, tk, oo⟩) u vs := ⟨_, hu, rfl, nn, rfl⟩
    wp_walk using AutoSeq1.wpAny_loadPart' hu
    refine wpAny_stack_any fun stk => wpAny_pure ?_
    split
    · rename_i cc _ _ _ _ _
      cases (cc == Value.type "enumerate")
      · wp_walk using AutoSeq1.wpAny_loadPart' hu, wpAny_pyIter_tuple tt
        exact ⟨_, rfl, fin⟩
      · wp_walk using AutoSeq1.wpAny_loadPart' hu, wpAny_pyIter_tuple tt
        exact ⟨_, rfl, fin⟩
    · wp_walk using AutoSeq1.wpAny_loadPart' hu, wpAny_pyIter_tuple tt
      exact ⟨_, rfl, fin⟩
section
variable {prog : Program} {w : World} {A : Around} {E : Value → Shared → Prop} {s : Shared}
theorem call_enT {u : Addr} {vs : Array Value} {Q : Value → Shared → Prop} (ht : s.heap.IsTuple u vs)
    (fin : ∀ g, IsEnum g (s.heap.objs.size + 1) s.heap.objs.size 0 .none → g.IsTupleIter s.heap.objs.size u 0 → g.objs.size = s.heap.objs.size + 2 →
      (∀ b o, s.heap.get? b = some o → g.get? b = some o) → Q (.ref (s.heap.objs.size + 1)) { s with heap := g }) :
    wpAny (model prog w) A (call (.type "enumerate") [.ref u]) Q E s := by
  obtain ⟨⟨cc, dd, da, ss⟩, hu, ec, nn, ed⟩ := ht
  replace ec : cc = .type "tuple" := ec
  replace ed : da = .seq vs nn := ed
  subst ec ed
  refine callType_new F.called_enumerate (by decide) (F.typeCall_enumerate_1 _) (F.newCall_enumerate_1 _)
    (fun ob => F.args_object_init_2 ob _) F.entry_enumerate_new (meets_enT u vs nn dd ss) ⟨hu, ?_⟩
  have sz : (s.heap.push { cls := .type "tuple_iterator", data := .fields #[.ref u, .int 0 0] }).objs.size
      = s.heap.objs.size + 1 := Heap.size_push ..
  show _ ∧ _
  rw [sz]
  have en : IsEnum ((s.heap.push { cls := .type "tuple_iterator", data := .fields #[.ref u, .int 0 0] }).push
      { cls := .type "enumerate", data := .fields #[.none, .bool false, .ref s.heap.objs.size, rawInt 0, .none, .none] })
      (s.heap.objs.size + 1) s.heap.objs.size 0 .none := by
    have q := Heap.get?_push_size (s.heap.push { cls := .type "tuple_iterator", data := .fields #[.ref u, .int 0 0] })
      (o := { cls := .type "enumerate", data := .fields #[.none, .bool false, .ref s.heap.objs.size, rawInt 0, .none, .none] }) rfl
    rw [sz] at q
    exact q
  refine ⟨⟨_, en, rfl⟩, fin _ en ?_ (by rw [Heap.size_push, sz])
    fun b o x => Heap.get?_push_of_some _ (Heap.get?_push_of_some _ x)⟩
  have q0 := Heap.get?_push_size s.heap (o := { cls := .type "tuple_iterator", data := .fields #[.ref u, .int 0 0] }) rfl
  exact ⟨_, Heap.get?_push_of_some _ q0, rfl, rfl⟩
end
/-- the tuple at a, each item with its number in a new pair -/
def Iet (K : PySem.W.Frag) (a : Addr) : It :=
  ⟨fun i H => ∃ (ys : List V) (y : V), SqT K H a ys ∧ ys[i]? = some y,
   fun i H v H' => ∃ T y, v = .ref T ∧ H T = none ∧ H' = upd H T (.tup [.int (i : Nat), y]) ∧ ∀ ys, SqT K H a ys → ys[i]? = some y,
   fun i H => ∃ ys : List V, SqT K H a ys ∧ ys.length = i⟩
theorem turn_enT {P : Program} {w : World} {K : PySem.W.Frag} {elts : List Expr} {kk : Nat} {tp : Pos} (a e it : Addr) :
    Turn P w K (.Tuple elts kk tp) (Iet K a) [e, it] e
      (fun i h => (∃ old, IsEnum h e it ((i : Nat) : Int) old) ∧ h.IsTupleIter it a i ∧ e ≠ it) where
  mem := by simp
  obj := fun i h st b hb => by
    obtain ⟨⟨old, en⟩, ⟨o, ho, _, hd⟩, _⟩ := st
    have z : b = e ∨ b = it := by simpa using hb
    rcases z with z | z
    · rw [z]
      exact ⟨_, en, fun v q => nomatch q⟩
    · rw [z]
      exact ⟨o, ho, fun v q => by rw [hd] at q; cases q⟩
  keep := fun i h h' st k => by
    obtain ⟨⟨old, en⟩, ti, ne⟩ := st
    exact ⟨⟨old, k e (by simp) _ en⟩, ti.at fun o q => k it (by simp) o q, ne⟩
  item := by
    intro X eP ew eK hc i pins s σ H E I fk st go
    subst eP ew eK
    obtain ⟨⟨old, en⟩, ti, ne⟩ := st
    obtain ⟨ys, y, hq, hy⟩ := go
    obtain ⟨its, rv, pt, hz⟩ := I.tuple hq
    obtain ⟨u, hu, ru⟩ := rv.get hy
    have le : e < s.heap.objs.size := Heap.lt_size en
    have li : it < s.heap.objs.size := by obtain ⟨_, q, _⟩ := ti; exact Heap.lt_size q
    have hlt : i < its.toArray.size := by
      have q := (List.getElem?_eq_some_iff.mp hu).1
      simpa using q
    have nai : a ≠ it := fun z => by
      obtain ⟨o, ho, hcl, _⟩ := ti
      obtain ⟨o2, ho2, hcl2, _⟩ := pt
      rw [z] at ho2
      rw [ho] at ho2
      cases ho2
      rw [hcl] at hcl2
      exact absurd hcl2 (by simp)
    have nae : e ∉ [it, a] := fun z => by
      have z' : e = it ∨ e = a := by simpa using z
      rcases z' with z' | z'
      · exact ne z'
      · obtain ⟨o2, ho2, hcl2, _⟩ := pt
        rw [← z'] at ho2
        have q := en
        unfold IsEnum at q
        rw [q] at ho2
        cases ho2
        exact absurd hcl2 (by simp)
    have hh : X.A.in1.handled = none := by
      have q := I.ok.hd hc
      simpa using q
    refine wpAny_pyNext_enum_itemC (Draws.tuple hh it a nai its.toArray) en ⟨ti, pt⟩ hlt ne nae
      fun x h' tk ex out hst hT hsz hk => ?_
    have exu : u = x := by
      have q : its.toArray[i]? = some u := by simpa using hu
      exact Option.some.inj (q.symm.trans ex)
    subst exu
    refine ⟨_, rfl, wpAny_letOwnedTupleGo_enum (s := { s with heap := h', toks := tk + 1 }) out fun h2 en2 sb => ?_⟩
    have hT2 : h2.get? s.heap.objs.size = some { cls := .type "tuple", data := .seq #[.int i tk, u] } :=
      (sb.2 _ (Nat.ne_of_gt le)).trans hT
    have new : ObjOk X.prog X.w (upd H s.heap.objs.size (.tup [.int (i : Nat), y])) h2 s.heap.objs.size (.tup [.int (i : Nat), y]) :=
      ⟨by show 2 ≤ sizeLine; decide, [.int i tk, u], .cons ⟨_, rfl⟩ (.cons ru .nil), ⟨_, hT2, rfl, _, rfl⟩⟩
    have I1 : Inv X pins σ (upd H s.heap.objs.size (.tup [.int (i : Nat), y])) { s with heap := h2, toks := tk + 1 } :=
      I.turnedNew (ch := [e, it]) (fun b ob hb q => (sb.2 b (fun z => hb (by simp [z]))).trans
        (hk b ob (fun z => hb (by simp [z])) (fun z => hb (by simp [z])) q)) fk (Nat.le_refl _) new
    refine ⟨.ref s.heap.objs.size, _, I1, rfl, ⟨_, y, rfl, I.hok.fresh (Nat.le_refl _), rfl, fun zs hzs => by rw [I.tuple_inj hzs hq]; exact hy⟩,
      ⟨⟨u, ?_⟩, hst.1.at fun o q => (sb.2 it (Ne.symm ne)).trans q, ne⟩, fun b hb => ?_⟩
    · have e1 : ((i + 1 : Nat) : Int) = (i : Int) + 1 := by omega
      rw [e1]
      exact en2
    · have z : b = e ∨ b = it := by simpa using hb
      have hb' : b < s.heap.objs.size := by
        rcases z with z | z
        · rw [z]; exact le
        · rw [z]; exact li
      rw [upd_ne (Nat.ne_of_lt hb')]
      exact (fk b hb).1
  done := by
    intro X eP ew eK hc i pins s σ H E I fk st go
    subst eP ew eK
    obtain ⟨⟨old, en⟩, ti, ne⟩ := st
    obtain ⟨ys, hq, hl⟩ := go
    obtain ⟨its, rv, pt, hz⟩ := I.tuple hq
    obtain ⟨f0, f1, f2, f3, f4, f5⟩ := fk it (by simp)
    have ln := rv.length
    have hh : X.A.in1.handled = none := by
      have q := I.ok.hd hc
      simpa using q
    have nai : a ≠ it := fun z => by
      obtain ⟨o, ho, hcl, _⟩ := ti
      obtain ⟨o2, ho2, hcl2, _⟩ := pt
      rw [z] at ho2
      rw [ho] at ho2
      cases ho2
      rw [hcl] at hcl2
      exact absurd hcl2 (by simp)
    have ei : its.toArray.size = i := by
      rw [List.size_toArray, ← ln]
      exact hl
    refine wpAny_pyNext_enum_endD (Draws.tuple hh it a nai its.toArray) en (by rw [ei]; exact ⟨ti, pt⟩)
      fun h' eb => ⟨rfl, ?_⟩
    exact I.turned (t' := s.toks) (fun b o hb q => eb b o hb q) f0 f1 f3 f4 f5
  self := fun A i s Q E st h => let ⟨⟨_, en⟩, _⟩ := st; wpAny_pyIter_enum en h
def iEnT (K : PySem.W.Frag) (ta : TA) : TI := fun σ H R => ta σ H fun vs H1 => ∃ a ys, vs = [.ref a] ∧ SqT K H1 a ys ∧ R (Iet K a) H1
theorem pi_enT {X : Cx} {e : Expr} {ta : TA} {p pos tpos : Pos} {elts : List Expr} {kk : Nat} (hg : Gl X "enumerate") (hm : X.mg "enumerate" = none)
    (ha : PA X [e] ta) (hs : starEach [e] X.env = [(false, eval e X.env)] := by rfl) :
    PI X (.Tuple elts kk tpos) (.Call (.Name "enumerate" p) [e] [] pos) (iEnT X.K ta) := by
  refine ⟨fun pins s σ H R I hy => ?_⟩
  refine Call_ (ld_blt I hg hm boot_enumerate (PyProof.Rows.callWith_type1
    (thn (ha.run pos pins s σ H _ I hy) fun us s1 ⟨vs, H1, I1, r1, q1⟩ => ?_) hs rfl))
  obtain ⟨a, ys, ex, hq, q⟩ := q1
  subst ex
  cases r1 with
  | cons r rr =>
    cases rr
    cases r
    obtain ⟨its, rv, pt, hz⟩ := I1.tuple hq
    refine call_enT (show s1.heap.IsTuple a its.toArray from pt) fun g en ti hsz hk => wpAny_pyIter_enum en ?_
    have I2 : Inv X pins σ H1 { s1 with heap := g } := I1.kept (t' := s1.toks) hk
    refine ⟨s1.heap.objs.size + 1, [s1.heap.objs.size + 1, s1.heap.objs.size], _, _, H1, rfl, I2,
      turn_enT a (s1.heap.objs.size + 1) s1.heap.objs.size, ⟨⟨.none, en⟩, ti, Nat.succ_ne_self _⟩, fun b hb => ?_, q⟩
    have z : b = s1.heap.objs.size + 1 ∨ b = s1.heap.objs.size := by simpa using hb
    have le : s1.heap.objs.size ≤ b := by
      rcases z with z | z
      · rw [z]; exact Nat.le_succ _
      · exact Nat.le_of_eq z.symm
    exact I1.fpOk le (I1.hok.fresh le)
/-- the loop over it: each turn's pair is a new tuple at T -/
theorem for_enT {K : PySem.W.Frag} {a : Addr} {xs : List V} {g : TG} {tb : TS} {D : Ends} {σ : L2.St} {H : Hp}
    (Pv : Nat → L2.St → Hp → Prop) (h0 : Pv 0 σ H) (hq : ∀ i σ H, Pv i σ H → SqT K H a xs)
    (hs : ∀ (i : Nat) (x : V) (T : Addr) (σ : L2.St) (H : Hp), xs[i]? = some x → Pv i σ H → H T = none →
      g (.ref T) σ (upd H T (.tup [.int (i : Nat), x])) fun σ2 H2 => tb { D with nx := Pv (i + 1), ct := Pv (i + 1), bk := D.nx } σ2 H2)
    (hd : ∀ σ H, Pv xs.length σ H → D.nx σ H) :
    ∃ W : Nat → Nat → L2.St → Hp → Prop, (∃ m, W 0 m σ H) ∧ ∀ i m σ H, W i m σ H → ((Iet K a).stop i H ∧ D.nx σ H) ∨
      ((Iet K a).go i H ∧ ∃ N : L2.St → Hp → Prop, (∀ σ' H', N σ' H' → ∃ m', m' < m ∧ W (i + 1) m' σ' H') ∧
        ∀ v H', (Iet K a).yld i H v H' → g v σ H' fun σ2 H2 => tb { D with nx := N, ct := N, bk := D.nx } σ2 H2) := by
  refine ⟨fun i m σ H => m = xs.length - i ∧ i ≤ xs.length ∧ Pv i σ H, ⟨xs.length, rfl, Nat.zero_le _, h0⟩, fun i m σ H hw => ?_⟩
  obtain ⟨em, hi, p⟩ := hw
  subst em
  have qx := hq i σ H p
  by_cases lt : i < xs.length
  · refine .inr ⟨⟨xs, _, qx, List.getElem?_eq_getElem lt⟩, Pv (i + 1), fun σ' H' p' => ⟨xs.length - (i + 1), by omega, rfl, lt, p'⟩, fun v H' y => ?_⟩
    obtain ⟨T, x, ev, hT, eH, f⟩ := y
    subst ev eH
    exact hs i x T σ H (f xs qx) p hT
  · have e : i = xs.length := by omega
    subst e
    exact .inl ⟨⟨xs, qx, rfl⟩, hd σ H p⟩
theorem walk_enT {K : PySem.W.Frag} {a : Addr} {xs : List V} : Walk (Iet K a) xs.length (fun H => SqT K H a xs) (YPair (fun i => some (.int (i : Nat))) (fun i => xs[i]?)) := by
  refine ⟨fun i _ lt q => ⟨xs, _, q, List.getElem?_eq_getElem lt⟩, fun _ q => ⟨xs, q, rfl⟩, fun i H v H' _ q y => ?_⟩
  obtain ⟨T, x, g1, g2, g3, g4⟩ := y
  exact ⟨T, .int (i : Nat), x, g1, g2, g3, rfl, g4 xs q⟩
end Rl
set_option Elab.async false
set_option linter.all false
set_option maxRecDepth 100000
set_option maxHeartbeats 4000000
/-! Rules of my own: defs that are called where no text of an object is under way; repr of deep things. -/
namespace KG
open PySem L2 PySem.Spec PyProof.Rows
/-- as FnOk, where it is known that no guard stands around -/
structure FnG (P : Program) (w : World) (K : PySem.W.Frag) (mg : Str → Option Value) (base : Heap) (k : Nat) (f : Addr) (fd : FuncData) (ps : List Str) (sp : Sp) : Prop where
  many : ∀ vs H Q E, sp vs H Q E → vs.length = ps.length
  go : ∀ (A : Around) (out : List Env) (s : Shared) (H : Hp) (args : Args) (us : List Value) (vs : List V) (Q : VK) (E : XK), A.guards = some [] → Room k A →
    Env0 P w K mg base A out s H → BindsTo s fd args (ps.zip us) → Vals vs us → sp vs H Q E → codeAny (model P w) A (.call (.ref f) args) (CR CX0 out P w H s Q E) s
section
variable {P : Program} {w : World} {K : PySem.W.Frag} {mg : Str → Option Value} {base : Heap}
theorem FnG.of {k : Nat} {f : Addr} {fd : FuncData} {ps : List Str} {sp : Sp} (F : FnOk P w K mg base CX0 k f fd ps sp) : FnG P w K mg base k f fd ps sp :=
  ⟨F.len, fun A out s H args us vs Q E _ hr he hb hv h => F.run A out s H args us vs Q E hr he hb hv h⟩
/-- a def by its body, no guard around -/
theorem okG {x qual : Str} {st : Stmt} {f : Addr} {fd : FuncData} {N ps : List Str} {k : Nat} {sp : Sp} (F : Fun K x qual st f fd) (S : FnScope N ps (defScope st))
    (many : ∀ vs H Q E, sp vs H Q E → vs.length = ps.length)
    (body : ∀ (cdv : Value) (A : Around) (out : List Env) (s : Shared) (H : Hp) (vs : List V) (Q : VK) (E : XK), A.guards = some [] →
      Room k (A.deeper (envOfC qual (defScope st) s.heap.objs.size f cdv)) → sp vs H Q E →
      ∃ t, PSs (cxOf CX0 P w K mg base N qual (defScope st) f cdv A out s H E).nox (defBody st) t ∧
        t { nx := fun _ H' => Q .non H', rt := Q } (L2.start N vs) H) : FnG P w K mg base (k + 1) f fd ps sp := by
  obtain ⟨oc, od, kV, doc, pm, an, cdv, ct, osl, rfl, lk, hcd⟩ := F.ex
  refine ⟨many, fun A out s H args us vs Q E hgd hr env hb rv hsp => ?_⟩
  obtain ⟨t, ht', hq⟩ := body cdv A out s H vs Q E hgd (hr.deeper _) hsp
  have ht := ht'.nox
  have inK : K.In s.heap := env.mod.kin.keeps fun a u e => (env.bs a u e).1
  have free : s.heap.NoLimit := env.mod.nolimit.keeps fun a u e => (env.bs a u e).1
  have kinds : ∀ y ∈ ps.zip us, (defScope st).names.lookup y.1 = some .local ∨
      ((defScope st).names.lookup y.1 = some .cell ∧ ((cellsFrom (s.heap.objs.size + 1) (defScope st).names []).lookup y.1).isSome = true) := by
    rintro ⟨y, u⟩ hy
    exact (S.par y (List.of_mem_zip hy).1).imp id fun c => ⟨c, PySem.W.cellsFrom_some _ _ _ (.inl c)⟩
  refine codeAny_call_function hr.depth (inK _ _ lk) rfl S.co S.gen rfl (PySem.W.codeRec_of inK hcd) (hb _ _ _ _ ?_)
  refine wpAny_newFunctionEnv_cells S.kind kinds fun env2 he s1 inside => ?_
  subst he
  refine ⟨free.keeps inside.toInCall.keep, codeAny_func ?_⟩
  have inv := inv_start (CX := CX0) (E := E) S hr.hd env (many _ _ _ _ hsp) rv inside
  refine wpAny_mono (ht.run [] s1 (L2.start N vs) H _ inv hq) ?_ fun _ _ z => z
  intro fl s2 z
  cases fl with
  | ret u =>
    obtain ⟨v, σ', H', J, rvu, q⟩ := z
    exact ⟨v, H', J.os, J.bare, J.base, J.hok, rvu, q⟩
  | next =>
    obtain ⟨σ', H', J, q⟩ := z
    exact ⟨V.non, H', J.os, J.bare, J.base, J.hok, rfl, q⟩
  | brk =>
    obtain ⟨_, _, _, q⟩ := z
    exact q.elim
  | cont =>
    obtain ⟨_, _, _, q⟩ := z
    exact q.elim
end
section
variable {X : Cx}
/-- f(e, ..), no guard around -/
theorem pe_callG {k : Nat} {f : Addr} {fd : FuncData} {ps : List Str} {sp : Sp} {x : Str} {p pos : Pos} {e : Expr} {es : List Expr} {t : TA} (hgd : X.A.guards = some []) (F : FnG X.prog X.w X.K X.mg X.base k f fd ps sp) (hr : Room k X.A) (hg : Gl X x) (hm : X.mg x = some (.ref f))
    (hk : PySem.W.keepIn X.K (.ref f) = true) (hb : Binds X.K fd ps []) (ha : PA X (e :: es) t) (hx : Passes CX0 X E0 := by exact pass0) (hdb : (x == ("__debug__" : Str)) = false := by decide)
    (he : starEach (e :: es) X.env = (false, eval e X.env) :: starEach es X.env := by rfl) (hpl : (backTo pos (starEach es X.env)).any (·.1) = false := by rfl) :
    PE X (.Call (.Name x p) (e :: es) [] pos) (tCall sp [] E0 t) := by
  refine ⟨fun pins s σ H Q I h => wpAny_Call_Name_kw (ld_glob I hg hm ?_ hdb)⟩
  refine PySem.W.callWith_K (h₀ := X.base) I.ok.mod.kin hk (thn (ha.run pos pins s σ H _ I h) ?_) he hpl
  rintro us s1 ⟨vs, H1, I1, r, q⟩
  refine ⟨I1.kIn, ?_⟩
  have q' : sp (vs ++ []) H1 Q E0 := q
  rw [List.append_nil] at q'
  have hl : us.length = ps.length := by rw [← Paired.length r]; exact F.many _ _ _ _ q'
  have b := hb s1 us I1.kIn (by rw [List.append_nil]; exact hl)
  rw [List.append_nil] at b
  refine wpAny_call (codeAny_mono (F.go X.A X.stack s1 H1 ⟨us, []⟩ us vs Q E0 hgd hr I1.env0 b r q') ?_)
  intro z s2 hz
  match z, hz with
  | .error er, hz => exact hx pins σ H1 s1 er s2 I1 hz
  | .ok (.ret u), hz => exact I1.after hz
  | .ok .next, hz => exact False.elim hz
  | .ok .brk, hz => exact False.elim hz
  | .ok .cont, hz => exact False.elim hz
/-- repr(x), x deep data -/
def rRepr (K : PySem.W.Frag) : List V → Hp → VK → Prop := fun xs H Q => ∃ (a : Addr) (d : PyData), xs = [.ref a] ∧ Dp K H (.ref a) d ∧ SeqAt.shaped d = true ∧ d.showable = true ∧ d.shown.length ≤ sizeLine ∧ Q (.str d.shown) H
theorem cr_repr (hgd : X.A.guards = some []) (hu : X.A.units + 70 < cLine) : CallR X (.builtin "repr") (rRepr X.K) := by
  intro pins s σ H xs us Q I r h
  obtain ⟨a, d, rfl, hd, hsh, hs, hz, q⟩ := h
  rw [Vals.ref1 r]
  obtain ⟨as, rd⟩ := Dp.reads I d (.ref a) (.ref a) hd rfl
  obtain ⟨hl, hdep⟩ := Bool.and_eq_true_iff.mp hsh
  have hdep := of_decide_eq_true hdep
  refine repr_of_reads' rd hs (PyData.noDict_hsm (PyData.hasDict_of_canLay d hl)) hgd (by omega) (fun _ _ e => e) (fun h' u tk k => ?_) hz
  exact ⟨.str d.shown, H, I.kept (t' := tk) k, ⟨u, rfl⟩, q⟩
end
end KG
set_option Elab.async false
set_option linter.all false
set_option maxRecDepth 100000
set_option maxHeartbeats 4000000
/-! A rule of my own: != of two objects of a class with an == of its own, which are equal. -/
namespace KN
open PySem L2 PySem.Spec PyProof.Rows
section
variable {prog : Program} {w : World} {A : Around} {E : Value → Shared → Prop} {s : Shared} {K : PySem.W.Frag} {x y C f : Addr} {ox : Obj} {od : Option Obj}
theorem ne_body (hu : A.units < cLine) (X : K.In s.heap) (I : PySem.W.InstAt s.heap x ox C od) (hs : PySem.W.findIn K (.ref C) "__eq__" = some (some (.ref f))) (hf : PySem.W.isFn K (.ref f) = true) {Q : Fin → Shared → Prop}
    (hq : wpAny (model prog w) A (call (.ref f) [.ref x, .ref y]) (fun v s' => v = .bool true ∧ Q (.done (.ret (.bool false))) s') E s) : wpAny (model prog w) A (Builtin.«object.__ne__» ⟨[.ref x, .ref y], []⟩) Q E s := by
  have one : wpAny (model prog w) A (callSpecialIfBound? (.ref x) (Str.ofString "__eq__") [.ref y]) (fun r s' => r = some (.bool true) ∧ Q (.done (.ret (.bool false))) s') E s :=
    PySem.W.ifBound_K X I hs hf (wpAny_mono hq (fun v s' z => ⟨by rw [z.1], z.2⟩) fun _ _ e => e)
  obtain ⟨h, g, d, t, os⟩ := s
  unfold Builtin.«object.__ne__»
  repeat (first
    | with_reducible refine wpAny_cRoomFor hu ?_
    | (refine wpAny_bind (m := callSpecialIfBound? (.ref x) (Str.ofString "__eq__") [.ref y]) (wpAny_mono one (fun r s' z => ?_) fun _ _ e => e))
    | wp_step)
  obtain ⟨z1, z2⟩ := z
  subst z1
  repeat (first | exact z2 | exact wpAny_pure z2 | exact wpAny_truthy_bool z2 | (refine wpAny_bind (m := truthy (.bool _)) (wpAny_truthy_bool ?_)) | wp_step)
theorem ne_try (hu : A.units + 1 < cLine) (X : K.In s.heap) (I : PySem.W.InstAt s.heap x ox C od) (hm : PySem.W.mroIn K C (.type "object") = some true) (hs : PySem.W.findIn K (.ref C) "__eq__" = some (some (.ref f)))
    (hn : PySem.W.findIn K (.ref C) "__ne__" = some (some (.builtin "object.__ne__"))) (hf : PySem.W.isFn K (.ref f) = true) {Q : Option Value → Shared → Prop}
    (hq : wpAny (model prog w) A.in1 (call (.ref f) [.ref x, .ref y]) (fun v s' => v = .bool true ∧ Q (some (.bool false)) s') E s) : wpAny (model prog w) A (tryCompare (.ref x) "__ne__" (.ref y)) Q E s := by
  have call1 : wpAny (model prog w) A (call (.builtin "object.__ne__") [.ref x, .ref y]) (fun v s' => v = .bool false ∧ Q (some (.bool false)) s') E s :=
    wpAny_call (codeAny_call_builtin F.cmp_object.ne.plain F.cmpEntry_ne (PySem.W.check_slot F.cmpKind_ne F.cmpSplit_ne (I.type.andThen (PySem.W.looks_mroIn X hm)) (F.cmpArgs_ne _ _)
      (ne_body (A := A.in1) (by show A.units + 1 < cLine; exact hu) X I hs hf (wpAny_mono hq (fun v s' z => ⟨z.1, rfl, z.2⟩) fun _ _ e => e))))
  have bound : wpAny (model prog w) A (callSpecialIfBound? (.ref x) (Str.ofString "__ne__") [.ref y]) (fun r s' => r = some (.bool false) ∧ Q (some (.bool false)) s') E s := by
    simp only [callSpecialIfBound?, bindSpecialIfBound?]
    refine wpAny_holding (wpAny_bind (wpAny_bind (wpAny_bind (I.type.here ((PySem.W.looks_findIn X hn).here ?_)))))
    refine wpAny_bind (wpAny_askSetting (wpAny_ite ?_))
    have fin : wpAny (model prog w) A (call (.builtin "object.__ne__") ([.ref x] ++ [.ref y]) >>= fun v => pure (some v)) (fun r s' => r = some (.bool false) ∧ Q (some (.bool false)) s') E s :=
      wpAny_bind (wpAny_mono call1 (fun v s' z => wpAny_pure ⟨by rw [z.1], z.2⟩) fun _ _ e => e)
    split
    · exact wpAny_bind (wpAny_of_eq (F.cmp_object.ne.bind _) (wpAny_pure (by exact fin)))
    · exact wpAny_tryCatch (wpAny_bind (wpAny_of_eq (F.cmp_object.ne.bind _) (wpAny_pure (by exact fin))))
  unfold tryCompare
  refine wpAny_bind (wpAny_mono bound (fun r s' z => ?_) fun _ _ e => e)
  obtain ⟨z1, z2⟩ := z
  subst z1
  exact wpAny_pure z2
end
/-- what is asked: as of ==; the answer False -/
def rNeG (D : Eqv) : R2 := fun x y H Q => D x y H ∧ ∀ H', Ext H H' → Q (.bl false) H'
section
variable {X : Cx} {n : Nat} {CX : CXT} {C f : Addr} {fd : FuncData} {ps : List Str} {R : Addr → Addr → Hp → Prop} {E : XK}
theorem op_neG (F : FnOk X.prog X.w X.K X.mg X.base CX n f fd ps (spEq R)) (hm : PySem.W.mroIn X.K C (.type "object") = some true) (hs : PySem.W.findIn X.K (.ref C) "__eq__" = some (some (.ref f)))
    (hn : PySem.W.findIn X.K (.ref C) "__ne__" = some (some (.builtin "object.__ne__"))) (hf : PySem.W.isFn X.K (.ref f) = true) (hb : Binds X.K fd ps []) (hx : Passes CX X E) (hr : Room (n + 1) X.A) : OpR X (compareOp .NotEq) (rNeG (DIns C R)) := by
  intro pins s σ H u v x y Q I rx ry h
  obtain ⟨⟨a, b, dx, dy, fs, gs, rfl, rfl, ha, hb', rab⟩, q⟩ := h
  cases rx
  cases ry
  obtain ⟨_, J, _⟩ := ins_get I.hok ha
  obtain ⟨_, J', _⟩ := ins_get I.hok hb'
  obtain ⟨od, J, _⟩ := J.look
  obtain ⟨od', J', _⟩ := J'.look
  have hu1 : X.A.units + 1 < cLine := by
    have := hr.un
    omega
  have e0 : Env0 X.prog X.w X.K X.mg X.base X.A.in1 X.stack s H := I.env0.in1
  have hsp : spEq R [.ref a, .ref b] H (fun v H' => v = .bl true ∧ Ext H H') E := ⟨a, b, rfl, rab, fun H' e => ⟨rfl, e⟩⟩
  have hl := F.len _ _ _ _ hsp
  have r2 : Vals [V.ref a, V.ref b] [Value.ref a, Value.ref b] := .cons rfl (.cons rfl .nil)
  have bd : BindsTo s fd ⟨[.ref a, .ref b], []⟩ (ps.zip [.ref a, .ref b]) := by
    have := hb s [.ref a, .ref b] I.kIn (by simpa using hl)
    simpa using this
  have own : wpAny (model X.prog X.w) X.A.in1 (call (.ref f) [.ref a, .ref b]) (fun v s' => v = .bool true ∧ ∃ H', Inv X pins σ H' s' ∧ Ext H H') X.xe s := by
    refine wpAny_call (codeAny_mono (F.run X.A.in1 X.stack s H ⟨[.ref a, .ref b], []⟩ [.ref a, .ref b] [.ref a, .ref b] _ E hr.in1 e0 bd r2 hsp) ?_)
    intro z s2 hz
    match z, hz with
    | .error e, hz => exact hx pins σ H s e s2 I hz
    | .ok .next, hz => exact False.elim hz
    | .ok .brk, hz => exact False.elim hz
    | .ok .cont, hz => exact False.elim hz
    | .ok (.ret u), hz =>
      obtain ⟨z, H', I', rz, ez, ex⟩ := I.after hz
      subst ez
      cases rz
      exact ⟨rfl, H', I', ex⟩
  have try1 : wpAny (model X.prog X.w) X.A (tryCompare (.ref a) (cmpInfo .NotEq).2.1 (.ref b)) (fun r s' => r = some (.bool false) ∧ ∃ H', Inv X pins σ H' s' ∧ Ext H H') X.xe s :=
    ne_try hu1 I.kIn J hm hs hn hf (wpAny_mono own (fun v s' z => ⟨z.1, rfl, z.2⟩) fun _ _ e => e)
  have fin : wpAny (model X.prog X.w) X.A (richCompare .NotEq (.ref a) (.ref b)) (EP X pins σ Q) X.xe s := by
    unfold richCompare
    simp only [oneThing_ref]
    refine wpAny_holding (wpAny_bind (wpAny_cRoomFor (Nat.lt_of_succ_lt hu1) ?_))
    refine wpAny_bind (J.type.here (wpAny_bind (J'.type.here ?_)))
    rw [show (Value.ref C != Value.ref C) = false from by simp]
    simp only [Bool.false_eq_true, if_false]
    refine wpAny_bind (wpAny_pure ?_)
    simp only [Bool.false_eq_true, if_false]
    refine wpAny_bind (wpAny_mono try1 (fun r s' z => ?_) fun _ _ e => e)
    obtain ⟨z1, H', I', ex⟩ := z
    subst z1
    exact wpAny_pure ⟨.bl false, H', I', rfl, q H' ex⟩
  unfold compareOp
  exact fin
end
end KN
set_option Elab.async false
set_option linter.all false
set_option maxRecDepth 100000
set_option maxHeartbeats 4000000
/-! A tuple turned about; how many times an int stands in a tuple of ints. -/
namespace KR
open PySem L2 PySem.Spec PyProof.Rows
section
variable {prog : Program} {w : World} {A : Around} {E : Value → Shared → Prop} {s : Shared}
theorem places_rev (n : Nat) : Builtin.Slice.slicePlaces ((n : Int) - 1) (-1) (-1) = n := by
  unfold Builtin.Slice.slicePlaces
  have h1 : ¬ ((-1 : Int) > 0) := by decide
  simp only [h1, if_false]
  by_cases h : (n : Int) - 1 > -1
  · simp only [h, if_true]
    have e : ((n : Int) - 1 - -1 - 1) / (- -1) + 1 = (n : Int) := by
      rw [show (- -1 : Int) = 1 by decide, Int.ediv_one]
      omega
    rw [e, Int.toNat_natCast]
  · simp only [h, if_false]
    omega
theorem sliceApplied_rev {sl : Addr} {vl vu vs : Value} {n : Nat} {Q : Int × Int × Nat → Shared → Prop} (hs : s.heap.IsSliceOf sl vl vu vs) (pl : IsPart vl none) (pu : IsPart vu none) (ps : IsPart vs (some (-1)))
    (h : Q ((n : Int) - 1, -1, n) s) : wpAny (model prog w) A (Builtin.Slice.sliceApplied (.ref sl) (pure (n : Int))) Q E s := by
  obtain ⟨os, hos, hcs, hds⟩ := id hs
  unfold Builtin.Slice.sliceApplied Builtin.Slice.sliceFields
  refine wpAny_bind (wpAny_bind (wpAny_field hos hds (x := vl) rfl (wpAny_bind (wpAny_field hos hds (x := vu) rfl (wpAny_bind (wpAny_field hos hds (x := vs) rfl (wpAny_pure ?_)))))))
  refine wpAny_bind (HT.slicePart_ ps ?_)
  show wpAny _ _ (if ((-1 : Int) == 0) = true then _ else _) _ _ s
  rw [if_neg (by decide)]
  refine wpAny_bind (HT.slicePart_ pl (wpAny_bind (HT.slicePart_ pu (wpAny_bind (wpAny_pure ?_)))))
  show wpAny _ _ (pure ((n : Int) - 1, (-1 : Int), Builtin.Slice.slicePlaces ((n : Int) - 1) (-1) (-1))) _ _ s
  rw [places_rev]
  exact wpAny_pure h
theorem pick_rev (xs : Array Value) : ((List.range xs.size).filterMap fun (m : Nat) => xs[(((xs.size : Int) - 1) + (m : Int) * (-1)).toNat]?).toArray = xs.toList.reverse.toArray := by
  have e : (List.range xs.size).filterMap (fun (m : Nat) => xs[(((xs.size : Int) - 1) + (m : Int) * (-1)).toNat]?) = ((List.range xs.size).map fun k => xs.size - 1 - k).filterMap (xs[·]?) := by
    rw [List.filterMap_map]
    congr 1
    funext m
    show xs[(((xs.size : Int) - 1) + (m : Int) * (-1)).toNat]? = xs[xs.size - 1 - m]?
    rw [show (((xs.size : Int) - 1) + (m : Int) * (-1)).toNat = xs.size - 1 - m by omega]
  rw [e, PySem.W.krv_range, List.filterMap_reverse, PySem.W.krv_all]
theorem getItem_tuple_rev {t sl : Addr} {items : Array Value} {vl vu vs : Value} {Q : Value → Shared → Prop} (ht : IsTup s.heap t items) (hs : s.heap.IsSliceOf sl vl vu vs) (pl : IsPart vl none) (pu : IsPart vu none) (ps : IsPart vs (some (-1)))
    (h : Q (.ref s.heap.objs.size) { s with heap := s.heap.push { cls := .type "tuple", data := .seq items.toList.reverse.toArray } })
    (hsz : items.size ≤ sizeLine) : wpAny (model prog w) A (getItem (.ref t) (.ref sl)) Q E s := by
  have htake : sizeOk (.seq items.toList.reverse.toArray) := by
    show items.toList.reverse.toArray.size ≤ sizeLine
    rw [List.size_toArray, List.length_reverse, Array.length_toList]
    omega
  obtain ⟨os, hos, hcs, hds⟩ := id hs
  have hTs : s.TypeIs (.ref sl) "slice" := ⟨os, hos, hcs⟩
  unfold getItem
  try with_reducible refine wpAny_holding ?_
  first | refine wpAny_bind (wpAny_pure ?_) | skip
  refine wpAny_bind (wpAny_sequenceKey ht.typeIs (by decide) ?_)
  refine wpAny_bind (wpAny_callSpecial?_slot (name := Str.ofString "__getitem__") ht.typeIs PyProof.Rows.slot_tuple_getitem
    (wpAny_call_entry PyProof.Rows.slot_tuple_getitem ht.typeIs entry_tuple_getitem ?_ (args_tuple_getitem _ _)))
  show wpAny _ _ (Builtin.Tuple.tupleItemsOf (.ref t) >>= _) _ _ s
  refine wpAny_bind (tupleItemsOf_ ht ?_)
  refine wpAny_bind (wpAny_typeOf hTs ?_)
  rw [if_pos (by decide)]
  refine wpAny_bind (sliceApplied_rev hs pl pu ps ?_)
  have hno : ¬ ((((items.size : Int) - 1) == 0 && (-1 : Int) == 1 && items.size == items.size) = true) := by
    intro q
    rw [Bool.and_eq_true, Bool.and_eq_true] at q
    exact absurd q.1.2 (by decide)
  show wpAny _ _ (if (((items.size : Int) - 1) == 0 && (-1 : Int) == 1 && items.size == items.size) = true then _ else _) _ _ s
  rw [if_neg hno, pick_rev]
  first
    | exact wpAny_bind (m := Builtin.Tuple.tupleExact _) (wpAny_newObj_type (wpAny_pure ⟨_, rfl, wpAny_pure h⟩) htake)
    | exact wpAny_bind (m := Builtin.Tuple.tupleExact _) (wpAny_newObj_type (wpAny_bind (wpAny_pure (wpAny_pure ⟨_, rfl, wpAny_pure h⟩))) htake)
    | exact wpAny_bind (wpAny_bind (m := Builtin.Tuple.tupleExact _) (wpAny_newObj_type (wpAny_pure (wpAny_pure ⟨_, rfl, wpAny_pure h⟩)) htake))
    | exact wpAny_bind (wpAny_bind (m := Builtin.Tuple.tupleExact _) (wpAny_newObj_type (wpAny_pure ⟨_, rfl, wpAny_pure h⟩) htake))
end
section
variable {X : Cx}
def tRevT (K : PySem.W.Frag) (te : TE) : TE := fun σ H Q => te σ H fun x H1 => ∃ a xs, x = .ref a ∧ SqT K H1 a xs ∧ ∀ p, H1 p = none → Q (.ref p) (upd H1 p (.tup xs.reverse))
/-- t[::-1] of a tuple -/
theorem pe_revT {e : Expr} {te : TE} {k : Nat} {p1 p2 p3 pos : Pos} (he : PE X e te) : PE X (.Subscript e (.Slice none none (some (.UnaryOp .USub (.Constant (.int 1) k p1) p2)) p3) pos) (tRevT X.K te) := by
  refine ⟨fun pins s σ H Q I h => ?_⟩
  refine Subscript_ (thn (he.run pins s σ H _ I h) fun v s1 ⟨x, H1, I1, r1, q1⟩ => ?_)
  obtain ⟨a, xs, ex, hx, q⟩ := q1
  subst ex
  cases r1
  have hst : PO X (some (.UnaryOp .USub (.Constant (.int 1) k p1) p2)) (tPart (tUn (rU fun i => .int (-i)) (tC (.int 1)))) := po_some (pe_un un_neg pe_int)
  refine wpAny_Slice (thn (po_none.run pins s1 σ H1 (fun o H2 => o = none ∧ H2 = H1) I1 ⟨rfl, rfl⟩) fun vl s2 ⟨l, H2, I2, pl, el, e2⟩ => ?_)
  subst el e2
  refine thn (po_none.run pins s2 σ H2 (fun o H3 => o = none ∧ H3 = H2) I2 ⟨rfl, rfl⟩) fun vu s3 ⟨u, H3, I3, pu, eu, e3⟩ => ?_
  subst eu e3
  refine thn (hst.run pins s3 σ H3 (fun o H4 => o = some (-1) ∧ H4 = H3) I3 ⟨1, rfl, -1, rfl, rfl, rfl⟩) fun vs s4 ⟨o, H4, I4, ps, eo, e4⟩ => ?_
  subst eo e4
  have I5 : Inv X pins σ H4 { s4 with heap := s4.heap.push { cls := .type "slice", data := .fields #[vl, vu, vs] } } := I4.kept (t' := s4.toks) fun b ob q => Heap.get?_push_of_some _ q
  obtain ⟨its, r, ht, hz⟩ := I5.tuple hx
  have hlen := r.length
  show wpAny (model X.prog X.w) X.A (subscriptTail e (.Slice none none (some (.UnaryOp .USub (.Constant (.int 1) k p1) p2)) p3) (.ref a) (.ref s4.heap.objs.size)) (EP X pins σ Q) X.xe { s4 with heap := s4.heap.push { cls := .type "slice", data := .fields #[vl, vu, vs] } }
  refine tail_any (ops := [.ref a, .ref s4.heap.objs.size]) ht.typeIs PyProof.Rows.slot_tuple_getitem.lookup ?_ (by with_unfolding_all rfl)
  refine getItem_tuple_rev ht (Heap.IsSliceOf.new _ vl vu vs) pl pu ps ?_ (by rw [List.size_toArray]; omega)
  refine ⟨.ref _, _, I5.laid (t' := s4.toks) (o := .tup xs.reverse) (fun b ob q => Heap.get?_push_of_some _ q) (Nat.le_refl _) ?_, rfl, q _ (I5.hok.fresh (Nat.le_refl _))⟩
  exact ⟨by rw [List.length_reverse]; exact hz, _, r.reverse, IsTup.new _ _⟩
/-- t.count(k) of a tuple of ints -/
def rCntT (K : PySem.W.Frag) : V → List V → Hp → VK → Prop := fun x xs H Q => ∃ (p : Addr) (ns : List Int) (k : Int), x = .ref p ∧ xs = [.int k] ∧ SqT K H p (ns.map V.int) ∧ Q (.int (ns.count k : Nat)) H
theorem mt_tcount : MtR X "tuple.count" (rCntT X.K) := by
  intro pins s σ H x xs v us Q I rx rxs h
  obtain ⟨p, ns, k, rfl, rfl, hs, q⟩ := h
  cases rx
  obtain ⟨u, rfl, ru⟩ := rxs.one
  obtain ⟨t, rfl⟩ := ru
  obtain ⟨its, rv, ⟨⟨cls, dd, data, sl⟩, ho, hc, n, hd⟩, hlen⟩ := I.tuple hs
  simp only at hc hd
  subst hc hd
  have hi := ints_of_vals rv
  refine call_meets PySem.F.slot_tuple_count ⟨_, ho, rfl⟩ PySem.F.entry_tuple_count (PySem.F.args_tuple_count_2 _ _)
    (SeqAt.tuple_countAt p its.toArray n dd sl (.int k t) (eqk k)) ⟨ho, fun y hy => (eqk_gives hi y (by simpa using hy)).at _ _, ?_⟩
  have ec : its.toArray.toList.countP (eqk k) = ns.count k := eqk_count hi
  refine ⟨.int (ns.count k : Nat), H, I.tok _, ⟨s.toks, ?_⟩, q⟩
  show Value.int ((its.toArray.toList.countP (eqk k) : Nat) : Int) s.toks = Value.int ((ns.count k : Nat) : Int) s.toks
  rw [ec]
/-- t + u, neither empty, the new object told with it -/
def rCatF (K : PySem.W.Frag) : R2 := fun x y H Q => ∃ a b xs ys, x = .ref a ∧ y = .ref b ∧ SqT K H a xs ∧ SqT K H b ys ∧ xs.length + ys.length ≤ sizeLine ∧ xs ≠ [] ∧ ys ≠ [] ∧
  ∀ l o, H l = none → o.dict = none → Q (.ref l) (upd H l (.frz o (.tup (xs ++ ys))))
theorem op_catF : OpR X (binaryOp .Add) (rCatF X.K) := by
  intro pins s σ H x y v u Q I rx ry h
  obtain ⟨a, b, xs, ys, rfl, rfl, ha, hb, hz, hx, hy, q⟩ := h
  cases rx
  cases ry
  obtain ⟨its, r1, p1, _⟩ := I.tuple ha
  obtain ⟨its2, r2, p2, _⟩ := I.tuple hb
  refine HT.cat_tup p1 p2 (fun z => hx (r1.nil_iff.mp z)) (fun z => absurd (r2.nil_iff.mp z) hy) (fun z => ?_) (by rw [← r1.length, ← r2.length]; exact hz)
  have hg : (s.heap.push { cls := .type "tuple", data := .seq (its ++ its2).toArray }).get? s.heap.objs.size = some { cls := .type "tuple", data := .seq (its ++ its2).toArray } :=
    Heap.get?_push_size _ rfl
  have I2 : Inv X pins σ (upd H s.heap.objs.size (.frz { cls := .type "tuple", data := .seq (its ++ its2).toArray } (.tup (xs ++ ys))))
      { s with heap := s.heap.push { cls := .type "tuple", data := .seq (its ++ its2).toArray } } :=
    I.laid (t' := s.toks) (fun b o e => Heap.get?_push_of_some _ e) (Nat.le_refl _) ⟨hg, by rw [List.length_append]; exact hz, its ++ its2, r1.append r2, IsTup.new _ _⟩
  exact ⟨.ref s.heap.objs.size, _, I2, rfl, q _ _ (I.hok.fresh (Nat.le_refl _)) rfl⟩
/-- t.count(k), t such a tuple of ints -/
def tTcn (K : PySem.W.Frag) (to : TE) (t : TA) : TE := fun σ H Q => to σ H fun x H1 => (∃ p o ys, x = V.ref p ∧ H1 p = some (.frz o (.tup ys)) ∧ o.dict = none) ∧ t σ H1 fun xs H2 => rCntT K x xs H2 Q
variable {o e : Expr} {es : List Expr} {to : TE} {t : TA} {apos cpos : Pos}
theorem pe_tcn (ho : PE X o to) (ha : PA X (e :: es) t)
    (hbase : attributeBase o "count" X.env (eval o X.env) = eval o X.env := by rfl)
    (hfew : ((backTo cpos (starEach (e :: es) X.env)).all (fun z => !z.1) && (backToKw cpos (keywordEach [] X.env)).all (fun z => z.1.isSome)
      && decide ((e :: es).length + ([] : List Keyword).length + (if ([] : List Keyword).isEmpty then 0 else 1) < 30)) = true := by rfl)
    (hline : (apos.endLine == cpos.line) = true := by rfl) (hs : starEach (e :: es) X.env = (false, eval e X.env) :: starEach es X.env := by rfl)
    (hpl : (backTo cpos (starEach es X.env)).any (·.1) = false := by rfl) :
    PE X (.Call (.Attribute o "count" apos) (e :: es) [] cpos) (tTcn X.K to t) := by
  refine ⟨fun pins s σ H Q I hy => ?_⟩
  refine wpAny_Call_method_late hbase hfew hline rfl (thn (ho.run pins s σ H _ I hy) fun v s1 ⟨x, H1, I1, r1, tt, q1⟩ => ?_)
  obtain ⟨p, ob, ys, ex, hp, hd⟩ := tt
  subst ex
  cases r1
  have hq : SqT X.K H1 p ys := .inl (.inr ⟨ob, hp⟩)
  obtain ⟨its, rv, pt, hz⟩ := I1.tuple hq
  have hgo : s1.heap.get? p = some ob := (I1.hok p _ hp).1
  have hT : s1.TypeIs (.ref p) "tuple" := by
    obtain ⟨o2, ho2, hc2, _⟩ := pt
    exact ⟨o2, ho2, hc2⟩
  refine ⟨"tuple", "tuple.count", PySem.F.plainAttrs_tuple, PySem.F.slot_tuple_count, PySem.F.type_tuple_count, hT, fun a ea => ?_, ?_⟩
  · cases ea
    exact ⟨ob, hgo, hd⟩
  have hA := ha.run cpos pins s1 σ H1 _ I1 q1
  rw [hs] at hA ⊢
  refine Calls.callWith_builtin (by show (false || (backTo cpos (starEach es X.env)).any (·.1)) = false; rw [hpl] <;> rfl) (Calls.evalArgs_plain ?_)
  exact thn hA fun us s2 ⟨vs, H2, I2, r2, q2⟩ => mt_tcount pins s2 σ H2 (.ref p) vs (.ref p) us Q I2 rfl r2 q2
end
end KR
set_option Elab.async false
set_option linter.all false
set_option maxRecDepth 100000
set_option maxHeartbeats 4000000
/-! The text by places, and what its top has written. -/
namespace K42
open PySem L2
def top (i : Nat) : Stmt := PySem.Challenge.pw_takenjoined_k42_whole_rooted_signings.main.body.getD i (.Pass ⟨0, 0, 0, 0⟩)
abbrev s_is_integer : Stmt := top 8
abbrev N_is_integer : List Str := ["thing"]
theorem sc_is_integer : FnScope N_is_integer ["thing"] (defScope s_is_integer) := ⟨rfl, rfl, rfl, by decide +kernel, rfl, by decide +kernel, by decide +kernel⟩
abbrev s_is_between : Stmt := top 9
abbrev N_is_between : List Str := ["thing", "least", "most"]
theorem sc_is_between : FnScope N_is_between ["thing", "least", "most"] (defScope s_is_between) := ⟨rfl, rfl, rfl, by decide +kernel, rfl, by decide +kernel, by decide +kernel⟩
abbrev s_is_below : Stmt := top 10
abbrev N_is_below : List Str := ["thing", "bound"]
theorem sc_is_below : FnScope N_is_below ["thing", "bound"] (defScope s_is_below) := ⟨rfl, rfl, rfl, by decide +kernel, rfl, by decide +kernel, by decide +kernel⟩
abbrev s_is_pair : Stmt := top 11
abbrev N_is_pair : List Str := ["thing"]
theorem sc_is_pair : FnScope N_is_pair ["thing"] (defScope s_is_pair) := ⟨rfl, rfl, rfl, by decide +kernel, rfl, by decide +kernel, by decide +kernel⟩
abbrev s_is_lot : Stmt := top 12
abbrev N_is_lot : List Str := ["thing", "bound", "least", "number"]
theorem sc_is_lot : FnScope N_is_lot ["thing", "bound"] (defScope s_is_lot) := ⟨rfl, rfl, rfl, by decide +kernel, rfl, by decide +kernel, by decide +kernel⟩
abbrev s_is_flags : Stmt := top 13
abbrev N_is_flags : List Str := ["thing", "part"]
theorem sc_is_flags : FnScope N_is_flags ["thing"] (defScope s_is_flags) := ⟨rfl, rfl, rfl, by decide +kernel, rfl, by decide +kernel, by decide +kernel⟩
abbrev s_parts : Stmt := top 15
abbrev N_parts : List Str := ["web", "lot", "marks", "tie", "u", "v", "kept", "gone", "lots", "mark", "places"]
theorem sc_parts : FnScope N_parts ["web", "lot"] (defScope s_parts) := ⟨rfl, rfl, rfl, by decide +kernel, rfl, by decide +kernel, by decide +kernel⟩
abbrev s_marked : Stmt := top 16
abbrev N_marked : List Str := ["marks", "mark", "place", "own"]
theorem sc_marked : FnScope N_marked ["marks", "mark"] (defScope s_marked) := ⟨rfl, rfl, rfl, by decide +kernel, rfl, by decide +kernel, by decide +kernel⟩
abbrev s_webI : Stmt := inClass (top 20) 0
abbrev N_webI : List Str := ["self", "many", "ties", "number", "tie"]
theorem sc_webI : FnScope N_webI ["self", "many", "ties"] (defScope s_webI) := ⟨rfl, rfl, rfl, by decide +kernel, rfl, by decide +kernel, by decide +kernel⟩
abbrev s_webE : Stmt := inClass (top 20) 1
abbrev N_webE : List Str := ["self", "other"]
theorem sc_webE : FnScope N_webE ["self", "other"] (defScope s_webE) := ⟨rfl, rfl, rfl, by decide +kernel, rfl, by decide +kernel, by decide +kernel⟩
abbrev s_is_tie : Stmt := top 21
abbrev N_is_tie : List Str := ["thing", "many"]
theorem sc_is_tie : FnScope N_is_tie ["thing", "many"] (defScope s_is_tie) := ⟨rfl, rfl, rfl, by decide +kernel, rfl, by decide +kernel, by decide +kernel⟩
abbrev s_is_signing : Stmt := top 23
abbrev N_is_signing : List Str := ["web", "thing"]
theorem sc_is_signing : FnScope N_is_signing ["web", "thing"] (defScope s_is_signing) := ⟨rfl, rfl, rfl, by decide +kernel, rfl, by decide +kernel, by decide +kernel⟩
abbrev s_is_rising : Stmt := top 24
abbrev N_is_rising : List Str := ["web", "thing"]
theorem sc_is_rising : FnScope N_is_rising ["web", "thing"] (defScope s_is_rising) := ⟨rfl, rfl, rfl, by decide +kernel, rfl, by decide +kernel, by decide +kernel⟩
abbrev s_goings : Stmt := top 25
abbrev N_goings : List Str := ["web", "signing", "flag", "u", "v"]
theorem sc_goings : FnScope N_goings ["web", "signing"] (defScope s_goings) := ⟨rfl, rfl, rfl, by decide +kernel, rfl, by decide +kernel, by decide +kernel⟩
abbrev s_round_of : Stmt := top 26
abbrev N_round_of : List Str := ["web", "signing", "goings", "left"]
theorem sc_round_of : FnScope N_round_of ["web", "signing"] (defScope s_round_of) := ⟨rfl, rfl, rfl, by decide +kernel, rfl, by decide +kernel, by decide +kernel⟩
abbrev s_never_sources : Stmt := top 27
abbrev N_never_sources : List Str := ["many", "goings", "left", "kept", "place", "ahead", "to"]
theorem sc_never_sources : FnScope N_never_sources ["many", "goings"] (defScope s_never_sources) := ⟨rfl, rfl, rfl, by decide +kernel, rfl, by decide +kernel, by decide +kernel⟩
abbrev s_round_behind : Stmt := top 28
abbrev N_round_behind : List Str := ["goings", "left", "place", "met", "back", "tie", "number", "ahead", "to"]
theorem sc_round_behind : FnScope N_round_behind ["goings", "left"] (defScope s_round_behind) := ⟨rfl, rfl, rfl, by decide +kernel, rfl, by decide +kernel, by decide +kernel⟩
abbrev s_sources : Stmt := top 29
abbrev N_sources : List Str := ["web", "signing", "gone_to", "_", "to", "place"]
theorem sc_sources : FnScope N_sources ["web", "signing"] (defScope s_sources) := ⟨rfl, rfl, rfl, by decide +kernel, rfl, by decide +kernel, by decide +kernel⟩
abbrev s_behind : Stmt := top 31
abbrev N_behind : List Str := ["web", "signing", "place", "tie", "flag"]
theorem sc_behind : FnScope N_behind ["web", "signing", "place"] (defScope s_behind) := ⟨rfl, rfl, rfl, by decide +kernel, rfl, by decide +kernel, by decide +kernel⟩
abbrev s_rooted : Stmt := top 32
abbrev N_rooted : List Str := ["web", "signing", "place", "others", "source"]
theorem sc_rooted : FnScope N_rooted ["web", "signing", "place"] (defScope s_rooted) := ⟨rfl, rfl, rfl, by decide +kernel, rfl, by decide +kernel, by decide +kernel⟩
abbrev s_l_hand : Stmt := top 34
abbrev N_l_hand : List Str := ["script", "cells", "cell"]
theorem sc_l_hand : FnScope N_l_hand ["script"] (defScope s_l_hand) := ⟨rfl, rfl, rfl, by decide +kernel, rfl, by decide +kernel, by decide +kernel⟩
abbrev s_l_draw : Stmt := top 35
abbrev N_l_draw : List Str := ["hand", "many", "cell", "figure", "number"]
theorem sc_l_draw : FnScope N_l_draw ["hand", "many"] (defScope s_l_draw) := ⟨rfl, rfl, rfl, by decide +kernel, rfl, by decide +kernel, by decide +kernel⟩
abbrev s_l_some : Stmt := top 36
abbrev N_l_some : List Str := ["hand", "things"]
theorem sc_l_some : FnScope N_l_some ["hand", "things"] (defScope s_l_some) := ⟨rfl, rfl, rfl, by decide +kernel, rfl, by decide +kernel, by decide +kernel⟩
abbrev s_l_mixed : Stmt := top 37
abbrev N_l_mixed : List Str := ["hand", "things", "left", "found", "turn"]
theorem sc_l_mixed : FnScope N_l_mixed ["hand", "things"] (defScope s_l_mixed) := ⟨rfl, rfl, rfl, by decide +kernel, rfl, by decide +kernel, by decide +kernel⟩
abbrev s_l_ties : Stmt := top 38
abbrev N_l_ties : List Str := ["hand", "many", "most", "found", "turn", "one", "other", "pair"]
theorem sc_l_ties : FnScope N_l_ties ["hand", "many", "most"] (defScope s_l_ties) := ⟨rfl, rfl, rfl, by decide +kernel, rfl, by decide +kernel, by decide +kernel⟩
abbrev s_l_whole_ties : Stmt := top 39
abbrev N_l_whole_ties : List Str := ["hand", "many", "most", "names", "found", "place", "pairs", "more", "u", "v"]
theorem sc_l_whole_ties : FnScope N_l_whole_ties ["hand", "many", "most"] (defScope s_l_whole_ties) := ⟨rfl, rfl, rfl, by decide +kernel, rfl, by decide +kernel, by decide +kernel⟩
abbrev s_l_signing : Stmt := top 40
abbrev N_l_signing : List Str := ["hand", "many", "ties", "order", "u", "v"]
theorem sc_l_signing : FnScope N_l_signing ["hand", "many", "ties"] (defScope s_l_signing) := ⟨rfl, rfl, rfl, by decide +kernel, rfl, by decide +kernel, by decide +kernel⟩
abbrev s_l_sources : Stmt := top 41
abbrev N_l_sources : List Str := ["many", "ties", "signing", "aims", "tie", "flag", "place"]
theorem sc_l_sources : FnScope N_l_sources ["many", "ties", "signing"] (defScope s_l_sources) := ⟨rfl, rfl, rfl, by decide +kernel, rfl, by decide +kernel, by decide +kernel⟩
abbrev s_l_bent : Stmt := top 42
abbrev N_l_bent : List Str := ["ties", "signing", "place", "found", "u", "v", "flag"]
theorem sc_l_bent : FnScope N_l_bent ["ties", "signing", "place"] (defScope s_l_bent) := ⟨rfl, rfl, rfl, by decide +kernel, rfl, by decide +kernel, by decide +kernel⟩
abbrev s_l_is_free : Stmt := top 43
abbrev N_l_is_free : List Str := ["many", "ties", "signing", "left", "turn", "aims", "tie", "flag", "begin", "aim"]
theorem sc_l_is_free : FnScope N_l_is_free ["many", "ties", "signing"] (defScope s_l_is_free) := ⟨rfl, rfl, rfl, by decide +kernel, rfl, by decide +kernel, by decide +kernel⟩
abbrev s_l_heights : Stmt := top 44
abbrev N_l_heights : List Str := ["many", "ties", "one", "other", "heights", "ways", "start", "waiting", "at", "place", "number", "u", "v", "step", "goal", "height", "both", "tie"]
theorem sc_l_heights : FnScope N_l_heights ["many", "ties", "one", "other"] (defScope s_l_heights) := ⟨rfl, rfl, rfl, by decide +kernel, rfl, by decide +kernel, by decide +kernel⟩
abbrev s_l_are_flags : Stmt := top 45
abbrev N_l_are_flags : List Str := ["told", "due", "flag"]
theorem sc_l_are_flags : FnScope N_l_are_flags ["told", "due"] (defScope s_l_are_flags) := ⟨rfl, rfl, rfl, by decide +kernel, rfl, by decide +kernel, by decide +kernel⟩
abbrev s_l_rooted : Stmt := top 46
abbrev N_l_rooted : List Str := ["many", "ties", "signing", "place", "turn", "some", "one"]
theorem sc_l_rooted : FnScope N_l_rooted ["many", "ties", "signing", "place"] (defScope s_l_rooted) := ⟨rfl, rfl, rfl, by decide +kernel, rfl, by decide +kernel, by decide +kernel⟩
abbrev s_l_led_on : Stmt := top 47
abbrev N_l_led_on : List Str := ["hand", "many", "ties", "signing", "most", "turn"]
theorem sc_l_led_on : FnScope N_l_led_on ["hand", "many", "ties", "signing", "most"] (defScope s_l_led_on) := ⟨rfl, rfl, rfl, by decide +kernel, rfl, by decide +kernel, by decide +kernel⟩
abbrev s_l_is_right : Stmt := top 48
abbrev N_l_is_right : List Str := ["web", "signing", "place", "many", "ties", "told"]
theorem sc_l_is_right : FnScope N_l_is_right ["web", "signing", "place"] (defScope s_l_is_right) := ⟨rfl, rfl, rfl, by decide +kernel, rfl, by decide +kernel, by decide +kernel⟩
abbrev s_law : Stmt := top 49
abbrev N_law : List Str := ["script", "hand", "turn", "many", "ties", "web", "one", "place", "some", "told", "other", "third", "goal", "here"]
theorem sc_law : FnScope N_law ["script"] (defScope s_law) := ⟨rfl, rfl, rfl, by decide +kernel, rfl, by decide +kernel, by decide +kernel⟩
/-- what the top has written -/
structure Tx (K : PySem.W.Frag) (mg : Str → Option Value) where
  f_is_integer : Addr
  d_is_integer : FuncData
  F_is_integer : Fun K "is_integer" "is_integer" s_is_integer f_is_integer d_is_integer
  b_is_integer : Binds K d_is_integer ["thing"] []
  m_is_integer : mg "is_integer" = some (.ref f_is_integer)
  f_is_between : Addr
  d_is_between : FuncData
  F_is_between : Fun K "is_between" "is_between" s_is_between f_is_between d_is_between
  b_is_between : Binds K d_is_between ["thing", "least", "most"] []
  m_is_between : mg "is_between" = some (.ref f_is_between)
  f_is_below : Addr
  d_is_below : FuncData
  F_is_below : Fun K "is_below" "is_below" s_is_below f_is_below d_is_below
  b_is_below : Binds K d_is_below ["thing", "bound"] []
  m_is_below : mg "is_below" = some (.ref f_is_below)
  f_is_pair : Addr
  d_is_pair : FuncData
  F_is_pair : Fun K "is_pair" "is_pair" s_is_pair f_is_pair d_is_pair
  b_is_pair : Binds K d_is_pair ["thing"] []
  m_is_pair : mg "is_pair" = some (.ref f_is_pair)
  f_is_lot : Addr
  d_is_lot : FuncData
  F_is_lot : Fun K "is_lot" "is_lot" s_is_lot f_is_lot d_is_lot
  b_is_lot : Binds K d_is_lot ["thing", "bound"] []
  m_is_lot : mg "is_lot" = some (.ref f_is_lot)
  f_is_flags : Addr
  d_is_flags : FuncData
  F_is_flags : Fun K "is_flags" "is_flags" s_is_flags f_is_flags d_is_flags
  b_is_flags : Binds K d_is_flags ["thing"] []
  m_is_flags : mg "is_flags" = some (.ref f_is_flags)
  f_parts : Addr
  d_parts : FuncData
  F_parts : Fun K "parts" "parts" s_parts f_parts d_parts
  b_parts : Binds K d_parts ["web", "lot"] []
  m_parts : mg "parts" = some (.ref f_parts)
  f_marked : Addr
  d_marked : FuncData
  F_marked : Fun K "_marked" "_marked" s_marked f_marked d_marked
  b_marked : Binds K d_marked ["marks", "mark"] []
  m_marked : mg "_marked" = some (.ref f_marked)
  f_webI : Addr
  d_webI : FuncData
  F_webI : Fun K "__init__" "Web.__init__" s_webI f_webI d_webI
  b_webI : Binds K d_webI ["self", "many", "ties"] []
  f_webE : Addr
  d_webE : FuncData
  F_webE : Fun K "__eq__" "Web.__eq__" s_webE f_webE d_webE
  b_webE : Binds K d_webE ["self", "other"] []
  f_is_tie : Addr
  d_is_tie : FuncData
  F_is_tie : Fun K "_is_tie" "_is_tie" s_is_tie f_is_tie d_is_tie
  b_is_tie : Binds K d_is_tie ["thing", "many"] []
  m_is_tie : mg "_is_tie" = some (.ref f_is_tie)
  f_is_signing : Addr
  d_is_signing : FuncData
  F_is_signing : Fun K "is_signing" "is_signing" s_is_signing f_is_signing d_is_signing
  b_is_signing : Binds K d_is_signing ["web", "thing"] []
  m_is_signing : mg "is_signing" = some (.ref f_is_signing)
  f_is_rising : Addr
  d_is_rising : FuncData
  F_is_rising : Fun K "is_rising" "is_rising" s_is_rising f_is_rising d_is_rising
  b_is_rising : Binds K d_is_rising ["web", "thing"] []
  m_is_rising : mg "is_rising" = some (.ref f_is_rising)
  f_goings : Addr
  d_goings : FuncData
  F_goings : Fun K "_goings" "_goings" s_goings f_goings d_goings
  b_goings : Binds K d_goings ["web", "signing"] []
  m_goings : mg "_goings" = some (.ref f_goings)
  f_round_of : Addr
  d_round_of : FuncData
  F_round_of : Fun K "round_of" "round_of" s_round_of f_round_of d_round_of
  b_round_of : Binds K d_round_of ["web", "signing"] []
  m_round_of : mg "round_of" = some (.ref f_round_of)
  f_never_sources : Addr
  d_never_sources : FuncData
  F_never_sources : Fun K "_never_sources" "_never_sources" s_never_sources f_never_sources d_never_sources
  b_never_sources : Binds K d_never_sources ["many", "goings"] []
  m_never_sources : mg "_never_sources" = some (.ref f_never_sources)
  f_round_behind : Addr
  d_round_behind : FuncData
  F_round_behind : Fun K "_round_behind" "_round_behind" s_round_behind f_round_behind d_round_behind
  b_round_behind : Binds K d_round_behind ["goings", "left"] []
  m_round_behind : mg "_round_behind" = some (.ref f_round_behind)
  f_sources : Addr
  d_sources : FuncData
  F_sources : Fun K "sources" "sources" s_sources f_sources d_sources
  b_sources : Binds K d_sources ["web", "signing"] []
  m_sources : mg "sources" = some (.ref f_sources)
  f_behind : Addr
  d_behind : FuncData
  F_behind : Fun K "_behind" "_behind" s_behind f_behind d_behind
  b_behind : Binds K d_behind ["web", "signing", "place"] []
  m_behind : mg "_behind" = some (.ref f_behind)
  f_rooted : Addr
  d_rooted : FuncData
  F_rooted : Fun K "rooted" "rooted" s_rooted f_rooted d_rooted
  b_rooted : Binds K d_rooted ["web", "signing", "place"] []
  m_rooted : mg "rooted" = some (.ref f_rooted)
  f_l_hand : Addr
  d_l_hand : FuncData
  F_l_hand : Fun K "_law_hand" "_law_hand" s_l_hand f_l_hand d_l_hand
  b_l_hand : Binds K d_l_hand ["script"] []
  m_l_hand : mg "_law_hand" = some (.ref f_l_hand)
  f_l_draw : Addr
  d_l_draw : FuncData
  F_l_draw : Fun K "_law_draw" "_law_draw" s_l_draw f_l_draw d_l_draw
  b_l_draw : Binds K d_l_draw ["hand", "many"] []
  m_l_draw : mg "_law_draw" = some (.ref f_l_draw)
  f_l_some : Addr
  d_l_some : FuncData
  F_l_some : Fun K "_law_some" "_law_some" s_l_some f_l_some d_l_some
  b_l_some : Binds K d_l_some ["hand", "things"] []
  m_l_some : mg "_law_some" = some (.ref f_l_some)
  f_l_mixed : Addr
  d_l_mixed : FuncData
  F_l_mixed : Fun K "_law_mixed" "_law_mixed" s_l_mixed f_l_mixed d_l_mixed
  b_l_mixed : Binds K d_l_mixed ["hand", "things"] []
  m_l_mixed : mg "_law_mixed" = some (.ref f_l_mixed)
  f_l_ties : Addr
  d_l_ties : FuncData
  F_l_ties : Fun K "_law_ties" "_law_ties" s_l_ties f_l_ties d_l_ties
  b_l_ties : Binds K d_l_ties ["hand", "many", "most"] []
  m_l_ties : mg "_law_ties" = some (.ref f_l_ties)
  f_l_whole_ties : Addr
  d_l_whole_ties : FuncData
  F_l_whole_ties : Fun K "_law_whole_ties" "_law_whole_ties" s_l_whole_ties f_l_whole_ties d_l_whole_ties
  b_l_whole_ties : Binds K d_l_whole_ties ["hand", "many", "most"] []
  m_l_whole_ties : mg "_law_whole_ties" = some (.ref f_l_whole_ties)
  f_l_signing : Addr
  d_l_signing : FuncData
  F_l_signing : Fun K "_law_signing" "_law_signing" s_l_signing f_l_signing d_l_signing
  b_l_signing : Binds K d_l_signing ["hand", "many", "ties"] []
  m_l_signing : mg "_law_signing" = some (.ref f_l_signing)
  f_l_sources : Addr
  d_l_sources : FuncData
  F_l_sources : Fun K "_law_sources" "_law_sources" s_l_sources f_l_sources d_l_sources
  b_l_sources : Binds K d_l_sources ["many", "ties", "signing"] []
  m_l_sources : mg "_law_sources" = some (.ref f_l_sources)
  f_l_bent : Addr
  d_l_bent : FuncData
  F_l_bent : Fun K "_law_bent" "_law_bent" s_l_bent f_l_bent d_l_bent
  b_l_bent : Binds K d_l_bent ["ties", "signing", "place"] []
  m_l_bent : mg "_law_bent" = some (.ref f_l_bent)
  f_l_is_free : Addr
  d_l_is_free : FuncData
  F_l_is_free : Fun K "_law_is_free" "_law_is_free" s_l_is_free f_l_is_free d_l_is_free
  b_l_is_free : Binds K d_l_is_free ["many", "ties", "signing"] []
  m_l_is_free : mg "_law_is_free" = some (.ref f_l_is_free)
  f_l_heights : Addr
  d_l_heights : FuncData
  F_l_heights : Fun K "_law_heights" "_law_heights" s_l_heights f_l_heights d_l_heights
  b_l_heights : Binds K d_l_heights ["many", "ties", "one", "other"] []
  m_l_heights : mg "_law_heights" = some (.ref f_l_heights)
  f_l_are_flags : Addr
  d_l_are_flags : FuncData
  F_l_are_flags : Fun K "_law_are_flags" "_law_are_flags" s_l_are_flags f_l_are_flags d_l_are_flags
  b_l_are_flags : Binds K d_l_are_flags ["told", "due"] []
  m_l_are_flags : mg "_law_are_flags" = some (.ref f_l_are_flags)
  f_l_rooted : Addr
  d_l_rooted : FuncData
  F_l_rooted : Fun K "_law_rooted" "_law_rooted" s_l_rooted f_l_rooted d_l_rooted
  b_l_rooted : Binds K d_l_rooted ["many", "ties", "signing", "place"] []
  m_l_rooted : mg "_law_rooted" = some (.ref f_l_rooted)
  f_l_led_on : Addr
  d_l_led_on : FuncData
  F_l_led_on : Fun K "_law_led_on" "_law_led_on" s_l_led_on f_l_led_on d_l_led_on
  b_l_led_on : Binds K d_l_led_on ["hand", "many", "ties", "signing", "most"] []
  m_l_led_on : mg "_law_led_on" = some (.ref f_l_led_on)
  f_l_is_right : Addr
  d_l_is_right : FuncData
  F_l_is_right : Fun K "_law_is_right" "_law_is_right" s_l_is_right f_l_is_right d_l_is_right
  b_l_is_right : Binds K d_l_is_right ["web", "signing", "place"] []
  m_l_is_right : mg "_law_is_right" = some (.ref f_l_is_right)
  f_law : Addr
  d_law : FuncData
  F_law : Fun K "law" "law" s_law f_law d_law
  b_law : Binds K d_law ["script"] []
  m_law : mg "law" = some (.ref f_law)
  C_Web : Addr
  m_Web : mg "Web" = some (.ref C_Web)
  cl_Web : Cls K C_Web
  mk_Web : Mk K C_Web f_webI
  eq_Web : PySem.W.findIn K (.ref C_Web) "__eq__" = some (some (.ref f_webE))
  eqf_Web : PySem.W.isFn K (.ref f_webE) = true
  ne_Web : PySem.W.findIn K (.ref C_Web) "__ne__" = some (some (.builtin "object.__ne__"))
  ic_Web : PySem.W.findIn K (.ref C_Web) "__class__" = some (some (.builtin "object.__class__"))
  im_Web : PySem.W.mroIn K C_Web (.type "object") = some true
  no_Web_many : NoAttr K C_Web "many"
  no_Web_ties : NoAttr K C_Web "ties"
  ia : PySem.W.specialIn K (.builtin "object.__class__") "__get__" = some (some (.builtin "getset_descriptor.__get__"))
  ib : PySem.W.takesIn K (.builtin "object.__class__") = some true
  t_MOST_PLACES : Tok
  m_MOST_PLACES : mg "MOST_PLACES" = some (.int 10 t_MOST_PLACES)
  t_MOST_TIES : Tok
  m_MOST_TIES : mg "MOST_TIES" = some (.int 16 t_MOST_TIES)
  g_abs : mg "abs" = none
  g_all : mg "all" = none
  g_any : mg "any" = none
  g_bool : mg "bool" = none
  g_enumerate : mg "enumerate" = none
  g_int : mg "int" = none
  g_isinstance : mg "isinstance" = none
  g_len : mg "len" = none
  g_list : mg "list" = none
  g_max : mg "max" = none
  g_min : mg "min" = none
  g_range : mg "range" = none
  g_reversed : mg "reversed" = none
  g_sorted : mg "sorted" = none
  g_tuple : mg "tuple" = none
  g_zip : mg "zip" = none
end K42
set_option Elab.async false
set_option linter.all false
set_option maxRecDepth 100000
set_option maxHeartbeats 4000000
/-! The judges of kinds, and a web made. -/
namespace K42
open PySem L2 Rl
/-! ### promises -/
def spInt1 : Sp := fun vs H Q _ => ∃ i : Int, vs = [.int i] ∧ Q (.bl true) H
def spBetw : Sp := fun vs H Q _ => ∃ i l m : Int, vs = [.int i, .int l, .int m] ∧ Q (.bl (decide (l ≤ i) && decide (i ≤ m))) H
def spBelow : Sp := fun vs H Q _ => ∃ i m : Int, vs = [.int i, .int m] ∧ Q (.bl (decide (0 ≤ i) && decide (i < m))) H
def spPair : Sp := fun vs H Q _ => ∃ (a : Addr) (x y : V), vs = [.ref a] ∧ H a = some (.tup [x, y]) ∧ Q (.bl true) H
def spTie : Sp := fun vs H Q _ => ∃ (a : Addr) (u v n : Int), vs = [.ref a, .int n] ∧ H a = some (.tup [.int u, .int v]) ∧ 0 ≤ u ∧ u ≤ v ∧ v < n ∧ Q (.bl true) H
section
variable {P : Program} {w : World} {K : PySem.W.Frag} {mg : Str → Option Value} {base : Heap}
theorem ok_is_integer (T : Tx K mg) : FnOk P w K mg base CX0 1 T.f_is_integer T.d_is_integer ["thing"] spInt1 := by
  refine T.F_is_integer.ok sc_is_integer (fun vs H Q E h => ?_) (fun cdv A outer s H vs Q E hr h => ?_)
  · obtain ⟨i, rfl, _⟩ := h
    rfl
  obtain ⟨i, rfl, q⟩ := h
  refine ⟨_, (pss_one (ps_ret (pe_and (pe_callB call_isi (by rfl) T.g_isinstance (by decide +kernel) (pa_cons (pv 0) (pa_cons (pe_bltn (v := .ty "int") (by rfl) T.g_int (by decide +kernel) rfl) pa_nil))) (pe_one (pe_not (pe_callB call_isi (by rfl) T.g_isinstance (by decide +kernel) (pa_cons (pv 0) (pa_cons (pe_bltn (v := .ty "bool") (by rfl) T.g_bool (by decide +kernel) rfl) pa_nil)))))))), ?_⟩
  refine ⟨_, rfl, _, _, _, _, _, rfl, .ty _, .base (.int i), kit_ty (by decide +kernel), true, rfl, iteT ?_⟩
  refine ⟨_, rfl, _, _, _, _, _, rfl, .ty _, .base (.int i), kit_ty (b := "bool") (r := false) (by decide +kernel), false, rfl, ?_⟩
  exact q
theorem ok_is_between (T : Tx K mg) : FnOk P w K mg base CX0 2 T.f_is_between T.d_is_between ["thing", "least", "most"] spBetw := by
  refine T.F_is_between.ok sc_is_between (fun vs H Q E h => ?_) (fun cdv A outer s H vs Q E hr h => ?_)
  · obtain ⟨i, l, m, rfl, _⟩ := h
    rfl
  obtain ⟨i, l, m, rfl, q⟩ := h
  refine ⟨_, (pss_one (ps_ret (pe_and (pe_call (ok_is_integer T) (hr.mono (by decide)) (by rfl) T.m_is_integer T.F_is_integer.kp T.b_is_integer .nil pass0 (pa_cons (pv 0) pa_nil)) (pe_one (pe_chain op_le op_le (pv 1) (pv 0) (pv 2)))))), ?_⟩
  refine ⟨_, rfl, i, rfl, true, rfl, iteT ?_⟩
  refine ⟨_, rfl, _, rfl, l, i, rfl, rfl, _, rfl, ?_⟩
  cases hd : decide (l ≤ i) with
  | true =>
    rw [hd] at q
    exact iteT ⟨_, rfl, i, m, rfl, rfl, q⟩
  | false =>
    rw [hd] at q
    exact iteF q
theorem ok_is_below (T : Tx K mg) : FnOk P w K mg base CX0 2 T.f_is_below T.d_is_below ["thing", "bound"] spBelow := by
  refine T.F_is_below.ok sc_is_below (fun vs H Q E h => ?_) (fun cdv A outer s H vs Q E hr h => ?_)
  · obtain ⟨i, m, rfl, _⟩ := h
    rfl
  obtain ⟨i, m, rfl, q⟩ := h
  refine ⟨_, (pss_one (ps_ret (pe_and (pe_call (ok_is_integer T) (hr.mono (by decide)) (by rfl) T.m_is_integer T.F_is_integer.kp T.b_is_integer .nil pass0 (pa_cons (pv 0) pa_nil)) (pe_one (pe_chain op_le op_lt pe_int (pv 0) (pv 1)))))), ?_⟩
  refine ⟨_, rfl, i, rfl, true, rfl, iteT ?_⟩
  refine ⟨_, rfl, 0, i, rfl, rfl, _, rfl, ?_⟩
  cases hd : decide ((0 : Int) ≤ i) with
  | true =>
    rw [hd] at q
    exact iteT ⟨_, rfl, i, m, rfl, rfl, q⟩
  | false =>
    rw [hd] at q
    exact iteF q
theorem ok_is_pair (T : Tx K mg) : FnOk P w K mg base CX0 1 T.f_is_pair T.d_is_pair ["thing"] spPair := by
  refine T.F_is_pair.ok sc_is_pair (fun vs H Q E h => ?_) (fun cdv A outer s H vs Q E hr h => ?_)
  · obtain ⟨a, x, y, rfl, _⟩ := h
    rfl
  obtain ⟨a, x, y, rfl, ha, q⟩ := h
  refine ⟨_, (pss_one (ps_ret (pe_and (pe_callB call_isi (by rfl) T.g_isinstance (by decide +kernel) (pa_cons (pv 0) (pa_cons (pe_bltn (v := .ty "tuple") (by rfl) T.g_tuple (by decide +kernel) rfl) pa_nil))) (pe_one (pe_cmpR op_eq (pe_callB call_len_seq (by rfl) T.g_len PySem.boot_len (pa_cons (pv 0) pa_nil)) pe_int (nomark _)))))), ?_⟩
  refine ⟨_, rfl, _, _, _, _, _, rfl, .ty _, .base (.tup ha), kit_ty (by decide +kernel), true, rfl, iteT ?_⟩
  refine ⟨_, rfl, a, _, rfl, .inr (SqT.of ha), rfl, ?_⟩
  exact q
theorem ok_is_tie (T : Tx K mg) : FnOk P w K mg base CX0 3 T.f_is_tie T.d_is_tie ["thing", "many"] spTie := by
  refine T.F_is_tie.ok sc_is_tie (fun vs H Q E h => ?_) (fun cdv A outer s H vs Q E hr h => ?_)
  · obtain ⟨a, u, v, n, rfl, _⟩ := h
    rfl
  obtain ⟨a, u, v, n, rfl, ha, h0, h1, h2, q⟩ := h
  have sT : SqT K H a [.int u, .int v] := SqT.of ha
  refine ⟨_, (pss_one (ps_ret (pe_and (pe_call (ok_is_pair T) (hr.mono (by decide)) (by rfl) T.m_is_pair T.F_is_pair.kp T.b_is_pair .nil pass0 (pa_cons (pv 0) pa_nil)) (pe_and (pe_call (ok_is_below T) (hr.mono (by decide)) (by rfl) T.m_is_below T.F_is_below.kp T.b_is_below .nil pass0 (pa_cons (pe_ix ix_tup (pv 0) pe_int (fun _ _ => rfl)) (pa_cons (pv 1) pa_nil))) (pe_one (pe_call (ok_is_between T) (hr.mono (by decide)) (by rfl) T.m_is_between T.F_is_between.kp T.b_is_between .nil pass0 (pa_cons (pe_ix ix_tup (pv 0) pe_int (fun _ _ => rfl)) (pa_cons pe_int (pa_cons (pe_ix ix_tup (pv 0) pe_int (fun _ _ => rfl)) pa_nil))))))))), ?_⟩
  refine ⟨_, rfl, a, _, _, rfl, ha, true, rfl, iteT ?_⟩
  refine ⟨_, rfl, a, _, 1, .int v, rfl, rfl, sT, atI_nat (j := 1) rfl, _, rfl, v, n, rfl, _, rfl, ?_⟩
  have e1 : (decide (0 ≤ v) && decide (v < n)) = true := by
    rw [decide_eq_true (show (0 : Int) ≤ v by omega), decide_eq_true h2]
    rfl
  rw [e1]
  refine iteT ?_
  refine ⟨_, rfl, a, _, 0, .int u, rfl, rfl, sT, atI_nat (j := 0) rfl, _, rfl, a, _, 1, .int v, rfl, rfl, sT, atI_nat (j := 1) rfl, u, 0, v, rfl, ?_⟩
  have e2 : (decide (0 ≤ u) && decide (u ≤ v)) = true := by
    rw [decide_eq_true h0, decide_eq_true h1]
    rfl
  rw [e2]
  exact q
end
/-! ### webs -/
/-- the items of a list or tuple are pairs of ints, these -/
def PrsAt (H : Hp) (vs : List V) (ps : List (Int × Int)) : Prop := Paired (fun (v : V) (p : Int × Int) => ∃ a, v = .ref a ∧ H a = some (.tup [.int p.1, .int p.2])) vs ps
def TiesAt (H : Hp) (t : Addr) (ps : List (Int × Int)) : Prop := ∃ vs, H t = some (.tup vs) ∧ PrsAt H vs ps
def okP (n : Int) (p : Int × Int) : Prop := 0 ≤ p.1 ∧ p.1 ≤ p.2 ∧ p.2 < n
def wf (n : Int) (t : Addr) : List (Str × V) := putF "ties" (.ref t) (putF "many" (.int n) [])
def WebAt (C : Addr) (H : Hp) (x : Addr) (n : Int) (ps : List (Int × Int)) : Prop := ∃ dx t, H x = some (.ins C dx (wf n t)) ∧ TiesAt H t ps
theorem kmt : ¬ (("many" : Str) = "ties") := by decide +kernel
theorem wf_many (n : Int) (t : Addr) : (wf n t).lookup ("many" : Str) = some (.int n) := by
  unfold wf
  rw [lookup_putF, if_neg kmt, lookup_putF, if_pos rfl]
theorem wf_ties (n : Int) (t : Addr) : (wf n t).lookup ("ties" : Str) = some (.ref t) := by
  unfold wf
  rw [lookup_putF, if_pos rfl]
theorem PrsAt.get {H : Hp} : ∀ {vs : List V} {ps : List (Int × Int)} {i : Nat} {v : V}, PrsAt H vs ps → vs[i]? = some v → ∃ p a, ps[i]? = some p ∧ v = .ref a ∧ H a = some (.tup [.int p.1, .int p.2])
  | _, _, i, v, .nil, h => by simp at h
  | _, _, 0, v, .cons (a := x) (b := p) ⟨a, e, q⟩ _, h => by
    have e1 : x = v := Option.some.inj h
    exact ⟨p, a, rfl, e1.symm.trans e, q⟩
  | _, _, i + 1, v, .cons _ r, h => PrsAt.get (i := i) (v := v) r h
theorem PrsAt.mono {H H' : Hp} (e : ∀ a x y, H a = some (.tup [x, y]) → H' a = some (.tup [x, y])) : ∀ {vs : List V} {ps : List (Int × Int)}, PrsAt H vs ps → PrsAt H' vs ps
  | _, _, .nil => .nil
  | _, _, .cons ⟨a, e1, q⟩ r => .cons ⟨a, e1, e _ _ _ q⟩ (PrsAt.mono e r)
theorem PrsAt.len {H : Hp} {vs : List V} {ps : List (Int × Int)} (h : PrsAt H vs ps) : vs.length = ps.length := Paired.length h
theorem TiesAt.same {H H' : Hp} {t : Addr} {ps : List (Int × Int)} (e : Same H H') (h : TiesAt H t ps) : TiesAt H' t ps := by
  obtain ⟨vs, h1, h2⟩ := h
  exact ⟨vs, e _ _ h1, h2.mono fun a x y q => e _ _ q⟩
theorem WebAt.same {C : Addr} {H H' : Hp} {x : Addr} {n : Int} {ps : List (Int × Int)} (e : Same H H') (h : WebAt C H x n ps) : WebAt C H' x n ps := by
  obtain ⟨dx, t, h1, h2⟩ := h
  exact ⟨dx, t, e _ _ h1, h2.same e⟩
def spWebI (C : Addr) : Sp := fun vs H Q _ => ∃ (x dx t : Addr) (n : Int) (ps : List (Int × Int)), vs = [.ref x, .int n, .ref t] ∧ H x = some (.ins C dx []) ∧ 1 ≤ n ∧ n ≤ 10 ∧ TiesAt H t ps ∧ ps.length ≤ 16 ∧ (∀ p ∈ ps, okP n p) ∧
  ∀ H', (∀ b o, H b = some o → b ≠ x → H' b = some o) → H' x = some (.ins C dx (wf n t)) → Q .non H'
section
variable {P : Program} {w : World} {K : PySem.W.Frag} {mg : Str → Option Value} {base : Heap}
theorem same_new {H : Hp} {p : Addr} (h : H p = none) (o : HO) : Same H (upd H p o) := fun b u q => by
  rw [upd_ne (ne_of_none q h)]
  exact q
theorem ok_webI (T : Tx K mg) : FnOk P w K mg base CX0 4 T.f_webI T.d_webI ["self", "many", "ties"] (spWebI T.C_Web) := by
  refine T.F_webI.ok sc_webI (fun vs H Q E h => ?_) (fun cdv A outer s H vs Q E hr h => ?_)
  · obtain ⟨x, dx, t, n, ps, rfl, _⟩ := h
    rfl
  obtain ⟨x, dx, t, n, ps, rfl, hx, n1, n2, ht, hl, hp, q⟩ := h
  obtain ⟨vs, ht1, ht2⟩ := id ht
  refine ⟨_, (pss_cons (ps_if (pt_not (pt_val (pe_call (ok_is_between T) (hr.mono (by decide)) (by rfl) T.m_is_between T.F_is_between.kp T.b_is_between .nil pass0 (pa_cons (pv 1) (pa_cons pe_int (pa_cons (pe_glob (v := .int 10) rfl T.m_MOST_PLACES ⟨_, rfl⟩) pa_nil))))))
      (pss_one ps_never)
      pss_nil)
    (pss_cons (ps_if (PW.pt (pw_or (pt_not (pt_val (pe_callB call_isi (by rfl) T.g_isinstance (by decide +kernel) (pa_cons (pv 2) (pa_cons (pe_bltn (v := .ty "tuple") (by rfl) T.g_tuple (by decide +kernel) rfl) pa_nil))))) (pw_or1 (pt_cmpR op_gt (pe_callB call_len_seq (by rfl) T.g_len PySem.boot_len (pa_cons (pv 2) pa_nil)) (pe_glob (v := .int 16) rfl T.m_MOST_TIES ⟨_, rfl⟩) (nomark _)))))
      (pss_one ps_never)
      pss_nil)
    (pss_cons (ps_for PassesOwn.never rfl (pi_enT (by rfl) T.g_enumerate (pa_cons (pv 2) pa_nil)) (pg_tup rfl (pgs_cons (pg_name (i := 3) sc_webI.nd rfl (.inl rfl)) (pgs_cons (pg_name (i := 4) sc_webI.nd rfl (.inl rfl)) pgs_nil)))
      (pss_one (ps_if (pt_not (pt_val (pe_call (ok_is_tie T) (hr.mono (by decide)) (by rfl) T.m_is_tie T.F_is_tie.kp T.b_is_tie .nil pass0 (pa_cons (pv 4) (pa_cons (pv 1) pa_nil)))))
          (pss_one ps_never)
          pss_nil)))
    (pss_cons (ps_fld (pv 0) (pv 1) rfl)
    (pss_one (ps_fld (pv 0) (pv 2) rfl)))))), ?_⟩
  refine ⟨_, rfl, n, 1, 10, rfl, true, ?_, ?_⟩
  · rw [decide_eq_true n1, decide_eq_true n2]
    rfl
  refine iteF ?_
  refine ⟨_, rfl, _, _, _, _, _, rfl, .ty _, .base (.tup ht1), kit_ty (by decide +kernel), true, rfl, ?_⟩
  refine iteF ?_
  refine ⟨_, rfl, t, _, rfl, .inr (SqT.of ht1), _, 16, rfl, rfl, _, rfl, ?_⟩
  have e3 : ((vs.length : Nat) : Int) ≤ 16 := by
    rw [ht2.len]
    omega
  rw [decide_eq_false (show ¬ (16 : Int) < ((vs.length : Nat) : Int) by omega)]
  refine iteF ?_
  -- each tie is one
  refine ⟨_, rfl, t, _, rfl, SqT.of ht1, for_enT (fun i σ H' => ∃ y3 y4, σ = [some (.ref x), some (.int n), some (.ref t), y3, y4] ∧ Same H H')
    ⟨none, none, rfl, Same.refl H⟩ (fun i σ H' ⟨_, _, _, sm⟩ => SqT.of (sm _ _ ht1)) ?_ ?_⟩
  · intro i y S σ H' hi ⟨y3, y4, e, sm⟩ nS
    subst e
    obtain ⟨p, a, hpi, ey, ha⟩ := ht2.get hi
    subst ey
    have op := hp p (List.mem_of_getElem? hpi)
    have s2 : Same H (upd H' S (.tup [.int (i : Nat), .ref a])) := sm.trans (same_new nS _)
    refine ⟨S, _, rfl, SqT.of upd_same, rfl, _, _, rfl, _, _, rfl, rfl, ?_⟩
    refine ⟨_, rfl, _, rfl, a, p.1, p.2, n, rfl, s2 _ _ ha, op.1, op.2.1, op.2.2, true, rfl, ?_⟩
    exact iteF ⟨_, _, rfl, s2⟩
  · intro σ H' ⟨y3, y4, e, sm⟩
    subst e
    refine ⟨_, rfl, _, rfl, x, T.C_Web, dx, [], rfl, sm _ _ hx, T.cl_Web, T.no_Web_many, (by show 0 < 1000; decide), ?_⟩
    refine ⟨_, rfl, _, rfl, x, T.C_Web, dx, _, rfl, upd_same, T.cl_Web, T.no_Web_ties, (by show 1 < 1000; decide), ?_⟩
    refine q _ (fun b o hb nb => ?_) upd_same
    rw [upd_ne nb, upd_ne nb]
    exact sm _ _ hb
/-- Web(n, t): a right web, made -/
theorem web_made {C : Addr} {H : Hp} {t : Addr} {n : Int} {ps : List (Int × Int)} {Q : VK} {E : XK} (n1 : 1 ≤ n) (n2 : n ≤ 10) (ht : TiesAt H t ps) (hl : ps.length ≤ 16) (hp : ∀ p ∈ ps, okP n p)
    (q : ∀ x H', H x = none → Same H H' → WebAt C H' x n ps → Q (.ref x) H') :
    ∀ x dx, H x = none → H dx = none → dx ≠ x → spWebI C (.ref x :: ([.int n, .ref t] ++ [])) (upd (upd H dx (.own x)) x (.ins C dx [])) (fun v H2 => v = .non ∧ Q (.ref x) H2) E := by
  intro x dx nx nd nex
  have s0 : Same H (upd (upd H dx (.own x)) x (.ins C dx [])) := fun b o e => by
    rw [upd_ne (ne_of_none e nx), upd_ne (ne_of_none e nd)]
    exact e
  refine ⟨x, dx, t, n, ps, rfl, upd_same, n1, n2, ht.same s0, hl, hp, fun H' k hx => ⟨rfl, ?_⟩⟩
  have s1 : Same H H' := fun b o e => k b o (s0 b o e) (ne_of_none e nx)
  exact q x H' nx s1 ⟨dx, t, hx, ht.same s1⟩
end
end K42
set_option Elab.async false
set_option linter.all false
set_option maxRecDepth 100000
set_option maxHeartbeats 4000000
/-! Short answers. -/
namespace K42
open PySem L2 Rl
/-! ### short answers -/
theorem cut_hi (xs : List V) (k : Int) (h : 0 ≤ k) : cutV xs none (some k) = xs.take k.toNat := by
  obtain ⟨n, rfl⟩ := Int.eq_ofNat_of_zero_le h
  unfold cutV
  rw [HT.sIx_none, show HT.sIx xs.length xs.length (some (n : Int)) = min n xs.length from HT.sIx_nat _ _ n, List.drop_zero, Nat.sub_zero, Int.toNat_natCast]
  rcases Nat.le_total n xs.length with g | g
  · rw [Nat.min_eq_left g]
  · rw [Nat.min_eq_right g, List.take_of_length_le (Nat.le_refl _), List.take_of_length_le g]
theorem cut_lo (xs : List V) (k : Int) (h : 0 ≤ k) : cutV xs (some k) none = xs.drop k.toNat := by
  obtain ⟨n, rfl⟩ := Int.eq_ofNat_of_zero_le h
  unfold cutV
  rw [HT.sIx_none, show HT.sIx xs.length 0 (some (n : Int)) = min n xs.length from HT.sIx_nat _ _ n, Int.toNat_natCast]
  rcases Nat.le_total n xs.length with g | g
  · rw [Nat.min_eq_left g, List.take_of_length_le (by rw [List.length_drop]; exact Nat.le_refl _)]
  · rw [Nat.min_eq_right g, List.drop_of_length_le (Nat.le_refl _), List.drop_of_length_le g, List.take_nil]
theorem cut_all (xs : List V) (lo hi : Option Int) (h : HT.sIx xs.length 0 lo = 0 ∧ HT.sIx xs.length xs.length hi = xs.length) : cutV xs lo hi = xs := by
  unfold cutV
  rw [h.1, h.2, List.drop_zero, Nat.sub_zero, List.take_of_length_le (Nat.le_refl _)]
section
variable {K : PySem.W.Frag} {H : Hp} {Q : VK}
theorem sl_go {a : Addr} {xs : List V} {lo hi : Option Int} (ha : H a = some (.tup xs)) (q : ∀ p H', Same H H' → H' p = some (.tup (cutV xs lo hi)) → Q (.ref p) H') : rSlA K (.ref a) lo hi H Q :=
  ⟨a, xs, rfl, SqT.of ha, fun z => q a H (Same.refl H) (by rw [cut_all xs lo hi z]; exact ha), fun _ p np => q p _ (same_new np _) upd_same⟩
theorem cat_go {a b : Addr} {xs ys : List V} (ha : H a = some (.tup xs)) (hb : H b = some (.tup ys)) (hz : xs.length + ys.length ≤ 100000) (q : ∀ p H', Same H H' → H' p = some (.tup (xs ++ ys)) → Q (.ref p) H') : rCatA K (.ref a) (.ref b) H Q := by
  refine ⟨a, b, xs, ys, rfl, rfl, SqT.of ha, SqT.of hb, Nat.le_trans hz (by decide), fun e => ?_, fun _ e => ?_, fun _ _ p np => q p _ (same_new np _) upd_same⟩
  · subst e
    exact q b H (Same.refl H) hb
  · subst e
    exact q a H (Same.refl H) (by rw [List.append_nil]; exact ha)
end
theorem rd_same {H H' : Hp} (e : Same H H') {a : Addr} {u : HO} (h : L2.Rd H a u) : L2.Rd H' a u := by
  rcases h with h | ⟨o, h⟩
  · exact .inl (e _ _ h)
  · exact .inr ⟨o, e _ _ h⟩
theorem ty_tupR {K : PySem.W.Frag} {H : Hp} {a : Addr} {xs : List V} (h : L2.Rd H a (.tup xs)) : TyX K H (.ref a) (.type "tuple") := by
  rcases h with h | ⟨o, h⟩
  · exact .base (.tup h)
  · exact .fTuple h
theorem Same.tup {H H' : Hp} (e : Same H H') {a : Addr} {x y : V} (h : H a = some (.tup [x, y])) : H' a = some (.tup [x, y]) := e _ _ h
theorem PrsAt.same {H H' : Hp} {vs : List V} {ps : List (Int × Int)} (e : Same H H') (h : PrsAt H vs ps) : PrsAt H' vs ps := h.mono fun _ _ _ q => e _ _ q
theorem PrsAt.app {H : Hp} : ∀ {vs ws : List V} {ps qs : List (Int × Int)}, PrsAt H vs ps → PrsAt H ws qs → PrsAt H (vs ++ ws) (ps ++ qs)
  | _, _, _, _, .nil, h => h
  | _, _, _, _, .cons a r, h => .cons a (PrsAt.app r h)
theorem PrsAt.take {H : Hp} : ∀ {vs : List V} {ps : List (Int × Int)} (n : Nat), PrsAt H vs ps → PrsAt H (vs.take n) (ps.take n)
  | _, _, 0, _ => by rw [List.take_zero, List.take_zero]; exact .nil
  | _, _, _ + 1, .nil => .nil
  | _, _, n + 1, .cons a r => .cons a (PrsAt.take n r)
theorem PrsAt.drop {H : Hp} : ∀ {vs : List V} {ps : List (Int × Int)} (n : Nat), PrsAt H vs ps → PrsAt H (vs.drop n) (ps.drop n)
  | _, _, 0, h => h
  | _, _, _ + 1, .nil => .nil
  | _, _, n + 1, .cons a r => PrsAt.drop n r
/-- a list that is changed at an address that holds no tuple leaves the pairs -/
theorem PrsAt.upd {H : Hp} {D : Addr} {l : List V} {o : HO} {vs : List V} {ps : List (Int × Int)} (hD : H D = some (.lst l)) (h : PrsAt H vs ps) : PrsAt (upd H D o) vs ps :=
  h.mono fun a x y q => by
    rw [upd_ne (ne_of q hD (by intro z; cases z))]
    exact q
def Right (n : Int) (ps : List (Int × Int)) : Prop := 1 ≤ n ∧ n ≤ 10 ∧ ps.length ≤ 16 ∧ ∀ p ∈ ps, okP n p
/-- as min and max of two answer -/
def mn (i j : Int) : Int := if j < i then j else i
def mx (i j : Int) : Int := if j > i then j else i
def ix (ns : List Int) (k : Int) : Int := ns.getD k.toNat 0
def cal (ns : List Int) (p : Int × Int) : Int × Int := (mn (ix ns p.1) (ix ns p.2), mx (ix ns p.1) (ix ns p.2))
def inR (m : Nat) (p : Int × Int) : Prop := 0 ≤ p.1 ∧ p.1 < m ∧ 0 ≤ p.2 ∧ p.2 < m
theorem ix_at {ns : List Int} {k : Int} (h0 : 0 ≤ k) (h1 : k < ns.length) : atI (ns.map V.int) k = some (.int (ix ns k)) := by
  obtain ⟨n, rfl⟩ := Int.eq_ofNat_of_zero_le h0
  have hn : n < ns.length := by omega
  refine atI_nat ?_
  unfold ix
  rw [List.getElem?_map, Int.toNat_natCast, List.getD_eq_getElem?_getD, List.getElem?_eq_getElem hn]
  rfl
section
variable {P : Program} {w : World} {K : PySem.W.Frag} {mg : Str → Option Value} {base : Heap}
theorem ix_go {H : Hp} {m : Addr} {ns : List Int} {k : Int} {Q : VK} (hm : H m = some (.lst (ns.map V.int)) ∨ L2.Rd H m (.tup (ns.map V.int))) (h0 : 0 ≤ k) (h1 : k < ns.length) (q : Q (.int (ix ns k)) H) : rIx K (.ref m) (.int k) H Q := by
  rcases hm with hm | hm
  · exact .inl ⟨m, _, k, _, rfl, rfl, SqL.of hm, ix_at h0 h1, q⟩
  · exact .inr (.inl ⟨m, _, k, _, rfl, rfl, .inl hm, ix_at h0 h1, q⟩)
end
/-! ### data -/
def dI (ns : List Int) : List PyData := ns.map PyData.int
def dP (p : Int × Int) : PyData := .tuple [.int p.1, .int p.2]
theorem can_ints : ∀ ns : List Int, PyData.canLayAll0 (dI ns) = true
  | [] => by unfold dI; simp [PyData.canLayAll0]
  | n :: r => by
    have ih := can_ints r
    unfold dI at ih ⊢
    rw [List.map_cons]
    simp only [PyData.canLayAll0, PyData.canLay0, Bool.true_and]
    exact ih
theorem dep_ints : ∀ ns : List Int, PyData.depthAll (dI ns) = 0
  | [] => by unfold dI; simp [PyData.depthAll]
  | n :: r => by
    have ih := dep_ints r
    unfold dI at ih ⊢
    rw [List.map_cons]
    simp only [PyData.depthAll, PyData.depth]
    rw [ih]
    rfl
theorem can_pair (p : Int × Int) : (dP p).canLay0 = true := by
  unfold dP
  simp [PyData.canLay0, PyData.canLayAll0]
theorem dep_pair (p : Int × Int) : (dP p).depth = 1 := by
  unfold dP
  simp [PyData.depth, PyData.depthAll]
theorem can_prs : ∀ ps : List (Int × Int), PyData.canLayAll0 (ps.map dP) = true
  | [] => by simp [PyData.canLayAll0]
  | p :: r => by
    rw [List.map_cons]
    simp only [PyData.canLayAll0]
    rw [can_pair, can_prs r]
    rfl
theorem dep_prs : ∀ ps : List (Int × Int), PyData.depthAll (ps.map dP) ≤ 1
  | [] => by simp [PyData.depthAll]
  | p :: r => by
    rw [List.map_cons]
    simp only [PyData.depthAll]
    rw [dep_pair]
    exact Nat.max_le.mpr ⟨Nat.le_refl _, dep_prs r⟩
theorem shp_of {d : PyData} (h1 : d.canLay0 = true) (h2 : d.depth ≤ 64) : SeqAt.shaped d = true := Bool.and_eq_true_iff.mpr ⟨h1, decide_eq_true h2⟩
theorem shp_ints (ns : List Int) : SeqAt.shaped (.list (dI ns)) = true := shp_of
  (by simp only [PyData.canLay0]; exact can_ints ns) (by simp only [PyData.depth]; rw [dep_ints]; decide)
theorem shp_pair (p : Int × Int) : SeqAt.shaped (dP p) = true := shp_of (can_pair p) (by rw [dep_pair]; decide)
theorem shp_prs (ps : List (Int × Int)) : SeqAt.shaped (.tuple (ps.map dP)) = true := shp_of
  (by simp only [PyData.canLay0]; exact can_prs ps) (by simp only [PyData.depth]; have := dep_prs ps; omega)
theorem eqv_same {d : PyData} (h : SeqAt.shaped d = true) : PyData.eqv d d = true := SeqAt.eqv_refl d (SeqAt.canLay_of_shaped h)
theorem dpa_ints {K : PySem.W.Frag} {H : Hp} : ∀ ns : List Int, DpAll K H (ns.map V.int) (dI ns)
  | [] => .nil
  | n :: r => .cons (.int n) (dpa_ints r)
theorem dp_pair {K : PySem.W.Frag} {H : Hp} {a : Addr} {p : Int × Int} (h : H a = some (.tup [.int p.1, .int p.2])) : Dp K H (.ref a) (dP p) :=
  .tup (SqT.of h) (.cons (.int _) (.cons (.int _) .nil))
theorem dpa_prs {K : PySem.W.Frag} {H : Hp} : ∀ {vs : List V} {ps : List (Int × Int)}, PrsAt H vs ps → DpAll K H vs (ps.map dP)
  | _, _, .nil => .nil
  | _, _, .cons ⟨a, e, h⟩ r => by
    rw [e]
    exact .cons (dp_pair h) (dpa_prs r)
theorem dp_ties {K : PySem.W.Frag} {H : Hp} {t : Addr} {ps : List (Int × Int)} (h : TiesAt H t ps) : Dp K H (.ref t) (.tuple (ps.map dP)) := by
  obtain ⟨vs, h1, h2⟩ := h
  exact .tup (SqT.of h1) (dpa_prs h2)
/-! ### orders -/
def rn (n : Int) : List Int := (List.range n.toNat).map fun i : Nat => (i : Int)
theorem rg_rn (n : Int) : rgV 0 n = (rn n).map V.int := by
  unfold rgV rn
  rw [Int.sub_zero, List.map_map]
  refine List.map_congr_left fun i _ => ?_
  show V.int (0 + (i : Int)) = V.int (i : Int)
  rw [Int.zero_add]
theorem rn_len (n : Int) : (rn n).length = n.toNat := by
  unfold rn
  rw [List.length_map, List.length_range]
theorem mem_rn {n k : Int} : k ∈ rn n ↔ 0 ≤ k ∧ k < n := by
  unfold rn
  rw [List.mem_map]
  constructor
  · rintro ⟨i, hi, rfl⟩
    have := List.mem_range.mp hi
    omega
  · intro ⟨h0, h1⟩
    exact ⟨k.toNat, List.mem_range.mpr (by omega), by omega⟩
theorem rn_sorted (n : Int) : (rn n).Pairwise (· < ·) := by
  unfold rn
  refine List.pairwise_map.mpr ?_
  have q := List.pairwise_lt_range (n := n.toNat)
  exact q.imp fun {a b} h => by omega
theorem rn_get {n : Int} {i : Nat} (h : i < n.toNat) : (rn n)[i]? = some (i : Int) := by
  unfold rn
  rw [List.getElem?_map, List.getElem?_range h]
  rfl
def IsOrd (n : Int) (os : List Int) : Prop := os.Perm (rn n)
theorem ixN_of {m : Nat} {k : Int} (h0 : 0 ≤ k) (h1 : k.toNat < m) : ixN m k = some k.toNat := by
  obtain ⟨j, rfl⟩ := Int.eq_ofNat_of_zero_le h0
  rw [Int.toNat_natCast] at h1 ⊢
  exact Evl.ixN_nat h1
theorem getD_mem {ps : List (Int × Int)} {k : Nat} (h : k < ps.length) : ps.getD k (0, 0) ∈ ps := by
  rw [List.getD_eq_getElem?_getD, List.getElem?_eq_getElem h]
  exact List.getElem_mem h
theorem mn_mx {n a b : Int} (a0 : 0 ≤ a) (b0 : 0 ≤ b) (a1 : a < n) (b1 : b < n) : okP n (mn a b, mx a b) := by
  unfold okP mn mx
  by_cases h : b < a
  · rw [if_pos h, if_neg (by omega)]
    exact ⟨b0, by show b ≤ a; omega, a1⟩
  · rw [if_neg h]
    by_cases g : b > a
    · rw [if_pos g]
      exact ⟨a0, by show a ≤ b; omega, b1⟩
    · rw [if_neg g]
      exact ⟨a0, Int.le_refl _, a1⟩
theorem inR_of {n : Int} {p : Int × Int} {m : Nat} (h : okP n p) (e : m = n.toNat) : inR m p := by
  obtain ⟨h0, h1, h2⟩ := h
  unfold inR
  omega
theorem sorted_unique {a b : List Int} (ha : a.Pairwise (· < ·)) (hb : b.Pairwise (· < ·)) (h : ∀ k, k ∈ a ↔ k ∈ b) : a = b := by
  have na : a.Nodup := ha.imp fun {x y} l e => by omega
  have nb : b.Nodup := hb.imp fun {x y} l e => by omega
  exact PySem.W.ksm_same ((List.perm_ext_iff_of_nodup na nb).mpr h) (ha.imp fun l => Int.le_of_lt l) (hb.imp fun l => Int.le_of_lt l)
end K42
set_option Elab.async false
set_option linter.all false
set_option maxRecDepth 100000
set_option maxHeartbeats 4000000
/-! The hand of draws. -/
namespace K42
open PySem L2 Rl
/-- all but the object at h is as it was -/
def Kp (h : Addr) (H H' : Hp) : Prop := ∀ b o, b ≠ h → H b = some o → H' b = some o
theorem Kp.refl (h : Addr) (H : Hp) : Kp h H H := fun _ _ _ e => e
theorem Kp.trans {h : Addr} {H H1 H2 : Hp} (a : Kp h H H1) (b : Kp h H1 H2) : Kp h H H2 := fun c o n e => b c o n (a c o n e)
theorem Same.kp {h : Addr} {H H' : Hp} (e : Same H H') : Kp h H H' := fun b o _ q => e b o q
theorem Kp.upd {h : Addr} {H H' : Hp} {o : HO} (k : Kp h H H') : Kp h H (upd H' h o) := fun b u n e => by
  rw [upd_ne n]
  exact k b u n e
theorem pos_of {c : Int} (h : 0 < c) : (0 : Int) < c := h
theorem m31 {x c : Int} (h0 : 0 < c) (h1 : c ≤ 2147483647) : -(2 ^ 64) < x % c ∧ x % c < 2 ^ 64 := by
  have a := Int.emod_nonneg x (show c ≠ 0 by omega)
  have b := Int.emod_lt_of_pos x h0
  omega
structure HandAt (H : Hp) (h c : Addr) : Prop where
  ex : ∃ (cs : List Int) (i b m n : Int), H h = some (.lst [.ref c, .int i, .int b, .int m, .int n]) ∧ H c = some (.lst (cs.map V.int)) ∧ c ≠ h ∧ 0 ≤ i ∧ 0 ≤ b ∧ ∀ z ∈ cs, 0 ≤ z
theorem HandAt.same {H H' : Hp} {h c : Addr} (e : Same H H') (a : HandAt H h c) : HandAt H' h c := by
  obtain ⟨cs, i, b, m, n, h1, h2, h3⟩ := a.ex
  exact ⟨cs, i, b, m, n, e _ _ h1, e _ _ h2, h3⟩
/-- what a hand is made of, a store later -/
theorem HandAt.of {H : Hp} {h c : Addr} {cs : List Int} {i b m n : Int} (h1 : H h = some (.lst [.ref c, .int i, .int b, .int m, .int n])) (h2 : H c = some (.lst (cs.map V.int))) (h3 : c ≠ h) (h4 : 0 ≤ i) (h5 : 0 ≤ b) (h6 : ∀ z ∈ cs, 0 ≤ z) : HandAt H h c :=
  ⟨cs, i, b, m, n, h1, h2, h3, h4, h5, h6⟩
def spDraw : Sp := fun vs H Q _ => ∃ (h c : Addr) (m : Int), vs = [.ref h, .int m] ∧ 0 < m ∧ m < 1073741824 ∧ HandAt H h c ∧
  ∀ d H', 0 ≤ d → d < m → Kp h H H' → HandAt H' h c → Q (.int d) H'
theorem at_in {ns : List Int} {k : Int} (h0 : 0 ≤ k) (h1 : k < ns.length) : ∃ z ∈ ns, atI (ns.map V.int) k = some (.int z) := by
  obtain ⟨n, rfl⟩ := Int.eq_ofNat_of_zero_le h0
  have hn : n < ns.length := by omega
  refine ⟨ns[n], List.getElem_mem hn, atI_nat ?_⟩
  rw [List.getElem?_map, List.getElem?_eq_getElem hn]
  rfl
section
variable {P : Program} {w : World} {K : PySem.W.Frag} {mg : Str → Option Value} {base : Heap}
theorem ok_l_draw (T : Tx K mg) : FnOk P w K mg base CX0 1 T.f_l_draw T.d_l_draw ["hand", "many"] spDraw := by
  refine T.F_l_draw.ok sc_l_draw (fun vs H Q E h => ?_) (fun cdv A outer s H vs Q E hr h => ?_)
  · obtain ⟨h, c, m, rfl, _⟩ := h
    rfl
  obtain ⟨h, c, many, rfl, m0, m1, ⟨cs, i, b, m, n, hh, hc, nch, i0, b0, z0⟩, q⟩ := h
  refine ⟨_, (Evl.pss_cut (ps_if (PW.pt (pw_and (pt_cmpR op_eq (pe_ix ix_list (pv 0) pe_int (fun _ _ => rfl)) pe_int (nomark _)) (pw_and1 (pt_cmpR op_lt (pe_ix ix_list (pv 0) pe_int (fun _ _ => rfl)) (pe_callB call_len_seq (by rfl) T.g_len PySem.boot_len (pa_cons (pe_ix ix_list (pv 0) pe_int (fun _ _ => rfl)) pa_nil)) (nomark _)))))
      (pss_cons (ps_set (i := 2) sc_l_draw.nd rfl (.inl rfl) (pe_ix ix_seq (pe_ix ix_list (pv 0) pe_int (fun _ _ => rfl)) (pe_ix ix_list (pv 0) pe_int (fun _ _ => rfl)) (fun _ _ => rfl)))
        (pss_cons (ps_asg (pe_op op_add (pe_ix ix_list (pv 0) pe_int (fun _ _ => rfl)) pe_int) (pg_sub (pv 0) pe_int set_list))
        (pss_cons (ps_asg (pe_op op_mod (pe_callTy call_int1 (by rfl) T.g_int (by decide +kernel) (pa_cons (pe_op op_add (pe_op op_add (pe_op op_mul (pe_ix ix_list (pv 0) pe_int (fun _ _ => rfl)) pe_int) (pv 2)) pe_int) pa_nil)) pe_int) (pg_sub (pv 0) pe_int set_list))
        (pss_one (ps_if (pt_cmpR op_ge (pv 2) (pe_op op_pow pe_int pe_int) (nomark _))
          (pss_one (ps_asg (pv 2) (pg_sub (pv 0) pe_int set_list)))
          pss_nil)))))
      pss_nil)
    (pss_cons (ps_if (pt_cmpR op_gt (pe_ix ix_list (pv 0) pe_int (fun _ _ => rfl)) pe_int (nomark _))
      (pss_cons (ps_set (i := 3) sc_l_draw.nd rfl (.inl rfl) (pe_op op_mod (pe_callTy call_int1 (by rfl) T.g_int (by decide +kernel) (pa_cons (pe_ix ix_list (pv 0) pe_int (fun _ _ => rfl)) pa_nil)) (pv 1)))
        (pss_cons (ps_asg (pe_op op_fdiv (pe_ix ix_list (pv 0) pe_int (fun _ _ => rfl)) (pv 1)) (pg_sub (pv 0) pe_int set_list))
        (pss_one (ps_ret (pv 3)))))
      pss_nil)
    (pss_cons (ps_asg (pe_op op_add (pe_ix ix_list (pv 0) pe_int (fun _ _ => rfl)) pe_int) (pg_sub (pv 0) pe_int set_list))
    (pss_cons (ps_set (i := 4) sc_l_draw.nd rfl (.inl rfl) (pe_op op_mod (pe_callTy call_int1 (by rfl) T.g_int (by decide +kernel) (pa_cons (pe_op op_mul (pe_callTy call_int1 (by rfl) T.g_int (by decide +kernel) (pa_cons (pe_op op_add (pe_ix ix_list (pv 0) pe_int (fun _ _ => rfl)) (pe_op op_mul pe_int (pe_ix ix_list (pv 0) pe_int (fun _ _ => rfl)))) pa_nil)) pe_int) pa_nil)) pe_int))
    (pss_cons (ps_set (i := 4) sc_l_draw.nd rfl (.inl rfl) (pe_op op_mod (pe_callTy call_int1 (by rfl) T.g_int (by decide +kernel) (pa_cons (pe_op op_mul (pv 4) (pe_op op_add (pe_op op_fdiv (pv 4) pe_int) pe_int)) pa_nil)) pe_int))
    (pss_cons (ps_set (i := 4) sc_l_draw.nd rfl (.inl rfl) (pe_op op_mod (pe_callTy call_int1 (by rfl) T.g_int (by decide +kernel) (pa_cons (pe_op op_mul (pv 4) (pe_op op_add (pe_op op_fdiv (pv 4) pe_int) pe_int)) pa_nil)) pe_int))
    (pss_one (ps_ret (pe_op op_mod (pe_callTy call_int1 (by rfl) T.g_int (by decide +kernel) (pa_cons (pe_op op_fdiv (pv 4) pe_int) pa_nil)) (pv 1)))))))))), ?_⟩
  refine ⟨fun σ' H' => ∃ y2, σ' = [some (.ref h), some (.int many), y2, none, none] ∧ Kp h H H' ∧ HandAt H' h c, ?_, ?_⟩
  · have a0 : HandAt H h c := .of hh hc nch i0 b0 z0
    refine ⟨_, rfl, h, _, 2, _, rfl, rfl, SqL.of hh, atI_nat (j := 2) rfl, rfl, _, rfl, ite2 (fun e => ?_) (fun e => ?_)⟩
    · refine ⟨_, rfl, h, _, 1, _, rfl, rfl, SqL.of hh, atI_nat (j := 1) rfl, _, rfl, h, _, 0, _, rfl, rfl, SqL.of hh, atI_nat (j := 0) rfl, c, _, rfl, .inl (SqL.of hc), i, _, rfl, rfl, _, rfl, ?_⟩
      refine ite2 (fun e2 => ?_) (fun e2 => ?_)
      · have lt : i < ((cs.length : Nat) : Int) := by
          have q1 := of_decide_eq_true e2
          rw [List.length_map] at q1
          exact q1
        obtain ⟨z, hz, hat⟩ := at_in i0 lt
        have zz := z0 z hz
        -- cell = ..
        refine ⟨_, rfl, h, _, 0, _, rfl, rfl, SqL.of hh, atI_nat (j := 0) rfl, _, rfl, h, _, 1, _, rfl, rfl, SqL.of hh, atI_nat (j := 1) rfl, .inl ⟨c, _, i, _, rfl, rfl, SqL.of hc, hat, ?_⟩⟩
        -- the next one's place
        refine ⟨_, rfl, h, _, 1, _, rfl, rfl, SqL.of hh, atI_nat (j := 1) rfl, i, 1, rfl, rfl, _, rfl, h, _, 1, 1, rfl, rfl, hh, rfl, ?_⟩
        -- the mix
        refine ⟨_, rfl, h, _, 3, _, rfl, rfl, SqL.of upd_same, atI_nat (j := 3) rfl, m, 69621, rfl, rfl, .inr ⟨by decide, by decide⟩, _, rfl, _, z, rfl, rfl, _, 17, rfl, rfl, .inl ⟨_, rfl, _, 2147483629, rfl, rfl, pos_of (by decide), ?_⟩⟩
        refine ⟨_, rfl, h, _, 3, 3, rfl, rfl, upd_same, rfl, ?_⟩
        -- a great cell
        refine ⟨_, rfl, 10, 18, rfl, rfl, ⟨by decide, by decide, by decide⟩, z, _, rfl, rfl, _, rfl, ite2 (fun e3 => ?_) (fun e3 => ?_)⟩
        · refine ⟨_, rfl, _, rfl, h, _, 2, 2, rfl, rfl, upd_same, rfl, ?_⟩
          refine ⟨_, rfl, (((Kp.refl h H).upd).upd).upd, .of upd_same ?_ nch ?_ zz z0⟩
          · rw [upd_ne nch, upd_ne nch, upd_ne nch]
            exact hc
          · omega
        · refine ⟨_, rfl, ((Kp.refl h H).upd).upd, .of upd_same ?_ nch ?_ b0 z0⟩
          · rw [upd_ne nch, upd_ne nch]
            exact hc
          · omega
      · exact ⟨_, rfl, Kp.refl h H, a0⟩
    · refine iteF ?_
      exact ⟨_, rfl, Kp.refl h H, a0⟩
  · intro σ' H1 ⟨y2, e, k1, a1⟩
    subst e
    clear hh hc nch i0 b0 z0
    obtain ⟨cs, i, b, m, n, hh, hc, nch, i0, b0, z0⟩ := a1
    refine ⟨_, rfl, h, _, 2, _, rfl, rfl, SqL.of hh, atI_nat (j := 2) rfl, b, 0, rfl, rfl, _, rfl, ite2 (fun e => ?_) (fun e => ?_)⟩
    · refine ⟨_, rfl, h, _, 2, _, rfl, rfl, SqL.of hh, atI_nat (j := 2) rfl, .inl ⟨b, rfl, _, rfl, b, many, rfl, rfl, m0, ?_⟩⟩
      refine ⟨_, rfl, h, _, 2, _, rfl, rfl, SqL.of hh, atI_nat (j := 2) rfl, _, rfl, b, many, rfl, rfl, ⟨m0, m1⟩, _, rfl, h, _, 2, 2, rfl, rfl, hh, rfl, ?_⟩
      refine ⟨_, rfl, q (b % many) _ (Int.emod_nonneg _ (by omega)) (Int.emod_lt_of_pos _ m0) k1.upd (.of upd_same ?_ nch i0 (Int.ediv_nonneg b0 (by omega)) z0)⟩
      rw [upd_ne nch]
      exact hc
    · refine ⟨_, rfl, h, _, 4, _, rfl, rfl, SqL.of hh, atI_nat (j := 4) rfl, n, 1, rfl, rfl, _, rfl, h, _, 4, 4, rfl, rfl, hh, rfl, ?_⟩
      have k2 := k1.upd (o := .lst [.ref c, .int i, .int b, .int m, .int (n + 1)])
      have a2 : HandAt (upd H1 h (.lst [.ref c, .int i, .int b, .int m, .int (n + 1)])) h c := .of upd_same (by rw [upd_ne nch]; exact hc) nch i0 b0 z0
      refine ⟨_, rfl, h, _, 3, _, rfl, rfl, SqL.of upd_same, atI_nat (j := 3) rfl, _, rfl, h, _, 4, _, rfl, rfl, SqL.of upd_same, atI_nat (j := 4) rfl, 7919, n + 1, rfl, rfl, .inl ⟨by decide, by decide⟩, m, _, rfl, rfl,
        .inl ⟨_, rfl, _, 48271, rfl, rfl, .inr ⟨by decide, by decide⟩, .inl ⟨_, rfl, _, 2147483647, rfl, rfl, pos_of (by decide), ?_⟩⟩⟩
      refine ⟨_, rfl, _, rfl, _, 1009, rfl, rfl, ⟨by decide, by decide⟩, _, 69621, rfl, rfl, _, _, rfl, rfl, .inl (m31 (by decide) (by decide)), .inl ⟨_, rfl, _, 2147483647, rfl, rfl, pos_of (by decide), ?_⟩⟩
      refine ⟨_, rfl, _, rfl, _, 2003, rfl, rfl, ⟨by decide, by decide⟩, _, 40692, rfl, rfl, _, _, rfl, rfl, .inl (m31 (by decide) (by decide)), .inl ⟨_, rfl, _, 2147483399, rfl, rfl, pos_of (by decide), ?_⟩⟩
      refine ⟨_, rfl, _, 16, rfl, rfl, ⟨by decide, by decide⟩, .inl ⟨_, rfl, _, rfl, _, many, rfl, rfl, m0, ?_⟩⟩
      exact q _ _ (Int.emod_nonneg _ (by omega)) (Int.emod_lt_of_pos _ m0) k2 a2
/-! ### the hand, one of some -/
def spSome (K : PySem.W.Frag) : Sp := fun vs H Q _ => ∃ (h c a : Addr) (xs : List V), vs = [.ref h, .ref a] ∧ (SqL K H a xs ∨ SqT K H a xs) ∧ a ≠ h ∧ 0 < xs.length ∧ xs.length < 1000000 ∧ HandAt H h c ∧
  ∀ v H', v ∈ xs → Kp h H H' → HandAt H' h c → Q v H'
theorem Kp.seqL {h : Addr} {H H' : Hp} {a : Addr} {xs : List V} (k : Kp h H H') (n : a ≠ h) (e : SqL K H a xs) : SqL K H' a xs := by
  rcases e with (e | ⟨o, e⟩) | e
  · exact .inl (.inl (k _ _ n e))
  · exact .inl (.inr ⟨o, k _ _ n e⟩)
  · exact .inr e
theorem Kp.seqT {h : Addr} {H H' : Hp} {a : Addr} {xs : List V} (k : Kp h H H') (n : a ≠ h) (e : SqT K H a xs) : SqT K H' a xs := by
  rcases e with (e | ⟨o, e⟩) | e
  · exact .inl (.inl (k _ _ n e))
  · exact .inl (.inr ⟨o, k _ _ n e⟩)
  · exact .inr e
theorem ok_l_some (T : Tx K mg) : FnOk P w K mg base CX0 2 T.f_l_some T.d_l_some ["hand", "things"] (spSome K) := by
  refine T.F_l_some.ok sc_l_some (fun vs H Q E h => ?_) (fun cdv A outer s H vs Q E hr h => ?_)
  · obtain ⟨h, c, a, xs, rfl, _⟩ := h
    rfl
  obtain ⟨h, c, a, xs, rfl, ha, nah, l0, l1, hd, q⟩ := h
  refine ⟨_, (pss_one (ps_ret (pe_ix ix_seq (pv 1) (pe_call (ok_l_draw T) (hr.mono (by decide)) (by rfl) T.m_l_draw T.F_l_draw.kp T.b_l_draw .nil pass0 (pa_cons (pv 0) (pa_cons (pe_callB call_len_seq (by rfl) T.g_len PySem.boot_len (pa_cons (pv 1) pa_nil)) pa_nil))) (fun _ _ => rfl)))), ?_⟩
  refine ⟨_, rfl, _, rfl, _, rfl, a, xs, rfl, ha, h, c, _, rfl, by omega, by omega, hd, fun d H' d0 d1 k hd' => ?_⟩
  obtain ⟨j, rfl⟩ := Int.eq_ofNat_of_zero_le d0
  have lj : j < xs.length := by omega
  rcases ha with ha | ha
  · exact .inl ⟨a, xs, _, _, rfl, rfl, k.seqL nah ha, atI_nat (List.getElem?_eq_getElem lj), q _ _ (List.getElem_mem lj) k hd'⟩
  · exact .inr (.inl ⟨a, xs, _, _, rfl, rfl, k.seqT nah ha, atI_nat (List.getElem?_eq_getElem lj), q _ _ (List.getElem_mem lj) k hd'⟩)
def ab (i : Int) : Int := if i < 0 then -i else i
def spHand (K : PySem.W.Frag) : Sp := fun vs H Q _ => ∃ (a : Addr) (ns : List Int), vs = [.ref a] ∧ SqL K H a (ns.map V.int) ∧ ns.length ≤ 63 ∧ ∀ h c H', H h = none → H c = none → Same H H' → HandAt H' h c → Q (.ref h) H'
theorem ok_l_hand (T : Tx K mg) : FnOk P w K mg base CX0 1 T.f_l_hand T.d_l_hand ["script"] (spHand K) := by
  refine T.F_l_hand.ok sc_l_hand (fun vs H Q E h => ?_) (fun cdv A outer s H vs Q E hr h => ?_)
  · obtain ⟨a, ns, rfl, _⟩ := h
    rfl
  obtain ⟨a, ns, rfl, ha, hl, q⟩ := h
  refine ⟨_, (pss_cons (ps_setLc (i := 1) (own := [("cell", 2)]) (g := (gName 2)) (tt := tYes) (te := (tCB _ (tCons (tCB _ (tCons (tVar 2) tNil)) tNil))) rfl sc_l_hand.nd rfl rfl (sw_true rfl rfl rfl (by decide +kernel)) (pi_list (pe_slice sl_list (pv 0) po_none (po_some pe_int))) (blkOk_by (own := [("cell", 2)]) (N := N_l_hand) (sc := defScope s_l_hand) (by decide +kernel)) (fun _ _ _ _ _ => (pg_name (i := 2) sc_l_hand.nd rfl (.inl rfl))) (fun _ _ _ _ _ => pts_nil) (fun _ _ _ _ _ => (pe_callB call_abs (by rfl) T.g_abs (by decide +kernel) (pa_cons (pe_callTy call_int1 (by rfl) T.g_int (by decide +kernel) (pa_cons (pv 2) pa_nil)) pa_nil))))
    (pss_one (ps_ret (pe_lst (pa_cons (pv 1) (pa_cons pe_int (pa_cons pe_int (pa_cons (pe_op op_add pe_int (pe_callB call_len_seq (by rfl) T.g_len PySem.boot_len (pa_cons (pv 1) pa_nil))) (pa_cons pe_int pa_nil))))))))), ?_⟩
  refine ⟨_, rfl, 63, rfl, a, _, rfl, ha, fun p np => ?_⟩
  have s1 : Same H (upd H p (.lst (cutV (ns.map V.int) none (some 63)))) := same_new np _
  have hp : (upd H p (.lst (cutV (ns.map V.int) none (some 63)))) p = some (.lst (ns.map V.int)) := by
    rw [upd_same, cut_hi _ _ (by decide), List.take_of_length_le (by rw [List.length_map]; exact hl)]
  refine ⟨p, rfl, ⟨_, SqL.of hp⟩, fun D nD => lc_list (xs := ns.map V.int) (fun i H' => Same H H' ∧ H' p = some (.lst (ns.map V.int)) ∧ H' D = some (.lst (((ns.take i).map ab).map V.int))) ?_ (fun i H' _ ⟨_, hp', _⟩ => SqL.of hp') ?_ ?_⟩
  · exact ⟨s1.trans (same_new nD _), same_new nD _ _ _ hp, upd_same⟩
  · intro i y H' hi ⟨sm, hp', hD⟩
    have li : i < ns.length := by
      have q1 := (List.getElem?_eq_some_iff.mp hi).1
      rw [List.length_map] at q1
      exact q1
    have ey : y = .int ns[i] := by
      rw [List.getElem?_map, List.getElem?_eq_getElem li] at hi
      exact (Option.some.inj hi).symm
    subst ey
    refine ⟨rfl, ?_⟩
    refine ⟨_, rfl, .inl ⟨_, rfl, _, rfl, _, hD, small1000 ?_, fun b o hb => ?_, ?_, ?_⟩⟩
    · rw [List.length_map, List.length_map, List.length_take]
      omega
    · rw [upd_ne (ne_of_none hb (s1.free nD))]
      exact sm _ _ hb
    · rw [upd_ne (ne_of_none hp nD)]
      exact hp'
    · rw [upd_same, List.take_add_one, List.getElem?_eq_getElem li, List.map_append, List.map_append]
      rfl
  · intro H' ⟨sm, hp', hD⟩
    rw [List.length_map, List.take_of_length_le (Nat.le_refl _)] at hD
    have nDn : H D = none := s1.free nD
    refine ⟨_, rfl, _, rfl, D, _, rfl, .inl (SqL.of hD), 29, _, rfl, rfl, (by show 5 ≤ sizeLine; decide), fun h nh => ?_⟩
    have nDh : D ≠ h := ne_of_none hD nh
    refine q h D _ (sm.free nh) nDn (sm.trans (same_new nh _)) (.of (c := D) (cs := ns.map ab) upd_same (by rw [upd_ne nDh]; exact hD) nDh (by decide) (by decide) fun z hz => ?_)
    obtain ⟨y, _, ez⟩ := List.mem_map.mp hz
    rw [← ez]
    unfold ab
    split <;> omega
end
end K42
set_option Elab.async false
set_option linter.all false
set_option maxRecDepth 100000
set_option maxHeartbeats 4000000
/-! The mathematics of signings. -/
namespace K42
open PySem L2 Rl
def ar (p : Int × Int) (b : Bool) : Int × Int := if b = true then p else (p.2, p.1)
def ars (ps : List (Int × Int)) (s : List Bool) : List (Int × Int) := List.zipWith ar ps s
def inT (k : Int) (p : Int × Int) : Bool := decide (k ∈ [p.1, p.2])
def trn (ps : List (Int × Int)) (s : List Bool) (k : Int) : List Bool := List.zipWith (fun p b => b != inT k p) ps s
def tos (ps : List (Int × Int)) (s : List Bool) : List Int := (ars ps s).map fun q => q.2
def srcL (n : Int) (ps : List (Int × Int)) (s : List Bool) : List Int := (rn n).filter fun k => !decide (k ∈ tos ps s)
def okS (n : Int) (p : Int × Int) : Prop := 0 ≤ p.1 ∧ p.1 < p.2 ∧ p.2 < n
def Ranked (ps : List (Int × Int)) (s : List Bool) (r : Int → Int) : Prop := ∀ q ∈ ars ps s, r q.1 < r q.2
def Acy (ps : List (Int × Int)) (s : List Bool) : Prop := ∃ (r : Int → Int) (B : Int), (∀ x, r x < B) ∧ Ranked ps s r
def Src (ps : List (Int × Int)) (s : List Bool) (k : Int) : Prop := ∀ q ∈ ars ps s, q.2 ≠ k
theorem inT_iff {k : Int} {p : Int × Int} : inT k p = true ↔ k = p.1 ∨ k = p.2 := by
  unfold inT
  rw [decide_eq_true_eq]
  simp
theorem okS.ok {n : Int} {p : Int × Int} (h : okS n p) : okP n p := ⟨h.1, Int.le_of_lt h.2.1, h.2.2⟩
theorem ars_len {ps : List (Int × Int)} {s : List Bool} (h : s.length = ps.length) : (ars ps s).length = ps.length := by
  unfold ars
  rw [List.length_zipWith, h, Nat.min_self]
theorem trn_len {ps : List (Int × Int)} {s : List Bool} {k : Int} (h : s.length = ps.length) : (trn ps s k).length = ps.length := by
  unfold trn
  rw [List.length_zipWith, h, Nat.min_self]
theorem ars_get {ps : List (Int × Int)} {s : List Bool} {i : Nat} {p : Int × Int} {b : Bool} (hp : ps[i]? = some p) (hb : s[i]? = some b) : (ars ps s)[i]? = some (ar p b) := by
  unfold ars
  rw [List.getElem?_zipWith, hp, hb]
theorem trn_get {ps : List (Int × Int)} {s : List Bool} {k : Int} {i : Nat} {p : Int × Int} {b : Bool} (hp : ps[i]? = some p) (hb : s[i]? = some b) : (trn ps s k)[i]? = some (b != inT k p) := by
  unfold trn
  rw [List.getElem?_zipWith, hp, hb]
theorem ars_mem {ps : List (Int × Int)} {s : List Bool} {q : Int × Int} (h : q ∈ ars ps s) : ∃ (i : Nat) (p : Int × Int) (b : Bool), ps[i]? = some p ∧ s[i]? = some b ∧ q = ar p b := by
  obtain ⟨i, hi⟩ := List.mem_iff_getElem?.mp h
  unfold ars at hi
  rw [List.getElem?_zipWith] at hi
  cases hp : ps[i]? with
  | none => rw [hp] at hi; cases hi
  | some p =>
    cases hb : s[i]? with
    | none => rw [hp, hb] at hi; cases hi
    | some b =>
      rw [hp, hb] at hi
      exact ⟨i, p, b, hp, hb, (Option.some.inj hi).symm⟩
theorem ars_in {ps : List (Int × Int)} {s : List Bool} {i : Nat} {p : Int × Int} {b : Bool} (hp : ps[i]? = some p) (hb : s[i]? = some b) : ar p b ∈ ars ps s := List.mem_of_getElem? (ars_get hp hb)
theorem trn_mem {ps : List (Int × Int)} {s : List Bool} {k : Int} {q : Int × Int} (h : q ∈ ars ps (trn ps s k)) : ∃ (i : Nat) (p : Int × Int) (b : Bool), ps[i]? = some p ∧ s[i]? = some b ∧ q = ar p (b != inT k p) := by
  obtain ⟨i, p, c, hp, hc, e⟩ := ars_mem h
  unfold trn at hc
  rw [List.getElem?_zipWith, hp] at hc
  cases hb : s[i]? with
  | none => rw [hb] at hc; cases hc
  | some b =>
    rw [hb] at hc
    exact ⟨i, p, b, hp, hb, by rw [e, ← Option.some.inj hc]⟩
theorem ar_swap {p : Int × Int} {b : Bool} : ar p (!b) = ((ar p b).2, (ar p b).1) := by
  cases b <;> rfl
theorem ar_in {p : Int × Int} {b : Bool} {k : Int} (h : inT k p = true) : (ar p b).1 = k ∨ (ar p b).2 = k := by
  rcases inT_iff.mp h with e | e
  · cases b
    · exact .inr e.symm
    · exact .inl e.symm
  · cases b
    · exact .inl e.symm
    · exact .inr e.symm
theorem ar_out {p : Int × Int} {b : Bool} {k : Int} (h : inT k p = false) : (ar p b).1 ≠ k ∧ (ar p b).2 ≠ k := by
  have g : ¬ (k = p.1 ∨ k = p.2) := fun z => by
    rw [inT_iff.mpr z] at h
    cases h
  cases b
  · exact ⟨fun e => g (.inr e.symm), fun e => g (.inl e.symm)⟩
  · exact ⟨fun e => g (.inl e.symm), fun e => g (.inr e.symm)⟩
theorem ar_rng {n : Int} {p : Int × Int} {b : Bool} (h : okS n p) : (0 ≤ (ar p b).1 ∧ (ar p b).1 < n) ∧ 0 ≤ (ar p b).2 ∧ (ar p b).2 < n := by
  obtain ⟨h0, h1, h2⟩ := h
  cases b
  · show (0 ≤ p.2 ∧ p.2 < n) ∧ 0 ≤ p.1 ∧ p.1 < n
    omega
  · show (0 ≤ p.1 ∧ p.1 < n) ∧ 0 ≤ p.2 ∧ p.2 < n
    omega
theorem src_iff {ps : List (Int × Int)} {s : List Bool} {k : Int} : Src ps s k ↔ k ∉ tos ps s := by
  unfold Src tos
  rw [List.mem_map]
  exact ⟨fun h ⟨q, hq, e⟩ => h q hq e, fun h q hq e => h ⟨q, hq, e⟩⟩
theorem srcL_mem {n : Int} {ps : List (Int × Int)} {s : List Bool} {k : Int} : k ∈ srcL n ps s ↔ (0 ≤ k ∧ k < n) ∧ Src ps s k := by
  unfold srcL
  rw [List.mem_filter, mem_rn, src_iff]
  simp
/-- a source turned: the rank of its place is the greatest then -/
def up (r : Int → Int) (B k : Int) : Int → Int := fun x => if x = k then B else r x
theorem up_lt {r : Int → Int} {B k : Int} (h : ∀ x, r x < B) : ∀ x, up r B k x < B + 1 := fun x => by
  unfold up
  have := h x
  split <;> omega
theorem ranked_trn {ps : List (Int × Int)} {s : List Bool} {r : Int → Int} {B k : Int} (hB : ∀ x, r x < B) (hr : Ranked ps s r) (hs : Src ps s k) : Ranked ps (trn ps s k) (up r B k) := fun q hq => by
  obtain ⟨i, p, b, hp, hb, e⟩ := trn_mem hq
  have old := hr _ (ars_in hp hb)
  have no := hs _ (ars_in hp hb)
  cases c : inT k p with
  | true =>
    rw [c] at e
    have e2 : q = ((ar p b).2, (ar p b).1) := by
      rw [e, ← ar_swap]
      cases b <;> rfl
    rcases ar_in (b := b) c with g | g
    · subst e2
      unfold up
      show (if (ar p b).2 = k then B else r (ar p b).2) < (if (ar p b).1 = k then B else r (ar p b).1)
      rw [if_neg no, if_pos g]
      exact hB _
    · exact absurd g no
  | false =>
    rw [c] at e
    have e2 : q = ar p b := by
      rw [e]
      cases b <;> rfl
    subst e2
    obtain ⟨g1, g2⟩ := ar_out (b := b) c
    unfold up
    rw [if_neg g1, if_neg g2]
    exact old
theorem acy_trn {ps : List (Int × Int)} {s : List Bool} {k : Int} (h : Acy ps s) (hs : Src ps s k) : Acy ps (trn ps s k) := by
  obtain ⟨r, B, hB, hr⟩ := h
  exact ⟨up r B k, B + 1, up_lt hB, ranked_trn hB hr hs⟩
theorem min_ex (r : Int → Int) : ∀ {L : List Int}, L ≠ [] → ∃ k ∈ L, ∀ x ∈ L, r k ≤ r x
  | [], h => absurd rfl h
  | [a], _ => ⟨a, List.mem_singleton.mpr rfl, fun x hx => by rw [List.mem_singleton.mp hx]; exact Int.le_refl _⟩
  | a :: c :: t, _ => by
    obtain ⟨k, hk, hm⟩ := min_ex r (L := c :: t) (List.cons_ne_nil _ _)
    by_cases g : r a ≤ r k
    · refine ⟨a, List.mem_cons_self, fun x hx => ?_⟩
      rcases List.mem_cons.mp hx with e | e
      · rw [e]
        exact Int.le_refl _
      · exact Int.le_trans g (hm x e)
    · refine ⟨k, List.mem_cons_of_mem _ hk, fun x hx => ?_⟩
      rcases List.mem_cons.mp hx with e | e
      · rw [e]
        omega
      · exact hm x e
/-- the least of those that rank below all others is a source -/
theorem src_least {n : Int} {ps : List (Int × Int)} {s : List Bool} {r : Int → Int} {L : List Int} (hp : ∀ p ∈ ps, okS n p) (hr : Ranked ps s r) (hL : L ≠ []) (hlow : ∀ x ∈ L, ∀ y, 0 ≤ y → y < n → y ∉ L → r x < r y) : ∃ k ∈ L, Src ps s k := by
  obtain ⟨k, hk, hm⟩ := min_ex r hL
  refine ⟨k, hk, fun q hq e => ?_⟩
  obtain ⟨i, p, b, hp', hb, eq⟩ := ars_mem hq
  have old := hr q hq
  have rg := ar_rng (b := b) (hp p (List.mem_of_getElem? hp'))
  rw [← eq] at rg
  rw [e] at old
  by_cases c : q.1 ∈ L
  · have := hm _ c
    omega
  · have := hlow k hk q.1 rg.1.1 rg.1.2 c
    omega
theorem src_ex {n : Int} {ps : List (Int × Int)} {s : List Bool} (n1 : 1 ≤ n) (hp : ∀ p ∈ ps, okS n p) (h : Acy ps s) : srcL n ps s ≠ [] := by
  obtain ⟨r, B, hB, hr⟩ := h
  have ne : rn n ≠ [] := fun e => by
    have := rn_len n
    rw [e] at this
    have : (0 : Nat) = n.toNat := this
    omega
  obtain ⟨k, hk, hs⟩ := src_least hp hr ne fun x _ y y0 y1 c => absurd (mem_rn.mpr ⟨y0, y1⟩) c
  intro e
  have : k ∈ srcL n ps s := srcL_mem.mpr ⟨mem_rn.mp hk, hs⟩
  rw [e] at this
  cases this
/-! ### places struck -/
def kp (G : List (Int × Int)) (L : List Int) : List Int := L.filter fun k => G.any fun q => decide (q.1 ∈ L) && decide (q.2 = k)
theorem kp_le (G : List (Int × Int)) (L : List Int) : (kp G L).length ≤ L.length := List.length_filter_le ..
theorem kp_lt {ps : List (Int × Int)} {s : List Bool} {L : List Int} (h : Acy ps s) (hL : L ≠ []) : (kp (ars ps s) L).length < L.length := by
  obtain ⟨r, B, hB, hr⟩ := h
  obtain ⟨k, hk, hm⟩ := min_ex r hL
  refine List.length_filter_lt_length_iff_exists.mpr ⟨k, hk, fun z => ?_⟩
  obtain ⟨q, hq, e⟩ := List.any_eq_true.mp z
  obtain ⟨e1, e2⟩ := Bool.and_eq_true_iff.mp e
  have e1 := of_decide_eq_true e1
  have e2 := of_decide_eq_true e2
  have a := hm _ e1
  have b := hr q hq
  rw [e2] at b
  omega
theorem kp_nil (G : List (Int × Int)) : kp G [] = [] := rfl
/-! ### turned and not a source -/
theorem trn_src {n : Int} {ps : List (Int × Int)} {s : List Bool} {k : Int} (hl : s.length = ps.length) (hp : ∀ p ∈ ps, okS n p) (hs : Src ps s k) : Src ps (trn ps s k) k ↔ ∀ p ∈ ps, inT k p = false := by
  constructor
  · intro h p hp'
    obtain ⟨i, hi, e⟩ := List.mem_iff_getElem.mp hp'
    have g1 : ps[i]? = some p := by rw [List.getElem?_eq_getElem hi, e]
    have li : i < s.length := by omega
    have g2 : s[i]? = some s[i] := List.getElem?_eq_getElem li
    cases c : inT k p with
    | false => rfl
    | true =>
      have a := h _ (ars_in g1 (trn_get (k := k) g1 g2))
      have b := hs _ (ars_in g1 g2)
      rw [c] at a
      have e2 : ar p (s[i] != true) = ((ar p s[i]).2, (ar p s[i]).1) := by
        rw [← ar_swap]
        cases s[i] <;> rfl
      rw [e2] at a
      rcases ar_in (b := s[i]) c with g | g
      · exact absurd g a
      · exact absurd g b
  · intro h q hq e
    obtain ⟨i, p, b, hp', hb, eq⟩ := trn_mem hq
    have c := h p (List.mem_of_getElem? hp')
    have g := ar_out (b := b != inT k p) c
    rw [← eq] at g
    exact g.2 e
/-! ### each place turned once -/
def sg (ps : List (Int × Int)) (s : List Bool) (L : List Int) : List Bool := List.zipWith (fun p b => ((b != !decide (p.1 ∈ L)) != !decide (p.2 ∈ L))) ps s
theorem sg_len {ps : List (Int × Int)} {s : List Bool} {L : List Int} (h : s.length = ps.length) : (sg ps s L).length = ps.length := by
  unfold sg
  rw [List.length_zipWith, h, Nat.min_self]
theorem sg_full : ∀ {ps : List (Int × Int)} {s : List Bool} {L : List Int}, s.length = ps.length → (∀ p ∈ ps, p.1 ∈ L ∧ p.2 ∈ L) → sg ps s L = s
  | [], [], _, _, _ => rfl
  | [], _ :: _, _, h, _ => by cases h
  | _ :: _, [], _, h, _ => by cases h
  | p :: ps, b :: s, L, h, hp => by
    have ih := sg_full (ps := ps) (s := s) (L := L) (Nat.succ.inj h) fun q hq => hp q (List.mem_cons_of_mem _ hq)
    obtain ⟨h1, h2⟩ := hp p List.mem_cons_self
    unfold sg at ih ⊢
    rw [List.zipWith_cons_cons, ih, decide_eq_true h1, decide_eq_true h2]
    cases b <;> rfl
theorem sg_nil : ∀ {ps : List (Int × Int)} {s : List Bool}, s.length = ps.length → sg ps s [] = s
  | [], [], _ => rfl
  | [], _ :: _, h => by cases h
  | _ :: _, [], h => by cases h
  | p :: ps, b :: s, h => by
    have ih := sg_nil (ps := ps) (s := s) (Nat.succ.inj h)
    unfold sg at ih ⊢
    rw [List.zipWith_cons_cons, ih, decide_eq_false (List.not_mem_nil (a := p.1)), decide_eq_false (List.not_mem_nil (a := p.2))]
    cases b <;> rfl
theorem sg_one {k a c : Int} {L L' : List Int} (hk : k ∈ L) (hm : ∀ x, x ∈ L' ↔ x ∈ L ∧ x ≠ k) (hac : a < c) (b : Bool) :
    (((b != !decide (a ∈ L)) != !decide (c ∈ L)) != inT k (a, c)) = ((b != !decide (a ∈ L')) != !decide (c ∈ L')) := by
  have e1 : decide (a ∈ L') = (decide (a ∈ L) && !decide (a = k)) := by
    rw [Bool.eq_iff_iff, decide_eq_true_eq, hm a]
    simp
  have e2 : decide (c ∈ L') = (decide (c ∈ L) && !decide (c = k)) := by
    rw [Bool.eq_iff_iff, decide_eq_true_eq, hm c]
    simp
  have e3 : inT k (a, c) = (decide (a = k) || decide (c = k)) := by
    rw [Bool.eq_iff_iff, inT_iff, Bool.or_eq_true, decide_eq_true_eq, decide_eq_true_eq]
    exact ⟨fun h => h.imp Eq.symm Eq.symm, fun h => h.imp Eq.symm Eq.symm⟩
  rw [e1, e2, e3]
  by_cases h1 : a = k
  · have h2 : ¬ c = k := by omega
    have h3 : a ∈ L := by rw [h1]; exact hk
    rw [decide_eq_true h1, decide_eq_false h2, decide_eq_true h3]
    cases b <;> cases decide (c ∈ L) <;> rfl
  · by_cases h2 : c = k
    · have h3 : c ∈ L := by rw [h2]; exact hk
      rw [decide_eq_false h1, decide_eq_true h2, decide_eq_true h3]
      cases b <;> cases decide (a ∈ L) <;> rfl
    · rw [decide_eq_false h1, decide_eq_false h2]
      cases b <;> cases decide (a ∈ L) <;> cases decide (c ∈ L) <;> rfl
theorem sg_trn {n : Int} {k : Int} {L L' : List Int} (hk : k ∈ L) (hm : ∀ x, x ∈ L' ↔ x ∈ L ∧ x ≠ k) : ∀ {ps : List (Int × Int)} {s : List Bool}, s.length = ps.length → (∀ p ∈ ps, okS n p) → trn ps (sg ps s L) k = sg ps s L'
  | [], [], _, _ => rfl
  | [], _ :: _, h, _ => by cases h
  | _ :: _, [], h, _ => by cases h
  | p :: ps, b :: s, h, hp => by
    have ih := sg_trn (ps := ps) (s := s) hk hm (Nat.succ.inj h) fun q hq => hp q (List.mem_cons_of_mem _ hq)
    have op := hp p List.mem_cons_self
    unfold sg trn at ih ⊢
    rw [List.zipWith_cons_cons, List.zipWith_cons_cons, List.zipWith_cons_cons, ih]
    congr 1
    exact sg_one hk hm op.2.1 b
def Runs (n : Int) (ps : List (Int × Int)) : List Bool → List Int → List Bool → Prop
  | s, [], t => s = t
  | s, k :: r, t => Acy ps s ∧ (0 ≤ k ∧ k < n) ∧ Src ps s k ∧ Runs n ps (trn ps s k) r t
theorem Runs.snoc {n : Int} {ps : List (Int × Int)} {k : Int} {t : List Bool} : ∀ {r : List Int} {s : List Bool}, Runs n ps s r t → Acy ps t → (0 ≤ k ∧ k < n) → Src ps t k → Runs n ps s (r ++ [k]) (trn ps t k)
  | [], s, h, h1, h2, h3 => by
    have e : s = t := h
    subst e
    exact ⟨h1, h2, h3, rfl⟩
  | _ :: r, s, ⟨a, b, c, d⟩, h1, h2, h3 => ⟨a, b, c, Runs.snoc (r := r) d h1 h2 h3⟩
theorem acy_order {ps : List (Int × Int)} {os : List Int} (h : ∀ p ∈ ps, p.1 ∈ os ∧ p.2 ∈ os ∧ p.1 ≠ p.2) : Acy ps (ps.map fun p => decide (os.idxOf p.1 < os.idxOf p.2)) := by
  refine ⟨fun x => (os.idxOf x : Int), (os.length : Int) + 1, fun x => ?_, fun q hq => ?_⟩
  · have := List.idxOf_le_length (a := x) (l := os)
    show (os.idxOf x : Int) < (os.length : Int) + 1
    omega
  · obtain ⟨i, p, b, hp, hb, e⟩ := ars_mem hq
    rw [List.getElem?_map, hp] at hb
    have eb : decide (os.idxOf p.1 < os.idxOf p.2) = b := Option.some.inj hb
    obtain ⟨m1, m2, ne⟩ := h p (List.mem_of_getElem? hp)
    subst e
    by_cases c : os.idxOf p.1 < os.idxOf p.2
    · rw [decide_eq_true c] at eb
      subst eb
      show (os.idxOf p.1 : Int) < (os.idxOf p.2 : Int)
      omega
    · rw [decide_eq_false c] at eb
      subst eb
      show (os.idxOf p.2 : Int) < (os.idxOf p.1 : Int)
      have : os.idxOf p.1 ≠ os.idxOf p.2 := fun e => ne (by
        have l1 := List.idxOf_lt_length_iff.mpr m1
        have l2 := List.idxOf_lt_length_iff.mpr m2
        rw [← List.getElem_idxOf l1, ← List.getElem_idxOf l2]
        simp only [e])
      omega
/-! ### data of flags -/
def bV (s : List Bool) : List V := s.map V.bl
theorem bV_len (s : List Bool) : (bV s).length = s.length := List.length_map _
theorem bV_get {s : List Bool} {i : Nat} {v : V} (h : (bV s)[i]? = some v) : ∃ b, s[i]? = some b ∧ v = .bl b := by
  unfold bV at h
  rw [List.getElem?_map] at h
  cases e : s[i]? with
  | none => rw [e] at h; cases h
  | some b =>
    rw [e] at h
    exact ⟨b, rfl, (Option.some.inj h).symm⟩
theorem can_bools : ∀ s : List Bool, PyData.canLayAll0 (s.map PyData.bool) = true
  | [] => by simp [PyData.canLayAll0]
  | b :: r => by
    have ih := can_bools r
    rw [List.map_cons]
    simp only [PyData.canLayAll0, PyData.canLay0, Bool.true_and]
    exact ih
theorem dep_bools : ∀ s : List Bool, PyData.depthAll (s.map PyData.bool) = 0
  | [] => by simp [PyData.depthAll]
  | b :: r => by
    have ih := dep_bools r
    rw [List.map_cons]
    simp only [PyData.depthAll, PyData.depth]
    rw [ih]
    rfl
theorem shp_bools (s : List Bool) : SeqAt.shaped (.tuple (s.map PyData.bool)) = true := shp_of
  (by simp only [PyData.canLay0]; exact can_bools s) (by simp only [PyData.depth]; rw [dep_bools]; decide)
theorem dpa_bools {K : PySem.W.Frag} {H : Hp} : ∀ s : List Bool, DpAll K H (bV s) (s.map PyData.bool)
  | [] => .nil
  | b :: r => .cons (.bl b) (dpa_bools r)
theorem dp_bools {K : PySem.W.Frag} {H : Hp} {a : Addr} {s : List Bool} (h : H a = some (.tup (bV s))) : Dp K H (.ref a) (.tuple (s.map PyData.bool)) := .tup (SqT.of h) (dpa_bools s)
theorem eqv_lists {a b : List Int} (h : a.length ≠ b.length) : PyData.eqv (.list (dI a)) (.list (dI b)) = false := by
  have go : ∀ a b : List Int, a.length ≠ b.length → PyData.eqvAll (dI a) (dI b) = false := by
    intro a
    induction a with
    | nil =>
      intro b h
      cases b with
      | nil => exact absurd rfl h
      | cons y r => unfold dI; rw [List.map_nil, List.map_cons]; simp only [PyData.eqvAll]
    | cons x r ih =>
      intro b h
      cases b with
      | nil => unfold dI; rw [List.map_nil, List.map_cons]; simp only [PyData.eqvAll]
      | cons y t =>
        have := ih t fun e => h (by rw [List.length_cons, List.length_cons, e])
        unfold dI at this ⊢
        rw [List.map_cons, List.map_cons]
        simp only [PyData.eqvAll]
        rw [this, Bool.and_false]
  simp only [PyData.eqv]
  exact go a b h
theorem bne_bl (a b : Bool) : (!decide (V.bl a = V.bl b)) = (a != b) := by
  cases a <;> cases b <;> rfl
theorem in_ints {k : Int} {gs : List Int} : inV (.int k) (gs.map V.int) = decide (k ∈ gs) := by
  unfold inV
  rw [List.any_map]
  by_cases h : k ∈ gs
  · rw [decide_eq_true h]
    exact List.any_eq_true.mpr ⟨k, h, beq_self_eq_true k⟩
  · rw [decide_eq_false h]
    refine List.any_eq_false.mpr fun z hz e => h ?_
    have e' : z = k := eq_of_beq e
    exact e' ▸ hz
theorem flat_is : ∀ gs : List Int, (gs.map V.int).all flatV = true
  | [] => rfl
  | _ :: r => by
    rw [List.map_cons, List.all_cons, flat_is r]
    rfl
end K42
set_option Elab.async false
set_option linter.all false
set_option maxRecDepth 100000
set_option maxHeartbeats 4000000
/-! Signings, as the program reads them. -/
namespace K42
open PySem L2 Rl
/-- a comprehension over zip of two tuples of one length -/
theorem lc_zipT {K : PySem.W.Frag} {a b : Addr} {xs ys : List V} {g : TG} {tt : TT} {te : TE} {vs : List Nat} {σ : L2.St} {H1 : Hp} {D : Addr} {Qd : Hp → Prop} (hlen : xs.length = ys.length) (Pv : Nat → Hp → Prop) (h0 : Pv 0 (L2.upd H1 D (.lst [])))
    (hl : ∀ i H, Pv i H → SqT K H a xs ∧ SqT K H b ys)
    (hs : ∀ (i : Nat) (x y : V) (T : Addr) (H : Hp), xs[i]? = some x → ys[i]? = some y → Pv i H → H T = none → g (.ref T) (wipe σ vs) (L2.upd H T (.tup [x, y])) fun σ2 H2 => wipe σ2 vs = wipe σ vs ∧ tt σ2 H2 fun b H3 =>
      if b = true then te σ2 H3 fun y H4 => ∃ acc, H4 D = some (.lst acc) ∧ acc.length < sizeLine ∧ Pv (i + 1) (L2.upd H4 D (.lst (acc ++ [y]))) else Pv (i + 1) H3) (hd : ∀ H, Pv xs.length H → Qd H) :
    ∃ W : Nat → Nat → Hp → Prop, (∃ m, W 0 m (L2.upd H1 D (.lst []))) ∧ ∀ i m H, W i m H →
      ((RZ.ItzT K a b).stop i H ∧ Qd H) ∨ ((RZ.ItzT K a b).go i H ∧ ∃ Nx : Hp → Prop, (∀ H', Nx H' → ∃ m', m' < m ∧ W (i + 1) m' H') ∧ ∀ x H', (RZ.ItzT K a b).yld i H x H' → g x (wipe σ vs) H' fun σ2 H2 => wipe σ2 vs = wipe σ vs ∧ tt σ2 H2 fun b H3 =>
        if b = true then te σ2 H3 fun y H4 => ∃ acc, H4 D = some (.lst acc) ∧ acc.length < sizeLine ∧ Nx (L2.upd H4 D (.lst (acc ++ [y]))) else Nx H3) := by
  refine ⟨fun i m H => m = xs.length - i ∧ i ≤ xs.length ∧ Pv i H, ⟨xs.length, rfl, Nat.zero_le _, h0⟩, ?_⟩
  rintro i m H ⟨rfl, hi, p⟩
  obtain ⟨qx, qy⟩ := hl i H p
  by_cases hlt : i < xs.length
  · have hlt2 : i < ys.length := by omega
    refine .inr ⟨⟨xs, ys, _, _, qx, qy, List.getElem?_eq_getElem hlt, List.getElem?_eq_getElem hlt2⟩, Pv (i + 1), fun H' p' => ⟨xs.length - (i + 1), by omega, rfl, hlt, p'⟩, fun v H' y => ?_⟩
    obtain ⟨T, x', y', rfl, hT, rfl, f1, f2⟩ := y
    exact hs i x' y' T H (f1 xs qx) (f2 ys qy) p hT
  · have e : i = xs.length := by omega
    subst e
    exact .inl ⟨⟨xs, ys, qx, qy, .inl (Nat.le_refl _)⟩, hd H p⟩
def SgAt (H : Hp) (a : Addr) (s : List Bool) : Prop := H a = some (.tup (bV s))
theorem SgAt.same {H H' : Hp} {a : Addr} {s : List Bool} (e : Same H H') (h : SgAt H a s) : SgAt H' a s := e _ _ h
theorem PrsAt.snoc {H : Hp} {vs : List V} {ps : List (Int × Int)} {S : Addr} {p : Int × Int} (h : PrsAt H vs ps) (hS : H S = some (.tup [.int p.1, .int p.2])) : PrsAt H (vs ++ [.ref S]) (ps ++ [p]) := h.app (.cons ⟨S, rfl, hS⟩ .nil)
theorem take_snoc {α : Type} {l : List α} {i : Nat} {x : α} (h : l[i]? = some x) : l.take (i + 1) = l.take i ++ [x] := by
  rw [List.take_add_one, h]
  rfl
theorem mint {l : List Int} {i : Nat} {y : V} (h : (l.map V.int)[i]? = some y) : ∃ k, l[i]? = some k ∧ y = .int k := by
  rw [List.getElem?_map] at h
  cases e : l[i]? with
  | none => rw [e] at h; cases h
  | some k =>
    rw [e] at h
    exact ⟨k, rfl, (Option.some.inj h).symm⟩
/-- what a web and a signing of it are -/
structure Sgn (C : Addr) (H : Hp) (x a : Addr) (n : Int) (ps : List (Int × Int)) (s : List Bool) : Prop where
  w : WebAt C H x n ps
  g : SgAt H a s
  l : s.length = ps.length
  l16 : ps.length ≤ 16
  n0 : 1 ≤ n
  n1 : n ≤ 10
  ok : ∀ p ∈ ps, okS n p
theorem Sgn.same {C : Addr} {H H' : Hp} {x a : Addr} {n : Int} {ps : List (Int × Int)} {s : List Bool} (e : Same H H') (h : Sgn C H x a n ps s) : Sgn C H' x a n ps s :=
  ⟨h.w.same e, h.g.same e, h.l, h.l16, h.n0, h.n1, h.ok⟩
def spSgn (C : Addr) : Sp := fun vs H Q _ => ∃ (x a : Addr) (n : Int) (ps : List (Int × Int)) (s : List Bool), vs = [.ref x, .ref a] ∧ Sgn C H x a n ps s ∧ ∀ H', Same H H' → Q (.bl true) H'
def spFlg : Sp := fun vs H Q _ => ∃ (a : Addr) (s : List Bool), vs = [.ref a] ∧ H a = some (.tup (bV s)) ∧ s.length ≤ 16 ∧ ∀ H', Same H H' → Q (.bl true) H'
def spGo (C : Addr) : Sp := fun vs H Q _ => ∃ (x a : Addr) (n : Int) (ps : List (Int × Int)) (s : List Bool), vs = [.ref x, .ref a] ∧ Sgn C H x a n ps s ∧
  ∀ L us H', H L = none → Same H H' → H' L = some (.lst us) → PrsAt H' us (ars ps s) → Q (.ref L) H'
def spNever : Sp := fun vs H Q _ => ∃ (G : Addr) (us : List V) (n : Int) (ps : List (Int × Int)) (s : List Bool), vs = [.int n, .ref G] ∧ H G = some (.lst us) ∧ PrsAt H us (ars ps s) ∧ Acy ps s ∧ 0 ≤ n ∧ n ≤ 10 ∧ us.length ≤ 16 ∧
  ∀ L H', Same H H' → H' L = some (.lst []) → Q (.ref L) H'
def spRound (C : Addr) : Sp := fun vs H Q _ => ∃ (x a : Addr) (n : Int) (ps : List (Int × Int)) (s : List Bool), vs = [.ref x, .ref a] ∧ Sgn C H x a n ps s ∧ Acy ps s ∧ ∀ H', Same H H' → Q .non H'
def spRising (C : Addr) : Sp := fun vs H Q _ => ∃ (x a : Addr) (n : Int) (ps : List (Int × Int)) (s : List Bool), vs = [.ref x, .ref a] ∧ Sgn C H x a n ps s ∧ Acy ps s ∧ ∀ H', Same H H' → Q (.bl true) H'
def spSources (C : Addr) : Sp := fun vs H Q _ => ∃ (x a : Addr) (n : Int) (ps : List (Int × Int)) (s : List Bool), vs = [.ref x, .ref a] ∧ Sgn C H x a n ps s ∧ ∀ t H', Same H H' → H' t = some (.tup ((srcL n ps s).map V.int)) → Q (.ref t) H'
def spIsSource (C : Addr) : Sp := fun vs H Q _ => ∃ (x a : Addr) (n k : Int) (ps : List (Int × Int)) (s : List Bool), vs = [.ref x, .ref a, .int k] ∧ Sgn C H x a n ps s ∧ 0 ≤ k ∧ k < n ∧ Src ps s k ∧ ∀ H', Same H H' → Q (.bl true) H'
def spBehind (C : Addr) : Sp := fun vs H Q _ => ∃ (x a : Addr) (n k : Int) (ps : List (Int × Int)) (s : List Bool), vs = [.ref x, .ref a, .int k] ∧ Sgn C H x a n ps s ∧ ∀ t H', Same H H' → SgAt H' t (trn ps s k) → Q (.ref t) H'
def spTurned (C : Addr) : Sp := fun vs H Q _ => ∃ (x a : Addr) (n k : Int) (ps : List (Int × Int)) (s : List Bool), vs = [.ref x, .ref a, .int k] ∧ Sgn C H x a n ps s ∧ Acy ps s ∧ 0 ≤ k ∧ k < n ∧ Src ps s k ∧ ∀ t H', Same H H' → SgAt H' t (trn ps s k) → Q (.ref t) H'
def spNo : Sp := fun _ _ _ _ => False
section
variable {P : Program} {w : World} {K : PySem.W.Frag} {mg : Str → Option Value} {base : Heap}
theorem ok_round_behind (T : Tx K mg) : FnOk P w K mg base CX0 0 T.f_round_behind T.d_round_behind ["goings", "left"] spNo :=
  ⟨fun vs H Q E h => h.elim, fun A outer s H args us vs Q E _ _ _ _ h => h.elim⟩
theorem ok_is_flags (T : Tx K mg) : FnOk P w K mg base CX0 1 T.f_is_flags T.d_is_flags ["thing"] spFlg := by
  refine T.F_is_flags.ok sc_is_flags (fun vs H Q E h => ?_) (fun cdv A outer s H vs Q E hr h => ?_)
  · obtain ⟨a, s, rfl, _⟩ := h
    rfl
  obtain ⟨a, s, rfl, ha, l16, q⟩ := h
  refine ⟨_, (pss_one (ps_ret (pe_and (pe_callB call_isi (by rfl) T.g_isinstance (by decide +kernel) (pa_cons (pv 0) (pa_cons (pe_bltn (v := .ty "tuple") (by rfl) T.g_tuple (by decide +kernel) rfl) pa_nil))) (pe_one (pe_callB (cr_all rfl) (by rfl) T.g_all (by decide +kernel) (pa_cons (pe_lc (own := [("part", 1)]) (g := (gName 1)) (tt := tYes) (te := (tCB (rIsi K) (tCons (tVar 1) (tCons (tC _) tNil)))) rfl sc_is_flags.nd (pi_tup (pv 0)) (blkOk_by (own := [("part", 1)]) (N := N_is_flags) (sc := defScope s_is_flags) (by decide +kernel)) (fun _ _ _ _ _ => (pg_name (i := 1) sc_is_flags.nd rfl (.inl rfl))) (fun _ _ _ _ _ => pts_nil) (fun _ _ _ _ _ => (pe_callB call_isi (by rfl) T.g_isinstance (by decide +kernel) (pa_cons (pv 1) (pa_cons (pe_bltn (v := .ty "bool") (by rfl) T.g_bool (by decide +kernel) rfl) pa_nil))))) pa_nil)))))), ?_⟩
  refine ⟨_, rfl, _, _, _, _, _, rfl, .ty _, .base (.tup ha), kit_ty (by decide +kernel), true, rfl, ?_⟩
  refine iteT ?_
  refine ⟨_, rfl, a, rfl, ⟨_, SqT.of ha⟩, fun D nD => lc_tup (xs := bV s) (fun i H' => Same H H' ∧ H' D = some (.lst ((List.replicate i true).map V.bl))) ⟨same_new nD _, upd_same⟩ (fun i H' _ ⟨sm, _⟩ => SqT.of (sm _ _ ha)) ?_ ?_⟩
  · intro i y H' hi ⟨sm, hD⟩
    obtain ⟨b, hb, ey⟩ := bV_get hi
    subst ey
    have li := (List.getElem?_eq_some_iff.mp hb).1
    refine ⟨rfl, ?_⟩
    refine ⟨_, rfl, _, _, _, _, _, rfl, .ty _, .base (.bl b), kit_ty (r := true) (by decide +kernel), _, hD, small1000 ?_, fun c o hc => ?_, ?_⟩
    · rw [List.length_map, List.length_replicate]
      omega
    · rw [upd_ne (ne_of_none hc nD)]
      exact sm _ _ hc
    · rw [upd_same, List.replicate_succ', List.map_append]
      rfl
  · intro H1 ⟨sm, hD⟩
    refine ⟨D, _, rfl, SqL.of hD, ?_⟩
    have e2 : (List.replicate (bV s).length true).all id = true := by
      rw [List.all_replicate]
      cases (bV s).length <;> rfl
    rw [e2]
    exact q H1 sm
theorem ok_is_signing (T : Tx K mg) : FnOk P w K mg base CX0 2 T.f_is_signing T.d_is_signing ["web", "thing"] (spSgn T.C_Web) := by
  refine T.F_is_signing.ok sc_is_signing (fun vs H Q E h => ?_) (fun cdv A outer s H vs Q E hr h => ?_)
  · obtain ⟨x, a, n, ps, s, rfl, _⟩ := h
    rfl
  obtain ⟨x, a, n, ps, s, rfl, S, q⟩ := h
  obtain ⟨dx, t, hx, vs, htv, hv⟩ := S.w
  have ha : H a = some (.tup (bV s)) := S.g
  have lv := hv.len
  have ls := S.l
  have l16 := S.l16
  refine ⟨_, (pss_one (ps_ret (pe_and (pe_call (ok_is_flags T) (hr.mono (by decide)) (by rfl) T.m_is_flags T.F_is_flags.kp T.b_is_flags .nil pass0 (pa_cons (pv 1) pa_nil)) (pe_one (pe_cmpR op_eq (pe_callB call_len_seq (by rfl) T.g_len PySem.boot_len (pa_cons (pv 1) pa_nil)) (pe_callB call_len_seq (by rfl) T.g_len PySem.boot_len (pa_cons (pe_fld (pv 0) rfl) pa_nil)) (nomark _)))))), ?_⟩
  refine ⟨_, rfl, a, s, rfl, ha, by omega, fun H1 sm => ?_⟩
  refine ⟨true, rfl, iteT ?_⟩
  refine ⟨_, rfl, a, _, rfl, .inr (SqT.of (sm _ _ ha)), _, rfl, x, T.C_Web, dx, _, _, rfl, sm _ _ hx, T.cl_Web, T.no_Web_ties, wf_ties n t, t, _, rfl, .inr (SqT.of (sm _ _ htv)), rfl, ?_⟩
  rw [show (((bV s).length : Nat) : Int) = ((vs.length : Nat) : Int) by rw [bV_len]; omega, decide_eq_true rfl]
  exact q H1 sm
theorem ok_goings (T : Tx K mg) : FnOk P w K mg base CX0 1 T.f_goings T.d_goings ["web", "signing"] (spGo T.C_Web) := by
  refine T.F_goings.ok sc_goings (fun vs H Q E h => ?_) (fun cdv A outer s H vs Q E hr h => ?_)
  · obtain ⟨x, a, n, ps, s, rfl, _⟩ := h
    rfl
  obtain ⟨x, a, n, ps, s, rfl, S, q⟩ := h
  obtain ⟨dx, t, hx, vs, htv, hv⟩ := S.w
  have ha : H a = some (.tup (bV s)) := S.g
  have lv := hv.len
  have ls := S.l
  have l16 := S.l16
  have hlen : vs.length = (bV s).length := by rw [bV_len]; omega
  refine ⟨_, (pss_one (ps_ret (pe_lc (own := [("flag", 2), ("u", 3), ("v", 4)]) (g := (gTup K 2 (gCons (gTup K 2 (gCons (gName 3) (gCons (gName 4) gNil))) (gCons (gName 2) gNil)))) (tt := tYes) (te := (tIf (tB (tVar 2)) (tTup (tCons (tVar 3) (tCons (tVar 4) tNil))) (tTup (tCons (tVar 4) (tCons (tVar 3) tNil))))) rfl sc_goings.nd (RZ.pi_zipA (by rfl) T.g_zip (pa_cons (pe_fld (pv 0) rfl) (pa_cons (pv 1) pa_nil))) (blkOk_by (own := [("flag", 2), ("u", 3), ("v", 4)]) (N := N_goings) (sc := defScope s_goings) (by decide +kernel)) (fun _ _ _ _ _ => (pg_tup rfl (pgs_cons (pg_tup rfl (pgs_cons (pg_name (i := 3) sc_goings.nd rfl (.inl rfl)) (pgs_cons (pg_name (i := 4) sc_goings.nd rfl (.inl rfl)) pgs_nil))) (pgs_cons (pg_name (i := 2) sc_goings.nd rfl (.inl rfl)) pgs_nil)))) (fun _ _ _ _ _ => pts_nil) (fun _ _ _ _ _ => (pe_ifExp (pt_val (pv 2)) (pe_tup (pa_cons (pv 3) (pa_cons (pv 4) pa_nil))) (pe_tup (pa_cons (pv 4) (pa_cons (pv 3) pa_nil)))))))), ?_⟩
  refine ⟨_, rfl, x, T.C_Web, dx, _, _, rfl, hx, T.cl_Web, T.no_Web_ties, wf_ties n t, _, rfl, t, a, vs, bV s, rfl, .inr ⟨SqT.of htv, SqT.of ha, fun D nD => ?_⟩⟩
  refine lc_zipT hlen (fun i H' => Same H H' ∧ ∃ us, H' D = some (.lst us) ∧ PrsAt H' us ((ars ps s).take i)) ⟨same_new nD _, [], upd_same, by rw [List.take_zero]; exact .nil⟩ (fun i H' ⟨sm, _⟩ => ⟨SqT.of (sm _ _ htv), SqT.of (sm _ _ ha)⟩) ?_ ?_
  · intro i y z T2 H' hy hz ⟨sm, us, hD, pu⟩ nT
    obtain ⟨p, c, hp, ey, hc⟩ := (hv.same sm).get hy
    subst ey
    obtain ⟨b, hb, ez⟩ := bV_get hz
    subst ez
    have s2 : Same H' (L2.upd H' T2 (.tup [.ref c, .bl b])) := same_new nT _
    refine ⟨T2, _, rfl, SqT.of upd_same, rfl, _, _, rfl, c, _, rfl, SqT.of (s2 _ _ hc), rfl, _, _, rfl, _, _, rfl, rfl, _, _, rfl, rfl, rfl, ?_⟩
    have hD2 := s2 _ _ hD
    have pu2 := pu.same s2
    have sm2 := sm.trans s2
    generalize L2.upd H' T2 (.tup [.ref c, .bl b]) = H2 at *
    have lu := pu2.len
    have lt : i < (ars ps s).length := by
      have := (List.getElem?_eq_some_iff.mp hp).1
      rw [ars_len ls]
      exact this
    have lu2 : us.length < 100 := by
      rw [lu, List.length_take, ars_len ls]
      omega
    have fin : ∀ q : Int × Int, (ars ps s)[i]? = some q → ∀ S2, H2 S2 = none → ∃ acc, (L2.upd H2 S2 (.tup [.int q.1, .int q.2])) D = some (.lst acc) ∧ acc.length < sizeLine ∧ (Same H (L2.upd (L2.upd H2 S2 (.tup [.int q.1, .int q.2])) D (.lst (acc ++ [.ref S2]))) ∧
        ∃ us, (L2.upd (L2.upd H2 S2 (.tup [.int q.1, .int q.2])) D (.lst (acc ++ [.ref S2]))) D = some (.lst us) ∧ PrsAt (L2.upd (L2.upd H2 S2 (.tup [.int q.1, .int q.2])) D (.lst (acc ++ [.ref S2]))) us ((ars ps s).take (i + 1))) := fun q hq S2 nS => by
      have s3 : Same H2 (L2.upd H2 S2 (.tup [.int q.1, .int q.2])) := same_new nS _
      have hD3 := s3 _ _ hD2
      refine ⟨us, hD3, small1000 (by omega), fun o u ho => ?_, us ++ [.ref S2], upd_same, ?_⟩
      · rw [upd_ne (ne_of_none ho nD)]
        exact s3 _ _ (sm2 _ _ ho)
      · rw [take_snoc hq]
        exact ((pu2.same s3).snoc upd_same).upd hD3
    have ag := ars_get hp hb
    cases b with
    | true => exact ⟨_, rfl, true, rfl, iteT ⟨_, rfl, _, rfl, (by show 2 ≤ sizeLine; decide), fun S2 nS => fin _ ag S2 nS⟩⟩
    | false => exact ⟨_, rfl, false, rfl, iteF ⟨_, rfl, _, rfl, (by show 2 ≤ sizeLine; decide), fun S2 nS => fin _ ag S2 nS⟩⟩
  · intro H' ⟨sm, us, hD, pu⟩
    rw [List.take_of_length_le (by rw [ars_len ls]; omega)] at pu
    exact q D us H' nD sm hD pu
end
end K42
set_option Elab.async false
set_option linter.all false
set_option maxRecDepth 100000
set_option maxHeartbeats 4000000
/-! Places struck; sources; turned. -/
namespace K42
open PySem L2 Rl
theorem dec_vint {a b : Int} : decide (V.int a = V.int b) = decide (a = b) := by
  by_cases h : a = b
  · rw [decide_eq_true h, decide_eq_true (by rw [h])]
  · rw [decide_eq_false h, decide_eq_false fun e => h (by cases e; rfl)]
def cnd (L : List Int) (k : Int) (q : Int × Int) : Bool := decide (q.1 ∈ L) && decide (q.2 = k)
theorem kp_cnd (G : List (Int × Int)) (L : List Int) : kp G L = L.filter fun k => G.any (cnd L k) := rfl
theorem any_cnd {G : List (Int × Int)} {f : Int × Int → Bool} : (G.map f).any id = G.any f := by
  rw [List.any_map]
  rfl
theorem filt_snoc {l : List Int} {i : Nat} {k : Int} (f : Int → Bool) (h : l[i]? = some k) : (l.take (i + 1)).filter f = (l.take i).filter f ++ (if f k = true then [k] else []) := by
  rw [take_snoc h, List.filter_append]
  cases c : f k with
  | true => rw [if_pos rfl, List.filter_cons_of_pos c, List.filter_nil]
  | false => rw [if_neg Bool.false_ne_true, List.filter_cons_of_neg (by rw [c]; exact Bool.false_ne_true), List.filter_nil]
section
variable {P : Program} {w : World} {K : PySem.W.Frag} {mg : Str → Option Value} {base : Heap}
theorem ok_never_sources (T : Tx K mg) : FnOk P w K mg base CX0 1 T.f_never_sources T.d_never_sources ["many", "goings"] spNever := by
  refine T.F_never_sources.ok sc_never_sources (fun vs H Q E h => ?_) (fun cdv A outer s H vs Q E hr h => ?_)
  · obtain ⟨G, us, n, ps, sg, rfl, _⟩ := h
    rfl
  obtain ⟨G, us, n, ps, sg, rfl, hG, pG, ac, n0, n1, lu, q⟩ := h
  refine ⟨_, (pss_cons (ps_set (i := 2) sc_never_sources.nd rfl (.inr rfl) (pe_listRg rfl (by rfl) T.g_list (prg_1 (by rfl) T.g_range (pv 0))))
    (pss_one (ps_while PassesOwn.never (pt_val pe_bl)
      (pss_cons (ps_setLc (i := 3) (own := [("place", 4)]) (g := (gName 4)) (tt := (tB (tCB (rAny K) (tCons (tLc (iList K (tVar 1)) (gTup K 2 (gCons (gName 5) (gCons (gName 6) gNil))) tYes (tAndV (tOp (rIn K false) (tVar 5) (tVar 2)) (tOp rEq (tVar 6) (tVar 4))) [5, 6]) tNil)))) (te := (tVar 4)) rfl sc_never_sources.nd rfl rfl (sw_true rfl rfl rfl (by decide +kernel)) (pi_list (pv 2)) (blkOk_by (own := [("place", 4)]) (N := N_never_sources) (sc := defScope s_never_sources) (by decide +kernel)) (fun _ _ _ _ _ => (pg_name (i := 4) sc_never_sources.nd rfl (by first | exact .inl rfl | exact .inr rfl))) (fun _ _ _ _ _ => (pts_one (pt_val (pe_callB (cr_any rfl) (by rfl) T.g_any (by decide +kernel) (pa_cons (pe_lc (own := [("ahead", 5), ("to", 6)]) (g := (gTup K 2 (gCons (gName 5) (gCons (gName 6) gNil)))) (tt := tYes) (te := (tAndV (tOp (rIn K false) (tVar 5) (tVar 2)) (tOp rEq (tVar 6) (tVar 4)))) rfl sc_never_sources.nd (pi_list (pv 1)) (blkOk_by (own := [("ahead", 5), ("to", 6)]) (N := N_never_sources) (sc := { kind := .function, names := [(".0", .local), ("place", .cell), ("any", .globalImplicit), ("goings", .cell), ("left", .cell)], isGenerator := false, isCoroutine := false }) (by decide +kernel)) (fun _ _ _ _ _ => (pg_tup rfl (pgs_cons (pg_name (i := 5) sc_never_sources.nd rfl (.inl rfl)) (pgs_cons (pg_name (i := 6) sc_never_sources.nd rfl (.inl rfl)) pgs_nil)))) (fun _ _ _ _ _ => pts_nil) (fun _ _ _ _ _ => (pe_and (pe_cmpR op_in_seq (pv 5) (pv 2) (by rfl)) (pe_one (pe_cmpR op_eq (pv 6) (pv 4) (nomark _)))))) pa_nil))))) (fun _ _ _ _ _ => (pv 4)))
        (pss_cons (ps_if (pt_cmpR (op_eqD hr.units) (pv 3) (pv 2) (nomark _))
          (pss_one (ps_ret (pv 2)))
          pss_nil)
        (pss_one (ps_set (i := 2) sc_never_sources.nd rfl (.inr rfl) (pv 3)))))))), ?_⟩
  refine ⟨_, rfl, n, rfl, RgOk.of_le (by decide) (by omega) (by decide) n0, fun D nD => ?_⟩
  rw [rg_rn]
  refine ⟨fun m σ' H' => ∃ (D : Addr) (L : List Int) (y3 : Option V), σ' = [some (.int n), some (.ref G), some (.ref D), y3, none, none, none] ∧ Same H H' ∧ H' D = some (.lst (L.map V.int)) ∧ L.length ≤ 10 ∧ m = L.length,
    ⟨(rn n).length, D, rn n, none, rfl, same_new nD _, upd_same, by rw [rn_len]; omega, rfl⟩, ?_⟩
  intro m σ' H' ⟨D1, L, y3, e, sm, hD, lL, em⟩
  subst e em
  refine ⟨true, rfl, iteT ⟨fun σ' H' => ∃ (D : Addr) (L' : List Int) (y3 : Option V), σ' = [some (.int n), some (.ref G), some (.ref D), y3, none, none, none] ∧ Same H H' ∧ H' D = some (.lst (L'.map V.int)) ∧ L'.length < L.length, ?_, ?_⟩⟩
  · intro σ' H' ⟨D', L', y3, e, sm, hD, lt⟩
    exact ⟨L'.length, lt, D', L', y3, e, sm, hD, by omega, rfl⟩
  refine ⟨_, rfl, D1, rfl, ⟨_, SqL.of hD⟩, fun Z nZ => lc_list (xs := L.map V.int) (fun i H2 => Same H' H2 ∧ H2 Z = some (.lst (((L.take i).filter fun k => (ars ps sg).any (cnd L k)).map V.int))) ⟨same_new nZ _, upd_same⟩ (fun i H2 _ ⟨s2, _⟩ => SqL.of (s2 _ _ hD)) ?_ ?_⟩
  · intro i y H2 hi ⟨s2, hZ⟩
    obtain ⟨k, hk, ey⟩ := mint hi
    subst ey
    have hG2 := s2 _ _ (sm _ _ hG)
    have pG2 := pG.same (sm.trans s2)
    have hD2 := s2 _ _ hD
    have lG := pG2.len
    refine ⟨rfl, ?_⟩
    refine ⟨_, rfl, G, rfl, ⟨_, SqL.of hG2⟩, fun Y nY => lc_list (xs := us) (fun j H3 => Same H2 H3 ∧ H3 Y = some (.lst ((((ars ps sg).take j).map (cnd L k)).map V.bl))) ⟨same_new nY _, upd_same⟩ (fun j H3 _ ⟨s3, _⟩ => SqL.of (s3 _ _ hG2)) ?_ ?_⟩
    · intro j z H3 hj ⟨s3, hY⟩
      obtain ⟨p, a, hp, ez, ha⟩ := (pG2.same s3).get hj
      subst ez
      have hD3 := s3 _ _ hD2
      refine ⟨a, _, rfl, SqT.of ha, rfl, _, _, rfl, _, _, rfl, rfl, rfl, ?_⟩
      refine ⟨_, rfl, _, rfl, D1, _, rfl, .inl (SqL.of hD3), rfl, flat_is L, _, rfl, ?_⟩
      rw [if_neg Bool.false_ne_true, in_ints]
      have fin : ∀ b : Bool, b = cnd L k p → ∃ acc, H3 Y = some (.lst acc) ∧ acc.length < sizeLine ∧ (Same H2 (L2.upd H3 Y (.lst (acc ++ [.bl b]))) ∧ (L2.upd H3 Y (.lst (acc ++ [.bl b]))) Y = some (.lst ((((ars ps sg).take (j + 1)).map (cnd L k)).map V.bl))) := fun b eb => by
        refine ⟨_, hY, small1000 ?_, fun o u ho => ?_, ?_⟩
        · rw [List.length_map, List.length_map, List.length_take]
          omega
        · rw [upd_ne (ne_of_none ho nY)]
          exact s3 _ _ ho
        · rw [upd_same, take_snoc hp, List.map_append, List.map_append, eb]
          rfl
      by_cases c : p.1 ∈ L
      · rw [decide_eq_true c]
        refine iteT ⟨_, rfl, _, rfl, rfl, fin _ ?_⟩
        unfold cnd
        rw [decide_eq_true c, dec_vint]
        rfl
      · rw [decide_eq_false c]
        refine iteF (fin _ ?_)
        unfold cnd
        rw [decide_eq_false c]
        rfl
    · intro H3 ⟨s3, hY⟩
      rw [List.take_of_length_le (by omega)] at hY
      refine ⟨Y, _, rfl, SqL.of hY, _, rfl, ?_⟩
      rw [any_cnd]
      have fs := filt_snoc (fun k => (ars ps sg).any (cnd L k)) hk
      have s23 := s2.trans s3
      have hZ3 := s3 _ _ hZ
      cases c : (ars ps sg).any (cnd L k) with
      | true =>
        refine iteT ⟨_, rfl, _, hZ3, small1000 ?_, fun o u ho => ?_, ?_⟩
        · rw [List.length_map]
          have := List.length_filter_le (fun k => (ars ps sg).any (cnd L k)) (L.take i)
          rw [List.length_take] at this
          omega
        · rw [upd_ne (ne_of_none ho nZ)]
          exact s23 _ _ ho
        · rw [upd_same, fs, if_pos c, List.map_append]
          rfl
      | false =>
        refine iteF ⟨s23, ?_⟩
        rw [fs, if_neg (by rw [c]; exact Bool.false_ne_true), List.append_nil]
        exact hZ3
  · intro H2 ⟨s2, hZ⟩
    rw [List.length_map, List.take_of_length_le (Nat.le_refl _), ← kp_cnd] at hZ
    have hD2 := s2 _ _ hD
    have sm2 := sm.trans s2
    refine ⟨_, rfl, _, rfl, .list (dI (kp (ars ps sg) L)), .list (dI L), .lst (SqL.of hZ) (dpa_ints _), .lst (SqL.of hD2) (dpa_ints _), shp_ints _, shp_ints _, _, rfl, ?_⟩
    by_cases c : L = []
    · subst c
      rw [kp_nil, eqv_same (shp_ints _)]
      exact iteT ⟨_, rfl, q D1 H2 sm2 hD2⟩
    · have lt := kp_lt ac c
      rw [eqv_lists (by omega)]
      exact iteF ⟨_, rfl, Z, _, _, rfl, sm2, hZ, lt⟩
theorem ok_round_of (T : Tx K mg) : FnOk P w K mg base CX0 3 T.f_round_of T.d_round_of ["web", "signing"] (spRound T.C_Web) := by
  refine T.F_round_of.ok sc_round_of (fun vs H Q E h => ?_) (fun cdv A outer s H vs Q E hr h => ?_)
  · obtain ⟨x, a, n, ps, s, rfl, _⟩ := h
    rfl
  obtain ⟨x, a, n, ps, s, rfl, S, ac, q⟩ := h
  have ls := S.l
  have l16 := S.l16
  have n0 := S.n0
  have n1 := S.n1
  refine ⟨_, (pss_cons (ps_if (pt_not (pt_val (pe_call (ok_is_signing T) (hr.mono (by decide)) (by rfl) T.m_is_signing T.F_is_signing.kp T.b_is_signing .nil pass0 (pa_cons (pv 0) (pa_cons (pv 1) pa_nil)))))
      (pss_one ps_never)
      pss_nil)
    (pss_cons (ps_set (i := 2) sc_round_of.nd rfl (.inl rfl) (pe_call (ok_goings T) (hr.mono (by decide)) (by rfl) T.m_goings T.F_goings.kp T.b_goings .nil pass0 (pa_cons (pv 0) (pa_cons (pv 1) pa_nil))))
    (pss_cons (ps_set (i := 3) sc_round_of.nd rfl (.inl rfl) (pe_call (ok_never_sources T) (hr.mono (by decide)) (by rfl) T.m_never_sources T.F_never_sources.kp T.b_never_sources .nil pass0 (pa_cons (pe_fld (pv 0) rfl) (pa_cons (pv 2) pa_nil))))
    (pss_one (ps_ret (pe_ifExp (pt_truth (pv 3) (by intro _; rfl)) (pe_call (ok_round_behind T) (hr.mono (by decide)) (by rfl) T.m_round_behind T.F_round_behind.kp T.b_round_behind .nil pass0 (pa_cons (pv 2) (pa_cons (pv 3) pa_nil))) pe_non)))))), ?_⟩
  refine ⟨_, rfl, _, rfl, x, a, n, ps, s, rfl, S, fun H1 s1 => ⟨true, rfl, iteF ?_⟩⟩
  refine ⟨_, rfl, _, rfl, x, a, n, ps, s, rfl, S.same s1, fun G us H2 nG s2 hG pG => ?_⟩
  have s12 := s1.trans s2
  obtain ⟨dx, t, hx, vs, htv, hv⟩ := (S.same s12).w
  have lu := pG.len
  rw [ars_len ls] at lu
  refine ⟨_, rfl, x, T.C_Web, dx, _, _, rfl, hx, T.cl_Web, T.no_Web_many, wf_many n t, _, rfl, G, us, n, ps, s, rfl, hG, pG, ac, by omega, n1, by omega, fun L H3 s3 hL => ?_⟩
  refine ⟨_, rfl, false, .inl ⟨_, SqL.of hL, rfl⟩, ?_⟩
  exact iteF (q H3 (s12.trans s3))
theorem ok_is_rising (T : Tx K mg) : FnOk P w K mg base CX0 4 T.f_is_rising T.d_is_rising ["web", "thing"] (spRising T.C_Web) := by
  refine T.F_is_rising.ok sc_is_rising (fun vs H Q E h => ?_) (fun cdv A outer s H vs Q E hr h => ?_)
  · obtain ⟨x, a, n, ps, s, rfl, _⟩ := h
    rfl
  obtain ⟨x, a, n, ps, s, rfl, S, ac, q⟩ := h
  refine ⟨_, (pss_one (ps_ret (pe_and (pe_call (ok_is_signing T) (hr.mono (by decide)) (by rfl) T.m_is_signing T.F_is_signing.kp T.b_is_signing .nil pass0 (pa_cons (pv 0) (pa_cons (pv 1) pa_nil))) (pe_one (pe_cmpR op_isN (pe_call (ok_round_of T) (hr.mono (by decide)) (by rfl) T.m_round_of T.F_round_of.kp T.b_round_of .nil pass0 (pa_cons (pv 0) (pa_cons (pv 1) pa_nil))) pe_non (nomark _)))))), ?_⟩
  refine ⟨_, rfl, _, rfl, x, a, n, ps, s, rfl, S, fun H1 s1 => ⟨true, rfl, iteT ?_⟩⟩
  refine ⟨_, rfl, _, rfl, x, a, n, ps, s, rfl, S.same s1, ac, fun H2 s2 => ⟨rfl, ?_⟩⟩
  exact q H2 (s1.trans s2)
/-- the places gone to, of pairs -/
theorem ok_sources (T : Tx K mg) : FnOk P w K mg base CX0 3 T.f_sources T.d_sources ["web", "signing"] (spSources T.C_Web) := by
  refine T.F_sources.ok sc_sources (fun vs H Q E h => ?_) (fun cdv A outer s H vs Q E hr h => ?_)
  · obtain ⟨x, a, n, ps, s, rfl, _⟩ := h
    rfl
  obtain ⟨x, a, n, ps, s, rfl, S, q⟩ := h
  have ls := S.l
  have l16 := S.l16
  have n0 := S.n0
  have n1 := S.n1
  refine ⟨_, (pss_cons (ps_if (pt_not (pt_val (pe_call (ok_is_signing T) (hr.mono (by decide)) (by rfl) T.m_is_signing T.F_is_signing.kp T.b_is_signing .nil pass0 (pa_cons (pv 0) (pa_cons (pv 1) pa_nil)))))
      (pss_one ps_never)
      pss_nil)
    (pss_cons (ps_asg (pe_lc (own := [("_", 3), ("to", 4)]) (g := (gTup K 2 (gCons (gName 3) (gCons (gName 4) gNil)))) (tt := tYes) (te := (tVar 4)) rfl sc_sources.nd (pi_list (pe_call (ok_goings T) (hr.mono (by decide)) (by rfl) T.m_goings T.F_goings.kp T.b_goings .nil pass0 (pa_cons (pv 0) (pa_cons (pv 1) pa_nil)))) (blkOk_by (own := [("_", 3), ("to", 4)]) (N := N_sources) (sc := defScope s_sources) (by decide +kernel)) (fun _ _ _ _ _ => (pg_tup rfl (pgs_cons (pg_name (i := 3) sc_sources.nd rfl (.inl rfl)) (pgs_cons (pg_name (i := 4) sc_sources.nd rfl (.inl rfl)) pgs_nil)))) (fun _ _ _ _ _ => pts_nil) (fun _ _ _ _ _ => (pv 4))) (pg_name (i := 2) sc_sources.nd rfl (by first | exact .inl rfl | exact .inr rfl)))
    (pss_one (ps_ret (pe_callTy call_tuple_of (by rfl) T.g_tuple (by decide +kernel) (pa_cons (pe_lc (own := [("place", 5)]) (g := (gName 5)) (tt := (tTest (tOp (rIn K true) (tVar 5) (tVar 2)))) (te := (tVar 5)) rfl sc_sources.nd (pi_range1 (by rfl) T.g_range (pa_cons (pe_fld (pv 0) rfl) pa_nil)) (blkOk_by (own := [("place", 5)]) (N := N_sources) (sc := defScope s_sources) (by decide +kernel)) (fun _ _ _ _ _ => (pg_name (i := 5) sc_sources.nd rfl (.inl rfl))) (fun _ _ _ _ _ => (pts_one (pt_cmpR op_notIn_seq (pv 5) (pv 2) (by rfl)))) (fun _ _ _ _ _ => (pv 5))) pa_nil)))))), ?_⟩
  refine ⟨_, rfl, _, rfl, x, a, n, ps, s, rfl, S, fun H1 s1 => ⟨true, rfl, iteF ?_⟩⟩
  refine ⟨_, rfl, _, rfl, x, a, n, ps, s, rfl, S.same s1, fun G us H2 nG s2 hG pG => ?_⟩
  have s12 := s1.trans s2
  have lu := pG.len
  rw [ars_len ls] at lu
  refine ⟨G, rfl, ⟨_, SqL.of hG⟩, fun D nD => lc_list (xs := us) (fun i H3 => Same H2 H3 ∧ H3 D = some (.lst (((tos ps s).take i).map V.int))) ⟨same_new nD _, upd_same⟩ (fun i H3 _ ⟨s3, _⟩ => SqL.of (s3 _ _ hG)) ?_ ?_⟩
  · intro i y H3 hi ⟨s3, hD⟩
    obtain ⟨p, c, hp, ey, hc⟩ := (pG.same s3).get hi
    subst ey
    have et : (tos ps s)[i]? = some p.2 := by
      unfold tos
      rw [List.getElem?_map, hp]
      rfl
    refine ⟨c, _, rfl, SqT.of hc, rfl, _, _, rfl, _, _, rfl, rfl, rfl, ?_⟩
    refine ⟨_, rfl, _, hD, small1000 ?_, fun o u ho => ?_, ?_⟩
    · rw [List.length_map, List.length_take]
      have := (List.getElem?_eq_some_iff.mp hi).1
      omega
    · rw [upd_ne (ne_of_none ho nD)]
      exact s3 _ _ ho
    · rw [upd_same, take_snoc et, List.map_append]
      rfl
  · intro H3 ⟨s3, hD⟩
    have lt : (tos ps s).length = us.length := by
      unfold tos
      rw [List.length_map, ars_len ls, lu]
    rw [List.take_of_length_le (by omega)] at hD
    have s13 := s12.trans s3
    obtain ⟨dx, t, hx, vs, htv, hv⟩ := (S.same s13).w
    refine ⟨_, rfl, x, T.C_Web, dx, _, _, rfl, hx, T.cl_Web, T.no_Web_many, wf_many n t, n, rfl, by omega, by omega, fun Z nZ => ?_⟩
    refine lc_range (lo := 0) (n := n.toNat) (fun i H4 => Same H3 H4 ∧ H4 Z = some (.lst ((((rn n).take i).filter fun k => !decide (k ∈ tos ps s)).map V.int))) ⟨same_new nZ _, upd_same⟩ ?_ ?_
    · intro i H4 hi ⟨s4, hZ⟩
      have e0 : (0 : Int) + (i : Int) = (i : Int) := Int.zero_add _
      have er := rn_get hi
      have fs := filt_snoc (fun k => !decide (k ∈ tos ps s)) er
      have hD4 := s4 _ _ hD
      refine ⟨rfl, ?_⟩
      refine ⟨_, rfl, _, rfl, D, _, rfl, .inl (SqL.of hD4), rfl, flat_is _, _, rfl, ?_⟩
      rw [if_pos rfl, in_ints, e0]
      cases c : !decide ((i : Int) ∈ tos ps s) with
      | true =>
        refine iteT ⟨_, rfl, _, hZ, small1000 ?_, fun o u ho => ?_, ?_⟩
        · rw [List.length_map]
          have := List.length_filter_le (fun k => !decide (k ∈ tos ps s)) ((rn n).take i)
          rw [List.length_take] at this
          omega
        · rw [upd_ne (ne_of_none ho nZ)]
          exact s4 _ _ ho
        · rw [upd_same, fs, if_pos c, List.map_append]
          rfl
      | false =>
        refine iteF ⟨s4, ?_⟩
        rw [fs, if_neg (by rw [c]; exact Bool.false_ne_true), List.append_nil]
        exact hZ
    · intro H4 ⟨s4, hZ⟩
      rw [List.take_of_length_le (by rw [rn_len]; exact Nat.le_refl _)] at hZ
      refine ⟨Z, _, rfl, .inl ⟨SqL.of hZ, fun t2 nt => ?_⟩⟩
      exact q t2 _ (s13.trans (s4.trans (same_new nt _))) upd_same
theorem in_pr {k : Int} {p : Int × Int} : inV (.int k) [.int p.1, .int p.2] = inT k p := in_ints (gs := [p.1, p.2])
theorem ok_behind (T : Tx K mg) : FnOk P w K mg base CX0 1 T.f_behind T.d_behind ["web", "signing", "place"] (spBehind T.C_Web) := by
  refine T.F_behind.ok sc_behind (fun vs H Q E h => ?_) (fun cdv A outer s H vs Q E hr h => ?_)
  · obtain ⟨x, a, n, k, ps, s, rfl, _⟩ := h
    rfl
  obtain ⟨x, a, n, k, ps, s, rfl, S, q⟩ := h
  obtain ⟨dx, t, hx, vs, htv, hv⟩ := S.w
  have ha : H a = some (.tup (bV s)) := S.g
  have lv := hv.len
  have ls := S.l
  have l16 := S.l16
  have hlen : vs.length = (bV s).length := by rw [bV_len]; omega
  refine ⟨_, (pss_one (ps_ret (pe_callTy call_tuple_of (by rfl) T.g_tuple (by decide +kernel) (pa_cons (pe_lc (own := [("flag", 4), ("tie", 3)]) (g := (gTup K 2 (gCons (gName 3) (gCons (gName 4) gNil)))) (tt := tYes) (te := (tOp _ (tVar 4) (tOp (rIn K false) (tVar 2) (tVar 3)))) rfl sc_behind.nd (RZ.pi_zipA (by rfl) T.g_zip (pa_cons (pe_fld (pv 0) rfl) (pa_cons (pv 1) pa_nil))) (blkOk_by (own := [("flag", 4), ("tie", 3)]) (N := N_behind) (sc := defScope s_behind) (by decide +kernel)) (fun _ _ _ _ _ => (pg_tup rfl (pgs_cons (pg_name (i := 3) sc_behind.nd rfl (.inl rfl)) (pgs_cons (pg_name (i := 4) sc_behind.nd rfl (.inl rfl)) pgs_nil)))) (fun _ _ _ _ _ => pts_nil) (fun _ _ _ _ _ => (pe_cmpR op_ne (pv 4) (pe_cmpR op_in_seq (pv 2) (pv 3) (by rfl)) (nomark _)))) pa_nil)))), ?_⟩
  refine ⟨_, rfl, x, T.C_Web, dx, _, _, rfl, hx, T.cl_Web, T.no_Web_ties, wf_ties n t, _, rfl, t, a, vs, bV s, rfl, .inr ⟨SqT.of htv, SqT.of ha, fun D nD => ?_⟩⟩
  refine lc_zipT hlen (fun i H' => Same H H' ∧ H' D = some (.lst (bV ((trn ps s k).take i)))) ⟨same_new nD _, upd_same⟩ (fun i H' ⟨sm, _⟩ => ⟨SqT.of (sm _ _ htv), SqT.of (sm _ _ ha)⟩) ?_ ?_
  · intro i y z T2 H' hy hz ⟨sm, hD⟩ nT
    obtain ⟨p, c, hp, ey, hc⟩ := (hv.same sm).get hy
    subst ey
    obtain ⟨b, hb, ez⟩ := bV_get hz
    subst ez
    have s2 : Same H' (L2.upd H' T2 (.tup [.ref c, .bl b])) := same_new nT _
    refine ⟨T2, _, rfl, SqT.of upd_same, rfl, _, _, rfl, _, _, rfl, rfl, rfl, ?_⟩
    have hD2 := s2 _ _ hD
    have hc2 := s2 _ _ hc
    have sm2 := sm.trans s2
    generalize L2.upd H' T2 (.tup [.ref c, .bl b]) = H2 at *
    refine ⟨_, rfl, _, rfl, _, rfl, c, _, rfl, .inr (SqT.of hc2), rfl, rfl, rfl, ?_⟩
    rw [if_neg Bool.false_ne_true, in_pr, bne_bl]
    refine ⟨_, hD2, small1000 ?_, fun o u ho => ?_, ?_⟩
    · rw [bV_len, List.length_take]
      have := (List.getElem?_eq_some_iff.mp hp).1
      omega
    · rw [upd_ne (ne_of_none ho nD)]
      exact sm2 _ _ ho
    · rw [upd_same, take_snoc (trn_get (k := k) hp hb)]
      unfold bV
      rw [List.map_append]
      rfl
  · intro H' ⟨sm, hD⟩
    rw [List.take_of_length_le (by rw [trn_len ls]; omega)] at hD
    refine ⟨D, _, rfl, .inl ⟨SqL.of hD, fun t2 nt => ?_⟩⟩
    exact q t2 _ (sm.trans (same_new nt _)) upd_same
end
end K42
set_option Elab.async false
set_option linter.all false
set_option maxRecDepth 100000
set_option maxHeartbeats 4000000
/-! The mathematics of sources turned until one is left. -/
namespace K42
open PySem L2 Rl
def tI (b : Bool) : Int := if b = true then 1 else 0
theorem tI_rng (b : Bool) : 0 ≤ tI b ∧ tI b ≤ 1 := by
  cases b <;> decide
theorem tI_inj {a b : Bool} (h : tI a = tI b) : a = b := by
  cases a <;> cases b <;> first | rfl | exact absurd h (by decide)
/-- one signing is the other but for heights -/
structure Hgt (ps : List (Int × Int)) (s s' : List Bool) (f : Int → Int) : Prop where
  l : s.length = ps.length
  l' : s'.length = ps.length
  h : ∀ (i : Nat) (p : Int × Int) (b b' : Bool), ps[i]? = some p → s[i]? = some b → s'[i]? = some b' → tI b' = tI b - f p.1 + f p.2
section
variable {ps : List (Int × Int)} {s s' s'' : List Bool} {f g : Int → Int} {n : Int}
theorem get_of {α β : Type} {l : List α} {m : List β} {i : Nat} {x : α} (e : m.length = l.length) (h : l[i]? = some x) : ∃ y, m[i]? = some y := by
  have := (List.getElem?_eq_some_iff.mp h).1
  exact ⟨m[i]'(by omega), List.getElem?_eq_getElem (by omega)⟩
theorem Hgt.refl (l : s.length = ps.length) : Hgt ps s s (fun _ => 0) := ⟨l, l, fun i p b b' hp hb hb' => by
  rw [hb] at hb'
  rw [Option.some.inj hb']
  omega⟩
theorem Hgt.trans (a : Hgt ps s s' f) (b : Hgt ps s' s'' g) : Hgt ps s s'' (fun x => f x + g x) := ⟨a.l, b.l', fun i p c c' hp hc hc' => by
  obtain ⟨d, hd⟩ := get_of a.l' hp
  have h1 := a.h i p c d hp hc hd
  have h2 := b.h i p d c' hp hd hc'
  show tI c' = tI c - (f p.1 + g p.1) + (f p.2 + g p.2)
  omega⟩
theorem Hgt.symm (a : Hgt ps s s' f) : Hgt ps s' s (fun x => - f x) := ⟨a.l', a.l, fun i p c c' hp hc hc' => by
  have h1 := a.h i p c' c hp hc' hc
  show tI c' = tI c - - f p.1 + - f p.2
  omega⟩
theorem Hgt.add (c : Int) (a : Hgt ps s s' f) : Hgt ps s s' (fun x => f x + c) := ⟨a.l, a.l', fun i p b b' hp hb hb' => by
  have := a.h i p b b' hp hb hb'
  show tI b' = tI b - (f p.1 + c) + (f p.2 + c)
  omega⟩
theorem Hgt.lip (a : Hgt ps s s' f) : ∀ p ∈ ps, f p.1 - f p.2 ≤ 1 ∧ f p.2 - f p.1 ≤ 1 := fun p hp => by
  obtain ⟨i, hi⟩ := List.mem_iff_getElem?.mp hp
  obtain ⟨b, hb⟩ := get_of a.l hi
  obtain ⟨b', hb'⟩ := get_of a.l' hi
  have := a.h i p b b' hi hb hb'
  have := tI_rng b
  have := tI_rng b'
  omega
def one1 (k : Int) : Int → Int := fun x => if x = k then 1 else 0
theorem hgt_trn {k : Int} (l : s.length = ps.length) (ok : ∀ p ∈ ps, okS n p) (hs : Src ps s k) : Hgt ps s (trn ps s k) (one1 k) := ⟨l, trn_len l, fun i p b b' hp hb hb' => by
  rw [trn_get (k := k) hp hb] at hb'
  have eb := Option.some.inj hb'
  subst eb
  have no := hs _ (ars_in hp hb)
  obtain ⟨o0, o1, o2⟩ := ok p (List.mem_of_getElem? hp)
  unfold one1
  by_cases c1 : p.1 = k
  · have c2 : ¬ p.2 = k := by omega
    have c3 : inT k p = true := inT_iff.mpr (.inl c1.symm)
    rw [if_pos c1, if_neg c2, c3]
    cases b
    · exact absurd c1 no
    · rfl
  · by_cases c2 : p.2 = k
    · have c3 : inT k p = true := inT_iff.mpr (.inr c2.symm)
      rw [if_neg c1, if_pos c2, c3]
      cases b
      · rfl
      · exact absurd c2 no
    · have c3 : inT k p = false := by
        cases c : inT k p with
        | false => rfl
        | true => exact absurd (inT_iff.mp c) fun z => z.elim (fun e => c1 e.symm) fun e => c2 e.symm
      rw [if_neg c1, if_neg c2, c3]
      cases b <;> rfl⟩
/-- whatever changes by no more than one from end to end of each tie is alike within 18 -/
def Near (n : Int) (ps : List (Int × Int)) : Prop := ∀ f : Int → Int, (∀ p ∈ ps, f p.1 - f p.2 ≤ 1 ∧ f p.2 - f p.1 ≤ 1) → ∀ x y, 0 ≤ x → x < n → 0 ≤ y → y < n → f x - f y ≤ 18
theorem Near.conn (h : Near n ps) (f : Int → Int) (e : ∀ p ∈ ps, f p.1 = f p.2) {x y : Int} (x0 : 0 ≤ x) (x1 : x < n) (y0 : 0 ≤ y) (y1 : y < n) : f x = f y := by
  have g := fun x y x0 x1 y0 y1 => h (fun z => 100 * f z) (fun p hp => by
    have := e p hp
    show 100 * f p.1 - 100 * f p.2 ≤ 1 ∧ 100 * f p.2 - 100 * f p.1 ≤ 1
    omega) x y x0 x1 y0 y1
  have a := g x y x0 x1 y0 y1
  have b := g y x y0 y1 x0 x1
  have a : 100 * f x - 100 * f y ≤ 18 := a
  have b : 100 * f y - 100 * f x ≤ 18 := b
  omega
theorem sum_le : ∀ (L : List Int) (f : Int → Int) (c : Int), (∀ x ∈ L, f x ≤ c) → (L.map f).sum ≤ c * L.length
  | [], _, _, _ => by simp
  | a :: r, f, c, h => by
    have ih := sum_le r f c fun x hx => h x (List.mem_cons_of_mem _ hx)
    have h1 := h a List.mem_cons_self
    rw [List.map_cons, List.sum_cons, List.length_cons]
    have e : c * ((r.length + 1 : Nat) : Int) = c * (r.length : Int) + c := by
      rw [show ((r.length + 1 : Nat) : Int) = (r.length : Int) + 1 by omega, Int.mul_add, Int.mul_one]
    rw [e]
    omega
theorem sum_add : ∀ (L : List Int) (f g : Int → Int), (L.map fun x => f x + g x).sum = (L.map f).sum + (L.map g).sum
  | [], _, _ => rfl
  | a :: r, f, g => by
    rw [List.map_cons, List.map_cons, List.map_cons, List.sum_cons, List.sum_cons, List.sum_cons, sum_add r f g]
    omega
theorem sum_zero : ∀ (L : List Int), (L.map fun _ => (0 : Int)).sum = 0
  | [] => rfl
  | a :: r => by
    rw [List.map_cons, List.sum_cons, sum_zero r]
    rfl
theorem sum_none {k : Int} : ∀ (L : List Int), k ∉ L → (L.map (one1 k)).sum = 0
  | [], _ => rfl
  | a :: r, h => by
    rw [List.map_cons, List.sum_cons, sum_none r fun z => h (List.mem_cons_of_mem _ z)]
    unfold one1
    rw [if_neg fun e => h (by rw [e]; exact List.mem_cons_self)]
    rfl
theorem sum_one {k : Int} : ∀ (L : List Int), L.Nodup → k ∈ L → (L.map (one1 k)).sum = 1
  | [], _, h => nomatch h
  | a :: r, nd, h => by
    rw [List.map_cons, List.sum_cons]
    obtain ⟨n1, n2⟩ := List.nodup_cons.mp nd
    by_cases e : a = k
    · subst e
      rw [sum_none r n1]
      unfold one1
      rw [if_pos rfl]
      rfl
    · have hr : k ∈ r := (List.mem_cons.mp h).resolve_left fun z => e z.symm
      rw [sum_one r n2 hr]
      unfold one1
      rw [if_neg e]
      rfl
theorem rn_nodup (n : Int) : (rn n).Nodup := (rn_sorted n).imp fun {a b} h e => by omega
/-- so many sources but k turned -/
structure Fired (n : Int) (ps : List (Int × Int)) (k : Int) (s s' : List Bool) (j : Nat) : Prop where
  ac : Acy ps s'
  ex : ∃ f, Hgt ps s s' f ∧ f k = 0 ∧ ((rn n).map f).sum = (j : Int)
theorem Fired.begin {k : Int} (l : s.length = ps.length) (ac : Acy ps s) : Fired n ps k s s 0 := ⟨ac, _, Hgt.refl l, rfl, sum_zero _⟩
theorem Fired.len {k : Int} {j : Nat} (h : Fired n ps k s s' j) : s'.length = ps.length := by
  obtain ⟨f, hf, _⟩ := h.ex
  exact hf.l'
theorem Fired.step {k a : Int} {j : Nat} (h : Fired n ps k s s' j) (ok : ∀ p ∈ ps, okS n p) (ha : a ∈ srcL n ps s') (ne : a ≠ k) : Fired n ps k s (trn ps s' a) (j + 1) := by
  obtain ⟨f, hf, fk, fs⟩ := h.ex
  obtain ⟨ra, sa⟩ := srcL_mem.mp ha
  refine ⟨acy_trn h.ac sa, _, hf.trans (hgt_trn hf.l' ok sa), ?_, ?_⟩
  · show f k + one1 a k = 0
    unfold one1
    rw [fk, if_neg fun e => ne e.symm]
    rfl
  · show ((rn n).map fun x => f x + one1 a x).sum = ((j + 1 : Nat) : Int)
    rw [sum_add, fs, sum_one (rn n) (rn_nodup n) (mem_rn.mpr ra)]
    omega
theorem Fired.le {k : Int} {j : Nat} (h : Fired n ps k s s' j) (nr : Near n ps) (n1 : n ≤ 10) (k0 : 0 ≤ k) (k1 : k < n) : j ≤ 180 := by
  obtain ⟨f, hf, fk, fs⟩ := h.ex
  have b := sum_le (rn n) f 18 fun x hx => by
    obtain ⟨x0, x1⟩ := mem_rn.mp hx
    have := nr f hf.lip x k x0 x1 k0 k1
    omega
  rw [fs, rn_len] at b
  omega
/-- what is left: no source but k -/
structure Fin (n : Int) (ps : List (Int × Int)) (k : Int) (s r : List Bool) : Prop where
  ac : Acy ps r
  ex : ∃ f, Hgt ps s r f
  no : ∀ x ∈ srcL n ps r, x = k
theorem Fin.len {k : Int} (h : Fin n ps k s s') : s'.length = ps.length := by
  obtain ⟨f, hf⟩ := h.ex
  exact hf.l'
theorem Fired.fin {k : Int} {j : Nat} (h : Fired n ps k s s' j) (e : (srcL n ps s').filter (fun x => !decide (x = k)) = []) : Fin n ps k s s' := by
  obtain ⟨f, hf, _⟩ := h.ex
  refine ⟨h.ac, ⟨f, hf⟩, fun x hx => ?_⟩
  have := List.filter_eq_nil_iff.mp e x hx
  simpa using this
theorem Fin.src {k : Int} (h : Fin n ps k s s') (n1 : 1 ≤ n) (ok : ∀ p ∈ ps, okS n p) : srcL n ps s' = [k] := by
  have ne := src_ex n1 ok h.ac
  have nd : (srcL n ps s').Nodup := List.Nodup.sublist (List.filter_sublist ..) (rn_nodup n)
  have no := h.no
  cases e : srcL n ps s' with
  | nil => exact absurd e ne
  | cons a r =>
    rw [e] at no nd
    have ea := no a List.mem_cons_self
    cases r with
    | nil => rw [ea]
    | cons b t =>
      have eb := no b (List.mem_cons_of_mem _ List.mem_cons_self)
      exact absurd (by rw [ea, eb]; exact List.mem_cons_self) (List.nodup_cons.mp nd).1
theorem max_ex (h : Int → Int) {L : List Int} (ne : L ≠ []) : ∃ x ∈ L, ∀ y ∈ L, h y ≤ h x := by
  obtain ⟨x, hx, q⟩ := min_ex (fun z => - h z) ne
  exact ⟨x, hx, fun y hy => by have : - h x ≤ - h y := q y hy; omega⟩
theorem top_is {k : Int} {h : Int → Int} (ok : ∀ p ∈ ps, okS n p) (ac : Acy ps s) (no : ∀ x ∈ srcL n ps s, x = k) (hh : Hgt ps s s' h) : ∀ y, 0 ≤ y → y < n → h y ≤ h k := by
  intro y y0 y1
  obtain ⟨m, hm, mx⟩ := max_ex h (L := rn n) fun e => by
    have : y ∈ rn n := mem_rn.mpr ⟨y0, y1⟩
    rw [e] at this
    cases this
  have hy := mx y (mem_rn.mpr ⟨y0, y1⟩)
  by_cases g : h m ≤ h k
  · omega
  exfalso
  obtain ⟨r, B, hB, hr⟩ := ac
  obtain ⟨x, hx, q⟩ := min_ex r (L := (rn n).filter fun z => decide (h z = h m)) fun e => by
    have := List.filter_eq_nil_iff.mp e m hm
    simp at this
  obtain ⟨hx1, hx2⟩ := List.mem_filter.mp hx
  have hx2 := of_decide_eq_true hx2
  have sx : Src ps s x := fun c hc e => by
    have rk := hr c hc
    obtain ⟨i, p, b, hp, hb, ec⟩ := ars_mem hc
    obtain ⟨b', hb'⟩ := get_of hh.l' hp
    have eq := hh.h i p b b' hp hb hb'
    have rb := tI_rng b'
    have rg := ar_rng (b := b) (ok p (List.mem_of_getElem? hp))
    rw [← ec] at rg
    have le := mx c.1 (mem_rn.mpr rg.1)
    by_cases z : h c.1 = h m
    · have := q c.1 (List.mem_filter.mpr ⟨mem_rn.mpr rg.1, decide_eq_true z⟩)
      rw [e] at rk
      omega
    · subst ec
      cases b
      · have e1 : p.1 = x := e
        have z : ¬ h p.2 = h m := z
        have le : h p.2 ≤ h m := le
        rw [e1] at eq
        have : tI false = 0 := rfl
        omega
      · have e1 : p.2 = x := e
        have z : ¬ h p.1 = h m := z
        have le : h p.1 ≤ h m := le
        rw [e1] at eq
        have : tI true = 1 := rfl
        omega
  have := no x (srcL_mem.mpr ⟨mem_rn.mp hx1, sx⟩)
  rw [this] at hx2
  omega
theorem Hgt.same_of {h : Int → Int} (ok : ∀ p ∈ ps, okS n p) (hh : Hgt ps s s' h) (e : ∀ x y, 0 ≤ x → x < n → 0 ≤ y → y < n → h x = h y) : s = s' := by
  refine List.ext_getElem? fun i => ?_
  cases hp : ps[i]? with
  | none =>
    have := List.getElem?_eq_none_iff.mp hp
    rw [List.getElem?_eq_none (by rw [hh.l]; exact this), List.getElem?_eq_none (by rw [hh.l']; exact this)]
  | some p =>
    obtain ⟨b, hb⟩ := get_of hh.l hp
    obtain ⟨b', hb'⟩ := get_of hh.l' hp
    have eq := hh.h i p b b' hp hb hb'
    obtain ⟨o0, o1, o2⟩ := ok p (List.mem_of_getElem? hp)
    have := e p.1 p.2 (by omega) (by omega) (by omega) (by omega)
    rw [hb, hb', tI_inj (a := b) (b := b') (by omega)]
/-- one answer -/
theorem Fin.one {k : Int} {s1 s2 r1 r2 : List Bool} (ok : ∀ p ∈ ps, okS n p) (k0 : 0 ≤ k) (k1 : k < n) (a : Fin n ps k s1 r1) (b : Fin n ps k s2 r2) (h : ∃ g, Hgt ps s1 s2 g) : r1 = r2 := by
  obtain ⟨f1, h1⟩ := a.ex
  obtain ⟨f2, h2⟩ := b.ex
  obtain ⟨g, hg⟩ := h
  have hh := (h1.symm.trans hg).trans h2
  have up := top_is ok a.ac a.no hh
  have dn := top_is ok b.ac b.no hh.symm
  refine hh.same_of ok fun x y x0 x1 y0 y1 => ?_
  have u1 := up x x0 x1
  have u2 := up y y0 y1
  have d1 := dn x x0 x1
  have d2 := dn y y0 y1
  omega
end
/-! ### signings drawn -/
theorem acy_ix {n : Int} {ps : List (Int × Int)} {os : List Int} (ho : os.Perm (rn n)) (ok : ∀ p ∈ ps, okS n p) : Acy ps (ps.map fun p => decide (ix os p.1 < ix os p.2)) := by
  have lo : os.length = n.toNat := by rw [ho.length_eq, rn_len]
  have nd : os.Nodup := ho.nodup_iff.mpr (rn_nodup n)
  have mem : ∀ x, 0 ≤ x → x < n → ix os x ∈ os := fun x x0 x1 => by
    unfold ix
    rw [List.getD_eq_getElem?_getD, List.getElem?_eq_getElem (show x.toNat < os.length by omega)]
    exact List.getElem_mem _
  have inj : ∀ x y, 0 ≤ x → x < n → 0 ≤ y → y < n → ix os x = ix os y → x = y := fun x y x0 x1 y0 y1 e => by
    unfold ix at e
    rw [List.getD_eq_getElem?_getD, List.getD_eq_getElem?_getD, List.getElem?_eq_getElem (show x.toNat < os.length by omega), List.getElem?_eq_getElem (show y.toNat < os.length by omega)] at e
    have e : os[x.toNat]'(by omega) = os[y.toNat]'(by omega) := e
    have pw := List.pairwise_iff_getElem.mp nd
    rcases Nat.lt_trichotomy x.toNat y.toNat with g | g | g
    · exact absurd e (pw x.toNat y.toNat (by omega) (by omega) g)
    · omega
    · exact absurd e.symm (pw y.toNat x.toNat (by omega) (by omega) g)
  refine ⟨ix os, n.toNat + 1, fun x => ?_, fun q hq => ?_⟩
  · unfold ix
    rw [List.getD_eq_getElem?_getD]
    by_cases h : x.toNat < os.length
    · rw [List.getElem?_eq_getElem h]
      have := (mem_rn.mp (ho.mem_iff.mp (List.getElem_mem h))).2
      show os[x.toNat] < _
      omega
    · rw [List.getElem?_eq_none (by omega)]
      show (0 : Int) < _
      omega
  · obtain ⟨i, p, b, hp, hb, e⟩ := ars_mem hq
    rw [List.getElem?_map, hp] at hb
    have eb : decide (ix os p.1 < ix os p.2) = b := Option.some.inj hb
    obtain ⟨o0, o1, o2⟩ := ok p (List.mem_of_getElem? hp)
    subst e
    by_cases c : ix os p.1 < ix os p.2
    · rw [decide_eq_true c] at eb
      subst eb
      exact c
    · rw [decide_eq_false c] at eb
      subst eb
      show ix os p.2 < ix os p.1
      have : ix os p.1 ≠ ix os p.2 := fun e => by
        have := inj p.1 p.2 o0 (by omega) (by omega) o2 e
        omega
      omega
/-! ### ties that hang together, drawn -/
theorem near_tree {n : Int} {ps : List (Int × Int)} {os : List Int} {cs : List Int} (ho : os.Perm (rn n)) (n1 : n ≤ 10)
    (hc : ∀ k : Nat, 1 ≤ k → k < n.toNat → ∃ c, 0 ≤ c ∧ c < (k : Int) ∧ cal os (c, (k : Int)) ∈ ps) : Near n ps := by
  intro f hf x y x0 x1 y0 y1
  have lo : os.length = n.toNat := by rw [ho.length_eq, rn_len]
  have key : ∀ k : Nat, k < n.toNat → f (ix os k) - f (ix os 0) ≤ k ∧ f (ix os 0) - f (ix os k) ≤ k := by
    intro k
    induction k using Nat.strongRecOn with
    | _ k ih =>
      intro hk
      by_cases z : k = 0
      · subst z
        show f (ix os 0) - f (ix os 0) ≤ 0 ∧ f (ix os 0) - f (ix os 0) ≤ 0
        omega
      · obtain ⟨c, c0, c1, hm⟩ := hc k (by omega) hk
        obtain ⟨d, rfl⟩ := Int.eq_ofNat_of_zero_le c0
        have i := ih d (by omega) (by omega)
        have l := hf _ hm
        unfold cal mn mx at l
        simp only at l
        by_cases g : ix os (k : Int) < ix os (d : Int)
        · rw [if_pos g, if_neg (by omega)] at l
          omega
        · rw [if_neg g] at l
          by_cases g2 : ix os (k : Int) > ix os (d : Int)
          · rw [if_pos g2] at l
            omega
          · have : ix os (k : Int) = ix os (d : Int) := by omega
            rw [this]
            omega
  have at_ : ∀ x, 0 ≤ x → x < n → ∃ k : Nat, k < n.toNat ∧ ix os (k : Int) = x := fun x x0 x1 => by
    obtain ⟨i, hi⟩ := List.mem_iff_getElem?.mp (ho.mem_iff.mpr (mem_rn.mpr ⟨x0, x1⟩))
    have li := (List.getElem?_eq_some_iff.mp hi).1
    refine ⟨i, by omega, ?_⟩
    unfold ix
    rw [Int.toNat_natCast, List.getD_eq_getElem?_getD, hi]
    rfl
  obtain ⟨i, hi, ei⟩ := at_ x x0 x1
  obtain ⟨j, hj, ej⟩ := at_ y y0 y1
  have a := key i hi
  have b := key j hj
  rw [ei] at a
  rw [ej] at b
  omega
theorem Near.mono {n : Int} {ps qs : List (Int × Int)} (h : Near n ps) (e : ∀ p ∈ ps, p ∈ qs) : Near n qs := fun f hf => h f fun p hp => hf p (e p hp)
/-! ### arcs struck -/
def stk (G : List (Int × Int)) : List (Int × Int) := G.filter fun q => decide (q.1 ∈ G.map fun q => q.2)
def bgs (n : Int) (G : List (Int × Int)) : List Int := (rn n).filter fun x => decide (x ∈ G.map fun q => q.1)
theorem stk_sub {G : List (Int × Int)} {q : Int × Int} (h : q ∈ stk G) : q ∈ G := (List.mem_filter.mp h).1
theorem stk_lt {n : Int} {ps : List (Int × Int)} {s : List Bool} {G : List (Int × Int)} (ok : ∀ p ∈ ps, okS n p) (ac : Acy ps s) (sub : ∀ q ∈ G, q ∈ ars ps s) (ne : G ≠ []) : (bgs n (stk G)).length < (bgs n G).length := by
  obtain ⟨r, B, hB, hr⟩ := ac
  have rng : ∀ q ∈ G, 0 ≤ q.1 ∧ q.1 < n := fun q hq => by
    obtain ⟨i, p, b, hp, hb, e⟩ := ars_mem (sub q hq)
    have := ar_rng (b := b) (ok p (List.mem_of_getElem? hp))
    rw [← e] at this
    exact this.1
  obtain ⟨x, hx, q⟩ := min_ex r (L := G.map fun q => q.1) fun e => ne (List.map_eq_nil_iff.mp e)
  obtain ⟨c, hc, ec⟩ := List.mem_map.mp hx
  have no : x ∉ (stk G).map fun q => q.1 := fun z => by
    obtain ⟨d, hd, ed⟩ := List.mem_map.mp z
    have h2 := of_decide_eq_true (List.mem_filter.mp hd).2
    obtain ⟨e, he, ee⟩ := List.mem_map.mp h2
    have a := hr e (sub e he)
    have b := q e.1 (List.mem_map.mpr ⟨e, he, rfl⟩)
    have ee : e.2 = d.1 := ee
    have ed : d.1 = x := ed
    rw [ee, ed] at a
    omega
  have e : bgs n (stk G) = (bgs n G).filter fun x => decide (x ∈ (stk G).map fun q => q.1) := by
    unfold bgs
    rw [List.filter_filter]
    refine List.filter_congr fun y hy => ?_
    by_cases g : y ∈ (stk G).map fun q => q.1
    · have : y ∈ G.map fun q => q.1 := by
        obtain ⟨d, hd, ed⟩ := List.mem_map.mp g
        exact List.mem_map.mpr ⟨d, stk_sub hd, ed⟩
      rw [decide_eq_true g, decide_eq_true this]
      rfl
    · rw [decide_eq_false g]
      rfl
  rw [e]
  refine List.length_filter_lt_length_iff_exists.mpr ⟨x, ?_, fun z => no (of_decide_eq_true z)⟩
  have rc := rng c hc
  have ec : c.1 = x := ec
  rw [ec] at rc
  exact List.mem_filter.mpr ⟨mem_rn.mpr rc, decide_eq_true hx⟩
end K42
set_option Elab.async false
set_option linter.all false
set_option maxRecDepth 100000
set_option maxHeartbeats 4000000
/-! Ties and signings drawn. -/
namespace K42
open PySem L2 Rl
def PrOk (H : Hp) (G : Int × Int → Prop) (v : V) : Prop := ∃ (a : Addr) (p : Int × Int), v = .ref a ∧ H a = some (.tup [.int p.1, .int p.2]) ∧ G p
def AllOk (H : Hp) (G : Int × Int → Prop) (vs : List V) : Prop := ∀ v ∈ vs, PrOk H G v
theorem PrOk.mono {H H' : Hp} {G : Int × Int → Prop} {v : V} (e : ∀ a x y, H a = some (.tup [x, y]) → H' a = some (.tup [x, y])) (h : PrOk H G v) : PrOk H' G v := by
  obtain ⟨a, p, ev, ha, hp⟩ := h
  exact ⟨a, p, ev, e _ _ _ ha, hp⟩
theorem AllOk.mono {H H' : Hp} {G : Int × Int → Prop} {vs : List V} (e : ∀ a x y, H a = some (.tup [x, y]) → H' a = some (.tup [x, y])) (h : AllOk H G vs) : AllOk H' G vs := fun v hv => (h v hv).mono e
theorem tup_same {H H' : Hp} (s : Same H H') : ∀ a x y, H a = some (.tup [x, y]) → H' a = some (.tup [x, y]) := fun _ _ _ h => s _ _ h
theorem tup_kp {H H' : Hp} {h c : Addr} (hd : HandAt H h c) (k : Kp h H H') : ∀ a x y, H a = some (.tup [x, y]) → H' a = some (.tup [x, y]) := fun a x y q => by
  obtain ⟨cs, i, b, m, n, h1, _⟩ := hd.ex
  exact k _ _ (ne_of q h1 (by intro z; cases z)) q
theorem tup_upd {H : Hp} {D : Addr} {l : List V} {o : HO} (hD : H D = some (.lst l)) : ∀ a x y, H a = some (.tup [x, y]) → (upd H D o) a = some (.tup [x, y]) := fun a x y q => by
  rw [upd_ne (ne_of q hD (by intro z; cases z))]
  exact q
theorem AllOk.nil {H : Hp} {G : Int × Int → Prop} : AllOk H G [] := fun _ h => nomatch h
theorem AllOk.app {H : Hp} {G : Int × Int → Prop} {vs ws : List V} (a : AllOk H G vs) (b : AllOk H G ws) : AllOk H G (vs ++ ws) := fun v h => (List.mem_append.mp h).elim (a v) (b v)
theorem AllOk.one {H : Hp} {G : Int × Int → Prop} {v : V} (a : PrOk H G v) : AllOk H G [v] := fun x h => by
  rw [List.mem_singleton.mp h]
  exact a
theorem AllOk.prs {H : Hp} {G : Int × Int → Prop} : ∀ {vs : List V}, AllOk H G vs → ∃ ps, PrsAt H vs ps ∧ ∀ p ∈ ps, G p
  | [], _ => ⟨[], .nil, fun _ h => nomatch h⟩
  | v :: r, h => by
    obtain ⟨ps, h1, h2⟩ := AllOk.prs (vs := r) fun x hx => h x (List.mem_cons_of_mem _ hx)
    obtain ⟨a, p, ev, ha, hp⟩ := h v List.mem_cons_self
    exact ⟨p :: ps, .cons ⟨a, ev, ha⟩ h1, fun q hq => (List.mem_cons.mp hq).elim (fun e => e ▸ hp) (h2 q)⟩
theorem HandAt.upd {H : Hp} {h c D : Addr} {o : HO} (hd : HandAt H h c) (nh : D ≠ h) (nc : D ≠ c) : HandAt (upd H D o) h c := by
  obtain ⟨cs, i, b, m, n, h1, h2, h3⟩ := hd.ex
  exact ⟨cs, i, b, m, n, by rw [upd_ne nh.symm]; exact h1, by rw [upd_ne nc.symm]; exact h2, h3⟩
theorem Kp.mut {h D : Addr} {H H' : Hp} {o : HO} (k : Kp h H H') (nD : H D = none) : Kp h H (L2.upd H' D o) := fun b u nb hb => by
  rw [upd_ne (ne_of_none hb nD)]
  exact k _ _ nb hb
theorem HandAt.ne {H : Hp} {h c D : Addr} (hd : HandAt H h c) (nD : H D = none) : D ≠ h ∧ D ≠ c := by
  obtain ⟨cs, i, b, m, n, h1, h2, _⟩ := hd.ex
  exact ⟨(ne_of_none h1 nD).symm, (ne_of_none h2 nD).symm⟩
theorem Kp.none {h c D : Addr} {H H' : Hp} (k : Kp h H H') (hd : HandAt H' h c) (nD : H' D = none) : H D = none := by
  cases e : H D with
  | none => rfl
  | some o =>
    rw [k _ _ (hd.ne nD).1 e] at nD
    cases nD
theorem HandAt.lst {H : Hp} {h c : Addr} (hd : HandAt H h c) : ∃ l, H h = some (.lst l) := by
  obtain ⟨cs, i, b, m, n, h1, _⟩ := hd.ex
  exact ⟨_, h1⟩
theorem HandAt.tne {H : Hp} {h c a : Addr} {xs : List V} (hd : HandAt H h c) (ha : H a = some (.tup xs)) : a ≠ h := by
  obtain ⟨l, hl⟩ := hd.lst
  exact ne_of ha hl (by intro z; cases z)
theorem TiesAt.kp {H H' : Hp} {h c t : Addr} {ps : List (Int × Int)} (hd : HandAt H h c) (k : Kp h H H') (a : TiesAt H t ps) : TiesAt H' t ps := by
  obtain ⟨vs, h1, h2⟩ := a
  exact ⟨vs, k _ _ (hd.tne h1) h1, h2.mono (tup_kp hd k)⟩
theorem seq_nat {j m : Nat} (h : j < m) : seqIndex? (j : Int) m = some j := by
  unfold seqIndex?
  have e : (if ((j : Int)) < 0 then (j : Int) + (m : Int) else (j : Int)) = (j : Int) := if_neg (by omega)
  simp only [e]
  rw [decide_eq_true (show (0 : Int) ≤ (j : Int) by omega), decide_eq_true (show (j : Int) < (m : Int) by omega)]
  rfl
theorem perm_ints {ys : List V} {l : List Int} (h : ys.Perm (l.map V.int)) : ∃ os : List Int, ys = os.map V.int ∧ os.Perm l := by
  let f : V → Int := fun v => match v with | .int k => k | _ => 0
  refine ⟨ys.map f, ?_, ?_⟩
  · rw [List.map_map]
    conv => lhs; rw [← List.map_id ys]
    refine List.map_congr_left fun v hv => ?_
    obtain ⟨k, _, e⟩ := List.mem_map.mp (h.mem_iff.mp hv)
    subst e
    rfl
  · have := h.map f
    rw [List.map_map] at this
    have e : (f ∘ V.int) = id := rfl
    rw [e, List.map_id] at this
    exact this
theorem erase_perm {α : Type} : ∀ {l : List α} {j : Nat} (h : j < l.length), (l[j] :: l.eraseIdx j).Perm l
  | a :: r, 0, _ => .refl _
  | a :: r, j + 1, h => by
    have ih := erase_perm (l := r) (j := j) (Nat.lt_of_succ_lt_succ h)
    show ((r[j]'(Nat.lt_of_succ_lt_succ h)) :: a :: r.eraseIdx j).Perm (a :: r)
    exact (List.Perm.swap a (r[j]'(Nat.lt_of_succ_lt_succ h)) (r.eraseIdx j)).trans (.cons a ih)
def spMixed : Sp := fun vs H Q _ => ∃ (h c L : Addr) (xs : List V), vs = [.ref h, .ref L] ∧ HandAt H h c ∧ H L = some (.lst xs) ∧ L ≠ h ∧ xs.length < 1000 ∧
  ∀ R ys H', Kp h H H' → HandAt H' h c → H R = none → H' R = some (.lst ys) → ys.Perm xs → Q (.ref R) H'
theorem SgAt.kp {H H' : Hp} {h c a : Addr} {s : List Bool} (hd : HandAt H h c) (k : Kp h H H') (p : SgAt H a s) : SgAt H' a s := k _ _ (hd.tne p) p
theorem mxn {a b : Int} : (mn a b = a ∧ mx a b = b) ∨ (mn a b = b ∧ mx a b = a) := by
  unfold mn mx
  split <;> split <;> omega
theorem okS_mn {n a b : Int} (a0 : 0 ≤ a) (a1 : a < n) (b0 : 0 ≤ b) (b1 : b < n) (h : a ≠ b) : okS n (mn a b, mx a b) := by
  unfold okS mn mx
  dsimp only
  split <;> split <;> omega
def spLTies : Sp := fun vs H Q _ => ∃ (h c : Addr) (n m : Int), vs = [.ref h, .int n, .int m] ∧ HandAt H h c ∧ 1 ≤ n ∧ n ≤ 10 ∧ 0 ≤ m ∧ m ≤ 16 ∧
  ∀ t ps H', Kp h H H' → HandAt H' h c → TiesAt H' t ps → (ps.length : Int) ≤ m → (∀ p ∈ ps, okS n p) → Q (.ref t) H'
def spWhole : Sp := fun vs H Q _ => ∃ (h c : Addr) (n m : Int), vs = [.ref h, .int n, .int m] ∧ HandAt H h c ∧ 1 ≤ n ∧ n ≤ 10 ∧ n ≤ m ∧ m ≤ 16 ∧
  ∀ t ps H', Kp h H H' → HandAt H' h c → TiesAt H' t ps → ps.length ≤ 16 → (∀ p ∈ ps, okS n p) → Near n ps → Q (.ref t) H'
def spSigning : Sp := fun vs H Q _ => ∃ (h c t : Addr) (n : Int) (ps : List (Int × Int)), vs = [.ref h, .int n, .ref t] ∧ HandAt H h c ∧ TiesAt H t ps ∧ 1 ≤ n ∧ n ≤ 10 ∧ ps.length ≤ 16 ∧ (∀ p ∈ ps, okS n p) ∧
  ∀ u s H', Kp h H H' → HandAt H' h c → SgAt H' u s → s.length = ps.length → Acy ps s → Q (.ref u) H'
section
variable {P : Program} {w : World} {K : PySem.W.Frag} {mg : Str → Option Value} {base : Heap}
theorem ok_l_mixed (T : Tx K mg) : FnOk P w K mg base CX0 2 T.f_l_mixed T.d_l_mixed ["hand", "things"] spMixed := by
  refine T.F_l_mixed.ok sc_l_mixed (fun vs H Q E h => ?_) (fun cdv A outer s H vs Q E hr h => ?_)
  · obtain ⟨h, c, L, xs, rfl, _⟩ := h
    rfl
  obtain ⟨h, c, L, xs, rfl, hd, hL, Lh, lx, q⟩ := h
  refine ⟨_, (pss_cons (ps_par (i := 2) (j := 3) rfl sc_l_mixed.nd rfl rfl (by decide) rfl rfl (pa_cons (pe_callTy call_list_of (by rfl) T.g_list (by decide +kernel) (pa_cons (pv 1) pa_nil)) (pa_cons (pe_lst pa_nil) pa_nil)) (by rfl))
    (pss_cons (ps_for PassesOwn.never rfl (pi_range1 (by rfl) T.g_range (pa_cons (pe_callB call_len_seq (by rfl) T.g_len PySem.boot_len (pa_cons (pv 1) pa_nil)) pa_nil)) (pg_name (i := 4) sc_l_mixed.nd rfl (.inl rfl))
      (pss_one (ps_expr (pe_bm PySem.F.plainAttrs_list PySem.F.slot_list_append PySem.F.type_list_append mt_append (pv 3) (pa_cons (pe_bm PySem.F.plainAttrs_list PySem.F.slot_list_pop PySem.F.type_list_pop mt_popAt (pv 2) (pa_cons (pe_call (ok_l_draw T) (hr.mono (by decide)) (by rfl) T.m_l_draw T.F_l_draw.kp T.b_l_draw .nil pass0 (pa_cons (pv 0) (pa_cons (pe_callB call_len_seq (by rfl) T.g_len PySem.boot_len (pa_cons (pv 2) pa_nil)) pa_nil))) pa_nil)) pa_nil)))))
    (pss_one (ps_ret (pv 3))))), ?_⟩
  refine ⟨_, rfl, L, xs, rfl, .inl (SqL.of hL), fun A nA => ⟨(by show 0 ≤ sizeLine; decide), fun F nF => ⟨_, _, rfl, ?_⟩⟩⟩
  have s1 : Same H (L2.upd H A (.lst xs)) := same_new nA _
  have hA1 : (L2.upd H A (.lst xs)) A = some (.lst xs) := upd_same
  have Ah := hd.ne nA
  have nHF : H F = none := s1.free nF
  have Fh := hd.ne nHF
  have AF : A ≠ F := ne_of_none hA1 nF
  have s2 := s1.trans (same_new nF (.lst []))
  have hA2 := same_new nF (.lst []) _ _ hA1
  have hF2 : (L2.upd (L2.upd H A (.lst xs)) F (.lst [])) F = some (.lst []) := upd_same
  generalize L2.upd (L2.upd H A (.lst xs)) F (.lst []) = H2 at *
  refine ⟨_, rfl, L, xs, rfl, .inl (SqL.of (s2 _ _ hL)), _, rfl, by omega, by omega, ?_⟩
  refine for_range (lo := 0) (n := (((xs.length : Nat) : Int)).toNat) (fun i σ H' => ∃ ls fs y4, σ = [some (.ref h), some (.ref L), some (.ref A), some (.ref F), y4] ∧ Kp h H H' ∧ HandAt H' h c ∧ H' A = some (.lst ls) ∧ H' F = some (.lst fs) ∧ (fs ++ ls).Perm xs ∧ fs.length = i)
    ⟨xs, [], none, rfl, Same.kp s2, hd.same s2, hA2, hF2, .refl _, rfl⟩ ?_ ?_
  · intro i σ H' hi ⟨ls, fs, y4, e, kk, hd', hA, hF, pe, lf⟩
    subst e
    have ll : fs.length + ls.length = xs.length := by
      have := pe.length_eq
      rw [List.length_append] at this
      exact this
    refine ⟨_, rfl, .inl ⟨rfl, _, SqL.of hF⟩, _, rfl, .inl ⟨rfl, _, SqL.of hA⟩, _, rfl, _, rfl, A, _, rfl, .inl (SqL.of hA), h, c, _, rfl, by omega, by omega, hd', fun d H3 d0 d1 k3 hd3 => ?_⟩
    obtain ⟨j, rfl⟩ := Int.eq_ofNat_of_zero_le d0
    have lj : j < ls.length := by omega
    have hA3 := k3 _ _ Ah.1 hA
    have hF3 := k3 _ _ Fh.1 hF
    refine ⟨A, ls, _, j, ls[j], rfl, rfl, hA3, by omega, by omega, seq_nat lj, List.getElem?_eq_getElem lj, F, fs, _, rfl, rfl, ?_, small1000 (by omega), ?_⟩
    · rw [upd_ne AF.symm]
      exact hF3
    · refine ⟨ls.eraseIdx j, fs ++ [ls[j]], _, rfl, ((kk.trans k3).mut nA).mut nHF, (hd3.upd Ah.1 Ah.2).upd Fh.1 Fh.2, ?_, upd_same, ?_, by rw [List.length_append, lf]; rfl⟩
      · rw [upd_ne AF]
        exact upd_same
      · refine .trans ?_ pe
        rw [List.append_assoc]
        exact .append_left fs (erase_perm lj)
  · intro σ H' ⟨ls, fs, y4, e, kk, hd', hA, hF, pe, lf⟩
    subst e
    have ll : fs.length + ls.length = xs.length := by
      have := pe.length_eq
      rw [List.length_append] at this
      exact this
    have el : ls = [] := List.eq_nil_of_length_eq_zero (by omega)
    subst el
    rw [List.append_nil] at pe
    exact ⟨_, rfl, q F fs H' kk hd' nHF hF pe⟩
theorem ok_l_ties (T : Tx K mg) : FnOk P w K mg base CX0 3 T.f_l_ties T.d_l_ties ["hand", "many", "most"] spLTies := by
  refine T.F_l_ties.ok sc_l_ties (fun vs H Q E h => ?_) (fun cdv A outer s H vs Q E hr h => ?_)
  · obtain ⟨h, c, n, m, rfl, _⟩ := h
    rfl
  obtain ⟨h, c, n, m, rfl, hd, n1, n2, m0, m1, q⟩ := h
  refine ⟨_, (pss_cons (ps_set (i := 3) sc_l_ties.nd rfl (.inl rfl) (pe_lst pa_nil))
    (pss_cons (ps_for PassesOwn.never rfl (pi_range1 (by rfl) T.g_range (pa_cons (pe_ifExp (pt_cmpR op_gt (pv 1) pe_int (nomark _)) (pe_call (ok_l_draw T) (hr.mono (by decide)) (by rfl) T.m_l_draw T.F_l_draw.kp T.b_l_draw .nil pass0 (pa_cons (pv 0) (pa_cons (pe_op op_add (pv 2) pe_int) pa_nil))) pe_int) pa_nil)) (pg_name (i := 4) sc_l_ties.nd rfl (.inl rfl))
      (pss_cons (ps_set (i := 5) sc_l_ties.nd rfl (.inl rfl) (pe_call (ok_l_draw T) (hr.mono (by decide)) (by rfl) T.m_l_draw T.F_l_draw.kp T.b_l_draw .nil pass0 (pa_cons (pv 0) (pa_cons (pv 1) pa_nil))))
        (pss_cons (ps_set (i := 6) sc_l_ties.nd rfl (.inl rfl) (pe_op op_mod (pe_callTy call_int1 (by rfl) T.g_int (by decide +kernel) (pa_cons (pe_op op_add (pe_op op_add (pv 5) pe_int) (pe_call (ok_l_draw T) (hr.mono (by decide)) (by rfl) T.m_l_draw T.F_l_draw.kp T.b_l_draw .nil pass0 (pa_cons (pv 0) (pa_cons (pe_op op_sub (pv 1) pe_int) pa_nil)))) pa_nil)) (pv 1)))
        (pss_cons (ps_set (i := 7) sc_l_ties.nd rfl (.inl rfl) (pe_tup (pa_cons (pe_callB (call_min2 rfl) (by rfl) T.g_min (by decide +kernel) (pa_cons (pv 5) (pa_cons (pv 6) pa_nil))) (pa_cons (pe_callB (call_max2 rfl) (by rfl) T.g_max (by decide +kernel) (pa_cons (pv 5) (pa_cons (pv 6) pa_nil))) pa_nil))))
        (Evl.pss_cut (ps_if (PW.pt (pw_and (pt_cmpR op_gt (pe_callB call_len_seq (by rfl) T.g_len PySem.boot_len (pa_cons (pv 3) pa_nil)) pe_int (nomark _)) (pw_and1 (pt_cmpR op_eq (pe_call (ok_l_draw T) (hr.mono (by decide)) (by rfl) T.m_l_draw T.F_l_draw.kp T.b_l_draw .nil pass0 (pa_cons (pv 0) (pa_cons pe_int pa_nil))) pe_int (nomark _)))))
          (pss_one (ps_set (i := 7) sc_l_ties.nd rfl (.inl rfl) (pe_call (ok_l_some T) (hr.mono (by decide)) (by rfl) T.m_l_some T.F_l_some.kp T.b_l_some .nil pass0 (pa_cons (pv 0) (pa_cons (pv 3) pa_nil)))))
          pss_nil)
        (pss_one (ps_expr (pe_bm PySem.F.plainAttrs_list PySem.F.slot_list_append PySem.F.type_list_append mt_append (pv 3) (pa_cons (pv 7) pa_nil)))))))))
    (pss_one (ps_ret (pe_callTy call_tuple_of (by rfl) T.g_tuple (by decide +kernel) (pa_cons (pv 3) pa_nil)))))), ?_⟩
  refine ⟨(by show 0 ≤ sizeLine; decide), fun F nF => ?_⟩
  have Fh := hd.ne nF
  have sF := same_new nF (.lst [])
  have hF : (L2.upd H F (.lst [])) F = some (.lst []) := upd_same
  have hd1 := hd.same sF
  have k1 : Kp h H (L2.upd H F (.lst [])) := Same.kp sF
  generalize L2.upd H F (.lst []) = H1 at *
  have fin : ∀ acc H', Kp h H H' → HandAt H' h c → H' F = some (.lst acc) → (acc.length : Int) ≤ m → AllOk H' (okS n) acc → ∀ t, H' t = none → Q (.ref t) (L2.upd H' t (.tup acc)) := fun acc H' kk hdd hFc la pa t nt => by
    have st := same_new nt (.tup acc)
    obtain ⟨ps, pp, po⟩ := AllOk.prs (AllOk.mono (tup_same st) pa)
    have lp := pp.len
    exact q t ps _ (kk.trans (Same.kp st)) (hdd.same st) ⟨acc, upd_same, pp⟩ (by omega) po
  refine ⟨_, rfl, _, 1, rfl, rfl, _, rfl, ite2 (fun e => ?_) (fun e => ?_)⟩
  · have n3 : 1 < n := of_decide_eq_true e
    refine ⟨_, rfl, _, rfl, m, 1, rfl, rfl, h, c, _, rfl, by omega, by omega, hd1, fun tt H2 t0 t1 k2 hd2 => ⟨tt, rfl, by omega, by omega, ?_⟩⟩
    have hF2 := k2 _ _ Fh.1 hF
    refine for_range (lo := 0) (n := tt.toNat) (fun j σ H' => ∃ y4 y5 y6 y7 acc, σ = [some (.ref h), some (.int n), some (.int m), some (.ref F), y4, y5, y6, y7] ∧ Kp h H H' ∧ HandAt H' h c ∧ H' F = some (.lst acc) ∧ acc.length ≤ j ∧ AllOk H' (okS n) acc)
      ⟨_, _, _, _, [], rfl, k1.trans k2, hd2, hF2, Nat.zero_le _, AllOk.nil⟩ ?_ ?_
    · intro j σ H' hj ⟨y4, y5, y6, y7, acc, e, kk, hdd, hFc, la, pa⟩
      subst e
      refine ⟨_, rfl, _, rfl, h, c, n, rfl, by omega, by omega, hdd, fun u H5 u0 u1 k5 hd5 => ?_⟩
      refine ⟨_, rfl, _, 1, rfl, rfl, _, rfl, _, rfl, n, 1, rfl, rfl, h, c, _, rfl, by omega, by omega, hd5, fun v H6 v0 v1 k6 hd6 => ⟨_, _, rfl, rfl, .inl ⟨_, rfl, _, rfl, _, n, rfl, rfl, by omega, ?_⟩⟩⟩
      have hF6 := k6 _ _ Fh.1 (k5 _ _ Fh.1 hFc)
      have pa6 := AllOk.mono (tup_kp hd5 k6) (AllOk.mono (tup_kp hdd k5) pa)
      have kk6 := (kk.trans k5).trans k6
      have xr : 0 ≤ (u + 1 + v) % n ∧ (u + 1 + v) % n < n ∧ u ≠ (u + 1 + v) % n := by
        have r0 := Int.emod_nonneg (u + 1 + v) (show n ≠ 0 by omega)
        have r1 := Int.emod_lt_of_pos (u + 1 + v) (show 0 < n by omega)
        refine ⟨by omega, by omega, ?_⟩
        by_cases g : u + 1 + v < n
        · rw [Int.emod_eq_of_lt (by omega) g]
          omega
        · have : (u + 1 + v) % n = u + 1 + v - n := by
            rw [← Int.sub_emod_right, Int.emod_eq_of_lt (by omega) (by omega)]
          omega
      refine ⟨_, rfl, _, rfl, _, _, rfl, _, rfl, _, rfl, _, _, rfl, (by show 2 ≤ sizeLine; decide), fun S nS => ?_⟩
      have s7 := same_new nS (.tup [.int (mn u ((u + 1 + v) % n)), .int (mx u ((u + 1 + v) % n))])
      have hF7 := s7 _ _ hF6
      have pa7 := AllOk.mono (tup_same s7) pa6
      have pS : PrOk (L2.upd H6 S (.tup [.int (mn u ((u + 1 + v) % n)), .int (mx u ((u + 1 + v) % n))])) (okS n) (.ref S) := ⟨S, (mn u ((u + 1 + v) % n), mx u ((u + 1 + v) % n)), rfl, upd_same, okS_mn u0 u1 xr.1 xr.2.1 xr.2.2⟩
      have hd7 := hd6.same s7
      have kk7 := kk6.trans (Same.kp s7)
      refine ⟨fun σ' H'' => ∃ y, σ' = [some (.ref h), some (.int n), some (.int m), some (.ref F), some (.int (0 + (j : Int))), some (.int u), some (.int ((u + 1 + v) % n)), some y] ∧ Kp h H H'' ∧ HandAt H'' h c ∧ H'' F = some (.lst acc) ∧ AllOk H'' (okS n) acc ∧ PrOk H'' (okS n) y, ?_, ?_⟩
      · refine ⟨_, rfl, F, _, rfl, .inl (SqL.of hF7), _, 0, rfl, rfl, _, rfl, ite2 (fun e => ?_) (fun e => ?_)⟩
        · have pos : 0 < acc.length := by
            have : ((acc.length : Nat) : Int) > 0 := of_decide_eq_true e
            omega
          refine ⟨_, rfl, h, c, _, rfl, by omega, by omega, hd7, fun z H8 z0 z1 k8 hd8 => ⟨rfl, _, rfl, ite2 (fun e3 => ?_) (fun e3 => ?_)⟩⟩
          · have hF8 := k8 _ _ Fh.1 hF7
            refine ⟨_, rfl, _, rfl, h, c, F, acc, rfl, .inl (SqL.of hF8), Fh.1, pos, by omega, hd8, fun y H9 hy k9 hd9 => ?_⟩
            have pa9 := AllOk.mono (tup_kp hd8 k9) (AllOk.mono (tup_kp hd7 k8) pa7)
            exact ⟨y, rfl, (kk7.trans k8).trans k9, hd9, k9 _ _ Fh.1 hF8, pa9, pa9 y hy⟩
          · exact ⟨_, rfl, kk7.trans k8, hd8, k8 _ _ Fh.1 hF7, AllOk.mono (tup_kp hd7 k8) pa7, PrOk.mono (tup_kp hd7 k8) pS⟩
        · exact ⟨_, rfl, kk7, hd7, hF7, pa7, pS⟩
      · clear hFc pa hF6 pa6 kk6 hd6 hd5 kk hdd hF7 pa7 pS hd7 kk7 s7
        intro σ' H7 ⟨y, e, kk, hdd, hFc, pa, py⟩
        subst e
        refine ⟨_, rfl, .inl ⟨rfl, _, SqL.of hFc⟩, _, rfl, F, acc, _, rfl, rfl, hFc, small1000 (by omega), ?_⟩
        exact ⟨_, _, _, _, acc ++ [y], rfl, kk.mut nF, hdd.upd Fh.1 Fh.2, upd_same, by rw [List.length_append]; show acc.length + 1 ≤ _; omega, AllOk.mono (tup_upd hFc) (AllOk.app pa (AllOk.one py))⟩
    · intro σ H5 ⟨y4, y5, y6, y7, acc, e, kk, hdd, hFc, la, pa⟩
      subst e
      exact ⟨_, rfl, F, acc, rfl, .inl ⟨SqL.of hFc, fun t nt => fin acc H5 kk hdd hFc (by omega) pa t nt⟩⟩
  · refine ⟨0, rfl, by omega, by omega, ?_⟩
    refine for_range (lo := 0) (n := (0 : Int).toNat) (fun i σ H' => ∃ y4 y5 y6 y7, σ = [some (.ref h), some (.int n), some (.int m), some (.ref F), y4, y5, y6, y7] ∧ H' = H1) ⟨_, _, _, _, rfl, rfl⟩ (fun i σ H' hi => absurd hi (Nat.not_lt_zero i)) ?_
    intro σ H5 ⟨y4, y5, y6, y7, e, eH⟩
    subst e eH
    exact ⟨_, rfl, F, [], rfl, .inl ⟨SqL.of hF, fun t nt => fin [] _ k1 hd1 hF (by show ((0 : Nat) : Int) ≤ m; omega) AllOk.nil t nt⟩⟩
end
end K42
set_option Elab.async false
set_option linter.all false
set_option maxRecDepth 100000
set_option maxHeartbeats 8000000
/-! Ties that hang together, drawn; signings drawn. -/
namespace K42
open PySem L2 Rl
theorem PrsAt.kp {H H' : Hp} {h c : Addr} {vs : List V} {ps : List (Int × Int)} (hd : HandAt H h c) (k : Kp h H H') (p : PrsAt H vs ps) : PrsAt H' vs ps := p.mono (tup_kp hd k)
theorem PrsAt.all {H : Hp} {G : Int × Int → Prop} : ∀ {vs : List V} {ps : List (Int × Int)}, PrsAt H vs ps → (∀ p ∈ ps, G p) → AllOk H G vs
  | _, _, .nil, _ => AllOk.nil
  | _, _, .cons (a := v) (b := p) ⟨a, e, ha⟩ r, h => fun x hx => by
    rcases List.mem_cons.mp hx with z | z
    · subst z
      exact ⟨a, p, e, ha, h p List.mem_cons_self⟩
    · exact PrsAt.all r (fun q hq => h q (List.mem_cons_of_mem _ hq)) x z
/-- which pair an address holds -/
theorem prs_find {H : Hp} : ∀ {vs : List V} {ps : List (Int × Int)} {p : Int × Int}, PrsAt H vs ps → p ∈ ps → ∃ a, V.ref a ∈ vs ∧ H a = some (.tup [.int p.1, .int p.2])
  | _, _, _, .nil, h => nomatch h
  | _, _, p, .cons (a := v) (b := p') ⟨a, e, ha⟩ r, h => by
    rcases List.mem_cons.mp h with z | z
    · subst z
      exact ⟨a, by rw [e]; exact List.mem_cons_self, ha⟩
    · obtain ⟨b, hb, hc⟩ := prs_find r z
      exact ⟨b, List.mem_cons_of_mem _ hb, hc⟩
theorem prs_mem {H : Hp} : ∀ {vs : List V} {ps : List (Int × Int)} {p : Int × Int} {a : Addr}, PrsAt H vs ps → V.ref a ∈ vs → H a = some (.tup [.int p.1, .int p.2]) → p ∈ ps
  | _, _, _, _, .nil, h, _ => nomatch h
  | _, _, p, a, .cons (a := v) (b := p') ⟨b, e, hb⟩ r, h, ha => by
    rcases List.mem_cons.mp h with z | z
    · rw [e] at z
      cases z
      rw [ha] at hb
      have e0 : [V.int p.1, V.int p.2] = [V.int p'.1, V.int p'.2] := HO.tup.inj (Option.some.inj hb)
      have e1 : p.1 = p'.1 := V.int.inj (List.cons.inj e0).1
      have e2 : p.2 = p'.2 := V.int.inj (List.cons.inj (List.cons.inj e0).2).1
      have : p = p' := Prod.ext e1 e2
      rw [this]
      exact List.mem_cons_self
    · exact List.mem_cons_of_mem _ (prs_mem r z ha)
theorem set_ok {H : Hp} {G : Int × Int → Prop} {ws : List V} {y : V} {i : Nat} (a : AllOk H G ws) (b : PrOk H G y) : AllOk H G (ws.set i y) := fun v hv => by
  rcases List.mem_or_eq_of_mem_set hv with h | h
  · exact a v h
  · rw [h]
    exact b
section
variable {P : Program} {w : World} {K : PySem.W.Frag} {mg : Str → Option Value} {base : Heap}
theorem ok_l_signing (T : Tx K mg) : FnOk P w K mg base CX0 3 T.f_l_signing T.d_l_signing ["hand", "many", "ties"] spSigning := by
  refine T.F_l_signing.ok sc_l_signing (fun vs H Q E h => ?_) (fun cdv A outer s H vs Q E hr h => ?_)
  · obtain ⟨h, c, t, n, ps, rfl, _⟩ := h
    rfl
  obtain ⟨h, c, t, n, ps, rfl, hd, ht, n0, n1, l16, ok, q⟩ := h
  refine ⟨_, (pss_cons (ps_set (i := 3) sc_l_signing.nd rfl (.inr rfl) (pe_call (ok_l_mixed T) (hr.mono (by decide)) (by rfl) T.m_l_mixed T.F_l_mixed.kp T.b_l_mixed .nil pass0 (pa_cons (pv 0) (pa_cons (pe_listRg rfl (by rfl) T.g_list (prg_1 (by rfl) T.g_range (pv 1))) pa_nil))))
    (pss_one (ps_ret (pe_callTy call_tuple_of (by rfl) T.g_tuple (by decide +kernel) (pa_cons (pe_lc (own := [("u", 4), ("v", 5)]) (g := (gTup K 2 (gCons (gName 4) (gCons (gName 5) gNil)))) (tt := tYes) (te := (tOp _ (tOp (rIxL K) (tVar 3) (tVar 4)) (tOp (rIxL K) (tVar 3) (tVar 5)))) rfl sc_l_signing.nd (pi_tup (pv 2)) (blkOk_by (own := [("u", 4), ("v", 5)]) (N := N_l_signing) (sc := defScope s_l_signing) (by decide +kernel)) (fun _ _ _ _ _ => (pg_tup rfl (pgs_cons (pg_name (i := 4) sc_l_signing.nd rfl (.inl rfl)) (pgs_cons (pg_name (i := 5) sc_l_signing.nd rfl (.inl rfl)) pgs_nil)))) (fun _ _ _ _ _ => pts_nil) (fun _ _ _ _ _ => (pe_cmpR op_lt (pe_ix ix_list (pv 3) (pv 4) (fun _ _ => rfl)) (pe_ix ix_list (pv 3) (pv 5) (fun _ _ => rfl)) (nomark _)))) pa_nil))))), ?_⟩
  refine ⟨_, rfl, _, rfl, n, rfl, RgOk.of_le (by decide) (by omega) (by decide) (by omega), fun D nD => ?_⟩
  rw [rg_rn]
  have sD := same_new nD (.lst ((rn n).map V.int))
  have Dh := hd.ne nD
  refine ⟨h, c, D, _, rfl, hd.same sD, upd_same, Dh.1, ?_, fun R ys H1 k1 hd1 nR hR pe => ?_⟩
  · rw [List.length_map, rn_len]
    omega
  obtain ⟨os, eo, po⟩ := perm_ints pe
  subst eo
  have lo : os.length = n.toNat := by rw [po.length_eq, rn_len]
  have k01 : Kp h H H1 := (Same.kp sD).trans k1
  obtain ⟨vs, htv, hv⟩ := TiesAt.kp hd k01 ht
  have lv := hv.len
  refine ⟨_, rfl, t, rfl, ⟨_, SqT.of htv⟩, fun Z nZ => lc_tup (xs := vs) (fun i H' => Same H1 H' ∧ H' Z = some (.lst (bV ((ps.map fun p => decide (ix os p.1 < ix os p.2)).take i)))) ⟨same_new nZ _, upd_same⟩ (fun i H' _ ⟨sm, _⟩ => SqT.of (sm _ _ htv)) ?_ ?_⟩
  · intro i z H' hi ⟨sm, hZ⟩
    obtain ⟨p, a, hp, ez, ha⟩ := (hv.same sm).get hi
    subst ez
    have hR' := sm _ _ hR
    obtain ⟨o0, o1, o2⟩ := ok p (List.mem_of_getElem? hp)
    refine ⟨a, _, rfl, SqT.of ha, rfl, _, _, rfl, _, _, rfl, rfl, rfl, ?_⟩
    refine ⟨_, rfl, _, rfl, R, _, _, _, rfl, rfl, SqL.of hR', ix_at o0 (by omega), _, rfl, _, rfl, R, _, _, _, rfl, rfl, SqL.of hR', ix_at (by omega) (by omega), ?_⟩
    refine ⟨_, _, rfl, rfl, _, hZ, small1000 ?_, fun o u ho => ?_, ?_⟩
    · rw [bV_len, List.length_take]
      have := (List.getElem?_eq_some_iff.mp hp).1
      omega
    · rw [upd_ne (ne_of_none ho nZ)]
      exact sm _ _ ho
    · have e : (ps.map fun p => decide (ix os p.1 < ix os p.2))[i]? = some (decide (ix os p.1 < ix os p.2)) := by
        rw [List.getElem?_map, hp]
        rfl
      rw [upd_same, take_snoc e]
      unfold bV
      rw [List.map_append]
      rfl
  · intro H' ⟨sm, hZ⟩
    rw [List.take_of_length_le (by rw [List.length_map]; omega)] at hZ
    refine ⟨Z, _, rfl, .inl ⟨SqL.of hZ, fun u nu => ?_⟩⟩
    have su := sm.trans (same_new nu (.tup (bV (ps.map fun p => decide (ix os p.1 < ix os p.2)))))
    exact q u _ _ (k01.trans (Same.kp su)) (hd1.same su) upd_same (List.length_map _) (acy_ix po ok)
theorem ok_l_whole_ties (T : Tx K mg) : FnOk P w K mg base CX0 4 T.f_l_whole_ties T.d_l_whole_ties ["hand", "many", "most"] spWhole := by
  refine T.F_l_whole_ties.ok sc_l_whole_ties (fun vs H Q E h => ?_) (fun cdv A outer s H vs Q E hr h => ?_)
  · obtain ⟨h, c, n, m, rfl, _⟩ := h
    rfl
  obtain ⟨h, c, n, m, rfl, hd, n0, n1, m0, m1, q⟩ := h
  refine ⟨_, (pss_cons (ps_asg (pe_tup (pa_cons (pe_call (ok_l_mixed T) (hr.mono (by decide)) (by rfl) T.m_l_mixed T.F_l_mixed.kp T.b_l_mixed .nil pass0 (pa_cons (pv 0) (pa_cons (pe_listRg rfl (by rfl) T.g_list (prg_1 (by rfl) T.g_range (pv 1))) pa_nil))) (pa_cons (pe_lst pa_nil) pa_nil))) (pg_tup rfl (pgs_cons (pg_name (i := 3) sc_l_whole_ties.nd rfl (by first | exact .inl rfl | exact .inr rfl)) (pgs_cons (pg_name (i := 4) sc_l_whole_ties.nd rfl (.inl rfl)) pgs_nil))))
    (pss_cons (ps_for PassesOwn.never rfl (pi_range2 (by rfl) T.g_range (pa_cons pe_int (pa_cons (pv 1) pa_nil))) (pg_name (i := 5) sc_l_whole_ties.nd rfl (.inl rfl))
      (pss_one (ps_expr (pe_bm PySem.F.plainAttrs_list PySem.F.slot_list_append PySem.F.type_list_append mt_append (pv 4) (pa_cons (pe_tup (pa_cons (pe_call (ok_l_draw T) (hr.mono (by decide)) (by rfl) T.m_l_draw T.F_l_draw.kp T.b_l_draw .nil pass0 (pa_cons (pv 0) (pa_cons (pv 5) pa_nil))) (pa_cons (pv 5) pa_nil))) pa_nil)))))
    (pss_cons (ps_setLc (i := 6) (own := [("u", 8), ("v", 9)]) (g := (gTup K 2 (gCons (gName 8) (gCons (gName 9) gNil)))) (tt := tYes) (te := (tTup (tCons (tCB _ (tCons (tOp (rIxL K) (tVar 3) (tVar 8)) (tCons (tOp (rIxL K) (tVar 3) (tVar 9)) tNil))) (tCons (tCB _ (tCons (tOp (rIxL K) (tVar 3) (tVar 8)) (tCons (tOp (rIxL K) (tVar 3) (tVar 9)) tNil))) tNil)))) rfl sc_l_whole_ties.nd rfl rfl (sw_true rfl rfl rfl (by decide +kernel)) (pi_list (pv 4)) (blkOk_by (own := [("u", 8), ("v", 9)]) (N := N_l_whole_ties) (sc := defScope s_l_whole_ties) (by decide +kernel)) (fun _ _ _ _ _ => (pg_tup rfl (pgs_cons (pg_name (i := 8) sc_l_whole_ties.nd rfl (.inl rfl)) (pgs_cons (pg_name (i := 9) sc_l_whole_ties.nd rfl (.inl rfl)) pgs_nil)))) (fun _ _ _ _ _ => pts_nil) (fun _ _ _ _ _ => (pe_tup (pa_cons (pe_callB (call_min2 rfl) (by rfl) T.g_min (by decide +kernel) (pa_cons (pe_ix ix_list (pv 3) (pv 8) (fun _ _ => rfl)) (pa_cons (pe_ix ix_list (pv 3) (pv 9) (fun _ _ => rfl)) pa_nil))) (pa_cons (pe_callB (call_max2 rfl) (by rfl) T.g_max (by decide +kernel) (pa_cons (pe_ix ix_list (pv 3) (pv 8) (fun _ _ => rfl)) (pa_cons (pe_ix ix_list (pv 3) (pv 9) (fun _ _ => rfl)) pa_nil))) pa_nil)))))
    (pss_cons (ps_set (i := 7) sc_l_whole_ties.nd rfl (.inl rfl) (pe_callTy call_list_of (by rfl) T.g_list (by decide +kernel) (pa_cons (pe_call (ok_l_ties T) (hr.mono (by decide)) (by rfl) T.m_l_ties T.F_l_ties.kp T.b_l_ties .nil pass0 (pa_cons (pv 0) (pa_cons (pv 1) (pa_cons (pe_op op_sub (pv 2) (pe_callB call_len_seq (by rfl) T.g_len PySem.boot_len (pa_cons (pv 6) pa_nil))) pa_nil)))) pa_nil)))
    (Evl.pss_cut (ps_if (PW.pt (pw_and (pt_cmpR op_gt (pe_callB call_len_seq (by rfl) T.g_len PySem.boot_len (pa_cons (pv 6) pa_nil)) pe_int (nomark _)) (pw_and (pt_cmpR op_gt (pe_callB call_len_seq (by rfl) T.g_len PySem.boot_len (pa_cons (pv 7) pa_nil)) pe_int (nomark _)) (pw_and1 (pt_cmpR op_eq (pe_call (ok_l_draw T) (hr.mono (by decide)) (by rfl) T.m_l_draw T.F_l_draw.kp T.b_l_draw .nil pass0 (pa_cons (pv 0) (pa_cons pe_int pa_nil))) pe_int (nomark _))))))
      (pss_one (ps_asg (pe_call (ok_l_some T) (hr.mono (by decide)) (by rfl) T.m_l_some T.F_l_some.kp T.b_l_some .nil pass0 (pa_cons (pv 0) (pa_cons (pv 6) pa_nil))) (pg_sub (pv 7) pe_int set_list)))
      pss_nil)
    (pss_one (ps_ret (pe_callTy call_tuple_of (by rfl) T.g_tuple (by decide +kernel) (pa_cons (pe_call (ok_l_mixed T) (hr.mono (by decide)) (by rfl) T.m_l_mixed T.F_l_mixed.kp T.b_l_mixed .nil pass0 (pa_cons (pv 0) (pa_cons (pe_op op_cat (pv 6) (pv 7)) pa_nil))) pa_nil))))))))), ?_⟩
  refine ⟨_, rfl, _, rfl, n, rfl, RgOk.of_le (by decide) (by omega) (by decide) (by omega), fun D nD => ?_⟩
  rw [rg_rn]
  have sD := same_new nD (.lst ((rn n).map V.int))
  have Dh := hd.ne nD
  refine ⟨h, c, D, _, rfl, hd.same sD, upd_same, Dh.1, ?_, fun R ys H1 k1 hd1 nR hR pe => ⟨(by show 0 ≤ sizeLine; decide), fun F nF => ⟨(by show 2 ≤ sizeLine; decide), fun Z nZ => ⟨Z, _, rfl, SqT.of upd_same, rfl, _, _, rfl, _, _, rfl, rfl, ?_⟩⟩⟩⟩
  · rw [List.length_map, rn_len]
    omega
  obtain ⟨os, eo, po⟩ := perm_ints pe
  subst eo
  have lo : os.length = n.toNat := by rw [po.length_eq, rn_len]
  have k01 : Kp h H H1 := (Same.kp sD).trans k1
  have Fh := hd1.ne nF
  have nHF : H F = none := Kp.none k01 hd1 nF
  have sF := same_new nF (.lst [])
  have hF1 : (L2.upd H1 F (.lst [])) F = some (.lst []) := upd_same
  have sZ := same_new nZ (.tup [.ref R, .ref F])
  have hF := sZ _ _ hF1
  have hR2 := sZ _ _ (sF _ _ hR)
  have s2 := sF.trans sZ
  have k2 := k01.trans (Same.kp s2)
  have hd2 := hd1.same s2
  have RF : R ≠ F := ne_of_none hR nF
  have Rnh : R ≠ h := fun e => by
    obtain ⟨l, hl⟩ := hd.same sD |>.lst
    rw [e] at nR
    rw [nR] at hl
    cases hl
  generalize L2.upd (L2.upd H1 F (.lst [])) Z (.tup [.ref R, .ref F]) = H2 at *
  clear hF1 sZ nZ sF nF s2 k1 k01 hd1
  refine ⟨_, rfl, 1, n, rfl, ⟨by decide, by decide, by omega, by omega⟩, ?_⟩
  refine for_range (lo := 1) (n := (n - 1).toNat) (fun j σ H' => ∃ y5 acc fp, σ = [some (.ref h), some (.int n), some (.int m), some (.ref R), some (.ref F), y5, none, none, none, none] ∧ Kp h H H' ∧ HandAt H' h c ∧ H' R = some (.lst (os.map V.int)) ∧ H' F = some (.lst acc) ∧ PrsAt H' acc fp ∧ fp.length = j ∧ ∀ (i : Nat) p, fp[i]? = some p → 0 ≤ p.1 ∧ p.1 < (i : Int) + 1 ∧ p.2 = (i : Int) + 1)
    ⟨_, [], [], rfl, k2, hd2, hR2, hF, .nil, rfl, fun i p z => by cases z⟩ ?_ ?_
  · intro j σ H' hj ⟨y5, acc, fp, e, kk, hdd, hRr, hFc, pa, lf, rf⟩
    subst e
    have la := pa.len
    refine ⟨_, rfl, .inl ⟨rfl, _, SqL.of hFc⟩, _, rfl, _, rfl, h, c, _, rfl, by omega, by omega, hdd, fun d H3 d0 d1 k3 hd3 => ⟨_, rfl, (by show 2 ≤ sizeLine; decide), fun S nS => ?_⟩⟩
    have s4 := same_new nS (.tup [.int d, .int (1 + (j : Int))])
    have hF4 := s4 _ _ (k3 _ _ Fh.1 hFc)
    have hR4 := s4 _ _ (k3 _ _ Rnh hRr)
    have pa4 := (pa.kp hdd k3).same s4
    have hS : (L2.upd H3 S (.tup [.int d, .int (1 + (j : Int))])) S = some (.tup [.int d, .int (1 + (j : Int))]) := upd_same
    have kk4 := (kk.trans k3).trans (Same.kp s4)
    have hd4 := hd3.same s4
    refine ⟨F, acc, _, rfl, rfl, hF4, small1000 (by omega), ?_⟩
    refine ⟨_, acc ++ [.ref S], fp ++ [(d, 1 + (j : Int))], rfl, kk4.mut nHF, hd4.upd Fh.1 Fh.2, ?_, upd_same, (pa4.snoc (p := (d, 1 + (j : Int))) hS).upd hF4, by rw [List.length_append, lf]; rfl, fun i p hi => ?_⟩
    · rw [upd_ne RF]
      exact hR4
    · by_cases g : i < fp.length
      · rw [List.getElem?_append_left g] at hi
        exact rf i p hi
      · rw [List.getElem?_append_right (by omega)] at hi
        have li := (List.getElem?_eq_some_iff.mp hi).1
        have : i - fp.length = 0 := by
          rw [List.length_singleton] at li
          omega
        rw [this] at hi
        have ep : (d, 1 + (j : Int)) = p := Option.some.inj hi
        subst ep
        show 0 ≤ d ∧ d < (i : Int) + 1 ∧ 1 + (j : Int) = (i : Int) + 1
        omega
  intro σ H3 ⟨y5, acc, fp, e, k3, hd3, hR3, hF3, pf, lf, rf⟩
  subst e
  have la := pf.len
  refine ⟨_, rfl, F, rfl, ⟨_, SqL.of hF3⟩, fun D2 nD2 => lc_list (xs := acc) (fun i H' => Same H3 H' ∧ ∃ us, H' D2 = some (.lst us) ∧ PrsAt H' us ((fp.map (cal os)).take i)) ⟨same_new nD2 _, [], upd_same, by rw [List.take_zero]; exact .nil⟩ (fun i H' _ ⟨sm, _⟩ => SqL.of (sm _ _ hF3)) ?_ ?_⟩
  · intro i y H' hi ⟨sm, us, hD2, pu⟩
    obtain ⟨p, a, hp, ey, ha⟩ := (pf.same sm).get hi
    subst ey
    have hR' := sm _ _ hR3
    obtain ⟨r0, r1, r2⟩ := rf i p hp
    have li := (List.getElem?_eq_some_iff.mp hp).1
    refine ⟨a, _, rfl, SqT.of ha, rfl, _, _, rfl, _, _, rfl, rfl, rfl, ?_⟩
    refine ⟨_, rfl, _, rfl, R, _, _, _, rfl, rfl, SqL.of hR', ix_at r0 (by omega), _, rfl, _, rfl, R, _, _, _, rfl, rfl, SqL.of hR', ix_at (by omega) (by omega), _, _, rfl, ?_⟩
    refine ⟨_, rfl, _, rfl, R, _, _, _, rfl, rfl, SqL.of hR', ix_at r0 (by omega), _, rfl, _, rfl, R, _, _, _, rfl, rfl, SqL.of hR', ix_at (by omega) (by omega), _, _, rfl, (by show 2 ≤ sizeLine; decide), fun S nS => ?_⟩
    have s4 := same_new nS (.tup [.int (mn (ix os p.1) (ix os p.2)), .int (mx (ix os p.1) (ix os p.2))])
    have hD4 := s4 _ _ hD2
    have lu := pu.len
    have ec : (fp.map (cal os))[i]? = some (cal os p) := by rw [List.getElem?_map, hp]; rfl
    refine ⟨us, hD4, small1000 ?_, fun o u ho => ?_, us ++ [.ref S], upd_same, ?_⟩
    · rw [lu, List.length_take, List.length_map]
      omega
    · rw [upd_ne (ne_of_none ho nD2)]
      exact s4 _ _ (sm _ _ ho)
    · rw [take_snoc ec]
      exact ((pu.same s4).snoc (p := cal os p) upd_same).upd hD4
  intro H4 ⟨s4, us, hU, pu⟩
  rw [List.take_of_length_le (by rw [List.length_map]; omega)] at pu
  have lu := pu.len
  rw [List.length_map, lf] at lu
  have Uh := hd3.ne nD2
  have nHU : H D2 = none := Kp.none k3 hd3 nD2
  have hd4 := hd3.same s4
  have k4 := k3.trans (Same.kp s4)
  have okp : ∀ p ∈ fp.map (cal os), okS n p := fun p hp => by
    obtain ⟨z, hz, ez⟩ := List.mem_map.mp hp
    obtain ⟨i, hi⟩ := List.mem_iff_getElem?.mp hz
    obtain ⟨r0, r1, r2⟩ := rf i z hi
    have li := (List.getElem?_eq_some_iff.mp hi).1
    have nd : os.Nodup := po.nodup_iff.mpr (rn_nodup n)
    have get : ∀ x, 0 ≤ x → x < n → ∃ h : x.toNat < os.length, ix os x = os[x.toNat] ∧ (0 ≤ os[x.toNat] ∧ os[x.toNat] < n) := fun x x0 x1 => by
      have hx : x.toNat < os.length := by omega
      refine ⟨hx, ?_, mem_rn.mp (po.mem_iff.mp (List.getElem_mem hx))⟩
      unfold ix
      rw [List.getD_eq_getElem?_getD, List.getElem?_eq_getElem hx]
      rfl
    obtain ⟨h1, e1, g1⟩ := get z.1 r0 (by omega)
    obtain ⟨h2, e2, g2⟩ := get z.2 (by omega) (by omega)
    subst ez
    unfold cal
    rw [e1, e2]
    refine okS_mn g1.1 g1.2 g2.1 g2.2 ?_
    exact (List.pairwise_iff_getElem.mp nd) z.1.toNat z.2.toNat h1 h2 (by omega)
  refine ⟨_, rfl, _, rfl, _, rfl, _, rfl, D2, us, rfl, .inl (SqL.of hU), m, _, rfl, rfl, h, c, n, _, rfl, hd4, n0, n1, by omega, by omega, fun t ps H5 k5 hd5 ht lt okt => ?_⟩
  obtain ⟨vt, htv, pt⟩ := ht
  have lvt := pt.len
  refine ⟨t, vt, rfl, .inr (SqT.of htv), fun M nM => ?_⟩
  have Mh := hd5.ne nM
  have nHM : H M = none := Kp.none (k4.trans k5) hd5 nM
  have s6 := same_new nM (.lst vt)
  have hM : (L2.upd H5 M (.lst vt)) M = some (.lst vt) := upd_same
  have hU5 := k5 _ _ Uh.1 hU
  have UM : D2 ≠ M := ne_of_none hU5 nM
  have hU6 := s6 _ _ hU5
  have pu6 := (pu.kp hd4 k5).same s6
  have k6 := (k4.trans k5).trans (Same.kp s6)
  have hd6 := hd5.same s6
  have am : AllOk (L2.upd H5 M (.lst vt)) (okS n) vt := PrsAt.all (pt.same s6) okt
  generalize L2.upd H5 M (.lst vt) = H6 at *
  refine ⟨fun σ' H'' => ∃ ws, σ' = [some (.ref h), some (.int n), some (.int m), some (.ref R), some (.ref F), y5, some (.ref D2), some (.ref M), none, none] ∧ Kp h H H'' ∧ HandAt H'' h c ∧ H'' D2 = some (.lst us) ∧ PrsAt H'' us (fp.map (cal os)) ∧ H'' M = some (.lst ws) ∧ AllOk H'' (okS n) ws ∧ ws.length = vt.length, ?_, ?_⟩
  · have stay : ∀ H'', Kp h H6 H'' → HandAt H'' h c → ∃ ws, [some (V.ref h), some (.int n), some (.int m), some (.ref R), some (.ref F), y5, some (.ref D2), some (.ref M), none, none] = [some (V.ref h), some (.int n), some (.int m), some (.ref R), some (.ref F), y5, some (.ref D2), some (.ref M), none, none] ∧ Kp h H H'' ∧ HandAt H'' h c ∧ H'' D2 = some (.lst us) ∧ PrsAt H'' us (fp.map (cal os)) ∧ H'' M = some (.lst ws) ∧ AllOk H'' (okS n) ws ∧ ws.length = vt.length := fun H'' k hd => ⟨vt, rfl, k6.trans k, hd, k _ _ Uh.1 hU6, pu6.kp hd6 k, k _ _ Mh.1 hM, AllOk.mono (tup_kp hd6 k) am, rfl⟩
    refine ⟨_, rfl, D2, _, rfl, .inl (SqL.of hU6), _, 0, rfl, rfl, _, rfl, ite2 (fun e => ?_) (fun e => stay H6 (Kp.refl _ _) hd6)⟩
    have pos : 0 < us.length := by
      have : ((us.length : Nat) : Int) > 0 := of_decide_eq_true e
      omega
    refine ⟨_, rfl, M, _, rfl, .inl (SqL.of hM), _, 0, rfl, rfl, _, rfl, ite2 (fun e => ?_) (fun e => stay H6 (Kp.refl _ _) hd6)⟩
    have pos2 : 0 < vt.length := by
      have : ((vt.length : Nat) : Int) > 0 := of_decide_eq_true e
      omega
    refine ⟨_, rfl, h, c, _, rfl, by omega, by omega, hd6, fun z H8 z0 z1 k8 hd8 => ⟨rfl, _, rfl, ite2 (fun e3 => ?_) (fun e3 => stay H8 k8 hd8)⟩⟩
    have hU8 := k8 _ _ Uh.1 hU6
    refine ⟨_, rfl, _, rfl, h, c, D2, us, rfl, .inl (SqL.of hU8), Uh.1, pos, by omega, hd8, fun y H9 hy k9 hd9 => ?_⟩
    have hM9 := k9 _ _ Mh.1 (k8 _ _ Mh.1 hM)
    have pu9 := (pu6.kp hd6 k8).kp hd8 k9
    have py : PrOk H9 (okS n) y := PrsAt.all pu9 okp y hy
    have am9 := AllOk.mono (tup_kp hd8 k9) (AllOk.mono (tup_kp hd6 k8) am)
    have hU9 := k9 _ _ Uh.1 hU8
    refine ⟨_, rfl, M, vt, 0, 0, rfl, rfl, hM9, ixN_of (k := 0) (by decide) (by exact pos2), ?_⟩
    refine ⟨vt.set 0 y, rfl, ((k6.trans k8).trans k9).mut nHM, hd9.upd Mh.1 Mh.2, ?_, pu9.upd hM9, upd_same, AllOk.mono (tup_upd hM9) (set_ok am9 py), List.length_set ..⟩
    rw [upd_ne UM]
    exact hU9
  · clear hM hU6 hU5 pu6 am k6 hd6 s6 pu hU
    intro σ' H7 ⟨ws, e, k7, hd7, hU7, pu7, hM7, am7, lw⟩
    subst e
    refine ⟨_, rfl, _, rfl, _, rfl, D2, M, us, ws, rfl, rfl, hU7, hM7, Nat.le_of_lt (small1000 (by omega)), fun Y nY => ?_⟩
    have sY := same_new nY (.lst (us ++ ws))
    have Yh := hd7.ne nY
    have hd8 := hd7.same sY
    have ay : AllOk (L2.upd H7 Y (.lst (us ++ ws))) (okS n) (us ++ ws) := AllOk.mono (tup_same sY) (AllOk.app (PrsAt.all pu7 okp) am7)
    have pu8 := pu7.same sY
    have k8 := k7.trans (Same.kp sY)
    refine ⟨h, c, Y, _, rfl, hd8, upd_same, Yh.1, by rw [List.length_append]; omega, fun R2 ys H9 k9 hd9 nR2 hR9 pe => ?_⟩
    have py : AllOk H9 (okS n) ys := fun v hv => (AllOk.mono (tup_kp hd8 k9) ay) v (pe.mem_iff.mp hv)
    have pu9 := pu8.kp hd8 k9
    refine ⟨R2, _, rfl, .inl ⟨SqL.of hR9, fun t2 nt => ?_⟩⟩
    have st := same_new nt (.tup ys)
    obtain ⟨ps2, pp, po2⟩ := AllOk.prs (AllOk.mono (tup_same st) py)
    have lp := pp.len
    have lq := pe.length_eq
    rw [List.length_append] at lq
    refine q t2 ps2 _ ((k8.trans k9).trans (Same.kp st)) (hd9.same st) ⟨ys, upd_same, pp⟩ (by omega) po2 ?_
    refine near_tree (cs := []) po n1 fun k k1 k2 => ?_
    have lk : k - 1 < fp.length := by omega
    have hk := List.getElem?_eq_getElem lk
    obtain ⟨r0, r1, r2⟩ := rf (k - 1) _ hk
    refine ⟨(fp[k - 1]).1, r0, by omega, ?_⟩
    have m1 : cal os fp[k - 1] ∈ fp.map (cal os) := List.mem_map.mpr ⟨_, List.getElem_mem lk, rfl⟩
    have e1 : ((fp[k - 1]).1, (k : Int)) = fp[k - 1] := Prod.ext rfl (by show (k : Int) = (fp[k - 1]).2; omega)
    rw [e1]
    obtain ⟨a, ha1, ha2⟩ := prs_find (pu9.same st) m1
    exact prs_mem pp (pe.mem_iff.mpr (List.mem_append.mpr (.inl ha1))) ha2
end
end K42
set_option Elab.async false
set_option linter.all false
set_option maxRecDepth 100000
set_option maxHeartbeats 8000000
/-! Parts; rooted. -/
namespace K42
open PySem L2 Rl
def mrk (ms : List Int) (k : Int) : List Int := (rn (ms.length : Int)).filter fun x => decide (ix ms x = k)
def spLot : Sp := fun vs H Q _ => ∃ (a : Addr) (m : Nat), vs = [.ref a, .int (m : Int)] ∧ H a = some (.tup ((rn (m : Int)).map V.int)) ∧ m ≤ 16 ∧ Q (.bl true) H
def spMarked : Sp := fun vs H Q _ => ∃ (M : Addr) (ms : List Int) (k : Int), vs = [.ref M, .int k] ∧ H M = some (.lst (ms.map V.int)) ∧ ms.length ≤ 10 ∧
  ∀ t H', Same H H' → H' t = some (.tup ((mrk ms k).map V.int)) → Q (.ref t) H'
def spParts (C : Addr) : Sp := fun vs H Q _ => ∃ (x a : Addr) (n : Int) (ps : List (Int × Int)), vs = [.ref x, .ref a] ∧ WebAt C H x n ps ∧ H a = some (.tup ((rn (ps.length : Int)).map V.int)) ∧ 1 ≤ n ∧ n ≤ 10 ∧ ps.length ≤ 16 ∧ (∀ p ∈ ps, okS n p) ∧ Near n ps ∧
  ∀ L us H', Same H H' → H' L = some (.lst us) → us.length ≤ 1 → Q (.ref L) H'
def spRooted (C : Addr) : Sp := fun vs H Q _ => ∃ (x a : Addr) (n k : Int) (ps : List (Int × Int)) (s : List Bool), vs = [.ref x, .ref a, .int k] ∧ Sgn C H x a n ps s ∧ Acy ps s ∧ Near n ps ∧ 0 ≤ k ∧ k < n ∧
  ∀ t r H', Same H H' → SgAt H' t r → Fin n ps k s r → Q (.ref t) H'
/-- a mark that takes another's place -/
def mgd (ms : List Int) (a b : Int) : List Int := ms.map fun x => if x = b then a else x
theorem mgd_ix {ms : List Int} {a b k : Int} (h : k.toNat < ms.length) : ix (mgd ms a b) k = if ix ms k = b then a else ix ms k := by
  unfold ix mgd
  rw [List.getD_eq_getElem?_getD, List.getD_eq_getElem?_getD, List.getElem?_map, List.getElem?_eq_getElem h]
  rfl
theorem ix_mem {ms : List Int} {k : Int} (h : k.toNat < ms.length) : ix ms k ∈ ms := by
  unfold ix
  rw [List.getD_eq_getElem?_getD, List.getElem?_eq_getElem h]
  exact List.getElem_mem h
section
variable {P : Program} {w : World} {K : PySem.W.Frag} {mg : Str → Option Value} {base : Heap}
theorem ok_is_lot (T : Tx K mg) : FnOk P w K mg base CX0 3 T.f_is_lot T.d_is_lot ["thing", "bound"] spLot := by
  refine T.F_is_lot.ok sc_is_lot (fun vs H Q E h => ?_) (fun cdv A outer s H vs Q E hr h => ?_)
  · obtain ⟨a, m, rfl, _⟩ := h
    rfl
  obtain ⟨a, m, rfl, ha, m1, q⟩ := h
  refine ⟨_, (pss_cons (ps_if (pt_not (pt_val (pe_callB call_isi (by rfl) T.g_isinstance (by decide +kernel) (pa_cons (pv 0) (pa_cons (pe_bltn (v := .ty "tuple") (by rfl) T.g_tuple (by decide +kernel) rfl) pa_nil)))))
      (pss_one (ps_ret pe_bl))
      pss_nil)
    (pss_cons (ps_set (i := 2) sc_is_lot.nd rfl (.inl rfl) pe_int)
    (pss_cons (ps_for PassesOwn.never rfl (pi_tup (pv 0)) (pg_name (i := 3) sc_is_lot.nd rfl (.inl rfl))
      (pss_cons (ps_if (pt_not (pt_val (pe_call (ok_is_between T) (hr.mono (by decide)) (by rfl) T.m_is_between T.F_is_between.kp T.b_is_between .nil pass0 (pa_cons (pv 3) (pa_cons (pv 2) (pa_cons (pe_op op_sub (pv 1) pe_int) pa_nil))))))
          (pss_one (ps_ret pe_bl))
          pss_nil)
        (pss_one (ps_set (i := 2) sc_is_lot.nd rfl (.inl rfl) (pe_op op_add (pv 3) pe_int)))))
    (pss_one (ps_ret pe_bl))))), ?_⟩
  refine ⟨_, rfl, _, _, _, _, _, rfl, .ty _, .base (.tup ha), kit_ty (by decide +kernel), true, rfl, iteF ?_⟩
  refine ⟨_, rfl, a, rfl, ⟨_, SqT.of ha⟩, ?_⟩
  refine for_tup (xs := (rn (m : Int)).map V.int) (fun j σ H' => ∃ y3, σ = [some (.ref a), some (.int (m : Int)), some (.int (j : Int)), y3] ∧ H' = H) ⟨none, rfl, rfl⟩ (fun j σ H' _ ⟨_, _, e⟩ => by rw [e]; exact SqT.of ha) ?_ ?_
  · intro j v σ H' hj ⟨y3, e, eH⟩
    subst e eH
    obtain ⟨k, hk, ev⟩ := mint hj
    subst ev
    have lj := (List.getElem?_eq_some_iff.mp hk).1
    rw [rn_len] at lj
    have ek := rn_get (n := (m : Int)) (i := j) lj
    rw [hk] at ek
    have ek : k = (j : Int) := Option.some.inj ek
    subst ek
    refine ⟨_, rfl, _, rfl, _, rfl, (m : Int), 1, rfl, rfl, (j : Int), (j : Int), _, rfl, _, rfl, ?_⟩
    rw [decide_eq_true (Int.le_refl _), decide_eq_true (show (j : Int) ≤ (m : Int) - 1 by omega)]
    exact iteF ⟨_, rfl, _, 1, rfl, rfl, _, rfl, rfl⟩
  · intro σ H' ⟨y3, e, eH⟩
    subst e eH
    exact q
theorem ok_marked (T : Tx K mg) : FnOk P w K mg base CX0 1 T.f_marked T.d_marked ["marks", "mark"] spMarked := by
  refine T.F_marked.ok sc_marked (fun vs H Q E h => ?_) (fun cdv A outer s H vs Q E hr h => ?_)
  · obtain ⟨M, ms, k, rfl, _⟩ := h
    rfl
  obtain ⟨M, ms, k, rfl, hM, l10, q⟩ := h
  refine ⟨_, (pss_one (ps_ret (pe_callTy call_tuple_of (by rfl) T.g_tuple (by decide +kernel) (pa_cons (pe_lc (own := [("own", 3), ("place", 2)]) (g := (gTup K 2 (gCons (gName 2) (gCons (gName 3) gNil)))) (tt := (tTest (tOp rEq (tVar 3) (tVar 1)))) (te := (tVar 2)) rfl sc_marked.nd (pi_enum (by rfl) T.g_enumerate (pa_cons (pv 0) pa_nil)) (blkOk_by (own := [("own", 3), ("place", 2)]) (N := N_marked) (sc := defScope s_marked) (by decide +kernel)) (fun _ _ _ _ _ => (pg_tup rfl (pgs_cons (pg_name (i := 2) sc_marked.nd rfl (.inl rfl)) (pgs_cons (pg_name (i := 3) sc_marked.nd rfl (.inl rfl)) pgs_nil)))) (fun _ _ _ _ _ => (pts_one (pt_cmpR op_eq (pv 3) (pv 1) (nomark _)))) (fun _ _ _ _ _ => (pv 2))) pa_nil)))), ?_⟩
  refine ⟨_, rfl, M, _, rfl, SqL.of hM, fun D nD => ?_⟩
  refine lc_it (walk_enum (xs := ms.map V.int)) (fun i H' => Same H H' ∧ H' D = some (.lst ((((rn (ms.length : Int)).take i).filter fun x => decide (ix ms x = k)).map V.int))) ⟨same_new nD _, upd_same⟩ (fun i H' _ ⟨sm, _⟩ => SqL.of (sm _ _ hM)) ?_ ?_
  · intro i x H1 H2 hi ⟨sm, hD⟩ hy
    obtain ⟨Z, u, v, ex, nZ, e2, eu, ev⟩ := hy
    subst ex e2
    cases eu
    obtain ⟨c, hc, ec⟩ := mint ev
    subst ec
    have sZ := same_new nZ (.tup [.int (i : Int), .int c])
    have hD2 := sZ _ _ hD
    have sm2 := sm.trans sZ
    have li : i < ms.length := by rw [List.length_map] at hi; exact hi
    have er := rn_get (n := (ms.length : Int)) (i := i) (by omega)
    have fs := filt_snoc (fun x => decide (ix ms x = k)) er
    have eix : ix ms (i : Int) = c := by
      unfold ix
      rw [Int.toNat_natCast, List.getD_eq_getElem?_getD, hc]
      rfl
    refine ⟨Z, _, rfl, SqT.of upd_same, rfl, _, _, rfl, _, _, rfl, rfl, rfl, ?_⟩
    refine ⟨_, rfl, _, rfl, rfl, _, rfl, ?_⟩
    generalize L2.upd H1 Z (.tup [.int (i : Int), .int c]) = H2 at *
    rw [dec_vint]
    by_cases g : c = k
    · rw [decide_eq_true g]
      refine iteT ⟨_, rfl, _, hD2, small1000 ?_, fun o u ho => ?_, ?_⟩
      · rw [List.length_map]
        have := List.length_filter_le (fun x => decide (ix ms x = k)) ((rn (ms.length : Int)).take i)
        rw [List.length_take] at this
        omega
      · rw [upd_ne (ne_of_none ho nD)]
        exact sm2 _ _ ho
      · rw [upd_same, fs, if_pos (by rw [eix]; exact decide_eq_true g), List.map_append]
        rfl
    · rw [decide_eq_false g]
      refine iteF ⟨sm2, ?_⟩
      rw [fs, if_neg (by rw [eix, decide_eq_false g]; exact Bool.false_ne_true), List.append_nil]
      exact hD2
  · intro H1 ⟨sm, hD⟩
    rw [List.length_map, List.take_of_length_le (by rw [rn_len]; omega)] at hD
    refine ⟨D, _, rfl, .inl ⟨SqL.of hD, fun t nt => ?_⟩⟩
    exact q t _ (sm.trans (same_new nt _)) upd_same
theorem ok_parts (T : Tx K mg) : FnOk P w K mg base CX0 4 T.f_parts T.d_parts ["web", "lot"] (spParts T.C_Web) := by
  refine T.F_parts.ok sc_parts (fun vs H Q E h => ?_) (fun cdv A outer s H vs Q E hr h => ?_)
  · obtain ⟨x, a, n, ps, rfl, _⟩ := h
    rfl
  obtain ⟨x, a, n, ps, rfl, W0, ha, n1, n2, l16, ok, nr, q⟩ := h
  obtain ⟨dx, t, hx, vs, htv, hv⟩ := id W0
  have lv := hv.len
  refine ⟨_, (pss_cons (ps_if (pt_not (pt_val (pe_call (ok_is_lot T) (hr.mono (by decide)) (by rfl) T.m_is_lot T.F_is_lot.kp T.b_is_lot .nil pass0 (pa_cons (pv 1) (pa_cons (pe_callB call_len_seq (by rfl) T.g_len PySem.boot_len (pa_cons (pe_fld (pv 0) rfl) pa_nil)) pa_nil)))))
      (pss_one ps_never)
      pss_nil)
    (pss_cons (ps_set (i := 2) sc_parts.nd rfl (.inr rfl) (pe_listRg rfl (by rfl) T.g_list (prg_1 (by rfl) T.g_range (pe_fld (pv 0) rfl))))
    (pss_cons (ps_for PassesOwn.never rfl (pi_tup (pv 1)) (pg_name (i := 3) sc_parts.nd rfl (.inl rfl))
      (pss_cons (ps_asg (pe_ix ix_tup (pe_fld (pv 0) rfl) (pv 3) (fun _ _ => rfl)) (pg_tup rfl (pgs_cons (pg_name (i := 4) sc_parts.nd rfl (.inl rfl)) (pgs_cons (pg_name (i := 5) sc_parts.nd rfl (.inl rfl)) pgs_nil))))
        (pss_cons (ps_asg (pe_tup (pa_cons (pe_callB (call_min2 rfl) (by rfl) T.g_min (by decide +kernel) (pa_cons (pe_ix ix_list (pv 2) (pv 4) (fun _ _ => rfl)) (pa_cons (pe_ix ix_list (pv 2) (pv 5) (fun _ _ => rfl)) pa_nil))) (pa_cons (pe_callB (call_max2 rfl) (by rfl) T.g_max (by decide +kernel) (pa_cons (pe_ix ix_list (pv 2) (pv 4) (fun _ _ => rfl)) (pa_cons (pe_ix ix_list (pv 2) (pv 5) (fun _ _ => rfl)) pa_nil))) pa_nil))) (pg_tup rfl (pgs_cons (pg_name (i := 6) sc_parts.nd rfl (by first | exact .inl rfl | exact .inr rfl)) (pgs_cons (pg_name (i := 7) sc_parts.nd rfl (by first | exact .inl rfl | exact .inr rfl)) pgs_nil))))
        (pss_one (ps_asg (pe_lc (own := [("mark", 9)]) (g := (gName 9)) (tt := tYes) (te := (tIf (tTest (tOp rEq (tVar 9) (tVar 7))) (tVar 6) (tVar 9))) rfl sc_parts.nd (pi_list (pv 2)) (blkOk_by (own := [("mark", 9)]) (N := N_parts) (sc := defScope s_parts) (by decide +kernel)) (fun _ _ _ _ _ => (pg_name (i := 9) sc_parts.nd rfl (.inl rfl))) (fun _ _ _ _ _ => pts_nil) (fun _ _ _ _ _ => (pe_ifExp (pt_cmpR op_eq (pv 9) (pv 7) (nomark _)) (pv 6) (pv 9)))) (pg_name (i := 2) sc_parts.nd rfl (by first | exact .inl rfl | exact .inr rfl)))))))
    (pss_cons (ps_setLc (i := 8) (own := [("mark", 9)]) (g := (gName 9)) (tt := tYes) (te := (tCall spMarked [] E0 (tCons (tVar 2) (tCons (tVar 9) tNil)))) rfl sc_parts.nd rfl rfl (sw_true rfl rfl rfl (by decide +kernel)) (pi_range1 (by rfl) T.g_range (pa_cons (pe_fld (pv 0) rfl) pa_nil)) (blkOk_by (own := [("mark", 9)]) (N := N_parts) (sc := defScope s_parts) (by decide +kernel)) (fun _ _ _ _ _ => (pg_name (i := 9) sc_parts.nd rfl (.inl rfl))) (fun _ _ _ _ _ => pts_nil) (fun _ _ _ _ _ => (pe_call (ok_marked T) (hr.mono (by decide)) (by rfl) T.m_marked T.F_marked.kp T.b_marked .nil pass0 (pa_cons (pv 2) (pa_cons (pv 9) pa_nil)))))
    (pss_one (ps_ret (pe_lc (own := [("places", 10)]) (g := (gName 10)) (tt := (fun σ H Q => tVar 10 σ H fun x H' => ∃ k, TruV K x H' k ∧ Q k H')) (te := (tVar 10)) rfl sc_parts.nd (pi_list (pv 8)) (blkOk_by (own := [("places", 10)]) (N := N_parts) (sc := defScope s_parts) (by decide +kernel)) (fun _ _ _ _ _ => (pg_name (i := 10) sc_parts.nd rfl (.inl rfl))) (fun _ _ _ _ _ => (pts_one (pt_truth (pv 10) (by intro _; rfl)))) (fun _ _ _ _ _ => (pv 10))))))))), ?_⟩
  refine ⟨_, rfl, _, rfl, x, T.C_Web, dx, _, _, rfl, hx, T.cl_Web, T.no_Web_ties, wf_ties n t, t, vs, rfl, .inr (SqT.of htv), a, vs.length, rfl, by rw [lv]; exact ha, by omega, true, rfl, iteF ?_⟩
  refine ⟨_, rfl, x, T.C_Web, dx, _, _, rfl, hx, T.cl_Web, T.no_Web_many, wf_many n t, n, rfl, RgOk.of_le (by decide) (by omega) (by decide) (by omega), fun D nD => ?_⟩
  rw [rg_rn]
  have sD := same_new nD (.lst ((rn n).map V.int))
  have hD : (L2.upd H D (.lst ((rn n).map V.int))) D = some (.lst ((rn n).map V.int)) := upd_same
  generalize L2.upd H D (.lst ((rn n).map V.int)) = H1 at *
  have ixr : ∀ k, 0 ≤ k → k < n → ix (rn n) k = k := fun k k0 k1 => by
    unfold ix
    rw [List.getD_eq_getElem?_getD, rn_get (by omega)]
    show ((k.toNat : Nat) : Int) = k
    omega
  refine ⟨_, rfl, a, rfl, ⟨_, SqT.of (sD _ _ ha)⟩, ?_⟩
  refine for_tup (xs := (rn (ps.length : Int)).map V.int) (fun j σ H' => ∃ M ms y3 y4 y5 y6 y7, σ = [some (.ref x), some (.ref a), some (.ref M), y3, y4, y5, y6, y7, none, none, none] ∧ Same H H' ∧ H' M = some (.lst (ms.map V.int)) ∧ ms.length = n.toNat ∧ (∀ z ∈ ms, 0 ≤ z ∧ z < n) ∧ ∀ p ∈ ps.take j, ix ms p.1 = ix ms p.2)
    ⟨D, rn n, _, _, _, _, _, rfl, sD, hD, rn_len n, fun z hz => mem_rn.mp hz, fun p hp => nomatch hp⟩ (fun j σ H' _ ⟨_, _, _, _, _, _, _, _, sm, _⟩ => SqT.of (sm _ _ ha)) ?_ ?_
  · intro j v σ H' hj ⟨M, ms, y3, y4, y5, y6, y7, e, sm, hM, lm, rm, eqs⟩
    subst e
    obtain ⟨k, hk, ev⟩ := mint hj
    subst ev
    have lj := (List.getElem?_eq_some_iff.mp hk).1
    rw [rn_len] at lj
    have ek := rn_get (n := (ps.length : Int)) (i := j) lj
    rw [hk] at ek
    have ek : k = (j : Int) := Option.some.inj ek
    subst ek
    have lj2 : j < ps.length := by omega
    have hp := List.getElem?_eq_getElem lj2
    obtain ⟨p, ep⟩ : ∃ p, ps[j] = p := ⟨_, rfl⟩
    rw [ep] at hp
    have lj3 : j < vs.length := by omega
    obtain ⟨p', b, hp', eb, hb⟩ := (hv.same sm).get (List.getElem?_eq_getElem lj3)
    rw [hp] at hp'
    have epp : p = p' := Option.some.inj hp'
    subst epp
    have hvb : vs[j]? = some (.ref b) := by rw [List.getElem?_eq_getElem lj3, eb]
    have hx' := sm _ _ hx
    have htv' := sm _ _ htv
    obtain ⟨o0, o1, o2⟩ := ok p (List.mem_of_getElem? hp)
    refine ⟨_, rfl, x, T.C_Web, dx, _, _, rfl, hx', T.cl_Web, T.no_Web_ties, wf_ties n t, _, rfl, t, vs, _, _, rfl, rfl, SqT.of htv', atI_nat hvb, b, _, rfl, SqT.of hb, rfl, _, _, rfl, _, _, rfl, rfl, ?_⟩
    refine ⟨_, rfl, _, rfl, M, _, _, _, rfl, rfl, SqL.of hM, ix_at o0 (by omega), _, rfl, _, rfl, M, _, _, _, rfl, rfl, SqL.of hM, ix_at (by omega) (by omega), _, _, rfl, ?_⟩
    refine ⟨_, rfl, _, rfl, M, _, _, _, rfl, rfl, SqL.of hM, ix_at o0 (by omega), _, rfl, _, rfl, M, _, _, _, rfl, rfl, SqL.of hM, ix_at (by omega) (by omega), _, _, rfl, (by show 2 ≤ sizeLine; decide), fun Z nZ => ?_⟩
    refine ⟨Z, _, rfl, SqT.of upd_same, rfl, _, _, rfl, _, _, rfl, rfl, ?_⟩
    have sZ := same_new nZ (.tup [.int (if ix ms p.2 < ix ms p.1 then ix ms p.2 else ix ms p.1), .int (if ix ms p.2 > ix ms p.1 then ix ms p.2 else ix ms p.1)])
    have hM2 := sZ _ _ hM
    have sm2 := sm.trans sZ
    have lm1 : p.1.toNat < ms.length := by omega
    have lm2 : p.2.toNat < ms.length := by omega
    generalize L2.upd H' Z (.tup [.int (if ix ms p.2 < ix ms p.1 then ix ms p.2 else ix ms p.1), .int (if ix ms p.2 > ix ms p.1 then ix ms p.2 else ix ms p.1)]) = H2 at *
    refine ⟨_, rfl, M, rfl, ⟨_, SqL.of hM2⟩, fun Y nY => lc_list (xs := ms.map V.int) (fun i H3 => Same H2 H3 ∧ H3 Y = some (.lst (((mgd ms (mn (ix ms p.1) (ix ms p.2)) (mx (ix ms p.1) (ix ms p.2))).take i).map V.int))) ⟨same_new nY _, upd_same⟩ (fun i H3 _ ⟨s3, _⟩ => SqL.of (s3 _ _ hM2)) ?_ ?_⟩
    · intro i z H3 hi ⟨s3, hY⟩
      obtain ⟨c, hc, ez⟩ := mint hi
      subst ez
      have eg : (mgd ms (mn (ix ms p.1) (ix ms p.2)) (mx (ix ms p.1) (ix ms p.2)))[i]? = some (if c = mx (ix ms p.1) (ix ms p.2) then mn (ix ms p.1) (ix ms p.2) else c) := by
        unfold mgd
        rw [List.getElem?_map, hc]
        rfl
      have li := (List.getElem?_eq_some_iff.mp hc).1
      have fin : ∀ z : Int, z = (if c = mx (ix ms p.1) (ix ms p.2) then mn (ix ms p.1) (ix ms p.2) else c) → ∃ acc, H3 Y = some (.lst acc) ∧ acc.length < sizeLine ∧ (Same H2 (L2.upd H3 Y (.lst (acc ++ [.int z]))) ∧ (L2.upd H3 Y (.lst (acc ++ [.int z]))) Y = some (.lst (((mgd ms (mn (ix ms p.1) (ix ms p.2)) (mx (ix ms p.1) (ix ms p.2))).take (i + 1)).map V.int))) := fun z ez => by
        refine ⟨_, hY, small1000 ?_, fun o u ho => ?_, ?_⟩
        · rw [List.length_map, List.length_take]
          omega
        · rw [upd_ne (ne_of_none ho nY)]
          exact s3 _ _ ho
        · rw [upd_same, take_snoc eg, List.map_append, ez]
          rfl
      refine ⟨rfl, _, rfl, _, rfl, rfl, _, rfl, ?_⟩
      rw [dec_vint]
      by_cases g : c = mx (ix ms p.1) (ix ms p.2)
      · have g' : decide (c = if ix ms p.2 > ix ms p.1 then ix ms p.2 else ix ms p.1) = true := decide_eq_true g
        rw [g']
        exact iteT ⟨_, rfl, fin _ (by rw [if_pos g]; rfl)⟩
      · have g' : decide (c = if ix ms p.2 > ix ms p.1 then ix ms p.2 else ix ms p.1) = false := decide_eq_false g
        rw [g']
        exact iteF ⟨_, rfl, fin _ (by rw [if_neg g])⟩
    · intro H3 ⟨s3, hY⟩
      have lg : (mgd ms (mn (ix ms p.1) (ix ms p.2)) (mx (ix ms p.1) (ix ms p.2))).length = ms.length := List.length_map _
      rw [List.length_map, List.take_of_length_le (by omega)] at hY
      refine ⟨Y, _, _, _, _, _, _, rfl, sm2.trans s3, hY, by omega, fun z hz => ?_, fun c hc => ?_⟩
      · obtain ⟨c, hc, ez⟩ := List.mem_map.mp hz
        have r1 := rm _ (ix_mem lm1)
        have r2 := rm _ (ix_mem lm2)
        have rc := rm c hc
        subst ez
        by_cases g1 : c = mx (ix ms p.1) (ix ms p.2)
        · rw [if_pos g1]
          unfold mn
          split <;> omega
        · rw [if_neg g1]
          omega
      · have okc : okS n c := by
          rw [take_snoc hp] at hc
          rcases List.mem_append.mp hc with h1 | h1
          · exact ok c (List.mem_of_mem_take h1)
          · rw [List.mem_singleton.mp h1]
            exact ok p (List.mem_of_getElem? hp)
        obtain ⟨c0, c1, c2⟩ := okc
        rw [mgd_ix (by omega), mgd_ix (by omega)]
        rw [take_snoc hp] at hc
        rcases List.mem_append.mp hc with h1 | h1
        · rw [eqs c h1]
        · rw [List.mem_singleton.mp h1]
          rcases mxn (a := ix ms p.1) (b := ix ms p.2) with ⟨e1, e2⟩ | ⟨e1, e2⟩
          · rw [e1, e2]
            split <;> split <;> omega
          · rw [e1, e2]
            split <;> split <;> omega
  intro σ H2 ⟨M, ms, y3, y4, y5, y6, y7, e, s2, hM, lm, rm, eqs⟩
  subst e
  rw [List.length_map, rn_len, List.take_of_length_le (by omega)] at eqs
  have cst : ∀ x, 0 ≤ x → x < n → ix ms x = ix ms 0 := fun x x0 x1 => nr.conn (ix ms) eqs x0 x1 (by decide) (by omega)
  have hx2 := s2 _ _ hx
  have cr := rm _ (ix_mem (ms := ms) (k := 0) (by show 0 < ms.length; omega))
  obtain ⟨c, ec⟩ := Int.eq_ofNat_of_zero_le cr.1
  have none_ : ∀ k : Nat, k ≠ c → mrk ms (k : Int) = [] := fun k hk => by
    unfold mrk
    refine List.filter_eq_nil_iff.mpr fun x hx => ?_
    obtain ⟨x0, x1⟩ := mem_rn.mp hx
    rw [cst x x0 (by omega), ec]
    intro z
    have := of_decide_eq_true z
    omega
  refine ⟨_, rfl, x, T.C_Web, dx, _, _, rfl, hx2, T.cl_Web, T.no_Web_many, wf_many n t, n, rfl, by omega, by omega, fun L nL => ?_⟩
  refine lc_range (lo := 0) (n := n.toNat) (fun i H' => Same H2 H' ∧ ∃ us, H' L = some (.lst us) ∧ us.length = i ∧ ∀ (k : Nat) v, us[k]? = some v → ∃ b, v = .ref b ∧ H' b = some (.tup ((mrk ms (k : Int)).map V.int))) ⟨same_new nL _, [], upd_same, rfl, fun k v z => by cases z⟩ ?_ ?_
  · intro i H' hi ⟨sm, us, hL, lu, eu⟩
    have e0 : (0 : Int) + (i : Int) = (i : Int) := Int.zero_add _
    refine ⟨rfl, ?_⟩
    refine ⟨_, rfl, _, rfl, M, ms, _, rfl, sm _ _ hM, by omega, fun b H3 s3 hb => ?_⟩
    rw [e0] at hb
    have hL3 := s3 _ _ hL
    refine ⟨us, hL3, small1000 (by omega), fun o u ho => ?_, us ++ [.ref b], upd_same, by rw [List.length_append, lu]; rfl, fun k v hk => ?_⟩
    · rw [upd_ne (ne_of_none ho nL)]
      exact s3 _ _ (sm _ _ ho)
    · by_cases g : k < us.length
      · rw [List.getElem?_append_left g] at hk
        obtain ⟨d, ed, hd⟩ := eu k v hk
        refine ⟨d, ed, ?_⟩
        have hd3 := s3 _ _ hd
        rw [upd_ne (ne_of hd3 hL3 (by intro z; cases z))]
        exact hd3
      · rw [List.getElem?_append_right (by omega)] at hk
        have lk := (List.getElem?_eq_some_iff.mp hk).1
        have : k - us.length = 0 := by
          rw [List.length_singleton] at lk
          omega
        rw [this] at hk
        have ek : k = i := by omega
        subst ek
        refine ⟨b, (Option.some.inj hk).symm, ?_⟩
        rw [upd_ne (ne_of hb hL3 (by intro z; cases z))]
        exact hb
  · intro H3 ⟨s3, us, hL, lu, eu⟩
    refine ⟨_, rfl, L, rfl, ⟨_, SqL.of hL⟩, fun Z nZ => lc_list (xs := us) (tt := fun σ H Q => tVar 10 σ H fun x H' => ∃ k, TruV K x H' k ∧ Q k H') (fun i H' => Same H3 H' ∧ ∃ out, H' Z = some (.lst out) ∧ out.length ≤ if c < i then 1 else 0) ⟨same_new nZ _, [], upd_same, Nat.zero_le _⟩ (fun i H' _ ⟨sm, _⟩ => SqL.of (sm _ _ hL)) ?_ ?_⟩
    · intro i v H' hi ⟨sm, out, hZ, lo⟩
      obtain ⟨b, ev, hb⟩ := eu i v hi
      subst ev
      have hb' := sm _ _ hb
      refine ⟨rfl, _, rfl, _, .inr (.inl ⟨_, SqT.of hb', rfl⟩), ?_⟩
      by_cases g : i = c
      · subst g
        have lo0 : out.length = 0 := by
          rw [if_neg (Nat.lt_irrefl _)] at lo
          omega
        cases em : !((mrk ms (i : Int)).map V.int).isEmpty with
        | true =>
          refine iteT ⟨_, rfl, out, hZ, small1000 (by omega), fun o u ho => ?_, out ++ [.ref b], upd_same, ?_⟩
          · rw [upd_ne (ne_of_none ho nZ)]
            exact sm _ _ ho
          · rw [List.length_append, lo0, if_pos (Nat.lt_succ_self _)]
            exact Nat.le_refl _
        | false =>
          exact iteF ⟨sm, out, hZ, by omega⟩
      · rw [none_ i g]
        refine iteF ⟨sm, out, hZ, Nat.le_trans lo ?_⟩
        by_cases g2 : c < i
        · rw [if_pos g2, if_pos (by omega)]
          exact Nat.le_refl _
        · rw [if_neg g2]
          exact Nat.zero_le _
    · intro H4 ⟨s4, out, hZ, lo⟩
      refine q Z out H4 (s2.trans (s3.trans s4)) hZ (Nat.le_trans lo ?_)
      split <;> omega
end
end K42
set_option Elab.async false
set_option linter.all false
set_option maxRecDepth 100000
set_option maxHeartbeats 8000000
/-! Rooted. -/
namespace K42
open PySem L2 Rl
def fsr (n : Int) (ps : List (Int × Int)) (k : Int) (s : List Bool) : List Int := (srcL n ps s).filter fun x => !decide (x = k)
theorem srcL_len {n : Int} {ps : List (Int × Int)} {s : List Bool} : (srcL n ps s).length ≤ n.toNat := by
  have := List.length_filter_le (fun k => !decide (k ∈ tos ps s)) (rn n)
  rw [rn_len] at this
  exact this
section
variable {P : Program} {w : World} {K : PySem.W.Frag} {mg : Str → Option Value} {base : Heap}
theorem ok_rooted (T : Tx K mg) : FnOk P w K mg base CX0 5 T.f_rooted T.d_rooted ["web", "signing", "place"] (spRooted T.C_Web) := by
  refine T.F_rooted.ok sc_rooted (fun vs H Q E h => ?_) (fun cdv A outer s H vs Q E hr h => ?_)
  · obtain ⟨x, a, n, k, ps, s, rfl, _⟩ := h
    rfl
  obtain ⟨x, a, n, k, ps, sg, rfl, S, ac, nr, k0, k1, q⟩ := h
  have n0 := S.n0
  have n1 := S.n1
  have l16 := S.l16
  have ok := S.ok
  refine ⟨_, (pss_cons (ps_if (pt_not (pt_val (pe_call (ok_is_rising T) (hr.mono (by decide)) (by rfl) T.m_is_rising T.F_is_rising.kp T.b_is_rising .nil pass0 (pa_cons (pv 0) (pa_cons (pv 1) pa_nil)))))
      (pss_one ps_never)
      pss_nil)
    (pss_cons (ps_if (pt_not (pt_val (pe_call (ok_is_below T) (hr.mono (by decide)) (by rfl) T.m_is_below T.F_is_below.kp T.b_is_below .nil pass0 (pa_cons (pv 2) (pa_cons (pe_fld (pv 0) rfl) pa_nil)))))
      (pss_one ps_never)
      pss_nil)
    (pss_cons (ps_if (pt_cmpR op_gt (pe_callB call_len_seq (by rfl) T.g_len PySem.boot_len (pa_cons (pe_call (ok_parts T) (hr.mono (by decide)) (by rfl) T.m_parts T.F_parts.kp T.b_parts .nil pass0 (pa_cons (pv 0) (pa_cons (pe_tupRg rfl (by rfl) T.g_tuple (prg_1 (by rfl) T.g_range (pe_callB call_len_seq (by rfl) T.g_len PySem.boot_len (pa_cons (pe_fld (pv 0) rfl) pa_nil)))) pa_nil))) pa_nil)) pe_int (nomark _))
      (pss_one ps_never)
      pss_nil)
    (pss_cons (ps_setLc (i := 3) (own := [("source", 4)]) (g := (gName 4)) (tt := (tTest (tOp rNe (tVar 4) (tVar 2)))) (te := (tVar 4)) rfl sc_rooted.nd rfl rfl (sw_true rfl rfl rfl (by decide +kernel)) (pi_tup (pe_call (ok_sources T) (hr.mono (by decide)) (by rfl) T.m_sources T.F_sources.kp T.b_sources .nil pass0 (pa_cons (pv 0) (pa_cons (pv 1) pa_nil)))) (blkOk_by (own := [("source", 4)]) (N := N_rooted) (sc := defScope s_rooted) (by decide +kernel)) (fun _ _ _ _ _ => (pg_name (i := 4) sc_rooted.nd rfl (.inl rfl))) (fun _ _ _ _ _ => (pts_one (pt_cmpR op_ne (pv 4) (pv 2) (nomark _)))) (fun _ _ _ _ _ => (pv 4)))
    (pss_cons (ps_while PassesOwn.never (pt_truth (pv 3) (by intro _; rfl))
      (pss_cons (ps_set (i := 1) sc_rooted.nd rfl (.inl rfl) (pe_call (ok_behind T) (hr.mono (by decide)) (by rfl) T.m_behind T.F_behind.kp T.b_behind .nil pass0 (pa_cons (pv 0) (pa_cons (pv 1) (pa_cons (pe_ix ix_list (pv 3) pe_int (fun _ _ => rfl)) pa_nil)))))
        (pss_one (ps_setLc (i := 3) (own := [("source", 4)]) (g := (gName 4)) (tt := (tTest (tOp rNe (tVar 4) (tVar 2)))) (te := (tVar 4)) rfl sc_rooted.nd rfl rfl (sw_true rfl rfl rfl (by decide +kernel)) (pi_tup (pe_call (ok_sources T) (hr.mono (by decide)) (by rfl) T.m_sources T.F_sources.kp T.b_sources .nil pass0 (pa_cons (pv 0) (pa_cons (pv 1) pa_nil)))) (blkOk_by (own := [("source", 4)]) (N := N_rooted) (sc := defScope s_rooted) (by decide +kernel)) (fun _ _ _ _ _ => (pg_name (i := 4) sc_rooted.nd rfl (.inl rfl))) (fun _ _ _ _ _ => (pts_one (pt_cmpR op_ne (pv 4) (pv 2) (nomark _)))) (fun _ _ _ _ _ => (pv 4))))))
    (pss_one (ps_ret (pv 1)))))))), ?_⟩
  refine ⟨_, rfl, _, rfl, x, a, n, ps, sg, rfl, S, ac, fun H1 s1 => ⟨true, rfl, iteF ?_⟩⟩
  have S1 := S.same s1
  obtain ⟨dx, t, hx, vs, htv, hv⟩ := id S1.w
  have lv := hv.len
  refine ⟨_, rfl, _, rfl, x, T.C_Web, dx, _, _, rfl, hx, T.cl_Web, T.no_Web_many, wf_many n t, k, n, rfl, _, rfl, ?_⟩
  rw [decide_eq_true k0, decide_eq_true k1]
  refine iteF ?_
  refine ⟨_, rfl, _, rfl, x, T.C_Web, dx, _, _, rfl, hx, T.cl_Web, T.no_Web_ties, wf_ties n t, t, vs, rfl, .inr (SqT.of htv), _, rfl, RgOk.of_le (by decide) (by omega) (by decide) (by omega), fun D nD => ?_⟩
  rw [rg_rn]
  have sD := same_new nD (.tup ((rn ((vs.length : Nat) : Int)).map V.int))
  have S2 := S1.same sD
  refine ⟨x, D, n, ps, rfl, S2.w, by rw [upd_same, lv], n0, n1, l16, ok, nr, fun L us H2 s2 hL lu => ⟨L, us, rfl, .inl (SqL.of hL), _, 1, rfl, rfl, _, rfl, ?_⟩⟩
  rw [decide_eq_false (show ¬ ((us.length : Nat) : Int) > 1 by omega)]
  refine iteF ?_
  have s02 : Same H H2 := s1.trans (sD.trans s2)
  have S3 := S.same s02
  clear S2 S1 hL hx htv hv nD sD s2
  refine ⟨_, rfl, _, rfl, x, a, n, ps, sg, rfl, S3, fun u H3 s3 hu => ⟨u, rfl, ⟨_, SqT.of hu⟩, fun O nO => lc_tup (xs := (srcL n ps sg).map V.int) (fun i H' => Same H3 H' ∧ H' O = some (.lst ((((srcL n ps sg).take i).filter fun x => !decide (x = k)).map V.int))) ⟨same_new nO _, upd_same⟩ (fun i H' _ ⟨sm, _⟩ => SqT.of (sm _ _ hu)) ?_ ?_⟩⟩
  · intro i y H' hi ⟨sm, hO⟩
    obtain ⟨z, hz, ey⟩ := mint hi
    subst ey
    have fs := filt_snoc (fun x => !decide (x = k)) hz
    have li := (List.getElem?_eq_some_iff.mp hz).1
    have ll := srcL_len (n := n) (ps := ps) (s := sg)
    refine ⟨rfl, _, rfl, _, rfl, rfl, _, rfl, ?_⟩
    rw [dec_vint]
    cases g : !decide (z = k) with
    | true =>
      refine iteT ⟨_, rfl, _, hO, small1000 ?_, fun o u ho => ?_, ?_⟩
      · rw [List.length_map]
        have := List.length_filter_le (fun x => !decide (x = k)) ((srcL n ps sg).take i)
        rw [List.length_take] at this
        omega
      · rw [upd_ne (ne_of_none ho nO)]
        exact sm _ _ ho
      · rw [upd_same, fs, if_pos g, List.map_append]
        rfl
    | false =>
      refine iteF ⟨sm, ?_⟩
      rw [fs, if_neg (by rw [g]; exact Bool.false_ne_true), List.append_nil]
      exact hO
  intro H4 ⟨s4, hO⟩
  rw [List.length_map, List.take_of_length_le (Nat.le_refl _)] at hO
  have s04 : Same H H4 := s02.trans (s3.trans s4)
  refine ⟨fun m σ' H' => ∃ a' O s' j, σ' = [some (.ref x), some (.ref a'), some (.int k), some (.ref O), none] ∧ Same H H' ∧ SgAt H' a' s' ∧ H' O = some (.lst ((fsr n ps k s').map V.int)) ∧ Fired n ps k sg s' j ∧ m = 181 - j,
    ⟨_, a, O, sg, 0, rfl, s04, (S.same s04).g, hO, Fired.begin S.l ac, rfl⟩, ?_⟩
  intro m σ' H5 ⟨a', O', s', j, e, s5, hg, hO, fr, em⟩
  subst e
  have S5 : Sgn T.C_Web H5 x a' n ps s' := ⟨(S.same s5).w, hg, fr.len, l16, n0, n1, ok⟩
  refine ⟨_, rfl, _, .inl ⟨_, SqL.of hO, rfl⟩, ?_⟩
  cases c : fsr n ps k s' with
  | nil =>
    refine iteF ⟨_, rfl, ?_⟩
    exact q a' s' H5 s5 hg (fr.fin c)
  | cons o r =>
    rw [c] at hO
    refine iteT ⟨_, fun _ _ z => z, ?_⟩
    have mo : o ∈ fsr n ps k s' := by rw [c]; exact List.mem_cons_self
    obtain ⟨mo1, mo2⟩ := List.mem_filter.mp mo
    have ne : o ≠ k := by simpa using mo2
    have fr2 := fr.step ok mo1 ne
    have le := fr2.le nr n1 k0 k1
    refine ⟨_, rfl, _, rfl, _, rfl, O', _, _, _, rfl, rfl, SqL.of hO, atI_nat (j := 0) rfl, x, a', n, o, ps, s', rfl, S5, fun t H6 s6 ht => ?_⟩
    have s56 := s5.trans s6
    have S6 : Sgn T.C_Web H6 x t n ps (trn ps s' o) := ⟨(S.same s56).w, ht, fr2.len, l16, n0, n1, ok⟩
    refine ⟨_, rfl, _, rfl, x, t, n, ps, _, rfl, S6, fun u H7 s7 hu => ⟨u, rfl, ⟨_, SqT.of hu⟩, fun O2 nO2 => lc_tup (xs := (srcL n ps (trn ps s' o)).map V.int) (fun i H' => Same H7 H' ∧ H' O2 = some (.lst ((((srcL n ps (trn ps s' o)).take i).filter fun x => !decide (x = k)).map V.int))) ⟨same_new nO2 _, upd_same⟩ (fun i H' _ ⟨sm, _⟩ => SqT.of (sm _ _ hu)) ?_ ?_⟩⟩
    · intro i y H' hi ⟨sm, hO⟩
      obtain ⟨z, hz, ey⟩ := mint hi
      subst ey
      have fs := filt_snoc (fun x => !decide (x = k)) hz
      have li := (List.getElem?_eq_some_iff.mp hz).1
      have ll := srcL_len (n := n) (ps := ps) (s := trn ps s' o)
      refine ⟨rfl, _, rfl, _, rfl, rfl, _, rfl, ?_⟩
      rw [dec_vint]
      cases g : !decide (z = k) with
      | true =>
        refine iteT ⟨_, rfl, _, hO, small1000 ?_, fun o u ho => ?_, ?_⟩
        · rw [List.length_map]
          have := List.length_filter_le (fun x => !decide (x = k)) ((srcL n ps (trn ps s' o)).take i)
          rw [List.length_take] at this
          omega
        · rw [upd_ne (ne_of_none ho nO2)]
          exact sm _ _ ho
        · rw [upd_same, fs, if_pos g, List.map_append]
          rfl
      | false =>
        refine iteF ⟨sm, ?_⟩
        rw [fs, if_neg (by rw [g]; exact Bool.false_ne_true), List.append_nil]
        exact hO
    · intro H8 ⟨s8, hO⟩
      rw [List.length_map, List.take_of_length_le (Nat.le_refl _)] at hO
      exact ⟨181 - (j + 1), by omega, t, O2, _, j + 1, rfl, s56.trans (s7.trans s8), SgAt.same (s7.trans s8) ht, hO, fr2, rfl⟩
end
end K42
set_option Elab.async false
set_option linter.all false
set_option maxRecDepth 100000
set_option maxHeartbeats 8000000
/-! The law's own signings. -/
namespace K42
open PySem L2 Rl
structure Own (H : Hp) (t a : Addr) (n : Int) (ps : List (Int × Int)) (s : List Bool) : Prop where
  t : TiesAt H t ps
  g : SgAt H a s
  l : s.length = ps.length
  l16 : ps.length ≤ 16
  n0 : 1 ≤ n
  n1 : n ≤ 10
  ok : ∀ p ∈ ps, okS n p
theorem Own.same {H H' : Hp} {t a : Addr} {n : Int} {ps : List (Int × Int)} {s : List Bool} (e : Same H H') (h : Own H t a n ps s) : Own H' t a n ps s :=
  ⟨h.t.same e, h.g.same e, h.l, h.l16, h.n0, h.n1, h.ok⟩
theorem walk_zipT {K : PySem.W.Frag} {a b : Addr} {xs ys : List V} (hlen : xs.length = ys.length) : Walk (RZ.ItzT K a b) xs.length (fun H => SqT K H a xs ∧ SqT K H b ys) (YPair (fun i => xs[i]?) (fun i => ys[i]?)) := by
  refine ⟨fun i H hi ⟨qx, qy⟩ => ⟨xs, ys, _, _, qx, qy, List.getElem?_eq_getElem hi, List.getElem?_eq_getElem (by omega)⟩, fun H ⟨qx, qy⟩ => ⟨xs, ys, qx, qy, .inl (Nat.le_refl _)⟩, fun i H v H' hi ⟨qx, qy⟩ y => ?_⟩
  obtain ⟨T, x', y', ev, hT, eH, f1, f2⟩ := y
  exact ⟨T, x', y', ev, hT, eH, f1 xs qx, f2 ys qy⟩
theorem filt_snoc' {α : Type} {l : List α} {i : Nat} {k : α} (f : α → Bool) (h : l[i]? = some k) : (l.take (i + 1)).filter f = (l.take i).filter f ++ (if f k = true then [k] else []) := by
  rw [take_snoc h, List.filter_append]
  cases c : f k with
  | true => rw [if_pos rfl, List.filter_cons_of_pos c, List.filter_nil]
  | false => rw [if_neg Bool.false_ne_true, List.filter_cons_of_neg (by rw [c]; exact Bool.false_ne_true), List.filter_nil]
theorem bent_is {ps : List (Int × Int)} {s : List Bool} {i : Nat} {p : Int × Int} {b : Bool} {k : Int} (hs : Src ps s k) (hp : ps[i]? = some p) (hb : s[i]? = some b) (c : inT k p = true) : decide (p.2 = k) = (b != inT k p) := by
  have no := hs _ (ars_in hp hb)
  rw [c]
  cases b
  · have n1 : p.1 ≠ k := no
    have : p.2 = k := ((inT_iff.mp c).resolve_left fun e => n1 e.symm).symm
    rw [decide_eq_true this]
    rfl
  · have n2 : p.2 ≠ k := no
    rw [decide_eq_false n2]
    rfl
def spLSrc : Sp := fun vs H Q _ => ∃ (t a : Addr) (n : Int) (ps : List (Int × Int)) (s : List Bool), vs = [.int n, .ref t, .ref a] ∧ Own H t a n ps s ∧
  ∀ u H', Same H H' → H' u = some (.tup ((srcL n ps s).map V.int)) → Q (.ref u) H'
def spBent : Sp := fun vs H Q _ => ∃ (t a : Addr) (n k : Int) (ps : List (Int × Int)) (s : List Bool), vs = [.ref t, .ref a, .int k] ∧ Own H t a n ps s ∧ Src ps s k ∧ ∀ u H', Same H H' → SgAt H' u (trn ps s k) → Q (.ref u) H'
def spFree : Sp := fun vs H Q _ => ∃ (t a : Addr) (n : Int) (ps : List (Int × Int)) (s : List Bool), vs = [.int n, .ref t, .ref a] ∧ Own H t a n ps s ∧ Acy ps s ∧ ∀ H', Same H H' → Q (.bl true) H'
def spFlags : Sp := fun vs H Q _ => ∃ (a b : Addr) (s : List Bool), vs = [.ref a, .ref b] ∧ SgAt H a s ∧ SgAt H b s ∧ s.length ≤ 16 ∧ ∀ H', Same H H' → Q (.bl true) H'
def spLRooted : Sp := fun vs H Q _ => ∃ (t a : Addr) (n k : Int) (ps : List (Int × Int)) (s : List Bool), vs = [.int n, .ref t, .ref a, .int k] ∧ Own H t a n ps s ∧ Acy ps s ∧ Near n ps ∧ 0 ≤ k ∧ k < n ∧
  ∀ u r H', Same H H' → SgAt H' u r → Fin n ps k s r → Q (.ref u) H'
def spLed : Sp := fun vs H Q _ => ∃ (h c t a : Addr) (n m : Int) (ps : List (Int × Int)) (s : List Bool), vs = [.ref h, .int n, .ref t, .ref a, .int m] ∧ HandAt H h c ∧ Own H t a n ps s ∧ Acy ps s ∧ 1 ≤ m ∧ m ≤ 1000 ∧
  ∀ u s' H', Kp h H H' → HandAt H' h c → SgAt H' u s' → Acy ps s' → (∃ f, Hgt ps s s' f) → Q (.ref u) H'
section
variable {P : Program} {w : World} {K : PySem.W.Frag} {mg : Str → Option Value} {base : Heap}
theorem ok_l_sources (T : Tx K mg) : FnOk P w K mg base CX0 1 T.f_l_sources T.d_l_sources ["many", "ties", "signing"] spLSrc := by
  refine T.F_l_sources.ok sc_l_sources (fun vs H Q E h => ?_) (fun cdv A outer s H vs Q E hr h => ?_)
  · obtain ⟨t, a, n, ps, s, rfl, _⟩ := h
    rfl
  obtain ⟨t, a, n, ps, s, rfl, S, q⟩ := h
  have ls := S.l
  have l16 := S.l16
  have n0 := S.n0
  have n1 := S.n1
  obtain ⟨vs, htv, hv⟩ := S.t
  have ha : H a = some (.tup (bV s)) := S.g
  have lv := hv.len
  have hlen : vs.length = (bV s).length := by rw [bV_len]; omega
  refine ⟨_, (pss_cons (ps_asg (pe_lc (own := [("flag", 5), ("tie", 4)]) (g := (gTup K 2 (gCons (gName 4) (gCons (gName 5) gNil)))) (tt := tYes) (te := (tIf (tB (tVar 5)) (tOp (rIxT K) (tVar 4) (tC _)) (tOp (rIxT K) (tVar 4) (tC _)))) rfl sc_l_sources.nd (RZ.pi_zipA (by rfl) T.g_zip (pa_cons (pv 1) (pa_cons (pv 2) pa_nil))) (blkOk_by (own := [("flag", 5), ("tie", 4)]) (N := N_l_sources) (sc := defScope s_l_sources) (by decide +kernel)) (fun _ _ _ _ _ => (pg_tup rfl (pgs_cons (pg_name (i := 4) sc_l_sources.nd rfl (.inl rfl)) (pgs_cons (pg_name (i := 5) sc_l_sources.nd rfl (.inl rfl)) pgs_nil)))) (fun _ _ _ _ _ => pts_nil) (fun _ _ _ _ _ => (pe_ifExp (pt_val (pv 5)) (pe_ix ix_tup (pv 4) pe_int (fun _ _ => rfl)) (pe_ix ix_tup (pv 4) pe_int (fun _ _ => rfl))))) (pg_name (i := 3) sc_l_sources.nd rfl (by first | exact .inl rfl | exact .inr rfl)))
    (pss_one (ps_ret (pe_callTy call_tuple_of (by rfl) T.g_tuple (by decide +kernel) (pa_cons (pe_lc (own := [("place", 6)]) (g := (gName 6)) (tt := (tTest (tOp (rIn K true) (tVar 6) (tVar 3)))) (te := (tVar 6)) rfl sc_l_sources.nd (pi_range1 (by rfl) T.g_range (pa_cons (pv 0) pa_nil)) (blkOk_by (own := [("place", 6)]) (N := N_l_sources) (sc := defScope s_l_sources) (by decide +kernel)) (fun _ _ _ _ _ => (pg_name (i := 6) sc_l_sources.nd rfl (.inl rfl))) (fun _ _ _ _ _ => (pts_one (pt_cmpR op_notIn_seq (pv 6) (pv 3) (by rfl)))) (fun _ _ _ _ _ => (pv 6))) pa_nil))))), ?_⟩
  have lt : (tos ps s).length = ps.length := by
    unfold tos
    rw [List.length_map, ars_len ls]
  refine ⟨_, rfl, _, rfl, t, a, vs, bV s, rfl, .inr ⟨SqT.of htv, SqT.of ha, fun D nD => ?_⟩⟩
  refine lc_zipT hlen (fun i H' => Same H H' ∧ H' D = some (.lst (((tos ps s).take i).map V.int))) ⟨same_new nD _, upd_same⟩ (fun i H' ⟨sm, _⟩ => ⟨SqT.of (sm _ _ htv), SqT.of (sm _ _ ha)⟩) ?_ ?_
  · intro i y z T2 H' hy hz ⟨sm, hD⟩ nT
    obtain ⟨p, c, hp, ey, hc⟩ := (hv.same sm).get hy
    subst ey
    obtain ⟨b, hb, ez⟩ := bV_get hz
    subst ez
    have s2 : Same H' (L2.upd H' T2 (.tup [.ref c, .bl b])) := same_new nT _
    refine ⟨T2, _, rfl, SqT.of upd_same, rfl, _, _, rfl, _, _, rfl, rfl, rfl, ?_⟩
    have hD2 := s2 _ _ hD
    have hc2 := s2 _ _ hc
    have sm2 := sm.trans s2
    generalize L2.upd H' T2 (.tup [.ref c, .bl b]) = H2 at *
    have li := (List.getElem?_eq_some_iff.mp hp).1
    have et : (tos ps s)[i]? = some (ar p b).2 := by
      unfold tos
      rw [List.getElem?_map, ars_get hp hb]
      rfl
    have fin : ∀ z : Int, z = (ar p b).2 → ∃ acc, H2 D = some (.lst acc) ∧ acc.length < sizeLine ∧ (Same H (L2.upd H2 D (.lst (acc ++ [.int z]))) ∧ (L2.upd H2 D (.lst (acc ++ [.int z]))) D = some (.lst (((tos ps s).take (i + 1)).map V.int))) := fun z ez => by
      refine ⟨_, hD2, small1000 ?_, fun o u ho => ?_, ?_⟩
      · rw [List.length_map, List.length_take]
        omega
      · rw [upd_ne (ne_of_none ho nD)]
        exact sm2 _ _ ho
      · rw [upd_same, take_snoc et, List.map_append, ez]
        rfl
    cases b with
    | true => exact ⟨_, rfl, true, rfl, iteT ⟨_, rfl, c, _, _, _, rfl, rfl, SqT.of hc2, atI_nat (j := 1) rfl, fin _ rfl⟩⟩
    | false => exact ⟨_, rfl, false, rfl, iteF ⟨_, rfl, c, _, _, _, rfl, rfl, SqT.of hc2, atI_nat (j := 0) rfl, fin _ rfl⟩⟩
  · intro H3 ⟨s3, hD⟩
    rw [List.take_of_length_le (by omega)] at hD
    refine ⟨_, rfl, n, rfl, by omega, by omega, fun Z nZ => ?_⟩
    refine lc_range (lo := 0) (n := n.toNat) (fun i H4 => Same H3 H4 ∧ H4 Z = some (.lst ((((rn n).take i).filter fun k => !decide (k ∈ tos ps s)).map V.int))) ⟨same_new nZ _, upd_same⟩ ?_ ?_
    · intro i H4 hi ⟨s4, hZ⟩
      have e0 : (0 : Int) + (i : Int) = (i : Int) := Int.zero_add _
      have er := rn_get hi
      have fs := filt_snoc (fun k => !decide (k ∈ tos ps s)) er
      have hD4 := s4 _ _ hD
      refine ⟨rfl, ?_⟩
      refine ⟨_, rfl, _, rfl, D, _, rfl, .inl (SqL.of hD4), rfl, flat_is _, _, rfl, ?_⟩
      rw [if_pos rfl, in_ints, e0]
      cases c : !decide ((i : Int) ∈ tos ps s) with
      | true =>
        refine iteT ⟨_, rfl, _, hZ, small1000 ?_, fun o u ho => ?_, ?_⟩
        · rw [List.length_map]
          have := List.length_filter_le (fun k => !decide (k ∈ tos ps s)) ((rn n).take i)
          rw [List.length_take] at this
          omega
        · rw [upd_ne (ne_of_none ho nZ)]
          exact s4 _ _ ho
        · rw [upd_same, fs, if_pos c, List.map_append]
          rfl
      | false =>
        refine iteF ⟨s4, ?_⟩
        rw [fs, if_neg (by rw [c]; exact Bool.false_ne_true), List.append_nil]
        exact hZ
    · intro H4 ⟨s4, hZ⟩
      rw [List.take_of_length_le (by rw [rn_len]; exact Nat.le_refl _)] at hZ
      refine ⟨Z, _, rfl, .inl ⟨SqL.of hZ, fun u nu => ?_⟩⟩
      exact q u _ (s3.trans (s4.trans (same_new nu _))) upd_same
theorem ok_l_bent (T : Tx K mg) : FnOk P w K mg base CX0 1 T.f_l_bent T.d_l_bent ["ties", "signing", "place"] spBent := by
  refine T.F_l_bent.ok sc_l_bent (fun vs H Q E h => ?_) (fun cdv A outer s H vs Q E hr h => ?_)
  · obtain ⟨t, a, n, k, ps, s, rfl, _⟩ := h
    rfl
  obtain ⟨t, a, n, k, ps, s, rfl, S, src, q⟩ := h
  have ls := S.l
  have l16 := S.l16
  obtain ⟨vs, htv, hv⟩ := S.t
  have ha : H a = some (.tup (bV s)) := S.g
  have lv := hv.len
  have hlen : vs.length = (bV s).length := by rw [bV_len]; omega
  refine ⟨_, (pss_cons (ps_set (i := 3) sc_l_bent.nd rfl (.inl rfl) (pe_lst pa_nil))
    (pss_cons (ps_for PassesOwn.never rfl (RZ.pi_zipA (by rfl) T.g_zip (pa_cons (pv 0) (pa_cons (pv 1) pa_nil))) (pg_tup rfl (pgs_cons (pg_tup rfl (pgs_cons (pg_name (i := 4) sc_l_bent.nd rfl (.inl rfl)) (pgs_cons (pg_name (i := 5) sc_l_bent.nd rfl (.inl rfl)) pgs_nil))) (pgs_cons (pg_name (i := 6) sc_l_bent.nd rfl (.inl rfl)) pgs_nil)))
      (pss_one (ps_expr (pe_bm PySem.F.plainAttrs_list PySem.F.slot_list_append PySem.F.type_list_append mt_append (pv 3) (pa_cons (pe_ifExp (pt_cmpR op_in_seq (pv 2) (pe_tup (pa_cons (pv 4) (pa_cons (pv 5) pa_nil))) (by rfl)) (pe_cmpR op_eq (pv 5) (pv 2) (nomark _)) (pv 6)) pa_nil)))))
    (pss_one (ps_ret (pe_callTy call_tuple_of (by rfl) T.g_tuple (by decide +kernel) (pa_cons (pv 3) pa_nil)))))), ?_⟩
  refine ⟨(by show 0 ≤ sizeLine; decide), fun F nF => ?_⟩
  have sF := same_new nF (.lst [])
  have hF0 : (L2.upd H F (.lst [])) F = some (.lst []) := upd_same
  generalize L2.upd H F (.lst []) = H1 at *
  refine ⟨_, rfl, _, rfl, t, a, vs, bV s, rfl, .inr ⟨SqT.of (sF _ _ htv), SqT.of (sF _ _ ha), ?_⟩⟩
  refine for_it (walk_zipT hlen) (fun i σ H' => ∃ y4 y5 y6, σ = [some (.ref t), some (.ref a), some (.int k), some (.ref F), y4, y5, y6] ∧ Same H H' ∧ H' F = some (.lst (bV ((trn ps s k).take i)))) ⟨_, _, _, rfl, sF, hF0⟩ (fun i σ H' _ ⟨_, _, _, _, sm, _⟩ => ⟨SqT.of (sm _ _ htv), SqT.of (sm _ _ ha)⟩) ?_ ?_
  · intro i x σ H' H2 hi ⟨y4, y5, y6, e, sm, hF⟩ hy
    subst e
    obtain ⟨T2, x', y', ex, nT, e2, hx', hy'⟩ := hy
    subst ex e2
    obtain ⟨p, c, hp, ey, hc⟩ := (hv.same sm).get hx'
    subst ey
    obtain ⟨b, hb, ez⟩ := bV_get hy'
    subst ez
    have s2 : Same H' (L2.upd H' T2 (.tup [.ref c, .bl b])) := same_new nT _
    refine ⟨T2, _, rfl, SqT.of upd_same, rfl, _, _, rfl, c, _, rfl, SqT.of (s2 _ _ hc), rfl, _, _, rfl, _, _, rfl, rfl, _, _, rfl, rfl, ?_⟩
    have hF2 := s2 _ _ hF
    have sm2 := sm.trans s2
    generalize L2.upd H' T2 (.tup [.ref c, .bl b]) = H2 at *
    have li := (List.getElem?_eq_some_iff.mp hp).1
    have tg := trn_get (k := k) hp hb
    refine ⟨_, rfl, .inl ⟨rfl, _, SqL.of hF2⟩, ?_⟩
    refine ⟨_, rfl, _, rfl, _, rfl, (by show 2 ≤ sizeLine; decide), fun Z nZ => ⟨Z, _, rfl, .inr (SqT.of upd_same), rfl, rfl, _, rfl, ?_⟩⟩
    have s3 := same_new nZ (.tup [.int p.1, .int p.2])
    have hF3 := s3 _ _ hF2
    have sm3 := sm2.trans s3
    rw [if_neg Bool.false_ne_true, in_pr]
    have fin : ∀ z : Bool, z = (b != inT k p) → ∃ y4 y5 y6, [some (V.ref t), some (.ref a), some (.int k), some (.ref F), some (.int p.1), some (.int p.2), some (.bl b)] = [some (.ref t), some (.ref a), some (.int k), some (.ref F), y4, y5, y6] ∧ Same H (L2.upd (L2.upd H2 Z (.tup [.int p.1, .int p.2])) F (.lst (bV ((trn ps s k).take i) ++ [.bl z]))) ∧ (L2.upd (L2.upd H2 Z (.tup [.int p.1, .int p.2])) F (.lst (bV ((trn ps s k).take i) ++ [.bl z]))) F = some (.lst (bV ((trn ps s k).take (i + 1)))) := fun z ez => by
      refine ⟨_, _, _, rfl, fun o u ho => ?_, ?_⟩
      · rw [upd_ne (ne_of_none ho nF)]
        exact sm3 _ _ ho
      · rw [upd_same, take_snoc tg, ez]
        unfold bV
        rw [List.map_append]
        rfl
    have lt : (bV ((trn ps s k).take i)).length < 1000 := by
      rw [bV_len, List.length_take]
      omega
    cases cc : inT k p with
    | true =>
      refine iteT ⟨_, rfl, _, rfl, rfl, F, _, _, rfl, rfl, hF3, small1000 (Nat.le_of_lt lt), fin _ ?_⟩
      rw [dec_vint]
      exact bent_is src hp hb cc
    | false =>
      refine iteF ⟨_, rfl, F, _, _, rfl, rfl, hF3, small1000 (Nat.le_of_lt lt), fin _ ?_⟩
      rw [cc]
      cases b <;> rfl
  · intro σ H' ⟨y4, y5, y6, e, sm, hF⟩
    subst e
    rw [List.take_of_length_le (by rw [trn_len ls]; omega)] at hF
    refine ⟨_, rfl, F, _, rfl, .inl ⟨SqL.of hF, fun u nu => ?_⟩⟩
    exact q u _ (sm.trans (same_new nu _)) upd_same
theorem ok_l_are_flags (T : Tx K mg) : FnOk P w K mg base CX0 1 T.f_l_are_flags T.d_l_are_flags ["told", "due"] spFlags := by
  refine T.F_l_are_flags.ok sc_l_are_flags (fun vs H Q E h => ?_) (fun cdv A outer s H vs Q E hr h => ?_)
  · obtain ⟨a, b, s, rfl, _⟩ := h
    rfl
  obtain ⟨a, b, sg, rfl, ha, hb, ls, q⟩ := h
  have ha : H a = some (.tup (bV sg)) := ha
  have hb : H b = some (.tup (bV sg)) := hb
  refine ⟨_, (pss_cons (ps_if (PW.pt (pw_or (pt_not (pt_val (pe_callB call_isi (by rfl) T.g_isinstance (by decide +kernel) (pa_cons (pv 0) (pa_cons (pe_bltn (v := .ty "tuple") (by rfl) T.g_tuple (by decide +kernel) rfl) pa_nil))))) (pw_or1 (pt_not (pt_val (pe_callB (cr_all rfl) (by rfl) T.g_all (by decide +kernel) (pa_cons (pe_lc (own := [("flag", 2)]) (g := (gName 2)) (tt := tYes) (te := (tCB (rIsi K) (tCons (tVar 2) (tCons (tC _) tNil)))) rfl sc_l_are_flags.nd (pi_tup (pv 0)) (blkOk_by (own := [("flag", 2)]) (N := N_l_are_flags) (sc := defScope s_l_are_flags) (by decide +kernel)) (fun _ _ _ _ _ => (pg_name (i := 2) sc_l_are_flags.nd rfl (.inl rfl))) (fun _ _ _ _ _ => pts_nil) (fun _ _ _ _ _ => (pe_callB call_isi (by rfl) T.g_isinstance (by decide +kernel) (pa_cons (pv 2) (pa_cons (pe_bltn (v := .ty "bool") (by rfl) T.g_bool (by decide +kernel) rfl) pa_nil))))) pa_nil)))))))
      (pss_one (ps_ret pe_bl))
      pss_nil)
    (pss_one (ps_ret (pe_cmpR (op_eqD hr.units) (pv 0) (pv 1) (nomark _))))), ?_⟩
  refine ⟨_, rfl, _, _, _, _, _, rfl, .ty _, .base (.tup ha), kit_ty (by decide +kernel), true, rfl, iteF ?_⟩
  refine ⟨_, rfl, a, rfl, ⟨_, SqT.of ha⟩, fun D nD => lc_tup (xs := bV sg) (fun i H' => Same H H' ∧ H' D = some (.lst ((List.replicate i true).map V.bl))) ⟨same_new nD _, upd_same⟩ (fun i H' _ ⟨sm, _⟩ => SqT.of (sm _ _ ha)) ?_ ?_⟩
  · intro i y H' hi ⟨sm, hD⟩
    obtain ⟨z, hz, ey⟩ := bV_get hi
    subst ey
    have li := (List.getElem?_eq_some_iff.mp hz).1
    refine ⟨rfl, ?_⟩
    refine ⟨_, rfl, _, _, _, _, _, rfl, .ty _, .base (.bl z), kit_ty (r := true) (by decide +kernel), _, hD, small1000 (by rw [List.length_map, List.length_replicate]; omega), fun o u ho => ?_, ?_⟩
    · rw [upd_ne (ne_of_none ho nD)]
      exact sm _ _ ho
    · rw [upd_same, List.replicate_succ', List.map_append]
      rfl
  · intro H2 ⟨sm, hD⟩
    have e2 : (List.replicate (bV sg).length true).all id = true := by
      rw [List.all_replicate]
      cases (bV sg).length <;> rfl
    refine ⟨D, _, rfl, SqL.of hD, ?_⟩
    rw [e2]
    refine ⟨true, rfl, iteF ?_⟩
    refine ⟨_, rfl, _, rfl, _, _, dp_bools (sm _ _ ha), dp_bools (sm _ _ hb), shp_bools _, shp_bools _, ?_⟩
    rw [eqv_same (shp_bools _)]
    exact q H2 sm
end
end K42
set_option Elab.async false
set_option linter.all false
set_option maxRecDepth 100000
set_option maxHeartbeats 8000000
/-! Free of rounds; rooted by the law; led on. -/
namespace K42
open PySem L2 Rl
section
variable {P : Program} {w : World} {K : PySem.W.Frag} {mg : Str → Option Value} {base : Heap}
theorem stk_len (G : List (Int × Int)) : (stk G).length ≤ G.length := List.length_filter_le ..
theorem ok_l_is_free (T : Tx K mg) : FnOk P w K mg base CX0 1 T.f_l_is_free T.d_l_is_free ["many", "ties", "signing"] spFree := by
  refine T.F_l_is_free.ok sc_l_is_free (fun vs H Q E h => ?_) (fun cdv A outer s H vs Q E hr h => ?_)
  · obtain ⟨t, a, n, ps, s, rfl, _⟩ := h
    rfl
  obtain ⟨t, a, n, ps, sg, rfl, S, ac, q⟩ := h
  have ls := S.l
  have l16 := S.l16
  have n0 := S.n0
  have n1 := S.n1
  have ok := S.ok
  obtain ⟨vs, htv, hv⟩ := S.t
  have ha : H a = some (.tup (bV sg)) := S.g
  have lv := hv.len
  have hlen : vs.length = (bV sg).length := by rw [bV_len]; omega
  refine ⟨_, (pss_cons (ps_setLc (i := 3) (own := [("flag", 7), ("tie", 6)]) (g := (gTup K 2 (gCons (gName 6) (gCons (gName 7) gNil)))) (tt := tYes) (te := (tIf (tB (tVar 7)) (tVar 6) (KR.tRevT K (tVar 6)))) rfl sc_l_is_free.nd rfl rfl (sw_true rfl rfl rfl (by decide +kernel)) (RZ.pi_zipA (by rfl) T.g_zip (pa_cons (pv 1) (pa_cons (pv 2) pa_nil))) (blkOk_by (own := [("flag", 7), ("tie", 6)]) (N := N_l_is_free) (sc := defScope s_l_is_free) (by decide +kernel)) (fun _ _ _ _ _ => (pg_tup rfl (pgs_cons (pg_name (i := 6) sc_l_is_free.nd rfl (.inl rfl)) (pgs_cons (pg_name (i := 7) sc_l_is_free.nd rfl (.inl rfl)) pgs_nil)))) (fun _ _ _ _ _ => pts_nil) (fun _ _ _ _ _ => (pe_ifExp (pt_val (pv 7)) (pv 6) (KR.pe_revT (pv 6)))))
    (pss_cons (ps_for PassesOwn.never rfl (pi_range1 (by rfl) T.g_range (pa_cons (pv 0) pa_nil)) (pg_name (i := 4) sc_l_is_free.nd rfl (.inl rfl))
      (pss_cons (ps_asg (pe_lc (own := [("aim", 9), ("begin", 8)]) (g := (gTup K 2 (gCons (gName 8) (gCons (gName 9) gNil)))) (tt := tYes) (te := (tVar 9)) rfl sc_l_is_free.nd (pi_list (pv 3)) (blkOk_by (own := [("aim", 9), ("begin", 8)]) (N := N_l_is_free) (sc := defScope s_l_is_free) (by decide +kernel)) (fun _ _ _ _ _ => (pg_tup rfl (pgs_cons (pg_name (i := 8) sc_l_is_free.nd rfl (.inl rfl)) (pgs_cons (pg_name (i := 9) sc_l_is_free.nd rfl (.inl rfl)) pgs_nil)))) (fun _ _ _ _ _ => pts_nil) (fun _ _ _ _ _ => (pv 9))) (pg_name (i := 5) sc_l_is_free.nd rfl (by first | exact .inl rfl | exact .inr rfl)))
        (pss_one (ps_setLc (i := 3) (own := [("tie", 6)]) (g := (gName 6)) (tt := (tTest (tOp (rIn K false) (tOp (rIxT K) (tVar 6) (tC _)) (tVar 5)))) (te := (tVar 6)) rfl sc_l_is_free.nd rfl rfl (sw_true rfl rfl rfl (by decide +kernel)) (pi_list (pv 3)) (blkOk_by (own := [("tie", 6)]) (N := N_l_is_free) (sc := defScope s_l_is_free) (by decide +kernel)) (fun _ _ _ _ _ => (pg_name (i := 6) sc_l_is_free.nd rfl (.inl rfl))) (fun _ _ _ _ _ => (pts_one (pt_cmpR op_in_seq (pe_ix ix_tup (pv 6) pe_int (fun _ _ => rfl)) (pv 5) (by rfl)))) (fun _ _ _ _ _ => (pv 6))))))
    (pss_one (ps_ret (pe_cmpR op_eq (pe_callB call_len_seq (by rfl) T.g_len PySem.boot_len (pa_cons (pv 3) pa_nil)) pe_int (nomark _)))))), ?_⟩
  have la := ars_len (ps := ps) (s := sg) ls
  refine ⟨_, rfl, _, rfl, t, a, vs, bV sg, rfl, .inr ⟨SqT.of htv, SqT.of ha, fun D nD => ?_⟩⟩
  refine lc_zipT hlen (fun i H' => Same H H' ∧ ∃ us, H' D = some (.lst us) ∧ PrsAt H' us ((ars ps sg).take i)) ⟨same_new nD _, [], upd_same, by rw [List.take_zero]; exact .nil⟩ (fun i H' ⟨sm, _⟩ => ⟨SqT.of (sm _ _ htv), SqT.of (sm _ _ ha)⟩) ?_ ?_
  · intro i y z T2 H' hy hz ⟨sm, us, hD, pu⟩ nT
    obtain ⟨p, c, hp, ey, hc⟩ := (hv.same sm).get hy
    subst ey
    obtain ⟨b, hb, ez⟩ := bV_get hz
    subst ez
    have s2 : Same H' (L2.upd H' T2 (.tup [.ref c, .bl b])) := same_new nT _
    refine ⟨T2, _, rfl, SqT.of upd_same, rfl, _, _, rfl, _, _, rfl, rfl, rfl, ?_⟩
    have hD2 := s2 _ _ hD
    have hc2 := s2 _ _ hc
    have sm2 := sm.trans s2
    have pu2 := pu.same s2
    generalize L2.upd H' T2 (.tup [.ref c, .bl b]) = H2 at *
    have li := (List.getElem?_eq_some_iff.mp hp).1
    have ag := ars_get hp hb
    have lu := pu2.len
    rw [List.length_take] at lu
    have fin : ∀ (S2 : Addr) (H3 : Hp), Same H2 H3 → H3 S2 = some (.tup [.int (ar p b).1, .int (ar p b).2]) → ∃ acc, H3 D = some (.lst acc) ∧ acc.length < sizeLine ∧ (Same H (L2.upd H3 D (.lst (acc ++ [.ref S2]))) ∧
        ∃ us, (L2.upd H3 D (.lst (acc ++ [.ref S2]))) D = some (.lst us) ∧ PrsAt (L2.upd H3 D (.lst (acc ++ [.ref S2]))) us ((ars ps sg).take (i + 1))) := fun S2 H3 s3 hS => by
      have hD3 := s3 _ _ hD2
      refine ⟨us, hD3, small1000 (by omega), fun o u ho => ?_, us ++ [.ref S2], upd_same, ?_⟩
      · rw [upd_ne (ne_of_none ho nD)]
        exact s3 _ _ (sm2 _ _ ho)
      · rw [take_snoc ag]
        exact ((pu2.same s3).snoc (p := ar p b) hS).upd hD3
    cases b with
    | true => exact ⟨_, rfl, true, rfl, iteT ⟨_, rfl, fin c H2 (Same.refl _) hc2⟩⟩
    | false => exact ⟨_, rfl, false, rfl, iteF ⟨_, rfl, c, _, rfl, SqT.of hc2, fun S2 nS => fin S2 _ (same_new nS _) upd_same⟩⟩
  intro H1 ⟨s1, us, hD, pu⟩
  rw [List.take_of_length_le (by omega)] at pu
  have bg0 : (bgs n (ars ps sg)).length ≤ n.toNat := by
    have := List.length_filter_le (fun x => decide (x ∈ (ars ps sg).map fun q => q.1)) (rn n)
    rw [rn_len] at this
    exact this
  refine ⟨_, rfl, n, rfl, by omega, by omega, ?_⟩
  refine for_range (lo := 0) (n := n.toNat) (fun j σ H' => ∃ L us G y4 y5, σ = [some (.int n), some (.ref t), some (.ref a), some (.ref L), y4, y5, none, none, none, none] ∧ Same H H' ∧ H' L = some (.lst us) ∧ PrsAt H' us G ∧ (∀ q ∈ G, q ∈ ars ps sg) ∧ G.length ≤ 16 ∧ (bgs n G).length ≤ n.toNat - j)
    ⟨D, us, _, _, _, rfl, s1, hD, pu, fun q hq => hq, by omega, bg0⟩ ?_ ?_
  · intro j σ H2 hj ⟨L, us, G, y4, y5, e, s2, hL, pG, sub, lG, bG⟩
    subst e
    have lu := pG.len
    refine ⟨_, rfl, L, rfl, ⟨_, SqL.of hL⟩, fun A2 nA => lc_list (xs := us) (fun i H' => Same H2 H' ∧ H' A2 = some (.lst (((G.map fun q => q.2).take i).map V.int))) ⟨same_new nA _, upd_same⟩ (fun i H' _ ⟨sm, _⟩ => SqL.of (sm _ _ hL)) ?_ ?_⟩
    · intro i y H' hi ⟨sm, hA⟩
      obtain ⟨p, c, hp, ey, hc⟩ := (pG.same sm).get hi
      subst ey
      have li := (List.getElem?_eq_some_iff.mp hp).1
      have et : (G.map fun q => q.2)[i]? = some p.2 := by
        rw [List.getElem?_map, hp]
        rfl
      refine ⟨c, _, rfl, SqT.of hc, rfl, _, _, rfl, _, _, rfl, rfl, rfl, ?_⟩
      refine ⟨_, rfl, _, hA, small1000 ?_, fun o u ho => ?_, ?_⟩
      · rw [List.length_map, List.length_take]
        omega
      · rw [upd_ne (ne_of_none ho nA)]
        exact sm _ _ ho
      · rw [upd_same, take_snoc et, List.map_append]
        rfl
    intro H3 ⟨s3, hA⟩
    rw [List.take_of_length_le (by rw [List.length_map]; omega)] at hA
    have hL3 := s3 _ _ hL
    have pG3 := pG.same s3
    refine ⟨_, rfl, L, rfl, ⟨_, SqL.of hL3⟩, fun Z nZ => lc_list (xs := us) (fun i H' => Same H3 H' ∧ ∃ zs, H' Z = some (.lst zs) ∧ PrsAt H' zs ((G.take i).filter fun q => decide (q.1 ∈ G.map fun q => q.2))) ⟨same_new nZ _, [], upd_same, by rw [List.take_zero]; exact .nil⟩ (fun i H' _ ⟨sm, _⟩ => SqL.of (sm _ _ hL3)) ?_ ?_⟩
    · intro i y H' hi ⟨sm, zs, hZ, pZ⟩
      obtain ⟨p, c, hp, ey, hc⟩ := (pG3.same sm).get hi
      subst ey
      have li := (List.getElem?_eq_some_iff.mp hp).1
      have fs := filt_snoc' (fun q : Int × Int => decide (q.1 ∈ G.map fun q => q.2)) hp
      have hA' := sm _ _ hA
      have lz := pZ.len
      have lf := List.length_filter_le (fun q : Int × Int => decide (q.1 ∈ G.map fun q => q.2)) (G.take i)
      rw [List.length_take] at lf
      refine ⟨rfl, _, rfl, c, _, _, _, rfl, rfl, SqT.of hc, atI_nat (j := 0) rfl, _, rfl, A2, _, rfl, .inl (SqL.of hA'), rfl, flat_is _, _, rfl, ?_⟩
      rw [if_neg Bool.false_ne_true, in_ints]
      cases g : decide (p.1 ∈ G.map fun q => q.2) with
      | true =>
        refine iteT ⟨_, rfl, zs, hZ, small1000 (by omega), fun o u ho => ?_, zs ++ [.ref c], upd_same, ?_⟩
        · rw [upd_ne (ne_of_none ho nZ)]
          exact sm _ _ ho
        · rw [fs, if_pos g]
          exact (pZ.snoc (p := p) hc).upd hZ
      | false =>
        refine iteF ⟨sm, zs, hZ, ?_⟩
        rw [fs, if_neg (by rw [g]; exact Bool.false_ne_true), List.append_nil]
        exact pZ
    · intro H4 ⟨s4, zs, hZ, pZ⟩
      rw [List.take_of_length_le (by omega)] at pZ
      refine ⟨Z, zs, stk G, _, _, rfl, s2.trans (s3.trans s4), hZ, pZ, fun q hq => sub q (stk_sub hq), Nat.le_trans (stk_len G) lG, ?_⟩
      by_cases g : G = []
      · subst g
        have : (bgs n (stk [])).length = 0 := by
          show (bgs n []).length = 0
          unfold bgs
          rw [List.filter_eq_nil_iff.mpr fun x _ => by simp]
          rfl
        omega
      · have := stk_lt ok ac sub g
        omega
  · intro σ H2 ⟨L, us, G, y4, y5, e, s2, hL, pG, sub, lG, bG⟩
    subst e
    have eG : G = [] := by
      cases hG : G with
      | nil => rfl
      | cons c r =>
        have := stk_lt (n := n) ok ac sub (by rw [hG]; exact List.cons_ne_nil _ _)
        omega
    have lu := pG.len
    rw [eG] at lu
    have lu : us.length = 0 := lu
    refine ⟨_, rfl, L, us, rfl, .inl (SqL.of hL), rfl, ?_⟩
    rw [lu]
    exact q H2 s2
theorem ok_l_rooted (T : Tx K mg) : FnOk P w K mg base CX0 2 T.f_l_rooted T.d_l_rooted ["many", "ties", "signing", "place"] spLRooted := by
  refine T.F_l_rooted.ok sc_l_rooted (fun vs H Q E h => ?_) (fun cdv A outer s H vs Q E hr h => ?_)
  · obtain ⟨t, a, n, k, ps, s, rfl, _⟩ := h
    rfl
  obtain ⟨t, a, n, k, ps, sg, rfl, S, ac, nr, k0, k1, q⟩ := h
  have n0 := S.n0
  have n1 := S.n1
  have l16 := S.l16
  have ok := S.ok
  refine ⟨_, (pss_cons (ps_for PassesOwn.never rfl (pi_range1 (by rfl) T.g_range (pa_cons pe_int pa_nil)) (pg_name (i := 4) sc_l_rooted.nd rfl (.inl rfl))
      (pss_cons (ps_setLc (i := 5) (own := [("one", 6)]) (g := (gName 6)) (tt := (tTest (tOp rNe (tVar 6) (tVar 3)))) (te := (tVar 6)) rfl sc_l_rooted.nd rfl rfl (sw_true rfl rfl rfl (by decide +kernel)) (pi_tup (pe_call (ok_l_sources T) (hr.mono (by decide)) (by rfl) T.m_l_sources T.F_l_sources.kp T.b_l_sources .nil pass0 (pa_cons (pv 0) (pa_cons (pv 1) (pa_cons (pv 2) pa_nil))))) (blkOk_by (own := [("one", 6)]) (N := N_l_rooted) (sc := defScope s_l_rooted) (by decide +kernel)) (fun _ _ _ _ _ => (pg_name (i := 6) sc_l_rooted.nd rfl (.inl rfl))) (fun _ _ _ _ _ => (pts_one (pt_cmpR op_ne (pv 6) (pv 3) (nomark _)))) (fun _ _ _ _ _ => (pv 6)))
        (pss_cons (ps_if (pt_cmpR op_eq (pe_callB call_len_seq (by rfl) T.g_len PySem.boot_len (pa_cons (pv 5) pa_nil)) pe_int (nomark _))
          (pss_one ps_break)
          pss_nil)
        (pss_one (ps_set (i := 2) sc_l_rooted.nd rfl (.inl rfl) (pe_call (ok_l_bent T) (hr.mono (by decide)) (by rfl) T.m_l_bent T.F_l_bent.kp T.b_l_bent .nil pass0 (pa_cons (pv 1) (pa_cons (pv 2) (pa_cons (pe_ix ix_list (pv 5) pe_int (fun _ _ => rfl)) pa_nil)))))))))
    (pss_one (ps_ret (pv 2)))), ?_⟩
  refine ⟨400, rfl, by decide, by decide, ?_⟩
  refine for_range (lo := 0) (n := (400 : Int).toNat) (fun j σ H' => ∃ a' s' y4 y5, σ = [some (.int n), some (.ref t), some (.ref a'), some (.int k), y4, y5, none] ∧ Same H H' ∧ SgAt H' a' s' ∧ Fired n ps k sg s' j)
    ⟨a, sg, none, none, rfl, Same.refl _, S.g, Fired.begin S.l ac⟩ ?_ ?_
  · intro j σ H1 hj ⟨a', s', y4, y5, e, s1, hg, fr⟩
    subst e
    have S1 : Own H1 t a' n ps s' := ⟨(S.same s1).t, hg, fr.len, l16, n0, n1, ok⟩
    refine ⟨_, rfl, _, rfl, _, rfl, t, a', n, ps, s', rfl, S1, fun u H3 s3 hu => ⟨u, rfl, ⟨_, SqT.of hu⟩, fun O nO => lc_tup (xs := (srcL n ps s').map V.int) (fun i H' => Same H3 H' ∧ H' O = some (.lst ((((srcL n ps s').take i).filter fun x => !decide (x = k)).map V.int))) ⟨same_new nO _, upd_same⟩ (fun i H' _ ⟨sm, _⟩ => SqT.of (sm _ _ hu)) ?_ ?_⟩⟩
    · intro i y H' hi ⟨sm, hO⟩
      obtain ⟨z, hz, ey⟩ := mint hi
      subst ey
      have fs := filt_snoc (fun x => !decide (x = k)) hz
      have li := (List.getElem?_eq_some_iff.mp hz).1
      have ll := srcL_len (n := n) (ps := ps) (s := s')
      refine ⟨rfl, _, rfl, _, rfl, rfl, _, rfl, ?_⟩
      rw [dec_vint]
      cases g : !decide (z = k) with
      | true =>
        refine iteT ⟨_, rfl, _, hO, small1000 ?_, fun o u ho => ?_, ?_⟩
        · rw [List.length_map]
          have := List.length_filter_le (fun x => !decide (x = k)) ((srcL n ps s').take i)
          rw [List.length_take] at this
          omega
        · rw [upd_ne (ne_of_none ho nO)]
          exact sm _ _ ho
        · rw [upd_same, fs, if_pos g, List.map_append]
          rfl
      | false =>
        refine iteF ⟨sm, ?_⟩
        rw [fs, if_neg (by rw [g]; exact Bool.false_ne_true), List.append_nil]
        exact hO
    · intro H4 ⟨s4, hO⟩
      rw [List.length_map, List.take_of_length_le (Nat.le_refl _)] at hO
      have s34 := s3.trans s4
      have hO : H4 O = some (.lst ((fsr n ps k s').map V.int)) := hO
      refine ⟨_, rfl, O, _, rfl, .inl (SqL.of hO), rfl, _, rfl, ?_⟩
      cases c : fsr n ps k s' with
      | nil =>
        refine iteT ⟨_, rfl, ?_⟩
        exact q a' s' H4 (s1.trans s34) (hg.same s34) (fr.fin c)
      | cons o r =>
        rw [c] at hO
        refine iteF ?_
        have mo : o ∈ fsr n ps k s' := by rw [c]; exact List.mem_cons_self
        obtain ⟨mo1, mo2⟩ := List.mem_filter.mp mo
        have ne : o ≠ k := by simpa using mo2
        have fr2 := fr.step ok mo1 ne
        have S4 : Own H4 t a' n ps s' := S1.same s34
        refine ⟨_, rfl, _, rfl, _, rfl, O, _, _, _, rfl, rfl, SqL.of hO, atI_nat (j := 0) rfl, t, a', n, o, ps, s', rfl, S4, (srcL_mem.mp mo1).2, fun u2 H5 s5 hu2 => ?_⟩
        exact ⟨u2, _, _, _, rfl, s1.trans (s34.trans s5), hu2, fr2⟩
  · intro σ H1 ⟨a', s', y4, y5, e, s1, hg, fr⟩
    have := fr.le nr n1 k0 k1
    exact absurd this (by decide)
theorem ok_l_led_on (T : Tx K mg) : FnOk P w K mg base CX0 3 T.f_l_led_on T.d_l_led_on ["hand", "many", "ties", "signing", "most"] spLed := by
  refine T.F_l_led_on.ok sc_l_led_on (fun vs H Q E h => ?_) (fun cdv A outer s H vs Q E hr h => ?_)
  · obtain ⟨h, c, t, a, n, m, ps, s, rfl, _⟩ := h
    rfl
  obtain ⟨h, c, t, a, n, m, ps, sg, rfl, hd, S, ac, m0, m1, q⟩ := h
  have n0 := S.n0
  have n1 := S.n1
  have l16 := S.l16
  have ok := S.ok
  refine ⟨_, (pss_cons (ps_for PassesOwn.never rfl (pi_range1 (by rfl) T.g_range (pa_cons (pe_call (ok_l_draw T) (hr.mono (by decide)) (by rfl) T.m_l_draw T.F_l_draw.kp T.b_l_draw .nil pass0 (pa_cons (pv 0) (pa_cons (pv 4) pa_nil))) pa_nil)) (pg_name (i := 5) sc_l_led_on.nd rfl (.inl rfl))
      (pss_one (ps_set (i := 3) sc_l_led_on.nd rfl (.inl rfl) (pe_call (ok_l_bent T) (hr.mono (by decide)) (by rfl) T.m_l_bent T.F_l_bent.kp T.b_l_bent .nil pass0 (pa_cons (pv 2) (pa_cons (pv 3) (pa_cons (pe_call (ok_l_some T) (hr.mono (by decide)) (by rfl) T.m_l_some T.F_l_some.kp T.b_l_some .nil pass0 (pa_cons (pv 0) (pa_cons (pe_call (ok_l_sources T) (hr.mono (by decide)) (by rfl) T.m_l_sources T.F_l_sources.kp T.b_l_sources .nil pass0 (pa_cons (pv 1) (pa_cons (pv 2) (pa_cons (pv 3) pa_nil)))) pa_nil))) pa_nil)))))))
    (pss_one (ps_ret (pv 3)))), ?_⟩
  refine ⟨_, rfl, _, rfl, h, c, m, rfl, by omega, by omega, hd, fun d H1 d0 d1 k1 hd1 => ⟨d, rfl, by omega, by omega, ?_⟩⟩
  refine for_range (lo := 0) (n := d.toNat) (fun j σ H' => ∃ a' s' y5, σ = [some (.ref h), some (.int n), some (.ref t), some (.ref a'), some (.int m), y5] ∧ Kp h H H' ∧ HandAt H' h c ∧ TiesAt H' t ps ∧ SgAt H' a' s' ∧ Acy ps s' ∧ ∃ f, Hgt ps sg s' f)
    ⟨a, sg, none, rfl, k1, hd1, TiesAt.kp hd k1 S.t, SgAt.kp hd k1 S.g, ac, _, Hgt.refl S.l⟩ ?_ ?_
  · intro j σ H2 hj ⟨a', s', y5, e, kk, hdd, ht, hg, ac', f, hf⟩
    subst e
    have S2 : Own H2 t a' n ps s' := ⟨ht, hg, hf.l', l16, n0, n1, ok⟩
    refine ⟨_, rfl, _, rfl, _, rfl, _, rfl, _, rfl, _, rfl, t, a', n, ps, s', rfl, S2, fun u H3 s3 hu => ?_⟩
    have ne := src_ex n0 ok ac'
    have ll := srcL_len (n := n) (ps := ps) (s := s')
    have hd3 := hdd.same s3
    refine ⟨h, c, u, (srcL n ps s').map V.int, rfl, .inr (SqT.of hu), hd3.tne hu, ?_, ?_, hd3, fun y H4 hy k4 hd4 => ?_⟩
    · rw [List.length_map]
      exact List.length_pos_iff.mpr ne
    · rw [List.length_map]
      omega
    obtain ⟨z, hz, ez⟩ := List.mem_map.mp hy
    subst ez
    have src := (srcL_mem.mp hz).2
    have S4 : Own H4 t a' n ps s' := ⟨TiesAt.kp hd3 k4 (S2.same s3).t, SgAt.kp hd3 k4 (S2.same s3).g, hf.l', l16, n0, n1, ok⟩
    refine ⟨t, a', n, z, ps, s', rfl, S4, src, fun u2 H5 s5 hu2 => ?_⟩
    exact ⟨u2, _, _, rfl, (kk.trans (Same.kp s3)).trans (k4.trans (Same.kp s5)), hd4.same s5, (S4.same s5).t, hu2, acy_trn ac' src, _, hf.trans (hgt_trn hf.l' ok src)⟩
  · intro σ H2 ⟨a', s', y5, e, kk, hdd, ht, hg, ac', ex⟩
    subst e
    exact ⟨_, rfl, q a' s' H2 kk hdd hg ac' ex⟩
end
end K42
set_option Elab.async false
set_option linter.all false
set_option maxRecDepth 100000
set_option maxHeartbeats 8000000
/-! Heights: the mathematics of going about. -/
namespace K42
open PySem L2 Rl
def hv (hs : List (Option Int)) (x : Int) : Option Int := hs.getD x.toNat none
def cn (hs : List (Option Int)) : Nat := hs.countP fun o => o.isNone
def OkT (hs : List (Option Int)) (p : Int × Int) (d : Int) : Prop := ∃ a c, hv hs p.1 = some a ∧ hv hs p.2 = some c ∧ c = a - d
section
variable {n : Int} {ps : List (Int × Int)} {s s' : List Bool} {hs : List (Option Int)}
def Rdy (ps : List (Int × Int)) (s s' : List Bool) (hs : List (Option Int)) (x : Int) : Prop :=
  ∀ (j : Nat) (p : Int × Int) (b b' : Bool), ps[j]? = some p → s[j]? = some b → s'[j]? = some b' → (x = p.1 ∨ x = p.2) → OkT hs p (tI b - tI b')
theorem hv_get {x : Int} {o : Option Int} (h0 : 0 ≤ x) (h : x < hs.length) (e : hv hs x = o) : hs[x.toNat]? = some o := by
  unfold hv at e
  rw [List.getD_eq_getElem?_getD, List.getElem?_eq_getElem (show x.toNat < hs.length by omega)] at e
  rw [List.getElem?_eq_getElem (show x.toNat < hs.length by omega), ← e]
  rfl
theorem hv_set {x y a : Int} (x0 : 0 ≤ x) (y0 : 0 ≤ y) (y1 : y < hs.length) : hv (hs.set y.toNat (some a)) x = if x = y then some a else hv hs x := by
  unfold hv
  rw [List.getD_eq_getElem?_getD, List.getD_eq_getElem?_getD]
  by_cases e : x = y
  · subst e
    rw [if_pos rfl, List.getElem?_set_self (by omega)]
    rfl
  · rw [if_neg e, List.getElem?_set_ne (by omega)]
theorem cn_set : ∀ {hs : List (Option Int)} {i : Nat} {a : Int}, hs[i]? = some none → cn (hs.set i (some a)) + 1 = cn hs
  | [], _, _, h => by cases h
  | o :: r, 0, a, h => by
    have e : o = none := Option.some.inj h
    subst e
    unfold cn
    rw [List.set_cons_zero, List.countP_cons_of_neg (by simp), List.countP_cons_of_pos (by simp)]
  | o :: r, i + 1, a, h => by
    have ih := cn_set (hs := r) (i := i) (a := a) h
    unfold cn at ih ⊢
    rw [List.set_cons_succ, List.countP_cons, List.countP_cons]
    omega
theorem cn_le (hs : List (Option Int)) : cn hs ≤ hs.length := List.countP_le_length ..
theorem cn_zero (lh : hs.length = n.toNat) (h : ∀ x, 0 ≤ x → x < n → hv hs x ≠ none) : cn hs = 0 := by
  unfold cn
  refine List.countP_eq_zero.mpr fun o ho => ?_
  obtain ⟨i, hi⟩ := List.mem_iff_getElem?.mp ho
  have li := (List.getElem?_eq_some_iff.mp hi).1
  have := h (i : Int) (by omega) (by omega)
  unfold hv at this
  rw [Int.toNat_natCast, List.getD_eq_getElem?_getD, hi] at this
  cases o with
  | none => exact absurd rfl this
  | some a => simp
theorem OkT.mono {p : Int × Int} {d y a : Int} (ok : okS n p) (lh : hs.length = n.toNat) (y0 : 0 ≤ y) (y1 : y < n) (hn : hv hs y = none) (h : OkT hs p d) : OkT (hs.set y.toNat (some a)) p d := by
  obtain ⟨c, e, h1, h2, h3⟩ := h
  obtain ⟨o0, o1, o2⟩ := ok
  refine ⟨c, e, ?_, ?_, h3⟩
  · rw [hv_set o0 y0 (by omega), if_neg fun z => by rw [z, hn] at h1; cases h1]
    exact h1
  · rw [hv_set (by omega) y0 (by omega), if_neg fun z => by rw [z, hn] at h2; cases h2]
    exact h2
theorem Rdy.mono {x y a : Int} (ok : ∀ p ∈ ps, okS n p) (lh : hs.length = n.toNat) (y0 : 0 ≤ y) (y1 : y < n) (hn : hv hs y = none) (h : Rdy ps s s' hs x) : Rdy ps s s' (hs.set y.toNat (some a)) x :=
  fun j p b b' hp hb hb' z => (h j p b b' hp hb hb' z).mono (ok p (List.mem_of_getElem? hp)) lh y0 y1 hn
/-- between two starts -/
structure Sta (n : Int) (ps : List (Int × Int)) (s s' : List Bool) (hs : List (Option Int)) (j : Nat) : Prop where
  lh : hs.length = n.toNat
  cl : ∀ x, 0 ≤ x → x < n → hv hs x ≠ none → Rdy ps s s' hs x
  cs : ∀ f, Hgt ps s s' f → f 0 = 0 → ∀ x a, 0 ≤ x → x < n → hv hs x = some a → a = f x
  zero : j = 0 → ∀ x, 0 ≤ x → x < n → hv hs x = none
  all : 1 ≤ j → ∀ x, 0 ≤ x → x < n → hv hs x ≠ none
/-- going about: places waiting, the first so many done, at the next one z the first i ties looked at -/
structure Bf (n : Int) (ps : List (Int × Int)) (s s' : List Bool) (hs : List (Option Int)) (W : List Int) (A : Nat) (z : Int) (i : Nat) : Prop where
  lh : hs.length = n.toNat
  wr : ∀ x ∈ W, (0 ≤ x ∧ x < n) ∧ hv hs x ≠ none
  cl : ∀ x, 0 ≤ x → x < n → hv hs x ≠ none → x ∈ W ∨ Rdy ps s s' hs x
  dn : ∀ x ∈ W.take A, Rdy ps s s' hs x
  here : ∀ (j : Nat) (p : Int × Int) (b b' : Bool), j < i → ps[j]? = some p → s[j]? = some b → s'[j]? = some b' → (z = p.1 ∨ z = p.2) → OkT hs p (tI b - tI b')
  cs : ∀ f, Hgt ps s s' f → f 0 = 0 → ∀ x a, 0 ≤ x → x < n → hv hs x = some a → a = f x
  nn : W.length + cn hs ≤ n.toNat
theorem Sta.begin (n1 : 1 ≤ n) : Sta n ps s s' (List.replicate n.toNat none) 0 := by
  have e : ∀ x, hv (List.replicate n.toNat none) x = none := fun x => by
    unfold hv
    rw [List.getD_eq_getElem?_getD, List.getElem?_replicate]
    split <;> rfl
  exact ⟨List.length_replicate .., fun x _ _ h => absurd (e x) h, fun f _ _ x a _ _ h => by (rw [e x] at h; cases h), fun _ x _ _ => e x, fun h => absurd h (by decide)⟩
theorem Sta.bf0 {z : Int} (h : Sta n ps s s' hs 0) (n1 : 1 ≤ n) : Bf n ps s s' (hs.set 0 (some 0)) [0] 0 z 0 := by
  have lh := h.lh
  have e : ∀ x, 0 ≤ x → x < n → hv (hs.set 0 (some 0)) x = if x = 0 then some 0 else none := fun x x0 x1 => by
    have := hv_set (hs := hs) (x := x) (y := 0) (a := 0) x0 (by decide) (by omega)
    rw [show (0 : Int).toNat = 0 from rfl] at this
    rw [this]
    split
    · rfl
    · exact h.zero rfl x x0 x1
  refine ⟨by rw [List.length_set]; exact lh, fun x hx => ?_, fun x x0 x1 g => ?_, fun x hx => (nomatch hx), fun j p b b' hj => absurd hj (Nat.not_lt_zero j), fun f hf f0 x a x0 x1 g => ?_, ?_⟩
  · rw [List.mem_singleton.mp hx]
    refine ⟨⟨by decide, by omega⟩, ?_⟩
    rw [e 0 (by decide) (by omega), if_pos rfl]
    exact fun z => by cases z
  · rw [e x x0 x1] at g
    by_cases c : x = 0
    · rw [c]
      exact .inl List.mem_cons_self
    · rw [if_neg c] at g
      exact absurd rfl g
  · rw [e x x0 x1] at g
    by_cases c : x = 0
    · rw [if_pos c] at g
      rw [c, f0]
      exact (Option.some.inj g).symm
    · rw [if_neg c] at g
      cases g
  · have c1 := cn_set (hs := hs) (i := 0) (a := 0) (by
      have := hv_get (hs := hs) (x := 0) (by decide) (by omega) (h.zero rfl 0 (by decide) (by omega))
      exact this)
    have c2 := cn_le hs
    show 1 + cn (hs.set 0 (some 0)) ≤ n.toNat
    omega
theorem Sta.bf {z st : Int} {j : Nat} (h : Sta n ps s s' hs j) (hj : 1 ≤ j) (s0 : 0 ≤ st) (s1 : st < n) : Bf n ps s s' hs [st] 0 z 0 := by
  have all := h.all hj
  refine ⟨h.lh, fun x hx => ?_, fun x x0 x1 g => .inr (h.cl x x0 x1 g), fun x hx => (nomatch hx), fun j p b b' hj => absurd hj (Nat.not_lt_zero j), h.cs, ?_⟩
  · rw [List.mem_singleton.mp hx]
    exact ⟨⟨s0, s1⟩, all st s0 s1⟩
  · rw [cn_zero h.lh all]
    show 1 + 0 ≤ n.toNat
    omega
theorem Bf.next {W : List Int} {A : Nat} {z y : Int} (h : Bf n ps s s' hs W A z ps.length) (hz : W[A]? = some z) : Bf n ps s s' hs W (A + 1) y 0 where
  lh := h.lh
  wr := h.wr
  cl := h.cl
  dn := fun x hx => by
    rw [take_snoc hz] at hx
    rcases List.mem_append.mp hx with k | k
    · exact h.dn x k
    · rw [List.mem_singleton.mp k]
      exact fun j p b b' hp => h.here j p b b' (List.getElem?_eq_some_iff.mp hp).1 hp
  here := fun j p b b' hj => absurd hj (Nat.not_lt_zero j)
  cs := h.cs
  nn := h.nn
theorem Bf.turn {W : List Int} {A : Nat} {z y : Int} (h : Bf n ps s s' hs W A z 0) : Bf n ps s s' hs W A y 0 := ⟨h.lh, h.wr, h.cl, h.dn, fun j p b b' hj => absurd hj (Nat.not_lt_zero j), h.cs, h.nn⟩
theorem Bf.step {W : List Int} {A i : Nat} {z : Int} {p : Int × Int} {b b' : Bool} (h : Bf n ps s s' hs W A z i) (hp : ps[i]? = some p) (hb : s[i]? = some b) (hb' : s'[i]? = some b') (k : (z = p.1 ∨ z = p.2) → OkT hs p (tI b - tI b')) : Bf n ps s s' hs W A z (i + 1) where
  lh := h.lh
  wr := h.wr
  cl := h.cl
  dn := h.dn
  here := fun j q c c' hj hq hc hc' e => by
    by_cases g : j < i
    · exact h.here j q c c' g hq hc hc' e
    · have : j = i := by omega
      subst this
      rw [hp] at hq
      rw [hb] at hc
      rw [hb'] at hc'
      cases hq
      cases hc
      cases hc'
      exact k e
  cs := h.cs
  nn := h.nn
/-- the other end and its height, seen from z -/
def Gl_ (z : Int) (p : Int × Int) (a d g t : Int) : Prop := (z = p.1 ∧ g = p.2 ∧ t = a - d) ∨ (z ≠ p.1 ∧ g = p.1 ∧ t = a + d)
theorem Bf.more {W : List Int} {A i : Nat} {z g t a : Int} {p : Int × Int} {b b' : Bool} (h : Bf n ps s s' hs W A z i) (hz : W[A]? = some z) (ok : ∀ p ∈ ps, okS n p) (hp : ps[i]? = some p) (hb : s[i]? = some b) (hb' : s'[i]? = some b') (ez : z = p.1 ∨ z = p.2) (ha : hv hs z = some a)
    (G : Gl_ z p a (tI b - tI b') g t) (hn : hv hs g = none) : Bf n ps s s' (hs.set g.toNat (some t)) (W ++ [g]) A z (i + 1) := by
  have lh := h.lh
  obtain ⟨o0, o1, o2⟩ := ok p (List.mem_of_getElem? hp)
  have gr : 0 ≤ g ∧ g < n := by rcases G with ⟨_, e, _⟩ | ⟨_, e, _⟩ <;> omega
  have zr := (h.wr z (List.mem_of_getElem? hz)).1
  have zg : z ≠ g := fun e => by
    rw [e, hn] at ha
    cases ha
  have la := (List.getElem?_eq_some_iff.mp hz).1
  have hvs := fun x x0 => hv_set (hs := hs) (x := x) (y := g) (a := t) x0 gr.1 (by omega)
  refine ⟨by rw [List.length_set]; exact lh, fun x hx => ?_, fun x x0 x1 q => ?_, fun x hx => ?_, fun j q c c' hj hq hc hc' e => ?_, fun f hf f0 x c x0 x1 q => ?_, ?_⟩
  · rcases List.mem_append.mp hx with k | k
    · have := h.wr x k
      refine ⟨this.1, ?_⟩
      rw [hvs x this.1.1]
      split
      · exact fun z => by cases z
      · exact this.2
    · rw [List.mem_singleton.mp k]
      refine ⟨gr, ?_⟩
      rw [hvs g gr.1, if_pos rfl]
      exact fun z => by cases z
  · rw [hvs x x0] at q
    by_cases c : x = g
    · rw [c]
      exact .inl (List.mem_append.mpr (.inr (List.mem_singleton.mpr rfl)))
    · rw [if_neg c] at q
      exact (h.cl x x0 x1 q).imp (fun m => List.mem_append.mpr (.inl m)) fun r => r.mono ok lh gr.1 gr.2 hn
  · rw [List.take_append_of_le_length (by omega)] at hx
    exact (h.dn x hx).mono ok lh gr.1 gr.2 hn
  · by_cases gg : j < i
    · exact (h.here j q c c' gg hq hc hc' e).mono (ok q (List.mem_of_getElem? hq)) lh gr.1 gr.2 hn
    · have : j = i := by omega
      subst this
      rw [hp] at hq
      rw [hb] at hc
      rw [hb'] at hc'
      cases hq
      cases hc
      cases hc'
      have vz : hv (hs.set g.toNat (some t)) z = some a := by rw [hvs z zr.1, if_neg zg]; exact ha
      have vg : hv (hs.set g.toNat (some t)) g = some t := by rw [hvs g gr.1, if_pos rfl]
      rcases G with ⟨e1, e2, e3⟩ | ⟨e1, e2, e3⟩
      · exact ⟨a, t, by rw [← e1]; exact vz, by rw [← e2]; exact vg, e3⟩
      · exact ⟨t, a, by rw [← e2]; exact vg, by rw [← ez.resolve_left e1]; exact vz, by omega⟩
  · rw [hvs x x0] at q
    by_cases c1 : x = g
    · rw [if_pos c1] at q
      have et : t = c := Option.some.inj q
      have fz := h.cs f hf f0 z a zr.1 zr.2 ha
      have eq := hf.h i p b b' hp hb hb'
      rw [← et, c1]
      rcases G with ⟨e1, e2, e3⟩ | ⟨e1, e2, e3⟩
      · rw [e1] at fz
        rw [e2]
        omega
      · rw [ez.resolve_left e1] at fz
        rw [e2]
        omega
    · rw [if_neg c1] at q
      exact h.cs f hf f0 x c x0 x1 q
  · have := cn_set (hs := hs) (i := g.toNat) (a := t) (hv_get gr.1 (by omega) hn)
    have nn := h.nn
    rw [List.length_append]
    show W.length + 1 + cn (hs.set g.toNat (some t)) ≤ n.toNat
    omega
/-- a height that does not fit: there are none -/
theorem Bf.clash {W : List Int} {A i : Nat} {z g t a c : Int} {p : Int × Int} {b b' : Bool} (h : Bf n ps s s' hs W A z i) (hz : W[A]? = some z) (ok : ∀ p ∈ ps, okS n p) (hp : ps[i]? = some p) (hb : s[i]? = some b) (hb' : s'[i]? = some b') (ez : z = p.1 ∨ z = p.2) (ha : hv hs z = some a)
    (G : Gl_ z p a (tI b - tI b') g t) (hg : hv hs g = some c) (ne : c ≠ t) : ¬ ∃ f, Hgt ps s s' f := by
  rintro ⟨f, hf⟩
  obtain ⟨o0, o1, o2⟩ := ok p (List.mem_of_getElem? hp)
  have gr : 0 ≤ g ∧ g < n := by rcases G with ⟨_, e, _⟩ | ⟨_, e, _⟩ <;> omega
  have zr := (h.wr z (List.mem_of_getElem? hz)).1
  have hf' := hf.add (- f 0)
  have z0 : f 0 + - f 0 = 0 := by omega
  have fz : a = f z + - f 0 := h.cs _ hf' z0 z a zr.1 zr.2 ha
  have fg : c = f g + - f 0 := h.cs _ hf' z0 g c gr.1 gr.2 hg
  have eq := hf.h i p b b' hp hb hb'
  rcases G with ⟨e1, e2, e3⟩ | ⟨e1, e2, e3⟩
  · rw [e1] at fz
    rw [e2] at fg
    omega
  · rw [ez.resolve_left e1] at fz
    rw [e2] at fg
    omega
theorem Bf.fits {W : List Int} {A i : Nat} {z g t a : Int} {p : Int × Int} {d : Int} (ez : z = p.1 ∨ z = p.2) (ha : hv hs z = some a) (G : Gl_ z p a d g t) (hg : hv hs g = some t) : OkT hs p d := by
  rcases G with ⟨e1, e2, e3⟩ | ⟨e1, e2, e3⟩
  · exact ⟨a, t, by rw [← e1]; exact ha, by rw [← e2]; exact hg, e3⟩
  · exact ⟨t, a, by rw [← e2]; exact hg, by rw [← ez.resolve_left e1]; exact ha, by omega⟩
theorem Bf.end_ {W : List Int} {z st : Int} {j : Nat} (h : Bf n ps s s' hs W W.length z 0) (hl : s.length = ps.length) (hl' : s'.length = ps.length) (ok : ∀ p ∈ ps, okS n p) (nr : Near n ps) (hst : st ∈ W) : Sta n ps s s' hs (j + 1) := by
  have cl : ∀ x, 0 ≤ x → x < n → hv hs x ≠ none → Rdy ps s s' hs x := fun x x0 x1 q => (h.cl x x0 x1 q).elim (fun m => h.dn x (by rw [List.take_length]; exact m)) id
  obtain ⟨sr, sn⟩ := h.wr st hst
  refine ⟨h.lh, cl, h.cs, fun e => absurd e (Nat.succ_ne_zero j), fun _ x x0 x1 q => ?_⟩
  have := nr.conn (fun x => if hv hs x = none then 0 else 1) (fun p hp => ?_) x0 x1 sr.1 sr.2
  · have this : (if hv hs x = none then (0 : Int) else 1) = if hv hs st = none then 0 else 1 := this
    rw [if_pos q, if_neg sn] at this
    exact absurd this (by decide)
  · obtain ⟨i, hi⟩ := List.mem_iff_getElem?.mp hp
    obtain ⟨b, hb⟩ := get_of hl hi
    obtain ⟨b', hb'⟩ := get_of hl' hi
    obtain ⟨o0, o1, o2⟩ := ok p hp
    show (if hv hs p.1 = none then (0 : Int) else 1) = if hv hs p.2 = none then 0 else 1
    by_cases c1 : hv hs p.1 = none
    · by_cases c2 : hv hs p.2 = none
      · rw [if_pos c1, if_pos c2]
      · obtain ⟨a, c, e1, e2, e3⟩ := cl p.2 (by omega) (by omega) c2 i p b b' hi hb hb' (.inr rfl)
        rw [c1] at e1
        cases e1
    · obtain ⟨a, c, e1, e2, e3⟩ := cl p.1 (by omega) (by omega) c1 i p b b' hi hb hb' (.inl rfl)
      rw [e1, e2, if_neg (fun z => by cases z), if_neg (fun z => by cases z)]
theorem Sta.hgt {j : Nat} (h : Sta n ps s s' hs (j + 1)) (hl : s.length = ps.length) (hl' : s'.length = ps.length) (ok : ∀ p ∈ ps, okS n p) : ∃ f, Hgt ps s s' f := by
  refine ⟨fun x => (hv hs x).getD 0, hl, hl', fun i p b b' hp hb hb' => ?_⟩
  obtain ⟨o0, o1, o2⟩ := ok p (List.mem_of_getElem? hp)
  obtain ⟨a, c, e1, e2, e3⟩ := h.cl p.1 o0 (by omega) (h.all (Nat.succ_le_succ (Nat.zero_le j)) p.1 o0 (by omega)) i p b b' hp hb hb' (.inl rfl)
  show tI b' = tI b - (hv hs p.1).getD 0 + (hv hs p.2).getD 0
  rw [e1, e2]
  show tI b' = tI b - a + c
  omega
end
def oV : Option Int → V
  | none => .non
  | some i => .int i
theorem oV_at {hs : List (Option Int)} {x : Int} (x0 : 0 ≤ x) (x1 : x < hs.length) : atI (hs.map oV) x = some (oV (hv hs x)) := by
  obtain ⟨k, rfl⟩ := Int.eq_ofNat_of_zero_le x0
  refine atI_nat ?_
  have := hv_get (hs := hs) (x := (k : Int)) x0 x1 rfl
  rw [Int.toNat_natCast] at this
  rw [List.getElem?_map, this]
  rfl
end K42
set_option Elab.async false
set_option linter.all false
set_option maxRecDepth 100000
set_option maxHeartbeats 8000000
/-! Heights: the law's going about. -/
namespace K42
open PySem L2 Rl
/-- the lists of heights and of ways -/
structure Mem (H H' : Hp) (HL WL : Addr) (n : Int) (hs : List (Option Int)) (ws : List V) : Prop where
  sm : Same H H'
  hh : H' HL = some (.lst (hs.map oV))
  hw : H' WL = some (.lst ws)
  lw : ws.length = n.toNat
  wy : ∀ x, 0 ≤ x → x < n → ∃ (e : Addr) (l : List Int), ws[x.toNat]? = some (.ref e) ∧ H' e = some (.tup (l.map V.int)) ∧ l.length + cn hs ≤ n.toNat ∧ (hv hs x ≠ none → x = 0 ∨ l ≠ [])
theorem Mem.same {H H' H'' : Hp} {HL WL : Addr} {n : Int} {hs : List (Option Int)} {ws : List V} (e : Same H' H'') (m : Mem H H' HL WL n hs ws) : Mem H H'' HL WL n hs ws :=
  ⟨m.sm.trans e, e _ _ m.hh, e _ _ m.hw, m.lw, fun x x0 x1 => by
    obtain ⟨a, l, h1, h2, h3⟩ := m.wy x x0 x1
    exact ⟨a, l, h1, e _ _ h2, h3⟩⟩
theorem Mem.queue {H H' : Hp} {HL WL QL : Addr} {n : Int} {hs : List (Option Int)} {ws l l' : List V} (nQ : H QL = none) (hq : H' QL = some (.lst l)) (n1 : HL ≠ QL) (n2 : WL ≠ QL) (m : Mem H H' HL WL n hs ws) : Mem H (L2.upd H' QL (.lst l')) HL WL n hs ws :=
  ⟨fun o u ho => by rw [upd_ne (ne_of_none ho nQ)]; exact m.sm _ _ ho, by rw [upd_ne n1]; exact m.hh, by rw [upd_ne n2]; exact m.hw, m.lw, fun x x0 x1 => by
    obtain ⟨a, l, h1, h2, h3⟩ := m.wy x x0 x1
    exact ⟨a, l, h1, by rw [upd_ne (ne_of h2 hq (by intro z; cases z))]; exact h2, h3⟩⟩
theorem Mem.start {H H' : Hp} {HL WL : Addr} {n a : Int} {hs : List (Option Int)} {ws : List V} (nH : H HL = none) (n1 : HL ≠ WL) (h0 : hv hs 0 = none) (l0 : 0 < hs.length) (m : Mem H H' HL WL n hs ws) : Mem H (L2.upd H' HL (.lst ((hs.map oV).set 0 (.int a)))) HL WL n (hs.set 0 (some a)) ws := by
  have e : (hs.map oV).set 0 (.int a) = (hs.set 0 (some a)).map oV := by rw [List.map_set]; rfl
  have c := cn_set (hs := hs) (i := 0) (a := a) (hv_get (x := 0) (by decide) (by omega) h0)
  refine ⟨fun o u ho => by rw [upd_ne (ne_of_none ho nH)]; exact m.sm _ _ ho, by rw [upd_same, e], by rw [upd_ne n1.symm]; exact m.hw, m.lw, fun x x0 x1 => ?_⟩
  obtain ⟨b, l, h1, h2, h3, h4⟩ := m.wy x x0 x1
  refine ⟨b, l, h1, by rw [upd_ne (ne_of h2 m.hh (by intro z; cases z))]; exact h2, by omega, fun g => ?_⟩
  have := hv_set (hs := hs) (x := x) (y := 0) (a := a) x0 (by decide) (by omega)
  rw [show (0 : Int).toNat = 0 from rfl] at this
  rw [this] at g
  by_cases z : x = 0
  · exact .inl z
  · rw [if_neg z] at g
    exact h4 g
theorem Mem.again {H H' : Hp} {HL WL : Addr} {n : Int} {hs : List (Option Int)} {ws : List V} {k : Nat} {v : V} (nH : H HL = none) (n1 : HL ≠ WL) (hk : (hs.map oV)[k]? = some v) (m : Mem H H' HL WL n hs ws) : Mem H (L2.upd H' HL (.lst ((hs.map oV).set k v))) HL WL n hs ws := by
  have e : (hs.map oV).set k v = hs.map oV := by
    refine List.ext_getElem? fun i => ?_
    by_cases c : k = i
    · subst c
      rw [List.getElem?_set_self (List.getElem?_eq_some_iff.mp hk).1, hk]
    · rw [List.getElem?_set_ne c]
  refine ⟨fun o u ho => by rw [upd_ne (ne_of_none ho nH)]; exact m.sm _ _ ho, by rw [upd_same, e], by rw [upd_ne n1.symm]; exact m.hw, m.lw, fun x x0 x1 => ?_⟩
  obtain ⟨b, l, h1, h2, h3⟩ := m.wy x x0 x1
  exact ⟨b, l, h1, by rw [upd_ne (ne_of h2 m.hh (by intro z; cases z))]; exact h2, h3⟩
theorem Mem.more {H H' : Hp} {HL WL p3 : Addr} {n g t : Int} {i : Nat} {hs : List (Option Int)} {ws : List V} {l : List Int} (nH : H HL = none) (nW : H WL = none) (n1 : HL ≠ WL) (g0 : 0 ≤ g) (g1 : g < n) (lh : hs.length = n.toNat) (hg : hv hs g = none)
    (ll : l.length + cn hs ≤ n.toNat) (h3 : H' p3 = some (.tup ((l ++ [(i : Int)]).map V.int))) (m : Mem H H' HL WL n hs ws) :
    Mem H (L2.upd (L2.upd H' HL (.lst ((hs.map oV).set g.toNat (.int t)))) WL (.lst (ws.set g.toNat (.ref p3)))) HL WL n (hs.set g.toNat (some t)) (ws.set g.toNat (.ref p3)) := by
  have e : (hs.map oV).set g.toNat (.int t) = (hs.set g.toNat (some t)).map oV := by rw [List.map_set]; rfl
  have c := cn_set (hs := hs) (i := g.toNat) (a := t) (hv_get g0 (by omega) hg)
  have lw := m.lw
  have keep : ∀ (b : Addr) (xs : List V), H' b = some (.tup xs) → L2.upd (L2.upd H' HL (.lst ((hs.map oV).set g.toNat (.int t)))) WL (.lst (ws.set g.toNat (.ref p3))) b = some (.tup xs) := fun b xs hb => by
    rw [upd_ne (ne_of hb m.hw (by intro z; cases z)), upd_ne (ne_of hb m.hh (by intro z; cases z))]
    exact hb
  refine ⟨fun o u ho => by rw [upd_ne (ne_of_none ho nW), upd_ne (ne_of_none ho nH)]; exact m.sm _ _ ho, by rw [upd_ne n1, upd_same, e], upd_same, by rw [List.length_set]; exact lw, fun x x0 x1 => ?_⟩
  by_cases k : x = g
  · subst k
    refine ⟨p3, l ++ [(i : Int)], by rw [List.getElem?_set_self (by omega)], keep _ _ h3, ?_, fun _ => .inr (by simp)⟩
    rw [List.length_append]
    show l.length + 1 + _ ≤ _
    omega
  · obtain ⟨b, l', h1, h2, h4, h5⟩ := m.wy x x0 x1
    refine ⟨b, l', by rw [List.getElem?_set_ne (by omega)]; exact h1, keep _ _ h2, by omega, fun q => ?_⟩
    rw [hv_set x0 g0 (by omega), if_neg k] at q
    exact h5 q
def spHeights : Sp := fun vs H Q _ => ∃ (t a b : Addr) (n : Int) (ps : List (Int × Int)) (s s' : List Bool), vs = [.int n, .ref t, .ref a, .ref b] ∧ TiesAt H t ps ∧ SgAt H a s ∧ SgAt H b s' ∧ s.length = ps.length ∧ s'.length = ps.length ∧ ps.length ≤ 16 ∧ 1 ≤ n ∧ n ≤ 10 ∧ (∀ p ∈ ps, okS n p) ∧ Near n ps ∧
  ∀ y u v H', Same H H' → H' y = some (.tup [u, v]) → ((v = .non ∧ ∃ f, Hgt ps s s' f) ∨ ((∃ d, v = .ref d) ∧ ¬ ∃ f, Hgt ps s s' f)) → Q (.ref y) H'
theorem rep_flat {v : V} : ∀ k : Nat, (List.replicate k [v]).flatten = List.replicate k v
  | 0 => rfl
  | k + 1 => by rw [List.replicate_succ, List.flatten_cons, rep_flat k, List.replicate_succ]; rfl
theorem ite_bl {b : Bool} : (if b = true then (1 : Int) else 0) = tI b := rfl
section
variable {P : Program} {w : World} {K : PySem.W.Frag} {mg : Str → Option Value} {base : Heap}
theorem ok_l_heights (T : Tx K mg) : FnOk P w K mg base CX0 1 T.f_l_heights T.d_l_heights ["many", "ties", "one", "other"] spHeights := by
  refine T.F_l_heights.ok sc_l_heights (fun vs H Q E h => ?_) (fun cdv A outer s H vs Q E hr h => ?_)
  · obtain ⟨t, a, b, n, ps, s, s', rfl, _⟩ := h
    rfl
  obtain ⟨t, a, b, n, ps, sg, sg', rfl, ht, ha, hb, ls, ls', l16, n0, n1, ok, nr, q⟩ := h
  obtain ⟨vs, htv, hv0⟩ := ht
  have ha : H a = some (.tup (bV sg)) := ha
  have hb : H b = some (.tup (bV sg')) := hb
  have lv := hv0.len
  refine ⟨_, (pss_cons (ps_par (i := 4) (j := 5) rfl sc_l_heights.nd rfl rfl (by decide) rfl rfl (pa_cons (pe_op op_rep (pe_lst (pa_cons pe_non pa_nil)) (pv 0)) (pa_cons (pe_op op_rep (pe_lst (pa_cons (pe_tup pa_nil) pa_nil)) (pv 0)) pa_nil)) (by rfl))
    (pss_cons (ps_for PassesOwn.never rfl (pi_range1 (by rfl) T.g_range (pa_cons (pv 0) pa_nil)) (pg_name (i := 6) sc_l_heights.nd rfl (.inl rfl))
      (pss_cons (ps_par (i := 7) (j := 8) rfl sc_l_heights.nd rfl rfl (by decide) rfl rfl (pa_cons (pe_lst (pa_cons (pv 6) pa_nil)) (pa_cons pe_int pa_nil)) (by rfl))
        (Evl.pss_cut (ps_asg (pe_ifExp (pt_cmpR op_isN (pe_ix ix_list (pv 4) (pv 6) (fun _ _ => rfl)) pe_non (nomark _)) pe_int (pe_ix ix_list (pv 4) (pv 6) (fun _ _ => rfl))) (pg_sub (pv 4) (pv 6) set_list))
        (pss_one (ps_while PassesOwn.never (pt_cmpR op_lt (pv 8) (pe_callB call_len_seq (by rfl) T.g_len PySem.boot_len (pa_cons (pv 7) pa_nil)) (nomark _))
          (pss_cons (ps_par (i := 9) (j := 8) rfl sc_l_heights.nd rfl rfl (by decide) rfl rfl (pa_cons (pe_ix ix_list (pv 7) (pv 8) (fun _ _ => rfl)) (pa_cons (pe_op op_add (pv 8) pe_int) pa_nil)) (by rfl))
            (pss_one (ps_for PassesOwn.never rfl (pi_enT (by rfl) T.g_enumerate (pa_cons (pv 1) pa_nil)) (pg_tup rfl (pgs_cons (pg_name (i := 10) sc_l_heights.nd rfl (.inl rfl)) (pgs_cons (pg_tup rfl (pgs_cons (pg_name (i := 11) sc_l_heights.nd rfl (.inl rfl)) (pgs_cons (pg_name (i := 12) sc_l_heights.nd rfl (.inl rfl)) pgs_nil))) pgs_nil)))
              (pss_cons (ps_set (i := 13) sc_l_heights.nd rfl (.inl rfl) (pe_op op_sub (pe_callTy call_int1 (by rfl) T.g_int (by decide +kernel) (pa_cons (pe_ix ix_tup (pv 2) (pv 10) (fun _ _ => rfl)) pa_nil)) (pe_callTy call_int1 (by rfl) T.g_int (by decide +kernel) (pa_cons (pe_ix ix_tup (pv 3) (pv 10) (fun _ _ => rfl)) pa_nil))))
                (Evl.pss_cut (ps_asg (pe_ifExp (pt_cmpR op_eq (pv 9) (pv 11) (nomark _)) (pe_tup (pa_cons (pv 12) (pa_cons (pe_op op_sub (pe_ix ix_list (pv 4) (pv 9) (fun _ _ => rfl)) (pv 13)) pa_nil))) (pe_tup (pa_cons (pv 11) (pa_cons (pe_op op_add (pe_ix ix_list (pv 4) (pv 9) (fun _ _ => rfl)) (pv 13)) pa_nil)))) (pg_tup rfl (pgs_cons (pg_name (i := 14) sc_l_heights.nd rfl (.inl rfl)) (pgs_cons (pg_name (i := 15) sc_l_heights.nd rfl (.inl rfl)) pgs_nil))))
                (pss_one (ps_if (PW.pt (pw_and (pt_cmpR op_in_seq (pv 9) (pe_tup (pa_cons (pv 11) (pa_cons (pv 12) pa_nil))) (by rfl)) (pw_and1 (pt_cmpR op_isN (pe_ix ix_list (pv 4) (pv 14) (fun _ _ => rfl)) pe_non (nomark _)))))
                  (pss_cons (ps_asg (pe_tup (pa_cons (pv 15) (pa_cons (pe_op op_catA (pe_ix ix_list (pv 5) (pv 9) (fun _ _ => rfl)) (pe_tup (pa_cons (pv 10) pa_nil))) pa_nil))) (pg_tup rfl (pgs_cons (pg_sub (pv 4) (pv 14) set_list) (pgs_cons (pg_sub (pv 5) (pv 14) set_list) pgs_nil))))
                    (pss_one (ps_expr (pe_bm PySem.F.plainAttrs_list PySem.F.slot_list_append PySem.F.type_list_append mt_append (pv 7) (pa_cons (pv 14) pa_nil)))))
                  (pss_one (ps_if (PW.pt (pw_and (pt_cmpR op_in_seq (pv 9) (pe_tup (pa_cons (pv 11) (pa_cons (pv 12) pa_nil))) (by rfl)) (pw_and1 (pt_cmpR op_ne (pe_ix ix_list (pv 4) (pv 14) (fun _ _ => rfl)) (pv 15) (nomark _)))))
                      (pss_cons (ps_set (i := 16) sc_l_heights.nd rfl (.inr rfl) (pe_op KR.op_catF (pe_op op_catA (pe_ix ix_list (pv 5) (pv 9) (fun _ _ => rfl)) (pe_ix ix_list (pv 5) (pv 14) (fun _ _ => rfl))) (pe_tup (pa_cons (pv 10) pa_nil))))
                        (pss_one (ps_ret (pe_tup (pa_cons pe_non (pa_cons (pe_callTy call_tuple_of (by rfl) T.g_tuple (by decide +kernel) (pa_cons (pe_callB cr_sortedI (by rfl) T.g_sorted (by decide +kernel) (pa_cons (pe_lc (own := [("tie", 17)]) (g := (gName 17)) (tt := (tTest (tOp rEq (KR.tTcn K (tVar 16) (tCons (tVar 17) tNil)) (tC (.int 1))))) (te := (tVar 17)) rfl sc_l_heights.nd (pi_tup (pv 16)) (blkOk_by (own := [("tie", 17)]) (N := N_l_heights) (sc := defScope s_l_heights) (by decide +kernel)) (fun _ _ _ _ _ => (pg_name (i := 17) sc_l_heights.nd rfl (.inl rfl))) (fun _ _ _ _ _ => (pts_one (pt_cmpR op_eq (KR.pe_tcn (pv 16) (pa_cons (pv 17) pa_nil)) pe_int (nomark _)))) (fun _ _ _ _ _ => (pv 17))) pa_nil)) pa_nil)) pa_nil))))))
                      pss_nil))))))))))))))
    (pss_one (ps_ret (pe_tup (pa_cons (pv 4) (pa_cons pe_non pa_nil))))))), ?_⟩
  refine ⟨(by show 1 ≤ sizeLine; decide), fun L1 nL1 => ⟨_, rfl, L1, n, [.non], rfl, rfl, upd_same, by omega, by omega, ?_, fun HL nHL => ?_⟩⟩
  · have : 1 * n.toNat ≤ 1000 := by omega
    exact Nat.le_trans this (by decide)
  refine ⟨(by show 0 ≤ sizeLine; decide), fun e0 ne0 => ⟨(by show 1 ≤ sizeLine; decide), fun L2_ nL2 => ⟨_, rfl, L2_, n, [.ref e0], rfl, rfl, upd_same, by omega, by omega, ?_, fun WL nWL => ⟨_, _, rfl, ?_⟩⟩⟩⟩
  · have : 1 * n.toNat ≤ 1000 := by omega
    exact Nat.le_trans this (by decide)
  have t1 := same_new nL1 (.lst [V.non])
  have t2 := same_new nHL (.lst ((List.replicate n.toNat [V.non]).flatten))
  have h2 : (L2.upd (L2.upd H L1 (.lst [V.non])) HL (.lst ((List.replicate n.toNat [V.non]).flatten))) HL = some (.lst ((List.replicate n.toNat (none : Option Int)).map oV)) := by
    rw [upd_same, rep_flat, List.map_replicate]
    rfl
  have nH : H HL = none := t1.free nHL
  generalize L2.upd (L2.upd H L1 (.lst [V.non])) HL (.lst ((List.replicate n.toNat [V.non]).flatten)) = H2 at *
  have t3 := same_new ne0 (.tup [])
  have he0 : (L2.upd H2 e0 (.tup [])) e0 = some (.tup (([] : List Int).map V.int)) := upd_same
  have t4 := same_new nL2 (.lst [V.ref e0])
  have t5 := same_new nWL (.lst ((List.replicate n.toNat [V.ref e0]).flatten))
  have t25 := t3.trans (t4.trans t5)
  have t05 : Same H _ := (t1.trans t2).trans t25
  have hw5 : (L2.upd (L2.upd (L2.upd H2 e0 (.tup [])) L2_ (.lst [V.ref e0])) WL (.lst ((List.replicate n.toNat [V.ref e0]).flatten))) WL = some (.lst (List.replicate n.toNat (V.ref e0))) := by
    rw [upd_same, rep_flat]
  have he5 := t5 _ _ (t4 _ _ he0)
  have n12 : HL ≠ WL := ne_of_none (t4 _ _ (t3 _ _ h2)) nWL
  have nW : H WL = none := ((t1.trans t2).trans (t3.trans t4)).free nWL
  have m0 : Mem H (L2.upd (L2.upd (L2.upd H2 e0 (.tup [])) L2_ (.lst [V.ref e0])) WL (.lst ((List.replicate n.toNat [V.ref e0]).flatten))) HL WL n (List.replicate n.toNat none) (List.replicate n.toNat (V.ref e0)) := by
    refine ⟨t05, t25 _ _ h2, hw5, List.length_replicate .., fun x x0 x1 => ⟨e0, [], ?_, he5, ?_, fun g => absurd ((Sta.begin (ps := ps) (s := sg) (s' := sg') n0).zero rfl x x0 x1) g⟩⟩
    · rw [List.getElem?_replicate, if_pos (by omega)]
    · have := cn_le (List.replicate n.toNat (none : Option Int))
      rw [List.length_replicate] at this
      show 0 + _ ≤ _
      omega
  generalize L2.upd (L2.upd (L2.upd H2 e0 (.tup [])) L2_ (.lst [V.ref e0])) WL (.lst ((List.replicate n.toNat [V.ref e0]).flatten)) = H5 at *
  clear hw5 he5 t05 t25 t5 t4 he0 t3 h2 t2 t1 nWL nL2 ne0 nHL nL1
  refine ⟨_, rfl, n, rfl, by omega, by omega, ?_⟩
  refine for_range (lo := 0) (n := n.toNat) (fun j σ H' => ∃ hs ws y6 y7 y8 y9 y10 y11 y12 y13 y14 y15 y16, σ = [some (.int n), some (.ref t), some (.ref a), some (.ref b), some (.ref HL), some (.ref WL), y6, y7, y8, y9, y10, y11, y12, y13, y14, y15, y16, none] ∧ Mem H H' HL WL n hs ws ∧ Sta n ps sg sg' hs j)
    ⟨_, _, _, _, _, _, _, _, _, _, _, _, _, rfl, m0, Sta.begin n0⟩ ?_ ?_
  · clear m0
    intro j σ H6 hj ⟨hs, ws, y6, y7, y8, y9, y10, y11, y12, y13, y14, y15, y16, e, m, st⟩
    subst e
    have e0' : (0 : Int) + (j : Int) = (j : Int) := Int.zero_add _
    refine ⟨_, rfl, (by show 1 ≤ sizeLine; decide), fun QL nQ => ⟨_, _, rfl, ?_⟩⟩
    have sQ := same_new nQ (.lst [V.int (0 + (j : Int))])
    have hq7 : (L2.upd H6 QL (.lst [V.int (0 + (j : Int))])) QL = some (.lst ([(j : Int)].map V.int)) := by
      rw [upd_same, e0']
      rfl
    have nQ0 : H QL = none := m.sm.free nQ
    have n13 : HL ≠ QL := ne_of_none m.hh nQ
    have n23 : WL ≠ QL := ne_of_none m.hw nQ
    have m7 := m.same sQ
    generalize L2.upd H6 QL (.lst [V.int (0 + (j : Int))]) = H7 at *
    have lh := st.lh
    refine ⟨fun σ' H'' => ∃ hs1, σ' = [some (.int n), some (.ref t), some (.ref a), some (.ref b), some (.ref HL), some (.ref WL), some (.int (0 + (j : Int))), some (.ref QL), some (.int 0), y9, y10, y11, y12, y13, y14, y15, y16, none] ∧ Mem H H'' HL WL n hs1 ws ∧ H'' QL = some (.lst ([(j : Int)].map V.int)) ∧ Bf n ps sg sg' hs1 [(j : Int)] 0 0 0, ?_, ?_⟩
    · have at_ : atI (hs.map oV) (0 + (j : Int)) = some (oV (hv hs (j : Int))) := by
        rw [e0']
        exact oV_at (by omega) (by omega)
      have ixj : ixN (hs.map oV).length (0 + (j : Int)) = some j := by
        rw [e0', List.length_map]
        exact ixN_of (k := (j : Int)) (by omega) (by rw [Int.toNat_natCast]; omega)
      have gj : (hs.map oV)[j]? = some (oV (hv hs (j : Int))) := by
        have := hv_get (hs := hs) (x := (j : Int)) (by omega) (by omega) rfl
        rw [Int.toNat_natCast] at this
        rw [List.getElem?_map, this]
        rfl
      refine ⟨_, rfl, _, rfl, HL, _, _, _, rfl, rfl, SqL.of m7.hh, at_, rfl, _, rfl, ?_⟩
      by_cases z : j = 0
      · subst z
        have h0 : hv hs ((0 : Nat) : Int) = none := st.zero rfl 0 (by decide) (by omega)
        rw [h0, show decide (oV none = V.non) = true from rfl]
        refine iteT ⟨_, rfl, _, rfl, HL, _, _, 0, rfl, rfl, m7.hh, ixj, ?_⟩
        refine ⟨hs.set 0 (some 0), rfl, m7.start nH n12 h0 (by omega), ?_, st.bf0 n0⟩
        rw [upd_ne n13.symm]
        exact hq7
      · have hn := st.all (by omega) (j : Int) (by omega) (by omega)
        obtain ⟨c, hc⟩ : ∃ c, hv hs (j : Int) = some c := by
          cases hcc : hv hs (j : Int) with
          | none => exact absurd hcc hn
          | some c => exact ⟨c, rfl⟩
        rw [hc] at gj at_ ⊢
        rw [show decide (oV (some c) = V.non) = false from decide_eq_false fun z => by cases z]
        refine iteF ⟨_, rfl, _, rfl, HL, _, _, _, rfl, rfl, SqL.of m7.hh, at_, _, rfl, _, rfl, HL, _, _, j, rfl, rfl, m7.hh, ixj, ?_⟩
        refine ⟨hs, rfl, m7.again nH n12 gj, ?_, st.bf (by omega) (by omega) (by omega)⟩
        rw [upd_ne n13.symm]
        exact hq7
    clear m7 hq7 sQ nQ m st lh
    intro σ' H8 ⟨hs1, e, m8, hq8, bf8⟩
    subst e
    refine ⟨fun m σ' H' => ∃ hs ws W A y9 y10 y11 y12 y13 y14 y15 y16, σ' = [some (.int n), some (.ref t), some (.ref a), some (.ref b), some (.ref HL), some (.ref WL), some (.int (0 + (j : Int))), some (.ref QL), some (.int ((A : Nat) : Int)), y9, y10, y11, y12, y13, y14, y15, y16, none] ∧ Mem H H' HL WL n hs ws ∧ H' QL = some (.lst (W.map V.int)) ∧ Bf n ps sg sg' hs W A 0 0 ∧ A ≤ W.length ∧ (j : Int) ∈ W ∧ m = n.toNat - A,
      ⟨_, hs1, ws, [(j : Int)], 0, _, _, _, _, _, _, _, _, rfl, m8, hq8, bf8, Nat.zero_le _, List.mem_cons_self, rfl⟩, ?_⟩
    clear bf8 hq8 m8
    intro mm σ' H9 ⟨hs, ws, W, A, y9, y10, y11, y12, y13, y14, y15, y16, e, m, hq, bf, lA, jW, em⟩
    subst e
    refine ⟨_, rfl, _, rfl, QL, _, rfl, .inl (SqL.of hq), _, _, rfl, rfl, _, rfl, ?_⟩
    by_cases lt : A < W.length
    · rw [decide_eq_true (show ((A : Nat) : Int) < (((W.map V.int).length : Nat) : Int) by rw [List.length_map]; omega)]
      refine iteT ⟨_, fun _ _ z => z, ?_⟩
      have hz : W[A]? = some W[A] := List.getElem?_eq_getElem lt
      generalize W[A] = z at hz
      have gat : atI (W.map V.int) ((A : Nat) : Int) = some (.int z) := atI_nat (by rw [List.getElem?_map, hz]; rfl)
      refine ⟨_, rfl, _, rfl, QL, _, _, _, rfl, rfl, SqL.of hq, gat, _, rfl, _, 1, rfl, rfl, _, _, rfl, ?_⟩
      refine ⟨_, rfl, t, _, rfl, SqT.of (m.sm _ _ htv), for_enT (fun i σ H' => ∃ hs ws W y10 y11 y12 y13 y14 y15 y16, σ = [some (.int n), some (.ref t), some (.ref a), some (.ref b), some (.ref HL), some (.ref WL), some (.int (0 + (j : Int))), some (.ref QL), some (.int ((A : Int) + 1)), some (.int z), y10, y11, y12, y13, y14, y15, y16, none] ∧ Mem H H' HL WL n hs ws ∧ H' QL = some (.lst (W.map V.int)) ∧ Bf n ps sg sg' hs W A z i ∧ W[A]? = some z ∧ (j : Int) ∈ W)
        ⟨hs, ws, W, _, _, _, _, _, _, _, rfl, m, hq, bf.turn, hz, jW⟩ (fun i σ H' ⟨_, _, _, _, _, _, _, _, _, _, _, m, _⟩ => SqT.of (m.sm _ _ htv)) ?_ ?_⟩
      · clear hq bf lA jW hz gat m
        intro i x T2 σ H' hx ⟨hs, ws, W, y10, y11, y12, y13, y14, y15, y16, e, m, hq, bf, hz, jW⟩ nT
        subst e
        obtain ⟨p, c, hp, ey, hc⟩ := (hv0.same m.sm).get hx
        subst ey
        obtain ⟨b1, hb1⟩ := get_of ls hp
        obtain ⟨b2, hb2⟩ := get_of ls' hp
        obtain ⟨o0, o1, o2⟩ := ok p (List.mem_of_getElem? hp)
        have lh := bf.lh
        obtain ⟨zr, zn⟩ := bf.wr z (List.mem_of_getElem? hz)
        obtain ⟨az, haz⟩ : ∃ c, hv hs z = some c := by
          cases hcc : hv hs z with
          | none => exact absurd hcc zn
          | some c => exact ⟨c, rfl⟩
        have s2 : Same H' (L2.upd H' T2 (.tup [.int (i : Int), .ref c])) := same_new nT _
        refine ⟨T2, _, rfl, SqT.of upd_same, rfl, _, _, rfl, _, _, rfl, c, _, rfl, SqT.of (s2 _ _ hc), rfl, _, _, rfl, _, _, rfl, rfl, rfl, ?_⟩
        have m2 := m.same s2
        have hq2 := s2 _ _ hq
        generalize L2.upd H' T2 (.tup [.int (i : Int), .ref c]) = H2 at *
        clear m hq hc s2 nT
        have g1 : (bV sg)[i]? = some (.bl b1) := by unfold bV; rw [List.getElem?_map, hb1]; rfl
        have g2 : (bV sg')[i]? = some (.bl b2) := by unfold bV; rw [List.getElem?_map, hb2]; rfl
        refine ⟨_, rfl, _, rfl, a, _, _, _, rfl, rfl, SqT.of (m2.sm _ _ ha), atI_nat g1, .inr ⟨b1, rfl, _, rfl, _, rfl, b, _, _, _, rfl, rfl, SqT.of (m2.sm _ _ hb), atI_nat g2, .inr ⟨b2, rfl, _, _, rfl, rfl, ?_⟩⟩⟩
        have az_at : atI (hs.map oV) z = some (.int az) := by
          rw [oV_at zr.1 (by omega), haz]
          rfl
        refine ⟨fun σ' H'' => ∃ g tt, σ' = [some (.int n), some (.ref t), some (.ref a), some (.ref b), some (.ref HL), some (.ref WL), some (.int (0 + (j : Int))), some (.ref QL), some (.int ((A : Int) + 1)), some (.int z), some (.int (i : Int)), some (.int p.1), some (.int p.2), some (.int (tI b1 - tI b2)), some (.int g), some (.int tt), y16, none] ∧ Same H2 H'' ∧ Gl_ z p az (tI b1 - tI b2) g tt, ?_, ?_⟩
        · refine ⟨_, rfl, _, rfl, rfl, _, rfl, ?_⟩
          rw [dec_vint]
          by_cases c1 : z = p.1
          · rw [decide_eq_true c1]
            exact iteT ⟨_, rfl, _, rfl, _, rfl, HL, _, _, _, rfl, rfl, SqL.of m2.hh, az_at, _, rfl, _, _, rfl, rfl, (by show 2 ≤ sizeLine; decide), fun Z nZ => ⟨Z, _, rfl, SqT.of upd_same, rfl, _, _, rfl, _, _, rfl, rfl, _, _, rfl, same_new nZ _, .inl ⟨c1, rfl, rfl⟩⟩⟩
          · rw [decide_eq_false c1]
            exact iteF ⟨_, rfl, _, rfl, _, rfl, HL, _, _, _, rfl, rfl, SqL.of m2.hh, az_at, _, rfl, _, _, rfl, rfl, (by show 2 ≤ sizeLine; decide), fun Z nZ => ⟨Z, _, rfl, SqT.of upd_same, rfl, _, _, rfl, _, _, rfl, rfl, _, _, rfl, same_new nZ _, .inr ⟨c1, rfl, rfl⟩⟩⟩
        intro σ' H3 ⟨g, tt, e, s3, G⟩
        subst e
        have m3 := m2.same s3
        have hq3 := s3 _ _ hq2
        clear m2 hq2 s3
        have gr : 0 ≤ g ∧ g < n := by rcases G with ⟨_, e, _⟩ | ⟨_, e, _⟩ <;> omega
        have gg_at : atI (hs.map oV) g = some (oV (hv hs g)) := oV_at gr.1 (by omega)
        refine ⟨_, rfl, _, rfl, _, rfl, (by show 2 ≤ sizeLine; decide), fun S nS => ⟨S, _, rfl, .inr (SqT.of upd_same), rfl, flat_is [p.1, p.2], _, rfl, ?_⟩⟩
        have s4 := same_new nS (.tup [.int p.1, .int p.2])
        have m4 := m3.same s4
        have hq4 := s4 _ _ hq3
        rw [if_neg Bool.false_ne_true, in_pr]
        generalize L2.upd H3 S (.tup [.int p.1, .int p.2]) = H4 at *
        clear m3 hq3 s4 nS
        -- the second look, where the first says no
        have late : ∀ (H4 : Hp), Mem H H4 HL WL n hs ws → H4 QL = some (.lst (W.map V.int)) → True := fun _ _ _ => trivial
        cases cc : inT z p with
        | false =>
          refine iteF ?_
          refine ⟨_, rfl, _, rfl, _, rfl, (by show 2 ≤ sizeLine; decide), fun S nS => ⟨S, _, rfl, .inr (SqT.of upd_same), rfl, flat_is [p.1, p.2], _, rfl, ?_⟩⟩
          have s5 := same_new nS (.tup [.int p.1, .int p.2])
          rw [if_neg Bool.false_ne_true, in_pr, cc]
          refine iteF ⟨hs, ws, W, _, _, _, _, _, _, _, rfl, m4.same s5, s5 _ _ hq4, bf.step hp hb1 hb2 fun ez => ?_, hz, jW⟩
          rw [inT_iff.mpr ez] at cc
          cases cc
        | true =>
          have ez : z = p.1 ∨ z = p.2 := inT_iff.mp cc
          refine iteT ⟨_, rfl, _, rfl, HL, _, _, _, rfl, rfl, SqL.of m4.hh, gg_at, rfl, _, rfl, ?_⟩
          cases hg : hv hs g with
          | none =>
            rw [show decide (oV none = V.non) = true from rfl]
            obtain ⟨we, wl, w1, w2, w3, w4⟩ := m4.wy z zr.1 zr.2
            have w_at : atI ws z = some (.ref we) := by
              obtain ⟨k, rfl⟩ := Int.eq_ofNat_of_zero_le zr.1
              rw [Int.toNat_natCast] at w1
              exact atI_nat w1
            refine iteT ⟨_, rfl, _, rfl, _, rfl, WL, _, _, _, rfl, rfl, SqL.of m4.hw, w_at, _, rfl, (by show 1 ≤ sizeLine; decide), fun K1 nK => ?_⟩
            have s5 := same_new nK (.tup [V.int (i : Int)])
            refine cat_go (s5 _ _ w2) upd_same (by rw [List.length_map]; show wl.length + 1 ≤ 100000; omega) fun p3 H6 s6 h6 => ?_
            refine ⟨(by show 2 ≤ sizeLine; decide), fun Z nZ => ⟨Z, _, rfl, SqT.of upd_same, rfl, _, _, rfl, ?_⟩⟩
            have s7 := same_new nZ (.tup [V.int tt, V.ref p3])
            have s47 := s5.trans (s6.trans s7)
            have h7 := s7 _ _ h6
            have m7 := m4.same s47
            have hq7 := s47 _ _ hq4
            generalize L2.upd H6 Z (.tup [V.int tt, V.ref p3]) = H7 at *
            have h7' : H7 p3 = some (.tup ((wl ++ [(i : Int)]).map V.int)) := by
              rw [h7, List.map_append]
              rfl
            have more := m7.more (t := tt) nH nW n12 gr.1 gr.2 lh hg w3 h7'
            have ix1 : ixN (hs.map oV).length g = some g.toNat := by
              rw [List.length_map]
              exact ixN_of gr.1 (by omega)
            have ix2 : ixN ws.length g = some g.toNat := ixN_of gr.1 (by have := m7.lw; omega)
            refine ⟨_, rfl, _, rfl, HL, _, _, g.toNat, rfl, rfl, m7.hh, ix1, _, _, rfl, _, rfl, _, rfl, WL, _, _, g.toNat, rfl, rfl, ?_, ix2, rfl, ?_⟩
            · rw [upd_ne n12.symm]
              exact m7.hw
            have hq8 : (L2.upd (L2.upd H7 HL (.lst ((hs.map oV).set g.toNat (.int tt)))) WL (.lst (ws.set g.toNat (.ref p3)))) QL = some (.lst (W.map V.int)) := by
              rw [upd_ne n23.symm, upd_ne n13.symm]
              exact hq7
            generalize L2.upd (L2.upd H7 HL (.lst ((hs.map oV).set g.toNat (.int tt)))) WL (.lst (ws.set g.toNat (.ref p3))) = H8 at *
            have bfm := bf.more hz ok hp hb1 hb2 ez haz G hg
            have nn := bf.nn
            refine ⟨_, rfl, .inl ⟨rfl, _, SqL.of hq8⟩, _, rfl, QL, _, _, rfl, rfl, hq8, small1000 (by rw [List.length_map]; omega), ?_⟩
            refine ⟨_, _, W ++ [g], _, _, _, _, _, _, _, rfl, more.queue nQ0 hq8 n13 n23, ?_, bfm, by rw [List.getElem?_append_left (List.getElem?_eq_some_iff.mp hz).1]; exact hz, List.mem_append.mpr (.inl jW)⟩
            rw [upd_same, List.map_append]
            rfl
          | some gc =>
            rw [show decide (oV (some gc) = V.non) = false from decide_eq_false fun z => by cases z]
            refine iteF ?_
            refine ⟨_, rfl, _, rfl, _, rfl, (by show 2 ≤ sizeLine; decide), fun S nS => ⟨S, _, rfl, .inr (SqT.of upd_same), rfl, flat_is [p.1, p.2], _, rfl, ?_⟩⟩
            have s5 := same_new nS (.tup [.int p.1, .int p.2])
            have m5 := m4.same s5
            have hq5 := s5 _ _ hq4
            rw [if_neg Bool.false_ne_true, in_pr, cc]
            generalize L2.upd H4 S (.tup [.int p.1, .int p.2]) = H5' at *
            rw [hg] at gg_at
            refine iteT ⟨_, rfl, _, rfl, HL, _, _, _, rfl, rfl, SqL.of m5.hh, gg_at, _, rfl, rfl, _, rfl, ?_⟩
            by_cases fit : gc = tt
            · rw [show (!decide (oV (some gc) = V.int tt)) = false by rw [fit]; show (!decide (V.int tt = V.int tt)) = false; rw [decide_eq_true rfl]; rfl]
              exact iteF ⟨hs, ws, W, _, _, _, _, _, _, _, rfl, m5, hq5, bf.step hp hb1 hb2 fun _ => Bf.fits (W := W) (A := A) (i := i) ez haz G (by rw [hg, fit]), hz, jW⟩
            · rw [show (!decide (oV (some gc) = V.int tt)) = true by show (!decide (V.int gc = V.int tt)) = true; rw [dec_vint, decide_eq_false fit]; rfl]
              have no := bf.clash hz ok hp hb1 hb2 ez haz G hg fit
              obtain ⟨we, wl, w1, w2, w3, w4⟩ := m5.wy z zr.1 zr.2
              obtain ⟨ve, vl, v1, v2, v3, v4⟩ := m5.wy g gr.1 gr.2
              have at2 : ∀ {x : Int} {e : Addr}, 0 ≤ x → ws[x.toNat]? = some (.ref e) → atI ws x = some (.ref e) := fun {x e} x0 hx => by
                obtain ⟨k, rfl⟩ := Int.eq_ofNat_of_zero_le x0
                rw [Int.toNat_natCast] at hx
                exact atI_nat hx
              have zg : z ≠ g := by rcases G with ⟨e1, e2, _⟩ | ⟨e1, e2, _⟩ <;> omega
              have some1 : wl ++ vl ≠ [] := fun e => by
                obtain ⟨e1, e2⟩ := List.append_eq_nil_iff.mp e
                have a1 := (w4 zn).resolve_right fun k => k e1
                have a2 := (v4 (by rw [hg]; exact fun z => by cases z)).resolve_right fun k => k e2
                omega
              refine ⟨_, rfl, _, rfl, WL, _, _, _, rfl, rfl, SqL.of m5.hw, at2 zr.1 w1, _, rfl, _, rfl, WL, _, _, _, rfl, rfl, SqL.of m5.hw, at2 gr.1 v1, ?_⟩
              refine cat_go w2 v2 (by rw [List.length_map, List.length_map]; omega) fun p3 H6 s6 h6 => ?_
              refine ⟨_, rfl, (by show 1 ≤ sizeLine; decide), fun K1 nK => ?_⟩
              have s7 := same_new nK (.tup [V.int (i : Int)])
              refine ⟨p3, K1, _, _, rfl, rfl, SqT.of (s7 _ _ h6), SqT.of upd_same, ?_, fun e => some1 ?_, fun e => (nomatch e), fun B o nB od => ?_⟩
              · have : ((wl.map V.int) ++ (vl.map V.int)).length + 1 ≤ 1000 := by
                  rw [List.length_append, List.length_map, List.length_map]
                  omega
                exact Nat.le_trans this (by decide)
              · rw [← List.map_append] at e
                exact List.map_eq_nil_iff.mp e
              have ens : (wl.map V.int ++ vl.map V.int) ++ [V.int (i : Int)] = (wl ++ vl ++ [(i : Int)]).map V.int := by
                rw [List.map_append, List.map_append]
                rfl
              have lns : (wl ++ vl ++ [(i : Int)]).length ≤ 30 := by
                rw [List.length_append, List.length_append]
                show wl.length + vl.length + 1 ≤ 30
                omega
              have s8 : Same (L2.upd H6 K1 (.tup [V.int (i : Int)])) (L2.upd (L2.upd H6 K1 (.tup [V.int (i : Int)])) B (.frz o (.tup ((wl.map V.int ++ vl.map V.int) ++ [V.int (i : Int)])))) := same_new nB _
              have hB : (L2.upd (L2.upd H6 K1 (.tup [V.int (i : Int)])) B (.frz o (.tup ((wl.map V.int ++ vl.map V.int) ++ [V.int (i : Int)])))) B = some (.frz o (.tup ((wl ++ vl ++ [(i : Int)]).map V.int))) := by
                rw [upd_same, ens]
              have s08 : Same H _ := m5.sm.trans (s6.trans (s7.trans s8))
              generalize L2.upd (L2.upd H6 K1 (.tup [V.int (i : Int)])) B (.frz o (.tup ((wl.map V.int ++ vl.map V.int) ++ [V.int (i : Int)]))) = H8 at *
              generalize wl ++ vl ++ [(i : Int)] = ns at *
              refine ⟨_, rfl, B, rfl, ⟨_, .inl (.inr ⟨o, hB⟩)⟩, fun D nD => lc_tup (xs := ns.map V.int) (fun k H' => Same H8 H' ∧ ∃ zs : List Int, H' D = some (.lst (zs.map V.int)) ∧ zs.length ≤ k) ⟨same_new nD _, [], upd_same, Nat.zero_le _⟩ (fun k H' _ ⟨sm, _⟩ => .inl (.inr ⟨o, sm _ _ hB⟩)) ?_ ?_⟩
              · intro k y H' hk ⟨sm, zs, hD, lz⟩
                obtain ⟨v, hvv, ey⟩ := mint hk
                subst ey
                have lk := (List.getElem?_eq_some_iff.mp hvv).1
                have hB' := sm _ _ hB
                refine ⟨rfl, _, rfl, ⟨B, o, _, rfl, hB', od⟩, _, rfl, B, ns, v, rfl, rfl, .inl (.inr ⟨o, hB'⟩), rfl, _, rfl, ite2 (fun e => ?_) (fun e => ⟨sm, zs, hD, by omega⟩)⟩
                refine ⟨_, rfl, _, hD, small1000 (by rw [List.length_map]; omega), fun o u ho => ?_, zs ++ [v], by rw [upd_same, List.map_append]; rfl, by rw [List.length_append]; show zs.length + 1 ≤ k + 1; omega⟩
                rw [upd_ne (ne_of_none ho nD)]
                exact sm _ _ ho
              · intro H9 ⟨sm, zs, hD, lz⟩
                refine ⟨D, zs, rfl, SqL.of hD, fun ms p5 hp5 hsrt np => ⟨p5, _, rfl, .inl ⟨SqL.of upd_same, fun u nu => ⟨(by show 2 ≤ sizeLine; decide), fun y ny => ?_⟩⟩⟩⟩
                exact q y _ _ _ (s08.trans (sm.trans ((same_new np _).trans ((same_new nu _).trans (same_new ny _))))) upd_same (.inr ⟨⟨u, rfl⟩, no⟩)
      · intro σ H' ⟨hs, ws, W, y10, y11, y12, y13, y14, y15, y16, e, m, hq, bf, hz, jW⟩
        subst e
        rw [lv] at bf
        have lA := (List.getElem?_eq_some_iff.mp hz).1
        have nn := bf.nn
        exact ⟨n.toNat - (A + 1), by omega, hs, ws, W, A + 1, _, _, _, _, _, _, _, _, by rw [show (((A + 1 : Nat)) : Int) = (A : Int) + 1 by omega], m, hq, bf.next hz, lA, jW, rfl⟩
    · rw [decide_eq_false (show ¬ ((A : Nat) : Int) < (((W.map V.int).length : Nat) : Int) by rw [List.length_map]; omega)]
      have eA : A = W.length := by omega
      subst eA
      exact iteF ⟨hs, ws, _, _, _, _, _, _, _, _, _, _, _, rfl, m, bf.end_ ls ls' ok nr jW⟩
  · intro σ H6 ⟨hs, ws, y6, y7, y8, y9, y10, y11, y12, y13, y14, y15, y16, e, m, st⟩
    subst e
    obtain ⟨j, ej⟩ : ∃ j, n.toNat = j + 1 := ⟨n.toNat - 1, by omega⟩
    rw [ej] at st
    refine ⟨_, rfl, (by show 2 ≤ sizeLine; decide), fun y ny => ?_⟩
    exact q y _ _ _ (m.sm.trans (same_new ny _)) upd_same (.inl ⟨rfl, st.hgt ls ls' ok⟩)
end
end K42
set_option Elab.async false
set_option linter.all false
set_option maxRecDepth 100000
set_option maxHeartbeats 8000000
/-! The law. -/
namespace K42
open PySem L2 Rl
theorem shp_tup (ns : List Int) : SeqAt.shaped (.tuple (dI ns)) = true := shp_of
  (by simp only [PyData.canLay0]; exact can_ints ns) (by simp only [PyData.depth]; rw [dep_ints]; decide)
theorem eqv_bools (a b : List Bool) : PyData.eqv (.tuple (a.map PyData.bool)) (.tuple (b.map PyData.bool)) = decide (a = b) := by
  have go : ∀ a b : List Bool, PyData.eqvAll (a.map PyData.bool) (b.map PyData.bool) = decide (a = b) := by
    intro a
    induction a with
    | nil =>
      intro b
      cases b with
      | nil => rw [List.map_nil]; simp [PyData.eqvAll]
      | cons y r => rw [List.map_nil, List.map_cons]; simp [PyData.eqvAll]
    | cons x r ih =>
      intro b
      cases b with
      | nil => rw [List.map_nil, List.map_cons]; simp [PyData.eqvAll]
      | cons y t =>
        rw [List.map_cons, List.map_cons]
        simp only [PyData.eqvAll, PyData.eqv]
        rw [ih t]
        cases x <;> cases y <;> simp
  simp only [PyData.eqv]
  exact go a b
def EqWeb (C : Addr) (a b : Addr) (H : Hp) : Prop := ∃ n ps, WebAt C H a n ps ∧ WebAt C H b n ps
/-- a web, its ties by name -/
structure Wt (C : Addr) (H : Hp) (x t : Addr) (n : Int) (ps : List (Int × Int)) : Prop where
  w : ∃ dx, H x = some (.ins C dx (wf n t))
  t : TiesAt H t ps
theorem Wt.web {C : Addr} {H : Hp} {x t : Addr} {n : Int} {ps : List (Int × Int)} (h : Wt C H x t n ps) : WebAt C H x n ps := by
  obtain ⟨dx, hx⟩ := h.w
  exact ⟨dx, t, hx, h.t⟩
theorem Wt.same {C : Addr} {H H' : Hp} {x t : Addr} {n : Int} {ps : List (Int × Int)} (e : Same H H') (h : Wt C H x t n ps) : Wt C H' x t n ps := by
  obtain ⟨dx, hx⟩ := h.w
  exact ⟨⟨dx, e _ _ hx⟩, h.t.same e⟩
theorem Wt.kp {C : Addr} {H H' : Hp} {h c x t : Addr} {n : Int} {ps : List (Int × Int)} (hd : HandAt H h c) (k : Kp h H H') (hw : Wt C H x t n ps) : Wt C H' x t n ps := by
  obtain ⟨dx, hx⟩ := hw.w
  obtain ⟨l, hl⟩ := hd.lst
  exact ⟨⟨dx, k _ _ (ne_of hx hl (by intro z; cases z)) hx⟩, TiesAt.kp hd k hw.t⟩
/-- what is fixed of a turn -/
structure Fx (n : Int) (ps : List (Int × Int)) : Prop where
  n0 : 1 ≤ n
  n1 : n ≤ 10
  l16 : ps.length ≤ 16
  ok : ∀ p ∈ ps, okS n p
  nr : Near n ps
theorem Fx.sgn {n : Int} {ps : List (Int × Int)} (f : Fx n ps) {C : Addr} {H : Hp} {x t a : Addr} {s : List Bool} (hw : Wt C H x t n ps) (g : SgAt H a s) (l : s.length = ps.length) : Sgn C H x a n ps s := ⟨hw.web, g, l, f.l16, f.n0, f.n1, f.ok⟩
theorem Fx.own {n : Int} {ps : List (Int × Int)} (f : Fx n ps) {H : Hp} {t a : Addr} {s : List Bool} (ht : TiesAt H t ps) (g : SgAt H a s) (l : s.length = ps.length) : Own H t a n ps s := ⟨ht, g, l, f.l16, f.n0, f.n1, f.ok⟩
def spRight (C : Addr) : Sp := fun vs H Q _ => ∃ (x t a : Addr) (n k : Int) (ps : List (Int × Int)) (s : List Bool), vs = [.ref x, .ref a, .int k] ∧ Wt C H x t n ps ∧ SgAt H a s ∧ s.length = ps.length ∧ Fx n ps ∧ Acy ps s ∧ 0 ≤ k ∧ k < n ∧ ∀ H', Same H H' → Q (.bl true) H'
def spLaw (K : PySem.W.Frag) : Sp := fun vs H Q _ => ∃ (a : Addr) (ns : List Int), vs = [.ref a] ∧ SqL K H a (ns.map V.int) ∧ ns.length ≤ 63 ∧ ∀ H', Q (.bl true) H'
section
variable {P : Program} {w : World} {K : PySem.W.Frag} {mg : Str → Option Value} {base : Heap}
theorem kit_self {C : Addr} : PySem.W.kitOne K (.ref C) (.ref C) = some true := by
  unfold PySem.W.kitOne
  rw [if_pos (by simp)]
theorem ty_web (T : Tx K mg) {H : Hp} {x dx : Addr} {fs : List (Str × V)} (h : H x = some (.ins T.C_Web dx fs)) : TyX K H (.ref x) (.ref T.C_Web) :=
  .base (.ins h T.cl_Web T.ic_Web T.ia T.ib T.im_Web)
theorem ok_webE (T : Tx K mg) : FnOk P w K mg base CX0 1 T.f_webE T.d_webE ["self", "other"] (spEq (EqWeb T.C_Web)) := by
  refine T.F_webE.ok sc_webE (fun vs H Q E h => ?_) (fun cdv A outer s H vs Q E hr h => ?_)
  · obtain ⟨a, b, rfl, _⟩ := h
    rfl
  obtain ⟨a, b, rfl, ⟨n, ps, ⟨dx, t, ha, ta⟩, dy, u, hb, tb⟩, q⟩ := h
  refine ⟨_, (pss_one (ps_ret (pe_and (pe_callB call_isi (by rfl) T.g_isinstance (by decide +kernel) (pa_cons (pv 1) (pa_cons (pe_glob (v := .ref T.C_Web) rfl T.m_Web rfl) pa_nil))) (pe_and (pe_cmpR op_eq (pe_fld (pv 0) rfl) (pe_fld (pv 1) rfl) (nomark _)) (pe_one (pe_cmpR (op_eqD hr.units) (pe_fld (pv 0) rfl) (pe_fld (pv 1) rfl) (nomark _))))))), ?_⟩
  refine ⟨_, rfl, _, _, _, _, _, rfl, .own _, ty_web T hb, kit_self, true, rfl, iteT ?_⟩
  refine ⟨_, rfl, a, T.C_Web, dx, _, _, rfl, ha, T.cl_Web, T.no_Web_many, wf_many n t, _, rfl, b, T.C_Web, dy, _, _, rfl, hb, T.cl_Web, T.no_Web_many, wf_many n u, rfl, _, rfl, ?_⟩
  rw [decide_eq_true rfl]
  refine iteT ?_
  refine ⟨_, rfl, a, T.C_Web, dx, _, _, rfl, ha, T.cl_Web, T.no_Web_ties, wf_ties n t, _, rfl, b, T.C_Web, dy, _, _, rfl, hb, T.cl_Web, T.no_Web_ties, wf_ties n u, ?_⟩
  refine ⟨_, _, dp_ties ta, dp_ties tb, shp_prs _, shp_prs _, ?_⟩
  rw [eqv_same (shp_prs _)]
  exact q H (fun _ _ e => e)
theorem ok_l_is_right (T : Tx K mg) : FnOk P w K mg base CX0 7 T.f_l_is_right T.d_l_is_right ["web", "signing", "place"] (spRight T.C_Web) := by
  refine T.F_l_is_right.ok sc_l_is_right (fun vs H Q E h => ?_) (fun cdv A outer s H vs Q E hr h => ?_)
  · obtain ⟨x, t, a, n, k, ps, s, rfl, _⟩ := h
    rfl
  obtain ⟨x, t, a, n, k, ps, sg, rfl, hw, hg, lg, fx, ac, k0, k1, q⟩ := h
  obtain ⟨dx, hx⟩ := hw.w
  refine ⟨_, (pss_cons (ps_par3 (i := 3) (j := 4) (l := 5) rfl sc_l_is_right.nd rfl rfl rfl (by decide) (by decide) (by decide) rfl rfl rfl (pa_cons (pe_fld (pv 0) rfl) (pa_cons (pe_fld (pv 0) rfl) (pa_cons (pe_call (ok_rooted T) (hr.mono (by decide)) (by rfl) T.m_rooted T.F_rooted.kp T.b_rooted .nil pass0 (pa_cons (pv 0) (pa_cons (pv 1) (pa_cons (pv 2) pa_nil)))) pa_nil))) (by rfl))
    (pss_cons (ps_if (PW.pt (pw_or (pt_not (pt_val (pe_call (ok_l_are_flags T) (hr.mono (by decide)) (by rfl) T.m_l_are_flags T.F_l_are_flags.kp T.b_l_are_flags .nil pass0 (pa_cons (pv 5) (pa_cons (pe_call (ok_l_rooted T) (hr.mono (by decide)) (by rfl) T.m_l_rooted T.F_l_rooted.kp T.b_l_rooted .nil pass0 (pa_cons (pv 3) (pa_cons (pv 4) (pa_cons (pv 1) (pa_cons (pv 2) pa_nil))))) pa_nil))))) (pw_or1 (pt_not (pt_val (pe_call (ok_l_is_free T) (hr.mono (by decide)) (by rfl) T.m_l_is_free T.F_l_is_free.kp T.b_l_is_free .nil pass0 (pa_cons (pv 3) (pa_cons (pv 4) (pa_cons (pv 5) pa_nil)))))))))
      (pss_one (ps_ret pe_bl))
      pss_nil)
    (pss_one (ps_ret (pe_and (pe_cmpR (op_eqD hr.units) (pe_call (ok_l_sources T) (hr.mono (by decide)) (by rfl) T.m_l_sources T.F_l_sources.kp T.b_l_sources .nil pass0 (pa_cons (pv 3) (pa_cons (pv 4) (pa_cons (pv 5) pa_nil)))) (pe_tup (pa_cons (pv 2) pa_nil)) (nomark _)) (pe_one (pe_cmpR op_isN (pe_ix ix_tup (pe_call (ok_l_heights T) (hr.mono (by decide)) (by rfl) T.m_l_heights T.F_l_heights.kp T.b_l_heights .nil pass0 (pa_cons (pv 3) (pa_cons (pv 4) (pa_cons (pv 1) (pa_cons (pv 5) pa_nil))))) pe_int (fun _ _ => rfl)) pe_non (nomark _)))))))), ?_⟩
  refine ⟨_, rfl, x, T.C_Web, dx, _, _, rfl, hx, T.cl_Web, T.no_Web_many, wf_many n t, _, rfl, x, T.C_Web, dx, _, _, rfl, hx, T.cl_Web, T.no_Web_ties, wf_ties n t, _, rfl, _, rfl, _, rfl, x, a, n, k, ps, sg, rfl, fx.sgn hw hg lg, ac, fx.nr, k0, k1, fun r r1 H1 s1 hr1 f1 => ⟨_, _, _, rfl, ?_⟩⟩
  have s2 := s1
  have hr2 := hr1
  have lr := f1.len
  refine ⟨_, rfl, _, rfl, _, rfl, _, rfl, _, rfl, t, a, n, k, ps, sg, rfl, fx.own (hw.same s2).t (hg.same s2) lg, ac, fx.nr, k0, k1, fun u r2 H3 s3 hu f2 => ?_⟩
  have er : r1 = r2 := Fin.one fx.ok k0 k1 f1 f2 ⟨_, Hgt.refl lg⟩
  subst er
  have l16 := fx.l16
  have s23 := s2.trans s3
  refine ⟨r, u, r1, rfl, hr2.same s3, hu, by omega, fun H4 s4 => ⟨true, rfl, iteF ?_⟩⟩
  have s24 := s23.trans s4
  have hr4 := hr2.same (s3.trans s4)
  refine ⟨_, rfl, _, rfl, _, rfl, t, r, n, ps, r1, rfl, fx.own (hw.same s24).t hr4 lr, f1.ac, fun H5 s5 => ⟨true, rfl, iteF ?_⟩⟩
  have s25 := s24.trans s5
  have hr5 := hr4.same s5
  refine ⟨_, rfl, _, rfl, _, rfl, t, r, n, ps, r1, rfl, fx.own (hw.same s25).t hr5 lr, fun v H6 s6 hv => ⟨_, rfl, (by show 1 ≤ sizeLine; decide), fun Y nY => ?_⟩⟩
  have sY := same_new nY (.tup [V.int k])
  have hv7 := sY _ _ hv
  rw [f1.src fx.n0 fx.ok] at hv7
  refine ⟨_, _, .tup (SqT.of hv7) (dpa_ints [k]), .tup (SqT.of (xs := [V.int k]) upd_same) (dpa_ints [k]), shp_tup [k], shp_tup [k], ?_⟩
  rw [eqv_same (shp_tup [k])]
  have s27 := s25.trans (s6.trans sY)
  have hr7 := hr5.same (s6.trans sY)
  refine ⟨true, rfl, iteT ?_⟩
  refine ⟨_, rfl, _, rfl, _, rfl, _, rfl, t, a, r, n, ps, sg, r1, rfl, (hw.same s27).t, hg.same s27, hr7, lg, lr, l16, fx.n0, fx.n1, fx.ok, fx.nr, fun y u2 v2 H8 s8 hy dis => ?_⟩
  have ev : v2 = .non := by
    rcases dis with ⟨e, _⟩ | ⟨_, no⟩
    · exact e
    · exact absurd f1.ex no
  subst ev
  refine ⟨y, _, 1, _, rfl, rfl, SqT.of hy, atI_nat (j := 1) rfl, rfl, ?_⟩
  exact q H8 (s27.trans s8)
theorem ok_law (T : Tx K mg) : FnOk P w K mg base CX0 12 T.f_law T.d_law ["script"] (spLaw K) := by
  refine T.F_law.ok sc_law (fun vs H Q E h => ?_) (fun cdv A outer s H vs Q E hr h => ?_)
  · obtain ⟨a, ns, rfl, _⟩ := h
    rfl
  obtain ⟨a, ns, rfl, ha, hl, q⟩ := h
  refine ⟨_, (pss_cons (ps_set (i := 1) sc_law.nd rfl (.inl rfl) (pe_call (ok_l_hand T) (hr.mono (by decide)) (by rfl) T.m_l_hand T.F_l_hand.kp T.b_l_hand .nil pass0 (pa_cons (pv 0) pa_nil)))
    (pss_cons (ps_for PassesOwn.never rfl (pi_range1 (by rfl) T.g_range (pa_cons pe_int pa_nil)) (pg_name (i := 2) sc_law.nd rfl (.inl rfl))
      (pss_cons (ps_set (i := 3) sc_law.nd rfl (.inl rfl) (pe_op op_add pe_int (pe_call (ok_l_draw T) (hr.mono (by decide)) (by rfl) T.m_l_draw T.F_l_draw.kp T.b_l_draw .nil pass0 (pa_cons (pv 1) (pa_cons (pe_call (ok_l_some T) (hr.mono (by decide)) (by rfl) T.m_l_some T.F_l_some.kp T.b_l_some .nil pass0 (pa_cons (pv 1) (pa_cons (pe_lst (pa_cons pe_int (pa_cons pe_int (pa_cons pe_int pa_nil)))) pa_nil))) pa_nil)))))
        (pss_cons (ps_set (i := 4) sc_law.nd rfl (.inl rfl) (pe_call (ok_l_whole_ties T) (hr.mono (by decide)) (by rfl) T.m_l_whole_ties T.F_l_whole_ties.kp T.b_l_whole_ties .nil pass0 (pa_cons (pv 1) (pa_cons (pv 3) (pa_cons (pe_call (ok_l_some T) (hr.mono (by decide)) (by rfl) T.m_l_some T.F_l_some.kp T.b_l_some .nil pass0 (pa_cons (pv 1) (pa_cons (pe_lst (pa_cons (pv 3) (pa_cons (pe_op op_add (pv 3) pe_int) (pa_cons pe_int pa_nil)))) pa_nil))) pa_nil)))))
        (pss_cons (ps_asg (pe_tup (pa_cons (pe_make T.mk_Web (ok_webI T) (hr.mono (by decide)) (by rfl) T.m_Web T.b_webI .nil pass0 (pa_cons (pv 3) (pa_cons (pv 4) pa_nil))) (pa_cons (pe_call (ok_l_signing T) (hr.mono (by decide)) (by rfl) T.m_l_signing T.F_l_signing.kp T.b_l_signing .nil pass0 (pa_cons (pv 1) (pa_cons (pv 3) (pa_cons (pv 4) pa_nil)))) (pa_cons (pe_call (ok_l_draw T) (hr.mono (by decide)) (by rfl) T.m_l_draw T.F_l_draw.kp T.b_l_draw .nil pass0 (pa_cons (pv 1) (pa_cons (pv 3) pa_nil))) pa_nil)))) (pg_tup rfl (pgs_cons (pg_name (i := 5) sc_law.nd rfl (by first | exact .inl rfl | exact .inr rfl)) (pgs_cons (pg_name (i := 6) sc_law.nd rfl (by first | exact .inl rfl | exact .inr rfl)) (pgs_cons (pg_name (i := 7) sc_law.nd rfl (.inl rfl)) pgs_nil)))))
        (Evl.pss_cut (ps_set (i := 8) sc_law.nd rfl (.inl rfl) (pe_ifExp (pt_cmpR op_lt (pv 3) pe_int (nomark _)) (pe_listRg rfl (by rfl) T.g_list (prg_1 (by rfl) T.g_range (pv 3))) (pe_lst (pa_cons (pv 7) pa_nil))))
        (pss_cons (ps_if (pt_not (pt_val (pe_callB (cr_all rfl) (by rfl) T.g_all (by decide +kernel) (pa_cons (pe_lc (own := [("here", 13)]) (g := (gName 13)) (tt := tYes) (te := (tCall (spRight T.C_Web) [] E0 (tCons (tVar 5) (tCons (tVar 6) (tCons (tVar 13) tNil))))) rfl sc_law.nd (pi_list (pv 8)) (blkOk_by (own := [("here", 13)]) (N := N_law) (sc := defScope s_law) (by decide +kernel)) (fun _ _ _ _ _ => (pg_name (i := 13) sc_law.nd rfl (.inl rfl))) (fun _ _ _ _ _ => pts_nil) (fun _ _ _ _ _ => (pe_call (ok_l_is_right T) (hr.mono (by decide)) (by rfl) T.m_l_is_right T.F_l_is_right.kp T.b_l_is_right .nil pass0 (pa_cons (pv 5) (pa_cons (pv 6) (pa_cons (pv 13) pa_nil)))))) pa_nil))))
          (pss_one (ps_ret pe_bl))
          pss_nil)
        (pss_cons (ps_par (i := 9) (j := 10) rfl sc_law.nd rfl rfl (by decide) rfl rfl (pa_cons (pe_call (ok_rooted T) (hr.mono (by decide)) (by rfl) T.m_rooted T.F_rooted.kp T.b_rooted .nil pass0 (pa_cons (pv 5) (pa_cons (pv 6) (pa_cons (pv 7) pa_nil)))) (pa_cons (pe_call (ok_l_led_on T) (hr.mono (by decide)) (by rfl) T.m_l_led_on T.F_l_led_on.kp T.b_l_led_on .nil pass0 (pa_cons (pv 1) (pa_cons (pv 3) (pa_cons (pv 4) (pa_cons (pv 6) (pa_cons pe_int pa_nil)))))) pa_nil)) (by rfl))
        (pss_cons (ps_par (i := 11) (j := 12) rfl sc_law.nd rfl rfl (by decide) rfl rfl (pa_cons (pe_call (ok_l_signing T) (hr.mono (by decide)) (by rfl) T.m_l_signing T.F_l_signing.kp T.b_l_signing .nil pass0 (pa_cons (pv 1) (pa_cons (pv 3) (pa_cons (pv 4) pa_nil)))) (pa_cons (pe_call (ok_l_draw T) (hr.mono (by decide)) (by rfl) T.m_l_draw T.F_l_draw.kp T.b_l_draw .nil pass0 (pa_cons (pv 1) (pa_cons (pv 3) pa_nil))) pa_nil)) (by rfl))
        (pss_cons (ps_if (PW.pt (pw_or (pt_cmpR (op_neD hr.units) (pe_call (ok_rooted T) (hr.mono (by decide)) (by rfl) T.m_rooted T.F_rooted.kp T.b_rooted .nil pass0 (pa_cons (pv 5) (pa_cons (pv 10) (pa_cons (pv 7) pa_nil)))) (pv 9) (nomark _)) (pw_or1 (pt_not (pt_val (pe_call (ok_l_is_right T) (hr.mono (by decide)) (by rfl) T.m_l_is_right T.F_l_is_right.kp T.b_l_is_right .nil pass0 (pa_cons (pv 5) (pa_cons (pv 10) (pa_cons (pv 12) pa_nil)))))))))
          (pss_one (ps_ret pe_bl))
          pss_nil)
        (pss_cons (ps_if (pt_cmpR op_ne (pe_cmpR (op_eqD hr.units) (pe_call (ok_rooted T) (hr.mono (by decide)) (by rfl) T.m_rooted T.F_rooted.kp T.b_rooted .nil pass0 (pa_cons (pv 5) (pa_cons (pv 11) (pa_cons (pv 7) pa_nil)))) (pv 9) (nomark _)) (pe_cmpR op_isN (pe_ix ix_tup (pe_call (ok_l_heights T) (hr.mono (by decide)) (by rfl) T.m_l_heights T.F_l_heights.kp T.b_l_heights .nil pass0 (pa_cons (pv 3) (pa_cons (pv 4) (pa_cons (pv 6) (pa_cons (pv 11) pa_nil))))) pe_int (fun _ _ => rfl)) pe_non (nomark _)) (nomark _))
          (pss_one (ps_ret pe_bl))
          pss_nil)
        (pss_cons (ps_if (PW.pt (pw_or (pt_cmpR (op_neD hr.units) (pe_call (ok_rooted T) (hr.mono (by decide)) (by rfl) T.m_rooted T.F_rooted.kp T.b_rooted .nil pass0 (pa_cons (pv 5) (pa_cons (pe_call (ok_rooted T) (hr.mono (by decide)) (by rfl) T.m_rooted T.F_rooted.kp T.b_rooted .nil pass0 (pa_cons (pv 5) (pa_cons (pv 10) (pa_cons (pv 12) pa_nil)))) (pa_cons (pv 7) pa_nil)))) (pv 9) (nomark _)) (pw_or1 (pt_cmpR (op_neD hr.units) (pe_call (ok_rooted T) (hr.mono (by decide)) (by rfl) T.m_rooted T.F_rooted.kp T.b_rooted .nil pass0 (pa_cons (pv 5) (pa_cons (pv 9) (pa_cons (pv 7) pa_nil)))) (pv 9) (nomark _)))))
          (pss_one (ps_ret pe_bl))
          pss_nil)
        (pss_one (ps_if (pt_cmpR (KN.op_neG (ok_webE T) T.im_Web T.eq_Web T.ne_Web T.eqf_Web T.b_webE pass0 (hr.mono (by decide))) (pv 5) (pe_make T.mk_Web (ok_webI T) (hr.mono (by decide)) (by rfl) T.m_Web T.b_webI .nil pass0 (pa_cons (pv 3) (pa_cons (pv 4) pa_nil))) (nomark _))
          (pss_one (ps_ret pe_bl))
          pss_nil)))))))))))))
    (pss_one (ps_ret pe_bl)))), ?_⟩
  refine ⟨_, rfl, a, ns, rfl, ha, hl, fun h c H1 nh nc s1 hd => ?_⟩
  refine ⟨4, rfl, by decide, by decide, ?_⟩
  refine for_range (lo := 0) (n := (4 : Int).toNat) (fun j σ H' => ∃ y2 y3 y4 y5 y6 y7 y8 y9 y10 y11 y12, σ = [some (.ref a), some (.ref h), y2, y3, y4, y5, y6, y7, y8, y9, y10, y11, y12, none] ∧ HandAt H' h c) ⟨none, none, none, none, none, none, none, none, none, none, none, rfl, hd⟩ ?_ ?_
  · clear hd ha hl s1 nh nc
    intro j σ H2 hj ⟨y2, y3, y4, y5, y6, y7, y8, y9, y10, y11, y12, e, hd⟩
    subst e
    refine ⟨_, rfl, _, rfl, (by show 3 ≤ sizeLine; decide), fun G nG => ?_⟩
    refine ⟨h, c, G, [.int 3, .int 5, .int 10], rfl, .inl (SqL.of upd_same), (hd.ne nG).1, by decide, by decide, hd.same (same_new nG _), fun v H3 hv k3 hd3 => ?_⟩
    obtain ⟨m, rfl, m0, m1⟩ : ∃ m : Int, v = .int m ∧ 1 ≤ m ∧ m ≤ 10 := by
      rcases List.mem_cons.mp hv with e | hv
      · exact ⟨3, e, by decide, by decide⟩
      rcases List.mem_cons.mp hv with e | hv
      · exact ⟨5, e, by decide, by decide⟩
      exact ⟨10, List.mem_singleton.mp hv, by decide, by decide⟩
    refine ⟨h, c, m, rfl, by omega, by omega, hd3, fun d H4 d0 d1 k4 hd4 => ⟨1, d, rfl, rfl, ?_⟩⟩
    refine ⟨_, rfl, _, rfl, _, rfl, _, rfl, _, rfl, _, 2, rfl, rfl, (by show 3 ≤ sizeLine; decide), fun G2 nG2 => ?_⟩
    refine ⟨h, c, G2, _, rfl, .inl (SqL.of upd_same), (hd4.ne nG2).1, by show 0 < 3; decide, by show 3 < 1000000; decide, hd4.same (same_new nG2 _), fun v H5 hv k5 hd5 => ?_⟩
    obtain ⟨mo, rfl, mo0, mo1⟩ : ∃ m : Int, v = .int m ∧ 1 + d ≤ m ∧ m ≤ 16 := by
      rcases List.mem_cons.mp hv with e | hv
      · exact ⟨1 + d, e, by omega, by omega⟩
      rcases List.mem_cons.mp hv with e | hv
      · exact ⟨1 + d + 2, e, by omega, by omega⟩
      exact ⟨16, List.mem_singleton.mp hv, by omega, by decide⟩
    refine ⟨h, c, 1 + d, mo, rfl, hd5, by omega, by omega, mo0, mo1, fun t ps H6 k6 hd6 ht l16 ok nr => ?_⟩
    have fx : Fx (1 + d) ps := ⟨by omega, by omega, l16, ok, nr⟩
    clear hd5 hd4 hd3 hd k3 k4 k5 k6 mo0 mo1 hv
    have okp : ∀ p ∈ ps, okP (1 + d) p := fun p hp => (ok p hp).ok
    refine ⟨_, rfl, _, rfl, fun x2 d2 nx nd ne => ?_⟩
    have s0 : Same H6 (L2.upd (L2.upd H6 d2 (.own x2)) x2 (.ins T.C_Web d2 [])) := fun b o e => by
      rw [upd_ne (ne_of_none e nx), upd_ne (ne_of_none e nd)]
      exact e
    refine ⟨x2, d2, t, 1 + d, ps, rfl, upd_same, by omega, by omega, ht.same s0, l16, okp, fun H8 k9 hx9 => ⟨rfl, ?_⟩⟩
    have s8 : Same H6 H8 := fun b o e => k9 b o (s0 b o e) (ne_of_none e nx)
    have w8 : Wt T.C_Web H8 x2 t (1 + d) ps := ⟨⟨d2, hx9⟩, ht.same s8⟩
    have hd8 := hd6.same s8
    clear hd6 ht s0 nx nd ne k9 hx9 s8
    refine ⟨_, rfl, _, rfl, _, rfl, h, c, t, 1 + d, ps, rfl, hd8, w8.t, by omega, by omega, l16, ok, fun u sg H9 k9 hd9 hu lsg ac => ?_⟩
    have w9 := w8.kp hd8 k9
    refine ⟨_, rfl, _, rfl, h, c, 1 + d, rfl, by omega, by omega, hd9, fun pl H10 p0 p1 k10 hd10 => ⟨(by show 3 ≤ sizeLine; decide), fun Z nZ => ⟨Z, _, rfl, SqT.of upd_same, rfl, _, _, rfl, _, _, rfl, _, _, rfl, rfl, ?_⟩⟩⟩
    have sZ := same_new nZ (.tup [V.ref x2, V.ref u, V.int pl])
    have w11 := (w9.kp hd9 k10).same sZ
    have hu11 := (SgAt.kp hd9 k10 hu).same sZ
    have hd11 := hd10.same sZ
    generalize L2.upd H10 Z (.tup [V.ref x2, V.ref u, V.int pl]) = H11 at *
    clear w8 hd8 k9 hd9 hu w9 k10 hd10 sZ nZ
    refine ⟨fun σ' H' => ∃ (L : Addr) (zs : List Int), σ' = [some (.ref a), some (.ref h), some (.int (0 + (j : Int))), some (.int (1 + d)), some (.ref t), some (.ref x2), some (.ref u), some (.int pl), some (.ref L), y9, y10, y11, y12, none] ∧ HandAt H' h c ∧ Wt T.C_Web H' x2 t (1 + d) ps ∧ SgAt H' u sg ∧ H' L = some (.lst (zs.map V.int)) ∧ (∀ z ∈ zs, 0 ≤ z ∧ z < 1 + d) ∧ zs.length ≤ 10, ?_, ?_⟩
    · refine ⟨_, rfl, _, 6, rfl, rfl, _, rfl, ite2 (fun e => ?_) (fun e => ?_)⟩
      · have n1 := fx.n1
        have n0 := fx.n0
        refine ⟨_, rfl, 1 + d, rfl, RgOk.of_le (by decide) (by omega) (by decide) (by omega), fun L nL => ?_⟩
        rw [rg_rn]
        have sL := same_new nL (.lst ((rn (1 + d)).map V.int))
        exact ⟨L, rn (1 + d), rfl, hd11.same sL, w11.same sL, hu11.same sL, upd_same, fun z hz => mem_rn.mp hz, by rw [rn_len]; omega⟩
      · refine ⟨_, rfl, (by show 1 ≤ sizeLine; decide), fun L nL => ?_⟩
        have sL := same_new nL (.lst [V.int pl])
        exact ⟨L, [pl], rfl, hd11.same sL, w11.same sL, hu11.same sL, upd_same, fun z hz => by rw [List.mem_singleton.mp hz]; exact ⟨p0, p1⟩, Nat.le_add_left 1 9⟩
    clear hd11 w11 hu11
    intro σ' H12 ⟨L, zs, e, hd, wt, hu, hL, rz, lz⟩
    subst e
    generalize 1 + d = n at *
    -- right from all places
    refine ⟨_, rfl, L, rfl, ⟨_, SqL.of hL⟩, fun D nD => lc_list (xs := zs.map V.int) (fun i H' => Same H12 H' ∧ H' D = some (.lst ((List.replicate i true).map V.bl))) ⟨same_new nD _, upd_same⟩ (fun i H' _ ⟨sm, _⟩ => SqL.of (sm _ _ hL)) ?_ ?_⟩
    · intro i y H' hi ⟨sm, hD⟩
      obtain ⟨z, hz, ey⟩ := mint hi
      subst ey
      obtain ⟨z0, z1⟩ := rz z (List.mem_of_getElem? hz)
      have li := (List.getElem?_eq_some_iff.mp hz).1
      refine ⟨rfl, _, rfl, _, rfl, _, rfl, x2, t, u, n, z, ps, sg, rfl, wt.same sm, hu.same sm, lsg, fx, ac, z0, z1, fun H'' s2 => ⟨_, s2 _ _ hD, small1000 (by rw [List.length_map, List.length_replicate]; omega), fun o u ho => ?_, ?_⟩⟩
      · rw [upd_ne (ne_of_none ho nD)]
        exact s2 _ _ (sm _ _ ho)
      · rw [upd_same, List.replicate_succ', List.map_append]
        rfl
    intro H13 ⟨s13, hD⟩
    have e2 : (List.replicate (zs.map V.int).length true).all id = true := by
      rw [List.all_replicate]
      cases (zs.map V.int).length <;> rfl
    refine ⟨D, _, rfl, SqL.of hD, ?_⟩
    rw [e2]
    refine ⟨true, rfl, iteF ?_⟩
    have hd13 := hd.same s13
    have wt13 := wt.same s13
    have hu13 := hu.same s13
    clear hD nD hL rz lz hd wt hu s13
    -- told, other
    refine ⟨_, rfl, _, rfl, _, rfl, x2, u, n, pl, ps, sg, rfl, fx.sgn wt13 hu13 lsg, ac, nr, p0, p1, fun told r1 H14 s14 ht14 f1 => ?_⟩
    have l1 := f1.len
    have wt14 := wt13.same s14
    have hu14 := hu13.same s14
    have hd14 := hd13.same s14
    refine ⟨_, rfl, _, rfl, _, rfl, _, rfl, h, c, t, u, n, 30, ps, sg, rfl, hd14, fx.own wt14.t hu14 lsg, ac, by decide, by decide, fun oth s2 H15 k15 hd15 ho15 ac2 ex2 => ⟨_, _, rfl, ?_⟩⟩
    obtain ⟨g2, hg2⟩ := ex2
    have l2 := hg2.l'
    have wt15 := wt14.kp hd14 k15
    have hu15 := SgAt.kp hd14 k15 hu14
    have ht15 := SgAt.kp hd14 k15 ht14
    clear hd13 wt13 hu13 s14 ht14 wt14 hu14 hd14 k15
    refine ⟨_, rfl, _, rfl, _, rfl, h, c, t, n, ps, rfl, hd15, wt15.t, fx.n0, fx.n1, l16, ok, fun th s3 H16 k16 hd16 hth l3 ac3 => ?_⟩
    have wt16 := wt15.kp hd15 k16
    have hu16 := SgAt.kp hd15 k16 hu15
    have ht16 := SgAt.kp hd15 k16 ht15
    have ho16 := SgAt.kp hd15 k16 ho15
    have n0 := fx.n0
    have n1 := fx.n1
    refine ⟨_, rfl, _, rfl, h, c, n, rfl, by omega, by omega, hd16, fun gl H17 g0 g1 k17 hd17 => ⟨_, _, rfl, ?_⟩⟩
    have wt17 := wt16.kp hd16 k17
    have hu17 := SgAt.kp hd16 k17 hu16
    have ht17 := SgAt.kp hd16 k17 ht16
    have ho17 := SgAt.kp hd16 k17 ho16
    have hth17 := SgAt.kp hd16 k17 hth
    clear hd15 wt15 hu15 ht15 ho15 k16 hd16 wt16 hu16 ht16 ho16 hth k17
    -- from the other
    refine ⟨_, rfl, _, rfl, _, rfl, x2, oth, n, pl, ps, s2, rfl, fx.sgn wt17 ho17 l2, ac2, nr, p0, p1, fun v r2 H18 s18 hv f2 => ?_⟩
    have e21 : r2 = r1 := Fin.one ok p0 p1 f2 f1 ⟨_, hg2.symm⟩
    subst e21
    refine ⟨_, rfl, _, _, dp_bools (show H18 v = some (.tup (bV r2)) from hv), dp_bools (show H18 told = some (.tup (bV r2)) from ht17.same s18), shp_bools _, shp_bools _, ?_⟩
    rw [eqv_same (shp_bools _)]
    refine ⟨false, rfl, iteF ?_⟩
    refine ⟨_, rfl, _, rfl, _, rfl, x2, t, oth, n, gl, ps, s2, rfl, wt17.same s18, ho17.same s18, l2, fx, ac2, g0, g1, fun H19 s19 => ⟨true, rfl, iteF ?_⟩⟩
    have s1719 := s18.trans s19
    -- from the third
    refine ⟨_, rfl, _, rfl, _, rfl, x2, th, n, pl, ps, s3, rfl, fx.sgn (wt17.same s1719) (hth17.same s1719) l3, ac3, nr, p0, p1, fun v3 r3 H20 s20 hv3 f3 => ?_⟩
    have s1720 := s1719.trans s20
    refine ⟨_, rfl, _, _, dp_bools (show H20 v3 = some (.tup (bV r3)) from hv3), dp_bools (show H20 told = some (.tup (bV r2)) from ht17.same s1720), shp_bools _, shp_bools _, ?_⟩
    rw [eqv_bools]
    refine ⟨_, rfl, _, rfl, _, rfl, _, rfl, t, u, th, n, ps, sg, s3, rfl, (wt17.same s1720).t, hu17.same s1720, hth17.same s1720, lsg, l3, l16, n0, n1, ok, nr, fun y u5 v5 H21 s21 hy dis => ?_⟩
    refine ⟨y, _, 1, _, rfl, rfl, SqT.of hy, atI_nat (j := 1) rfl, rfl, ?_⟩
    have same : decide (r3 = r2) = decide (v5 = V.non) := by
      obtain ⟨f1', h1'⟩ := f1.ex
      obtain ⟨f3', h3'⟩ := f3.ex
      rcases dis with ⟨e, ex⟩ | ⟨⟨dd, e⟩, no⟩
      · obtain ⟨f, hf⟩ := ex
        have : r3 = r2 := Fin.one ok p0 p1 f3 f1 ⟨_, hf.symm⟩
        rw [decide_eq_true this, decide_eq_true e]
      · have : ¬ r3 = r2 := fun z => no (by
          subst z
          exact ⟨_, h1'.trans h3'.symm⟩)
        rw [decide_eq_false this, decide_eq_false (by rw [e]; exact fun z => by cases z)]
    rw [same]
    refine ⟨rfl, _, rfl, ?_⟩
    rw [decide_eq_true (show V.bl (decide (v5 = V.non)) = V.bl (decide (v5 = V.non)) from rfl)]
    refine iteF ?_
    have s1721 := s1720.trans s21
    -- from one rooted elsewhere, from the one rooted there
    refine ⟨_, rfl, _, rfl, _, rfl, _, rfl, x2, oth, n, gl, ps, s2, rfl, fx.sgn (wt17.same s1721) (ho17.same s1721) l2, ac2, nr, g0, g1, fun w1 r4 H22 s22 hw1 f4 => ?_⟩
    have s1722 := s1721.trans s22
    refine ⟨_, rfl, x2, w1, n, pl, ps, r4, rfl, fx.sgn (wt17.same s1722) hw1 f4.len, f4.ac, nr, p0, p1, fun w2 r5 H23 s23 hw2 f5 => ?_⟩
    have e51 : r5 = r2 := by
      obtain ⟨g4, hg4⟩ := f4.ex
      exact Fin.one ok p0 p1 f5 f1 ⟨_, hg4.symm.trans hg2.symm⟩
    subst e51
    have s1723 := s1722.trans s23
    refine ⟨_, rfl, _, _, dp_bools (show H23 w2 = some (.tup (bV r5)) from hw2), dp_bools (show H23 told = some (.tup (bV r5)) from ht17.same s1723), shp_bools _, shp_bools _, ?_⟩
    rw [eqv_same (shp_bools _)]
    refine ⟨false, rfl, iteF ?_⟩
    refine ⟨_, rfl, _, rfl, _, rfl, x2, told, n, pl, ps, r5, rfl, fx.sgn (wt17.same s1723) (ht17.same s1723) l1, f1.ac, nr, p0, p1, fun w3 r6 H24 s24 hw3 f6 => ?_⟩
    have e61 : r6 = r5 := by
      obtain ⟨g4, hg4⟩ := f1.ex
      exact Fin.one ok p0 p1 f6 f1 ⟨_, hg4.symm⟩
    subst e61
    have s1724 := s1723.trans s24
    refine ⟨_, rfl, _, _, dp_bools (show H24 w3 = some (.tup (bV r6)) from hw3), dp_bools (show H24 told = some (.tup (bV r6)) from ht17.same s1724), shp_bools _, shp_bools _, ?_⟩
    rw [eqv_same (shp_bools _)]
    refine ⟨false, rfl, iteF ?_⟩
    -- the web stays
    have wt24 := wt17.same s1724
    refine ⟨_, rfl, _, rfl, _, rfl, fun x3 d3 nx3 nd3 ne3 => ?_⟩
    have s0' : Same H24 (L2.upd (L2.upd H24 d3 (.own x3)) x3 (.ins T.C_Web d3 [])) := fun b o e => by
      rw [upd_ne (ne_of_none e nx3), upd_ne (ne_of_none e nd3)]
      exact e
    refine ⟨x3, d3, t, n, ps, rfl, upd_same, n0, n1, wt24.t.same s0', l16, okp, fun H25 k25 hx25 => ⟨rfl, ?_⟩⟩
    have s25 : Same H24 H25 := fun b o e => k25 b o (s0' b o e) (ne_of_none e nx3)
    have w25 : WebAt T.C_Web H25 x3 n ps := ⟨d3, t, hx25, wt24.t.same s25⟩
    have wt25 := wt24.same s25
    obtain ⟨dx, hx25'⟩ := wt25.w
    refine ⟨⟨x2, x3, _, _, _, _, rfl, rfl, hx25', hx25, n, ps, wt25.web, w25⟩, fun H26 s26 => ⟨false, rfl, iteF ?_⟩⟩
    exact ⟨_, _, _, _, _, _, _, _, _, _, _, rfl, ((hd17.same s1724).same s25).same s26⟩
  · intro σ H' ⟨y2, y3, y4, y5, y6, y7, y8, y9, y10, y11, y12, e, hd⟩
    subst e
    exact q H'
end
end K42
namespace K42
open PySem L2 Rl
theorem all_mk {l : PySem.W.OpenLaw} {w : World} {K : PySem.W.Frag} {h : Heap} {mg : Str → Option Value} {fa f0 f1 f2 f3 f4 f5 f6 f7 f8 f9 f10 f11 f12 f13 f14 f15 f16 f17 f18 f19 f20 f21 f22 f23 f24 f25 f26 f27 f28 f29 f30 f31 f32 f33 f34 f35 C_Web : Addr} (X : K.In h) (G : h.Ns mainGlobals mg) (hfa : mg "law" = some (.ref fa))
    {od0 an0 od1 an1 od2 an2 od3 an3 od4 an4 od5 an5 od6 an6 od7 an7 od8 an8 od9 an9 od10 an10 od11 an11 od12 an12 od13 an13 od14 an14 od15 an15 od16 an16 od17 an17 od18 an18 od19 an19 od20 an20 od21 an21 od22 an22 od23 an23 od24 an24 od25 an25 od26 an26 od27 an27 od28 an28 od29 an29 od30 an30 od31 an31 od32 an32 od33 an33 od34 an34 od35 an35 : Option Addr} {sl0 sl1 sl2 sl3 sl4 sl5 sl6 sl7 sl8 sl9 sl10 sl11 sl12 sl13 sl14 sl15 sl16 sl17 sl18 sl19 sl20 sl21 sl22 sl23 sl24 sl25 sl26 sl27 sl28 sl29 sl30 sl31 sl32 sl33 sl34 sl35 : Array (Option Value)} {oc0 kV0 dc0 pm0 cd0 ct0 oc1 kV1 dc1 pm1 cd1 ct1 oc2 kV2 dc2 pm2 cd2 ct2 oc3 kV3 dc3 pm3 cd3 ct3 oc4 kV4 dc4 pm4 cd4 ct4 oc5 kV5 dc5 pm5 cd5 ct5 oc6 kV6 dc6 pm6 cd6 ct6 oc7 kV7 dc7 pm7 cd7 ct7 oc8 kV8 dc8 pm8 cd8 ct8 oc9 kV9 dc9 pm9 cd9 ct9 oc10 kV10 dc10 pm10 cd10 ct10 oc11 kV11 dc11 pm11 cd11 ct11 oc12 kV12 dc12 pm12 cd12 ct12 oc13 kV13 dc13 pm13 cd13 ct13 oc14 kV14 dc14 pm14 cd14 ct14 oc15 kV15 dc15 pm15 cd15 ct15 oc16 kV16 dc16 pm16 cd16 ct16 oc17 kV17 dc17 pm17 cd17 ct17 oc18 kV18 dc18 pm18 cd18 ct18 oc19 kV19 dc19 pm19 cd19 ct19 oc20 kV20 dc20 pm20 cd20 ct20 oc21 kV21 dc21 pm21 cd21 ct21 oc22 kV22 dc22 pm22 cd22 ct22 oc23 kV23 dc23 pm23 cd23 ct23 oc24 kV24 dc24 pm24 cd24 ct24 oc25 kV25 dc25 pm25 cd25 ct25 oc26 kV26 dc26 pm26 cd26 ct26 oc27 kV27 dc27 pm27 cd27 ct27 oc28 kV28 dc28 pm28 cd28 ct28 oc29 kV29 dc29 pm29 cd29 ct29 oc30 kV30 dc30 pm30 cd30 ct30 oc31 kV31 dc31 pm31 cd31 ct31 oc32 kV32 dc32 pm32 cd32 ct32 oc33 kV33 dc33 pm33 cd33 ct33 oc34 kV34 dc34 pm34 cd34 ct34 oc35 kV35 dc35 pm35 cd35 ct35 : Value} {t_MOST_PLACES t_MOST_TIES : Tok}
    (aC_Web : PySem.W.nsIn K mainGlobals "Web" = some (some (.ref C_Web)))
    (a0 : PySem.W.nsIn K mainGlobals "is_integer" = some (some (.ref f0)))
    (l0 : K.lookup f0 = some ⟨oc0, od0, .func (PySem.W.fnOf "is_integer" "is_integer" (defArgs s_is_integer) (defBody s_is_integer) (defScope s_is_integer) .none kV0 dc0 pm0 an0 cd0 ct0), sl0⟩)
    (c0 : PySem.W.codeIn K cd0 "is_integer" = true)
    (k0 : PySem.W.keepIn K (.ref f0) = true)
    (a1 : PySem.W.nsIn K mainGlobals "is_between" = some (some (.ref f1)))
    (l1 : K.lookup f1 = some ⟨oc1, od1, .func (PySem.W.fnOf "is_between" "is_between" (defArgs s_is_between) (defBody s_is_between) (defScope s_is_between) .none kV1 dc1 pm1 an1 cd1 ct1), sl1⟩)
    (c1 : PySem.W.codeIn K cd1 "is_between" = true)
    (k1 : PySem.W.keepIn K (.ref f1) = true)
    (a2 : PySem.W.nsIn K mainGlobals "is_below" = some (some (.ref f2)))
    (l2 : K.lookup f2 = some ⟨oc2, od2, .func (PySem.W.fnOf "is_below" "is_below" (defArgs s_is_below) (defBody s_is_below) (defScope s_is_below) .none kV2 dc2 pm2 an2 cd2 ct2), sl2⟩)
    (c2 : PySem.W.codeIn K cd2 "is_below" = true)
    (k2 : PySem.W.keepIn K (.ref f2) = true)
    (a3 : PySem.W.nsIn K mainGlobals "is_pair" = some (some (.ref f3)))
    (l3 : K.lookup f3 = some ⟨oc3, od3, .func (PySem.W.fnOf "is_pair" "is_pair" (defArgs s_is_pair) (defBody s_is_pair) (defScope s_is_pair) .none kV3 dc3 pm3 an3 cd3 ct3), sl3⟩)
    (c3 : PySem.W.codeIn K cd3 "is_pair" = true)
    (k3 : PySem.W.keepIn K (.ref f3) = true)
    (a4 : PySem.W.nsIn K mainGlobals "is_lot" = some (some (.ref f4)))
    (l4 : K.lookup f4 = some ⟨oc4, od4, .func (PySem.W.fnOf "is_lot" "is_lot" (defArgs s_is_lot) (defBody s_is_lot) (defScope s_is_lot) .none kV4 dc4 pm4 an4 cd4 ct4), sl4⟩)
    (c4 : PySem.W.codeIn K cd4 "is_lot" = true)
    (k4 : PySem.W.keepIn K (.ref f4) = true)
    (a5 : PySem.W.nsIn K mainGlobals "is_flags" = some (some (.ref f5)))
    (l5 : K.lookup f5 = some ⟨oc5, od5, .func (PySem.W.fnOf "is_flags" "is_flags" (defArgs s_is_flags) (defBody s_is_flags) (defScope s_is_flags) .none kV5 dc5 pm5 an5 cd5 ct5), sl5⟩)
    (c5 : PySem.W.codeIn K cd5 "is_flags" = true)
    (k5 : PySem.W.keepIn K (.ref f5) = true)
    (a6 : PySem.W.nsIn K mainGlobals "parts" = some (some (.ref f6)))
    (l6 : K.lookup f6 = some ⟨oc6, od6, .func (PySem.W.fnOf "parts" "parts" (defArgs s_parts) (defBody s_parts) (defScope s_parts) .none kV6 dc6 pm6 an6 cd6 ct6), sl6⟩)
    (c6 : PySem.W.codeIn K cd6 "parts" = true)
    (k6 : PySem.W.keepIn K (.ref f6) = true)
    (a7 : PySem.W.nsIn K mainGlobals "_marked" = some (some (.ref f7)))
    (l7 : K.lookup f7 = some ⟨oc7, od7, .func (PySem.W.fnOf "_marked" "_marked" (defArgs s_marked) (defBody s_marked) (defScope s_marked) .none kV7 dc7 pm7 an7 cd7 ct7), sl7⟩)
    (c7 : PySem.W.codeIn K cd7 "_marked" = true)
    (k7 : PySem.W.keepIn K (.ref f7) = true)
    (a8 : PySem.W.findIn K (.ref C_Web) "__init__" = some (some (.ref f8)))
    (i8 : PySem.W.isFn K (.ref f8) = true)
    (l8 : K.lookup f8 = some ⟨oc8, od8, .func (PySem.W.fnOf "__init__" "Web.__init__" (defArgs s_webI) (defBody s_webI) (defScope s_webI) .none kV8 dc8 pm8 an8 cd8 ct8), sl8⟩)
    (c8 : PySem.W.codeIn K cd8 "Web.__init__" = true)
    (k8 : PySem.W.keepIn K (.ref f8) = true)
    (a9 : PySem.W.findIn K (.ref C_Web) "__eq__" = some (some (.ref f9)))
    (i9 : PySem.W.isFn K (.ref f9) = true)
    (l9 : K.lookup f9 = some ⟨oc9, od9, .func (PySem.W.fnOf "__eq__" "Web.__eq__" (defArgs s_webE) (defBody s_webE) (defScope s_webE) .none kV9 dc9 pm9 an9 cd9 ct9), sl9⟩)
    (c9 : PySem.W.codeIn K cd9 "Web.__eq__" = true)
    (k9 : PySem.W.keepIn K (.ref f9) = true)
    (a10 : PySem.W.nsIn K mainGlobals "_is_tie" = some (some (.ref f10)))
    (l10 : K.lookup f10 = some ⟨oc10, od10, .func (PySem.W.fnOf "_is_tie" "_is_tie" (defArgs s_is_tie) (defBody s_is_tie) (defScope s_is_tie) .none kV10 dc10 pm10 an10 cd10 ct10), sl10⟩)
    (c10 : PySem.W.codeIn K cd10 "_is_tie" = true)
    (k10 : PySem.W.keepIn K (.ref f10) = true)
    (a11 : PySem.W.nsIn K mainGlobals "is_signing" = some (some (.ref f11)))
    (l11 : K.lookup f11 = some ⟨oc11, od11, .func (PySem.W.fnOf "is_signing" "is_signing" (defArgs s_is_signing) (defBody s_is_signing) (defScope s_is_signing) .none kV11 dc11 pm11 an11 cd11 ct11), sl11⟩)
    (c11 : PySem.W.codeIn K cd11 "is_signing" = true)
    (k11 : PySem.W.keepIn K (.ref f11) = true)
    (a12 : PySem.W.nsIn K mainGlobals "is_rising" = some (some (.ref f12)))
    (l12 : K.lookup f12 = some ⟨oc12, od12, .func (PySem.W.fnOf "is_rising" "is_rising" (defArgs s_is_rising) (defBody s_is_rising) (defScope s_is_rising) .none kV12 dc12 pm12 an12 cd12 ct12), sl12⟩)
    (c12 : PySem.W.codeIn K cd12 "is_rising" = true)
    (k12 : PySem.W.keepIn K (.ref f12) = true)
    (a13 : PySem.W.nsIn K mainGlobals "_goings" = some (some (.ref f13)))
    (l13 : K.lookup f13 = some ⟨oc13, od13, .func (PySem.W.fnOf "_goings" "_goings" (defArgs s_goings) (defBody s_goings) (defScope s_goings) .none kV13 dc13 pm13 an13 cd13 ct13), sl13⟩)
    (c13 : PySem.W.codeIn K cd13 "_goings" = true)
    (k13 : PySem.W.keepIn K (.ref f13) = true)
    (a14 : PySem.W.nsIn K mainGlobals "round_of" = some (some (.ref f14)))
    (l14 : K.lookup f14 = some ⟨oc14, od14, .func (PySem.W.fnOf "round_of" "round_of" (defArgs s_round_of) (defBody s_round_of) (defScope s_round_of) .none kV14 dc14 pm14 an14 cd14 ct14), sl14⟩)
    (c14 : PySem.W.codeIn K cd14 "round_of" = true)
    (k14 : PySem.W.keepIn K (.ref f14) = true)
    (a15 : PySem.W.nsIn K mainGlobals "_never_sources" = some (some (.ref f15)))
    (l15 : K.lookup f15 = some ⟨oc15, od15, .func (PySem.W.fnOf "_never_sources" "_never_sources" (defArgs s_never_sources) (defBody s_never_sources) (defScope s_never_sources) .none kV15 dc15 pm15 an15 cd15 ct15), sl15⟩)
    (c15 : PySem.W.codeIn K cd15 "_never_sources" = true)
    (k15 : PySem.W.keepIn K (.ref f15) = true)
    (a16 : PySem.W.nsIn K mainGlobals "_round_behind" = some (some (.ref f16)))
    (l16 : K.lookup f16 = some ⟨oc16, od16, .func (PySem.W.fnOf "_round_behind" "_round_behind" (defArgs s_round_behind) (defBody s_round_behind) (defScope s_round_behind) .none kV16 dc16 pm16 an16 cd16 ct16), sl16⟩)
    (c16 : PySem.W.codeIn K cd16 "_round_behind" = true)
    (k16 : PySem.W.keepIn K (.ref f16) = true)
    (a17 : PySem.W.nsIn K mainGlobals "sources" = some (some (.ref f17)))
    (l17 : K.lookup f17 = some ⟨oc17, od17, .func (PySem.W.fnOf "sources" "sources" (defArgs s_sources) (defBody s_sources) (defScope s_sources) .none kV17 dc17 pm17 an17 cd17 ct17), sl17⟩)
    (c17 : PySem.W.codeIn K cd17 "sources" = true)
    (k17 : PySem.W.keepIn K (.ref f17) = true)
    (a18 : PySem.W.nsIn K mainGlobals "_behind" = some (some (.ref f18)))
    (l18 : K.lookup f18 = some ⟨oc18, od18, .func (PySem.W.fnOf "_behind" "_behind" (defArgs s_behind) (defBody s_behind) (defScope s_behind) .none kV18 dc18 pm18 an18 cd18 ct18), sl18⟩)
    (c18 : PySem.W.codeIn K cd18 "_behind" = true)
    (k18 : PySem.W.keepIn K (.ref f18) = true)
    (a19 : PySem.W.nsIn K mainGlobals "rooted" = some (some (.ref f19)))
    (l19 : K.lookup f19 = some ⟨oc19, od19, .func (PySem.W.fnOf "rooted" "rooted" (defArgs s_rooted) (defBody s_rooted) (defScope s_rooted) .none kV19 dc19 pm19 an19 cd19 ct19), sl19⟩)
    (c19 : PySem.W.codeIn K cd19 "rooted" = true)
    (k19 : PySem.W.keepIn K (.ref f19) = true)
    (a20 : PySem.W.nsIn K mainGlobals "_law_hand" = some (some (.ref f20)))
    (l20 : K.lookup f20 = some ⟨oc20, od20, .func (PySem.W.fnOf "_law_hand" "_law_hand" (defArgs s_l_hand) (defBody s_l_hand) (defScope s_l_hand) .none kV20 dc20 pm20 an20 cd20 ct20), sl20⟩)
    (c20 : PySem.W.codeIn K cd20 "_law_hand" = true)
    (k20 : PySem.W.keepIn K (.ref f20) = true)
    (a21 : PySem.W.nsIn K mainGlobals "_law_draw" = some (some (.ref f21)))
    (l21 : K.lookup f21 = some ⟨oc21, od21, .func (PySem.W.fnOf "_law_draw" "_law_draw" (defArgs s_l_draw) (defBody s_l_draw) (defScope s_l_draw) .none kV21 dc21 pm21 an21 cd21 ct21), sl21⟩)
    (c21 : PySem.W.codeIn K cd21 "_law_draw" = true)
    (k21 : PySem.W.keepIn K (.ref f21) = true)
    (a22 : PySem.W.nsIn K mainGlobals "_law_some" = some (some (.ref f22)))
    (l22 : K.lookup f22 = some ⟨oc22, od22, .func (PySem.W.fnOf "_law_some" "_law_some" (defArgs s_l_some) (defBody s_l_some) (defScope s_l_some) .none kV22 dc22 pm22 an22 cd22 ct22), sl22⟩)
    (c22 : PySem.W.codeIn K cd22 "_law_some" = true)
    (k22 : PySem.W.keepIn K (.ref f22) = true)
    (a23 : PySem.W.nsIn K mainGlobals "_law_mixed" = some (some (.ref f23)))
    (l23 : K.lookup f23 = some ⟨oc23, od23, .func (PySem.W.fnOf "_law_mixed" "_law_mixed" (defArgs s_l_mixed) (defBody s_l_mixed) (defScope s_l_mixed) .none kV23 dc23 pm23 an23 cd23 ct23), sl23⟩)
    (c23 : PySem.W.codeIn K cd23 "_law_mixed" = true)
    (k23 : PySem.W.keepIn K (.ref f23) = true)
    (a24 : PySem.W.nsIn K mainGlobals "_law_ties" = some (some (.ref f24)))
    (l24 : K.lookup f24 = some ⟨oc24, od24, .func (PySem.W.fnOf "_law_ties" "_law_ties" (defArgs s_l_ties) (defBody s_l_ties) (defScope s_l_ties) .none kV24 dc24 pm24 an24 cd24 ct24), sl24⟩)
    (c24 : PySem.W.codeIn K cd24 "_law_ties" = true)
    (k24 : PySem.W.keepIn K (.ref f24) = true)
    (a25 : PySem.W.nsIn K mainGlobals "_law_whole_ties" = some (some (.ref f25)))
    (l25 : K.lookup f25 = some ⟨oc25, od25, .func (PySem.W.fnOf "_law_whole_ties" "_law_whole_ties" (defArgs s_l_whole_ties) (defBody s_l_whole_ties) (defScope s_l_whole_ties) .none kV25 dc25 pm25 an25 cd25 ct25), sl25⟩)
    (c25 : PySem.W.codeIn K cd25 "_law_whole_ties" = true)
    (k25 : PySem.W.keepIn K (.ref f25) = true)
    (a26 : PySem.W.nsIn K mainGlobals "_law_signing" = some (some (.ref f26)))
    (l26 : K.lookup f26 = some ⟨oc26, od26, .func (PySem.W.fnOf "_law_signing" "_law_signing" (defArgs s_l_signing) (defBody s_l_signing) (defScope s_l_signing) .none kV26 dc26 pm26 an26 cd26 ct26), sl26⟩)
    (c26 : PySem.W.codeIn K cd26 "_law_signing" = true)
    (k26 : PySem.W.keepIn K (.ref f26) = true)
    (a27 : PySem.W.nsIn K mainGlobals "_law_sources" = some (some (.ref f27)))
    (l27 : K.lookup f27 = some ⟨oc27, od27, .func (PySem.W.fnOf "_law_sources" "_law_sources" (defArgs s_l_sources) (defBody s_l_sources) (defScope s_l_sources) .none kV27 dc27 pm27 an27 cd27 ct27), sl27⟩)
    (c27 : PySem.W.codeIn K cd27 "_law_sources" = true)
    (k27 : PySem.W.keepIn K (.ref f27) = true)
    (a28 : PySem.W.nsIn K mainGlobals "_law_bent" = some (some (.ref f28)))
    (l28 : K.lookup f28 = some ⟨oc28, od28, .func (PySem.W.fnOf "_law_bent" "_law_bent" (defArgs s_l_bent) (defBody s_l_bent) (defScope s_l_bent) .none kV28 dc28 pm28 an28 cd28 ct28), sl28⟩)
    (c28 : PySem.W.codeIn K cd28 "_law_bent" = true)
    (k28 : PySem.W.keepIn K (.ref f28) = true)
    (a29 : PySem.W.nsIn K mainGlobals "_law_is_free" = some (some (.ref f29)))
    (l29 : K.lookup f29 = some ⟨oc29, od29, .func (PySem.W.fnOf "_law_is_free" "_law_is_free" (defArgs s_l_is_free) (defBody s_l_is_free) (defScope s_l_is_free) .none kV29 dc29 pm29 an29 cd29 ct29), sl29⟩)
    (c29 : PySem.W.codeIn K cd29 "_law_is_free" = true)
    (k29 : PySem.W.keepIn K (.ref f29) = true)
    (a30 : PySem.W.nsIn K mainGlobals "_law_heights" = some (some (.ref f30)))
    (l30 : K.lookup f30 = some ⟨oc30, od30, .func (PySem.W.fnOf "_law_heights" "_law_heights" (defArgs s_l_heights) (defBody s_l_heights) (defScope s_l_heights) .none kV30 dc30 pm30 an30 cd30 ct30), sl30⟩)
    (c30 : PySem.W.codeIn K cd30 "_law_heights" = true)
    (k30 : PySem.W.keepIn K (.ref f30) = true)
    (a31 : PySem.W.nsIn K mainGlobals "_law_are_flags" = some (some (.ref f31)))
    (l31 : K.lookup f31 = some ⟨oc31, od31, .func (PySem.W.fnOf "_law_are_flags" "_law_are_flags" (defArgs s_l_are_flags) (defBody s_l_are_flags) (defScope s_l_are_flags) .none kV31 dc31 pm31 an31 cd31 ct31), sl31⟩)
    (c31 : PySem.W.codeIn K cd31 "_law_are_flags" = true)
    (k31 : PySem.W.keepIn K (.ref f31) = true)
    (a32 : PySem.W.nsIn K mainGlobals "_law_rooted" = some (some (.ref f32)))
    (l32 : K.lookup f32 = some ⟨oc32, od32, .func (PySem.W.fnOf "_law_rooted" "_law_rooted" (defArgs s_l_rooted) (defBody s_l_rooted) (defScope s_l_rooted) .none kV32 dc32 pm32 an32 cd32 ct32), sl32⟩)
    (c32 : PySem.W.codeIn K cd32 "_law_rooted" = true)
    (k32 : PySem.W.keepIn K (.ref f32) = true)
    (a33 : PySem.W.nsIn K mainGlobals "_law_led_on" = some (some (.ref f33)))
    (l33 : K.lookup f33 = some ⟨oc33, od33, .func (PySem.W.fnOf "_law_led_on" "_law_led_on" (defArgs s_l_led_on) (defBody s_l_led_on) (defScope s_l_led_on) .none kV33 dc33 pm33 an33 cd33 ct33), sl33⟩)
    (c33 : PySem.W.codeIn K cd33 "_law_led_on" = true)
    (k33 : PySem.W.keepIn K (.ref f33) = true)
    (a34 : PySem.W.nsIn K mainGlobals "_law_is_right" = some (some (.ref f34)))
    (l34 : K.lookup f34 = some ⟨oc34, od34, .func (PySem.W.fnOf "_law_is_right" "_law_is_right" (defArgs s_l_is_right) (defBody s_l_is_right) (defScope s_l_is_right) .none kV34 dc34 pm34 an34 cd34 ct34), sl34⟩)
    (c34 : PySem.W.codeIn K cd34 "_law_is_right" = true)
    (k34 : PySem.W.keepIn K (.ref f34) = true)
    (a35 : PySem.W.nsIn K mainGlobals "law" = some (some (.ref f35)))
    (l35 : K.lookup f35 = some ⟨oc35, od35, .func (PySem.W.fnOf "law" "law" (defArgs s_law) (defBody s_law) (defScope s_law) .none kV35 dc35 pm35 an35 cd35 ct35), sl35⟩)
    (c35 : PySem.W.codeIn K cd35 "law" = true)
    (k35 : PySem.W.keepIn K (.ref f35) = true)
    (pg_Web : PySem.W.plainGet K C_Web Str.empty = true)
    (hd_Web : PySem.W.hasDictIn K C_Web = true)
    (po_Web : PySem.W.plainOver K C_Web = true)
    (sa_Web : PySem.W.findIn K (.ref C_Web) "__setattr__" = some (some (.builtin "object.__setattr__")))
    (mk_Web : PySem.W.makesIn K C_Web = true)
    (kc_Web : PySem.W.keepIn K (.ref C_Web) = true)
    (ic_Web : PySem.W.findIn K (.ref C_Web) "__class__" = some (some (.builtin "object.__class__")))
    (im_Web : PySem.W.mroIn K C_Web (.type "object") = some true)
    (ne_Web : PySem.W.findIn K (.ref C_Web) "__ne__" = some (some (.builtin "object.__ne__")))
    (no_Web_many : PySem.W.findIn K (.ref C_Web) "many" = some none)
    (no_Web_ties : PySem.W.findIn K (.ref C_Web) "ties" = some none)
    (ia : PySem.W.specialIn K (.builtin "object.__class__") "__get__" = some (some (.builtin "getset_descriptor.__get__")))
    (ib : PySem.W.takesIn K (.builtin "object.__class__") = some true)
    (v_MOST_PLACES : PySem.W.nsIn K mainGlobals "MOST_PLACES" = some (some (.int 10 t_MOST_PLACES)))
    (v_MOST_TIES : PySem.W.nsIn K mainGlobals "MOST_TIES" = some (some (.int 16 t_MOST_TIES)))
    (z_abs : PySem.W.nsIn K mainGlobals "abs" = some none)
    (z_all : PySem.W.nsIn K mainGlobals "all" = some none)
    (z_any : PySem.W.nsIn K mainGlobals "any" = some none)
    (z_bool : PySem.W.nsIn K mainGlobals "bool" = some none)
    (z_enumerate : PySem.W.nsIn K mainGlobals "enumerate" = some none)
    (z_int : PySem.W.nsIn K mainGlobals "int" = some none)
    (z_isinstance : PySem.W.nsIn K mainGlobals "isinstance" = some none)
    (z_len : PySem.W.nsIn K mainGlobals "len" = some none)
    (z_list : PySem.W.nsIn K mainGlobals "list" = some none)
    (z_max : PySem.W.nsIn K mainGlobals "max" = some none)
    (z_min : PySem.W.nsIn K mainGlobals "min" = some none)
    (z_range : PySem.W.nsIn K mainGlobals "range" = some none)
    (z_reversed : PySem.W.nsIn K mainGlobals "reversed" = some none)
    (z_sorted : PySem.W.nsIn K mainGlobals "sorted" = some none)
    (z_tuple : PySem.W.nsIn K mainGlobals "tuple" = some none)
    (z_zip : PySem.W.nsIn K mainGlobals "zip" = some none) :
    ∃ fd : FuncData, (∀ (s : Shared) (v : Value), BindsTo s fd ⟨[v], []⟩ [("script", v)]) ∧ ∀ base : Heap, K.In base → base.Ns mainGlobals mg → FnOk l.prog w K mg base CX0 12 fa fd ["script"] (spLaw K) := by
  have e := hfa.symm.trans (PySem.W.mg_of X G a35)
  cases e
  have F0 := fun_mk (st := s_is_integer) l0 c0 k0
  have b0 := F0.binds (ps := ["thing"]) fun _ _ _ _ _ _ us hl => match us, hl with | [_], _ => rfl
  have F1 := fun_mk (st := s_is_between) l1 c1 k1
  have b1 := F1.binds (ps := ["thing", "least", "most"]) fun _ _ _ _ _ _ us hl => match us, hl with | [_, _, _], _ => rfl
  have F2 := fun_mk (st := s_is_below) l2 c2 k2
  have b2 := F2.binds (ps := ["thing", "bound"]) fun _ _ _ _ _ _ us hl => match us, hl with | [_, _], _ => rfl
  have F3 := fun_mk (st := s_is_pair) l3 c3 k3
  have b3 := F3.binds (ps := ["thing"]) fun _ _ _ _ _ _ us hl => match us, hl with | [_], _ => rfl
  have F4 := fun_mk (st := s_is_lot) l4 c4 k4
  have b4 := F4.binds (ps := ["thing", "bound"]) fun _ _ _ _ _ _ us hl => match us, hl with | [_, _], _ => rfl
  have F5 := fun_mk (st := s_is_flags) l5 c5 k5
  have b5 := F5.binds (ps := ["thing"]) fun _ _ _ _ _ _ us hl => match us, hl with | [_], _ => rfl
  have F6 := fun_mk (st := s_parts) l6 c6 k6
  have b6 := F6.binds (ps := ["web", "lot"]) fun _ _ _ _ _ _ us hl => match us, hl with | [_, _], _ => rfl
  have F7 := fun_mk (st := s_marked) l7 c7 k7
  have b7 := F7.binds (ps := ["marks", "mark"]) fun _ _ _ _ _ _ us hl => match us, hl with | [_, _], _ => rfl
  have F8 := fun_mk (st := s_webI) l8 c8 k8
  have b8 := F8.binds (ps := ["self", "many", "ties"]) fun _ _ _ _ _ _ us hl => match us, hl with | [_, _, _], _ => rfl
  have F9 := fun_mk (st := s_webE) l9 c9 k9
  have b9 := F9.binds (ps := ["self", "other"]) fun _ _ _ _ _ _ us hl => match us, hl with | [_, _], _ => rfl
  have F10 := fun_mk (st := s_is_tie) l10 c10 k10
  have b10 := F10.binds (ps := ["thing", "many"]) fun _ _ _ _ _ _ us hl => match us, hl with | [_, _], _ => rfl
  have F11 := fun_mk (st := s_is_signing) l11 c11 k11
  have b11 := F11.binds (ps := ["web", "thing"]) fun _ _ _ _ _ _ us hl => match us, hl with | [_, _], _ => rfl
  have F12 := fun_mk (st := s_is_rising) l12 c12 k12
  have b12 := F12.binds (ps := ["web", "thing"]) fun _ _ _ _ _ _ us hl => match us, hl with | [_, _], _ => rfl
  have F13 := fun_mk (st := s_goings) l13 c13 k13
  have b13 := F13.binds (ps := ["web", "signing"]) fun _ _ _ _ _ _ us hl => match us, hl with | [_, _], _ => rfl
  have F14 := fun_mk (st := s_round_of) l14 c14 k14
  have b14 := F14.binds (ps := ["web", "signing"]) fun _ _ _ _ _ _ us hl => match us, hl with | [_, _], _ => rfl
  have F15 := fun_mk (st := s_never_sources) l15 c15 k15
  have b15 := F15.binds (ps := ["many", "goings"]) fun _ _ _ _ _ _ us hl => match us, hl with | [_, _], _ => rfl
  have F16 := fun_mk (st := s_round_behind) l16 c16 k16
  have b16 := F16.binds (ps := ["goings", "left"]) fun _ _ _ _ _ _ us hl => match us, hl with | [_, _], _ => rfl
  have F17 := fun_mk (st := s_sources) l17 c17 k17
  have b17 := F17.binds (ps := ["web", "signing"]) fun _ _ _ _ _ _ us hl => match us, hl with | [_, _], _ => rfl
  have F18 := fun_mk (st := s_behind) l18 c18 k18
  have b18 := F18.binds (ps := ["web", "signing", "place"]) fun _ _ _ _ _ _ us hl => match us, hl with | [_, _, _], _ => rfl
  have F19 := fun_mk (st := s_rooted) l19 c19 k19
  have b19 := F19.binds (ps := ["web", "signing", "place"]) fun _ _ _ _ _ _ us hl => match us, hl with | [_, _, _], _ => rfl
  have F20 := fun_mk (st := s_l_hand) l20 c20 k20
  have b20 := F20.binds (ps := ["script"]) fun _ _ _ _ _ _ us hl => match us, hl with | [_], _ => rfl
  have F21 := fun_mk (st := s_l_draw) l21 c21 k21
  have b21 := F21.binds (ps := ["hand", "many"]) fun _ _ _ _ _ _ us hl => match us, hl with | [_, _], _ => rfl
  have F22 := fun_mk (st := s_l_some) l22 c22 k22
  have b22 := F22.binds (ps := ["hand", "things"]) fun _ _ _ _ _ _ us hl => match us, hl with | [_, _], _ => rfl
  have F23 := fun_mk (st := s_l_mixed) l23 c23 k23
  have b23 := F23.binds (ps := ["hand", "things"]) fun _ _ _ _ _ _ us hl => match us, hl with | [_, _], _ => rfl
  have F24 := fun_mk (st := s_l_ties) l24 c24 k24
  have b24 := F24.binds (ps := ["hand", "many", "most"]) fun _ _ _ _ _ _ us hl => match us, hl with | [_, _, _], _ => rfl
  have F25 := fun_mk (st := s_l_whole_ties) l25 c25 k25
  have b25 := F25.binds (ps := ["hand", "many", "most"]) fun _ _ _ _ _ _ us hl => match us, hl with | [_, _, _], _ => rfl
  have F26 := fun_mk (st := s_l_signing) l26 c26 k26
  have b26 := F26.binds (ps := ["hand", "many", "ties"]) fun _ _ _ _ _ _ us hl => match us, hl with | [_, _, _], _ => rfl
  have F27 := fun_mk (st := s_l_sources) l27 c27 k27
  have b27 := F27.binds (ps := ["many", "ties", "signing"]) fun _ _ _ _ _ _ us hl => match us, hl with | [_, _, _], _ => rfl
  have F28 := fun_mk (st := s_l_bent) l28 c28 k28
  have b28 := F28.binds (ps := ["ties", "signing", "place"]) fun _ _ _ _ _ _ us hl => match us, hl with | [_, _, _], _ => rfl
  have F29 := fun_mk (st := s_l_is_free) l29 c29 k29
  have b29 := F29.binds (ps := ["many", "ties", "signing"]) fun _ _ _ _ _ _ us hl => match us, hl with | [_, _, _], _ => rfl
  have F30 := fun_mk (st := s_l_heights) l30 c30 k30
  have b30 := F30.binds (ps := ["many", "ties", "one", "other"]) fun _ _ _ _ _ _ us hl => match us, hl with | [_, _, _, _], _ => rfl
  have F31 := fun_mk (st := s_l_are_flags) l31 c31 k31
  have b31 := F31.binds (ps := ["told", "due"]) fun _ _ _ _ _ _ us hl => match us, hl with | [_, _], _ => rfl
  have F32 := fun_mk (st := s_l_rooted) l32 c32 k32
  have b32 := F32.binds (ps := ["many", "ties", "signing", "place"]) fun _ _ _ _ _ _ us hl => match us, hl with | [_, _, _, _], _ => rfl
  have F33 := fun_mk (st := s_l_led_on) l33 c33 k33
  have b33 := F33.binds (ps := ["hand", "many", "ties", "signing", "most"]) fun _ _ _ _ _ _ us hl => match us, hl with | [_, _, _, _, _], _ => rfl
  have F34 := fun_mk (st := s_l_is_right) l34 c34 k34
  have b34 := F34.binds (ps := ["web", "signing", "place"]) fun _ _ _ _ _ _ us hl => match us, hl with | [_, _, _], _ => rfl
  have F35 := fun_mk (st := s_law) l35 c35 k35
  have b35 := F35.binds (ps := ["script"]) fun _ _ _ _ _ _ us hl => match us, hl with | [_], _ => rfl
  let T : Tx K mg := {
    f_is_integer := f0, d_is_integer := _, F_is_integer := F0, b_is_integer := b0, m_is_integer := PySem.W.mg_of X G a0,
    f_is_between := f1, d_is_between := _, F_is_between := F1, b_is_between := b1, m_is_between := PySem.W.mg_of X G a1,
    f_is_below := f2, d_is_below := _, F_is_below := F2, b_is_below := b2, m_is_below := PySem.W.mg_of X G a2,
    f_is_pair := f3, d_is_pair := _, F_is_pair := F3, b_is_pair := b3, m_is_pair := PySem.W.mg_of X G a3,
    f_is_lot := f4, d_is_lot := _, F_is_lot := F4, b_is_lot := b4, m_is_lot := PySem.W.mg_of X G a4,
    f_is_flags := f5, d_is_flags := _, F_is_flags := F5, b_is_flags := b5, m_is_flags := PySem.W.mg_of X G a5,
    f_parts := f6, d_parts := _, F_parts := F6, b_parts := b6, m_parts := PySem.W.mg_of X G a6,
    f_marked := f7, d_marked := _, F_marked := F7, b_marked := b7, m_marked := PySem.W.mg_of X G a7,
    f_webI := f8, d_webI := _, F_webI := F8, b_webI := b8,
    f_webE := f9, d_webE := _, F_webE := F9, b_webE := b9,
    f_is_tie := f10, d_is_tie := _, F_is_tie := F10, b_is_tie := b10, m_is_tie := PySem.W.mg_of X G a10,
    f_is_signing := f11, d_is_signing := _, F_is_signing := F11, b_is_signing := b11, m_is_signing := PySem.W.mg_of X G a11,
    f_is_rising := f12, d_is_rising := _, F_is_rising := F12, b_is_rising := b12, m_is_rising := PySem.W.mg_of X G a12,
    f_goings := f13, d_goings := _, F_goings := F13, b_goings := b13, m_goings := PySem.W.mg_of X G a13,
    f_round_of := f14, d_round_of := _, F_round_of := F14, b_round_of := b14, m_round_of := PySem.W.mg_of X G a14,
    f_never_sources := f15, d_never_sources := _, F_never_sources := F15, b_never_sources := b15, m_never_sources := PySem.W.mg_of X G a15,
    f_round_behind := f16, d_round_behind := _, F_round_behind := F16, b_round_behind := b16, m_round_behind := PySem.W.mg_of X G a16,
    f_sources := f17, d_sources := _, F_sources := F17, b_sources := b17, m_sources := PySem.W.mg_of X G a17,
    f_behind := f18, d_behind := _, F_behind := F18, b_behind := b18, m_behind := PySem.W.mg_of X G a18,
    f_rooted := f19, d_rooted := _, F_rooted := F19, b_rooted := b19, m_rooted := PySem.W.mg_of X G a19,
    f_l_hand := f20, d_l_hand := _, F_l_hand := F20, b_l_hand := b20, m_l_hand := PySem.W.mg_of X G a20,
    f_l_draw := f21, d_l_draw := _, F_l_draw := F21, b_l_draw := b21, m_l_draw := PySem.W.mg_of X G a21,
    f_l_some := f22, d_l_some := _, F_l_some := F22, b_l_some := b22, m_l_some := PySem.W.mg_of X G a22,
    f_l_mixed := f23, d_l_mixed := _, F_l_mixed := F23, b_l_mixed := b23, m_l_mixed := PySem.W.mg_of X G a23,
    f_l_ties := f24, d_l_ties := _, F_l_ties := F24, b_l_ties := b24, m_l_ties := PySem.W.mg_of X G a24,
    f_l_whole_ties := f25, d_l_whole_ties := _, F_l_whole_ties := F25, b_l_whole_ties := b25, m_l_whole_ties := PySem.W.mg_of X G a25,
    f_l_signing := f26, d_l_signing := _, F_l_signing := F26, b_l_signing := b26, m_l_signing := PySem.W.mg_of X G a26,
    f_l_sources := f27, d_l_sources := _, F_l_sources := F27, b_l_sources := b27, m_l_sources := PySem.W.mg_of X G a27,
    f_l_bent := f28, d_l_bent := _, F_l_bent := F28, b_l_bent := b28, m_l_bent := PySem.W.mg_of X G a28,
    f_l_is_free := f29, d_l_is_free := _, F_l_is_free := F29, b_l_is_free := b29, m_l_is_free := PySem.W.mg_of X G a29,
    f_l_heights := f30, d_l_heights := _, F_l_heights := F30, b_l_heights := b30, m_l_heights := PySem.W.mg_of X G a30,
    f_l_are_flags := f31, d_l_are_flags := _, F_l_are_flags := F31, b_l_are_flags := b31, m_l_are_flags := PySem.W.mg_of X G a31,
    f_l_rooted := f32, d_l_rooted := _, F_l_rooted := F32, b_l_rooted := b32, m_l_rooted := PySem.W.mg_of X G a32,
    f_l_led_on := f33, d_l_led_on := _, F_l_led_on := F33, b_l_led_on := b33, m_l_led_on := PySem.W.mg_of X G a33,
    f_l_is_right := f34, d_l_is_right := _, F_l_is_right := F34, b_l_is_right := b34, m_l_is_right := PySem.W.mg_of X G a34,
    f_law := fa, d_law := _, F_law := F35, b_law := b35, m_law := PySem.W.mg_of X G a35,
    C_Web := C_Web, m_Web := PySem.W.mg_of X G aC_Web, cl_Web := ⟨pg_Web, hd_Web, po_Web, sa_Web⟩, mk_Web := ⟨mk_Web, a8, i8, kc_Web⟩,
    eq_Web := a9, eqf_Web := i9,
    ne_Web := ne_Web,
    ic_Web := ic_Web, im_Web := im_Web, no_Web_many := no_Web_many, no_Web_ties := no_Web_ties,
    ia := ia, ib := ib,
    t_MOST_PLACES := t_MOST_PLACES, m_MOST_PLACES := PySem.W.mg_of X G v_MOST_PLACES,
    t_MOST_TIES := t_MOST_TIES, m_MOST_TIES := PySem.W.mg_of X G v_MOST_TIES,
    g_abs := PySem.W.mg_none_of X G z_abs, g_all := PySem.W.mg_none_of X G z_all, g_any := PySem.W.mg_none_of X G z_any, g_bool := PySem.W.mg_none_of X G z_bool, g_enumerate := PySem.W.mg_none_of X G z_enumerate, g_int := PySem.W.mg_none_of X G z_int, g_isinstance := PySem.W.mg_none_of X G z_isinstance, g_len := PySem.W.mg_none_of X G z_len, g_list := PySem.W.mg_none_of X G z_list, g_max := PySem.W.mg_none_of X G z_max, g_min := PySem.W.mg_none_of X G z_min, g_range := PySem.W.mg_none_of X G z_range, g_reversed := PySem.W.mg_none_of X G z_reversed, g_sorted := PySem.W.mg_none_of X G z_sorted, g_tuple := PySem.W.mg_none_of X G z_tuple, g_zip := PySem.W.mg_none_of X G z_zip }
  exact ⟨_, fun s v => .of_eq rfl, fun base _ _ => (ok_law T : FnOk l.prog w K mg base CX0 12 T.f_law T.d_law _ _)⟩
end K42
open PySem PySem.W PyProof.Rows
set_option maxRecDepth 100000 in
set_option maxHeartbeats 0 in
theorem PySem.Challenge.cw_takenjoined_k42_whole_rooted_signings_holds : PySem.Challenge.rw_takenjoined_k42_whole_rooted_signings.Holds := by
  w_on; o_law; k_head; (case hw => w_witness2)
  k_fill
  refine L2.walk_of (l := PySem.Challenge.rw_takenjoined_k42_whole_rooted_signings) (n := 63) (k := 12) (x := "script") (CX := fun _ => L2.CX0) (sp := fun w => K42.spLaw _) rfl (by decide) rfl ⟨rfl, by decide, by decide⟩ (fun w h Y => PySem.W.kIn_of Y) ?F (fun _ _ a ns hl _ hS => ⟨a, ns, rfl, hS, hl, fun _ => rfl⟩) (fun _ _ _ _ _ h => h)
  case F =>
    intro w mg fa h KX G hmg
    refine' K42.all_mk KX G hmg ?aC_Web ?a0 ?l0 ?c0 ?k0 ?a1 ?l1 ?c1 ?k1 ?a2 ?l2 ?c2 ?k2 ?a3 ?l3 ?c3 ?k3 ?a4 ?l4 ?c4 ?k4 ?a5 ?l5 ?c5 ?k5 ?a6 ?l6 ?c6 ?k6 ?a7 ?l7 ?c7 ?k7 ?a8 ?i8 ?l8 ?c8 ?k8 ?a9 ?i9 ?l9 ?c9 ?k9 ?a10 ?l10 ?c10 ?k10 ?a11 ?l11 ?c11 ?k11 ?a12 ?l12 ?c12 ?k12 ?a13 ?l13 ?c13 ?k13 ?a14 ?l14 ?c14 ?k14 ?a15 ?l15 ?c15 ?k15 ?a16 ?l16 ?c16 ?k16 ?a17 ?l17 ?c17 ?k17 ?a18 ?l18 ?c18 ?k18 ?a19 ?l19 ?c19 ?k19 ?a20 ?l20 ?c20 ?k20 ?a21 ?l21 ?c21 ?k21 ?a22 ?l22 ?c22 ?k22 ?a23 ?l23 ?c23 ?k23 ?a24 ?l24 ?c24 ?k24 ?a25 ?l25 ?c25 ?k25 ?a26 ?l26 ?c26 ?k26 ?a27 ?l27 ?c27 ?k27 ?a28 ?l28 ?c28 ?k28 ?a29 ?l29 ?c29 ?k29 ?a30 ?l30 ?c30 ?k30 ?a31 ?l31 ?c31 ?k31 ?a32 ?l32 ?c32 ?k32 ?a33 ?l33 ?c33 ?k33 ?a34 ?l34 ?c34 ?k34 ?a35 ?l35 ?c35 ?k35 ?pg_Web ?hd_Web ?po_Web ?sa_Web ?mk_Web ?kc_Web ?ic_Web ?im_Web ?ne_Web ?no_Web_many ?no_Web_ties ?ia ?ib ?v_MOST_PLACES ?v_MOST_TIES ?z_abs ?z_all ?z_any ?z_bool ?z_enumerate ?z_int ?z_isinstance ?z_len ?z_list ?z_max ?z_min ?z_range ?z_reversed ?z_sorted ?z_tuple ?z_zip
    (case aC_Web => k_is); (case a0 => k_is); (case l0 => k_is); (case c0 => k_is); (case k0 => k_is)
    (case a1 => k_is); (case l1 => k_is); (case c1 => k_is); (case k1 => k_is); (case a2 => k_is)
    (case l2 => k_is); (case c2 => k_is); (case k2 => k_is); (case a3 => k_is); (case l3 => k_is)
    (case c3 => k_is); (case k3 => k_is); (case a4 => k_is); (case l4 => k_is); (case c4 => k_is)
    (case k4 => k_is); (case a5 => k_is); (case l5 => k_is); (case c5 => k_is); (case k5 => k_is)
    (case a6 => k_is); (case l6 => k_is); (case c6 => k_is); (case k6 => k_is); (case a7 => k_is)
    (case l7 => k_is); (case c7 => k_is); (case k7 => k_is); (case a8 => k_is); (case i8 => k_is)
    (case l8 => k_is); (case c8 => k_is); (case k8 => k_is); (case a9 => k_is); (case i9 => k_is)
    (case l9 => k_is); (case c9 => k_is); (case k9 => k_is); (case a10 => k_is); (case l10 => k_is)
    (case c10 => k_is); (case k10 => k_is); (case a11 => k_is); (case l11 => k_is); (case c11 => k_is)
    (case k11 => k_is); (case a12 => k_is); (case l12 => k_is); (case c12 => k_is); (case k12 => k_is)
    (case a13 => k_is); (case l13 => k_is); (case c13 => k_is); (case k13 => k_is); (case a14 => k_is)
    (case l14 => k_is); (case c14 => k_is); (case k14 => k_is); (case a15 => k_is); (case l15 => k_is)
    (case c15 => k_is); (case k15 => k_is); (case a16 => k_is); (case l16 => k_is); (case c16 => k_is)
    (case k16 => k_is); (case a17 => k_is); (case l17 => k_is); (case c17 => k_is); (case k17 => k_is)
    (case a18 => k_is); (case l18 => k_is); (case c18 => k_is); (case k18 => k_is); (case a19 => k_is)
    (case l19 => k_is); (case c19 => k_is); (case k19 => k_is); (case a20 => k_is); (case l20 => k_is)
    (case c20 => k_is); (case k20 => k_is); (case a21 => k_is); (case l21 => k_is); (case c21 => k_is)
    (case k21 => k_is); (case a22 => k_is); (case l22 => k_is); (case c22 => k_is); (case k22 => k_is)
    (case a23 => k_is); (case l23 => k_is); (case c23 => k_is); (case k23 => k_is); (case a24 => k_is)
    (case l24 => k_is); (case c24 => k_is); (case k24 => k_is); (case a25 => k_is); (case l25 => k_is)
    (case c25 => k_is); (case k25 => k_is); (case a26 => k_is); (case l26 => k_is); (case c26 => k_is)
    (case k26 => k_is); (case a27 => k_is); (case l27 => k_is); (case c27 => k_is); (case k27 => k_is)
    (case a28 => k_is); (case l28 => k_is); (case c28 => k_is); (case k28 => k_is); (case a29 => k_is)
    (case l29 => k_is); (case c29 => k_is); (case k29 => k_is); (case a30 => k_is); (case l30 => k_is)
    (case c30 => k_is); (case k30 => k_is); (case a31 => k_is); (case l31 => k_is); (case c31 => k_is)
    (case k31 => k_is); (case a32 => k_is); (case l32 => k_is); (case c32 => k_is); (case k32 => k_is)
    (case a33 => k_is); (case l33 => k_is); (case c33 => k_is); (case k33 => k_is); (case a34 => k_is)
    (case l34 => k_is); (case c34 => k_is); (case k34 => k_is); (case a35 => k_is); (case l35 => k_is)
    (case c35 => k_is); (case k35 => k_is); (case pg_Web => k_is); (case hd_Web => k_is); (case po_Web => k_is)
    (case sa_Web => k_is); (case mk_Web => k_is); (case kc_Web => k_is); (case ic_Web => k_is); (case im_Web => k_is)
    (case ne_Web => k_is); (case no_Web_many => k_is); (case no_Web_ties => k_is); (case ia => k_is); (case ib => k_is)
    (case v_MOST_PLACES => k_is); (case v_MOST_TIES => k_is); (case z_abs => k_is); (case z_all => k_is); (case z_any => k_is)
    (case z_bool => k_is); (case z_enumerate => k_is); (case z_int => k_is); (case z_isinstance => k_is); (case z_len => k_is)
    (case z_list => k_is); (case z_max => k_is); (case z_min => k_is); (case z_range => k_is); (case z_reversed => k_is)
    (case z_sorted => k_is); (case z_tuple => k_is); (case z_zip => k_is)

