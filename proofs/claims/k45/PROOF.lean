import PyProof.Rows.All
import Wide.All
import OpenK.AllK
import Wide.FinOn
import HandS.ForMost
import HandS.IsInst
import HandS.Wide
import HandS.OwnEq
import HandS.Strs
import HandS.SetFor
import HandS.SortInts
import HandS.TupAny
import HandS.Conv
import HandS.Flow
import HandS.Walk
import KE.GoesEnum
import PyProof.ReprRoads
import HandS.Words
import HandS.Ends
import PyProof.InstNe
import HandS.Evl
import HandS.Zip
import HandS.Style
import PySem.Challenge.RW_takenjoined_k45_whole_chains
set_option Elab.async false
set_option linter.all false
set_option maxRecDepth 100000
set_option maxHeartbeats 4000000
/-! Rules of my own over the hand layer: a tuple counted through. -/
namespace Rl
open PySem PySem.Spec PyProof.Rows L2
/-! ### for i, x in enumerate(t), t a tuple -/
theorem meets_enT (u : Addr) (vs : Array Value) (nn : Nat) (dd : Option Addr) (ss : Array (Option Value)) :
    Meets (Builtin.«enumerate.__new__» ⟨[.type "enumerate", .ref u], []⟩) (fun _ R s =>
      s.heap.get? u = some { cls := .type "tuple", dict := dd, data := .seq vs nn, slots := ss } ∧
      R (.ok (.ret (.ref (s.heap.push { cls := .type "tuple_iterator", data := .fields #[.ref u, .int 0 0] }).objs.size)))
        { s with heap := ((s.heap.push { cls := .type "tuple_iterator", data := .fields #[.ref u, .int 0 0] }).push
            ({ cls := .type "enumerate", data := .fields #[.none, .bool false, .ref s.heap.objs.size, rawInt 0, .none, .none] } : Obj)) }) :=
  .of_wp fun prog w A R s hy => by
    obtain ⟨hp, gg, dw, tk, oo⟩ := s; obtain ⟨hu, fin⟩ := hy
    have sb := sub_enumerate
    have tt : Heap.IsTuple (Shared.heap ⟨hp, gg, dw, tk, oo⟩) u vs := ⟨_, hu, rfl, nn, rfl⟩
    wp_walk using AutoSeq1.wpAny_loadPart' hu
    refine wpAny_stack_any fun stk => wpAny_pure ?_
    split
    · rename_i cc _ _ _ _ _
      cases (cc == Value.type "enumerate")
      · wp_walk using AutoSeq1.wpAny_loadPart' hu, wpAny_pyIter_tuple tt
        exact ⟨_, rfl, fin⟩
      · wp_walk using AutoSeq1.wpAny_loadPart' hu, wpAny_pyIter_tuple tt
        exact ⟨_, rfl, fin⟩
    · wp_walk using AutoSeq1.wpAny_loadPart' hu, wpAny_pyIter_tuple tt
      exact ⟨_, rfl, fin⟩
section
variable {prog : Program} {w : World} {A : Around} {E : Value → Shared → Prop} {s : Shared}
theorem call_enT {u : Addr} {vs : Array Value} {Q : Value → Shared → Prop} (ht : s.heap.IsTuple u vs)
    (fin : ∀ g, IsEnum g (s.heap.objs.size + 1) s.heap.objs.size 0 .none → g.IsTupleIter s.heap.objs.size u 0 → g.objs.size = s.heap.objs.size + 2 →
      (∀ b o, s.heap.get? b = some o → g.get? b = some o) → Q (.ref (s.heap.objs.size + 1)) { s with heap := g }) :
    wpAny (model prog w) A (call (.type "enumerate") [.ref u]) Q E s := by
  obtain ⟨⟨cc, dd, da, ss⟩, hu, ec, nn, ed⟩ := ht
  replace ec : cc = .type "tuple" := ec
  replace ed : da = .seq vs nn := ed
  subst ec ed
  refine callType_new F.called_enumerate (by decide) (F.typeCall_enumerate_1 _) (F.newCall_enumerate_1 _)
    (fun ob => F.args_object_init_2 ob _) F.entry_enumerate_new (meets_enT u vs nn dd ss) ⟨hu, ?_⟩
  have sz : (s.heap.push { cls := .type "tuple_iterator", data := .fields #[.ref u, .int 0 0] }).objs.size
      = s.heap.objs.size + 1 := Heap.size_push ..
  show _ ∧ _
  rw [sz]
  have en : IsEnum ((s.heap.push { cls := .type "tuple_iterator", data := .fields #[.ref u, .int 0 0] }).push
      { cls := .type "enumerate", data := .fields #[.none, .bool false, .ref s.heap.objs.size, rawInt 0, .none, .none] })
      (s.heap.objs.size + 1) s.heap.objs.size 0 .none := by
    have q := Heap.get?_push_size (s.heap.push { cls := .type "tuple_iterator", data := .fields #[.ref u, .int 0 0] })
      (o := { cls := .type "enumerate", data := .fields #[.none, .bool false, .ref s.heap.objs.size, rawInt 0, .none, .none] }) rfl
    rw [sz] at q
    exact q
  refine ⟨⟨_, en, rfl⟩, fin _ en ?_ (by rw [Heap.size_push, sz])
    fun b o x => Heap.get?_push_of_some _ (Heap.get?_push_of_some _ x)⟩
  have q0 := Heap.get?_push_size s.heap (o := { cls := .type "tuple_iterator", data := .fields #[.ref u, .int 0 0] }) rfl
  exact ⟨_, Heap.get?_push_of_some _ q0, rfl, rfl⟩
end
/-- the tuple at a, each item with its number in a new pair -/
def Iet (K : PySem.W.Frag) (a : Addr) : It :=
  ⟨fun i H => ∃ (ys : List V) (y : V), SqT K H a ys ∧ ys[i]? = some y,
   fun i H v H' => ∃ T y, v = .ref T ∧ H T = none ∧ H' = upd H T (.tup [.int (i : Nat), y]) ∧ ∀ ys, SqT K H a ys → ys[i]? = some y,
   fun i H => ∃ ys : List V, SqT K H a ys ∧ ys.length = i⟩
theorem turn_enT {P : Program} {w : World} {K : PySem.W.Frag} {elts : List Expr} {kk : Nat} {tp : Pos} (a e it : Addr) :
    Turn P w K (.Tuple elts kk tp) (Iet K a) [e, it] e
      (fun i h => (∃ old, IsEnum h e it ((i : Nat) : Int) old) ∧ h.IsTupleIter it a i ∧ e ≠ it) where
  mem := by simp
  obj := fun i h st b hb => by
    obtain ⟨⟨old, en⟩, ⟨o, ho, _, hd⟩, _⟩ := st
    have z : b = e ∨ b = it := by simpa using hb
    rcases z with z | z
    · rw [z]
      exact ⟨_, en, fun v q => nomatch q⟩
    · rw [z]
      exact ⟨o, ho, fun v q => by rw [hd] at q; cases q⟩
  keep := fun i h h' st k => by
    obtain ⟨⟨old, en⟩, ti, ne⟩ := st
    exact ⟨⟨old, k e (by simp) _ en⟩, ti.at fun o q => k it (by simp) o q, ne⟩
  item := by
    intro X eP ew eK hc i pins s σ H E I fk st go
    subst eP ew eK
    obtain ⟨⟨old, en⟩, ti, ne⟩ := st
    obtain ⟨ys, y, hq, hy⟩ := go
    obtain ⟨its, rv, pt, hz⟩ := I.tuple hq
    obtain ⟨u, hu, ru⟩ := rv.get hy
    have le : e < s.heap.objs.size := Heap.lt_size en
    have li : it < s.heap.objs.size := by obtain ⟨_, q, _⟩ := ti; exact Heap.lt_size q
    have hlt : i < its.toArray.size := by
      have q := (List.getElem?_eq_some_iff.mp hu).1
      simpa using q
    have nai : a ≠ it := fun z => by
      obtain ⟨o, ho, hcl, _⟩ := ti
      obtain ⟨o2, ho2, hcl2, _⟩ := pt
      rw [z] at ho2
      rw [ho] at ho2
      cases ho2
      rw [hcl] at hcl2
      exact absurd hcl2 (by simp)
    have nae : e ∉ [it, a] := fun z => by
      have z' : e = it ∨ e = a := by simpa using z
      rcases z' with z' | z'
      · exact ne z'
      · obtain ⟨o2, ho2, hcl2, _⟩ := pt
        rw [← z'] at ho2
        have q := en
        unfold IsEnum at q
        rw [q] at ho2
        cases ho2
        exact absurd hcl2 (by simp)
    have hh : X.A.in1.handled = none := by
      have q := I.ok.hd hc
      simpa using q
    refine wpAny_pyNext_enum_itemC (Draws.tuple hh it a nai its.toArray) en ⟨ti, pt⟩ hlt ne nae
      fun x h' tk ex out hst hT hsz hk => ?_
    have exu : u = x := by
      have q : its.toArray[i]? = some u := by simpa using hu
      exact Option.some.inj (q.symm.trans ex)
    subst exu
    refine ⟨_, rfl, wpAny_letOwnedTupleGo_enum (s := { s with heap := h', toks := tk + 1 }) out fun h2 en2 sb => ?_⟩
    have hT2 : h2.get? s.heap.objs.size = some { cls := .type "tuple", data := .seq #[.int i tk, u] } :=
      (sb.2 _ (Nat.ne_of_gt le)).trans hT
    have new : ObjOk X.prog X.w (upd H s.heap.objs.size (.tup [.int (i : Nat), y])) h2 s.heap.objs.size (.tup [.int (i : Nat), y]) :=
      ⟨by show 2 ≤ sizeLine; decide, [.int i tk, u], .cons ⟨_, rfl⟩ (.cons ru .nil), ⟨_, hT2, rfl, _, rfl⟩⟩
    have I1 : Inv X pins σ (upd H s.heap.objs.size (.tup [.int (i : Nat), y])) { s with heap := h2, toks := tk + 1 } :=
      I.turnedNew (ch := [e, it]) (fun b ob hb q => (sb.2 b (fun z => hb (by simp [z]))).trans
        (hk b ob (fun z => hb (by simp [z])) (fun z => hb (by simp [z])) q)) fk (Nat.le_refl _) new
    refine ⟨.ref s.heap.objs.size, _, I1, rfl, ⟨_, y, rfl, I.hok.fresh (Nat.le_refl _), rfl, fun zs hzs => by rw [I.tuple_inj hzs hq]; exact hy⟩,
      ⟨⟨u, ?_⟩, hst.1.at fun o q => (sb.2 it (Ne.symm ne)).trans q, ne⟩, fun b hb => ?_⟩
    · have e1 : ((i + 1 : Nat) : Int) = (i : Int) + 1 := by omega
      rw [e1]
      exact en2
    · have z : b = e ∨ b = it := by simpa using hb
      have hb' : b < s.heap.objs.size := by
        rcases z with z | z
        · rw [z]; exact le
        · rw [z]; exact li
      rw [upd_ne (Nat.ne_of_lt hb')]
      exact (fk b hb).1
  done := by
    intro X eP ew eK hc i pins s σ H E I fk st go
    subst eP ew eK
    obtain ⟨⟨old, en⟩, ti, ne⟩ := st
    obtain ⟨ys, hq, hl⟩ := go
    obtain ⟨its, rv, pt, hz⟩ := I.tuple hq
    obtain ⟨f0, f1, f2, f3, f4, f5⟩ := fk it (by simp)
    have ln := rv.length
    have hh : X.A.in1.handled = none := by
      have q := I.ok.hd hc
      simpa using q
    have nai : a ≠ it := fun z => by
      obtain ⟨o, ho, hcl, _⟩ := ti
      obtain ⟨o2, ho2, hcl2, _⟩ := pt
      rw [z] at ho2
      rw [ho] at ho2
      cases ho2
      rw [hcl] at hcl2
      exact absurd hcl2 (by simp)
    have ei : its.toArray.size = i := by
      rw [List.size_toArray, ← ln]
      exact hl
    refine wpAny_pyNext_enum_endD (Draws.tuple hh it a nai its.toArray) en (by rw [ei]; exact ⟨ti, pt⟩)
      fun h' eb => ⟨rfl, ?_⟩
    exact I.turned (t' := s.toks) (fun b o hb q => eb b o hb q) f0 f1 f3 f4 f5
  self := fun A i s Q E st h => let ⟨⟨_, en⟩, _⟩ := st; wpAny_pyIter_enum en h
def iEnT (K : PySem.W.Frag) (ta : TA) : TI := fun σ H R => ta σ H fun vs H1 => ∃ a ys, vs = [.ref a] ∧ SqT K H1 a ys ∧ R (Iet K a) H1
theorem pi_enT {X : Cx} {e : Expr} {ta : TA} {p pos tpos : Pos} {elts : List Expr} {kk : Nat} (hg : Gl X "enumerate") (hm : X.mg "enumerate" = none)
    (ha : PA X [e] ta) (hs : starEach [e] X.env = [(false, eval e X.env)] := by rfl) :
    PI X (.Tuple elts kk tpos) (.Call (.Name "enumerate" p) [e] [] pos) (iEnT X.K ta) := by
  refine ⟨fun pins s σ H R I hy => ?_⟩
  refine Call_ (ld_blt I hg hm boot_enumerate (PyProof.Rows.callWith_type1
    (thn (ha.run pos pins s σ H _ I hy) fun us s1 ⟨vs, H1, I1, r1, q1⟩ => ?_) hs rfl))
  obtain ⟨a, ys, ex, hq, q⟩ := q1
  subst ex
  cases r1 with
  | cons r rr =>
    cases rr
    cases r
    obtain ⟨its, rv, pt, hz⟩ := I1.tuple hq
    refine call_enT (show s1.heap.IsTuple a its.toArray from pt) fun g en ti hsz hk => wpAny_pyIter_enum en ?_
    have I2 : Inv X pins σ H1 { s1 with heap := g } := I1.kept (t' := s1.toks) hk
    refine ⟨s1.heap.objs.size + 1, [s1.heap.objs.size + 1, s1.heap.objs.size], _, _, H1, rfl, I2,
      turn_enT a (s1.heap.objs.size + 1) s1.heap.objs.size, ⟨⟨.none, en⟩, ti, Nat.succ_ne_self _⟩, fun b hb => ?_, q⟩
    have z : b = s1.heap.objs.size + 1 ∨ b = s1.heap.objs.size := by simpa using hb
    have le : s1.heap.objs.size ≤ b := by
      rcases z with z | z
      · rw [z]; exact Nat.le_succ _
      · exact Nat.le_of_eq z.symm
    exact I1.fpOk le (I1.hok.fresh le)
/-- the loop over it: each turn's pair is a new tuple at T -/
theorem for_enT {K : PySem.W.Frag} {a : Addr} {xs : List V} {g : TG} {tb : TS} {D : Ends} {σ : L2.St} {H : Hp}
    (Pv : Nat → L2.St → Hp → Prop) (h0 : Pv 0 σ H) (hq : ∀ i σ H, Pv i σ H → SqT K H a xs)
    (hs : ∀ (i : Nat) (x : V) (T : Addr) (σ : L2.St) (H : Hp), xs[i]? = some x → Pv i σ H → H T = none →
      g (.ref T) σ (upd H T (.tup [.int (i : Nat), x])) fun σ2 H2 => tb { D with nx := Pv (i + 1), ct := Pv (i + 1), bk := D.nx } σ2 H2)
    (hd : ∀ σ H, Pv xs.length σ H → D.nx σ H) :
    ∃ W : Nat → Nat → L2.St → Hp → Prop, (∃ m, W 0 m σ H) ∧ ∀ i m σ H, W i m σ H → ((Iet K a).stop i H ∧ D.nx σ H) ∨
      ((Iet K a).go i H ∧ ∃ N : L2.St → Hp → Prop, (∀ σ' H', N σ' H' → ∃ m', m' < m ∧ W (i + 1) m' σ' H') ∧
        ∀ v H', (Iet K a).yld i H v H' → g v σ H' fun σ2 H2 => tb { D with nx := N, ct := N, bk := D.nx } σ2 H2) := by
  refine ⟨fun i m σ H => m = xs.length - i ∧ i ≤ xs.length ∧ Pv i σ H, ⟨xs.length, rfl, Nat.zero_le _, h0⟩, fun i m σ H hw => ?_⟩
  obtain ⟨em, hi, p⟩ := hw
  subst em
  have qx := hq i σ H p
  by_cases lt : i < xs.length
  · refine .inr ⟨⟨xs, _, qx, List.getElem?_eq_getElem lt⟩, Pv (i + 1), fun σ' H' p' => ⟨xs.length - (i + 1), by omega, rfl, lt, p'⟩, fun v H' y => ?_⟩
    obtain ⟨T, x, ev, hT, eH, f⟩ := y
    subst ev eH
    exact hs i x T σ H (f xs qx) p hT
  · have e : i = xs.length := by omega
    subst e
    exact .inl ⟨⟨xs, qx, rfl⟩, hd σ H p⟩
theorem walk_enT {K : PySem.W.Frag} {a : Addr} {xs : List V} : Walk (Iet K a) xs.length (fun H => SqT K H a xs) (YPair (fun i => some (.int (i : Nat))) (fun i => xs[i]?)) := by
  refine ⟨fun i _ lt q => ⟨xs, _, q, List.getElem?_eq_getElem lt⟩, fun _ q => ⟨xs, q, rfl⟩, fun i H v H' _ q y => ?_⟩
  obtain ⟨T, x, g1, g2, g3, g4⟩ := y
  exact ⟨T, .int (i : Nat), x, g1, g2, g3, rfl, g4 xs q⟩
end Rl
set_option Elab.async false
set_option linter.all false
set_option maxRecDepth 100000
set_option maxHeartbeats 4000000
/-! Rules of my own: defs that are called where no text of an object is under way; repr of deep things. -/
namespace KG
open PySem L2 PySem.Spec PyProof.Rows
/-- as FnOk, where it is known that no guard stands around -/
structure FnG (P : Program) (w : World) (K : PySem.W.Frag) (mg : Str → Option Value) (base : Heap) (k : Nat) (f : Addr) (fd : FuncData) (ps : List Str) (sp : Sp) : Prop where
  many : ∀ vs H Q E, sp vs H Q E → vs.length = ps.length
  go : ∀ (A : Around) (out : List Env) (s : Shared) (H : Hp) (args : Args) (us : List Value) (vs : List V) (Q : VK) (E : XK), A.guards = some [] → Room k A →
    Env0 P w K mg base A out s H → BindsTo s fd args (ps.zip us) → Vals vs us → sp vs H Q E → codeAny (model P w) A (.call (.ref f) args) (CR CX0 out P w H s Q E) s
section
variable {P : Program} {w : World} {K : PySem.W.Frag} {mg : Str → Option Value} {base : Heap}
theorem FnG.of {k : Nat} {f : Addr} {fd : FuncData} {ps : List Str} {sp : Sp} (F : FnOk P w K mg base CX0 k f fd ps sp) : FnG P w K mg base k f fd ps sp :=
  ⟨F.len, fun A out s H args us vs Q E _ hr he hb hv h => F.run A out s H args us vs Q E hr he hb hv h⟩
/-- a def by its body, no guard around -/
theorem okG {x qual : Str} {st : Stmt} {f : Addr} {fd : FuncData} {N ps : List Str} {k : Nat} {sp : Sp} (F : Fun K x qual st f fd) (S : FnScope N ps (defScope st))
    (many : ∀ vs H Q E, sp vs H Q E → vs.length = ps.length)
    (body : ∀ (cdv : Value) (A : Around) (out : List Env) (s : Shared) (H : Hp) (vs : List V) (Q : VK) (E : XK), A.guards = some [] →
      Room k (A.deeper (envOfC qual (defScope st) s.heap.objs.size f cdv)) → sp vs H Q E →
      ∃ t, PSs (cxOf CX0 P w K mg base N qual (defScope st) f cdv A out s H E).nox (defBody st) t ∧
        t { nx := fun _ H' => Q .non H', rt := Q } (L2.start N vs) H) : FnG P w K mg base (k + 1) f fd ps sp := by
  obtain ⟨oc, od, kV, doc, pm, an, cdv, ct, osl, rfl, lk, hcd⟩ := F.ex
  refine ⟨many, fun A out s H args us vs Q E hgd hr env hb rv hsp => ?_⟩
  obtain ⟨t, ht', hq⟩ := body cdv A out s H vs Q E hgd (hr.deeper _) hsp
  have ht := ht'.nox
  have inK : K.In s.heap := env.mod.kin.keeps fun a u e => (env.bs a u e).1
  have free : s.heap.NoLimit := env.mod.nolimit.keeps fun a u e => (env.bs a u e).1
  have kinds : ∀ y ∈ ps.zip us, (defScope st).names.lookup y.1 = some .local ∨
      ((defScope st).names.lookup y.1 = some .cell ∧ ((cellsFrom (s.heap.objs.size + 1) (defScope st).names []).lookup y.1).isSome = true) := by
    rintro ⟨y, u⟩ hy
    exact (S.par y (List.of_mem_zip hy).1).imp id fun c => ⟨c, PySem.W.cellsFrom_some _ _ _ (.inl c)⟩
  refine codeAny_call_function hr.depth (inK _ _ lk) rfl S.co S.gen rfl (PySem.W.codeRec_of inK hcd) (hb _ _ _ _ ?_)
  refine wpAny_newFunctionEnv_cells S.kind kinds fun env2 he s1 inside => ?_
  subst he
  refine ⟨free.keeps inside.toInCall.keep, codeAny_func ?_⟩
  have inv := inv_start (CX := CX0) (E := E) S hr.hd env (many _ _ _ _ hsp) rv inside
  refine wpAny_mono (ht.run [] s1 (L2.start N vs) H _ inv hq) ?_ fun _ _ z => z
  intro fl s2 z
  cases fl with
  | ret u =>
    obtain ⟨v, σ', H', J, rvu, q⟩ := z
    exact ⟨v, H', J.os, J.bare, J.base, J.hok, rvu, q⟩
  | next =>
    obtain ⟨σ', H', J, q⟩ := z
    exact ⟨V.non, H', J.os, J.bare, J.base, J.hok, rfl, q⟩
  | brk =>
    obtain ⟨_, _, _, q⟩ := z
    exact q.elim
  | cont =>
    obtain ⟨_, _, _, q⟩ := z
    exact q.elim
end
section
variable {X : Cx}
/-- f(e, ..), no guard around -/
theorem pe_callG {k : Nat} {f : Addr} {fd : FuncData} {ps : List Str} {sp : Sp} {x : Str} {p pos : Pos} {e : Expr} {es : List Expr} {t : TA} (hgd : X.A.guards = some []) (F : FnG X.prog X.w X.K X.mg X.base k f fd ps sp) (hr : Room k X.A) (hg : Gl X x) (hm : X.mg x = some (.ref f))
    (hk : PySem.W.keepIn X.K (.ref f) = true) (hb : Binds X.K fd ps []) (ha : PA X (e :: es) t) (hx : Passes CX0 X E0 := by exact pass0) (hdb : (x == ("__debug__" : Str)) = false := by decide)
    (he : starEach (e :: es) X.env = (false, eval e X.env) :: starEach es X.env := by rfl) (hpl : (backTo pos (starEach es X.env)).any (·.1) = false := by rfl) :
    PE X (.Call (.Name x p) (e :: es) [] pos) (tCall sp [] E0 t) := by
  refine ⟨fun pins s σ H Q I h => wpAny_Call_Name_kw (ld_glob I hg hm ?_ hdb)⟩
  refine PySem.W.callWith_K (h₀ := X.base) I.ok.mod.kin hk (thn (ha.run pos pins s σ H _ I h) ?_) he hpl
  rintro us s1 ⟨vs, H1, I1, r, q⟩
  refine ⟨I1.kIn, ?_⟩
  have q' : sp (vs ++ []) H1 Q E0 := q
  rw [List.append_nil] at q'
  have hl : us.length = ps.length := by rw [← Paired.length r]; exact F.many _ _ _ _ q'
  have b := hb s1 us I1.kIn (by rw [List.append_nil]; exact hl)
  rw [List.append_nil] at b
  refine wpAny_call (codeAny_mono (F.go X.A X.stack s1 H1 ⟨us, []⟩ us vs Q E0 hgd hr I1.env0 b r q') ?_)
  intro z s2 hz
  match z, hz with
  | .error er, hz => exact hx pins σ H1 s1 er s2 I1 hz
  | .ok (.ret u), hz => exact I1.after hz
  | .ok .next, hz => exact False.elim hz
  | .ok .brk, hz => exact False.elim hz
  | .ok .cont, hz => exact False.elim hz
/-- repr(x), x deep data -/
def rRepr (K : PySem.W.Frag) : List V → Hp → VK → Prop := fun xs H Q => ∃ (a : Addr) (d : PyData), xs = [.ref a] ∧ Dp K H (.ref a) d ∧ SeqAt.shaped d = true ∧ d.showable = true ∧ d.shown.length ≤ sizeLine ∧ Q (.str d.shown) H
theorem cr_repr (hgd : X.A.guards = some []) (hu : X.A.units + 70 < cLine) : CallR X (.builtin "repr") (rRepr X.K) := by
  intro pins s σ H xs us Q I r h
  obtain ⟨a, d, rfl, hd, hsh, hs, hz, q⟩ := h
  rw [Vals.ref1 r]
  obtain ⟨as, rd⟩ := Dp.reads I d (.ref a) (.ref a) hd rfl
  obtain ⟨hl, hdep⟩ := Bool.and_eq_true_iff.mp hsh
  have hdep := of_decide_eq_true hdep
  refine repr_of_reads' rd hs (PyData.noDict_hsm (PyData.hasDict_of_canLay d hl)) hgd (by omega) (fun _ _ e => e) (fun h' u tk k => ?_) hz
  exact ⟨.str d.shown, H, I.kept (t' := tk) k, ⟨u, rfl⟩, q⟩
end
end KG
set_option Elab.async false
set_option linter.all false
set_option maxRecDepth 100000
set_option maxHeartbeats 4000000
/-! A rule of my own: != of two objects of a class with an == of its own, which are equal. -/
namespace KN
open PySem L2 PySem.Spec PyProof.Rows
section
variable {prog : Program} {w : World} {A : Around} {E : Value → Shared → Prop} {s : Shared} {K : PySem.W.Frag} {x y C f : Addr} {ox : Obj} {od : Option Obj}
theorem ne_body (hu : A.units < cLine) (X : K.In s.heap) (I : PySem.W.InstAt s.heap x ox C od) (hs : PySem.W.findIn K (.ref C) "__eq__" = some (some (.ref f))) (hf : PySem.W.isFn K (.ref f) = true) {Q : Fin → Shared → Prop}
    (hq : wpAny (model prog w) A (call (.ref f) [.ref x, .ref y]) (fun v s' => v = .bool true ∧ Q (.done (.ret (.bool false))) s') E s) : wpAny (model prog w) A (Builtin.«object.__ne__» ⟨[.ref x, .ref y], []⟩) Q E s := by
  have one : wpAny (model prog w) A (callSpecialIfBound? (.ref x) (Str.ofString "__eq__") [.ref y]) (fun r s' => r = some (.bool true) ∧ Q (.done (.ret (.bool false))) s') E s :=
    PySem.W.ifBound_K X I hs hf (wpAny_mono hq (fun v s' z => ⟨by rw [z.1], z.2⟩) fun _ _ e => e)
  obtain ⟨h, g, d, t, os⟩ := s
  unfold Builtin.«object.__ne__»
  repeat (first
    | with_reducible refine wpAny_cRoomFor hu ?_
    | (refine wpAny_bind (m := callSpecialIfBound? (.ref x) (Str.ofString "__eq__") [.ref y]) (wpAny_mono one (fun r s' z => ?_) fun _ _ e => e))
    | wp_step)
  obtain ⟨z1, z2⟩ := z
  subst z1
  repeat (first | exact z2 | exact wpAny_pure z2 | exact wpAny_truthy_bool z2 | (refine wpAny_bind (m := truthy (.bool _)) (wpAny_truthy_bool ?_)) | wp_step)
theorem ne_try (hu : A.units + 1 < cLine) (X : K.In s.heap) (I : PySem.W.InstAt s.heap x ox C od) (hm : PySem.W.mroIn K C (.type "object") = some true) (hs : PySem.W.findIn K (.ref C) "__eq__" = some (some (.ref f)))
    (hn : PySem.W.findIn K (.ref C) "__ne__" = some (some (.builtin "object.__ne__"))) (hf : PySem.W.isFn K (.ref f) = true) {Q : Option Value → Shared → Prop}
    (hq : wpAny (model prog w) A.in1 (call (.ref f) [.ref x, .ref y]) (fun v s' => v = .bool true ∧ Q (some (.bool false)) s') E s) : wpAny (model prog w) A (tryCompare (.ref x) "__ne__" (.ref y)) Q E s := by
  have call1 : wpAny (model prog w) A (call (.builtin "object.__ne__") [.ref x, .ref y]) (fun v s' => v = .bool false ∧ Q (some (.bool false)) s') E s :=
    wpAny_call (codeAny_call_builtin F.cmp_object.ne.plain F.cmpEntry_ne (PySem.W.check_slot F.cmpKind_ne F.cmpSplit_ne (I.type.andThen (PySem.W.looks_mroIn X hm)) (F.cmpArgs_ne _ _)
      (ne_body (A := A.in1) (by show A.units + 1 < cLine; exact hu) X I hs hf (wpAny_mono hq (fun v s' z => ⟨z.1, rfl, z.2⟩) fun _ _ e => e))))
  have bound : wpAny (model prog w) A (callSpecialIfBound? (.ref x) (Str.ofString "__ne__") [.ref y]) (fun r s' => r = some (.bool false) ∧ Q (some (.bool false)) s') E s := by
    simp only [callSpecialIfBound?, bindSpecialIfBound?]
    refine wpAny_holding (wpAny_bind (wpAny_bind (wpAny_bind (I.type.here ((PySem.W.looks_findIn X hn).here ?_)))))
    refine wpAny_bind (wpAny_askSetting (wpAny_ite ?_))
    have fin : wpAny (model prog w) A (call (.builtin "object.__ne__") ([.ref x] ++ [.ref y]) >>= fun v => pure (some v)) (fun r s' => r = some (.bool false) ∧ Q (some (.bool false)) s') E s :=
      wpAny_bind (wpAny_mono call1 (fun v s' z => wpAny_pure ⟨by rw [z.1], z.2⟩) fun _ _ e => e)
    split
    · exact wpAny_bind (wpAny_of_eq (F.cmp_object.ne.bind _) (wpAny_pure (by exact fin)))
    · exact wpAny_tryCatch (wpAny_bind (wpAny_of_eq (F.cmp_object.ne.bind _) (wpAny_pure (by exact fin))))
  unfold tryCompare
  refine wpAny_bind (wpAny_mono bound (fun r s' z => ?_) fun _ _ e => e)
  obtain ⟨z1, z2⟩ := z
  subst z1
  exact wpAny_pure z2
end
/-- what is asked: as of ==; the answer False -/
def rNeG (D : Eqv) : R2 := fun x y H Q => D x y H ∧ ∀ H', Ext H H' → Q (.bl false) H'
section
variable {X : Cx} {n : Nat} {CX : CXT} {C f : Addr} {fd : FuncData} {ps : List Str} {R : Addr → Addr → Hp → Prop} {E : XK}
theorem op_neG (F : FnOk X.prog X.w X.K X.mg X.base CX n f fd ps (spEq R)) (hm : PySem.W.mroIn X.K C (.type "object") = some true) (hs : PySem.W.findIn X.K (.ref C) "__eq__" = some (some (.ref f)))
    (hn : PySem.W.findIn X.K (.ref C) "__ne__" = some (some (.builtin "object.__ne__"))) (hf : PySem.W.isFn X.K (.ref f) = true) (hb : Binds X.K fd ps []) (hx : Passes CX X E) (hr : Room (n + 1) X.A) : OpR X (compareOp .NotEq) (rNeG (DIns C R)) := by
  intro pins s σ H u v x y Q I rx ry h
  obtain ⟨⟨a, b, dx, dy, fs, gs, rfl, rfl, ha, hb', rab⟩, q⟩ := h
  cases rx
  cases ry
  obtain ⟨_, J, _⟩ := ins_get I.hok ha
  obtain ⟨_, J', _⟩ := ins_get I.hok hb'
  obtain ⟨od, J, _⟩ := J.look
  obtain ⟨od', J', _⟩ := J'.look
  have hu1 : X.A.units + 1 < cLine := by
    have := hr.un
    omega
  have e0 : Env0 X.prog X.w X.K X.mg X.base X.A.in1 X.stack s H := I.env0.in1
  have hsp : spEq R [.ref a, .ref b] H (fun v H' => v = .bl true ∧ Ext H H') E := ⟨a, b, rfl, rab, fun H' e => ⟨rfl, e⟩⟩
  have hl := F.len _ _ _ _ hsp
  have r2 : Vals [V.ref a, V.ref b] [Value.ref a, Value.ref b] := .cons rfl (.cons rfl .nil)
  have bd : BindsTo s fd ⟨[.ref a, .ref b], []⟩ (ps.zip [.ref a, .ref b]) := by
    have := hb s [.ref a, .ref b] I.kIn (by simpa using hl)
    simpa using this
  have own : wpAny (model X.prog X.w) X.A.in1 (call (.ref f) [.ref a, .ref b]) (fun v s' => v = .bool true ∧ ∃ H', Inv X pins σ H' s' ∧ Ext H H') X.xe s := by
    refine wpAny_call (codeAny_mono (F.run X.A.in1 X.stack s H ⟨[.ref a, .ref b], []⟩ [.ref a, .ref b] [.ref a, .ref b] _ E hr.in1 e0 bd r2 hsp) ?_)
    intro z s2 hz
    match z, hz with
    | .error e, hz => exact hx pins σ H s e s2 I hz
    | .ok .next, hz => exact False.elim hz
    | .ok .brk, hz => exact False.elim hz
    | .ok .cont, hz => exact False.elim hz
    | .ok (.ret u), hz =>
      obtain ⟨z, H', I', rz, ez, ex⟩ := I.after hz
      subst ez
      cases rz
      exact ⟨rfl, H', I', ex⟩
  have try1 : wpAny (model X.prog X.w) X.A (tryCompare (.ref a) (cmpInfo .NotEq).2.1 (.ref b)) (fun r s' => r = some (.bool false) ∧ ∃ H', Inv X pins σ H' s' ∧ Ext H H') X.xe s :=
    ne_try hu1 I.kIn J hm hs hn hf (wpAny_mono own (fun v s' z => ⟨z.1, rfl, z.2⟩) fun _ _ e => e)
  have fin : wpAny (model X.prog X.w) X.A (richCompare .NotEq (.ref a) (.ref b)) (EP X pins σ Q) X.xe s := by
    unfold richCompare
    simp only [oneThing_ref]
    refine wpAny_holding (wpAny_bind (wpAny_cRoomFor (Nat.lt_of_succ_lt hu1) ?_))
    refine wpAny_bind (J.type.here (wpAny_bind (J'.type.here ?_)))
    rw [show (Value.ref C != Value.ref C) = false from by simp]
    simp only [Bool.false_eq_true, if_false]
    refine wpAny_bind (wpAny_pure ?_)
    simp only [Bool.false_eq_true, if_false]
    refine wpAny_bind (wpAny_mono try1 (fun r s' z => ?_) fun _ _ e => e)
    obtain ⟨z1, H', I', ex⟩ := z
    subst z1
    exact wpAny_pure ⟨.bl false, H', I', rfl, q H' ex⟩
  unfold compareOp
  exact fin
end
end KN
set_option Elab.async false
set_option linter.all false
set_option maxRecDepth 100000
set_option maxHeartbeats 4000000
/-! The end of a law whose def is told by FnG. -/
namespace KG
open PySem L2 PySem.Spec PyProof.Rows
/-- an abstract heap with nothing in it but the script, at a -/
structure Seat (P : Program) (w : World) (K : PySem.W.Frag) (a : Addr) (ns : List Int) (s : Shared) (H : Hp) : Prop where
  only : Only H
  seq : SqL K H a (ns.map V.int)
  ok : HOk P w H s.heap
  here : ∀ b, H b ≠ none → b = a
  out : H a ≠ none → K.lookup a = none
section
variable {P : Program} {w : World} {K : PySem.W.Frag} {mg mb : Str → Option Value} {fa a : Addr} {fd : FuncData} {x : Str} {sp : Sp} {s : Shared} {vs : List Value} {ns : List Int} {k : Nat}
theorem seat_of (KX : K.In s.heap) (ha : s.heap.get? a = some { cls := .type "list", data := .seq vs.toArray }) (hi : IntsAre vs ns) (hl : ns.length ≤ sizeLine) : ∃ H, Seat P w K a ns s H := by
  have rv := vals_ints hi
  have lv := hi.length
  cases hk : K.lookup a with
  | some o =>
    have e := KX a o hk
    rw [ha] at e
    cases e
    refine ⟨fun _ => none, ⟨fun _ => .inl rfl, .inr ⟨_, vs.toArray, _, hk, rfl, rfl, rfl, ?_, ?_⟩, fun b u z => ?_, fun b z => (z rfl).elim, fun z => (z rfl).elim⟩⟩
    · rw [List.size_toArray, lv]
      exact hl
    · simpa using rv
    · have z' : (none : Option HO) = some u := z
      cases z'
  | none =>
    let T : HO := .frz { cls := .type "list", data := .seq vs.toArray } (.lst (ns.map V.int))
    have yes : ∀ {b : Addr}, b = a → (fun b => if b = a then some T else none : Hp) b = some T := fun h => if_pos h
    have no : ∀ {b : Addr}, b ≠ a → (fun b => if b = a then some T else none : Hp) b = none := fun h => if_neg h
    refine ⟨fun b => if b = a then some T else none, ⟨fun b => ?_, .inl (.inr ⟨_, yes rfl⟩), fun b u z => ?_, fun b z => ?_, fun _ => hk⟩⟩
    · by_cases hb : b = a
      · exact .inr ⟨_, _, yes hb⟩
      · exact .inl (no hb)
    · by_cases hb : b = a
      · have z' := (yes hb).symm.trans z
        cases z'
        subst hb
        exact ⟨ha, by rw [List.length_map]; exact hl, vs, _, rv, ha⟩
      · have z' := (no hb).symm.trans z
        cases z'
    · by_cases hb : b = a
      · exact hb
      · exact (z (no hb)).elim
theorem end_of {H : Hp} (S : Seat P w K a ns s H) (KX : K.In s.heap) (hns : s.heap.Ns mainGlobals mg) (hb : s.heap.Ns builtinsNs mb) (hbb : ∀ x : Str, x ≠ "__name__" → mb x = bootBuiltins x) (hlim : s.heap.NoLimit) (hg : s.gens = #[])
    (ha : s.heap.get? a = some { cls := .type "list", data := .seq vs.toArray }) (hr : Room k callerA) (F : ∀ base : Heap, K.In base → base.Ns mainGlobals mg → FnG P w K mg base k fa fd [x] sp)
    (hbind : ∀ (s : Shared) (u : Value), BindsTo s fd ⟨[u], []⟩ [(x, u)]) (hsp : sp [.ref a] H (fun v _ => v = .bl true) fun _ _ _ => False) :
    codeAny (model P w) callerA (.call (.ref fa) ⟨[.ref a], []⟩) (fun r s' => r = .ok (.ret (.bool true)) ∧ OldK s.heap s'.heap ∧ s'.os = s.os ∧ AllBare s'.gens) s := by
  have inB : ∀ {b : Addr} {o : Obj}, s.heap.get? b = some o → H b = none → (hidT s.heap H).get? b = some o := fun e n => hidT_get e n
  have free : ∀ {b : Addr} {o : Obj} {es : Array DictEntry} {ep : Nat}, s.heap.get? b = some o → o.data = .dict es ep → H b = none := by
    intro b o es ep e d
    cases q : H b with
    | none => rfl
    | some u =>
      have e' := S.here b (by rw [q]; exact fun z => nomatch z)
      subst e'
      rw [ha] at e
      cases e
      cases (show Data.seq vs.toArray _ = Data.dict es ep from d)
  have names : ∀ {b : Addr} {m : Str → Option Value}, s.heap.Ns b m → (hidT s.heap H).Ns b m := by
    rintro b m ⟨o, es, ep, e, d, r⟩
    exact ⟨o, es, ep, inB e (free e d), d, r⟩
  have KB : K.In (hidT s.heap H) := by
    intro b o e
    refine inB (KX b o e) ?_
    cases q : H b with
    | none => rfl
    | some u =>
      have ne : H b ≠ none := by rw [q]; exact fun z => nomatch z
      have e' := S.here b ne
      subst e'
      rw [S.out ne] at e
      cases e
  obtain ⟨ml, l1, l2⟩ := hlim
  have env : Env0 P w K mg (hidT s.heap H) callerA [] s H :=
    ⟨rfl, ⟨KB, names hns, ⟨mb, names hb, hbb⟩, ⟨ml, names l1, l2⟩⟩, (fun b o e => of_hidT e), Nat.le_of_eq (hidT_size _ _), trivial, (fun b hb => by cases hb), S.ok, .of_eq hg⟩
  refine codeAny_mono ((F _ KB (names hns)).go callerA [] s H ⟨[.ref a], []⟩ [.ref a] [.ref a] _ _ rfl hr env (hbind s (.ref a)) (.cons rfl .nil) hsp) ?_
  intro r s2 z
  match r, z with
  | .error e, z => exact False.elim z
  | .ok .next, z => exact False.elim z
  | .ok .brk, z => exact False.elim z
  | .ok .cont, z => exact False.elim z
  | .ok (.ret u), z =>
    obtain ⟨v, H', os, bare, un, ok2, rvu, q⟩ := z
    have q' : v = .bl true := q
    subst q'
    obtain rfl : u = Value.bool true := rvu
    refine ⟨rfl, OldK.of_keep fun b o e => ?_, os, bare⟩
    cases q : H b with
    | none => exact un.keep b o e q (by intro z; cases z) (by intro z; cases z)
    | some u =>
      rcases S.only b with z | ⟨ob, xs, z⟩
      · rw [q] at z
        cases z
      · obtain ⟨e1, _⟩ := S.ok b _ z
        obtain ⟨e2, _⟩ := ok2 b _ (un.frzs b ob _ z)
        rw [e] at e1
        cases e1
        exact e2
end
/-- the goal that k_head leaves, from the promise of the law's def -/
theorem walk_ofG {l : PySem.W.OpenLaw} {n k : Nat} {q : Program} {loose : List Str} {XP : (Str → Option Value) → Heap → Prop} {YP : World → Heap → Prop} {d : DefRec} {K : Params → PySem.W.Frag} {sp : World → Sp} {x : Str}
    (hn : l.most = some n) (hn2 : n ≤ sizeLine) (hdf : d.params.defaults = []) (hr : Room k callerA) (hY : ∀ (w : World) (h : Heap), YP w h → (K w.params).In h)
    (F : ∀ (w : World) (mg : Str → Option Value) (fa : Addr) (h : Heap), (K w.params).In h → h.Ns mainGlobals mg → mg d.name = some (.ref fa) →
      ∃ fd : FuncData, (∀ (s : Shared) (u : Value), BindsTo s fd ⟨[u], []⟩ [(x, u)]) ∧ ∀ base : Heap, (K w.params).In base → base.Ns mainGlobals mg → FnG l.prog w (K w.params) mg base k fa fd [x] (sp w))
    (hsp : ∀ (w : World) (H : Hp) (a : Addr) (ns : List Int), ns.length ≤ n → Only H → SqL (K w.params) H a (ns.map V.int) → sp w [.ref a] H (fun v _ => v = .bl true) fun _ _ _ => False) :
    PySem.W.WalkO q loose XP YP l.row.toRowW d [] (fun f vs => PySem.call f vs) := by
  refine Att.attach_call hn hdf ?_
  intro w s0 s mg mb fa o pm cd doc a vs ns G Y ho hd hcd hmg hobj hints hlen hg
  have KX := hY w _ Y
  obtain ⟨fd, hb, hF⟩ := F w mg fa _ KX G.T.g hmg
  obtain ⟨H, S⟩ := seat_of (P := l.prog) (w := w) KX hobj hints (Nat.le_trans hlen hn2)
  exact end_of S KX G.T.g G.T.b G.T.builtins G.T.nolimit hg hobj hr hF hb (hsp w H a ns hlen S.only S.seq)
end KG
set_option Elab.async false
set_option linter.all false
set_option maxRecDepth 100000
set_option maxHeartbeats 4000000
/-! The text by places, and what its top has written. -/
namespace K45
open PySem L2
def top (i : Nat) : Stmt := PySem.Challenge.pw_takenjoined_k45_whole_chains.main.body.getD i (.Pass ⟨0, 0, 0, 0⟩)
abbrev s_is_integer : Stmt := top 10
abbrev N_is_integer : List Str := ["thing"]
theorem sc_is_integer : FnScope N_is_integer ["thing"] (defScope s_is_integer) := ⟨rfl, rfl, rfl, by decide +kernel, rfl, by decide +kernel, by decide +kernel⟩
abbrev s_is_between : Stmt := top 11
abbrev N_is_between : List Str := ["thing", "least", "most"]
theorem sc_is_between : FnScope N_is_between ["thing", "least", "most"] (defScope s_is_between) := ⟨rfl, rfl, rfl, by decide +kernel, rfl, by decide +kernel, by decide +kernel⟩
abbrev s_is_below : Stmt := top 12
abbrev N_is_below : List Str := ["thing", "bound"]
theorem sc_is_below : FnScope N_is_below ["thing", "bound"] (defScope s_is_below) := ⟨rfl, rfl, rfl, by decide +kernel, rfl, by decide +kernel, by decide +kernel⟩
abbrev s_is_pair : Stmt := top 13
abbrev N_is_pair : List Str := ["thing"]
theorem sc_is_pair : FnScope N_is_pair ["thing"] (defScope s_is_pair) := ⟨rfl, rfl, rfl, by decide +kernel, rfl, by decide +kernel, by decide +kernel⟩
abbrev s_is_colours : Stmt := top 14
abbrev N_is_colours : List Str := ["thing"]
theorem sc_is_colours : FnScope N_is_colours ["thing"] (defScope s_is_colours) := ⟨rfl, rfl, rfl, by decide +kernel, rfl, by decide +kernel, by decide +kernel⟩
abbrev s_is_few_colours : Stmt := top 15
abbrev N_is_few_colours : List Str := ["thing"]
theorem sc_is_few_colours : FnScope N_is_few_colours ["thing"] (defScope s_is_few_colours) := ⟨rfl, rfl, rfl, by decide +kernel, rfl, by decide +kernel, by decide +kernel⟩
abbrev s_webI : Stmt := inClass (top 19) 0
abbrev N_webI : List Str := ["self", "many", "ties", "number", "tie"]
theorem sc_webI : FnScope N_webI ["self", "many", "ties"] (defScope s_webI) := ⟨rfl, rfl, rfl, by decide +kernel, rfl, by decide +kernel, by decide +kernel⟩
abbrev s_webE : Stmt := inClass (top 19) 1
abbrev N_webE : List Str := ["self", "other"]
theorem sc_webE : FnScope N_webE ["self", "other"] (defScope s_webE) := ⟨rfl, rfl, rfl, by decide +kernel, rfl, by decide +kernel, by decide +kernel⟩
abbrev s_is_tie : Stmt := top 20
abbrev N_is_tie : List Str := ["thing", "many"]
theorem sc_is_tie : FnScope N_is_tie ["thing", "many"] (defScope s_is_tie) := ⟨rfl, rfl, rfl, by decide +kernel, rfl, by decide +kernel, by decide +kernel⟩
abbrev s_neighbours : Stmt := top 21
abbrev N_neighbours : List Str := ["web", "near", "place", "ends", "u", "v", "other"]
theorem sc_neighbours : FnScope N_neighbours ["web"] (defScope s_neighbours) := ⟨rfl, rfl, rfl, by decide +kernel, rfl, by decide +kernel, by decide +kernel⟩
abbrev s_is_painting : Stmt := top 23
abbrev N_is_painting : List Str := ["web", "q", "thing", "colour"]
theorem sc_is_painting : FnScope N_is_painting ["web", "q", "thing"] (defScope s_is_painting) := ⟨rfl, rfl, rfl, by decide +kernel, rfl, by decide +kernel, by decide +kernel⟩
abbrev s_is_good : Stmt := top 24
abbrev N_is_good : List Str := ["web", "q", "thing", "u", "v"]
theorem sc_is_good : FnScope N_is_good ["web", "q", "thing"] (defScope s_is_good) := ⟨rfl, rfl, rfl, by decide +kernel, rfl, by decide +kernel, by decide +kernel⟩
abbrev s_chain : Stmt := top 26
abbrev N_chain : List Str := ["web", "q", "painting", "place", "colour"]
theorem sc_chain : FnScope N_chain ["web", "q", "painting", "place", "colour"] (defScope s_chain) := ⟨rfl, rfl, rfl, by decide +kernel, rfl, by decide +kernel, by decide +kernel⟩
abbrev s_exchanged : Stmt := top 27
abbrev N_exchanged : List Str := ["web", "q", "painting", "place", "colour"]
theorem sc_exchanged : FnScope N_exchanged ["web", "q", "painting", "place", "colour"] (defScope s_exchanged) := ⟨rfl, rfl, rfl, by decide +kernel, rfl, by decide +kernel, by decide +kernel⟩
abbrev s_judge : Stmt := top 28
abbrev N_judge : List Str := ["web", "q", "painting", "place", "colour"]
theorem sc_judge : FnScope N_judge ["web", "q", "painting", "place", "colour"] (defScope s_judge) := ⟨rfl, rfl, rfl, by decide +kernel, rfl, by decide +kernel, by decide +kernel⟩
abbrev s_chain_of : Stmt := top 29
abbrev N_chain_of : List Str := ["near", "painting", "place", "colour", "both", "held", "waiting", "other"]
theorem sc_chain_of : FnScope N_chain_of ["near", "painting", "place", "colour"] (defScope s_chain_of) := ⟨rfl, rfl, rfl, by decide +kernel, rfl, by decide +kernel, by decide +kernel⟩
abbrev s_exchange_of : Stmt := top 30
abbrev N_exchange_of : List Str := ["near", "painting", "place", "colour"]
theorem sc_exchange_of : FnScope N_exchange_of ["near", "painting", "place", "colour"] (defScope s_exchange_of) := ⟨rfl, rfl, rfl, by decide +kernel, rfl, by decide +kernel, by decide +kernel⟩
abbrev s_changed : Stmt := top 31
abbrev N_changed : List Str := ["painting", "places", "both", "changed", "place"]
theorem sc_changed : FnScope N_changed ["painting", "places", "both"] (defScope s_changed) := ⟨rfl, rfl, rfl, by decide +kernel, rfl, by decide +kernel, by decide +kernel⟩
abbrev s_l_hand : Stmt := top 33
abbrev N_l_hand : List Str := ["script", "cells", "cell"]
theorem sc_l_hand : FnScope N_l_hand ["script"] (defScope s_l_hand) := ⟨rfl, rfl, rfl, by decide +kernel, rfl, by decide +kernel, by decide +kernel⟩
abbrev s_l_draw : Stmt := top 34
abbrev N_l_draw : List Str := ["hand", "many", "cell", "figure", "number"]
theorem sc_l_draw : FnScope N_l_draw ["hand", "many"] (defScope s_l_draw) := ⟨rfl, rfl, rfl, by decide +kernel, rfl, by decide +kernel, by decide +kernel⟩
abbrev s_l_some : Stmt := top 35
abbrev N_l_some : List Str := ["hand", "things"]
theorem sc_l_some : FnScope N_l_some ["hand", "things"] (defScope s_l_some) := ⟨rfl, rfl, rfl, by decide +kernel, rfl, by decide +kernel, by decide +kernel⟩
abbrev s_l_mixed : Stmt := top 36
abbrev N_l_mixed : List Str := ["hand", "things", "left", "found", "turn"]
theorem sc_l_mixed : FnScope N_l_mixed ["hand", "things"] (defScope s_l_mixed) := ⟨rfl, rfl, rfl, by decide +kernel, rfl, by decide +kernel, by decide +kernel⟩
abbrev s_l_planted : Stmt := top 37
abbrev N_l_planted : List Str := ["hand", "q", "many", "most", "painting", "found", "turn", "one", "other", "place"]
theorem sc_l_planted : FnScope N_l_planted ["hand", "q", "many", "most"] (defScope s_l_planted) := ⟨rfl, rfl, rfl, by decide +kernel, rfl, by decide +kernel, by decide +kernel⟩
abbrev s_l_is_good : Stmt := top 38
abbrev N_l_is_good : List Str := ["ties", "painting", "u", "v"]
theorem sc_l_is_good : FnScope N_l_is_good ["ties", "painting"] (defScope s_l_is_good) := ⟨rfl, rfl, rfl, by decide +kernel, rfl, by decide +kernel, by decide +kernel⟩
abbrev s_l_chain : Stmt := top 39
abbrev N_l_chain : List Str := ["ties", "painting", "place", "colour", "found", "at", "here", "u", "v", "goal"]
theorem sc_l_chain : FnScope N_l_chain ["ties", "painting", "place", "colour"] (defScope s_l_chain) := ⟨rfl, rfl, rfl, by decide +kernel, rfl, by decide +kernel, by decide +kernel⟩
abbrev s_l_exchanged : Stmt := top 40
abbrev N_l_exchanged : List Str := ["ties", "painting", "place", "colour", "own", "found", "here"]
theorem sc_l_exchanged : FnScope N_l_exchanged ["ties", "painting", "place", "colour"] (defScope s_l_exchanged) := ⟨rfl, rfl, rfl, by decide +kernel, rfl, by decide +kernel, by decide +kernel⟩
abbrev s_l_long : Stmt := top 41
abbrev N_l_long : List Str := ["hand", "q", "many", "names", "colours", "painting", "found", "at", "gap"]
theorem sc_l_long : FnScope N_l_long ["hand"] (defScope s_l_long) := ⟨rfl, rfl, rfl, by decide +kernel, rfl, by decide +kernel, by decide +kernel⟩
abbrev s_l_is : Stmt := top 42
abbrev N_l_is : List Str := ["told", "due"]
theorem sc_l_is : FnScope N_l_is ["told", "due"] (defScope s_l_is) := ⟨rfl, rfl, rfl, by decide +kernel, rfl, by decide +kernel, by decide +kernel⟩
abbrev s_l_is_right : Stmt := top 43
abbrev N_l_is_right : List Str := ["web", "q", "painting", "place", "colour", "ties", "own", "lot", "due", "told", "here", "other"]
theorem sc_l_is_right : FnScope N_l_is_right ["web", "q", "painting", "place", "colour"] (defScope s_l_is_right) := ⟨rfl, rfl, rfl, by decide +kernel, rfl, by decide +kernel, by decide +kernel⟩
abbrev s_law : Stmt := top 44
abbrev N_law : List Str := ["script", "hand", "turn", "q", "many", "ties", "painting", "web", "place", "colour"]
theorem sc_law : FnScope N_law ["script"] (defScope s_law) := ⟨rfl, rfl, rfl, by decide +kernel, rfl, by decide +kernel, by decide +kernel⟩
/-- what the top has written -/
structure Tx (K : PySem.W.Frag) (mg : Str → Option Value) where
  f_is_integer : Addr
  d_is_integer : FuncData
  F_is_integer : Fun K "is_integer" "is_integer" s_is_integer f_is_integer d_is_integer
  b_is_integer : Binds K d_is_integer ["thing"] []
  m_is_integer : mg "is_integer" = some (.ref f_is_integer)
  f_is_between : Addr
  d_is_between : FuncData
  F_is_between : Fun K "is_between" "is_between" s_is_between f_is_between d_is_between
  b_is_between : Binds K d_is_between ["thing", "least", "most"] []
  m_is_between : mg "is_between" = some (.ref f_is_between)
  f_is_below : Addr
  d_is_below : FuncData
  F_is_below : Fun K "is_below" "is_below" s_is_below f_is_below d_is_below
  b_is_below : Binds K d_is_below ["thing", "bound"] []
  m_is_below : mg "is_below" = some (.ref f_is_below)
  f_is_pair : Addr
  d_is_pair : FuncData
  F_is_pair : Fun K "is_pair" "is_pair" s_is_pair f_is_pair d_is_pair
  b_is_pair : Binds K d_is_pair ["thing"] []
  m_is_pair : mg "is_pair" = some (.ref f_is_pair)
  f_is_colours : Addr
  d_is_colours : FuncData
  F_is_colours : Fun K "is_colours" "is_colours" s_is_colours f_is_colours d_is_colours
  b_is_colours : Binds K d_is_colours ["thing"] []
  m_is_colours : mg "is_colours" = some (.ref f_is_colours)
  f_is_few_colours : Addr
  d_is_few_colours : FuncData
  F_is_few_colours : Fun K "is_few_colours" "is_few_colours" s_is_few_colours f_is_few_colours d_is_few_colours
  b_is_few_colours : Binds K d_is_few_colours ["thing"] []
  m_is_few_colours : mg "is_few_colours" = some (.ref f_is_few_colours)
  f_webI : Addr
  d_webI : FuncData
  F_webI : Fun K "__init__" "Web.__init__" s_webI f_webI d_webI
  b_webI : Binds K d_webI ["self", "many", "ties"] []
  f_webE : Addr
  d_webE : FuncData
  F_webE : Fun K "__eq__" "Web.__eq__" s_webE f_webE d_webE
  b_webE : Binds K d_webE ["self", "other"] []
  f_is_tie : Addr
  d_is_tie : FuncData
  F_is_tie : Fun K "_is_tie" "_is_tie" s_is_tie f_is_tie d_is_tie
  b_is_tie : Binds K d_is_tie ["thing", "many"] []
  m_is_tie : mg "_is_tie" = some (.ref f_is_tie)
  f_neighbours : Addr
  d_neighbours : FuncData
  F_neighbours : Fun K "neighbours" "neighbours" s_neighbours f_neighbours d_neighbours
  b_neighbours : Binds K d_neighbours ["web"] []
  m_neighbours : mg "neighbours" = some (.ref f_neighbours)
  f_is_painting : Addr
  d_is_painting : FuncData
  F_is_painting : Fun K "is_painting" "is_painting" s_is_painting f_is_painting d_is_painting
  b_is_painting : Binds K d_is_painting ["web", "q", "thing"] []
  m_is_painting : mg "is_painting" = some (.ref f_is_painting)
  f_is_good : Addr
  d_is_good : FuncData
  F_is_good : Fun K "is_good" "is_good" s_is_good f_is_good d_is_good
  b_is_good : Binds K d_is_good ["web", "q", "thing"] []
  m_is_good : mg "is_good" = some (.ref f_is_good)
  f_chain : Addr
  d_chain : FuncData
  F_chain : Fun K "chain" "chain" s_chain f_chain d_chain
  b_chain : Binds K d_chain ["web", "q", "painting", "place", "colour"] []
  m_chain : mg "chain" = some (.ref f_chain)
  f_exchanged : Addr
  d_exchanged : FuncData
  F_exchanged : Fun K "exchanged" "exchanged" s_exchanged f_exchanged d_exchanged
  b_exchanged : Binds K d_exchanged ["web", "q", "painting", "place", "colour"] []
  m_exchanged : mg "exchanged" = some (.ref f_exchanged)
  f_judge : Addr
  d_judge : FuncData
  F_judge : Fun K "_judge" "_judge" s_judge f_judge d_judge
  b_judge : Binds K d_judge ["web", "q", "painting", "place", "colour"] []
  m_judge : mg "_judge" = some (.ref f_judge)
  f_chain_of : Addr
  d_chain_of : FuncData
  F_chain_of : Fun K "chain_of" "chain_of" s_chain_of f_chain_of d_chain_of
  b_chain_of : Binds K d_chain_of ["near", "painting", "place", "colour"] []
  m_chain_of : mg "chain_of" = some (.ref f_chain_of)
  f_exchange_of : Addr
  d_exchange_of : FuncData
  F_exchange_of : Fun K "exchange_of" "exchange_of" s_exchange_of f_exchange_of d_exchange_of
  b_exchange_of : Binds K d_exchange_of ["near", "painting", "place", "colour"] []
  m_exchange_of : mg "exchange_of" = some (.ref f_exchange_of)
  f_changed : Addr
  d_changed : FuncData
  F_changed : Fun K "_changed" "_changed" s_changed f_changed d_changed
  b_changed : Binds K d_changed ["painting", "places", "both"] []
  m_changed : mg "_changed" = some (.ref f_changed)
  f_l_hand : Addr
  d_l_hand : FuncData
  F_l_hand : Fun K "_law_hand" "_law_hand" s_l_hand f_l_hand d_l_hand
  b_l_hand : Binds K d_l_hand ["script"] []
  m_l_hand : mg "_law_hand" = some (.ref f_l_hand)
  f_l_draw : Addr
  d_l_draw : FuncData
  F_l_draw : Fun K "_law_draw" "_law_draw" s_l_draw f_l_draw d_l_draw
  b_l_draw : Binds K d_l_draw ["hand", "many"] []
  m_l_draw : mg "_law_draw" = some (.ref f_l_draw)
  f_l_some : Addr
  d_l_some : FuncData
  F_l_some : Fun K "_law_some" "_law_some" s_l_some f_l_some d_l_some
  b_l_some : Binds K d_l_some ["hand", "things"] []
  m_l_some : mg "_law_some" = some (.ref f_l_some)
  f_l_mixed : Addr
  d_l_mixed : FuncData
  F_l_mixed : Fun K "_law_mixed" "_law_mixed" s_l_mixed f_l_mixed d_l_mixed
  b_l_mixed : Binds K d_l_mixed ["hand", "things"] []
  m_l_mixed : mg "_law_mixed" = some (.ref f_l_mixed)
  f_l_planted : Addr
  d_l_planted : FuncData
  F_l_planted : Fun K "_law_planted" "_law_planted" s_l_planted f_l_planted d_l_planted
  b_l_planted : Binds K d_l_planted ["hand", "q", "many", "most"] []
  m_l_planted : mg "_law_planted" = some (.ref f_l_planted)
  f_l_is_good : Addr
  d_l_is_good : FuncData
  F_l_is_good : Fun K "_law_is_good" "_law_is_good" s_l_is_good f_l_is_good d_l_is_good
  b_l_is_good : Binds K d_l_is_good ["ties", "painting"] []
  m_l_is_good : mg "_law_is_good" = some (.ref f_l_is_good)
  f_l_chain : Addr
  d_l_chain : FuncData
  F_l_chain : Fun K "_law_chain" "_law_chain" s_l_chain f_l_chain d_l_chain
  b_l_chain : Binds K d_l_chain ["ties", "painting", "place", "colour"] []
  m_l_chain : mg "_law_chain" = some (.ref f_l_chain)
  f_l_exchanged : Addr
  d_l_exchanged : FuncData
  F_l_exchanged : Fun K "_law_exchanged" "_law_exchanged" s_l_exchanged f_l_exchanged d_l_exchanged
  b_l_exchanged : Binds K d_l_exchanged ["ties", "painting", "place", "colour"] []
  m_l_exchanged : mg "_law_exchanged" = some (.ref f_l_exchanged)
  f_l_long : Addr
  d_l_long : FuncData
  F_l_long : Fun K "_law_long" "_law_long" s_l_long f_l_long d_l_long
  b_l_long : Binds K d_l_long ["hand"] []
  m_l_long : mg "_law_long" = some (.ref f_l_long)
  f_l_is : Addr
  d_l_is : FuncData
  F_l_is : Fun K "_law_is" "_law_is" s_l_is f_l_is d_l_is
  b_l_is : Binds K d_l_is ["told", "due"] []
  m_l_is : mg "_law_is" = some (.ref f_l_is)
  f_l_is_right : Addr
  d_l_is_right : FuncData
  F_l_is_right : Fun K "_law_is_right" "_law_is_right" s_l_is_right f_l_is_right d_l_is_right
  b_l_is_right : Binds K d_l_is_right ["web", "q", "painting", "place", "colour"] []
  m_l_is_right : mg "_law_is_right" = some (.ref f_l_is_right)
  f_law : Addr
  d_law : FuncData
  F_law : Fun K "law" "law" s_law f_law d_law
  b_law : Binds K d_law ["script"] []
  m_law : mg "law" = some (.ref f_law)
  C_Web : Addr
  m_Web : mg "Web" = some (.ref C_Web)
  cl_Web : Cls K C_Web
  mk_Web : Mk K C_Web f_webI
  eq_Web : PySem.W.findIn K (.ref C_Web) "__eq__" = some (some (.ref f_webE))
  eqf_Web : PySem.W.isFn K (.ref f_webE) = true
  ne_Web : PySem.W.findIn K (.ref C_Web) "__ne__" = some (some (.builtin "object.__ne__"))
  ic_Web : PySem.W.findIn K (.ref C_Web) "__class__" = some (some (.builtin "object.__class__"))
  im_Web : PySem.W.mroIn K C_Web (.type "object") = some true
  no_Web_many : NoAttr K C_Web "many"
  no_Web_ties : NoAttr K C_Web "ties"
  ia : PySem.W.specialIn K (.builtin "object.__class__") "__get__" = some (some (.builtin "getset_descriptor.__get__"))
  ib : PySem.W.takesIn K (.builtin "object.__class__") = some true
  t_FEW_COLOURS : Tok
  m_FEW_COLOURS : mg "FEW_COLOURS" = some (.int 6 t_FEW_COLOURS)
  t_MOST_COLOURS : Tok
  m_MOST_COLOURS : mg "MOST_COLOURS" = some (.int 1000000000 t_MOST_COLOURS)
  t_MOST_PLACES : Tok
  m_MOST_PLACES : mg "MOST_PLACES" = some (.int 10 t_MOST_PLACES)
  t_MOST_TIES : Tok
  m_MOST_TIES : mg "MOST_TIES" = some (.int 16 t_MOST_TIES)
  g_abs : mg "abs" = none
  g_all : mg "all" = none
  g_bool : mg "bool" = none
  g_enumerate : mg "enumerate" = none
  g_int : mg "int" = none
  g_isinstance : mg "isinstance" = none
  g_len : mg "len" = none
  g_list : mg "list" = none
  g_max : mg "max" = none
  g_min : mg "min" = none
  g_range : mg "range" = none
  g_repr : mg "repr" = none
  g_sorted : mg "sorted" = none
  g_tuple : mg "tuple" = none
end K45
set_option Elab.async false
set_option linter.all false
set_option maxRecDepth 100000
set_option maxHeartbeats 4000000
/-! The judges of kinds, and a web made. -/
namespace K45
open PySem L2 Rl
/-! ### promises -/
def spInt1 : Sp := fun vs H Q _ => ∃ i : Int, vs = [.int i] ∧ Q (.bl true) H
def spBetw : Sp := fun vs H Q _ => ∃ i l m : Int, vs = [.int i, .int l, .int m] ∧ Q (.bl (decide (l ≤ i) && decide (i ≤ m))) H
def spBelow : Sp := fun vs H Q _ => ∃ i m : Int, vs = [.int i, .int m] ∧ Q (.bl (decide (0 ≤ i) && decide (i < m))) H
def spPair : Sp := fun vs H Q _ => ∃ (a : Addr) (x y : V), vs = [.ref a] ∧ H a = some (.tup [x, y]) ∧ Q (.bl true) H
def spTie : Sp := fun vs H Q _ => ∃ (a : Addr) (u v n : Int), vs = [.ref a, .int n] ∧ H a = some (.tup [.int u, .int v]) ∧ 0 ≤ u ∧ u ≤ v ∧ v < n ∧ Q (.bl true) H
section
variable {P : Program} {w : World} {K : PySem.W.Frag} {mg : Str → Option Value} {base : Heap}
theorem ok_is_integer (T : Tx K mg) : FnOk P w K mg base CX0 1 T.f_is_integer T.d_is_integer ["thing"] spInt1 := by
  refine T.F_is_integer.ok sc_is_integer (fun vs H Q E h => ?_) (fun cdv A outer s H vs Q E hr h => ?_)
  · obtain ⟨i, rfl, _⟩ := h
    rfl
  obtain ⟨i, rfl, q⟩ := h
  refine ⟨_, (pss_one (ps_ret (pe_and (pe_callB call_isi (by rfl) T.g_isinstance (by decide +kernel) (pa_cons (pv 0) (pa_cons (pe_bltn (v := .ty "int") (by rfl) T.g_int (by decide +kernel) rfl) pa_nil))) (pe_one (pe_not (pe_callB call_isi (by rfl) T.g_isinstance (by decide +kernel) (pa_cons (pv 0) (pa_cons (pe_bltn (v := .ty "bool") (by rfl) T.g_bool (by decide +kernel) rfl) pa_nil)))))))), ?_⟩
  refine ⟨_, rfl, _, _, _, _, _, rfl, .ty _, .base (.int i), kit_ty (by decide +kernel), true, rfl, iteT ?_⟩
  refine ⟨_, rfl, _, _, _, _, _, rfl, .ty _, .base (.int i), kit_ty (b := "bool") (r := false) (by decide +kernel), false, rfl, ?_⟩
  exact q
theorem ok_is_between (T : Tx K mg) : FnOk P w K mg base CX0 2 T.f_is_between T.d_is_between ["thing", "least", "most"] spBetw := by
  refine T.F_is_between.ok sc_is_between (fun vs H Q E h => ?_) (fun cdv A outer s H vs Q E hr h => ?_)
  · obtain ⟨i, l, m, rfl, _⟩ := h
    rfl
  obtain ⟨i, l, m, rfl, q⟩ := h
  refine ⟨_, (pss_one (ps_ret (pe_and (pe_call (ok_is_integer T) (hr.mono (by decide)) (by rfl) T.m_is_integer T.F_is_integer.kp T.b_is_integer .nil pass0 (pa_cons (pv 0) pa_nil)) (pe_one (pe_chain op_le op_le (pv 1) (pv 0) (pv 2)))))), ?_⟩
  refine ⟨_, rfl, i, rfl, true, rfl, iteT ?_⟩
  refine ⟨_, rfl, _, rfl, l, i, rfl, rfl, _, rfl, ?_⟩
  cases hd : decide (l ≤ i) with
  | true =>
    rw [hd] at q
    exact iteT ⟨_, rfl, i, m, rfl, rfl, q⟩
  | false =>
    rw [hd] at q
    exact iteF q
theorem ok_is_below (T : Tx K mg) : FnOk P w K mg base CX0 2 T.f_is_below T.d_is_below ["thing", "bound"] spBelow := by
  refine T.F_is_below.ok sc_is_below (fun vs H Q E h => ?_) (fun cdv A outer s H vs Q E hr h => ?_)
  · obtain ⟨i, m, rfl, _⟩ := h
    rfl
  obtain ⟨i, m, rfl, q⟩ := h
  refine ⟨_, (pss_one (ps_ret (pe_and (pe_call (ok_is_integer T) (hr.mono (by decide)) (by rfl) T.m_is_integer T.F_is_integer.kp T.b_is_integer .nil pass0 (pa_cons (pv 0) pa_nil)) (pe_one (pe_chain op_le op_lt pe_int (pv 0) (pv 1)))))), ?_⟩
  refine ⟨_, rfl, i, rfl, true, rfl, iteT ?_⟩
  refine ⟨_, rfl, 0, i, rfl, rfl, _, rfl, ?_⟩
  cases hd : decide ((0 : Int) ≤ i) with
  | true =>
    rw [hd] at q
    exact iteT ⟨_, rfl, i, m, rfl, rfl, q⟩
  | false =>
    rw [hd] at q
    exact iteF q
theorem ok_is_pair (T : Tx K mg) : FnOk P w K mg base CX0 1 T.f_is_pair T.d_is_pair ["thing"] spPair := by
  refine T.F_is_pair.ok sc_is_pair (fun vs H Q E h => ?_) (fun cdv A outer s H vs Q E hr h => ?_)
  · obtain ⟨a, x, y, rfl, _⟩ := h
    rfl
  obtain ⟨a, x, y, rfl, ha, q⟩ := h
  refine ⟨_, (pss_one (ps_ret (pe_and (pe_callB call_isi (by rfl) T.g_isinstance (by decide +kernel) (pa_cons (pv 0) (pa_cons (pe_bltn (v := .ty "tuple") (by rfl) T.g_tuple (by decide +kernel) rfl) pa_nil))) (pe_one (pe_cmpR op_eq (pe_callB call_len_seq (by rfl) T.g_len PySem.boot_len (pa_cons (pv 0) pa_nil)) pe_int (nomark _)))))), ?_⟩
  refine ⟨_, rfl, _, _, _, _, _, rfl, .ty _, .base (.tup ha), kit_ty (by decide +kernel), true, rfl, iteT ?_⟩
  refine ⟨_, rfl, a, _, rfl, .inr (SqT.of ha), rfl, ?_⟩
  exact q
theorem ok_is_tie (T : Tx K mg) : FnOk P w K mg base CX0 3 T.f_is_tie T.d_is_tie ["thing", "many"] spTie := by
  refine T.F_is_tie.ok sc_is_tie (fun vs H Q E h => ?_) (fun cdv A outer s H vs Q E hr h => ?_)
  · obtain ⟨a, u, v, n, rfl, _⟩ := h
    rfl
  obtain ⟨a, u, v, n, rfl, ha, h0, h1, h2, q⟩ := h
  have sT : SqT K H a [.int u, .int v] := SqT.of ha
  refine ⟨_, (pss_one (ps_ret (pe_and (pe_call (ok_is_pair T) (hr.mono (by decide)) (by rfl) T.m_is_pair T.F_is_pair.kp T.b_is_pair .nil pass0 (pa_cons (pv 0) pa_nil)) (pe_and (pe_call (ok_is_below T) (hr.mono (by decide)) (by rfl) T.m_is_below T.F_is_below.kp T.b_is_below .nil pass0 (pa_cons (pe_ix ix_tup (pv 0) pe_int (fun _ _ => rfl)) (pa_cons (pv 1) pa_nil))) (pe_one (pe_call (ok_is_between T) (hr.mono (by decide)) (by rfl) T.m_is_between T.F_is_between.kp T.b_is_between .nil pass0 (pa_cons (pe_ix ix_tup (pv 0) pe_int (fun _ _ => rfl)) (pa_cons pe_int (pa_cons (pe_ix ix_tup (pv 0) pe_int (fun _ _ => rfl)) pa_nil))))))))), ?_⟩
  refine ⟨_, rfl, a, _, _, rfl, ha, true, rfl, iteT ?_⟩
  refine ⟨_, rfl, a, _, 1, .int v, rfl, rfl, sT, atI_nat (j := 1) rfl, _, rfl, v, n, rfl, _, rfl, ?_⟩
  have e1 : (decide (0 ≤ v) && decide (v < n)) = true := by
    rw [decide_eq_true (show (0 : Int) ≤ v by omega), decide_eq_true h2]
    rfl
  rw [e1]
  refine iteT ?_
  refine ⟨_, rfl, a, _, 0, .int u, rfl, rfl, sT, atI_nat (j := 0) rfl, _, rfl, a, _, 1, .int v, rfl, rfl, sT, atI_nat (j := 1) rfl, u, 0, v, rfl, ?_⟩
  have e2 : (decide (0 ≤ u) && decide (u ≤ v)) = true := by
    rw [decide_eq_true h0, decide_eq_true h1]
    rfl
  rw [e2]
  exact q
end
/-! ### webs -/
/-- the items of a list or tuple are pairs of ints, these -/
def PrsAt (H : Hp) (vs : List V) (ps : List (Int × Int)) : Prop := Paired (fun (v : V) (p : Int × Int) => ∃ a, v = .ref a ∧ H a = some (.tup [.int p.1, .int p.2])) vs ps
def TiesAt (H : Hp) (t : Addr) (ps : List (Int × Int)) : Prop := ∃ vs, H t = some (.tup vs) ∧ PrsAt H vs ps
def okP (n : Int) (p : Int × Int) : Prop := 0 ≤ p.1 ∧ p.1 ≤ p.2 ∧ p.2 < n
def wf (n : Int) (t : Addr) : List (Str × V) := putF "ties" (.ref t) (putF "many" (.int n) [])
def WebAt (C : Addr) (H : Hp) (x : Addr) (n : Int) (ps : List (Int × Int)) : Prop := ∃ dx t, H x = some (.ins C dx (wf n t)) ∧ TiesAt H t ps
theorem kmt : ¬ (("many" : Str) = "ties") := by decide +kernel
theorem wf_many (n : Int) (t : Addr) : (wf n t).lookup ("many" : Str) = some (.int n) := by
  unfold wf
  rw [lookup_putF, if_neg kmt, lookup_putF, if_pos rfl]
theorem wf_ties (n : Int) (t : Addr) : (wf n t).lookup ("ties" : Str) = some (.ref t) := by
  unfold wf
  rw [lookup_putF, if_pos rfl]
theorem PrsAt.get {H : Hp} : ∀ {vs : List V} {ps : List (Int × Int)} {i : Nat} {v : V}, PrsAt H vs ps → vs[i]? = some v → ∃ p a, ps[i]? = some p ∧ v = .ref a ∧ H a = some (.tup [.int p.1, .int p.2])
  | _, _, i, v, .nil, h => by simp at h
  | _, _, 0, v, .cons (a := x) (b := p) ⟨a, e, q⟩ _, h => by
    have e1 : x = v := Option.some.inj h
    exact ⟨p, a, rfl, e1.symm.trans e, q⟩
  | _, _, i + 1, v, .cons _ r, h => PrsAt.get (i := i) (v := v) r h
theorem PrsAt.mono {H H' : Hp} (e : ∀ a x y, H a = some (.tup [x, y]) → H' a = some (.tup [x, y])) : ∀ {vs : List V} {ps : List (Int × Int)}, PrsAt H vs ps → PrsAt H' vs ps
  | _, _, .nil => .nil
  | _, _, .cons ⟨a, e1, q⟩ r => .cons ⟨a, e1, e _ _ _ q⟩ (PrsAt.mono e r)
theorem PrsAt.len {H : Hp} {vs : List V} {ps : List (Int × Int)} (h : PrsAt H vs ps) : vs.length = ps.length := Paired.length h
theorem TiesAt.same {H H' : Hp} {t : Addr} {ps : List (Int × Int)} (e : Same H H') (h : TiesAt H t ps) : TiesAt H' t ps := by
  obtain ⟨vs, h1, h2⟩ := h
  exact ⟨vs, e _ _ h1, h2.mono fun a x y q => e _ _ q⟩
theorem WebAt.same {C : Addr} {H H' : Hp} {x : Addr} {n : Int} {ps : List (Int × Int)} (e : Same H H') (h : WebAt C H x n ps) : WebAt C H' x n ps := by
  obtain ⟨dx, t, h1, h2⟩ := h
  exact ⟨dx, t, e _ _ h1, h2.same e⟩
def spWebI (C : Addr) : Sp := fun vs H Q _ => ∃ (x dx t : Addr) (n : Int) (ps : List (Int × Int)), vs = [.ref x, .int n, .ref t] ∧ H x = some (.ins C dx []) ∧ 1 ≤ n ∧ n ≤ 10 ∧ TiesAt H t ps ∧ ps.length ≤ 16 ∧ (∀ p ∈ ps, okP n p) ∧
  ∀ H', (∀ b o, H b = some o → b ≠ x → H' b = some o) → H' x = some (.ins C dx (wf n t)) → Q .non H'
section
variable {P : Program} {w : World} {K : PySem.W.Frag} {mg : Str → Option Value} {base : Heap}
theorem same_new {H : Hp} {p : Addr} (h : H p = none) (o : HO) : Same H (upd H p o) := fun b u q => by
  rw [upd_ne (ne_of_none q h)]
  exact q
theorem ok_webI (T : Tx K mg) : FnOk P w K mg base CX0 4 T.f_webI T.d_webI ["self", "many", "ties"] (spWebI T.C_Web) := by
  refine T.F_webI.ok sc_webI (fun vs H Q E h => ?_) (fun cdv A outer s H vs Q E hr h => ?_)
  · obtain ⟨x, dx, t, n, ps, rfl, _⟩ := h
    rfl
  obtain ⟨x, dx, t, n, ps, rfl, hx, n1, n2, ht, hl, hp, q⟩ := h
  obtain ⟨vs, ht1, ht2⟩ := id ht
  refine ⟨_, (pss_cons (ps_if (pt_not (pt_val (pe_call (ok_is_between T) (hr.mono (by decide)) (by rfl) T.m_is_between T.F_is_between.kp T.b_is_between .nil pass0 (pa_cons (pv 1) (pa_cons pe_int (pa_cons (pe_glob (v := .int 10) rfl T.m_MOST_PLACES ⟨_, rfl⟩) pa_nil))))))
      (pss_one ps_never)
      pss_nil)
    (pss_cons (ps_if (PW.pt (pw_or (pt_not (pt_val (pe_callB call_isi (by rfl) T.g_isinstance (by decide +kernel) (pa_cons (pv 2) (pa_cons (pe_bltn (v := .ty "tuple") (by rfl) T.g_tuple (by decide +kernel) rfl) pa_nil))))) (pw_or1 (pt_cmpR op_gt (pe_callB call_len_seq (by rfl) T.g_len PySem.boot_len (pa_cons (pv 2) pa_nil)) (pe_glob (v := .int 16) rfl T.m_MOST_TIES ⟨_, rfl⟩) (nomark _)))))
      (pss_one ps_never)
      pss_nil)
    (pss_cons (ps_for PassesOwn.never rfl (pi_enT (by rfl) T.g_enumerate (pa_cons (pv 2) pa_nil)) (pg_tup rfl (pgs_cons (pg_name (i := 3) sc_webI.nd rfl (.inl rfl)) (pgs_cons (pg_name (i := 4) sc_webI.nd rfl (.inl rfl)) pgs_nil)))
      (pss_one (ps_if (pt_not (pt_val (pe_call (ok_is_tie T) (hr.mono (by decide)) (by rfl) T.m_is_tie T.F_is_tie.kp T.b_is_tie .nil pass0 (pa_cons (pv 4) (pa_cons (pv 1) pa_nil)))))
          (pss_one ps_never)
          pss_nil)))
    (pss_cons (ps_fld (pv 0) (pv 1) rfl)
    (pss_one (ps_fld (pv 0) (pv 2) rfl)))))), ?_⟩
  refine ⟨_, rfl, n, 1, 10, rfl, true, ?_, ?_⟩
  · rw [decide_eq_true n1, decide_eq_true n2]
    rfl
  refine iteF ?_
  refine ⟨_, rfl, _, _, _, _, _, rfl, .ty _, .base (.tup ht1), kit_ty (by decide +kernel), true, rfl, ?_⟩
  refine iteF ?_
  refine ⟨_, rfl, t, _, rfl, .inr (SqT.of ht1), _, 16, rfl, rfl, _, rfl, ?_⟩
  have e3 : ((vs.length : Nat) : Int) ≤ 16 := by
    rw [ht2.len]
    omega
  rw [decide_eq_false (show ¬ (16 : Int) < ((vs.length : Nat) : Int) by omega)]
  refine iteF ?_
  -- each tie is one
  refine ⟨_, rfl, t, _, rfl, SqT.of ht1, for_enT (fun i σ H' => ∃ y3 y4, σ = [some (.ref x), some (.int n), some (.ref t), y3, y4] ∧ Same H H')
    ⟨none, none, rfl, Same.refl H⟩ (fun i σ H' ⟨_, _, _, sm⟩ => SqT.of (sm _ _ ht1)) ?_ ?_⟩
  · intro i y S σ H' hi ⟨y3, y4, e, sm⟩ nS
    subst e
    obtain ⟨p, a, hpi, ey, ha⟩ := ht2.get hi
    subst ey
    have op := hp p (List.mem_of_getElem? hpi)
    have s2 : Same H (upd H' S (.tup [.int (i : Nat), .ref a])) := sm.trans (same_new nS _)
    refine ⟨S, _, rfl, SqT.of upd_same, rfl, _, _, rfl, _, _, rfl, rfl, ?_⟩
    refine ⟨_, rfl, _, rfl, a, p.1, p.2, n, rfl, s2 _ _ ha, op.1, op.2.1, op.2.2, true, rfl, ?_⟩
    exact iteF ⟨_, _, rfl, s2⟩
  · intro σ H' ⟨y3, y4, e, sm⟩
    subst e
    refine ⟨_, rfl, _, rfl, x, T.C_Web, dx, [], rfl, sm _ _ hx, T.cl_Web, T.no_Web_many, (by show 0 < 1000; decide), ?_⟩
    refine ⟨_, rfl, _, rfl, x, T.C_Web, dx, _, rfl, upd_same, T.cl_Web, T.no_Web_ties, (by show 1 < 1000; decide), ?_⟩
    refine q _ (fun b o hb nb => ?_) upd_same
    rw [upd_ne nb, upd_ne nb]
    exact sm _ _ hb
/-- Web(n, t): a right web, made -/
theorem web_made {C : Addr} {H : Hp} {t : Addr} {n : Int} {ps : List (Int × Int)} {Q : VK} {E : XK} (n1 : 1 ≤ n) (n2 : n ≤ 10) (ht : TiesAt H t ps) (hl : ps.length ≤ 16) (hp : ∀ p ∈ ps, okP n p)
    (q : ∀ x H', H x = none → Same H H' → WebAt C H' x n ps → Q (.ref x) H') :
    ∀ x dx, H x = none → H dx = none → dx ≠ x → spWebI C (.ref x :: ([.int n, .ref t] ++ [])) (upd (upd H dx (.own x)) x (.ins C dx [])) (fun v H2 => v = .non ∧ Q (.ref x) H2) E := by
  intro x dx nx nd nex
  have s0 : Same H (upd (upd H dx (.own x)) x (.ins C dx [])) := fun b o e => by
    rw [upd_ne (ne_of_none e nx), upd_ne (ne_of_none e nd)]
    exact e
  refine ⟨x, dx, t, n, ps, rfl, upd_same, n1, n2, ht.same s0, hl, hp, fun H' k hx => ⟨rfl, ?_⟩⟩
  have s1 : Same H H' := fun b o e => k b o (s0 b o e) (ne_of_none e nx)
  exact q x H' nx s1 ⟨dx, t, hx, ht.same s1⟩
end
end K45
set_option Elab.async false
set_option linter.all false
set_option maxRecDepth 100000
set_option maxHeartbeats 4000000
/-! Short answers. -/
namespace K45
open PySem L2 Rl
/-! ### short answers -/
theorem cut_hi (xs : List V) (k : Int) (h : 0 ≤ k) : cutV xs none (some k) = xs.take k.toNat := by
  obtain ⟨n, rfl⟩ := Int.eq_ofNat_of_zero_le h
  unfold cutV
  rw [HT.sIx_none, show HT.sIx xs.length xs.length (some (n : Int)) = min n xs.length from HT.sIx_nat _ _ n, List.drop_zero, Nat.sub_zero, Int.toNat_natCast]
  rcases Nat.le_total n xs.length with g | g
  · rw [Nat.min_eq_left g]
  · rw [Nat.min_eq_right g, List.take_of_length_le (Nat.le_refl _), List.take_of_length_le g]
theorem cut_lo (xs : List V) (k : Int) (h : 0 ≤ k) : cutV xs (some k) none = xs.drop k.toNat := by
  obtain ⟨n, rfl⟩ := Int.eq_ofNat_of_zero_le h
  unfold cutV
  rw [HT.sIx_none, show HT.sIx xs.length 0 (some (n : Int)) = min n xs.length from HT.sIx_nat _ _ n, Int.toNat_natCast]
  rcases Nat.le_total n xs.length with g | g
  · rw [Nat.min_eq_left g, List.take_of_length_le (by rw [List.length_drop]; exact Nat.le_refl _)]
  · rw [Nat.min_eq_right g, List.drop_of_length_le (Nat.le_refl _), List.drop_of_length_le g, List.take_nil]
theorem cut_all (xs : List V) (lo hi : Option Int) (h : HT.sIx xs.length 0 lo = 0 ∧ HT.sIx xs.length xs.length hi = xs.length) : cutV xs lo hi = xs := by
  unfold cutV
  rw [h.1, h.2, List.drop_zero, Nat.sub_zero, List.take_of_length_le (Nat.le_refl _)]
section
variable {K : PySem.W.Frag} {H : Hp} {Q : VK}
theorem sl_go {a : Addr} {xs : List V} {lo hi : Option Int} (ha : H a = some (.tup xs)) (q : ∀ p H', Same H H' → H' p = some (.tup (cutV xs lo hi)) → Q (.ref p) H') : rSlA K (.ref a) lo hi H Q :=
  ⟨a, xs, rfl, SqT.of ha, fun z => q a H (Same.refl H) (by rw [cut_all xs lo hi z]; exact ha), fun _ p np => q p _ (same_new np _) upd_same⟩
theorem cat_go {a b : Addr} {xs ys : List V} (ha : H a = some (.tup xs)) (hb : H b = some (.tup ys)) (hz : xs.length + ys.length ≤ 100000) (q : ∀ p H', Same H H' → H' p = some (.tup (xs ++ ys)) → Q (.ref p) H') : rCatA K (.ref a) (.ref b) H Q := by
  refine ⟨a, b, xs, ys, rfl, rfl, SqT.of ha, SqT.of hb, Nat.le_trans hz (by decide), fun e => ?_, fun _ e => ?_, fun _ _ p np => q p _ (same_new np _) upd_same⟩
  · subst e
    exact q b H (Same.refl H) hb
  · subst e
    exact q a H (Same.refl H) (by rw [List.append_nil]; exact ha)
end
theorem rd_same {H H' : Hp} (e : Same H H') {a : Addr} {u : HO} (h : L2.Rd H a u) : L2.Rd H' a u := by
  rcases h with h | ⟨o, h⟩
  · exact .inl (e _ _ h)
  · exact .inr ⟨o, e _ _ h⟩
theorem ty_tupR {K : PySem.W.Frag} {H : Hp} {a : Addr} {xs : List V} (h : L2.Rd H a (.tup xs)) : TyX K H (.ref a) (.type "tuple") := by
  rcases h with h | ⟨o, h⟩
  · exact .base (.tup h)
  · exact .fTuple h
theorem Same.tup {H H' : Hp} (e : Same H H') {a : Addr} {x y : V} (h : H a = some (.tup [x, y])) : H' a = some (.tup [x, y]) := e _ _ h
theorem PrsAt.same {H H' : Hp} {vs : List V} {ps : List (Int × Int)} (e : Same H H') (h : PrsAt H vs ps) : PrsAt H' vs ps := h.mono fun _ _ _ q => e _ _ q
theorem PrsAt.app {H : Hp} : ∀ {vs ws : List V} {ps qs : List (Int × Int)}, PrsAt H vs ps → PrsAt H ws qs → PrsAt H (vs ++ ws) (ps ++ qs)
  | _, _, _, _, .nil, h => h
  | _, _, _, _, .cons a r, h => .cons a (PrsAt.app r h)
theorem PrsAt.take {H : Hp} : ∀ {vs : List V} {ps : List (Int × Int)} (n : Nat), PrsAt H vs ps → PrsAt H (vs.take n) (ps.take n)
  | _, _, 0, _ => by rw [List.take_zero, List.take_zero]; exact .nil
  | _, _, _ + 1, .nil => .nil
  | _, _, n + 1, .cons a r => .cons a (PrsAt.take n r)
theorem PrsAt.drop {H : Hp} : ∀ {vs : List V} {ps : List (Int × Int)} (n : Nat), PrsAt H vs ps → PrsAt H (vs.drop n) (ps.drop n)
  | _, _, 0, h => h
  | _, _, _ + 1, .nil => .nil
  | _, _, n + 1, .cons a r => PrsAt.drop n r
/-- a list that is changed at an address that holds no tuple leaves the pairs -/
theorem PrsAt.upd {H : Hp} {D : Addr} {l : List V} {o : HO} {vs : List V} {ps : List (Int × Int)} (hD : H D = some (.lst l)) (h : PrsAt H vs ps) : PrsAt (upd H D o) vs ps :=
  h.mono fun a x y q => by
    rw [upd_ne (ne_of q hD (by intro z; cases z))]
    exact q
def Right (n : Int) (ps : List (Int × Int)) : Prop := 1 ≤ n ∧ n ≤ 10 ∧ ps.length ≤ 16 ∧ ∀ p ∈ ps, okP n p
/-- as min and max of two answer -/
def mn (i j : Int) : Int := if j < i then j else i
def mx (i j : Int) : Int := if j > i then j else i
def ix (ns : List Int) (k : Int) : Int := ns.getD k.toNat 0
def cal (ns : List Int) (p : Int × Int) : Int × Int := (mn (ix ns p.1) (ix ns p.2), mx (ix ns p.1) (ix ns p.2))
def inR (m : Nat) (p : Int × Int) : Prop := 0 ≤ p.1 ∧ p.1 < m ∧ 0 ≤ p.2 ∧ p.2 < m
theorem ix_at {ns : List Int} {k : Int} (h0 : 0 ≤ k) (h1 : k < ns.length) : atI (ns.map V.int) k = some (.int (ix ns k)) := by
  obtain ⟨n, rfl⟩ := Int.eq_ofNat_of_zero_le h0
  have hn : n < ns.length := by omega
  refine atI_nat ?_
  unfold ix
  rw [List.getElem?_map, Int.toNat_natCast, List.getD_eq_getElem?_getD, List.getElem?_eq_getElem hn]
  rfl
section
variable {P : Program} {w : World} {K : PySem.W.Frag} {mg : Str → Option Value} {base : Heap}
theorem ix_go {H : Hp} {m : Addr} {ns : List Int} {k : Int} {Q : VK} (hm : H m = some (.lst (ns.map V.int)) ∨ L2.Rd H m (.tup (ns.map V.int))) (h0 : 0 ≤ k) (h1 : k < ns.length) (q : Q (.int (ix ns k)) H) : rIx K (.ref m) (.int k) H Q := by
  rcases hm with hm | hm
  · exact .inl ⟨m, _, k, _, rfl, rfl, SqL.of hm, ix_at h0 h1, q⟩
  · exact .inr (.inl ⟨m, _, k, _, rfl, rfl, .inl hm, ix_at h0 h1, q⟩)
end
/-! ### data -/
def dI (ns : List Int) : List PyData := ns.map PyData.int
def dP (p : Int × Int) : PyData := .tuple [.int p.1, .int p.2]
theorem can_ints : ∀ ns : List Int, PyData.canLayAll0 (dI ns) = true
  | [] => by unfold dI; simp [PyData.canLayAll0]
  | n :: r => by
    have ih := can_ints r
    unfold dI at ih ⊢
    rw [List.map_cons]
    simp only [PyData.canLayAll0, PyData.canLay0, Bool.true_and]
    exact ih
theorem dep_ints : ∀ ns : List Int, PyData.depthAll (dI ns) = 0
  | [] => by unfold dI; simp [PyData.depthAll]
  | n :: r => by
    have ih := dep_ints r
    unfold dI at ih ⊢
    rw [List.map_cons]
    simp only [PyData.depthAll, PyData.depth]
    rw [ih]
    rfl
theorem can_pair (p : Int × Int) : (dP p).canLay0 = true := by
  unfold dP
  simp [PyData.canLay0, PyData.canLayAll0]
theorem dep_pair (p : Int × Int) : (dP p).depth = 1 := by
  unfold dP
  simp [PyData.depth, PyData.depthAll]
theorem can_prs : ∀ ps : List (Int × Int), PyData.canLayAll0 (ps.map dP) = true
  | [] => by simp [PyData.canLayAll0]
  | p :: r => by
    rw [List.map_cons]
    simp only [PyData.canLayAll0]
    rw [can_pair, can_prs r]
    rfl
theorem dep_prs : ∀ ps : List (Int × Int), PyData.depthAll (ps.map dP) ≤ 1
  | [] => by simp [PyData.depthAll]
  | p :: r => by
    rw [List.map_cons]
    simp only [PyData.depthAll]
    rw [dep_pair]
    exact Nat.max_le.mpr ⟨Nat.le_refl _, dep_prs r⟩
theorem shp_of {d : PyData} (h1 : d.canLay0 = true) (h2 : d.depth ≤ 64) : SeqAt.shaped d = true := Bool.and_eq_true_iff.mpr ⟨h1, decide_eq_true h2⟩
theorem shp_ints (ns : List Int) : SeqAt.shaped (.list (dI ns)) = true := shp_of
  (by simp only [PyData.canLay0]; exact can_ints ns) (by simp only [PyData.depth]; rw [dep_ints]; decide)
theorem shp_pair (p : Int × Int) : SeqAt.shaped (dP p) = true := shp_of (can_pair p) (by rw [dep_pair]; decide)
theorem shp_prs (ps : List (Int × Int)) : SeqAt.shaped (.tuple (ps.map dP)) = true := shp_of
  (by simp only [PyData.canLay0]; exact can_prs ps) (by simp only [PyData.depth]; have := dep_prs ps; omega)
theorem eqv_same {d : PyData} (h : SeqAt.shaped d = true) : PyData.eqv d d = true := SeqAt.eqv_refl d (SeqAt.canLay_of_shaped h)
theorem dpa_ints {K : PySem.W.Frag} {H : Hp} : ∀ ns : List Int, DpAll K H (ns.map V.int) (dI ns)
  | [] => .nil
  | n :: r => .cons (.int n) (dpa_ints r)
theorem dp_pair {K : PySem.W.Frag} {H : Hp} {a : Addr} {p : Int × Int} (h : H a = some (.tup [.int p.1, .int p.2])) : Dp K H (.ref a) (dP p) :=
  .tup (SqT.of h) (.cons (.int _) (.cons (.int _) .nil))
theorem dpa_prs {K : PySem.W.Frag} {H : Hp} : ∀ {vs : List V} {ps : List (Int × Int)}, PrsAt H vs ps → DpAll K H vs (ps.map dP)
  | _, _, .nil => .nil
  | _, _, .cons ⟨a, e, h⟩ r => by
    rw [e]
    exact .cons (dp_pair h) (dpa_prs r)
theorem dp_ties {K : PySem.W.Frag} {H : Hp} {t : Addr} {ps : List (Int × Int)} (h : TiesAt H t ps) : Dp K H (.ref t) (.tuple (ps.map dP)) := by
  obtain ⟨vs, h1, h2⟩ := h
  exact .tup (SqT.of h1) (dpa_prs h2)
/-! ### orders -/
def rn (n : Int) : List Int := (List.range n.toNat).map fun i : Nat => (i : Int)
theorem rg_rn (n : Int) : rgV 0 n = (rn n).map V.int := by
  unfold rgV rn
  rw [Int.sub_zero, List.map_map]
  refine List.map_congr_left fun i _ => ?_
  show V.int (0 + (i : Int)) = V.int (i : Int)
  rw [Int.zero_add]
theorem rn_len (n : Int) : (rn n).length = n.toNat := by
  unfold rn
  rw [List.length_map, List.length_range]
theorem mem_rn {n k : Int} : k ∈ rn n ↔ 0 ≤ k ∧ k < n := by
  unfold rn
  rw [List.mem_map]
  constructor
  · rintro ⟨i, hi, rfl⟩
    have := List.mem_range.mp hi
    omega
  · intro ⟨h0, h1⟩
    exact ⟨k.toNat, List.mem_range.mpr (by omega), by omega⟩
theorem rn_sorted (n : Int) : (rn n).Pairwise (· < ·) := by
  unfold rn
  refine List.pairwise_map.mpr ?_
  have q := List.pairwise_lt_range (n := n.toNat)
  exact q.imp fun {a b} h => by omega
theorem rn_get {n : Int} {i : Nat} (h : i < n.toNat) : (rn n)[i]? = some (i : Int) := by
  unfold rn
  rw [List.getElem?_map, List.getElem?_range h]
  rfl
def IsOrd (n : Int) (os : List Int) : Prop := os.Perm (rn n)
theorem ixN_of {m : Nat} {k : Int} (h0 : 0 ≤ k) (h1 : k.toNat < m) : ixN m k = some k.toNat := by
  obtain ⟨j, rfl⟩ := Int.eq_ofNat_of_zero_le h0
  rw [Int.toNat_natCast] at h1 ⊢
  exact Evl.ixN_nat h1
theorem getD_mem {ps : List (Int × Int)} {k : Nat} (h : k < ps.length) : ps.getD k (0, 0) ∈ ps := by
  rw [List.getD_eq_getElem?_getD, List.getElem?_eq_getElem h]
  exact List.getElem_mem h
theorem mn_mx {n a b : Int} (a0 : 0 ≤ a) (b0 : 0 ≤ b) (a1 : a < n) (b1 : b < n) : okP n (mn a b, mx a b) := by
  unfold okP mn mx
  by_cases h : b < a
  · rw [if_pos h, if_neg (by omega)]
    exact ⟨b0, by show b ≤ a; omega, a1⟩
  · rw [if_neg h]
    by_cases g : b > a
    · rw [if_pos g]
      exact ⟨a0, by show a ≤ b; omega, b1⟩
    · rw [if_neg g]
      exact ⟨a0, Int.le_refl _, a1⟩
theorem inR_of {n : Int} {p : Int × Int} {m : Nat} (h : okP n p) (e : m = n.toNat) : inR m p := by
  obtain ⟨h0, h1, h2⟩ := h
  unfold inR
  omega
theorem sorted_unique {a b : List Int} (ha : a.Pairwise (· < ·)) (hb : b.Pairwise (· < ·)) (h : ∀ k, k ∈ a ↔ k ∈ b) : a = b := by
  have na : a.Nodup := ha.imp fun {x y} l e => by omega
  have nb : b.Nodup := hb.imp fun {x y} l e => by omega
  exact PySem.W.ksm_same ((List.perm_ext_iff_of_nodup na nb).mpr h) (ha.imp fun l => Int.le_of_lt l) (hb.imp fun l => Int.le_of_lt l)
end K45
set_option Elab.async false
set_option linter.all false
set_option maxRecDepth 100000
set_option maxHeartbeats 4000000
/-! The hand of draws. -/
namespace K45
open PySem L2 Rl
/-- all but the object at h is as it was -/
def Kp (h : Addr) (H H' : Hp) : Prop := ∀ b o, b ≠ h → H b = some o → H' b = some o
theorem Kp.refl (h : Addr) (H : Hp) : Kp h H H := fun _ _ _ e => e
theorem Kp.trans {h : Addr} {H H1 H2 : Hp} (a : Kp h H H1) (b : Kp h H1 H2) : Kp h H H2 := fun c o n e => b c o n (a c o n e)
theorem Same.kp {h : Addr} {H H' : Hp} (e : Same H H') : Kp h H H' := fun b o _ q => e b o q
theorem Kp.upd {h : Addr} {H H' : Hp} {o : HO} (k : Kp h H H') : Kp h H (upd H' h o) := fun b u n e => by
  rw [upd_ne n]
  exact k b u n e
theorem pos_of {c : Int} (h : 0 < c) : (0 : Int) < c := h
theorem m31 {x c : Int} (h0 : 0 < c) (h1 : c ≤ 2147483647) : -(2 ^ 64) < x % c ∧ x % c < 2 ^ 64 := by
  have a := Int.emod_nonneg x (show c ≠ 0 by omega)
  have b := Int.emod_lt_of_pos x h0
  omega
structure HandAt (H : Hp) (h c : Addr) : Prop where
  ex : ∃ (cs : List Int) (i b m n : Int), H h = some (.lst [.ref c, .int i, .int b, .int m, .int n]) ∧ H c = some (.lst (cs.map V.int)) ∧ c ≠ h ∧ 0 ≤ i ∧ 0 ≤ b ∧ ∀ z ∈ cs, 0 ≤ z
theorem HandAt.same {H H' : Hp} {h c : Addr} (e : Same H H') (a : HandAt H h c) : HandAt H' h c := by
  obtain ⟨cs, i, b, m, n, h1, h2, h3⟩ := a.ex
  exact ⟨cs, i, b, m, n, e _ _ h1, e _ _ h2, h3⟩
/-- what a hand is made of, a store later -/
theorem HandAt.of {H : Hp} {h c : Addr} {cs : List Int} {i b m n : Int} (h1 : H h = some (.lst [.ref c, .int i, .int b, .int m, .int n])) (h2 : H c = some (.lst (cs.map V.int))) (h3 : c ≠ h) (h4 : 0 ≤ i) (h5 : 0 ≤ b) (h6 : ∀ z ∈ cs, 0 ≤ z) : HandAt H h c :=
  ⟨cs, i, b, m, n, h1, h2, h3, h4, h5, h6⟩
def spDraw : Sp := fun vs H Q _ => ∃ (h c : Addr) (m : Int), vs = [.ref h, .int m] ∧ 0 < m ∧ m < 1073741824 ∧ HandAt H h c ∧
  ∀ d H', 0 ≤ d → d < m → Kp h H H' → HandAt H' h c → Q (.int d) H'
theorem at_in {ns : List Int} {k : Int} (h0 : 0 ≤ k) (h1 : k < ns.length) : ∃ z ∈ ns, atI (ns.map V.int) k = some (.int z) := by
  obtain ⟨n, rfl⟩ := Int.eq_ofNat_of_zero_le h0
  have hn : n < ns.length := by omega
  refine ⟨ns[n], List.getElem_mem hn, atI_nat ?_⟩
  rw [List.getElem?_map, List.getElem?_eq_getElem hn]
  rfl
section
variable {P : Program} {w : World} {K : PySem.W.Frag} {mg : Str → Option Value} {base : Heap}
theorem ok_l_draw (T : Tx K mg) : FnOk P w K mg base CX0 1 T.f_l_draw T.d_l_draw ["hand", "many"] spDraw := by
  refine T.F_l_draw.ok sc_l_draw (fun vs H Q E h => ?_) (fun cdv A outer s H vs Q E hr h => ?_)
  · obtain ⟨h, c, m, rfl, _⟩ := h
    rfl
  obtain ⟨h, c, many, rfl, m0, m1, ⟨cs, i, b, m, n, hh, hc, nch, i0, b0, z0⟩, q⟩ := h
  refine ⟨_, (Evl.pss_cut (ps_if (PW.pt (pw_and (pt_cmpR op_eq (pe_ix ix_list (pv 0) pe_int (fun _ _ => rfl)) pe_int (nomark _)) (pw_and1 (pt_cmpR op_lt (pe_ix ix_list (pv 0) pe_int (fun _ _ => rfl)) (pe_callB call_len_seq (by rfl) T.g_len PySem.boot_len (pa_cons (pe_ix ix_list (pv 0) pe_int (fun _ _ => rfl)) pa_nil)) (nomark _)))))
      (pss_cons (ps_set (i := 2) sc_l_draw.nd rfl (.inl rfl) (pe_ix ix_seq (pe_ix ix_list (pv 0) pe_int (fun _ _ => rfl)) (pe_ix ix_list (pv 0) pe_int (fun _ _ => rfl)) (fun _ _ => rfl)))
        (pss_cons (ps_asg (pe_op op_add (pe_ix ix_list (pv 0) pe_int (fun _ _ => rfl)) pe_int) (pg_sub (pv 0) pe_int set_list))
        (pss_cons (ps_asg (pe_op op_mod (pe_callTy call_int1 (by rfl) T.g_int (by decide +kernel) (pa_cons (pe_op op_add (pe_op op_add (pe_op op_mul (pe_ix ix_list (pv 0) pe_int (fun _ _ => rfl)) pe_int) (pv 2)) pe_int) pa_nil)) pe_int) (pg_sub (pv 0) pe_int set_list))
        (pss_one (ps_if (pt_cmpR op_ge (pv 2) (pe_op op_pow pe_int pe_int) (nomark _))
          (pss_one (ps_asg (pv 2) (pg_sub (pv 0) pe_int set_list)))
          pss_nil)))))
      pss_nil)
    (pss_cons (ps_if (pt_cmpR op_gt (pe_ix ix_list (pv 0) pe_int (fun _ _ => rfl)) pe_int (nomark _))
      (pss_cons (ps_set (i := 3) sc_l_draw.nd rfl (.inl rfl) (pe_op op_mod (pe_callTy call_int1 (by rfl) T.g_int (by decide +kernel) (pa_cons (pe_ix ix_list (pv 0) pe_int (fun _ _ => rfl)) pa_nil)) (pv 1)))
        (pss_cons (ps_asg (pe_op op_fdiv (pe_ix ix_list (pv 0) pe_int (fun _ _ => rfl)) (pv 1)) (pg_sub (pv 0) pe_int set_list))
        (pss_one (ps_ret (pv 3)))))
      pss_nil)
    (pss_cons (ps_asg (pe_op op_add (pe_ix ix_list (pv 0) pe_int (fun _ _ => rfl)) pe_int) (pg_sub (pv 0) pe_int set_list))
    (pss_cons (ps_set (i := 4) sc_l_draw.nd rfl (.inl rfl) (pe_op op_mod (pe_callTy call_int1 (by rfl) T.g_int (by decide +kernel) (pa_cons (pe_op op_mul (pe_callTy call_int1 (by rfl) T.g_int (by decide +kernel) (pa_cons (pe_op op_add (pe_ix ix_list (pv 0) pe_int (fun _ _ => rfl)) (pe_op op_mul pe_int (pe_ix ix_list (pv 0) pe_int (fun _ _ => rfl)))) pa_nil)) pe_int) pa_nil)) pe_int))
    (pss_cons (ps_set (i := 4) sc_l_draw.nd rfl (.inl rfl) (pe_op op_mod (pe_callTy call_int1 (by rfl) T.g_int (by decide +kernel) (pa_cons (pe_op op_mul (pv 4) (pe_op op_add (pe_op op_fdiv (pv 4) pe_int) pe_int)) pa_nil)) pe_int))
    (pss_cons (ps_set (i := 4) sc_l_draw.nd rfl (.inl rfl) (pe_op op_mod (pe_callTy call_int1 (by rfl) T.g_int (by decide +kernel) (pa_cons (pe_op op_mul (pv 4) (pe_op op_add (pe_op op_fdiv (pv 4) pe_int) pe_int)) pa_nil)) pe_int))
    (pss_one (ps_ret (pe_op op_mod (pe_callTy call_int1 (by rfl) T.g_int (by decide +kernel) (pa_cons (pe_op op_fdiv (pv 4) pe_int) pa_nil)) (pv 1)))))))))), ?_⟩
  refine ⟨fun σ' H' => ∃ y2, σ' = [some (.ref h), some (.int many), y2, none, none] ∧ Kp h H H' ∧ HandAt H' h c, ?_, ?_⟩
  · have a0 : HandAt H h c := .of hh hc nch i0 b0 z0
    refine ⟨_, rfl, h, _, 2, _, rfl, rfl, SqL.of hh, atI_nat (j := 2) rfl, rfl, _, rfl, ite2 (fun e => ?_) (fun e => ?_)⟩
    · refine ⟨_, rfl, h, _, 1, _, rfl, rfl, SqL.of hh, atI_nat (j := 1) rfl, _, rfl, h, _, 0, _, rfl, rfl, SqL.of hh, atI_nat (j := 0) rfl, c, _, rfl, .inl (SqL.of hc), i, _, rfl, rfl, _, rfl, ?_⟩
      refine ite2 (fun e2 => ?_) (fun e2 => ?_)
      · have lt : i < ((cs.length : Nat) : Int) := by
          have q1 := of_decide_eq_true e2
          rw [List.length_map] at q1
          exact q1
        obtain ⟨z, hz, hat⟩ := at_in i0 lt
        have zz := z0 z hz
        -- cell = ..
        refine ⟨_, rfl, h, _, 0, _, rfl, rfl, SqL.of hh, atI_nat (j := 0) rfl, _, rfl, h, _, 1, _, rfl, rfl, SqL.of hh, atI_nat (j := 1) rfl, .inl ⟨c, _, i, _, rfl, rfl, SqL.of hc, hat, ?_⟩⟩
        -- the next one's place
        refine ⟨_, rfl, h, _, 1, _, rfl, rfl, SqL.of hh, atI_nat (j := 1) rfl, i, 1, rfl, rfl, _, rfl, h, _, 1, 1, rfl, rfl, hh, rfl, ?_⟩
        -- the mix
        refine ⟨_, rfl, h, _, 3, _, rfl, rfl, SqL.of upd_same, atI_nat (j := 3) rfl, m, 69621, rfl, rfl, .inr ⟨by decide, by decide⟩, _, rfl, _, z, rfl, rfl, _, 17, rfl, rfl, .inl ⟨_, rfl, _, 2147483629, rfl, rfl, pos_of (by decide), ?_⟩⟩
        refine ⟨_, rfl, h, _, 3, 3, rfl, rfl, upd_same, rfl, ?_⟩
        -- a great cell
        refine ⟨_, rfl, 10, 18, rfl, rfl, ⟨by decide, by decide, by decide⟩, z, _, rfl, rfl, _, rfl, ite2 (fun e3 => ?_) (fun e3 => ?_)⟩
        · refine ⟨_, rfl, _, rfl, h, _, 2, 2, rfl, rfl, upd_same, rfl, ?_⟩
          refine ⟨_, rfl, (((Kp.refl h H).upd).upd).upd, .of upd_same ?_ nch ?_ zz z0⟩
          · rw [upd_ne nch, upd_ne nch, upd_ne nch]
            exact hc
          · omega
        · refine ⟨_, rfl, ((Kp.refl h H).upd).upd, .of upd_same ?_ nch ?_ b0 z0⟩
          · rw [upd_ne nch, upd_ne nch]
            exact hc
          · omega
      · exact ⟨_, rfl, Kp.refl h H, a0⟩
    · refine iteF ?_
      exact ⟨_, rfl, Kp.refl h H, a0⟩
  · intro σ' H1 ⟨y2, e, k1, a1⟩
    subst e
    clear hh hc nch i0 b0 z0
    obtain ⟨cs, i, b, m, n, hh, hc, nch, i0, b0, z0⟩ := a1
    refine ⟨_, rfl, h, _, 2, _, rfl, rfl, SqL.of hh, atI_nat (j := 2) rfl, b, 0, rfl, rfl, _, rfl, ite2 (fun e => ?_) (fun e => ?_)⟩
    · refine ⟨_, rfl, h, _, 2, _, rfl, rfl, SqL.of hh, atI_nat (j := 2) rfl, .inl ⟨b, rfl, _, rfl, b, many, rfl, rfl, m0, ?_⟩⟩
      refine ⟨_, rfl, h, _, 2, _, rfl, rfl, SqL.of hh, atI_nat (j := 2) rfl, _, rfl, b, many, rfl, rfl, ⟨m0, m1⟩, _, rfl, h, _, 2, 2, rfl, rfl, hh, rfl, ?_⟩
      refine ⟨_, rfl, q (b % many) _ (Int.emod_nonneg _ (by omega)) (Int.emod_lt_of_pos _ m0) k1.upd (.of upd_same ?_ nch i0 (Int.ediv_nonneg b0 (by omega)) z0)⟩
      rw [upd_ne nch]
      exact hc
    · refine ⟨_, rfl, h, _, 4, _, rfl, rfl, SqL.of hh, atI_nat (j := 4) rfl, n, 1, rfl, rfl, _, rfl, h, _, 4, 4, rfl, rfl, hh, rfl, ?_⟩
      have k2 := k1.upd (o := .lst [.ref c, .int i, .int b, .int m, .int (n + 1)])
      have a2 : HandAt (upd H1 h (.lst [.ref c, .int i, .int b, .int m, .int (n + 1)])) h c := .of upd_same (by rw [upd_ne nch]; exact hc) nch i0 b0 z0
      refine ⟨_, rfl, h, _, 3, _, rfl, rfl, SqL.of upd_same, atI_nat (j := 3) rfl, _, rfl, h, _, 4, _, rfl, rfl, SqL.of upd_same, atI_nat (j := 4) rfl, 7919, n + 1, rfl, rfl, .inl ⟨by decide, by decide⟩, m, _, rfl, rfl,
        .inl ⟨_, rfl, _, 48271, rfl, rfl, .inr ⟨by decide, by decide⟩, .inl ⟨_, rfl, _, 2147483647, rfl, rfl, pos_of (by decide), ?_⟩⟩⟩
      refine ⟨_, rfl, _, rfl, _, 1009, rfl, rfl, ⟨by decide, by decide⟩, _, 69621, rfl, rfl, _, _, rfl, rfl, .inl (m31 (by decide) (by decide)), .inl ⟨_, rfl, _, 2147483647, rfl, rfl, pos_of (by decide), ?_⟩⟩
      refine ⟨_, rfl, _, rfl, _, 2003, rfl, rfl, ⟨by decide, by decide⟩, _, 40692, rfl, rfl, _, _, rfl, rfl, .inl (m31 (by decide) (by decide)), .inl ⟨_, rfl, _, 2147483399, rfl, rfl, pos_of (by decide), ?_⟩⟩
      refine ⟨_, rfl, _, 16, rfl, rfl, ⟨by decide, by decide⟩, .inl ⟨_, rfl, _, rfl, _, many, rfl, rfl, m0, ?_⟩⟩
      exact q _ _ (Int.emod_nonneg _ (by omega)) (Int.emod_lt_of_pos _ m0) k2 a2
/-! ### the hand, one of some -/
def spSome (K : PySem.W.Frag) : Sp := fun vs H Q _ => ∃ (h c a : Addr) (xs : List V), vs = [.ref h, .ref a] ∧ SqL K H a xs ∧ a ≠ h ∧ 0 < xs.length ∧ xs.length < 1000000 ∧ HandAt H h c ∧
  ∀ v H', v ∈ xs → Kp h H H' → HandAt H' h c → Q v H'
theorem Kp.seqL {h : Addr} {H H' : Hp} {a : Addr} {xs : List V} (k : Kp h H H') (n : a ≠ h) (e : SqL K H a xs) : SqL K H' a xs := by
  rcases e with (e | ⟨o, e⟩) | e
  · exact .inl (.inl (k _ _ n e))
  · exact .inl (.inr ⟨o, k _ _ n e⟩)
  · exact .inr e
theorem ok_l_some (T : Tx K mg) : FnOk P w K mg base CX0 2 T.f_l_some T.d_l_some ["hand", "things"] (spSome K) := by
  refine T.F_l_some.ok sc_l_some (fun vs H Q E h => ?_) (fun cdv A outer s H vs Q E hr h => ?_)
  · obtain ⟨h, c, a, xs, rfl, _⟩ := h
    rfl
  obtain ⟨h, c, a, xs, rfl, ha, nah, l0, l1, hd, q⟩ := h
  refine ⟨_, (pss_one (ps_ret (pe_ix ix_list (pv 1) (pe_call (ok_l_draw T) (hr.mono (by decide)) (by rfl) T.m_l_draw T.F_l_draw.kp T.b_l_draw .nil pass0 (pa_cons (pv 0) (pa_cons (pe_callB call_len_seq (by rfl) T.g_len PySem.boot_len (pa_cons (pv 1) pa_nil)) pa_nil))) (fun _ _ => rfl)))), ?_⟩
  refine ⟨_, rfl, _, rfl, _, rfl, a, xs, rfl, .inl ha, h, c, _, rfl, by omega, by omega, hd, fun d H' d0 d1 k hd' => ?_⟩
  obtain ⟨j, rfl⟩ := Int.eq_ofNat_of_zero_le d0
  have lj : j < xs.length := by omega
  refine ⟨a, xs, _, _, rfl, rfl, k.seqL nah ha, atI_nat (List.getElem?_eq_getElem lj), ?_⟩
  exact q _ _ (List.getElem_mem lj) k hd'
def ab (i : Int) : Int := if i < 0 then -i else i
def spHand (K : PySem.W.Frag) : Sp := fun vs H Q _ => ∃ (a : Addr) (ns : List Int), vs = [.ref a] ∧ SqL K H a (ns.map V.int) ∧ ns.length ≤ 63 ∧ ∀ h c H', H h = none → H c = none → Same H H' → HandAt H' h c → Q (.ref h) H'
theorem ok_l_hand (T : Tx K mg) : FnOk P w K mg base CX0 1 T.f_l_hand T.d_l_hand ["script"] (spHand K) := by
  refine T.F_l_hand.ok sc_l_hand (fun vs H Q E h => ?_) (fun cdv A outer s H vs Q E hr h => ?_)
  · obtain ⟨a, ns, rfl, _⟩ := h
    rfl
  obtain ⟨a, ns, rfl, ha, hl, q⟩ := h
  refine ⟨_, (pss_cons (ps_setLc (i := 1) (own := [("cell", 2)]) (g := (gName 2)) (tt := tYes) (te := (tCB _ (tCons (tCB _ (tCons (tVar 2) tNil)) tNil))) rfl sc_l_hand.nd rfl rfl (sw_true rfl rfl rfl (by decide +kernel)) (pi_list (pe_slice sl_list (pv 0) po_none (po_some pe_int))) (blkOk_by (own := [("cell", 2)]) (N := N_l_hand) (sc := defScope s_l_hand) (by decide +kernel)) (fun _ _ _ _ _ => (pg_name (i := 2) sc_l_hand.nd rfl (.inl rfl))) (fun _ _ _ _ _ => pts_nil) (fun _ _ _ _ _ => (pe_callB call_abs (by rfl) T.g_abs (by decide +kernel) (pa_cons (pe_callTy call_int1 (by rfl) T.g_int (by decide +kernel) (pa_cons (pv 2) pa_nil)) pa_nil))))
    (pss_one (ps_ret (pe_lst (pa_cons (pv 1) (pa_cons pe_int (pa_cons pe_int (pa_cons (pe_op op_add pe_int (pe_callB call_len_seq (by rfl) T.g_len PySem.boot_len (pa_cons (pv 1) pa_nil))) (pa_cons pe_int pa_nil))))))))), ?_⟩
  refine ⟨_, rfl, 63, rfl, a, _, rfl, ha, fun p np => ?_⟩
  have s1 : Same H (upd H p (.lst (cutV (ns.map V.int) none (some 63)))) := same_new np _
  have hp : (upd H p (.lst (cutV (ns.map V.int) none (some 63)))) p = some (.lst (ns.map V.int)) := by
    rw [upd_same, cut_hi _ _ (by decide), List.take_of_length_le (by rw [List.length_map]; exact hl)]
  refine ⟨p, rfl, ⟨_, SqL.of hp⟩, fun D nD => lc_list (xs := ns.map V.int) (fun i H' => Same H H' ∧ H' p = some (.lst (ns.map V.int)) ∧ H' D = some (.lst (((ns.take i).map ab).map V.int))) ?_ (fun i H' _ ⟨_, hp', _⟩ => SqL.of hp') ?_ ?_⟩
  · exact ⟨s1.trans (same_new nD _), same_new nD _ _ _ hp, upd_same⟩
  · intro i y H' hi ⟨sm, hp', hD⟩
    have li : i < ns.length := by
      have q1 := (List.getElem?_eq_some_iff.mp hi).1
      rw [List.length_map] at q1
      exact q1
    have ey : y = .int ns[i] := by
      rw [List.getElem?_map, List.getElem?_eq_getElem li] at hi
      exact (Option.some.inj hi).symm
    subst ey
    refine ⟨rfl, ?_⟩
    refine ⟨_, rfl, .inl ⟨_, rfl, _, rfl, _, hD, small1000 ?_, fun b o hb => ?_, ?_, ?_⟩⟩
    · rw [List.length_map, List.length_map, List.length_take]
      omega
    · rw [upd_ne (ne_of_none hb (s1.free nD))]
      exact sm _ _ hb
    · rw [upd_ne (ne_of_none hp nD)]
      exact hp'
    · rw [upd_same, List.take_add_one, List.getElem?_eq_getElem li, List.map_append, List.map_append]
      rfl
  · intro H' ⟨sm, hp', hD⟩
    rw [List.length_map, List.take_of_length_le (Nat.le_refl _)] at hD
    have nDn : H D = none := s1.free nD
    refine ⟨_, rfl, _, rfl, D, _, rfl, .inl (SqL.of hD), 29, _, rfl, rfl, (by show 5 ≤ sizeLine; decide), fun h nh => ?_⟩
    have nDh : D ≠ h := ne_of_none hD nh
    refine q h D _ (sm.free nh) nDn (sm.trans (same_new nh _)) (.of (c := D) (cs := ns.map ab) upd_same (by rw [upd_ne nDh]; exact hD) nDh (by decide) (by decide) fun z hz => ?_)
    obtain ⟨y, _, ez⟩ := List.mem_map.mp hz
    rw [← ez]
    unfold ab
    split <;> omega
end
end K45
set_option Elab.async false
set_option linter.all false
set_option maxRecDepth 100000
set_option maxHeartbeats 4000000
/-! The mathematics of chains. -/
namespace K45
open PySem L2 Rl
def okS (n : Int) (p : Int × Int) : Prop := 0 ≤ p.1 ∧ p.1 < p.2 ∧ p.2 < n
theorem okS.ok {n : Int} {p : Int × Int} (h : okS n p) : okP n p := ⟨h.1, Int.le_of_lt h.2.1, h.2.2⟩
def Adj (ps : List (Int × Int)) (x y : Int) : Prop := ∃ p ∈ ps, (p.1 = x ∧ p.2 = y) ∨ (p.1 = y ∧ p.2 = x)
theorem Adj.symm {ps : List (Int × Int)} {x y : Int} (h : Adj ps x y) : Adj ps y x := by
  obtain ⟨p, hp, h⟩ := h
  exact ⟨p, hp, h.symm⟩
theorem Adj.rng {n : Int} {ps : List (Int × Int)} {x y : Int} (ok : ∀ p ∈ ps, okS n p) (h : Adj ps x y) : (0 ≤ x ∧ x < n) ∧ (0 ≤ y ∧ y < n) ∧ x ≠ y := by
  obtain ⟨p, hp, h⟩ := h
  obtain ⟨a, b, c⟩ := ok p hp
  omega
/-- of one of two colours -/
def In2 (col : List Int) (a b x : Int) : Prop := ix col x = a ∨ ix col x = b
/-- come to from x along places of both colours -/
inductive Rc (ps : List (Int × Int)) (col : List Int) (a b : Int) (x : Int) : Int → Prop
  | refl : Rc ps col a b x x
  | step {y z : Int} : Rc ps col a b x y → Adj ps y z → In2 col a b z → Rc ps col a b x z
theorem Rc.trans {ps : List (Int × Int)} {col : List Int} {a b x y z : Int} (h : Rc ps col a b x y) (g : Rc ps col a b y z) : Rc ps col a b x z := by
  induction g with
  | refl => exact h
  | step _ ad i ih => exact .step ih ad i
theorem Rc.in2 {ps : List (Int × Int)} {col : List Int} {a b x y : Int} (hx : In2 col a b x) (h : Rc ps col a b x y) : In2 col a b y := by
  cases h with
  | refl => exact hx
  | step _ _ i => exact i
theorem Rc.symm {ps : List (Int × Int)} {col : List Int} {a b x y : Int} (hx : In2 col a b x) (h : Rc ps col a b x y) : Rc ps col a b y x := by
  induction h with
  | refl => exact .refl
  | step h ad i ih => exact .trans (.step .refl ad.symm (h.in2 hx)) ih
theorem Rc.flip {ps : List (Int × Int)} {col : List Int} {a b x y : Int} (h : Rc ps col a b x y) : Rc ps col b a x y := by
  induction h with
  | refl => exact .refl
  | step _ ad i ih => exact .step ih ad i.symm
theorem Rc.like {ps : List (Int × Int)} {col col' : List Int} {a b a' b' x y : Int} (e : ∀ z, (∃ w, Adj ps w z) → In2 col a b z → In2 col' a' b' z) (h : Rc ps col a b x y) : Rc ps col' a' b' x y := by
  induction h with
  | refl => exact .refl
  | step _ ad i ih => exact .step ih ad (e _ ⟨_, ad⟩ i)
theorem Rc.rng {n : Int} {ps : List (Int × Int)} {col : List Int} {a b x y : Int} (ok : ∀ p ∈ ps, okS n p) (h0 : 0 ≤ x ∧ x < n) (h : Rc ps col a b x y) : 0 ≤ y ∧ y < n := by
  cases h with
  | refl => exact h0
  | step _ ad _ => exact (ad.rng ok).2.1
/-- what the chain of a place is -/
def ChainIs (ps : List (Int × Int)) (col : List Int) (x c : Int) (L : List Int) : Prop := L.Pairwise (· < ·) ∧ ∀ y, y ∈ L ↔ Rc ps col (ix col x) c x y
theorem ChainIs.one {ps : List (Int × Int)} {col : List Int} {x c : Int} {L L' : List Int} (h : ChainIs ps col x c L) (g : ChainIs ps col x c L') : L = L' :=
  sorted_unique h.1 g.1 fun k => (h.2 k).trans (g.2 k).symm
/-- both colours, of which s is the sum, exchanged on L -/
def swf (col L : List Int) (s : Int) (x : Int) : Int := if x ∈ L then s - ix col x else ix col x
def sw (col L : List Int) (s : Int) : List Int := (List.range col.length).map fun i : Nat => swf col L s (i : Int)
theorem sw_len (col L : List Int) (s : Int) : (sw col L s).length = col.length := by
  unfold sw
  rw [List.length_map, List.length_range]
theorem sw_ix {col L : List Int} {s x : Int} (h0 : 0 ≤ x) (h1 : x < col.length) : ix (sw col L s) x = swf col L s x := by
  unfold ix sw
  rw [List.getD_eq_getElem?_getD, List.getElem?_map, List.getElem?_range (by omega)]
  show swf col L s ((x.toNat : Nat) : Int) = _
  rw [show ((x.toNat : Nat) : Int) = x by omega]
theorem ix_ext {a b : List Int} (hl : a.length = b.length) (h : ∀ x : Int, 0 ≤ x → x < a.length → ix a x = ix b x) : a = b := by
  refine List.ext_getElem hl fun i h1 h2 => ?_
  have := h (i : Int) (by omega) (by omega)
  unfold ix at this
  rw [Int.toNat_natCast, List.getD_eq_getElem?_getD, List.getD_eq_getElem?_getD, List.getElem?_eq_getElem h1, List.getElem?_eq_getElem h2] at this
  exact this
theorem ix_in {l : List Int} {x : Int} (h0 : 0 ≤ x) (h1 : x < l.length) : ix l x ∈ l := by
  unfold ix
  rw [List.getD_eq_getElem?_getD, List.getElem?_eq_getElem (show x.toNat < l.length by omega)]
  exact List.getElem_mem _
/-- a good painting with colours below q -/
structure Good (n q : Int) (ps : List (Int × Int)) (col : List Int) : Prop where
  l : col.length = n.toNat
  n1 : 1 ≤ n
  n2 : n ≤ 10
  r : ∀ z ∈ col, 0 ≤ z ∧ z < q
  ok : ∀ p ∈ ps, okS n p
  g : ∀ p ∈ ps, ix col p.1 ≠ ix col p.2
/-- an exchange: a place, another colour, the chain -/
structure Exch (n q : Int) (ps : List (Int × Int)) (col : List Int) (x c : Int) (L : List Int) : Prop where
  G : Good n q ps col
  x0 : 0 ≤ x
  x1 : x < n
  c0 : 0 ≤ c
  c1 : c < q
  ne : c ≠ ix col x
  ch : ChainIs ps col x c L
section
variable {n q x c : Int} {ps : List (Int × Int)} {col L : List Int}
theorem Exch.self (E : Exch n q ps col x c L) : x ∈ L := (E.ch.2 x).mpr .refl
theorem Exch.in2 (E : Exch n q ps col x c L) {y : Int} (h : y ∈ L) : In2 col (ix col x) c y := ((E.ch.2 y).mp h).in2 (.inl rfl)
theorem Exch.rng (E : Exch n q ps col x c L) {y : Int} (h : y ∈ L) : 0 ≤ y ∧ y < n := ((E.ch.2 y).mp h).rng E.G.ok ⟨E.x0, E.x1⟩
theorem Exch.len (E : Exch n q ps col x c L) : (col.length : Int) = n := by
  have := E.G.l
  have := E.G.n1
  omega
theorem Exch.at (E : Exch n q ps col x c L) {y : Int} (h0 : 0 ≤ y) (h1 : y < n) : ix (sw col L (ix col x + c)) y = swf col L (ix col x + c) y := sw_ix h0 (by rw [E.len]; exact h1)
/-- of both colours behind the exchange exactly what was of both ahead of it -/
theorem Exch.two (E : Exch n q ps col x c L) {y : Int} (h0 : 0 ≤ y) (h1 : y < n) : In2 (sw col L (ix col x + c)) (ix col x) c y ↔ In2 col (ix col x) c y := by
  unfold In2
  rw [E.at h0 h1]
  unfold swf
  by_cases h : y ∈ L
  · rw [if_pos h]
    have := E.in2 h
    unfold In2 at this
    omega
  · rw [if_neg h]
theorem Exch.new (E : Exch n q ps col x c L) : ix (sw col L (ix col x + c)) x = c := by
  rw [E.at E.x0 E.x1]
  unfold swf
  rw [if_pos E.self]
  omega
theorem Exch.good (E : Exch n q ps col x c L) : Good n q ps (sw col L (ix col x + c)) := by
  have hl := E.len
  have ox : 0 ≤ ix col x ∧ ix col x < q := E.G.r _ (ix_in E.x0 (by rw [hl]; exact E.x1))
  refine ⟨(sw_len _ _ _).trans E.G.l, E.G.n1, E.G.n2, fun z hz => ?_, E.G.ok, fun p hp e => ?_⟩
  · obtain ⟨i, hi, ez⟩ := List.mem_map.mp hz
    have li := List.mem_range.mp hi
    rw [← ez]
    unfold swf
    by_cases h : (i : Int) ∈ L
    · rw [if_pos h]
      have := E.in2 h
      unfold In2 at this
      have := E.c0
      have := E.c1
      omega
    · rw [if_neg h]
      exact E.G.r _ (ix_in (by omega) (by omega))
  · obtain ⟨a, b, d⟩ := E.G.ok p hp
    have g := E.G.g p hp
    have ad : Adj ps p.1 p.2 := ⟨p, hp, .inl ⟨rfl, rfl⟩⟩
    rw [E.at a (by omega), E.at (by omega) d] at e
    unfold swf at e
    by_cases h1 : p.1 ∈ L
    · have i1 := E.in2 h1
      by_cases h2 : p.2 ∈ L
      · rw [if_pos h1, if_pos h2] at e
        omega
      · have i2 : ¬ In2 col (ix col x) c p.2 := fun z => h2 ((E.ch.2 _).mpr (.step ((E.ch.2 _).mp h1) ad z))
        rw [if_pos h1, if_neg h2] at e
        unfold In2 at i1 i2
        omega
    · by_cases h2 : p.2 ∈ L
      · have i2 := E.in2 h2
        have i1 : ¬ In2 col (ix col x) c p.1 := fun z => h1 ((E.ch.2 _).mpr (.step ((E.ch.2 _).mp h2) ad.symm z))
        rw [if_neg h1, if_pos h2] at e
        unfold In2 at i1 i2
        omega
      · rw [if_neg h1, if_neg h2] at e
        exact g e
/-- the elder colour of the place leads back: the same chain -/
theorem Exch.back (E : Exch n q ps col x c L) : Exch n q ps (sw col L (ix col x + c)) x (ix col x) L := by
  have hl := E.len
  have ox : 0 ≤ ix col x ∧ ix col x < q := E.G.r _ (ix_in E.x0 (by rw [hl]; exact E.x1))
  refine ⟨E.good, E.x0, E.x1, ox.1, ox.2, ?_, E.ch.1, fun y => ?_⟩
  · rw [E.new]
    exact fun e => E.ne e.symm
  · rw [E.new, E.ch.2 y]
    refine ⟨fun h => Rc.flip (h.like fun z ⟨w, ad⟩ i => ?_), fun h => Rc.like (fun z ⟨w, ad⟩ i => ?_) h.flip⟩
    · have r := (ad.rng E.G.ok).2.1
      exact (E.two r.1 r.2).mpr i
    · have r := (ad.rng E.G.ok).2.1
      exact (E.two r.1 r.2).mp i
theorem Exch.back_is (E : Exch n q ps col x c L) : sw (sw col L (ix col x + c)) L (ix (sw col L (ix col x + c)) x + ix col x) = col := by
  have hl := E.len
  rw [E.new]
  refine ix_ext (by rw [sw_len, sw_len]) fun y h0 h1 => ?_
  rw [sw_len, sw_len] at h1
  have h1' : y < n := by omega
  rw [sw_ix h0 (by rw [sw_len]; exact h1)]
  unfold swf
  rw [E.at h0 h1']
  unfold swf
  by_cases h : y ∈ L
  · rw [if_pos h, if_pos h]
    omega
  · rw [if_neg h, if_neg h]
/-- of any place of the chain, for the other colour -/
theorem Exch.else (E : Exch n q ps col x c L) {y : Int} (h : y ∈ L) : Exch n q ps col y (if ix col y = ix col x then c else ix col x) L ∧ ix col y + (if ix col y = ix col x then c else ix col x) = ix col x + c := by
  have hl := E.len
  have ox : 0 ≤ ix col x ∧ ix col x < q := E.G.r _ (ix_in E.x0 (by rw [hl]; exact E.x1))
  have r := E.rng h
  have i := E.in2 h
  have rc := (E.ch.2 y).mp h
  have bk := rc.symm (.inl rfl)
  by_cases g : ix col y = ix col x
  · rw [if_pos g]
    refine ⟨⟨E.G, r.1, r.2, E.c0, E.c1, by rw [g]; exact E.ne, E.ch.1, fun z => ?_⟩, by rw [g]⟩
    rw [g, E.ch.2 z]
    exact ⟨fun k => bk.trans k, fun k => rc.trans k⟩
  · rw [if_neg g]
    have gy : ix col y = c := i.resolve_left g
    refine ⟨⟨E.G, r.1, r.2, ox.1, ox.2, fun e => g e.symm, E.ch.1, fun z => ?_⟩, by rw [gy]; omega⟩
    rw [gy, E.ch.2 z]
    exact ⟨fun k => (bk.trans k).flip, fun k => rc.trans k.flip⟩
end
/-! ### small things -/
theorem in_ints {k : Int} {gs : List Int} : inV (.int k) (gs.map V.int) = decide (k ∈ gs) := by
  unfold inV
  rw [List.any_map]
  by_cases h : k ∈ gs
  · rw [decide_eq_true h]
    exact List.any_eq_true.mpr ⟨k, h, beq_self_eq_true k⟩
  · rw [decide_eq_false h]
    refine List.any_eq_false.mpr fun z hz e => h ?_
    have e' : z = k := eq_of_beq e
    exact e' ▸ hz
theorem flat_is : ∀ gs : List Int, (gs.map V.int).all flatV = true
  | [] => rfl
  | _ :: r => by
    rw [List.map_cons, List.all_cons, flat_is r]
    rfl
theorem dec_vint {a b : Int} : decide (V.int a = V.int b) = decide (a = b) := by
  by_cases h : a = b
  · rw [decide_eq_true h, decide_eq_true (by rw [h])]
  · rw [decide_eq_false h, decide_eq_false fun e => h (by cases e; rfl)]
theorem take_snoc {α : Type} {l : List α} {i : Nat} {x : α} (h : l[i]? = some x) : l.take (i + 1) = l.take i ++ [x] := by
  rw [List.take_add_one, h]
  rfl
theorem mint {l : List Int} {i : Nat} {y : V} (h : (l.map V.int)[i]? = some y) : ∃ k, l[i]? = some k ∧ y = .int k := by
  rw [List.getElem?_map] at h
  cases e : l[i]? with
  | none => rw [e] at h; cases h
  | some k =>
    rw [e] at h
    exact ⟨k, rfl, (Option.some.inj h).symm⟩
theorem filt_snoc {l : List Int} {i : Nat} {k : Int} (f : Int → Bool) (h : l[i]? = some k) : (l.take (i + 1)).filter f = (l.take i).filter f ++ (if f k = true then [k] else []) := by
  rw [take_snoc h, List.filter_append]
  cases c : f k with
  | true => rw [if_pos rfl, List.filter_cons_of_pos c, List.filter_nil]
  | false => rw [if_neg Bool.false_ne_true, List.filter_cons_of_neg (by rw [c]; exact Bool.false_ne_true), List.filter_nil]
theorem hu70 {A : Around} {k : Nat} (hr : Room k A) : A.units + 70 < cLine := by
  have := hr.un
  omega
/-! ### how long texts are -/
theorem shown_all : ∀ (l : List Int), (∀ z ∈ l, z.natAbs.log2 < 60) → piled (PyData.shownAll (dI l)) ≤ 63 * l.length ∧ (PyData.shownAll (dI l)).length = l.length
  | [], _ => ⟨Nat.zero_le _, rfl⟩
  | a :: r, h => by
    obtain ⟨i1, i2⟩ := shown_all r fun z hz => h z (List.mem_cons_of_mem _ hz)
    have e := int_text_length_le (k := 60) (by decide) (h a List.mem_cons_self)
    have e2 : (PyData.shown (.int a)).length ≤ 61 := by
      show (Str.ofString (toString a)).length ≤ 61
      rw [ofString_length]
      exact e
    unfold dI at i1 i2 ⊢
    rw [List.map_cons]
    simp only [PyData.shownAll]
    rw [piled_cons, List.length_cons, List.length_cons, i2]
    exact ⟨by omega, rfl⟩
theorem shown_tup {l : List Int} (h : ∀ z ∈ l, z.natAbs.log2 < 60) (hl : l.length ≤ 100) : (PyData.shown (.tuple (dI l))).length ≤ sizeLine := by
  obtain ⟨i1, i2⟩ := shown_all l h
  show (tupleText (PyData.shownAll (dI l))).length ≤ sizeLine
  unfold tupleText
  rw [strLen_append, strLen_append]
  have e1 : ((("(" : String) : Str)).length = 1 := rfl
  have e3 : (((if (PyData.shownAll (dI l)).length == 1 then ",)" else ")" : String) : Str)).length ≤ 2 := by split <;> decide
  rw [e1, sizeLine_eq]
  by_cases c : PyData.shownAll (dI l) = []
  · rw [c]
    show 1 + 0 + _ ≤ _
    rw [c] at e3
    omega
  · have := join_length_add _ c
    omega
theorem showable_ints : ∀ (l : List Int), (∀ z ∈ l, z.natAbs.log2 < 60) → PyData.showableAll (dI l) = true
  | [], _ => rfl
  | a :: r, h => by
    have i := showable_ints r fun z hz => h z (List.mem_cons_of_mem _ hz)
    have e := h a List.mem_cons_self
    unfold dI at i ⊢
    rw [List.map_cons]
    simp only [PyData.showableAll, PyData.showable]
    rw [decide_eq_true (show a.natAbs.log2 < 1920 by omega), i]
    rfl
theorem log_small {z : Int} (h0 : 0 ≤ z) (h1 : z < 1000) : z.natAbs.log2 < 60 := by
  by_cases c : z.natAbs = 0
  · rw [c]
    decide
  · exact (Nat.log2_lt c).mpr (Nat.lt_trans (show z.natAbs < 1000 by omega) (by decide))
end K45
set_option Elab.async false
set_option linter.all false
set_option maxRecDepth 100000
set_option maxHeartbeats 4000000
/-! The program: neighbours, good paintings, chains, exchanges. -/
namespace K45
open PySem L2 Rl
def PtAt (H : Hp) (a : Addr) (col : List Int) : Prop := H a = some (.tup (col.map V.int))
theorem PtAt.same {H H' : Hp} {a : Addr} {col : List Int} (e : Same H H') (h : PtAt H a col) : PtAt H' a col := e _ _ h
def ends (ps : List (Int × Int)) (k : Int) : List Int := (ps.filter fun p => decide (k ∈ [p.1, p.2])).map fun p => p.1 + p.2 - k
theorem ends_mem {ps : List (Int × Int)} {k y : Int} : y ∈ ends ps k ↔ Adj ps k y := by
  unfold ends Adj
  rw [List.mem_map]
  constructor
  · rintro ⟨p, hp, e⟩
    obtain ⟨h1, h2⟩ := List.mem_filter.mp hp
    have h2 := of_decide_eq_true h2
    refine ⟨p, h1, ?_⟩
    rcases List.mem_cons.mp h2 with c | c
    · exact .inl ⟨c.symm, by omega⟩
    · have c := List.mem_singleton.mp c
      exact .inr ⟨by omega, c.symm⟩
  · rintro ⟨p, hp, h⟩
    refine ⟨p, List.mem_filter.mpr ⟨hp, decide_eq_true ?_⟩, by omega⟩
    rcases h with ⟨a, _⟩ | ⟨_, b⟩
    · rw [a]
      exact List.mem_cons_self
    · rw [b]
      exact List.mem_cons_of_mem _ List.mem_cons_self
/-- the neighbours of each place, at L -/
def NearAt (n : Int) (ps : List (Int × Int)) (m : Nat) (H : Hp) (L : Addr) : Prop := ∃ us, H L = some (.lst us) ∧ us.length = m ∧ ∀ i : Nat, i < m → ∃ (a : Addr) (ns : List Int), us[i]? = some (.ref a) ∧ H a = some (.tup (ns.map V.int)) ∧ ns.length ≤ 10 ∧
  ∀ y : Int, y ∈ ns ↔ (0 ≤ y ∧ y < n) ∧ Adj ps (i : Int) y ∧ y ≠ (i : Int)
theorem NearAt.same {n : Int} {ps : List (Int × Int)} {m : Nat} {H H' : Hp} {L : Addr} (e : Same H H') (h : NearAt n ps m H L) : NearAt n ps m H' L := by
  obtain ⟨us, h1, h2, h3⟩ := h
  refine ⟨us, e _ _ h1, h2, fun i hi => ?_⟩
  obtain ⟨a, ns, k1, k2, k3, k4⟩ := h3 i hi
  exact ⟨a, ns, k1, e _ _ k2, k3, k4⟩
theorem filt_pr {l : List (Int × Int)} {i : Nat} {k : Int × Int} (f : Int × Int → Bool) (h : l[i]? = some k) : (l.take (i + 1)).filter f = (l.take i).filter f ++ (if f k = true then [k] else []) := by
  rw [take_snoc h, List.filter_append]
  cases c : f k with
  | true => rw [if_pos rfl, List.filter_cons_of_pos c, List.filter_nil]
  | false => rw [if_neg Bool.false_ne_true, List.filter_cons_of_neg (by rw [c]; exact Bool.false_ne_true), List.filter_nil]
theorem nodup_len {n : Int} {l : List Int} (nd : l.Nodup) (h : ∀ z ∈ l, 0 ≤ z ∧ z < n) : l.length ≤ n.toNat := by
  have rnd : (rn n).Nodup := (rn_sorted n).imp fun {x y} l e => by omega
  have p : ((rn n).filter fun k => decide (k ∈ l)).Perm l := (List.perm_ext_iff_of_nodup (rnd.filter _) nd).mpr fun k => by
    rw [List.mem_filter, decide_eq_true_eq]
    exact ⟨fun q => q.2, fun q => ⟨mem_rn.mpr (h k q), q⟩⟩
  have e := List.length_filter_le (fun k => decide (k ∈ l)) (rn n)
  rw [p.length_eq, rn_len] at e
  exact e
theorem sw_nil (col : List Int) (s : Int) : sw col [] s = col := ix_ext (sw_len _ _ _) fun x h0 h1 => by
  rw [sw_len] at h1
  rw [sw_ix h0 h1]
  unfold swf
  rw [if_neg List.not_mem_nil]
theorem sw_set {col L : List Int} {s z : Int} (h0 : 0 ≤ z) (h1 : z < col.length) : (sw col L s).set z.toNat (s - ix col z) = sw col (L ++ [z]) s := by
  refine List.ext_getElem? fun i => ?_
  unfold sw
  rw [List.getElem?_set, List.getElem?_map, List.getElem?_map, List.length_map, List.length_range]
  by_cases e : z.toNat = i
  · have ei : (i : Int) = z := by omega
    rw [if_pos e, if_pos (by omega), List.getElem?_range (by omega)]
    show some _ = some (swf col (L ++ [z]) s (i : Int))
    rw [ei]
    unfold swf
    rw [if_pos (List.mem_append.mpr (.inr (List.mem_singleton.mpr rfl)))]
  · rw [if_neg e]
    by_cases c : i < col.length
    · rw [List.getElem?_range c]
      show some (swf col L s (i : Int)) = some (swf col (L ++ [z]) s (i : Int))
      unfold swf
      by_cases g : (i : Int) ∈ L
      · rw [if_pos g, if_pos (List.mem_append.mpr (.inl g))]
      · rw [if_neg g, if_neg fun m => (List.mem_append.mp m).elim g fun k => e (by have := List.mem_singleton.mp k; omega)]
    · rw [List.getElem?_eq_none (by rw [List.length_range]; omega)]
      rfl
/-- places held, places that wait, what is still to be looked at from y0 -/
structure Hld (n : Int) (ps : List (Int × Int)) (col : List Int) (x c : Int) (hs ws : List Int) (y0 : Int) (todo : List Int) : Prop where
  nd : hs.Nodup
  rg : ∀ y ∈ hs, 0 ≤ y ∧ y < n
  rc : ∀ y ∈ hs, Rc ps col (ix col x) c x y
  me : x ∈ hs
  sub : ∀ y ∈ ws, y ∈ hs
  wl : ws.length ≤ hs.length
  cl : ∀ y ∈ hs, y ∉ ws → ∀ z, Adj ps y z → In2 col (ix col x) c z → z ∈ hs ∨ (y = y0 ∧ z ∈ todo)
section
variable {n x c y0 z : Int} {ps : List (Int × Int)} {col hs ws todo : List Int}
theorem Hld.len (h : Hld n ps col x c hs ws y0 todo) : hs.length ≤ n.toNat := nodup_len h.nd h.rg
theorem Hld.begin (h0 : 0 ≤ x ∧ x < n) : Hld n ps col x c [x] [x] y0 [] where
  nd := List.nodup_cons.mpr ⟨List.not_mem_nil, List.nodup_nil⟩
  rg := fun y hy => by
    rw [List.mem_singleton.mp hy]
    exact h0
  rc := fun y hy => by
    rw [List.mem_singleton.mp hy]
    exact .refl
  me := List.mem_singleton.mpr rfl
  sub := fun y hy => hy
  wl := Nat.le_refl _
  cl := fun y hy hn => absurd hy hn
theorem Hld.pop {ws' : List Int} (h : Hld n ps col x c hs (ws' ++ [z]) y0 []) (ht : ∀ w, Adj ps z w → w ∈ todo) : Hld n ps col x c hs ws' z todo where
  nd := h.nd
  rg := h.rg
  rc := h.rc
  me := h.me
  sub := fun y hy => h.sub y (List.mem_append.mpr (.inl hy))
  wl := by
    have := h.wl
    rw [List.length_append] at this
    have : ws'.length + 1 ≤ hs.length := this
    omega
  cl := fun y hy hn w ad i => by
    by_cases e : y = z
    · subst e
      exact .inr ⟨rfl, ht w ad⟩
    · rcases h.cl y hy (fun m => (List.mem_append.mp m).elim hn fun k => e (List.mem_singleton.mp k)) w ad i with k | ⟨_, k⟩
      · exact .inl k
      · cases k
theorem Hld.more {rest : List Int} (h : Hld n ps col x c hs ws y0 (z :: rest)) (hy : y0 ∈ hs) (ad : Adj ps y0 z) (i : In2 col (ix col x) c z) (hz : z ∉ hs) (r : 0 ≤ z ∧ z < n) : Hld n ps col x c (hs ++ [z]) (ws ++ [z]) y0 rest where
  nd := List.nodup_append.mpr ⟨h.nd, List.nodup_cons.mpr ⟨List.not_mem_nil, List.nodup_nil⟩, fun a ha b hb e => hz (by rw [← List.mem_singleton.mp hb, ← e]; exact ha)⟩
  rg := fun y hy => (List.mem_append.mp hy).elim (h.rg y) fun k => by rw [List.mem_singleton.mp k]; exact r
  rc := fun y hy' => (List.mem_append.mp hy').elim (h.rc y) fun k => by rw [List.mem_singleton.mp k]; exact .step (h.rc y0 hy) ad i
  me := List.mem_append.mpr (.inl h.me)
  sub := fun y hy => (List.mem_append.mp hy).elim (fun k => List.mem_append.mpr (.inl (h.sub y k))) fun k => List.mem_append.mpr (.inr k)
  wl := by
    rw [List.length_append, List.length_append]
    exact Nat.add_le_add_right h.wl _
  cl := fun y hy' hn w ad' i' => by
    rcases List.mem_append.mp hy' with m | m
    · rcases h.cl y m (fun k => hn (List.mem_append.mpr (.inl k))) w ad' i' with k | ⟨k1, k2⟩
      · exact .inl (List.mem_append.mpr (.inl k))
      · rcases List.mem_cons.mp k2 with k3 | k3
        · rw [k3]
          exact .inl (List.mem_append.mpr (.inr (List.mem_singleton.mpr rfl)))
        · exact .inr ⟨k1, k3⟩
    · exact absurd (List.mem_append.mpr (.inr m)) hn
theorem Hld.skip {rest : List Int} (h : Hld n ps col x c hs ws y0 (z :: rest)) (hz : In2 col (ix col x) c z → z ∈ hs) : Hld n ps col x c hs ws y0 rest where
  nd := h.nd
  rg := h.rg
  rc := h.rc
  me := h.me
  sub := h.sub
  wl := h.wl
  cl := fun y hy hn w ad i => by
    rcases h.cl y hy hn w ad i with k | ⟨k1, k2⟩
    · exact .inl k
    · rcases List.mem_cons.mp k2 with k3 | k3
      · rw [k3] at i ⊢
        exact .inl (hz i)
      · exact .inr ⟨k1, k3⟩
theorem Hld.all (h : Hld n ps col x c hs [] y0 []) (y : Int) : y ∈ hs ↔ Rc ps col (ix col x) c x y := by
  refine ⟨h.rc y, fun r => ?_⟩
  induction r with
  | refl => exact h.me
  | step _ ad i ih =>
    rcases h.cl _ ih List.not_mem_nil _ ad i with k | ⟨_, k⟩
    · exact k
    · cases k
theorem Hld.chain (h : Hld n ps col x c hs [] y0 []) {ms : List Int} (hp : ms.Perm hs) (hsrt : ms.Pairwise (· ≤ ·)) : ChainIs ps col x c ms := by
  have nd : ms.Nodup := hp.nodup_iff.mpr h.nd
  refine ⟨?_, fun y => (hp.mem_iff).trans (h.all y)⟩
  exact (hsrt.and nd).imp fun {a b} k => by
    have := k.1
    have := k.2
    omega
end
def spNear (C : Addr) : Sp := fun vs H Q _ => ∃ (x : Addr) (n : Int) (ps : List (Int × Int)), vs = [.ref x] ∧ WebAt C H x n ps ∧ 1 ≤ n ∧ n ≤ 10 ∧ ps.length ≤ 16 ∧ ∀ L H', Same H H' → NearAt n ps n.toNat H' L → Q (.ref L) H'
def spNum1 : Sp := fun vs H Q _ => ∃ q : Int, vs = [.int q] ∧ 1 ≤ q ∧ q ≤ 6 ∧ Q (.bl true) H
/-- a web and a good painting of it -/
structure Pt (C : Addr) (H : Hp) (x a : Addr) (n q : Int) (ps : List (Int × Int)) (col : List Int) : Prop where
  w : WebAt C H x n ps
  p : PtAt H a col
  G : Good n q ps col
  l16 : ps.length ≤ 16
  q1 : 1 ≤ q
  q6 : q ≤ 6
theorem Pt.same {C : Addr} {H H' : Hp} {x a : Addr} {n q : Int} {ps : List (Int × Int)} {col : List Int} (e : Same H H') (h : Pt C H x a n q ps col) : Pt C H' x a n q ps col := ⟨h.w.same e, h.p.same e, h.G, h.l16, h.q1, h.q6⟩
def spIsGood (C : Addr) : Sp := fun vs H Q _ => ∃ (x a : Addr) (n q : Int) (ps : List (Int × Int)) (col : List Int), vs = [.ref x, .int q, .ref a] ∧ Pt C H x a n q ps col ∧ ∀ H', Same H H' → Q (.bl true) H'
def spJudge (C : Addr) : Sp := fun vs H Q _ => ∃ (x a : Addr) (n q k c : Int) (ps : List (Int × Int)) (col L : List Int), vs = [.ref x, .int q, .ref a, .int k, .int c] ∧ Pt C H x a n q ps col ∧ Exch n q ps col k c L ∧ ∀ H', Same H H' → Q .non H'
def spChainOf : Sp := fun vs H Q _ => ∃ (N a : Addr) (n k c : Int) (ps : List (Int × Int)) (col : List Int), vs = [.ref N, .ref a, .int k, .int c] ∧ NearAt n ps n.toNat H N ∧ PtAt H a col ∧ col.length = n.toNat ∧ n ≤ 10 ∧ (∀ p ∈ ps, okS n p) ∧ 0 ≤ k ∧ k < n ∧
  ∀ t L H', Same H H' → PtAt H' t L → ChainIs ps col k c L → Q (.ref t) H'
def spChanged : Sp := fun vs H Q _ => ∃ (a t : Addr) (s : Int) (col L : List Int), vs = [.ref a, .ref t, .int s] ∧ PtAt H a col ∧ PtAt H t L ∧ col.length ≤ 10 ∧ (∀ z ∈ L, 0 ≤ z ∧ z < col.length) ∧ ∀ u H', Same H H' → PtAt H' u (sw col L s) → Q (.ref u) H'
def spExchangeOf : Sp := fun vs H Q _ => ∃ (N a : Addr) (n k c : Int) (ps : List (Int × Int)) (col : List Int), vs = [.ref N, .ref a, .int k, .int c] ∧ NearAt n ps n.toNat H N ∧ PtAt H a col ∧ col.length = n.toNat ∧ n ≤ 10 ∧ (∀ p ∈ ps, okS n p) ∧ 0 ≤ k ∧ k < n ∧
  ∀ t L H', Same H H' → ChainIs ps col k c L → PtAt H' t (sw col L (ix col k + c)) → Q (.ref t) H'
def spChain (C : Addr) : Sp := fun vs H Q _ => ∃ (x a : Addr) (n q k c : Int) (ps : List (Int × Int)) (col L : List Int), vs = [.ref x, .int q, .ref a, .int k, .int c] ∧ Pt C H x a n q ps col ∧ Exch n q ps col k c L ∧ ∀ t H', Same H H' → PtAt H' t L → Q (.ref t) H'
def spExchanged (C : Addr) : Sp := fun vs H Q _ => ∃ (x a : Addr) (n q k c : Int) (ps : List (Int × Int)) (col L : List Int), vs = [.ref x, .int q, .ref a, .int k, .int c] ∧ Pt C H x a n q ps col ∧ Exch n q ps col k c L ∧
  ∀ t H', Same H H' → PtAt H' t (sw col L (ix col k + c)) → Q (.ref t) H'
section
variable {P : Program} {w : World} {K : PySem.W.Frag} {mg : Str → Option Value} {base : Heap}
theorem ok_is_colours (T : Tx K mg) : FnOk P w K mg base CX0 3 T.f_is_colours T.d_is_colours ["thing"] spNum1 := by
  refine T.F_is_colours.ok sc_is_colours (fun vs H Q E h => ?_) (fun cdv A outer s H vs Q E hr h => ?_)
  · obtain ⟨q, rfl, _⟩ := h
    rfl
  obtain ⟨i, rfl, h1, h6, q⟩ := h
  refine ⟨_, (pss_one (ps_ret (pe_call (ok_is_between T) (hr.mono (by decide)) (by rfl) T.m_is_between T.F_is_between.kp T.b_is_between .nil pass0 (pa_cons (pv 0) (pa_cons pe_int (pa_cons (pe_glob (v := .int 1000000000) rfl T.m_MOST_COLOURS ⟨_, rfl⟩) pa_nil)))))), ?_⟩
  refine ⟨_, rfl, i, 0, 1000000000, rfl, ?_⟩
  rw [decide_eq_true (show (0 : Int) ≤ i by omega), decide_eq_true (show i ≤ 1000000000 by omega)]
  exact q
theorem ok_is_few_colours (T : Tx K mg) : FnOk P w K mg base CX0 3 T.f_is_few_colours T.d_is_few_colours ["thing"] spNum1 := by
  refine T.F_is_few_colours.ok sc_is_few_colours (fun vs H Q E h => ?_) (fun cdv A outer s H vs Q E hr h => ?_)
  · obtain ⟨q, rfl, _⟩ := h
    rfl
  obtain ⟨i, rfl, h1, h6, q⟩ := h
  refine ⟨_, (pss_one (ps_ret (pe_call (ok_is_between T) (hr.mono (by decide)) (by rfl) T.m_is_between T.F_is_between.kp T.b_is_between .nil pass0 (pa_cons (pv 0) (pa_cons pe_int (pa_cons (pe_glob (v := .int 6) rfl T.m_FEW_COLOURS ⟨_, rfl⟩) pa_nil)))))), ?_⟩
  refine ⟨_, rfl, i, 1, 6, rfl, ?_⟩
  rw [decide_eq_true h1, decide_eq_true h6]
  exact q
theorem ok_neighbours (T : Tx K mg) : FnOk P w K mg base CX0 1 T.f_neighbours T.d_neighbours ["web"] (spNear T.C_Web) := by
  refine T.F_neighbours.ok sc_neighbours (fun vs H Q E h => ?_) (fun cdv A outer s H vs Q E hr h => ?_)
  · obtain ⟨x, n, ps, rfl, _⟩ := h
    rfl
  obtain ⟨x, n, ps, rfl, wx, n1, n2, l16, q⟩ := h
  obtain ⟨dx, t, hx, vs, htv, hv⟩ := wx
  have lv := hv.len
  refine ⟨_, (pss_cons (ps_set (i := 1) sc_neighbours.nd rfl (.inl rfl) (pe_lst pa_nil))
    (pss_cons (ps_for PassesOwn.never rfl (pi_range1 (by rfl) T.g_range (pa_cons (pe_fld (pv 0) rfl) pa_nil)) (pg_name (i := 2) sc_neighbours.nd rfl (by first | exact .inl rfl | exact .inr rfl))
      (pss_cons (ps_asg (pe_lc (own := [("u", 4), ("v", 5)]) (g := (gTup K 2 (gCons (gName 4) (gCons (gName 5) gNil)))) (tt := (tTest (tOp (rIn K false) (tVar 2) (tTup (tCons (tVar 4) (tCons (tVar 5) tNil)))))) (te := (tOp _ (tOp _ (tVar 4) (tVar 5)) (tVar 2))) rfl sc_neighbours.nd (pi_tup (pe_fld (pv 0) rfl)) (blkOk_by (own := [("u", 4), ("v", 5)]) (N := N_neighbours) (sc := defScope s_neighbours) (by decide +kernel)) (fun _ _ _ _ _ => (pg_tup rfl (pgs_cons (pg_name (i := 4) sc_neighbours.nd rfl (.inl rfl)) (pgs_cons (pg_name (i := 5) sc_neighbours.nd rfl (.inl rfl)) pgs_nil)))) (fun _ _ _ _ _ => (pts_one (pt_cmpR op_in_seq (pv 2) (pe_tup (pa_cons (pv 4) (pa_cons (pv 5) pa_nil))) (by rfl)))) (fun _ _ _ _ _ => (pe_op op_sub (pe_op op_add (pv 4) (pv 5)) (pv 2)))) (pg_name (i := 3) sc_neighbours.nd rfl (by first | exact .inl rfl | exact .inr rfl)))
        (pss_one (ps_expr (pe_bm PySem.F.plainAttrs_list PySem.F.slot_list_append PySem.F.type_list_append mt_append (pv 1) (pa_cons (pe_callTy call_tuple_of (by rfl) T.g_tuple (by decide +kernel) (pa_cons (pe_lc (own := [("other", 6)]) (g := (gName 6)) (tt := (tAnd (tTest (tOp (rIn K false) (tVar 6) (tVar 3))) (tTest (tOp rNe (tVar 6) (tVar 2))))) (te := (tVar 6)) rfl sc_neighbours.nd (pi_range1 (by rfl) T.g_range (pa_cons (pe_fld (pv 0) rfl) pa_nil)) (blkOk_by (own := [("other", 6)]) (N := N_neighbours) (sc := defScope s_neighbours) (by decide +kernel)) (fun _ _ _ _ _ => (pg_name (i := 6) sc_neighbours.nd rfl (.inl rfl))) (fun _ _ _ _ _ => (pts_one (PW.pt (pw_and (pt_cmpR op_in_seq (pv 6) (pv 3) (by rfl)) (pw_and1 (pt_cmpR op_ne (pv 6) (pv 2) (nomark _))))))) (fun _ _ _ _ _ => (pv 6))) pa_nil)) pa_nil))))))
    (pss_one (ps_ret (pv 1))))), ?_⟩
  refine ⟨(by show 0 ≤ sizeLine; decide), fun R nR => ?_⟩
  have sR := same_new nR (.lst [])
  have hR0 : (L2.upd H R (.lst [])) R = some (.lst []) := upd_same
  generalize L2.upd H R (.lst []) = H0 at *
  refine ⟨_, rfl, x, T.C_Web, dx, _, _, rfl, sR _ _ hx, T.cl_Web, T.no_Web_many, wf_many n t, n, rfl, by omega, by omega, ?_⟩
  refine for_range (lo := 0) (n := n.toNat) (fun i σ H' => ∃ y2 y3, σ = [some (.ref x), some (.ref R), y2, y3, none, none, none] ∧ Same H H' ∧ NearAt n ps i H' R)
    ⟨none, none, rfl, sR, [], hR0, rfl, fun i hi => absurd hi (Nat.not_lt_zero i)⟩ ?_ ?_
  · intro i σ H1 hi ⟨y2, y3, e, sm, us, hR, lu, near⟩
    subst e
    have e0 : (0 : Int) + (i : Int) = (i : Int) := Int.zero_add _
    have hx1 := sm _ _ hx
    have ht1 := sm _ _ htv
    have hv1 := hv.same sm
    refine ⟨_, rfl, x, T.C_Web, dx, _, _, rfl, hx1, T.cl_Web, T.no_Web_ties, wf_ties n t, t, rfl, ⟨_, SqT.of ht1⟩, fun D nD => lc_tup (xs := vs) (fun j H2 => Same H1 H2 ∧ H2 D = some (.lst ((((ps.take j).filter fun p => decide ((i : Int) ∈ [p.1, p.2])).map fun p => p.1 + p.2 - (i : Int)).map V.int)))
      ⟨same_new nD _, upd_same⟩ (fun j H2 _ ⟨s2, _⟩ => SqT.of (s2 _ _ ht1)) ?_ ?_⟩
    · intro j y H2 hj ⟨s2, hD⟩
      obtain ⟨p, a, hp, ey, ha⟩ := (hv1.same s2).get hj
      subst ey
      refine ⟨a, _, rfl, SqT.of ha, rfl, _, _, rfl, _, _, rfl, rfl, rfl, ?_⟩
      refine ⟨_, rfl, _, rfl, _, rfl, (by show 2 ≤ sizeLine; decide), fun S nS => ⟨S, _, rfl, .inr (SqT.of upd_same), rfl, flat_is [p.1, p.2], _, rfl, ?_⟩⟩
      have sS := same_new nS (.tup [.int p.1, .int p.2])
      have hDS := sS _ _ hD
      have s3 := s2.trans sS
      generalize L2.upd H2 S (.tup [.int p.1, .int p.2]) = H3 at *
      have ein : inV (.int (0 + (i : Int))) [.int p.1, .int p.2] = decide ((i : Int) ∈ [p.1, p.2]) := by
        rw [e0]
        exact in_ints (gs := [p.1, p.2])
      rw [if_neg Bool.false_ne_true, ein]
      have fs := filt_pr (fun p => decide ((i : Int) ∈ [p.1, p.2])) hp
      cases g : decide ((i : Int) ∈ [p.1, p.2]) with
      | true =>
        refine iteT ⟨_, rfl, _, rfl, _, _, rfl, rfl, _, rfl, _, _, rfl, rfl, _, hDS, small1000 ?_, fun o u ho => ?_, ?_⟩
        · rw [List.length_map, List.length_map]
          have := List.length_filter_le (fun p => decide ((i : Int) ∈ [p.1, p.2])) (ps.take j)
          rw [List.length_take] at this
          omega
        · rw [upd_ne (ne_of_none ho nD)]
          exact s3 _ _ ho
        · rw [upd_same, fs, if_pos g, List.map_append, List.map_append]
          show some (HO.lst (_ ++ [V.int (p.1 + p.2 - (0 + (i : Int)))])) = _
          rw [e0]
          rfl
      | false =>
        refine iteF ⟨s3, ?_⟩
        rw [fs, if_neg (by rw [g]; exact Bool.false_ne_true), List.append_nil]
        exact hDS
    · intro H2 ⟨s2, hD⟩
      rw [List.take_of_length_le (by omega)] at hD
      have hD : H2 D = some (.lst ((ends ps (i : Int)).map V.int)) := hD
      have sm2 := sm.trans s2
      have hR2 := s2 _ _ hR
      refine ⟨_, rfl, .inl ⟨rfl, _, SqL.of hR2⟩, _, rfl, x, T.C_Web, dx, _, _, rfl, sm2 _ _ hx, T.cl_Web, T.no_Web_many, wf_many n t, n, rfl, by omega, by omega, fun Z nZ => ?_⟩
      refine lc_range (lo := 0) (n := n.toNat) (fun j H3 => Same H2 H3 ∧ H3 Z = some (.lst ((((rn n).take j).filter fun k => decide (k ∈ ends ps (i : Int)) && !decide (k = (i : Int))).map V.int))) ⟨same_new nZ _, upd_same⟩ ?_ ?_
      · intro j H3 hj ⟨s3, hZ⟩
        have e1 : (0 : Int) + (j : Int) = (j : Int) := Int.zero_add _
        have er := rn_get hj
        have fs := filt_snoc (fun k => decide (k ∈ ends ps (i : Int)) && !decide (k = (i : Int))) er
        have hD3 := s3 _ _ hD
        refine ⟨rfl, ?_⟩
        refine ⟨_, rfl, _, rfl, D, _, rfl, .inl (SqL.of hD3), rfl, flat_is _, _, rfl, ?_⟩
        rw [if_neg Bool.false_ne_true, in_ints, e1]
        have put : (decide ((j : Int) ∈ ends ps (i : Int)) && !decide ((j : Int) = (i : Int))) = true → ∃ acc, H3 Z = some (.lst acc) ∧ acc.length < sizeLine ∧ (Same H2 (L2.upd H3 Z (.lst (acc ++ [.int (j : Int)]))) ∧
            (L2.upd H3 Z (.lst (acc ++ [.int (j : Int)]))) Z = some (.lst ((((rn n).take (j + 1)).filter fun k => decide (k ∈ ends ps (i : Int)) && !decide (k = (i : Int))).map V.int))) := fun g => by
          refine ⟨_, hZ, small1000 ?_, fun o u ho => ?_, ?_⟩
          · rw [List.length_map]
            have := List.length_filter_le (fun k => decide (k ∈ ends ps (i : Int)) && !decide (k = (i : Int))) ((rn n).take j)
            rw [List.length_take] at this
            omega
          · rw [upd_ne (ne_of_none ho nZ)]
            exact s3 _ _ ho
          · rw [upd_same, fs, if_pos g, List.map_append]
            rfl
        have leave : (decide ((j : Int) ∈ ends ps (i : Int)) && !decide ((j : Int) = (i : Int))) = false → (Same H2 H3 ∧ H3 Z = some (.lst ((((rn n).take (j + 1)).filter fun k => decide (k ∈ ends ps (i : Int)) && !decide (k = (i : Int))).map V.int))) := fun g => by
          refine ⟨s3, ?_⟩
          rw [fs, if_neg (by rw [g]; exact Bool.false_ne_true), List.append_nil]
          exact hZ
        cases g : decide ((j : Int) ∈ ends ps (i : Int)) with
        | true =>
          rw [g] at put leave
          refine iteT ⟨_, rfl, _, rfl, rfl, _, rfl, ?_⟩
          rw [dec_vint, e0]
          cases g2 : decide ((j : Int) = (i : Int)) with
          | true =>
            rw [g2] at leave
            exact iteF (leave rfl)
          | false =>
            rw [g2] at put
            exact iteT ⟨_, rfl, put rfl⟩
        | false =>
          rw [g] at leave
          exact iteF (leave rfl)
      · intro H3 ⟨s3, hZ⟩
        rw [List.take_of_length_le (by rw [rn_len]; exact Nat.le_refl _)] at hZ
        refine ⟨Z, _, rfl, .inl ⟨SqL.of hZ, fun u nu => ?_⟩⟩
        have su := same_new nu (.tup (((rn n).filter fun k => decide (k ∈ ends ps (i : Int)) && !decide (k = (i : Int))).map V.int))
        have hu : (L2.upd H3 u (.tup (((rn n).filter fun k => decide (k ∈ ends ps (i : Int)) && !decide (k = (i : Int))).map V.int))) u = some (.tup (((rn n).filter fun k => decide (k ∈ ends ps (i : Int)) && !decide (k = (i : Int))).map V.int)) := upd_same
        generalize L2.upd H3 u (.tup (((rn n).filter fun k => decide (k ∈ ends ps (i : Int)) && !decide (k = (i : Int))).map V.int)) = H4 at *
        have s24 := s3.trans su
        have hR4 := s24 _ _ hR2
        refine ⟨R, us, _, rfl, rfl, hR4, small1000 (by omega), ?_⟩
        refine ⟨_, _, rfl, fun o v ho => ?_, us ++ [.ref u], upd_same, by rw [List.length_append, lu]; rfl, fun k hk => ?_⟩
        · rw [upd_ne (ne_of_none ho nR)]
          exact s24 _ _ (sm2 _ _ ho)
        · by_cases c : k < i
          · obtain ⟨a, ns, k1, k2, k3, k4⟩ := near k c
            refine ⟨a, ns, by rw [List.getElem?_append_left (by omega)]; exact k1, ?_, k3, k4⟩
            have k2' := s24 _ _ (s2 _ _ k2)
            rw [upd_ne (ne_of k2' hR4 (by intro z; cases z))]
            exact k2'
          · have ek : k = i := by omega
            subst ek
            refine ⟨u, (rn n).filter fun z => decide (z ∈ ends ps (k : Int)) && !decide (z = (k : Int)), by rw [List.getElem?_append_right (by omega), lu, Nat.sub_self]; rfl, ?_, ?_, fun y => ?_⟩
            · rw [upd_ne (ne_of hu hR4 (by intro z; cases z))]
              exact hu
            · have := List.length_filter_le (fun z => decide (z ∈ ends ps (k : Int)) && !decide (z = (k : Int))) (rn n)
              rw [rn_len] at this
              omega
            · rw [List.mem_filter, mem_rn, Bool.and_eq_true, decide_eq_true_eq, ends_mem, Bool.not_eq_true', decide_eq_false_iff_not]
  · intro σ H1 ⟨y2, y3, e, sm, nr⟩
    subst e
    exact ⟨_, rfl, q R H1 sm nr⟩
theorem ok_is_painting (T : Tx K mg) : FnOk P w K mg base CX0 4 T.f_is_painting T.d_is_painting ["web", "q", "thing"] (spIsGood T.C_Web) := by
  refine T.F_is_painting.ok sc_is_painting (fun vs H Q E h => ?_) (fun cdv A outer s H vs Q E hr h => ?_)
  · obtain ⟨x, a, n, i, ps, col, rfl, _⟩ := h
    rfl
  obtain ⟨x, a, n, i, ps, col, rfl, S, q⟩ := h
  obtain ⟨dx, t, hx, vs, htv, hv⟩ := S.w
  have ha : H a = some (.tup (col.map V.int)) := S.p
  have lc := S.G.l
  have n1 := S.G.n1
  have n2 := S.G.n2
  refine ⟨_, (pss_cons (ps_if (pt_not (pt_val (pe_call (ok_is_colours T) (hr.mono (by decide)) (by rfl) T.m_is_colours T.F_is_colours.kp T.b_is_colours .nil pass0 (pa_cons (pv 1) pa_nil))))
      (pss_one ps_never)
      pss_nil)
    (pss_cons (ps_if (PW.pt (pw_or (pt_not (pt_val (pe_callB call_isi (by rfl) T.g_isinstance (by decide +kernel) (pa_cons (pv 2) (pa_cons (pe_bltn (v := .ty "tuple") (by rfl) T.g_tuple (by decide +kernel) rfl) pa_nil))))) (pw_or1 (pt_cmpR op_ne (pe_callB call_len_seq (by rfl) T.g_len PySem.boot_len (pa_cons (pv 2) pa_nil)) (pe_fld (pv 0) rfl) (nomark _)))))
      (pss_one (ps_ret pe_bl))
      pss_nil)
    (pss_one (ps_ret (pe_callB (cr_all rfl) (by rfl) T.g_all (by decide +kernel) (pa_cons (pe_lc (own := [("colour", 3)]) (g := (gName 3)) (tt := tYes) (te := (tCall spBelow [] E0 (tCons (tVar 3) (tCons (tVar 1) tNil)))) rfl sc_is_painting.nd (pi_tup (pv 2)) (blkOk_by (own := [("colour", 3)]) (N := N_is_painting) (sc := defScope s_is_painting) (by decide +kernel)) (fun _ _ _ _ _ => (pg_name (i := 3) sc_is_painting.nd rfl (.inl rfl))) (fun _ _ _ _ _ => pts_nil) (fun _ _ _ _ _ => (pe_call (ok_is_below T) (hr.mono (by decide)) (by rfl) T.m_is_below T.F_is_below.kp T.b_is_below .nil pass0 (pa_cons (pv 3) (pa_cons (pv 1) pa_nil))))) pa_nil)))))), ?_⟩
  refine ⟨_, rfl, i, rfl, S.q1, S.q6, true, rfl, iteF ?_⟩
  refine ⟨_, rfl, _, _, _, _, _, rfl, .ty _, .base (.tup ha), kit_ty (by decide +kernel), true, rfl, ?_⟩
  refine iteF ?_
  refine ⟨_, rfl, a, _, rfl, .inr (SqT.of ha), _, rfl, x, T.C_Web, dx, _, _, rfl, hx, T.cl_Web, T.no_Web_many, wf_many n t, rfl, _, rfl, ?_⟩
  rw [show (((col.map V.int).length : Nat) : Int) = n by rw [List.length_map]; omega]
  refine iteNS rfl ?_
  refine ⟨_, rfl, a, rfl, ⟨_, SqT.of ha⟩, fun D nD => lc_tup (xs := col.map V.int) (fun i H' => Same H H' ∧ H' D = some (.lst ((List.replicate i true).map V.bl))) ⟨same_new nD _, upd_same⟩ (fun i H' _ ⟨sm, _⟩ => SqT.of (sm _ _ ha)) ?_ ?_⟩
  · intro j y H' hj ⟨sm, hD⟩
    obtain ⟨k, hk, ey⟩ := mint hj
    subst ey
    have lj := (List.getElem?_eq_some_iff.mp hk).1
    have r := S.G.r k (List.mem_of_getElem? hk)
    refine ⟨rfl, ?_⟩
    refine ⟨_, rfl, _, rfl, k, i, rfl, _, hD, small1000 ?_, fun o u ho => ?_, ?_⟩
    · rw [List.length_map, List.length_replicate]
      omega
    · rw [upd_ne (ne_of_none ho nD)]
      exact sm _ _ ho
    · rw [decide_eq_true r.1, decide_eq_true r.2, upd_same, List.replicate_succ', List.map_append]
      rfl
  · intro H1 ⟨sm, hD⟩
    refine ⟨D, _, rfl, SqL.of hD, ?_⟩
    have e2 : (List.replicate (col.map V.int).length true).all id = true := by
      rw [List.all_replicate]
      cases (col.map V.int).length <;> rfl
    rw [e2]
    exact q H1 sm
theorem ok_is_good (T : Tx K mg) : FnOk P w K mg base CX0 5 T.f_is_good T.d_is_good ["web", "q", "thing"] (spIsGood T.C_Web) := by
  refine T.F_is_good.ok sc_is_good (fun vs H Q E h => ?_) (fun cdv A outer s H vs Q E hr h => ?_)
  · obtain ⟨x, a, n, i, ps, col, rfl, _⟩ := h
    rfl
  obtain ⟨x, a, n, i, ps, col, rfl, S, q⟩ := h
  have lc := S.G.l
  have n1 := S.G.n1
  have l16 := S.l16
  refine ⟨_, (pss_one (ps_ret (pe_and (pe_call (ok_is_painting T) (hr.mono (by decide)) (by rfl) T.m_is_painting T.F_is_painting.kp T.b_is_painting .nil pass0 (pa_cons (pv 0) (pa_cons (pv 1) (pa_cons (pv 2) pa_nil)))) (pe_one (pe_callB (cr_all rfl) (by rfl) T.g_all (by decide +kernel) (pa_cons (pe_lc (own := [("u", 3), ("v", 4)]) (g := (gTup K 2 (gCons (gName 3) (gCons (gName 4) gNil)))) (tt := tYes) (te := (tOp _ (tOp (rIxT K) (tVar 2) (tVar 3)) (tOp (rIxT K) (tVar 2) (tVar 4)))) rfl sc_is_good.nd (pi_tup (pe_fld (pv 0) rfl)) (blkOk_by (own := [("u", 3), ("v", 4)]) (N := N_is_good) (sc := defScope s_is_good) (by decide +kernel)) (fun _ _ _ _ _ => (pg_tup rfl (pgs_cons (pg_name (i := 3) sc_is_good.nd rfl (.inl rfl)) (pgs_cons (pg_name (i := 4) sc_is_good.nd rfl (.inl rfl)) pgs_nil)))) (fun _ _ _ _ _ => pts_nil) (fun _ _ _ _ _ => (pe_cmpR op_ne (pe_ix ix_tup (pv 2) (pv 3) (fun _ _ => rfl)) (pe_ix ix_tup (pv 2) (pv 4) (fun _ _ => rfl)) (nomark _)))) pa_nil)))))), ?_⟩
  refine ⟨_, rfl, _, rfl, _, rfl, x, a, n, i, ps, col, rfl, S, fun H1 s1 => ⟨true, rfl, iteT ?_⟩⟩
  have S1 := S.same s1
  obtain ⟨dx, t, hx, vs, htv, hv⟩ := S1.w
  have ha : H1 a = some (.tup (col.map V.int)) := S1.p
  have lv := hv.len
  refine ⟨_, rfl, x, T.C_Web, dx, _, _, rfl, hx, T.cl_Web, T.no_Web_ties, wf_ties n t, t, rfl, ⟨_, SqT.of htv⟩, fun D nD => lc_tup (xs := vs) (fun i H' => Same H1 H' ∧ H' D = some (.lst ((List.replicate i true).map V.bl))) ⟨same_new nD _, upd_same⟩ (fun i H' _ ⟨sm, _⟩ => SqT.of (sm _ _ htv)) ?_ ?_⟩
  · intro j y H' hj ⟨sm, hD⟩
    obtain ⟨p, b, hp, ey, hb⟩ := (hv.same sm).get hj
    subst ey
    have hp' := List.mem_of_getElem? hp
    obtain ⟨o1, o2, o3⟩ := S.G.ok p hp'
    have g := S.G.g p hp'
    refine ⟨b, _, rfl, SqT.of hb, rfl, _, _, rfl, _, _, rfl, rfl, rfl, ?_⟩
    refine ⟨_, rfl, _, rfl, a, _, _, _, rfl, rfl, SqT.of (sm _ _ ha), ix_at o1 (by omega), _, rfl, _, rfl, a, _, _, _, rfl, rfl, SqT.of (sm _ _ ha), ix_at (by omega) (by omega), rfl, _, hD, small1000 ?_, fun o u ho => ?_, ?_⟩
    · rw [List.length_map, List.length_replicate]
      have := (List.getElem?_eq_some_iff.mp hj).1
      omega
    · rw [upd_ne (ne_of_none ho nD)]
      exact sm _ _ ho
    · rw [dec_vint, decide_eq_false g, upd_same, List.replicate_succ', List.map_append]
      rfl
  · intro H2 ⟨sm, hD⟩
    refine ⟨D, _, rfl, SqL.of hD, ?_⟩
    have e2 : (List.replicate vs.length true).all id = true := by
      rw [List.all_replicate]
      cases vs.length <;> rfl
    rw [e2]
    exact q H2 (s1.trans sm)
theorem ok_judge (T : Tx K mg) : FnOk P w K mg base CX0 6 T.f_judge T.d_judge ["web", "q", "painting", "place", "colour"] (spJudge T.C_Web) := by
  refine T.F_judge.ok sc_judge (fun vs H Q E h => ?_) (fun cdv A outer s H vs Q E hr h => ?_)
  · obtain ⟨x, a, n, i, k, c, ps, col, L, rfl, _⟩ := h
    rfl
  obtain ⟨x, a, n, i, k, c, ps, col, L, rfl, S, X, q⟩ := h
  have lc := S.G.l
  have n1 := S.G.n1
  refine ⟨_, (pss_cons (ps_if (pt_not (pt_val (pe_call (ok_is_few_colours T) (hr.mono (by decide)) (by rfl) T.m_is_few_colours T.F_is_few_colours.kp T.b_is_few_colours .nil pass0 (pa_cons (pv 1) pa_nil))))
      (pss_one ps_never)
      pss_nil)
    (pss_cons (ps_if (pt_not (pt_val (pe_call (ok_is_good T) (hr.mono (by decide)) (by rfl) T.m_is_good T.F_is_good.kp T.b_is_good .nil pass0 (pa_cons (pv 0) (pa_cons (pv 1) (pa_cons (pv 2) pa_nil))))))
      (pss_one ps_never)
      pss_nil)
    (pss_cons (ps_if (pt_not (pt_val (pe_call (ok_is_below T) (hr.mono (by decide)) (by rfl) T.m_is_below T.F_is_below.kp T.b_is_below .nil pass0 (pa_cons (pv 3) (pa_cons (pe_fld (pv 0) rfl) pa_nil)))))
      (pss_one ps_never)
      pss_nil)
    (pss_one (ps_if (PW.pt (pw_or (pt_not (pt_val (pe_call (ok_is_below T) (hr.mono (by decide)) (by rfl) T.m_is_below T.F_is_below.kp T.b_is_below .nil pass0 (pa_cons (pv 4) (pa_cons (pv 1) pa_nil))))) (pw_or1 (pt_cmpR op_eq (pv 4) (pe_ix ix_tup (pv 2) (pv 3) (fun _ _ => rfl)) (nomark _)))))
      (pss_one ps_never)
      pss_nil))))), ?_⟩
  refine ⟨_, rfl, i, rfl, S.q1, S.q6, true, rfl, iteF ?_⟩
  refine ⟨_, rfl, _, rfl, _, rfl, x, a, n, i, ps, col, rfl, S, fun H1 s1 => ⟨true, rfl, iteF ?_⟩⟩
  have S1 := S.same s1
  obtain ⟨dx, t, hx, vs, htv, hv⟩ := S1.w
  have ha : H1 a = some (.tup (col.map V.int)) := S1.p
  refine ⟨_, rfl, _, rfl, x, T.C_Web, dx, _, _, rfl, hx, T.cl_Web, T.no_Web_many, wf_many n t, k, n, rfl, _, rfl, ?_⟩
  rw [decide_eq_true X.x0, decide_eq_true X.x1]
  refine iteF ?_
  refine ⟨_, rfl, _, rfl, c, i, rfl, _, rfl, ?_⟩
  rw [decide_eq_true X.c0, decide_eq_true X.c1]
  refine iteF ?_
  refine ⟨_, rfl, _, rfl, _, rfl, a, _, _, _, rfl, rfl, SqT.of ha, ix_at X.x0 (by have := X.len; have := X.x1; omega), rfl, _, rfl, ?_⟩
  rw [dec_vint, decide_eq_false X.ne]
  exact iteF (q H1 s1)
theorem ok_chain_of (T : Tx K mg) : FnOk P w K mg base CX0 1 T.f_chain_of T.d_chain_of ["near", "painting", "place", "colour"] spChainOf := by
  refine T.F_chain_of.ok sc_chain_of (fun vs H Q E h => ?_) (fun cdv A outer s H vs Q E hr h => ?_)
  · obtain ⟨N, a, n, k, c, ps, col, rfl, _⟩ := h
    rfl
  obtain ⟨N, a, n, k, c, ps, col, rfl, nr, ha, lc, n2, ok, k0, k1, q⟩ := h
  have ha : H a = some (.tup (col.map V.int)) := ha
  have n1 : 1 ≤ n := by omega
  refine ⟨_, (pss_cons (ps_set (i := 4) sc_chain_of.nd rfl (.inl rfl) (pe_tup (pa_cons (pe_ix ix_tup (pv 1) (pv 2) (fun _ _ => rfl)) (pa_cons (pv 3) pa_nil))))
    (pss_cons (ps_set (i := 5) sc_chain_of.nd rfl (.inl rfl) (pe_lst (pa_cons (pv 2) pa_nil)))
    (pss_cons (ps_set (i := 6) sc_chain_of.nd rfl (.inl rfl) (pe_lst (pa_cons (pv 2) pa_nil)))
    (pss_cons (ps_while PassesOwn.never (pt_truth (pv 6) (by intro _; rfl))
      (pss_one (ps_for PassesOwn.never rfl (pi_tup (pe_ix ix_list (pv 0) (pe_bm0 PySem.F.plainAttrs_list PySem.F.slot_list_pop PySem.F.type_list_pop mt_pop (pv 6)) (fun _ _ => rfl))) (pg_name (i := 7) sc_chain_of.nd rfl (.inl rfl))
          (pss_one (ps_if (PW.pt (pw_and (pt_cmpR op_in_seq (pe_ix ix_tup (pv 1) (pv 7) (fun _ _ => rfl)) (pv 4) (by rfl)) (pw_and1 (pt_cmpR op_notIn_seq (pv 7) (pv 5) (by rfl)))))
              (pss_cons (ps_expr (pe_bm PySem.F.plainAttrs_list PySem.F.slot_list_append PySem.F.type_list_append mt_append (pv 5) (pa_cons (pv 7) pa_nil)))
                (pss_one (ps_expr (pe_bm PySem.F.plainAttrs_list PySem.F.slot_list_append PySem.F.type_list_append mt_append (pv 6) (pa_cons (pv 7) pa_nil)))))
              pss_nil)))))
    (pss_one (ps_ret (pe_callTy call_tuple_of (by rfl) T.g_tuple (by decide +kernel) (pa_cons (pe_callB cr_sortedI (by rfl) T.g_sorted (by decide +kernel) (pa_cons (pv 5) pa_nil)) pa_nil)))))))), ?_⟩
  refine ⟨_, rfl, _, rfl, a, _, _, _, rfl, rfl, SqT.of ha, ix_at k0 (by omega), _, rfl, (by show 2 ≤ sizeLine; decide), fun B nB => ?_⟩
  have sB := same_new nB (.tup [.int (ix col k), .int c])
  have hB : (L2.upd H B (.tup [.int (ix col k), .int c])) B = some (.tup [.int (ix col k), .int c]) := upd_same
  have nr := nr.same sB
  have ha := sB _ _ ha
  generalize L2.upd H B (.tup [.int (ix col k), .int c]) = H1 at *
  refine ⟨_, rfl, (by show 1 ≤ sizeLine; decide), fun D nD => ?_⟩
  have sD := same_new nD (.lst [.int k])
  have hD : (L2.upd H1 D (.lst [.int k])) D = some (.lst [.int k]) := upd_same
  refine ⟨_, rfl, (by show 1 ≤ sizeLine; decide), fun W nW => ?_⟩
  have sW := same_new nW (.lst [.int k])
  have hW : (L2.upd (L2.upd H1 D (.lst [.int k])) W (.lst [.int k])) W = some (.lst [.int k]) := upd_same
  have DW : D ≠ W := ne_of_none hD nW
  have nW1 : H1 W = none := sD.free nW
  have hD2 := sW _ _ hD
  have s12 := sD.trans sW
  generalize L2.upd (L2.upd H1 D (.lst [.int k])) W (.lst [.int k]) = H2 at *
  clear hD nW sD sW
  obtain ⟨us, hN, lus, near⟩ := nr
  refine ⟨fun m σ' H' => ∃ hs ws y7 y0, σ' = [some (.ref N), some (.ref a), some (.int k), some (.int c), some (.ref B), some (.ref D), some (.ref W), y7] ∧ Same H1 H' ∧ H' D = some (.lst (hs.map V.int)) ∧ H' W = some (.lst (ws.map V.int)) ∧ Hld n ps col k c hs ws y0 [] ∧ m = 2 * (n.toNat - hs.length) + ws.length,
    ⟨_, [k], [k], none, 0, rfl, s12, hD2, hW, Hld.begin ⟨k0, k1⟩, rfl⟩, ?_⟩
  intro m σ' H3 ⟨hs, ws, y7, y0, e, s3, hD, hW, hl, em⟩
  subst e
  refine ⟨_, rfl, _, .inl ⟨_, SqL.of hW, rfl⟩, ?_⟩
  rcases List.eq_nil_or_concat ws with ew | ⟨st, z, ew⟩
  · subst ew
    refine iteF ⟨_, rfl, D, hs, rfl, SqL.of hD, fun ms p hp hsrt np => ⟨p, _, rfl, .inl ⟨SqL.of upd_same, fun t nt => ?_⟩⟩⟩
    exact q t ms _ (sB.trans (s3.trans ((same_new np _).trans (same_new nt _)))) upd_same (hl.chain hp hsrt)
  · rw [List.concat_eq_append] at ew
    subst ew
    have ne : (!((st ++ [z]).map V.int).isEmpty) = true := by simp
    rw [ne]
    refine iteT ⟨_, fun _ _ z => z, ?_⟩
    have gl : ((st ++ [z]).map V.int)[((st ++ [z]).map V.int).length - 1]? = some (.int z) := by
      rw [List.map_append, List.length_append]
      show ((st.map V.int) ++ [V.int z])[(st.map V.int).length + 1 - 1]? = _
      rw [Nat.add_sub_cancel, List.getElem?_append_right (Nat.le_refl _), Nat.sub_self]
      rfl
    have dl : ((st ++ [z]).map V.int).dropLast = st.map V.int := by
      rw [List.map_append]
      exact List.dropLast_concat
    have hz : z ∈ hs := hl.sub z (List.mem_append.mpr (.inr (List.mem_singleton.mpr rfl)))
    have rz := hl.rg z hz
    refine ⟨_, rfl, _, rfl, .inl ⟨rfl, _, SqL.of hW⟩, W, _, .int z, rfl, rfl, hW, gl, ?_⟩
    rw [dl]
    have s4 : Same H1 (L2.upd H3 W (.lst (st.map V.int))) := fun o u ho => by
      rw [upd_ne (ne_of_none ho nW1)]
      exact s3 _ _ ho
    have hW4 : (L2.upd H3 W (.lst (st.map V.int))) W = some (.lst (st.map V.int)) := upd_same
    have hD4 : (L2.upd H3 W (.lst (st.map V.int))) D = some (.lst (hs.map V.int)) := by
      rw [upd_ne DW]
      exact hD
    generalize L2.upd H3 W (.lst (st.map V.int)) = H4 at *
    obtain ⟨b, ns, g1, g2, g3, g4⟩ := near z.toNat (by omega)
    have ez : ((z.toNat : Nat) : Int) = z := by omega
    rw [ez] at g4
    have gat : atI us z = some (.ref b) := by
      rw [← ez]
      exact atI_nat g1
    refine ⟨N, us, z, _, rfl, rfl, SqL.of (s4 _ _ hN), gat, b, rfl, ⟨_, SqT.of (s4 _ _ g2)⟩, ?_⟩
    have pop := hl.pop (todo := ns) fun w ad => (g4 w).mpr ⟨(ad.rng ok).2.1, ad, fun e => (ad.rng ok).2.2 e.symm⟩
    have lh := hl.len
    refine for_tup (xs := ns.map V.int) (fun i σ H' => ∃ hs' ws' y7, σ = [some (.ref N), some (.ref a), some (.int k), some (.int c), some (.ref B), some (.ref D), some (.ref W), y7] ∧ Same H1 H' ∧ H' D = some (.lst (hs'.map V.int)) ∧ H' W = some (.lst (ws'.map V.int)) ∧ Hld n ps col k c hs' ws' z (ns.drop i) ∧ z ∈ hs' ∧ 2 * (n.toNat - hs'.length) + ws'.length < m)
      ⟨hs, st, y7, rfl, s4, hD4, hW4, pop, hz, by rw [em, List.length_append]; show _ < 2 * (n.toNat - hs.length) + (st.length + 1); omega⟩ (fun i σ H' _ ⟨_, _, _, _, s5, _⟩ => SqT.of (s5 _ _ g2)) ?_ ?_
    · intro i v σ H5 hi ⟨hs', ws', y7, e, s5, hD, hW, hl', hz', lt⟩
      subst e
      obtain ⟨y, hy, ev⟩ := mint hi
      subst ev
      have ed : ns.drop i = y :: ns.drop (i + 1) := by
        obtain ⟨lk, ek⟩ := List.getElem?_eq_some_iff.mp hy
        rw [List.drop_eq_getElem_cons lk, ek]
      rw [ed] at hl'
      have yi := (g4 y).mp (List.mem_of_getElem? hy)
      have lh' := hl'.len
      have wl' := hl'.wl
      have hB5 := s5 _ _ hB
      have ha5 := s5 _ _ ha
      refine ⟨_, rfl, _, rfl, a, _, _, _, rfl, rfl, SqT.of ha5, ix_at yi.1.1 (by omega), _, rfl, B, _, rfl, .inr (SqT.of hB5), rfl, flat_is [ix col k, c], _, rfl, ?_⟩
      rw [if_neg Bool.false_ne_true, show inV (.int (ix col y)) [.int (ix col k), .int c] = decide (ix col y ∈ [ix col k, c]) from in_ints (gs := [ix col k, c])]
      by_cases i2 : ix col y ∈ [ix col k, c]
      · have i2' : In2 col (ix col k) c y := (List.mem_cons.mp i2).imp id fun m => List.mem_singleton.mp m
        rw [decide_eq_true i2]
        refine iteT ⟨_, rfl, _, rfl, D, _, rfl, .inl (SqL.of hD), rfl, flat_is _, _, rfl, ?_⟩
        rw [if_pos rfl, in_ints]
        by_cases hm : y ∈ hs'
        · rw [decide_eq_true hm]
          exact iteF ⟨hs', ws', _, rfl, s5, hD, hW, hl'.skip (fun _ => hm), hz', lt⟩
        · rw [decide_eq_false hm]
          have mo := hl'.more hz' yi.2.1 i2' hm yi.1
          have lm := mo.len
          rw [List.length_append] at lm
          have lm : hs'.length + 1 ≤ n.toNat := lm
          refine iteT ⟨_, rfl, .inl ⟨rfl, _, SqL.of hD⟩, _, rfl, D, _, _, rfl, rfl, hD, small1000 (by rw [List.length_map]; omega), ?_⟩
          have hW6 : (L2.upd H5 D (.lst (hs'.map V.int ++ [.int y]))) W = some (.lst (ws'.map V.int)) := by
            rw [upd_ne DW.symm]
            exact hW
          refine ⟨_, rfl, .inl ⟨rfl, _, SqL.of hW6⟩, _, rfl, W, _, _, rfl, rfl, hW6, small1000 (by rw [List.length_map]; omega), ?_⟩
          refine ⟨hs' ++ [y], ws' ++ [y], _, rfl, fun o u ho => ?_, ?_, ?_, mo, List.mem_append.mpr (.inl hz'), ?_⟩
          · rw [upd_ne (ne_of_none ho nW1), upd_ne (ne_of_none ho nD)]
            exact s5 _ _ ho
          · rw [upd_ne DW, upd_same, List.map_append]
            rfl
          · rw [upd_same, List.map_append]
            rfl
          · rw [List.length_append, List.length_append]
            show 2 * (n.toNat - (hs'.length + 1)) + (ws'.length + 1) < m
            omega
      · have i2' : ¬ In2 col (ix col k) c y := fun z => i2 (z.elim (fun e => by rw [e]; exact List.mem_cons_self) fun e => by rw [e]; exact List.mem_cons_of_mem _ List.mem_cons_self)
        rw [decide_eq_false i2]
        exact iteF ⟨hs', ws', _, rfl, s5, hD, hW, hl'.skip (fun z => absurd z i2'), hz', lt⟩
    · intro σ H5 ⟨hs', ws', y7, e, s5, hD, hW, hl', hz', lt⟩
      subst e
      rw [List.length_map, List.drop_length] at hl'
      exact ⟨_, lt, hs', ws', y7, z, rfl, s5, hD, hW, hl', rfl⟩
theorem ok_changed (T : Tx K mg) : FnOk P w K mg base CX0 1 T.f_changed T.d_changed ["painting", "places", "both"] spChanged := by
  refine T.F_changed.ok sc_changed (fun vs H Q E h => ?_) (fun cdv A outer s H vs Q E hr h => ?_)
  · obtain ⟨a, t, i, col, L, rfl, _⟩ := h
    rfl
  obtain ⟨a, t, i, col, L, rfl, ha, ht, lc, rg, q⟩ := h
  have ha : H a = some (.tup (col.map V.int)) := ha
  have ht : H t = some (.tup (L.map V.int)) := ht
  refine ⟨_, (pss_cons (ps_set (i := 3) sc_changed.nd rfl (.inl rfl) (pe_callTy call_list_of (by rfl) T.g_list (by decide +kernel) (pa_cons (pv 0) pa_nil)))
    (pss_cons (ps_for PassesOwn.never rfl (pi_tup (pv 1)) (pg_name (i := 4) sc_changed.nd rfl (.inl rfl))
      (pss_one (ps_asg (pe_op op_sub (pv 2) (pe_ix ix_tup (pv 0) (pv 4) (fun _ _ => rfl))) (pg_sub (pv 3) (pv 4) set_list))))
    (pss_one (ps_ret (pe_callTy call_tuple_of (by rfl) T.g_tuple (by decide +kernel) (pa_cons (pv 3) pa_nil)))))), ?_⟩
  refine ⟨_, rfl, a, _, rfl, .inr (SqT.of ha), fun C nC => ?_⟩
  have sC := same_new nC (.lst (col.map V.int))
  have hC : (L2.upd H C (.lst (col.map V.int))) C = some (.lst (col.map V.int)) := upd_same
  generalize L2.upd H C (.lst (col.map V.int)) = H1 at *
  refine ⟨_, rfl, t, rfl, ⟨_, SqT.of (sC _ _ ht)⟩, for_tup (xs := L.map V.int) (fun j σ H' => ∃ y4, σ = [some (.ref a), some (.ref t), some (.int i), some (.ref C), y4] ∧ Same H H' ∧ H' C = some (.lst ((sw col (L.take j) i).map V.int)))
    ⟨none, rfl, sC, by rw [List.take_zero, sw_nil]; exact hC⟩ (fun j σ H' _ ⟨_, _, sm, _⟩ => SqT.of (sm _ _ ht)) ?_ ?_⟩
  · intro j v σ H' hj ⟨y4, e, sm, hC⟩
    subst e
    obtain ⟨z, hz, ev⟩ := mint hj
    subst ev
    have r := rg z (List.mem_of_getElem? hz)
    refine ⟨_, rfl, _, rfl, _, rfl, a, _, _, _, rfl, rfl, SqT.of (sm _ _ ha), ix_at r.1 r.2, _, _, rfl, rfl, _, rfl, _, rfl, C, _, z, z.toNat, rfl, rfl, hC, ixN_of r.1 (by rw [List.length_map, sw_len]; omega), ?_⟩
    refine ⟨_, rfl, fun o u ho => ?_, ?_⟩
    · rw [upd_ne (ne_of_none ho nC)]
      exact sm _ _ ho
    · rw [upd_same, take_snoc hz, ← sw_set r.1 r.2, List.map_set]
  · intro σ H' ⟨y4, e, sm, hC⟩
    subst e
    rw [List.length_map, List.take_of_length_le (Nat.le_refl _)] at hC
    refine ⟨_, rfl, C, _, rfl, .inl ⟨SqL.of hC, fun u nu => ?_⟩⟩
    exact q u _ (sm.trans (same_new nu _)) upd_same
theorem ok_exchange_of (T : Tx K mg) : FnOk P w K mg base CX0 2 T.f_exchange_of T.d_exchange_of ["near", "painting", "place", "colour"] spExchangeOf := by
  refine T.F_exchange_of.ok sc_exchange_of (fun vs H Q E h => ?_) (fun cdv A outer s H vs Q E hr h => ?_)
  · obtain ⟨N, a, n, k, c, ps, col, rfl, _⟩ := h
    rfl
  obtain ⟨N, a, n, k, c, ps, col, rfl, nr, ha, lc, n2, ok, k0, k1, q⟩ := h
  refine ⟨_, (pss_one (ps_ret (pe_call (ok_changed T) (hr.mono (by decide)) (by rfl) T.m_changed T.F_changed.kp T.b_changed .nil pass0 (pa_cons (pv 1) (pa_cons (pe_call (ok_chain_of T) (hr.mono (by decide)) (by rfl) T.m_chain_of T.F_chain_of.kp T.b_chain_of .nil pass0 (pa_cons (pv 0) (pa_cons (pv 1) (pa_cons (pv 2) (pa_cons (pv 3) pa_nil))))) (pa_cons (pe_op op_add (pe_ix ix_tup (pv 1) (pv 2) (fun _ _ => rfl)) (pv 3)) pa_nil)))))), ?_⟩
  refine ⟨_, rfl, _, rfl, _, rfl, _, rfl, _, rfl, N, a, n, k, c, ps, col, rfl, nr, ha, lc, n2, ok, k0, k1, fun t L H1 s1 ht ch => ?_⟩
  have ha1 : H1 a = some (.tup (col.map V.int)) := s1 _ _ ha
  refine ⟨_, rfl, _, rfl, a, _, _, _, rfl, rfl, SqT.of ha1, ix_at k0 (by omega), _, rfl, _, _, rfl, rfl, a, t, _, col, L, rfl, ha1, ht, by omega, fun z hz => ?_, fun u H2 s2 hu => q u L H2 (s1.trans s2) ch hu⟩
  have r := Rc.rng ok ⟨k0, k1⟩ ((ch.2 z).mp hz)
  omega
theorem ok_chain (T : Tx K mg) : FnOk P w K mg base CX0 7 T.f_chain T.d_chain ["web", "q", "painting", "place", "colour"] (spChain T.C_Web) := by
  refine T.F_chain.ok sc_chain (fun vs H Q E h => ?_) (fun cdv A outer s H vs Q E hr h => ?_)
  · obtain ⟨x, a, n, i, k, c, ps, col, L, rfl, _⟩ := h
    rfl
  obtain ⟨x, a, n, i, k, c, ps, col, L, rfl, S, X, q⟩ := h
  refine ⟨_, (pss_cons (ps_expr (pe_call (ok_judge T) (hr.mono (by decide)) (by rfl) T.m_judge T.F_judge.kp T.b_judge .nil pass0 (pa_cons (pv 0) (pa_cons (pv 1) (pa_cons (pv 2) (pa_cons (pv 3) (pa_cons (pv 4) pa_nil)))))))
    (pss_one (ps_ret (pe_call (ok_chain_of T) (hr.mono (by decide)) (by rfl) T.m_chain_of T.F_chain_of.kp T.b_chain_of .nil pass0 (pa_cons (pe_call (ok_neighbours T) (hr.mono (by decide)) (by rfl) T.m_neighbours T.F_neighbours.kp T.b_neighbours .nil pass0 (pa_cons (pv 0) pa_nil)) (pa_cons (pv 2) (pa_cons (pv 3) (pa_cons (pv 4) pa_nil)))))))), ?_⟩
  refine ⟨_, rfl, _, rfl, _, rfl, _, rfl, _, rfl, x, a, n, i, k, c, ps, col, L, rfl, S, X, fun H1 s1 => ?_⟩
  have S1 := S.same s1
  refine ⟨_, rfl, x, n, ps, rfl, S1.w, S.G.n1, S.G.n2, S.l16, fun N H2 s2 nr => ?_⟩
  refine ⟨_, rfl, _, rfl, _, rfl, N, a, n, k, c, ps, col, rfl, nr, S1.p.same s2, S.G.l, S.G.n2, S.G.ok, X.x0, X.x1, fun t L' H3 s3 ht ch => ?_⟩
  rw [← X.ch.one ch] at ht
  exact q t H3 (s1.trans (s2.trans s3)) ht
theorem ok_exchanged (T : Tx K mg) : FnOk P w K mg base CX0 7 T.f_exchanged T.d_exchanged ["web", "q", "painting", "place", "colour"] (spExchanged T.C_Web) := by
  refine T.F_exchanged.ok sc_exchanged (fun vs H Q E h => ?_) (fun cdv A outer s H vs Q E hr h => ?_)
  · obtain ⟨x, a, n, i, k, c, ps, col, L, rfl, _⟩ := h
    rfl
  obtain ⟨x, a, n, i, k, c, ps, col, L, rfl, S, X, q⟩ := h
  refine ⟨_, (pss_cons (ps_expr (pe_call (ok_judge T) (hr.mono (by decide)) (by rfl) T.m_judge T.F_judge.kp T.b_judge .nil pass0 (pa_cons (pv 0) (pa_cons (pv 1) (pa_cons (pv 2) (pa_cons (pv 3) (pa_cons (pv 4) pa_nil)))))))
    (pss_one (ps_ret (pe_call (ok_exchange_of T) (hr.mono (by decide)) (by rfl) T.m_exchange_of T.F_exchange_of.kp T.b_exchange_of .nil pass0 (pa_cons (pe_call (ok_neighbours T) (hr.mono (by decide)) (by rfl) T.m_neighbours T.F_neighbours.kp T.b_neighbours .nil pass0 (pa_cons (pv 0) pa_nil)) (pa_cons (pv 2) (pa_cons (pv 3) (pa_cons (pv 4) pa_nil)))))))), ?_⟩
  refine ⟨_, rfl, _, rfl, _, rfl, _, rfl, _, rfl, x, a, n, i, k, c, ps, col, L, rfl, S, X, fun H1 s1 => ?_⟩
  have S1 := S.same s1
  refine ⟨_, rfl, x, n, ps, rfl, S1.w, S.G.n1, S.G.n2, S.l16, fun N H2 s2 nr => ?_⟩
  refine ⟨_, rfl, _, rfl, _, rfl, N, a, n, k, c, ps, col, rfl, nr, S1.p.same s2, S.G.l, S.G.n2, S.G.ok, X.x0, X.x1, fun t L' H3 s3 ch ht => ?_⟩
  rw [← X.ch.one ch] at ht
  exact q t H3 (s1.trans (s2.trans s3)) ht
end
end K45
set_option Elab.async false
set_option linter.all false
set_option maxRecDepth 100000
set_option maxHeartbeats 4000000
/-! Paintings and ties drawn. -/
namespace K45
open PySem L2 Rl
def PrOk (H : Hp) (G : Int × Int → Prop) (v : V) : Prop := ∃ (a : Addr) (p : Int × Int), v = .ref a ∧ H a = some (.tup [.int p.1, .int p.2]) ∧ G p
def AllOk (H : Hp) (G : Int × Int → Prop) (vs : List V) : Prop := ∀ v ∈ vs, PrOk H G v
theorem PrOk.mono {H H' : Hp} {G : Int × Int → Prop} {v : V} (e : ∀ a x y, H a = some (.tup [x, y]) → H' a = some (.tup [x, y])) (h : PrOk H G v) : PrOk H' G v := by
  obtain ⟨a, p, ev, ha, hp⟩ := h
  exact ⟨a, p, ev, e _ _ _ ha, hp⟩
theorem AllOk.mono {H H' : Hp} {G : Int × Int → Prop} {vs : List V} (e : ∀ a x y, H a = some (.tup [x, y]) → H' a = some (.tup [x, y])) (h : AllOk H G vs) : AllOk H' G vs := fun v hv => (h v hv).mono e
theorem tup_same {H H' : Hp} (s : Same H H') : ∀ a x y, H a = some (.tup [x, y]) → H' a = some (.tup [x, y]) := fun _ _ _ h => s _ _ h
theorem tup_kp {H H' : Hp} {h c : Addr} (hd : HandAt H h c) (k : Kp h H H') : ∀ a x y, H a = some (.tup [x, y]) → H' a = some (.tup [x, y]) := fun a x y q => by
  obtain ⟨cs, i, b, m, n, h1, _⟩ := hd.ex
  exact k _ _ (ne_of q h1 (by intro z; cases z)) q
theorem tup_upd {H : Hp} {D : Addr} {l : List V} {o : HO} (hD : H D = some (.lst l)) : ∀ a x y, H a = some (.tup [x, y]) → (upd H D o) a = some (.tup [x, y]) := fun a x y q => by
  rw [upd_ne (ne_of q hD (by intro z; cases z))]
  exact q
theorem AllOk.nil {H : Hp} {G : Int × Int → Prop} : AllOk H G [] := fun _ h => nomatch h
theorem AllOk.app {H : Hp} {G : Int × Int → Prop} {vs ws : List V} (a : AllOk H G vs) (b : AllOk H G ws) : AllOk H G (vs ++ ws) := fun v h => (List.mem_append.mp h).elim (a v) (b v)
theorem AllOk.one {H : Hp} {G : Int × Int → Prop} {v : V} (a : PrOk H G v) : AllOk H G [v] := fun x h => by
  rw [List.mem_singleton.mp h]
  exact a
theorem AllOk.prs {H : Hp} {G : Int × Int → Prop} : ∀ {vs : List V}, AllOk H G vs → ∃ ps, PrsAt H vs ps ∧ ∀ p ∈ ps, G p
  | [], _ => ⟨[], .nil, fun _ h => nomatch h⟩
  | v :: r, h => by
    obtain ⟨ps, h1, h2⟩ := AllOk.prs (vs := r) fun x hx => h x (List.mem_cons_of_mem _ hx)
    obtain ⟨a, p, ev, ha, hp⟩ := h v List.mem_cons_self
    exact ⟨p :: ps, .cons ⟨a, ev, ha⟩ h1, fun q hq => (List.mem_cons.mp hq).elim (fun e => e ▸ hp) (h2 q)⟩
theorem HandAt.upd {H : Hp} {h c D : Addr} {o : HO} (hd : HandAt H h c) (nh : D ≠ h) (nc : D ≠ c) : HandAt (upd H D o) h c := by
  obtain ⟨cs, i, b, m, n, h1, h2, h3⟩ := hd.ex
  exact ⟨cs, i, b, m, n, by rw [upd_ne nh.symm]; exact h1, by rw [upd_ne nc.symm]; exact h2, h3⟩
theorem Kp.mut {h D : Addr} {H H' : Hp} {o : HO} (k : Kp h H H') (nD : H D = none) : Kp h H (L2.upd H' D o) := fun b u nb hb => by
  rw [upd_ne (ne_of_none hb nD)]
  exact k _ _ nb hb
theorem HandAt.ne {H : Hp} {h c D : Addr} (hd : HandAt H h c) (nD : H D = none) : D ≠ h ∧ D ≠ c := by
  obtain ⟨cs, i, b, m, n, h1, h2, _⟩ := hd.ex
  exact ⟨(ne_of_none h1 nD).symm, (ne_of_none h2 nD).symm⟩
theorem Kp.none {h c D : Addr} {H H' : Hp} (k : Kp h H H') (hd : HandAt H' h c) (nD : H' D = none) : H D = none := by
  cases e : H D with
  | none => rfl
  | some o =>
    rw [k _ _ (hd.ne nD).1 e] at nD
    cases nD
theorem HandAt.lst {H : Hp} {h c : Addr} (hd : HandAt H h c) : ∃ l, H h = some (.lst l) := by
  obtain ⟨cs, i, b, m, n, h1, _⟩ := hd.ex
  exact ⟨_, h1⟩
theorem HandAt.tne {H : Hp} {h c a : Addr} {xs : List V} (hd : HandAt H h c) (ha : H a = some (.tup xs)) : a ≠ h := by
  obtain ⟨l, hl⟩ := hd.lst
  exact ne_of ha hl (by intro z; cases z)
theorem TiesAt.kp {H H' : Hp} {h c t : Addr} {ps : List (Int × Int)} (hd : HandAt H h c) (k : Kp h H H') (a : TiesAt H t ps) : TiesAt H' t ps := by
  obtain ⟨vs, h1, h2⟩ := a
  exact ⟨vs, k _ _ (hd.tne h1) h1, h2.mono (tup_kp hd k)⟩
theorem PtAt.kp {H H' : Hp} {h c a : Addr} {col : List Int} (hd : HandAt H h c) (k : Kp h H H') (p : PtAt H a col) : PtAt H' a col := k _ _ (hd.tne p) p
theorem seq_nat {j m : Nat} (h : j < m) : seqIndex? (j : Int) m = some j := by
  unfold seqIndex?
  have e : (if ((j : Int)) < 0 then (j : Int) + (m : Int) else (j : Int)) = (j : Int) := if_neg (by omega)
  simp only [e]
  rw [decide_eq_true (show (0 : Int) ≤ (j : Int) by omega), decide_eq_true (show (j : Int) < (m : Int) by omega)]
  rfl
theorem perm_ints {ys : List V} {l : List Int} (h : ys.Perm (l.map V.int)) : ∃ os : List Int, ys = os.map V.int ∧ os.Perm l := by
  let f : V → Int := fun v => match v with | .int k => k | _ => 0
  refine ⟨ys.map f, ?_, ?_⟩
  · rw [List.map_map]
    conv => lhs; rw [← List.map_id ys]
    refine List.map_congr_left fun v hv => ?_
    obtain ⟨k, _, e⟩ := List.mem_map.mp (h.mem_iff.mp hv)
    subst e
    rfl
  · have := h.map f
    rw [List.map_map] at this
    have e : (f ∘ V.int) = id := rfl
    rw [e, List.map_id] at this
    exact this
theorem erase_perm {α : Type} : ∀ {l : List α} {j : Nat} (h : j < l.length), (l[j] :: l.eraseIdx j).Perm l
  | a :: r, 0, _ => .refl _
  | a :: r, j + 1, h => by
    have ih := erase_perm (l := r) (j := j) (Nat.lt_of_succ_lt_succ h)
    show ((r[j]'(Nat.lt_of_succ_lt_succ h)) :: a :: r.eraseIdx j).Perm (a :: r)
    exact (List.Perm.swap a (r[j]'(Nat.lt_of_succ_lt_succ h)) (r.eraseIdx j)).trans (.cons a ih)
def spMixed : Sp := fun vs H Q _ => ∃ (h c L : Addr) (xs : List V), vs = [.ref h, .ref L] ∧ HandAt H h c ∧ H L = some (.lst xs) ∧ L ≠ h ∧ xs.length < 1000 ∧
  ∀ R ys H', Kp h H H' → HandAt H' h c → H R = none → H' R = some (.lst ys) → ys.Perm xs → Q (.ref R) H'
def GoodP (n : Int) (col : List Int) (p : Int × Int) : Prop := okS n p ∧ ix col p.1 ≠ ix col p.2
def spPlanted : Sp := fun vs H Q _ => ∃ (h c : Addr) (q n m : Int), vs = [.ref h, .int q, .int n, .int m] ∧ HandAt H h c ∧ 1 ≤ q ∧ q ≤ 6 ∧ 1 ≤ n ∧ n ≤ 10 ∧ 0 ≤ m ∧ m ≤ 16 ∧
  ∀ y t a ps col H', Kp h H H' → HandAt H' h c → H' y = some (.tup [.ref t, .ref a]) → TiesAt H' t ps → PtAt H' a col → ps.length ≤ 16 → Good n q ps col → Q (.ref y) H'
def spLong : Sp := fun vs H Q _ => ∃ (h c : Addr), vs = [.ref h] ∧ HandAt H h c ∧
  ∀ y t a n q ps col H', Kp h H H' → HandAt H' h c → H' y = some (.tup [.int q, .int n, .ref t, .ref a]) → TiesAt H' t ps → PtAt H' a col → ps.length ≤ 16 → 1 ≤ q → q ≤ 6 → Good n q ps col → Q (.ref y) H'
theorem mxn {a b : Int} : (mn a b = a ∧ mx a b = b) ∨ (mn a b = b ∧ mx a b = a) := by
  unfold mn mx
  split <;> split <;> omega
theorem goodP_mn {n a b : Int} {col : List Int} (a0 : 0 ≤ a) (a1 : a < n) (b0 : 0 ≤ b) (b1 : b < n) (h : ix col a ≠ ix col b) : GoodP n col (mn a b, mx a b) := by
  have ne : a ≠ b := fun e => h (by rw [e])
  refine ⟨?_, ?_⟩
  · unfold okS mn mx
    dsimp only
    split <;> split <;> omega
  · show ix col (mn a b) ≠ ix col (mx a b)
    rcases mxn (a := a) (b := b) with ⟨e1, e2⟩ | ⟨e1, e2⟩
    · rw [e1, e2]
      exact h
    · rw [e1, e2]
      exact fun e => h e.symm
section
variable {P : Program} {w : World} {K : PySem.W.Frag} {mg : Str → Option Value} {base : Heap}
theorem ok_l_mixed (T : Tx K mg) : FnOk P w K mg base CX0 2 T.f_l_mixed T.d_l_mixed ["hand", "things"] spMixed := by
  refine T.F_l_mixed.ok sc_l_mixed (fun vs H Q E h => ?_) (fun cdv A outer s H vs Q E hr h => ?_)
  · obtain ⟨h, c, L, xs, rfl, _⟩ := h
    rfl
  obtain ⟨h, c, L, xs, rfl, hd, hL, Lh, lx, q⟩ := h
  refine ⟨_, (pss_cons (ps_par (i := 2) (j := 3) rfl sc_l_mixed.nd rfl rfl (by decide) rfl rfl (pa_cons (pe_callTy call_list_of (by rfl) T.g_list (by decide +kernel) (pa_cons (pv 1) pa_nil)) (pa_cons (pe_lst pa_nil) pa_nil)) (by rfl))
    (pss_cons (ps_for PassesOwn.never rfl (pi_range1 (by rfl) T.g_range (pa_cons (pe_callB call_len_seq (by rfl) T.g_len PySem.boot_len (pa_cons (pv 1) pa_nil)) pa_nil)) (pg_name (i := 4) sc_l_mixed.nd rfl (.inl rfl))
      (pss_one (ps_expr (pe_bm PySem.F.plainAttrs_list PySem.F.slot_list_append PySem.F.type_list_append mt_append (pv 3) (pa_cons (pe_bm PySem.F.plainAttrs_list PySem.F.slot_list_pop PySem.F.type_list_pop mt_popAt (pv 2) (pa_cons (pe_call (ok_l_draw T) (hr.mono (by decide)) (by rfl) T.m_l_draw T.F_l_draw.kp T.b_l_draw .nil pass0 (pa_cons (pv 0) (pa_cons (pe_callB call_len_seq (by rfl) T.g_len PySem.boot_len (pa_cons (pv 2) pa_nil)) pa_nil))) pa_nil)) pa_nil)))))
    (pss_one (ps_ret (pv 3))))), ?_⟩
  refine ⟨_, rfl, L, xs, rfl, .inl (SqL.of hL), fun A nA => ⟨(by show 0 ≤ sizeLine; decide), fun F nF => ⟨_, _, rfl, ?_⟩⟩⟩
  have s1 : Same H (L2.upd H A (.lst xs)) := same_new nA _
  have hA1 : (L2.upd H A (.lst xs)) A = some (.lst xs) := upd_same
  have Ah := hd.ne nA
  have nHF : H F = none := s1.free nF
  have Fh := hd.ne nHF
  have AF : A ≠ F := ne_of_none hA1 nF
  have s2 := s1.trans (same_new nF (.lst []))
  have hA2 := same_new nF (.lst []) _ _ hA1
  have hF2 : (L2.upd (L2.upd H A (.lst xs)) F (.lst [])) F = some (.lst []) := upd_same
  generalize L2.upd (L2.upd H A (.lst xs)) F (.lst []) = H2 at *
  refine ⟨_, rfl, L, xs, rfl, .inl (SqL.of (s2 _ _ hL)), _, rfl, by omega, by omega, ?_⟩
  refine for_range (lo := 0) (n := (((xs.length : Nat) : Int)).toNat) (fun i σ H' => ∃ ls fs y4, σ = [some (.ref h), some (.ref L), some (.ref A), some (.ref F), y4] ∧ Kp h H H' ∧ HandAt H' h c ∧ H' A = some (.lst ls) ∧ H' F = some (.lst fs) ∧ (fs ++ ls).Perm xs ∧ fs.length = i)
    ⟨xs, [], none, rfl, Same.kp s2, hd.same s2, hA2, hF2, .refl _, rfl⟩ ?_ ?_
  · intro i σ H' hi ⟨ls, fs, y4, e, kk, hd', hA, hF, pe, lf⟩
    subst e
    have ll : fs.length + ls.length = xs.length := by
      have := pe.length_eq
      rw [List.length_append] at this
      exact this
    refine ⟨_, rfl, .inl ⟨rfl, _, SqL.of hF⟩, _, rfl, .inl ⟨rfl, _, SqL.of hA⟩, _, rfl, _, rfl, A, _, rfl, .inl (SqL.of hA), h, c, _, rfl, by omega, by omega, hd', fun d H3 d0 d1 k3 hd3 => ?_⟩
    obtain ⟨j, rfl⟩ := Int.eq_ofNat_of_zero_le d0
    have lj : j < ls.length := by omega
    have hA3 := k3 _ _ Ah.1 hA
    have hF3 := k3 _ _ Fh.1 hF
    refine ⟨A, ls, _, j, ls[j], rfl, rfl, hA3, by omega, by omega, seq_nat lj, List.getElem?_eq_getElem lj, F, fs, _, rfl, rfl, ?_, small1000 (by omega), ?_⟩
    · rw [upd_ne AF.symm]
      exact hF3
    · refine ⟨ls.eraseIdx j, fs ++ [ls[j]], _, rfl, ((kk.trans k3).mut nA).mut nHF, (hd3.upd Ah.1 Ah.2).upd Fh.1 Fh.2, ?_, upd_same, ?_, by rw [List.length_append, lf]; rfl⟩
      · rw [upd_ne AF]
        exact upd_same
      · refine .trans ?_ pe
        rw [List.append_assoc]
        exact .append_left fs (erase_perm lj)
  · intro σ H' ⟨ls, fs, y4, e, kk, hd', hA, hF, pe, lf⟩
    subst e
    have ll : fs.length + ls.length = xs.length := by
      have := pe.length_eq
      rw [List.length_append] at this
      exact this
    have el : ls = [] := List.eq_nil_of_length_eq_zero (by omega)
    subst el
    rw [List.append_nil] at pe
    exact ⟨_, rfl, q F fs H' kk hd' nHF hF pe⟩
theorem ok_l_planted (T : Tx K mg) : FnOk P w K mg base CX0 3 T.f_l_planted T.d_l_planted ["hand", "q", "many", "most"] spPlanted := by
  refine T.F_l_planted.ok sc_l_planted (fun vs H Q E h => ?_) (fun cdv A outer s H vs Q E hr h => ?_)
  · obtain ⟨h, c, i, n, m, rfl, _⟩ := h
    rfl
  obtain ⟨h, c, i, n, m, rfl, hd, q1, q6, n1, n2, m0, m1, q⟩ := h
  refine ⟨_, (pss_cons (ps_par (i := 4) (j := 5) rfl sc_l_planted.nd rfl rfl (by decide) rfl rfl (pa_cons (pe_callTy call_tuple_of (by rfl) T.g_tuple (by decide +kernel) (pa_cons (pe_lc (own := [("place", 9)]) (g := (gName 9)) (tt := tYes) (te := (tCall spDraw [] E0 (tCons (tVar 0) (tCons (tVar 1) tNil)))) rfl sc_l_planted.nd (pi_range1 (by rfl) T.g_range (pa_cons (pv 2) pa_nil)) (blkOk_by (own := [("place", 9)]) (N := N_l_planted) (sc := defScope s_l_planted) (by decide +kernel)) (fun _ _ _ _ _ => (pg_name (i := 9) sc_l_planted.nd rfl (.inl rfl))) (fun _ _ _ _ _ => pts_nil) (fun _ _ _ _ _ => (pe_call (ok_l_draw T) (hr.mono (by decide)) (by rfl) T.m_l_draw T.F_l_draw.kp T.b_l_draw .nil pass0 (pa_cons (pv 0) (pa_cons (pv 1) pa_nil))))) pa_nil)) (pa_cons (pe_lst pa_nil) pa_nil)) (by rfl))
    (pss_cons (ps_for PassesOwn.never rfl (pi_range1 (by rfl) T.g_range (pa_cons (pe_call (ok_l_draw T) (hr.mono (by decide)) (by rfl) T.m_l_draw T.F_l_draw.kp T.b_l_draw .nil pass0 (pa_cons (pv 0) (pa_cons (pe_op op_add (pv 3) pe_int) pa_nil))) pa_nil)) (pg_name (i := 6) sc_l_planted.nd rfl (.inl rfl))
      (pss_cons (ps_par (i := 7) (j := 8) rfl sc_l_planted.nd rfl rfl (by decide) rfl rfl (pa_cons (pe_call (ok_l_draw T) (hr.mono (by decide)) (by rfl) T.m_l_draw T.F_l_draw.kp T.b_l_draw .nil pass0 (pa_cons (pv 0) (pa_cons (pv 2) pa_nil))) (pa_cons (pe_call (ok_l_draw T) (hr.mono (by decide)) (by rfl) T.m_l_draw T.F_l_draw.kp T.b_l_draw .nil pass0 (pa_cons (pv 0) (pa_cons (pv 2) pa_nil))) pa_nil)) (by rfl))
        (Evl.pss_cut (ps_if (pt_cmpR op_ne (pe_ix ix_tup (pv 4) (pv 7) (fun _ _ => rfl)) (pe_ix ix_tup (pv 4) (pv 8) (fun _ _ => rfl)) (nomark _))
          (pss_one (ps_expr (pe_bm PySem.F.plainAttrs_list PySem.F.slot_list_append PySem.F.type_list_append mt_append (pv 5) (pa_cons (pe_tup (pa_cons (pe_callB (call_min2 rfl) (by rfl) T.g_min (by decide +kernel) (pa_cons (pv 7) (pa_cons (pv 8) pa_nil))) (pa_cons (pe_callB (call_max2 rfl) (by rfl) T.g_max (by decide +kernel) (pa_cons (pv 7) (pa_cons (pv 8) pa_nil))) pa_nil))) pa_nil))))
          pss_nil)
        (pss_one (ps_if (PW.pt (pw_and (pt_cmpR op_gt (pe_callB call_len_seq (by rfl) T.g_len PySem.boot_len (pa_cons (pv 5) pa_nil)) pe_int (nomark _)) (pw_and (pt_cmpR op_lt (pe_callB call_len_seq (by rfl) T.g_len PySem.boot_len (pa_cons (pv 5) pa_nil)) (pv 3) (nomark _)) (pw_and1 (pt_cmpR op_eq (pe_call (ok_l_draw T) (hr.mono (by decide)) (by rfl) T.m_l_draw T.F_l_draw.kp T.b_l_draw .nil pass0 (pa_cons (pv 0) (pa_cons pe_int pa_nil))) pe_int (nomark _))))))
          (pss_one (ps_expr (pe_bm PySem.F.plainAttrs_list PySem.F.slot_list_append PySem.F.type_list_append mt_append (pv 5) (pa_cons (pe_call (ok_l_some T) (hr.mono (by decide)) (by rfl) T.m_l_some T.F_l_some.kp T.b_l_some .nil pass0 (pa_cons (pv 0) (pa_cons (pv 5) pa_nil))) pa_nil))))
          pss_nil)))))
    (pss_one (ps_ret (pe_tup (pa_cons (pe_callTy call_tuple_of (by rfl) T.g_tuple (by decide +kernel) (pa_cons (pe_slice sl_list (pv 5) po_none (po_some (pv 3))) pa_nil)) (pa_cons (pv 4) pa_nil))))))), ?_⟩
  refine ⟨_, rfl, n, rfl, by omega, by omega, fun D nD => ?_⟩
  have Dh := hd.ne nD
  refine lc_range (lo := 0) (n := n.toNat) (fun j H' => Kp h H H' ∧ HandAt H' h c ∧ ∃ col : List Int, H' D = some (.lst (col.map V.int)) ∧ col.length = j ∧ ∀ z ∈ col, 0 ≤ z ∧ z < i) ⟨Same.kp (same_new nD _), hd.same (same_new nD _), [], upd_same, rfl, fun z hz => nomatch hz⟩ ?_ ?_
  · intro j H' hj ⟨kk, hdd, col, hD, lc, rc⟩
    refine ⟨rfl, ?_⟩
    refine ⟨_, rfl, _, rfl, h, c, _, rfl, by omega, by omega, hdd, fun d H2 d0 d1 k2 hd2 => ?_⟩
    refine ⟨_, k2 _ _ Dh.1 hD, small1000 (by rw [List.length_map]; omega), (kk.trans k2).mut nD, hd2.upd Dh.1 Dh.2, col ++ [d], by rw [upd_same, List.map_append]; rfl, by rw [List.length_append, lc]; rfl, fun z hz => ?_⟩
    rcases List.mem_append.mp hz with k | k
    · exact rc z k
    · rw [List.mem_singleton.mp k]
      exact ⟨d0, d1⟩
  intro H1 ⟨k1, hd1, col, hD, lc, rc⟩
  refine ⟨D, _, rfl, .inl ⟨SqL.of hD, fun a na => ⟨(by show 0 ≤ sizeLine; decide), fun F nF => ⟨_, _, rfl, ?_⟩⟩⟩⟩
  have sa := same_new na (.tup (col.map V.int))
  have ha : (L2.upd H1 a (.tup (col.map V.int))) a = some (.tup (col.map V.int)) := upd_same
  have k2 := k1.trans (Same.kp sa)
  have hd2 := hd1.same sa
  generalize L2.upd H1 a (.tup (col.map V.int)) = H2 at *
  have Fh := hd2.ne nF
  have nHF : H F = none := Kp.none k2 hd2 nF
  have sF := same_new nF (.lst [])
  have hF : (L2.upd H2 F (.lst [])) F = some (.lst []) := upd_same
  have ha3 := sF _ _ ha
  have k3 := k2.trans (Same.kp sF)
  have hd3 := hd2.same sF
  have aF : a ≠ F := ne_of_none ha nF
  generalize L2.upd H2 F (.lst []) = H3 at *
  have lcn : col.length = n.toNat := lc
  refine ⟨_, rfl, _, rfl, m, 1, rfl, rfl, h, c, _, rfl, by omega, by omega, hd3, fun t H4 t0 t1 k4 hd4 => ⟨t, rfl, by omega, by omega, ?_⟩⟩
  refine for_range (lo := 0) (n := t.toNat) (fun j σ H' => ∃ y6 y7 y8 acc, σ = [some (.ref h), some (.int i), some (.int n), some (.int m), some (.ref a), some (.ref F), y6, y7, y8, none] ∧ Kp h H H' ∧ HandAt H' h c ∧ H' a = some (.tup (col.map V.int)) ∧ H' F = some (.lst acc) ∧ acc.length ≤ 2 * j ∧ AllOk H' (GoodP n col) acc)
    ⟨_, _, _, [], rfl, k3.trans k4, hd4, k4 _ _ (hd3.tne ha3) ha3, k4 _ _ Fh.1 hF, by decide, AllOk.nil⟩ ?_ ?_
  · intro j σ H' hj ⟨y6, y7, y8, acc, e, kk, hdd, hac, hFc, la, pa⟩
    subst e
    refine ⟨_, rfl, _, rfl, h, c, n, rfl, by omega, by omega, hdd, fun u H5 u0 u1 k5 hd5 => ⟨_, rfl, _, rfl, h, c, n, rfl, by omega, by omega, hd5, fun v H6 v0 v1 k6 hd6 => ⟨_, _, rfl, ?_⟩⟩⟩
    have ha6 := k6 _ _ (hd5.tne (k5 _ _ (hdd.tne hac) hac)) (k5 _ _ (hdd.tne hac) hac)
    have hF6 := k6 _ _ Fh.1 (k5 _ _ Fh.1 hFc)
    have pa6 := AllOk.mono (tup_kp hd5 k6) (AllOk.mono (tup_kp hdd k5) pa)
    have kk6 := (kk.trans k5).trans k6
    refine ⟨fun σ' H'' => ∃ y6 acc, σ' = [some (.ref h), some (.int i), some (.int n), some (.int m), some (.ref a), some (.ref F), y6, some (.int u), some (.int v), none] ∧ Kp h H H'' ∧ HandAt H'' h c ∧ H'' a = some (.tup (col.map V.int)) ∧ H'' F = some (.lst acc) ∧ acc.length ≤ 2 * j + 1 ∧ AllOk H'' (GoodP n col) acc, ?_, ?_⟩
    · refine ⟨_, rfl, _, rfl, a, _, _, _, rfl, rfl, SqT.of ha6, ix_at u0 (by omega), _, rfl, _, rfl, a, _, _, _, rfl, rfl, SqT.of ha6, ix_at v0 (by omega), rfl, _, rfl, ite2 (fun e => ?_) (fun e => ?_)⟩
      · have ne : ix col u ≠ ix col v := fun z => by
          rw [z, decide_eq_true rfl] at e
          cases e
        refine ⟨_, rfl, .inl ⟨rfl, _, SqL.of hF6⟩, _, rfl, _, rfl, _, _, rfl, _, rfl, _, rfl, _, _, rfl, (by show 2 ≤ sizeLine; decide), fun S nS => ?_⟩
        have s7 := same_new nS (.tup [.int (mn u v), .int (mx u v)])
        refine ⟨F, acc, _, rfl, rfl, s7 _ _ hF6, small1000 (by omega), ?_⟩
        refine ⟨_, acc ++ [.ref S], rfl, ((kk6.trans (Same.kp s7)).mut nHF), (hd6.same s7).upd Fh.1 Fh.2, ?_, upd_same, by rw [List.length_append]; show acc.length + 1 ≤ _; omega, ?_⟩
        · rw [upd_ne aF]
          exact s7 _ _ ha6
        · exact AllOk.mono (tup_upd (s7 _ _ hF6)) (AllOk.app (AllOk.mono (tup_same s7) pa6) (AllOk.one ⟨S, (mn u v, mx u v), rfl, upd_same, goodP_mn u0 u1 v0 v1 ne⟩))
      · exact ⟨_, acc, rfl, kk6, hd6, ha6, hF6, by omega, pa6⟩
    · clear hFc hac pa6 pa la hF6 ha6 kk6 hd6 hd5 k5 k6 kk hdd
      intro σ' H7 ⟨y6, acc, e, kk, hdd, hac, hFc, la, pa⟩
      subst e
      refine ⟨_, rfl, F, _, rfl, .inl (SqL.of hFc), _, 0, rfl, rfl, _, rfl, ite2 (fun e => ?_) (fun e => ?_)⟩
      · have pos : 0 < acc.length := by
          have : ((acc.length : Nat) : Int) > 0 := of_decide_eq_true e
          omega
        refine ⟨_, rfl, F, _, rfl, .inl (SqL.of hFc), _, rfl, _, _, rfl, rfl, _, rfl, ite2 (fun e2 => ?_) (fun e2 => ?_)⟩
        · refine ⟨_, rfl, h, c, _, rfl, by omega, by omega, hdd, fun z H8 z0 z1 k8 hd8 => ?_⟩
          have hF8 := k8 _ _ Fh.1 hFc
          have ha8 := k8 _ _ (hdd.tne hac) hac
          have pa8 := AllOk.mono (tup_kp hdd k8) pa
          have kk8 := kk.trans k8
          refine ⟨rfl, _, rfl, ite2 (fun e3 => ?_) (fun e3 => ?_)⟩
          · refine ⟨_, rfl, .inl ⟨rfl, _, SqL.of hF8⟩, _, rfl, _, rfl, h, c, F, acc, rfl, SqL.of hF8, Fh.1, pos, by omega, hd8, fun y H9 hy k9 hd9 => ?_⟩
            have hF9 := k9 _ _ Fh.1 hF8
            have ha9 := k9 _ _ (hd8.tne ha8) ha8
            have pa9 := AllOk.mono (tup_kp hd8 k9) pa8
            refine ⟨F, acc, _, rfl, rfl, hF9, small1000 (by omega), ?_⟩
            refine ⟨_, _, _, acc ++ [y], rfl, (kk8.trans k9).mut nHF, hd9.upd Fh.1 Fh.2, ?_, upd_same, by rw [List.length_append]; show acc.length + 1 ≤ _; omega, ?_⟩
            · rw [upd_ne aF]
              exact ha9
            · exact AllOk.mono (tup_upd hF9) (AllOk.app pa9 (AllOk.one (pa9 y hy)))
          · exact ⟨_, _, _, acc, rfl, kk8, hd8, ha8, hF8, by omega, pa8⟩
        · exact ⟨_, _, _, acc, rfl, kk, hdd, hac, hFc, by omega, pa⟩
      · exact ⟨_, _, _, acc, rfl, kk, hdd, hac, hFc, by omega, pa⟩
  · intro σ H5 ⟨y6, y7, y8, acc, e, kk, hdd, hac, hFc, la, pa⟩
    subst e
    refine ⟨_, rfl, _, rfl, m, rfl, F, acc, rfl, SqL.of hFc, fun Z nZ => ?_⟩
    have sZ := same_new nZ (.lst (cutV acc none (some m)))
    have ec : cutV acc none (some m) = acc.take m.toNat := cut_hi _ _ m0
    have hZ : (L2.upd H5 Z (.lst (cutV acc none (some m)))) Z = some (.lst (acc.take m.toNat)) := by rw [upd_same, ec]
    refine ⟨Z, _, rfl, .inl ⟨SqL.of hZ, fun t2 nt => ⟨_, rfl, (by show 2 ≤ sizeLine; decide), fun y ny => ?_⟩⟩⟩
    have st := same_new nt (.tup (acc.take m.toNat))
    have sy := same_new ny (.tup [.ref t2, .ref a])
    have s6 := sZ.trans (st.trans sy)
    obtain ⟨ps, pp, po⟩ := AllOk.prs (AllOk.mono (tup_same s6) fun v hv => pa v (List.mem_of_mem_take (i := m.toNat) hv))
    have lp := pp.len
    rw [List.length_take] at lp
    exact q y t2 a ps col _ (kk.trans (Same.kp s6)) (hdd.same s6) upd_same ⟨_, sy _ _ upd_same, pp⟩ (s6 _ _ hac) (by omega) ⟨lcn, n1, n2, rc, fun p hp => (po p hp).1, fun p hp => (po p hp).2⟩
end
end K45
set_option Elab.async false
set_option linter.all false
set_option maxRecDepth 100000
set_option maxHeartbeats 8000000
/-! Long ways of two colours. -/
namespace K45
open PySem L2 Rl
theorem rep_flat {v : V} : ∀ k : Nat, (List.replicate k [v]).flatten = List.replicate k v
  | 0 => rfl
  | k + 1 => by rw [List.replicate_succ, List.flatten_cons, rep_flat k, List.replicate_succ]; rfl
theorem ix_set {l : List Int} {k m v : Int} (k0 : 0 ≤ k) (k1 : k < l.length) (m0 : 0 ≤ m) : ix (l.set k.toNat v) m = if m = k then v else ix l m := by
  unfold ix
  rw [List.getD_eq_getElem?_getD, List.getD_eq_getElem?_getD, List.getElem?_set]
  by_cases e : m = k
  · rw [if_pos e, if_pos (by rw [e]), if_pos (by omega)]
    rfl
  · rw [if_neg e, if_neg (by omega)]
theorem ix_nodup {l : List Int} (nd : l.Nodup) {i j : Int} (i0 : 0 ≤ i) (i1 : i < l.length) (j0 : 0 ≤ j) (j1 : j < l.length) (e : ix l i = ix l j) : i = j := by
  have li : i.toNat < l.length := by omega
  have lj : j.toNat < l.length := by omega
  unfold ix at e
  rw [List.getD_eq_getElem?_getD, List.getD_eq_getElem?_getD, List.getElem?_eq_getElem li, List.getElem?_eq_getElem lj] at e
  have e : l[i.toNat] = l[j.toNat] := e
  have := (List.getElem_inj nd).mp e
  omega
def Tk (os : List Int) (n : Int) (p : Int × Int) : Prop := ∃ j : Nat, j + 1 < n.toNat ∧ p = (mn (ix os (j : Int)) (ix os ((j : Int) + 1)), mx (ix os (j : Int)) (ix os ((j : Int) + 1)))
/-- an order of the places, colours, a painting -/
structure Lng (n q : Int) (os cs : List Int) : Prop where
  n6 : 6 ≤ n
  n2 : n ≤ 10
  q2 : 2 ≤ q
  q6 : q ≤ 4
  po : os.Perm (rn n)
  pc : cs.Perm (rn q)
theorem Lng.ol {n q : Int} {os cs : List Int} (L : Lng n q os cs) : (os.length : Int) = n := by
  have := L.po.length_eq
  rw [rn_len] at this
  have := L.n6
  omega
theorem Lng.cl {n q : Int} {os cs : List Int} (L : Lng n q os cs) : (cs.length : Int) = q := by
  have := L.pc.length_eq
  rw [rn_len] at this
  have := L.q2
  omega
theorem rn_nd (n : Int) : (rn n).Nodup := (rn_sorted n).imp fun {x y} l e => by omega
theorem Lng.ond {n q : Int} {os cs : List Int} (L : Lng n q os cs) : os.Nodup := L.po.nodup_iff.mpr (rn_nd n)
theorem Lng.cnd {n q : Int} {os cs : List Int} (L : Lng n q os cs) : cs.Nodup := L.pc.nodup_iff.mpr (rn_nd q)
theorem Lng.or {n q j : Int} {os cs : List Int} (L : Lng n q os cs) (j0 : 0 ≤ j) (j1 : j < n) : 0 ≤ ix os j ∧ ix os j < n := mem_rn.mp (L.po.mem_iff.mp (ix_in j0 (by rw [L.ol]; exact j1)))
theorem Lng.cr {n q j : Int} {os cs : List Int} (L : Lng n q os cs) (j0 : 0 ≤ j) (j1 : j < q) : 0 ≤ ix cs j ∧ ix cs j < q := mem_rn.mp (L.pc.mem_iff.mp (ix_in j0 (by rw [L.cl]; exact j1)))
theorem Lng.one {n q i j : Int} {os cs : List Int} (L : Lng n q os cs) (i0 : 0 ≤ i) (i1 : i < n) (j0 : 0 ≤ j) (j1 : j < n) (e : ix os i = ix os j) : i = j := ix_nodup L.ond i0 (by rw [L.ol]; exact i1) j0 (by rw [L.ol]; exact j1) e
theorem Lng.cone {n q i j : Int} {os cs : List Int} (L : Lng n q os cs) (i0 : 0 ≤ i) (i1 : i < q) (j0 : 0 ≤ j) (j1 : j < q) (e : ix cs i = ix cs j) : i = j := ix_nodup L.cnd i0 (by rw [L.cl]; exact i1) j0 (by rw [L.cl]; exact j1) e
structure Pl (n q : Int) (pl : List Int) : Prop where
  l : (pl.length : Int) = n
  r : ∀ z ∈ pl, 0 ≤ z ∧ z < q
theorem Pl.set {n q k v : Int} {pl : List Int} (h : Pl n q pl) (v0 : 0 ≤ v) (v1 : v < q) : Pl n q (pl.set k.toNat v) := ⟨by rw [List.length_set]; exact h.l, fun z hz => by
  rcases List.mem_or_eq_of_mem_set hz with m | m
  · exact h.r z m
  · rw [m]
    exact ⟨v0, v1⟩⟩
/-- beside one another in the order: unlike -/
def Alt (n : Int) (os pl : List Int) : Prop := ∀ j : Nat, j + 1 < n.toNat → ix pl (ix os (j : Int)) ≠ ix pl (ix os ((j : Int) + 1))
theorem Alt.good {n q : Int} {os cs pl : List Int} (L : Lng n q os cs) (a : Alt n os pl) {p : Int × Int} (t : Tk os n p) : GoodP n pl p := by
  obtain ⟨j, hj, e⟩ := t
  subst e
  have r1 := L.or (j := (j : Int)) (by omega) (by omega)
  have r2 := L.or (j := (j : Int) + 1) (by omega) (by omega)
  exact goodP_mn r1.1 r1.2 r2.1 r2.2 (a j hj)
/-- by turns -/
def Trn (n : Int) (os cs pl : List Int) (m : Nat) : Prop := ∀ j : Nat, j < m → ix pl (ix os (j : Int)) = ix cs ((j : Int) % 2)
theorem Trn.alt {n q : Int} {os cs pl : List Int} (L : Lng n q os cs) (t : Trn n os cs pl n.toNat) : Alt n os pl := fun j hj e => by
  have e1 := t j (by omega)
  have e2 := t (j + 1) (by omega)
  rw [show (((j + 1 : Nat)) : Int) = (j : Int) + 1 by omega] at e2
  rw [e1, e2] at e
  have := L.q2
  have := L.cone (i := (j : Int) % 2) (j := ((j : Int) + 1) % 2) (by omega) (by omega) (by omega) (by omega) e
  omega
theorem Trn.third {n q r : Int} {os cs pl : List Int} (L : Lng n q os cs) (P : Pl n q pl) (t : Trn n os cs pl n.toNat) (q3 : 2 < q) (r0 : 0 ≤ r) (r1 : r < n) : Alt n os (pl.set (ix os r).toNat (ix cs 2)) := fun j hj e => by
  have rr := L.or r0 r1
  have e1 := t j (by omega)
  have e2 := t (j + 1) (by omega)
  rw [show (((j + 1 : Nat)) : Int) = (j : Int) + 1 by omega] at e2
  have o1 := L.or (j := (j : Int)) (by omega) (by omega)
  have o2 := L.or (j := (j : Int) + 1) (by omega) (by omega)
  have hl := P.l
  rw [ix_set rr.1 (by omega) o1.1, ix_set rr.1 (by omega) o2.1, e1, e2] at e
  by_cases c1 : ix os (j : Int) = ix os r
  · have g1 := L.one (by omega) (by omega) r0 r1 c1
    by_cases c2 : ix os ((j : Int) + 1) = ix os r
    · have g2 := L.one (by omega) (by omega) r0 r1 c2
      omega
    · rw [if_pos c1, if_neg c2] at e
      have := L.cone (i := 2) (j := ((j : Int) + 1) % 2) (by omega) (by omega) (by omega) (by omega) e
      omega
  · by_cases c2 : ix os ((j : Int) + 1) = ix os r
    · rw [if_neg c1, if_pos c2] at e
      have := L.cone (i := (j : Int) % 2) (j := 2) (by omega) (by omega) (by omega) (by omega) e
      omega
    · rw [if_neg c1, if_neg c2] at e
      have := L.cone (i := (j : Int) % 2) (j := ((j : Int) + 1) % 2) (by omega) (by omega) (by omega) (by omega) e
      omega
section
variable {P : Program} {w : World} {K : PySem.W.Frag} {mg : Str → Option Value} {base : Heap}
theorem ok_l_long (T : Tx K mg) : FnOk P w K mg base CX0 3 T.f_l_long T.d_l_long ["hand"] spLong := by
  refine T.F_l_long.ok sc_l_long (fun vs H Q E h => ?_) (fun cdv A outer s H vs Q E hr h => ?_)
  · obtain ⟨h, c, rfl, _⟩ := h
    rfl
  obtain ⟨h, c, rfl, hd, q⟩ := h
  refine ⟨_, (Evl.pss_cut (ps_par (i := 1) (j := 2) rfl sc_l_long.nd rfl rfl (by decide) rfl rfl (pa_cons (pe_op op_add pe_int (pe_call (ok_l_draw T) (hr.mono (by decide)) (by rfl) T.m_l_draw T.F_l_draw.kp T.b_l_draw .nil pass0 (pa_cons (pv 0) (pa_cons pe_int pa_nil)))) (pa_cons (pe_op op_add pe_int (pe_call (ok_l_draw T) (hr.mono (by decide)) (by rfl) T.m_l_draw T.F_l_draw.kp T.b_l_draw .nil pass0 (pa_cons (pv 0) (pa_cons pe_int pa_nil)))) pa_nil)) (by rfl))
    (pss_cons (ps_par (i := 3) (j := 4) rfl sc_l_long.nd rfl rfl (by decide) rfl rfl (pa_cons (pe_call (ok_l_mixed T) (hr.mono (by decide)) (by rfl) T.m_l_mixed T.F_l_mixed.kp T.b_l_mixed .nil pass0 (pa_cons (pv 0) (pa_cons (pe_listRg rfl (by rfl) T.g_list (prg_1 (by rfl) T.g_range (pv 2))) pa_nil))) (pa_cons (pe_call (ok_l_mixed T) (hr.mono (by decide)) (by rfl) T.m_l_mixed T.F_l_mixed.kp T.b_l_mixed .nil pass0 (pa_cons (pv 0) (pa_cons (pe_listRg rfl (by rfl) T.g_list (prg_1 (by rfl) T.g_range (pv 1))) pa_nil))) pa_nil)) (by rfl))
    (pss_cons (ps_par (i := 5) (j := 6) rfl sc_l_long.nd rfl rfl (by decide) rfl rfl (pa_cons (pe_op op_rep (pe_lst (pa_cons (pe_ix ix_list (pv 4) pe_int (fun _ _ => rfl)) pa_nil)) (pv 2)) (pa_cons (pe_lst pa_nil) pa_nil)) (by rfl))
    (pss_cons (ps_for PassesOwn.never rfl (pi_range1 (by rfl) T.g_range (pa_cons (pv 2) pa_nil)) (pg_name (i := 7) sc_l_long.nd rfl (.inl rfl))
      (pss_one (ps_asg (pe_ix ix_list (pv 4) (pe_op op_mod (pe_callTy call_int1 (by rfl) T.g_int (by decide +kernel) (pa_cons (pv 7) pa_nil)) pe_int) (fun _ _ => rfl)) (pg_sub (pv 5) (pe_ix ix_list (pv 3) (pv 7) (fun _ _ => rfl)) set_list))))
    (pss_cons (ps_set (i := 8) sc_l_long.nd rfl (.inl rfl) (pe_call (ok_l_draw T) (hr.mono (by decide)) (by rfl) T.m_l_draw T.F_l_draw.kp T.b_l_draw .nil pass0 (pa_cons (pv 0) (pa_cons (pe_op op_mul pe_int (pv 2)) pa_nil))))
    (pss_cons (ps_for PassesOwn.never rfl (pi_range1 (by rfl) T.g_range (pa_cons (pe_op op_sub (pv 2) pe_int) pa_nil)) (pg_name (i := 7) sc_l_long.nd rfl (.inl rfl))
      (pss_one (ps_if (pt_cmpR op_ne (pv 7) (pv 8) (nomark _))
          (pss_one (ps_expr (pe_bm PySem.F.plainAttrs_list PySem.F.slot_list_append PySem.F.type_list_append mt_append (pv 6) (pa_cons (pe_tup (pa_cons (pe_callB (call_min2 rfl) (by rfl) T.g_min (by decide +kernel) (pa_cons (pe_ix ix_list (pv 3) (pv 7) (fun _ _ => rfl)) (pa_cons (pe_ix ix_list (pv 3) (pe_op op_add (pv 7) pe_int) (fun _ _ => rfl)) pa_nil))) (pa_cons (pe_callB (call_max2 rfl) (by rfl) T.g_max (by decide +kernel) (pa_cons (pe_ix ix_list (pv 3) (pv 7) (fun _ _ => rfl)) (pa_cons (pe_ix ix_list (pv 3) (pe_op op_add (pv 7) pe_int) (fun _ _ => rfl)) pa_nil))) pa_nil))) pa_nil))))
          pss_nil)))
    (Evl.pss_cut (ps_if (PW.pt (pw_and (pt_cmpR op_gt (pv 1) pe_int (nomark _)) (pw_and1 (pt_cmpR op_eq (pe_call (ok_l_draw T) (hr.mono (by decide)) (by rfl) T.m_l_draw T.F_l_draw.kp T.b_l_draw .nil pass0 (pa_cons (pv 0) (pa_cons pe_int pa_nil))) pe_int (nomark _)))))
      (pss_one (ps_asg (pe_ix ix_list (pv 4) pe_int (fun _ _ => rfl)) (pg_sub (pv 5) (pe_ix ix_list (pv 3) (pe_call (ok_l_draw T) (hr.mono (by decide)) (by rfl) T.m_l_draw T.F_l_draw.kp T.b_l_draw .nil pass0 (pa_cons (pv 0) (pa_cons (pv 2) pa_nil))) (fun _ _ => rfl)) set_list)))
      pss_nil)
    (pss_one (ps_ret (pe_tup (pa_cons (pv 1) (pa_cons (pv 2) (pa_cons (pe_callTy call_tuple_of (by rfl) T.g_tuple (by decide +kernel) (pa_cons (pe_call (ok_l_mixed T) (hr.mono (by decide)) (by rfl) T.m_l_mixed T.F_l_mixed.kp T.b_l_mixed .nil pass0 (pa_cons (pv 0) (pa_cons (pv 6) pa_nil))) pa_nil)) (pa_cons (pe_callTy call_tuple_of (by rfl) T.g_tuple (by decide +kernel) (pa_cons (pv 5) pa_nil)) pa_nil)))))))))))))), ?_⟩
  refine ⟨fun σ' H' => ∃ i n : Int, σ' = [some (.ref h), some (.int i), some (.int n), none, none, none, none, none, none] ∧ Kp h H H' ∧ HandAt H' h c ∧ 2 ≤ i ∧ i ≤ 4 ∧ 6 ≤ n ∧ n ≤ 10, ?_, ?_⟩
  · refine ⟨_, rfl, h, c, _, rfl, by omega, by omega, hd, fun d H1 d0 d1 k1 hd1 => ⟨2, d, rfl, rfl, _, rfl, h, c, _, rfl, by omega, by omega, hd1, fun e H2 e0 e1 k2 hd2 => ⟨6, e, rfl, rfl, _, _, rfl, ?_⟩⟩⟩
    exact ⟨2 + d, 6 + e, rfl, k1.trans k2, hd2, by omega, by omega, by omega, by omega⟩
  intro σ' H1 ⟨i, n, e, k1, hd1, i2, i4, n6, n10⟩
  subst e
  refine ⟨_, rfl, _, rfl, n, rfl, RgOk.of_le (by decide) (by omega) (by decide) (by omega), fun D nD => ?_⟩
  rw [rg_rn]
  have sD := same_new nD (.lst ((rn n).map V.int))
  refine ⟨h, c, D, _, rfl, hd1.same sD, upd_same, (hd1.ne nD).1, by rw [List.length_map, rn_len]; omega, fun NM ys H2 k2 hd2 nNM hNM pe => ?_⟩
  refine ⟨_, rfl, _, rfl, i, rfl, RgOk.of_le (by decide) (by omega) (by decide) (by omega), fun D2 nD2 => ?_⟩
  rw [rg_rn]
  have sD2 := same_new nD2 (.lst ((rn i).map V.int))
  refine ⟨h, c, D2, _, rfl, hd2.same sD2, upd_same, (hd2.ne nD2).1, by rw [List.length_map, rn_len]; omega, fun CS zs H3 k3 hd3 nCS hCS pc => ⟨_, _, rfl, ?_⟩⟩
  obtain ⟨os, eo, po⟩ := perm_ints pe
  subst eo
  obtain ⟨cs, ec, pcs⟩ := perm_ints pc
  subst ec
  have LN : Lng n i os cs := ⟨n6, n10, i2, i4, po, pcs⟩
  have ol := LN.ol
  have cl := LN.cl
  have NMh : NM ≠ h := (hd1.same sD).ne nNM |>.1
  have CSh : CS ≠ h := (hd2.same sD2).ne nCS |>.1
  have kD : Kp h (L2.upd H1 D (.lst ((rn n).map V.int))) H3 := k2.trans ((Same.kp sD2).trans k3)
  have hNM3 : H3 NM = some (.lst (os.map V.int)) := k3 _ _ NMh (sD2 _ _ hNM)
  have k13 : Kp h H H3 := k1.trans ((Same.kp sD).trans kD)
  clear kD k2 k3 sD sD2 hNM nCS nNM nD nD2 hd2 hd1 k1 pe pc
  have c0 := LN.cr (j := 0) (by omega) (by omega)
  refine ⟨_, rfl, CS, _, 0, _, rfl, rfl, SqL.of hCS, ix_at (by decide) (by omega), (by show 1 ≤ sizeLine; decide), fun R nR => ?_⟩
  have sR := same_new nR (.lst [.int (ix cs 0)])
  refine ⟨_, rfl, R, n, [.int (ix cs 0)], rfl, rfl, upd_same, by omega, by omega, ?_, fun Pp nP => ⟨(by show 0 ≤ sizeLine; decide), fun F nF => ⟨_, _, rfl, ?_⟩⟩⟩
  · show 1 * n.toNat ≤ sizeLine
    exact Nat.le_trans (show 1 * n.toNat ≤ 1000 by omega) (by decide)
  have eP : (List.replicate n.toNat [V.int (ix cs 0)]).flatten = (List.replicate n.toNat (ix cs 0)).map V.int := by rw [rep_flat, List.map_replicate]
  have Ph := (hd3.same sR).ne nP
  have nHP : H Pp = none := Kp.none (k13.trans (Same.kp sR)) (hd3.same sR) nP
  have sP := same_new nP (.lst (List.replicate n.toNat [V.int (ix cs 0)]).flatten)
  have hP0 : (L2.upd (L2.upd H3 R (.lst [.int (ix cs 0)])) Pp (.lst (List.replicate n.toNat [V.int (ix cs 0)]).flatten)) Pp = some (.lst ((List.replicate n.toNat (ix cs 0)).map V.int)) := by rw [upd_same, eP]
  have kP := k13.trans ((Same.kp sR).trans (Same.kp sP))
  have hdP := (hd3.same sR).same sP
  have hNMP := sP _ _ (sR _ _ hNM3)
  have hCSP := sP _ _ (sR _ _ hCS)
  have PNM : Pp ≠ NM := (ne_of_none (sR _ _ hNM3) nP).symm
  have PCS : Pp ≠ CS := (ne_of_none (sR _ _ hCS) nP).symm
  generalize L2.upd (L2.upd H3 R (.lst [.int (ix cs 0)])) Pp (.lst (List.replicate n.toNat [V.int (ix cs 0)]).flatten) = H4 at *
  have Fh := hdP.ne nF
  have nHF : H F = none := Kp.none kP hdP nF
  have sF := same_new nF (.lst [])
  have FNM : F ≠ NM := (ne_of_none hNMP nF).symm
  have FCS : F ≠ CS := (ne_of_none hCSP nF).symm
  have FP : F ≠ Pp := (ne_of_none hP0 nF).symm
  have hF0 : (L2.upd H4 F (.lst [])) F = some (.lst []) := upd_same
  have k5 := kP.trans (Same.kp sF)
  have hd5 := hdP.same sF
  have hNM5 := sF _ _ hNMP
  have hCS5 := sF _ _ hCSP
  have hP5 := sF _ _ hP0
  generalize L2.upd H4 F (.lst []) = H5 at *
  clear sF sP sR hP0 hNMP hCSP kP hdP nF nP nR hNM3 hCS hd3 k13
  have P0 : Pl n i (List.replicate n.toNat (ix cs 0)) := ⟨by rw [List.length_replicate]; omega, fun z hz => by rw [List.eq_of_mem_replicate hz]; exact c0⟩
  refine ⟨_, rfl, n, rfl, by omega, by omega, ?_⟩
  refine for_range (lo := 0) (n := n.toNat) (fun j σ H' => ∃ y7 pl, σ = [some (.ref h), some (.int i), some (.int n), some (.ref NM), some (.ref CS), some (.ref Pp), some (.ref F), y7, none] ∧ Kp h H H' ∧ HandAt H' h c ∧ H' NM = some (.lst (os.map V.int)) ∧ H' CS = some (.lst (cs.map V.int)) ∧ H' Pp = some (.lst (pl.map V.int)) ∧ H' F = some (.lst []) ∧ Pl n i pl ∧ Trn n os cs pl j)
    ⟨none, _, rfl, k5, hd5, hNM5, hCS5, hP5, hF0, P0, fun j hj => absurd hj (Nat.not_lt_zero j)⟩ ?_ ?_
  · intro j σ H' hj ⟨y7, pl, e, kk, hdd, hNM, hCS, hP, hF, PL, tr⟩
    subst e
    have e0 : (0 : Int) + (j : Int) = (j : Int) := Int.zero_add _
    have oj := LN.or (j := (j : Int)) (by omega) (by omega)
    have cj := LN.cr (j := (j : Int) % 2) (by omega) (by omega)
    have pll := PL.l
    refine ⟨_, rfl, _, rfl, .inl ⟨_, rfl, _, 2, rfl, rfl, pos_of (by decide), CS, _, _, _, rfl, rfl, SqL.of hCS, ix_at (by omega) (by omega), ?_⟩⟩
    refine ⟨_, rfl, _, rfl, _, rfl, NM, _, _, _, rfl, rfl, SqL.of hNM, ix_at (by omega) (by omega), Pp, _, _, (ix os (0 + (j : Int))).toNat, rfl, rfl, hP, ixN_of (by rw [e0]; exact oj.1) (by rw [List.length_map, e0]; omega), ?_⟩
    rw [e0]
    refine ⟨_, pl.set (ix os (j : Int)).toNat (ix cs ((j : Int) % 2)), rfl, kk.mut nHP, hdd.upd Ph.1 Ph.2, ?_, ?_, ?_, ?_, PL.set cj.1 cj.2, fun m hm => ?_⟩
    · rw [upd_ne PNM.symm]
      exact hNM
    · rw [upd_ne PCS.symm]
      exact hCS
    · rw [upd_same, List.map_set]
    · rw [upd_ne FP]
      exact hF
    · have om := LN.or (j := (m : Int)) (by omega) (by omega)
      rw [ix_set oj.1 (by omega) om.1]
      by_cases g : ix os (m : Int) = ix os (j : Int)
      · rw [if_pos g, LN.one (by omega) (by omega) (by omega) (by omega) g]
      · rw [if_neg g]
        refine tr m ?_
        rcases Nat.lt_succ_iff_lt_or_eq.mp hm with z | z
        · exact z
        · rw [z] at g
          exact absurd rfl g
  clear hNM5 hCS5 hP5 hF0 P0 k5 hd5
  intro σ H6 ⟨y7, pl, e, kk, hdd, hNM, hCS, hP, hF, PL, tr⟩
  subst e
  refine ⟨_, rfl, _, rfl, 3, n, rfl, rfl, .inl ⟨by decide, by decide⟩, h, c, _, rfl, by omega, by omega, hdd, fun g H7 g0 g1 k7 hd7 => ?_⟩
  have kk7 := kk.trans k7
  have hNM7 := k7 _ _ NMh hNM
  have hCS7 := k7 _ _ CSh hCS
  have hP7 := k7 _ _ Ph.1 hP
  have hF7 := k7 _ _ Fh.1 hF
  clear hNM hCS hP hF kk hdd k7
  refine ⟨_, rfl, n, 1, rfl, rfl, n - 1, rfl, by omega, by omega, ?_⟩
  refine for_range (lo := 0) (n := (n - 1).toNat) (fun j σ H' => ∃ y7 acc, σ = [some (.ref h), some (.int i), some (.int n), some (.ref NM), some (.ref CS), some (.ref Pp), some (.ref F), y7, some (.int g)] ∧ Kp h H H' ∧ HandAt H' h c ∧ H' NM = some (.lst (os.map V.int)) ∧ H' CS = some (.lst (cs.map V.int)) ∧ H' Pp = some (.lst (pl.map V.int)) ∧ H' F = some (.lst acc) ∧ acc.length ≤ j ∧ AllOk H' (Tk os n) acc)
    ⟨_, [], rfl, kk7, hd7, hNM7, hCS7, hP7, hF7, Nat.le_refl _, AllOk.nil⟩ ?_ ?_
  · intro j σ H' hj ⟨y7, acc, e, kk, hdd, hNM, hCS, hP, hF, la, pa⟩
    subst e
    have e0 : (0 : Int) + (j : Int) = (j : Int) := Int.zero_add _
    refine ⟨_, rfl, _, rfl, rfl, _, rfl, ite2 (fun _ => ?_) (fun _ => ⟨_, acc, rfl, kk, hdd, hNM, hCS, hP, hF, by omega, pa⟩)⟩
    refine ⟨_, rfl, .inl ⟨rfl, _, SqL.of hF⟩, _, rfl, _, rfl, NM, _, _, _, rfl, rfl, SqL.of hNM, ix_at (by omega) (by omega), _, rfl, _, rfl, _, _, rfl, rfl, NM, _, _, _, rfl, rfl, SqL.of hNM, ix_at (by omega) (by omega), _, _, rfl,
      _, rfl, _, rfl, NM, _, _, _, rfl, rfl, SqL.of hNM, ix_at (by omega) (by omega), _, rfl, _, rfl, _, _, rfl, rfl, NM, _, _, _, rfl, rfl, SqL.of hNM, ix_at (by omega) (by omega), _, _, rfl, (by show 2 ≤ sizeLine; decide), fun S nS => ?_⟩
    rw [e0]
    have s8 := same_new nS (.tup [.int (mn (ix os (j : Int)) (ix os ((j : Int) + 1))), .int (mx (ix os (j : Int)) (ix os ((j : Int) + 1)))])
    refine ⟨F, acc, _, rfl, rfl, s8 _ _ hF, small1000 (by omega), ?_⟩
    refine ⟨_, acc ++ [.ref S], rfl, ((kk.trans (Same.kp s8)).mut nHF), (hdd.same s8).upd Fh.1 Fh.2, ?_, ?_, ?_, upd_same, by rw [List.length_append]; show acc.length + 1 ≤ _; omega, ?_⟩
    · rw [upd_ne FNM.symm]
      exact s8 _ _ hNM
    · rw [upd_ne FCS.symm]
      exact s8 _ _ hCS
    · rw [upd_ne FP.symm]
      exact s8 _ _ hP
    · exact AllOk.mono (tup_upd (s8 _ _ hF)) (AllOk.app (AllOk.mono (tup_same s8) pa) (AllOk.one ⟨S, (mn (ix os (j : Int)) (ix os ((j : Int) + 1)), mx (ix os (j : Int)) (ix os ((j : Int) + 1))), rfl, upd_same, j, by omega, rfl⟩))
  clear hNM7 hCS7 hP7 hF7 kk7 hd7
  intro σ H8 ⟨y7, acc, e, kk, hdd, hNM, hCS, hP, hF, la, pa⟩
  subst e
  refine ⟨fun σ' H' => ∃ pl', σ' = [some (.ref h), some (.int i), some (.int n), some (.ref NM), some (.ref CS), some (.ref Pp), some (.ref F), y7, some (.int g)] ∧ Kp h H H' ∧ HandAt H' h c ∧ H' Pp = some (.lst (pl'.map V.int)) ∧ H' F = some (.lst acc) ∧ AllOk H' (Tk os n) acc ∧ Pl n i pl' ∧ Alt n os pl', ?_, ?_⟩
  · refine ⟨_, rfl, _, 2, rfl, rfl, _, rfl, ite2 (fun e => ?_) (fun e => ⟨pl, rfl, kk, hdd, hP, hF, pa, PL, tr.alt LN⟩)⟩
    have i3 : 2 < i := of_decide_eq_true e
    refine ⟨_, rfl, h, c, _, rfl, by omega, by omega, hdd, fun z H9 z0 z1 k9 hd9 => ?_⟩
    have hP9 := k9 _ _ Ph.1 hP
    have hF9 := k9 _ _ Fh.1 hF
    have hCS9 := k9 _ _ CSh hCS
    have hNM9 := k9 _ _ NMh hNM
    have pa9 := AllOk.mono (tup_kp hdd k9) pa
    have kk9 := kk.trans k9
    refine ⟨rfl, _, rfl, ite2 (fun e2 => ?_) (fun e2 => ⟨pl, rfl, kk9, hd9, hP9, hF9, pa9, PL, tr.alt LN⟩)⟩
    have c2 := LN.cr (j := 2) (by omega) i3
    have pll := PL.l
    refine ⟨_, rfl, CS, _, 2, _, rfl, rfl, SqL.of hCS9, ix_at (by decide) (by omega), _, rfl, _, rfl, _, rfl, _, rfl, h, c, n, rfl, by omega, by omega, hd9, fun r H10 r0 r1 k10 hd10 => ?_⟩
    have or := LN.or r0 r1
    have hP10 := k10 _ _ Ph.1 hP9
    refine ⟨NM, _, _, _, rfl, rfl, SqL.of (k10 _ _ NMh hNM9), ix_at r0 (by omega), Pp, _, _, (ix os r).toNat, rfl, rfl, hP10, ixN_of or.1 (by rw [List.length_map]; omega), ?_⟩
    refine ⟨pl.set (ix os r).toNat (ix cs 2), rfl, (kk9.trans k10).mut nHP, hd10.upd Ph.1 Ph.2, ?_, ?_, ?_, PL.set c2.1 c2.2, tr.third LN PL i3 r0 r1⟩
    · rw [upd_same, List.map_set]
    · rw [upd_ne FP]
      exact k10 _ _ Fh.1 hF9
    · exact AllOk.mono (tup_upd hP10) (AllOk.mono (tup_kp hd9 k10) pa9)
  clear hNM hCS hP hF pa kk hdd PL tr
  intro σ' H9 ⟨pl', e, kk, hdd, hP, hF, pa, PL, al⟩
  subst e
  refine ⟨_, rfl, _, rfl, _, rfl, _, rfl, h, c, F, acc, rfl, hdd, hF, Fh.1, by omega, fun R ys H10 k10 hd10 nR hR pe => ⟨R, _, rfl, .inl ⟨SqL.of hR, fun t nt => ?_⟩⟩⟩
  have st := same_new nt (.tup ys)
  have ht0 : (L2.upd H10 t (.tup ys)) t = some (.tup ys) := upd_same
  have hP10 := st _ _ (k10 _ _ Ph.1 hP)
  have pa10 := AllOk.mono (tup_same st) (AllOk.mono (tup_kp hdd k10) pa)
  have hd11 := hd10.same st
  have kk11 := kk.trans (k10.trans (Same.kp st))
  generalize L2.upd H10 t (.tup ys) = H11 at *
  refine ⟨_, rfl, Pp, _, rfl, .inl ⟨SqL.of hP10, fun a na => ⟨(by show 4 ≤ sizeLine; decide), fun y ny => ?_⟩⟩⟩
  have sa := same_new na (.tup (pl'.map V.int))
  have sy := same_new ny (.tup [.int i, .int n, .ref t, .ref a])
  have s13 := sa.trans sy
  have py : AllOk (L2.upd (L2.upd H11 a (.tup (pl'.map V.int))) y (.tup [.int i, .int n, .ref t, .ref a])) (Tk os n) ys := fun v hv => (AllOk.mono (tup_same s13) pa10) v (pe.mem_iff.mp hv)
  obtain ⟨ps, pp, po⟩ := AllOk.prs py
  have lp := pp.len
  have lq := pe.length_eq
  have pl := PL.l
  refine q y t a n i ps pl' _ (kk11.trans (Same.kp s13)) (hd11.same s13) upd_same ⟨ys, s13 _ _ ht0, pp⟩ (sy _ _ upd_same) (by omega) (by omega) (by omega) ⟨by omega, by omega, n10, PL.r, fun p hp => (al.good LN (po p hp)).1, fun p hp => (al.good LN (po p hp)).2⟩
end
end K45
set_option Elab.async false
set_option linter.all false
set_option maxRecDepth 100000
set_option maxHeartbeats 8000000
/-! The law's own chains; the law. -/
namespace K45
open PySem L2 Rl
/-- places found, the first so many of them looked through, at the next one some ties -/
structure Fnd (n : Int) (ps : List (Int × Int)) (col : List Int) (x c : Int) (fs : List Int) (at' : Nat) (y0 : Int) (done : List (Int × Int)) : Prop where
  nd : fs.Nodup
  rg : ∀ y ∈ fs, 0 ≤ y ∧ y < n
  rc : ∀ y ∈ fs, Rc ps col (ix col x) c x y
  me : x ∈ fs
  cl : ∀ y ∈ fs.take at', ∀ z, Adj ps y z → In2 col (ix col x) c z → z ∈ fs
  here : ∀ z, Adj done y0 z → In2 col (ix col x) c z → z ∈ fs
section
variable {n x c y0 z : Int} {ps done : List (Int × Int)} {col fs : List Int} {m : Nat}
theorem Fnd.len (h : Fnd n ps col x c fs m y0 done) : fs.length ≤ n.toNat := nodup_len h.nd h.rg
theorem adj_nil {y z : Int} : ¬ Adj [] y z := fun ⟨_, hp, _⟩ => nomatch hp
theorem adj_snoc {p : Int × Int} {y z : Int} : Adj (done ++ [p]) y z ↔ Adj done y z ∨ ((p.1 = y ∧ p.2 = z) ∨ (p.1 = z ∧ p.2 = y)) := by
  constructor
  · rintro ⟨q, hq, h⟩
    rcases List.mem_append.mp hq with k | k
    · exact .inl ⟨q, k, h⟩
    · rw [List.mem_singleton.mp k] at h
      exact .inr h
  · rintro (⟨q, hq, h⟩ | h)
    · exact ⟨q, List.mem_append.mpr (.inl hq), h⟩
    · exact ⟨p, List.mem_append.mpr (.inr (List.mem_singleton.mpr rfl)), h⟩
theorem Fnd.begin (h0 : 0 ≤ x ∧ x < n) : Fnd n ps col x c [x] 0 y0 [] where
  nd := List.nodup_cons.mpr ⟨List.not_mem_nil, List.nodup_nil⟩
  rg := fun y hy => by
    rw [List.mem_singleton.mp hy]
    exact h0
  rc := fun y hy => by
    rw [List.mem_singleton.mp hy]
    exact .refl
  me := List.mem_singleton.mpr rfl
  cl := fun y hy => nomatch hy
  here := fun z a => absurd a adj_nil
theorem Fnd.turn (h : Fnd n ps col x c fs m z ps) (hz : fs[m]? = some z) : Fnd n ps col x c fs (m + 1) y0 [] where
  nd := h.nd
  rg := h.rg
  rc := h.rc
  me := h.me
  cl := fun y hy => by
    rw [take_snoc hz] at hy
    rcases List.mem_append.mp hy with k | k
    · exact h.cl y k
    · rw [List.mem_singleton.mp k]
      exact h.here
  here := fun z a => absurd a adj_nil
theorem Fnd.skip {p : Int × Int} (h : Fnd n ps col x c fs m y0 done) (k : ∀ z, ((p.1 = y0 ∧ p.2 = z) ∨ (p.1 = z ∧ p.2 = y0)) → In2 col (ix col x) c z → z ∈ fs) : Fnd n ps col x c fs m y0 (done ++ [p]) where
  nd := h.nd
  rg := h.rg
  rc := h.rc
  me := h.me
  cl := h.cl
  here := fun z a i => (adj_snoc.mp a).elim (fun a => h.here z a i) fun a => k z a i
theorem Fnd.more {p : Int × Int} (h : Fnd n ps col x c fs m y0 done) (hm : m < fs.length) (hy : y0 ∈ fs) (ad : Adj ps y0 z) (i : In2 col (ix col x) c z) (hz : z ∉ fs) (r : 0 ≤ z ∧ z < n) (k : ∀ w, ((p.1 = y0 ∧ p.2 = w) ∨ (p.1 = w ∧ p.2 = y0)) → w = z) : Fnd n ps col x c (fs ++ [z]) m y0 (done ++ [p]) where
  nd := List.nodup_append.mpr ⟨h.nd, List.nodup_cons.mpr ⟨List.not_mem_nil, List.nodup_nil⟩, fun a ha b hb e => hz (by rw [← List.mem_singleton.mp hb, ← e]; exact ha)⟩
  rg := fun y hy => (List.mem_append.mp hy).elim (h.rg y) fun k => by rw [List.mem_singleton.mp k]; exact r
  rc := fun y hy' => (List.mem_append.mp hy').elim (h.rc y) fun k => by rw [List.mem_singleton.mp k]; exact .step (h.rc y0 hy) ad i
  me := List.mem_append.mpr (.inl h.me)
  cl := fun y hy w a j => by
    rw [List.take_append_of_le_length (by omega)] at hy
    exact List.mem_append.mpr (.inl (h.cl y hy w a j))
  here := fun w a j => by
    rcases adj_snoc.mp a with a | a
    · exact List.mem_append.mpr (.inl (h.here w a j))
    · rw [k w a]
      exact List.mem_append.mpr (.inr (List.mem_singleton.mpr rfl))
theorem Fnd.all (h : Fnd n ps col x c fs fs.length y0 done) (y : Int) : y ∈ fs ↔ Rc ps col (ix col x) c x y := by
  refine ⟨h.rc y, fun r => ?_⟩
  induction r with
  | refl => exact h.me
  | step _ ad i ih => exact h.cl _ (by rw [List.take_length]; exact ih) _ ad i
theorem Fnd.chain (h : Fnd n ps col x c fs fs.length y0 done) {ms : List Int} (hp : ms.Perm fs) (hsrt : ms.Pairwise (· ≤ ·)) : ChainIs ps col x c ms := by
  have nd : ms.Nodup := hp.nodup_iff.mpr h.nd
  refine ⟨?_, fun y => (hp.mem_iff).trans (h.all y)⟩
  exact (hsrt.and nd).imp fun {a b} k => by
    have := k.1
    have := k.2
    omega
end
/-- ties and a painting of their places, at t and a -/
structure Own (H : Hp) (t a : Addr) (n : Int) (ps : List (Int × Int)) (col : List Int) : Prop where
  t : TiesAt H t ps
  p : PtAt H a col
  l : col.length = n.toNat
  n2 : n ≤ 10
  ok : ∀ p ∈ ps, okS n p
  l16 : ps.length ≤ 16
theorem Own.same {H H' : Hp} {t a : Addr} {n : Int} {ps : List (Int × Int)} {col : List Int} (e : Same H H') (h : Own H t a n ps col) : Own H' t a n ps col := ⟨h.t.same e, h.p.same e, h.l, h.n2, h.ok, h.l16⟩
def spLGood : Sp := fun vs H Q _ => ∃ (t a : Addr) (n : Int) (ps : List (Int × Int)) (col : List Int), vs = [.ref t, .ref a] ∧ Own H t a n ps col ∧ (∀ p ∈ ps, ix col p.1 ≠ ix col p.2) ∧ ∀ H', Same H H' → Q (.bl true) H'
def spLChain : Sp := fun vs H Q _ => ∃ (t a : Addr) (n k c : Int) (ps : List (Int × Int)) (col : List Int), vs = [.ref t, .ref a, .int k, .int c] ∧ Own H t a n ps col ∧ 0 ≤ k ∧ k < n ∧ ∀ u L H', Same H H' → PtAt H' u L → ChainIs ps col k c L → Q (.ref u) H'
def spLExch : Sp := fun vs H Q _ => ∃ (t a : Addr) (n k c : Int) (ps : List (Int × Int)) (col : List Int), vs = [.ref t, .ref a, .int k, .int c] ∧ Own H t a n ps col ∧ 0 ≤ k ∧ k < n ∧
  ∀ u L H', Same H H' → ChainIs ps col k c L → PtAt H' u (sw col L (ix col k + c)) → Q (.ref u) H'
def spIs : Sp := fun vs H Q _ => ∃ (a b : Addr) (l : List Int), vs = [.ref a, .ref b] ∧ PtAt H a l ∧ PtAt H b l ∧ (∀ z ∈ l, 0 ≤ z ∧ z < 1000) ∧ l.length ≤ 100 ∧ Q (.bl true) H
def spRight (C : Addr) : Sp := fun vs H Q _ => ∃ (x a : Addr) (n q k c : Int) (ps : List (Int × Int)) (col : List Int), vs = [.ref x, .int q, .ref a, .int k, .int c] ∧ Pt C H x a n q ps col ∧ 0 ≤ k ∧ k < n ∧ 0 ≤ c ∧ c < q ∧ c ≠ ix col k ∧ ∀ H', Same H H' → Q (.bl true) H'
theorem shp_tup (ns : List Int) : SeqAt.shaped (.tuple (dI ns)) = true := shp_of
  (by simp only [PyData.canLay0]; exact can_ints ns) (by simp only [PyData.depth]; rw [dep_ints]; decide)
theorem cutV_mem {xs : List V} {lo hi : Option Int} {v : V} (h : v ∈ cutV xs lo hi) : v ∈ xs := by
  unfold cutV at h
  exact List.mem_of_mem_drop (List.mem_of_mem_take h)
section
variable {P : Program} {w : World} {K : PySem.W.Frag} {mg : Str → Option Value} {base : Heap}
theorem ok_l_is_good (T : Tx K mg) : FnOk P w K mg base CX0 1 T.f_l_is_good T.d_l_is_good ["ties", "painting"] spLGood := by
  refine T.F_l_is_good.ok sc_l_is_good (fun vs H Q E h => ?_) (fun cdv A outer s H vs Q E hr h => ?_)
  · obtain ⟨t, a, n, ps, col, rfl, _⟩ := h
    rfl
  obtain ⟨t, a, n, ps, col, rfl, S, g, q⟩ := h
  have lc := S.l
  have l16 := S.l16
  obtain ⟨vs, htv, hv⟩ := S.t
  have ha : H a = some (.tup (col.map V.int)) := S.p
  have lv := hv.len
  refine ⟨_, (pss_one (ps_ret (pe_callB (cr_all rfl) (by rfl) T.g_all (by decide +kernel) (pa_cons (pe_lc (own := [("u", 2), ("v", 3)]) (g := (gTup K 2 (gCons (gName 2) (gCons (gName 3) gNil)))) (tt := tYes) (te := (tOp _ (tOp (rIxT K) (tVar 1) (tVar 2)) (tOp (rIxT K) (tVar 1) (tVar 3)))) rfl sc_l_is_good.nd (pi_tup (pv 0)) (blkOk_by (own := [("u", 2), ("v", 3)]) (N := N_l_is_good) (sc := defScope s_l_is_good) (by decide +kernel)) (fun _ _ _ _ _ => (pg_tup rfl (pgs_cons (pg_name (i := 2) sc_l_is_good.nd rfl (.inl rfl)) (pgs_cons (pg_name (i := 3) sc_l_is_good.nd rfl (.inl rfl)) pgs_nil)))) (fun _ _ _ _ _ => pts_nil) (fun _ _ _ _ _ => (pe_cmpR op_ne (pe_ix ix_tup (pv 1) (pv 2) (fun _ _ => rfl)) (pe_ix ix_tup (pv 1) (pv 3) (fun _ _ => rfl)) (nomark _)))) pa_nil)))), ?_⟩
  refine ⟨_, rfl, t, rfl, ⟨_, SqT.of htv⟩, fun D nD => lc_tup (xs := vs) (fun i H' => Same H H' ∧ H' D = some (.lst ((List.replicate i true).map V.bl))) ⟨same_new nD _, upd_same⟩ (fun i H' _ ⟨sm, _⟩ => SqT.of (sm _ _ htv)) ?_ ?_⟩
  · intro j y H' hj ⟨sm, hD⟩
    obtain ⟨p, b, hp, ey, hb⟩ := (hv.same sm).get hj
    subst ey
    have hp' := List.mem_of_getElem? hp
    obtain ⟨o1, o2, o3⟩ := S.ok p hp'
    refine ⟨b, _, rfl, SqT.of hb, rfl, _, _, rfl, _, _, rfl, rfl, rfl, ?_⟩
    refine ⟨_, rfl, _, rfl, a, _, _, _, rfl, rfl, SqT.of (sm _ _ ha), ix_at o1 (by omega), _, rfl, _, rfl, a, _, _, _, rfl, rfl, SqT.of (sm _ _ ha), ix_at (by omega) (by omega), rfl, _, hD, small1000 ?_, fun o u ho => ?_, ?_⟩
    · rw [List.length_map, List.length_replicate]
      have := (List.getElem?_eq_some_iff.mp hj).1
      omega
    · rw [upd_ne (ne_of_none ho nD)]
      exact sm _ _ ho
    · rw [dec_vint, decide_eq_false (g p hp'), upd_same, List.replicate_succ', List.map_append]
      rfl
  · intro H2 ⟨sm, hD⟩
    refine ⟨D, _, rfl, SqL.of hD, ?_⟩
    have e2 : (List.replicate vs.length true).all id = true := by
      rw [List.all_replicate]
      cases vs.length <;> rfl
    rw [e2]
    exact q H2 sm
theorem ok_l_chain (T : Tx K mg) : FnOk P w K mg base CX0 1 T.f_l_chain T.d_l_chain ["ties", "painting", "place", "colour"] spLChain := by
  refine T.F_l_chain.ok sc_l_chain (fun vs H Q E h => ?_) (fun cdv A outer s H vs Q E hr h => ?_)
  · obtain ⟨t, a, n, k, c, ps, col, rfl, _⟩ := h
    rfl
  obtain ⟨t, a, n, k, c, ps, col, rfl, S, k0, k1, q⟩ := h
  have lc := S.l
  have n2 := S.n2
  have l16 := S.l16
  have ok := S.ok
  obtain ⟨vs, htv, hv⟩ := S.t
  have ha : H a = some (.tup (col.map V.int)) := S.p
  have lv := hv.len
  refine ⟨_, (pss_cons (ps_par (i := 4) (j := 5) rfl sc_l_chain.nd rfl rfl (by decide) rfl rfl (pa_cons (pe_lst (pa_cons (pv 2) pa_nil)) (pa_cons pe_int pa_nil)) (by rfl))
    (pss_cons (ps_while PassesOwn.never (pt_cmpR op_lt (pv 5) (pe_callB call_len_seq (by rfl) T.g_len PySem.boot_len (pa_cons (pv 4) pa_nil)) (nomark _))
      (pss_cons (ps_par (i := 6) (j := 5) rfl sc_l_chain.nd rfl rfl (by decide) rfl rfl (pa_cons (pe_ix ix_list (pv 4) (pv 5) (fun _ _ => rfl)) (pa_cons (pe_op op_add (pv 5) pe_int) pa_nil)) (by rfl))
        (pss_one (ps_for PassesOwn.never rfl (pi_tup (pv 0)) (pg_tup rfl (pgs_cons (pg_name (i := 7) sc_l_chain.nd rfl (.inl rfl)) (pgs_cons (pg_name (i := 8) sc_l_chain.nd rfl (.inl rfl)) pgs_nil)))
          (Evl.pss_cut (ps_set (i := 9) sc_l_chain.nd rfl (.inl rfl) (pe_ifExp (pt_cmpR op_eq (pv 6) (pv 7) (nomark _)) (pv 8) (pv 7)))
            (pss_one (ps_if (PW.pt (pw_and (pt_cmpR op_in_seq (pv 6) (pe_tup (pa_cons (pv 7) (pa_cons (pv 8) pa_nil))) (by rfl)) (pw_and (pt_cmpR op_notIn_seq (pv 9) (pv 4) (by rfl)) (pw_and1 (pt_cmpR op_in_seq (pe_ix ix_tup (pv 1) (pv 9) (fun _ _ => rfl)) (pe_tup (pa_cons (pe_ix ix_tup (pv 1) (pv 2) (fun _ _ => rfl)) (pa_cons (pv 3) pa_nil))) (by rfl))))))
              (pss_one (ps_expr (pe_bm PySem.F.plainAttrs_list PySem.F.slot_list_append PySem.F.type_list_append mt_append (pv 4) (pa_cons (pv 9) pa_nil))))
              pss_nil)))))))
    (pss_one (ps_ret (pe_callTy call_tuple_of (by rfl) T.g_tuple (by decide +kernel) (pa_cons (pe_callB cr_sortedI (by rfl) T.g_sorted (by decide +kernel) (pa_cons (pv 4) pa_nil)) pa_nil)))))), ?_⟩
  refine ⟨_, rfl, (by show 1 ≤ sizeLine; decide), fun F nF => ⟨_, _, rfl, ?_⟩⟩
  have sF := same_new nF (.lst [.int k])
  have hF0 : (L2.upd H F (.lst [.int k])) F = some (.lst [.int k]) := upd_same
  generalize L2.upd H F (.lst [.int k]) = H1 at *
  refine ⟨fun m σ' H' => ∃ fs j y0 y6 y7 y8 y9, σ' = [some (.ref t), some (.ref a), some (.int k), some (.int c), some (.ref F), some (.int ((j : Nat) : Int)), y6, y7, y8, y9] ∧ Same H H' ∧ H' F = some (.lst (fs.map V.int)) ∧ Fnd n ps col k c fs j y0 [] ∧ j ≤ fs.length ∧ m = n.toNat - j,
    ⟨_, [k], 0, 0, none, none, none, none, rfl, sF, hF0, Fnd.begin ⟨k0, k1⟩, Nat.zero_le _, rfl⟩, ?_⟩
  intro m σ' H3 ⟨fs, j, y0, y6, y7, y8, y9, e, s3, hF, hl, jl, em⟩
  subst e
  have lf := hl.len
  refine ⟨_, rfl, _, rfl, F, _, rfl, .inl (SqL.of hF), _, _, rfl, rfl, _, rfl, ?_⟩
  by_cases lt : j < fs.length
  · rw [decide_eq_true (show ((j : Nat) : Int) < (((fs.map V.int).length : Nat) : Int) by rw [List.length_map]; omega)]
    refine iteT ⟨_, fun _ _ z => z, ?_⟩
    have hz : fs[j]? = some fs[j] := List.getElem?_eq_getElem lt
    have hzm : fs[j] ∈ fs := List.getElem_mem lt
    generalize fs[j] = z at hz hzm
    have rz := hl.rg z hzm
    have gat : atI (fs.map V.int) ((j : Nat) : Int) = some (.int z) := atI_nat (by rw [List.getElem?_map, hz]; rfl)
    refine ⟨_, rfl, _, rfl, F, _, _, _, rfl, rfl, SqL.of hF, gat, _, rfl, _, 1, rfl, rfl, _, _, rfl, ?_⟩
    refine ⟨_, rfl, t, rfl, ⟨_, SqT.of (s3 _ _ htv)⟩, ?_⟩
    refine for_tup (xs := vs) (fun i σ H' => ∃ fs' y7 y8 y9, σ = [some (.ref t), some (.ref a), some (.int k), some (.int c), some (.ref F), some (.int ((j : Int) + 1)), some (.int z), y7, y8, y9] ∧ Same H H' ∧ H' F = some (.lst (fs'.map V.int)) ∧ Fnd n ps col k c fs' j z (ps.take i) ∧ fs'[j]? = some z)
      ⟨fs, y7, y8, y9, rfl, s3, hF, ⟨hl.nd, hl.rg, hl.rc, hl.me, hl.cl, fun z a => absurd a adj_nil⟩, hz⟩ (fun i σ H' _ ⟨_, _, _, _, _, s5, _⟩ => SqT.of (s5 _ _ htv)) ?_ ?_
    · intro i v σ H5 hi ⟨fs', y7, y8, y9, e, s5, hF, hl', hz'⟩
      subst e
      obtain ⟨p, b, hp, ev, hb⟩ := (hv.same s5).get hi
      subst ev
      have hp' := List.mem_of_getElem? hp
      obtain ⟨o1, o2, o3⟩ := ok p hp'
      have lj : j < fs'.length := (List.getElem?_eq_some_iff.mp hz').1
      have hzm' : z ∈ fs' := List.mem_of_getElem? hz'
      have ha5 := s5 _ _ ha
      have ht := take_snoc hp
      have lf' := hl'.len
      refine ⟨b, _, rfl, SqT.of hb, rfl, _, _, rfl, _, _, rfl, rfl, ?_⟩
      have gg : ∀ g : Int, g = (if z = p.1 then p.2 else p.1) → (p.1 = z ∨ p.2 = z) → Adj ps z g ∧ (0 ≤ g ∧ g < n) ∧ ∀ w, ((p.1 = z ∧ p.2 = w) ∨ (p.1 = w ∧ p.2 = z)) → w = g := fun g eg hz => by
        by_cases c1 : z = p.1
        · rw [if_pos c1] at eg
          subst eg
          exact ⟨⟨p, hp', .inl ⟨c1.symm, rfl⟩⟩, by omega, fun w hw => by omega⟩
        · rw [if_neg c1] at eg
          subst eg
          have c2 : p.2 = z := hz.resolve_left fun e => c1 e.symm
          exact ⟨⟨p, hp', .inr ⟨rfl, c2⟩⟩, by omega, fun w hw => by omega⟩
      refine ⟨fun σ' H' => H' = H5 ∧ σ' = [some (.ref t), some (.ref a), some (.int k), some (.int c), some (.ref F), some (.int ((j : Int) + 1)), some (.int z), some (.int p.1), some (.int p.2), some (.int (if z = p.1 then p.2 else p.1))], ?_, ?_⟩
      · refine ⟨_, rfl, _, rfl, rfl, _, rfl, ?_⟩
        rw [dec_vint]
        by_cases c1 : z = p.1
        · rw [decide_eq_true c1]
          exact iteT ⟨_, rfl, rfl, by rw [if_pos c1]; rfl⟩
        · rw [decide_eq_false c1]
          exact iteF ⟨_, rfl, rfl, by rw [if_neg c1]; rfl⟩
      intro σ' H6 ⟨eH, e⟩
      subst eH e
      obtain ⟨g, eg⟩ : ∃ g, g = (if z = p.1 then p.2 else p.1) := ⟨_, rfl⟩
      have gg := gg g eg
      rw [← eg]
      refine ⟨_, rfl, _, rfl, _, rfl, (by show 2 ≤ sizeLine; decide), fun S nS => ⟨S, _, rfl, .inr (SqT.of upd_same), rfl, flat_is [p.1, p.2], _, rfl, ?_⟩⟩
      have sS := same_new nS (.tup [.int p.1, .int p.2])
      have hFS := sS _ _ hF
      have s6 := s5.trans sS
      rw [if_neg Bool.false_ne_true, show inV (.int z) [.int p.1, .int p.2] = decide (z ∈ [p.1, p.2]) from in_ints (gs := [p.1, p.2])]
      generalize L2.upd H6 S (.tup [.int p.1, .int p.2]) = H7 at *
      by_cases m1 : z ∈ [p.1, p.2]
      · have m1' : p.1 = z ∨ p.2 = z := (List.mem_cons.mp m1).imp Eq.symm fun m => (List.mem_singleton.mp m).symm
        obtain ⟨ad, rg, one⟩ := gg m1'
        rw [decide_eq_true m1]
        refine iteT ⟨_, rfl, _, rfl, F, _, rfl, .inl (SqL.of hFS), rfl, flat_is _, _, rfl, ?_⟩
        rw [if_pos rfl, in_ints]
        by_cases m2 : g ∈ fs'
        · rw [decide_eq_true m2]
          exact iteF ⟨fs', _, _, _, rfl, s6, hFS, by rw [ht]; exact hl'.skip fun w hw _ => by rw [one w hw]; exact m2, hz'⟩
        · rw [decide_eq_false m2]
          have ha7 := s6 _ _ ha
          refine iteT ⟨_, rfl, _, rfl, a, _, _, _, rfl, rfl, SqT.of ha7, ix_at rg.1 (by omega), _, rfl, _, rfl, a, _, _, _, rfl, rfl, SqT.of ha7, ix_at k0 (by omega), _, rfl, (by show 2 ≤ sizeLine; decide), fun S2 nS2 => ⟨S2, _, rfl, .inr (SqT.of upd_same), rfl, flat_is [ix col k, c], _, rfl, ?_⟩⟩
          have sS2 := same_new nS2 (.tup [.int (ix col k), .int c])
          have hF8 := sS2 _ _ hFS
          have s8 := s6.trans sS2
          rw [if_neg Bool.false_ne_true, show inV (.int (ix col g)) [.int (ix col k), .int c] = decide (ix col g ∈ [ix col k, c]) from in_ints (gs := [ix col k, c])]
          generalize L2.upd H7 S2 (.tup [.int (ix col k), .int c]) = H8 at *
          by_cases m3 : ix col g ∈ [ix col k, c]
          · have i2 : In2 col (ix col k) c g := (List.mem_cons.mp m3).imp id fun m => List.mem_singleton.mp m
            rw [decide_eq_true m3]
            have mo := hl'.more lj hzm' ad i2 m2 rg one
            refine iteT ⟨_, rfl, .inl ⟨rfl, _, SqL.of hF8⟩, _, rfl, F, _, _, rfl, rfl, hF8, small1000 (by rw [List.length_map]; omega), ?_⟩
            refine ⟨fs' ++ [g], _, _, _, rfl, fun o u ho => ?_, ?_, by rw [ht]; exact mo, by rw [List.getElem?_append_left lj]; exact hz'⟩
            · rw [upd_ne (ne_of_none ho nF)]
              exact s8 _ _ ho
            · rw [upd_same, List.map_append]
              rfl
          · rw [decide_eq_false m3]
            have sk := hl'.skip (p := p) fun w hw i => by
              rw [one w hw] at i
              exact absurd (i.elim (fun e => by rw [e]; exact List.mem_cons_self) fun e => by rw [e]; exact List.mem_cons_of_mem _ List.mem_cons_self) m3
            exact iteF ⟨fs', _, _, _, rfl, s8, hF8, by rw [ht]; exact sk, hz'⟩
      · rw [decide_eq_false m1]
        have sk := hl'.skip (p := p) fun w hw i => absurd (hw.elim (fun e => by rw [e.1]; exact List.mem_cons_self) fun e => by rw [e.2]; exact List.mem_cons_of_mem _ List.mem_cons_self) m1
        exact iteF ⟨fs', _, _, _, rfl, s6, hFS, by rw [ht]; exact sk, hz'⟩
    · intro σ H5 ⟨fs', y7, y8, y9, e, s5, hF, hl', hz'⟩
      subst e
      rw [List.take_of_length_le (by omega)] at hl'
      have lj : j < fs'.length := (List.getElem?_eq_some_iff.mp hz').1
      exact ⟨n.toNat - (j + 1), by omega, fs', j + 1, 0, _, _, _, _, by rw [show (((j + 1 : Nat)) : Int) = (j : Int) + 1 by omega], s5, hF, hl'.turn hz', lj, rfl⟩
  · rw [decide_eq_false (show ¬ ((j : Nat) : Int) < (((fs.map V.int).length : Nat) : Int) by rw [List.length_map]; omega)]
    have ej : j = fs.length := by omega
    subst ej
    refine iteF ⟨_, rfl, F, fs, rfl, SqL.of hF, fun ms p hp hsrt np => ⟨p, _, rfl, .inl ⟨SqL.of upd_same, fun u nu => ?_⟩⟩⟩
    exact q u ms _ (s3.trans ((same_new np _).trans (same_new nu _))) upd_same (hl.chain hp hsrt)
theorem ok_l_exchanged (T : Tx K mg) : FnOk P w K mg base CX0 2 T.f_l_exchanged T.d_l_exchanged ["ties", "painting", "place", "colour"] spLExch := by
  refine T.F_l_exchanged.ok sc_l_exchanged (fun vs H Q E h => ?_) (fun cdv A outer s H vs Q E hr h => ?_)
  · obtain ⟨t, a, n, k, c, ps, col, rfl, _⟩ := h
    rfl
  obtain ⟨t, a, n, k, c, ps, col, rfl, S, k0, k1, q⟩ := h
  have lc := S.l
  have n2 := S.n2
  have ha : H a = some (.tup (col.map V.int)) := S.p
  refine ⟨_, (pss_cons (ps_par (i := 4) (j := 5) rfl sc_l_exchanged.nd rfl rfl (by decide) rfl rfl (pa_cons (pe_ix ix_tup (pv 1) (pv 2) (fun _ _ => rfl)) (pa_cons (pe_callTy call_list_of (by rfl) T.g_list (by decide +kernel) (pa_cons (pv 1) pa_nil)) pa_nil)) (by rfl))
    (pss_cons (ps_for PassesOwn.never rfl (pi_tup (pe_call (ok_l_chain T) (hr.mono (by decide)) (by rfl) T.m_l_chain T.F_l_chain.kp T.b_l_chain .nil pass0 (pa_cons (pv 0) (pa_cons (pv 1) (pa_cons (pv 2) (pa_cons (pv 3) pa_nil)))))) (pg_name (i := 6) sc_l_exchanged.nd rfl (.inl rfl))
      (pss_one (ps_asg (pe_ifExp (pt_cmpR op_eq (pe_ix ix_tup (pv 1) (pv 6) (fun _ _ => rfl)) (pv 4) (nomark _)) (pv 3) (pv 4)) (pg_sub (pv 5) (pv 6) set_list))))
    (pss_one (ps_ret (pe_callTy call_tuple_of (by rfl) T.g_tuple (by decide +kernel) (pa_cons (pv 5) pa_nil)))))), ?_⟩
  refine ⟨_, rfl, _, rfl, a, _, _, _, rfl, rfl, SqT.of ha, ix_at k0 (by omega), _, rfl, a, _, rfl, .inr (SqT.of ha), fun C nC => ⟨_, _, rfl, ?_⟩⟩
  have sC := same_new nC (.lst (col.map V.int))
  have hC : (L2.upd H C (.lst (col.map V.int))) C = some (.lst (col.map V.int)) := upd_same
  generalize L2.upd H C (.lst (col.map V.int)) = H1 at *
  have S1 := S.same sC
  refine ⟨_, rfl, _, rfl, _, rfl, _, rfl, t, a, n, k, c, ps, col, rfl, S1, k0, k1, fun u L H2 s2 hu ch => ?_⟩
  have hu : H2 u = some (.tup (L.map V.int)) := hu
  refine ⟨u, rfl, ⟨_, SqT.of hu⟩, for_tup (xs := L.map V.int) (fun j σ H' => ∃ y6, σ = [some (.ref t), some (.ref a), some (.int k), some (.int c), some (.int (ix col k)), some (.ref C), y6] ∧ Same H H' ∧ H' u = some (.tup (L.map V.int)) ∧ H' C = some (.lst ((sw col (L.take j) (ix col k + c)).map V.int)))
    ⟨none, rfl, sC.trans s2, hu, by rw [List.take_zero, sw_nil]; exact s2 _ _ hC⟩ (fun j σ H' _ ⟨_, _, _, hu, _⟩ => SqT.of hu) ?_ ?_⟩
  · intro j v σ H' hj ⟨y6, e, sm, hu, hC⟩
    subst e
    obtain ⟨z, hz, ev⟩ := mint hj
    subst ev
    have rc := (ch.2 z).mp (List.mem_of_getElem? hz)
    have r := Rc.rng S.ok ⟨k0, k1⟩ rc
    have i2 := rc.in2 (.inl rfl)
    refine ⟨_, rfl, _, rfl, a, _, _, _, rfl, rfl, SqT.of (sm _ _ ha), ix_at r.1 (by omega), _, rfl, rfl, _, rfl, ?_⟩
    rw [dec_vint]
    have fin : ∀ v : Int, v = ix col k + c - ix col z → ∃ y6, [some (V.ref t), some (.ref a), some (.int k), some (.int c), some (.int (ix col k)), some (.ref C), some (.int z)] = [some (V.ref t), some (.ref a), some (.int k), some (.int c), some (.int (ix col k)), some (.ref C), y6] ∧ Same H (L2.upd H' C (.lst (((sw col (L.take j) (ix col k + c)).map V.int).set z.toNat (.int v)))) ∧
        (L2.upd H' C (.lst (((sw col (L.take j) (ix col k + c)).map V.int).set z.toNat (.int v)))) u = some (.tup (L.map V.int)) ∧ (L2.upd H' C (.lst (((sw col (L.take j) (ix col k + c)).map V.int).set z.toNat (.int v)))) C = some (.lst ((sw col (L.take (j + 1)) (ix col k + c)).map V.int)) := fun v ev => by
      refine ⟨_, rfl, fun o x ho => ?_, ?_, ?_⟩
      · rw [upd_ne (ne_of_none ho nC)]
        exact sm _ _ ho
      · rw [upd_ne (ne_of hu hC (by intro z; cases z))]
        exact hu
      · rw [upd_same, take_snoc hz, ← sw_set r.1 (by omega), List.map_set, ev]
    by_cases g : ix col z = ix col k
    · rw [decide_eq_true g]
      exact iteT ⟨_, rfl, _, rfl, _, rfl, C, _, z, z.toNat, rfl, rfl, hC, ixN_of r.1 (by rw [List.length_map, sw_len]; omega), fin c (by omega)⟩
    · rw [decide_eq_false g]
      have gc : ix col z = c := i2.resolve_left g
      exact iteF ⟨_, rfl, _, rfl, _, rfl, C, _, z, z.toNat, rfl, rfl, hC, ixN_of r.1 (by rw [List.length_map, sw_len]; omega), fin (ix col k) (by omega)⟩
  · intro σ H' ⟨y6, e, sm, hu, hC⟩
    subst e
    rw [List.length_map, List.take_of_length_le (Nat.le_refl _)] at hC
    refine ⟨_, rfl, C, _, rfl, .inl ⟨SqL.of hC, fun u2 nu => ?_⟩⟩
    exact q u2 L _ (sm.trans (same_new nu _)) ch upd_same
theorem ok_l_is (T : Tx K mg) : KG.FnG P w K mg base 1 T.f_l_is T.d_l_is ["told", "due"] spIs := by
  refine KG.okG T.F_l_is sc_l_is (fun vs H Q E h => ?_) (fun cdv A outer s H vs Q E hgd hr h => ?_)
  · obtain ⟨a, b, l, rfl, _⟩ := h
    rfl
  obtain ⟨a, b, l, rfl, ha, hb, hz, hl, q⟩ := h
  have dp : ∀ {a : Addr}, PtAt H a l → Dp K H (.ref a) (.tuple (dI l)) := fun ha => .tup (SqT.of ha) (dpa_ints l)
  have sh : PyData.showable (.tuple (dI l)) = true := by
    simp only [PyData.showable]
    exact showable_ints l fun z h => log_small (hz z h).1 (hz z h).2
  have sz := shown_tup (l := l) (fun z h => log_small (hz z h).1 (hz z h).2) hl
  refine ⟨_, (pss_one (ps_ret (pe_cmpR op_eq (pe_callB (KG.cr_repr hgd (hu70 hr)) (by rfl) T.g_repr (by decide +kernel) (pa_cons (pv 0) pa_nil)) (pe_callB (KG.cr_repr hgd (hu70 hr)) (by rfl) T.g_repr (by decide +kernel) (pa_cons (pv 1) pa_nil)) (nomark _)))), ?_⟩
  refine ⟨_, rfl, a, _, rfl, dp ha, shp_tup l, sh, sz, _, rfl, b, _, rfl, dp hb, shp_tup l, sh, sz, rfl, ?_⟩
  rw [decide_eq_true rfl]
  exact q
theorem np {σ : L2.St} {H : Hp} {Q : Option Int → Hp → Prop} (h : Q none H) : tNoPart σ H Q := h
theorem ok_l_is_right (T : Tx K mg) : KG.FnG P w K mg base 9 T.f_l_is_right T.d_l_is_right ["web", "q", "painting", "place", "colour"] (spRight T.C_Web) := by
  refine KG.okG T.F_l_is_right sc_l_is_right (fun vs H Q E h => ?_) (fun cdv A outer s H vs Q E hgd hr h => ?_)
  · obtain ⟨x, a, n, i, k, c, ps, col, rfl, _⟩ := h
    rfl
  obtain ⟨x, a, n, i, k, c, ps, col, rfl, S, k0, k1, c0, c1, ne, q⟩ := h
  obtain ⟨dx, t, hx, ht⟩ := S.w
  have ha : H a = some (.tup (col.map V.int)) := S.p
  have lc := S.G.l
  have n1 := S.G.n1
  have n2 := S.G.n2
  have O : Own H t a n ps col := ⟨ht, S.p, lc, n2, S.G.ok, S.l16⟩
  have small : ∀ {l : List Int}, (∀ z ∈ l, 0 ≤ z ∧ z < 10) → ∀ z ∈ l, 0 ≤ z ∧ z < 1000 := fun h z hz => by have := h z hz; omega
  have q6 := S.q6
  refine ⟨_, (pss_cons (ps_par (i := 5) (j := 6) rfl sc_l_is_right.nd rfl rfl (by decide) rfl rfl (pa_cons (pe_fld (pv 0) rfl) (pa_cons (pe_ix ix_tup (pv 2) (pv 3) (fun _ _ => rfl)) pa_nil)) (by rfl))
    (pss_cons (ps_par (i := 7) (j := 8) rfl sc_l_is_right.nd rfl rfl (by decide) rfl rfl (pa_cons (pe_call (ok_l_chain T) (hr.mono (by decide)) (by rfl) T.m_l_chain T.F_l_chain.kp T.b_l_chain .nil pass0 (pa_cons (pv 5) (pa_cons (pv 2) (pa_cons (pv 3) (pa_cons (pv 4) pa_nil))))) (pa_cons (pe_call (ok_l_exchanged T) (hr.mono (by decide)) (by rfl) T.m_l_exchanged T.F_l_exchanged.kp T.b_l_exchanged .nil pass0 (pa_cons (pv 5) (pa_cons (pv 2) (pa_cons (pv 3) (pa_cons (pv 4) pa_nil))))) pa_nil)) (by rfl))
    (pss_cons (ps_if (PW.pt (pw_or (pt_not (pt_val (KG.pe_callG hgd (ok_l_is T) (hr.mono (by decide)) (by rfl) T.m_l_is T.F_l_is.kp T.b_l_is (pa_cons (pe_call (ok_chain T) (hr.mono (by decide)) (by rfl) T.m_chain T.F_chain.kp T.b_chain .nil pass0 (pa_cons (pv 0) (pa_cons (pv 1) (pa_cons (pv 2) (pa_cons (pv 3) (pa_cons (pv 4) pa_nil)))))) (pa_cons (pv 7) pa_nil))))) (pw_or1 (pt_not (pt_val (pe_call (ok_l_is_good T) (hr.mono (by decide)) (by rfl) T.m_l_is_good T.F_l_is_good.kp T.b_l_is_good .nil pass0 (pa_cons (pv 5) (pa_cons (pv 8) pa_nil))))))))
      (pss_one (ps_ret pe_bl))
      pss_nil)
    (pss_cons (ps_set (i := 9) sc_l_is_right.nd rfl (.inl rfl) (pe_call (ok_exchanged T) (hr.mono (by decide)) (by rfl) T.m_exchanged T.F_exchanged.kp T.b_exchanged .nil pass0 (pa_cons (pv 0) (pa_cons (pv 1) (pa_cons (pv 2) (pa_cons (pv 3) (pa_cons (pv 4) pa_nil)))))))
    (pss_cons (ps_if (PW.pt (pw_or (pt_not (pt_val (KG.pe_callG hgd (ok_l_is T) (hr.mono (by decide)) (by rfl) T.m_l_is T.F_l_is.kp T.b_l_is (pa_cons (pv 9) (pa_cons (pv 8) pa_nil))))) (pw_or1 (pt_not (pt_val (KG.pe_callG hgd (ok_l_is T) (hr.mono (by decide)) (by rfl) T.m_l_is T.F_l_is.kp T.b_l_is (pa_cons (pe_call (ok_chain T) (hr.mono (by decide)) (by rfl) T.m_chain T.F_chain.kp T.b_chain .nil pass0 (pa_cons (pv 0) (pa_cons (pv 1) (pa_cons (pv 9) (pa_cons (pv 3) (pa_cons (pv 6) pa_nil)))))) (pa_cons (pv 7) pa_nil))))))))
      (pss_one (ps_ret pe_bl))
      pss_nil)
    (pss_cons (ps_if (pt_not (pt_val (KG.pe_callG hgd (ok_l_is T) (hr.mono (by decide)) (by rfl) T.m_l_is T.F_l_is.kp T.b_l_is (pa_cons (pe_call (ok_exchanged T) (hr.mono (by decide)) (by rfl) T.m_exchanged T.F_exchanged.kp T.b_exchanged .nil pass0 (pa_cons (pv 0) (pa_cons (pv 1) (pa_cons (pv 9) (pa_cons (pv 3) (pa_cons (pv 6) pa_nil)))))) (pa_cons (pv 2) pa_nil)))))
      (pss_one (ps_ret pe_bl))
      pss_nil)
    (pss_cons (ps_for PassesOwn.never rfl (pi_tup (pe_op op_catA (pe_slice sl_tupA (pv 7) po_none (po_some pe_int)) (pe_slice sl_tupA (pv 7) (po_some (pe_un un_neg pe_int)) po_none))) (pg_name (i := 10) sc_l_is_right.nd rfl (.inl rfl))
      (pss_cons (ps_set (i := 11) sc_l_is_right.nd rfl (.inl rfl) (pe_ifExp (pt_cmpR op_eq (pe_ix ix_tup (pv 2) (pv 10) (fun _ _ => rfl)) (pv 6) (nomark _)) (pv 4) (pv 6)))
        (pss_cons (ps_if (pt_not (pt_val (KG.pe_callG hgd (ok_l_is T) (hr.mono (by decide)) (by rfl) T.m_l_is T.F_l_is.kp T.b_l_is (pa_cons (pe_call (ok_chain T) (hr.mono (by decide)) (by rfl) T.m_chain T.F_chain.kp T.b_chain .nil pass0 (pa_cons (pv 0) (pa_cons (pv 1) (pa_cons (pv 2) (pa_cons (pv 10) (pa_cons (pv 11) pa_nil)))))) (pa_cons (pv 7) pa_nil)))))
          (pss_one (ps_ret pe_bl))
          pss_nil)
        (pss_one (ps_if (pt_not (pt_val (KG.pe_callG hgd (ok_l_is T) (hr.mono (by decide)) (by rfl) T.m_l_is T.F_l_is.kp T.b_l_is (pa_cons (pe_call (ok_exchanged T) (hr.mono (by decide)) (by rfl) T.m_exchanged T.F_exchanged.kp T.b_exchanged .nil pass0 (pa_cons (pv 0) (pa_cons (pv 1) (pa_cons (pv 2) (pa_cons (pv 10) (pa_cons (pv 11) pa_nil)))))) (pa_cons (pv 8) pa_nil)))))
          (pss_one (ps_ret pe_bl))
          pss_nil)))))
    (pss_one (ps_ret pe_bl))))))))), ?_⟩
  refine ⟨_, rfl, x, T.C_Web, dx, _, _, rfl, hx, T.cl_Web, T.no_Web_ties, wf_ties n t, _, rfl, _, rfl, a, _, _, _, rfl, rfl, SqT.of ha, ix_at k0 (by omega), _, _, rfl, ?_⟩
  refine ⟨_, rfl, _, rfl, _, rfl, _, rfl, t, a, n, k, c, ps, col, rfl, O, k0, k1, fun u L H1 s1 hu ch => ?_⟩
  have X : Exch n i ps col k c L := ⟨S.G, k0, k1, c0, c1, ne, ch⟩
  have Lr : ∀ z ∈ L, 0 ≤ z ∧ z < 10 := fun z hz => by have := X.rng hz; omega
  have Ll : L.length ≤ 100 := by
    have := nodup_len (n := n) (ch.1.imp fun {a b} h => by omega) fun z hz => X.rng hz
    omega
  refine ⟨_, rfl, _, rfl, _, rfl, _, rfl, t, a, n, k, c, ps, col, rfl, O.same s1, k0, k1, fun v L' H2 s2 ch' hv => ⟨_, _, rfl, ?_⟩⟩
  have eL := ch.one ch'
  subst eL
  have s12 := s1.trans s2
  have G2 := X.good
  have Wr : ∀ z ∈ sw col L (ix col k + c), 0 ≤ z ∧ z < 10 := fun z hz => by have := G2.r z hz; omega
  have Wl : (sw col L (ix col k + c)).length ≤ 100 := by rw [sw_len]; omega
  have Cr : ∀ z ∈ col, 0 ≤ z ∧ z < 10 := fun z hz => by have := S.G.r z hz; omega
  have hu2 := hu.same s2
  -- the chain, the law's look at what is due
  refine ⟨_, rfl, _, rfl, _, rfl, _, rfl, _, rfl, x, a, n, i, k, c, ps, col, L, rfl, S.same s12, X, fun d H3 s3 hd => ?_⟩
  refine ⟨_, rfl, d, u, L, rfl, hd, hu2.same s3, small Lr, Ll, true, rfl, iteF ?_⟩
  have s13 := s12.trans s3
  have hv3 := hv.same s3
  have hu3 := hu2.same s3
  refine ⟨_, rfl, _, rfl, t, v, n, ps, _, rfl, ⟨ht.same s13, hv3, G2.l, n2, S.G.ok, S.l16⟩, G2.g, fun H4 s4 => ⟨true, rfl, iteF ?_⟩⟩
  have s14 := s13.trans s4
  have hv4 := hv3.same s4
  have hu4 := hu3.same s4
  -- the exchange
  refine ⟨_, rfl, _, rfl, _, rfl, _, rfl, _, rfl, x, a, n, i, k, c, ps, col, L, rfl, S.same s14, X, fun d5 H5 s5 hd5 => ?_⟩
  have hv5 := hv4.same s5
  have hu5 := hu4.same s5
  have s15 := s14.trans s5
  refine ⟨_, rfl, _, rfl, d5, v, _, rfl, hd5, hv5, small Wr, Wl, true, rfl, iteF ?_⟩
  have P5 : Pt T.C_Web H5 x d5 n i ps (sw col L (ix col k + c)) := ⟨S.w.same s15, hd5, G2, S.l16, S.q1, S.q6⟩
  have X5 := X.back
  refine ⟨_, rfl, _, rfl, _, rfl, _, rfl, _, rfl, x, d5, n, i, k, ix col k, ps, _, L, rfl, P5, X5, fun d6 H6 s6 hd6 => ?_⟩
  have hu6 := hu5.same s6
  refine ⟨_, rfl, d6, u, L, rfl, hd6, hu6, small Lr, Ll, true, rfl, iteF ?_⟩
  have s16 := s15.trans s6
  refine ⟨_, rfl, _, rfl, _, rfl, _, rfl, _, rfl, x, d5, n, i, k, ix col k, ps, _, L, rfl, P5.same s6, X5, fun d7 H7 s7 hd7 => ?_⟩
  have s17 := s16.trans s7
  rw [X.back_is] at hd7
  refine ⟨_, rfl, d7, a, col, rfl, hd7, S.p.same s17, small Cr, by omega, true, rfl, iteF ?_⟩
  have hu7 : H7 u = some (.tup (L.map V.int)) := hu6.same s7
  have hv7 := (hv5.same s6).same s7
  -- any place of it
  refine ⟨_, rfl, 1, rfl, sl_go hu7 fun p1 H8 s8 h8 => ?_⟩
  refine ⟨_, rfl, 1, rfl, -1, rfl, ?_⟩
  refine np ?_
  refine sl_go (s8 _ _ hu7) fun p2 H9 s9 h9 => ?_
  refine cat_go (s9 _ _ h8) h9 ?_ fun p3 H10 s10 h10 => ?_
  · have e1 := cutV_length (L.map V.int) none (some 1)
    have e2 := cutV_length (L.map V.int) (some (-1)) none
    rw [List.length_map] at e1 e2
    omega
  refine ⟨p3, rfl, ⟨_, SqT.of h10⟩, ?_⟩
  have s8a := s8.trans (s9.trans s10)
  refine for_tup (fun j σ H' => ∃ y10 y11, σ = [some (.ref x), some (.int i), some (.ref a), some (.int k), some (.int c), some (.ref t), some (.int (ix col k)), some (.ref u), some (.ref v), some (.ref d5), y10, y11] ∧ Same H10 H')
    ⟨none, none, rfl, Same.refl _⟩ (fun j σ H' _ ⟨_, _, _, sm⟩ => SqT.of (sm _ _ h10)) ?_ ?_
  · intro j w0 σ H' hj ⟨y10, y11, e, sm⟩
    subst e
    have mem : w0 ∈ L.map V.int := by
      rcases List.mem_append.mp (List.mem_of_getElem? hj) with m | m
      · exact cutV_mem m
      · exact cutV_mem m
    obtain ⟨z, hz, ez⟩ := List.mem_map.mp mem
    subst ez
    obtain ⟨XE, es⟩ := X.else hz
    have r := X.rng hz
    have sA := s17.trans (s8a.trans sm)
    have sB := s8a.trans sm
    have haA : H' a = some (.tup (col.map V.int)) := S.p.same sA
    refine ⟨_, rfl, _, rfl, a, _, _, _, rfl, rfl, SqT.of haA, ix_at r.1 (by omega), _, rfl, rfl, _, rfl, ?_⟩
    rw [dec_vint]
    have fin : ∀ o : Int, o = (if ix col z = ix col k then c else ix col k) → ∀ S11 : Pt T.C_Web H' x a n i ps col, Exch n i ps col z o L ∧ ix col z + o = ix col k + c := fun o eo _ => by rw [eo]; exact ⟨XE, es⟩
    have SA := S.same sA
    by_cases g : ix col z = ix col k
    · rw [decide_eq_true g]
      obtain ⟨XZ, eZ⟩ := fin c (by rw [if_pos g]) SA
      refine iteT ⟨_, rfl, ?_⟩
      refine ⟨_, rfl, _, rfl, _, rfl, _, rfl, _, rfl, x, a, n, i, z, c, ps, col, L, rfl, SA, XZ, fun d11 H11 s11 hd11 => ?_⟩
      refine ⟨_, rfl, d11, u, L, rfl, hd11, PtAt.same (sB.trans s11) hu7, small Lr, Ll, true, rfl, iteF ?_⟩
      refine ⟨_, rfl, _, rfl, _, rfl, _, rfl, _, rfl, x, a, n, i, z, c, ps, col, L, rfl, SA.same s11, XZ, fun d12 H12 s12' hd12 => ?_⟩
      rw [eZ] at hd12
      refine ⟨_, rfl, d12, v, _, rfl, hd12, hv7.same ((sB.trans s11).trans s12'), small Wr, Wl, true, rfl, iteF ?_⟩
      exact ⟨_, _, rfl, sm.trans (s11.trans s12')⟩
    · rw [decide_eq_false g]
      obtain ⟨XZ, eZ⟩ := fin (ix col k) (by rw [if_neg g]) SA
      refine iteF ⟨_, rfl, ?_⟩
      refine ⟨_, rfl, _, rfl, _, rfl, _, rfl, _, rfl, x, a, n, i, z, ix col k, ps, col, L, rfl, SA, XZ, fun d11 H11 s11 hd11 => ?_⟩
      refine ⟨_, rfl, d11, u, L, rfl, hd11, PtAt.same (sB.trans s11) hu7, small Lr, Ll, true, rfl, iteF ?_⟩
      refine ⟨_, rfl, _, rfl, _, rfl, _, rfl, _, rfl, x, a, n, i, z, ix col k, ps, col, L, rfl, SA.same s11, XZ, fun d12 H12 s12' hd12 => ?_⟩
      rw [eZ] at hd12
      refine ⟨_, rfl, d12, v, _, rfl, hd12, hv7.same ((sB.trans s11).trans s12'), small Wr, Wl, true, rfl, iteF ?_⟩
      exact ⟨_, _, rfl, sm.trans (s11.trans s12')⟩
  · intro σ H' ⟨y10, y11, e, sm⟩
    subst e
    exact q H' (s17.trans (s8a.trans sm))
def EqWeb (C : Addr) (a b : Addr) (H : Hp) : Prop := ∃ n ps, WebAt C H a n ps ∧ WebAt C H b n ps
theorem kit_self {C : Addr} : PySem.W.kitOne K (.ref C) (.ref C) = some true := by
  unfold PySem.W.kitOne
  rw [if_pos (by simp)]
theorem ty_web (T : Tx K mg) {H : Hp} {x dx : Addr} {fs : List (Str × V)} (h : H x = some (.ins T.C_Web dx fs)) : TyX K H (.ref x) (.ref T.C_Web) :=
  .base (.ins h T.cl_Web T.ic_Web T.ia T.ib T.im_Web)
theorem ok_webE (T : Tx K mg) : FnOk P w K mg base CX0 1 T.f_webE T.d_webE ["self", "other"] (spEq (EqWeb T.C_Web)) := by
  refine T.F_webE.ok sc_webE (fun vs H Q E h => ?_) (fun cdv A outer s H vs Q E hr h => ?_)
  · obtain ⟨a, b, rfl, _⟩ := h
    rfl
  obtain ⟨a, b, rfl, ⟨n, ps, ⟨dx, t, ha, ta⟩, dy, u, hb, tb⟩, q⟩ := h
  refine ⟨_, (pss_one (ps_ret (pe_and (pe_callB call_isi (by rfl) T.g_isinstance (by decide +kernel) (pa_cons (pv 1) (pa_cons (pe_glob (v := .ref T.C_Web) rfl T.m_Web rfl) pa_nil))) (pe_and (pe_cmpR op_eq (pe_fld (pv 0) rfl) (pe_fld (pv 1) rfl) (nomark _)) (pe_one (pe_cmpR (op_eqD hr.units) (pe_fld (pv 0) rfl) (pe_fld (pv 1) rfl) (nomark _))))))), ?_⟩
  refine ⟨_, rfl, _, _, _, _, _, rfl, .own _, ty_web T hb, kit_self, true, rfl, iteT ?_⟩
  refine ⟨_, rfl, a, T.C_Web, dx, _, _, rfl, ha, T.cl_Web, T.no_Web_many, wf_many n t, _, rfl, b, T.C_Web, dy, _, _, rfl, hb, T.cl_Web, T.no_Web_many, wf_many n u, rfl, _, rfl, ?_⟩
  rw [decide_eq_true rfl]
  refine iteT ?_
  refine ⟨_, rfl, a, T.C_Web, dx, _, _, rfl, ha, T.cl_Web, T.no_Web_ties, wf_ties n t, _, rfl, b, T.C_Web, dy, _, _, rfl, hb, T.cl_Web, T.no_Web_ties, wf_ties n u, ?_⟩
  refine ⟨_, _, dp_ties ta, dp_ties tb, shp_prs _, shp_prs _, ?_⟩
  rw [eqv_same (shp_prs _)]
  exact q H (fun _ _ e => e)
def spLaw (K : PySem.W.Frag) : Sp := fun vs H Q _ => ∃ (a : Addr) (ns : List Int), vs = [.ref a] ∧ SqL K H a (ns.map V.int) ∧ ns.length ≤ 63 ∧ ∀ H', Q (.bl true) H'
def MidL (a h c : Addr) : L2.St → Hp → Prop := fun σ H' => ∃ (t p : Addr) (n q : Int) (ps : List (Int × Int)) (col : List Int) (y2 y7 y8 y9 : Option V), σ = [some (.ref a), some (.ref h), y2, some (.int q), some (.int n), some (.ref t), some (.ref p), y7, y8, y9] ∧ HandAt H' h c ∧
  TiesAt H' t ps ∧ PtAt H' p col ∧ ps.length ≤ 16 ∧ 1 ≤ q ∧ q ≤ 6 ∧ Good n q ps col
theorem ok_law (T : Tx K mg) : KG.FnG P w K mg base 12 T.f_law T.d_law ["script"] (spLaw K) := by
  refine KG.okG T.F_law sc_law (fun vs H Q E h => ?_) (fun cdv A outer s H vs Q E hgd hr h => ?_)
  · obtain ⟨a, ns, rfl, _⟩ := h
    rfl
  obtain ⟨a, ns, rfl, ha, hl, q⟩ := h
  refine ⟨_, (pss_cons (ps_set (i := 1) sc_law.nd rfl (.inl rfl) (pe_call (ok_l_hand T) (hr.mono (by decide)) (by rfl) T.m_l_hand T.F_l_hand.kp T.b_l_hand .nil pass0 (pa_cons (pv 0) pa_nil)))
    (pss_cons (ps_for PassesOwn.never rfl (pi_range1 (by rfl) T.g_range (pa_cons pe_int pa_nil)) (pg_name (i := 2) sc_law.nd rfl (.inl rfl))
      (pss_cons (ps_par (i := 3) (j := 4) rfl sc_law.nd rfl rfl (by decide) rfl rfl (pa_cons (pe_op op_add pe_int (pe_call (ok_l_draw T) (hr.mono (by decide)) (by rfl) T.m_l_draw T.F_l_draw.kp T.b_l_draw .nil pass0 (pa_cons (pv 1) (pa_cons pe_int pa_nil)))) (pa_cons (pe_op op_add pe_int (pe_call (ok_l_draw T) (hr.mono (by decide)) (by rfl) T.m_l_draw T.F_l_draw.kp T.b_l_draw .nil pass0 (pa_cons (pv 1) (pa_cons (pe_call (ok_l_some T) (hr.mono (by decide)) (by rfl) T.m_l_some T.F_l_some.kp T.b_l_some .nil pass0 (pa_cons (pv 1) (pa_cons (pe_lst (pa_cons pe_int (pa_cons pe_int (pa_cons pe_int pa_nil)))) pa_nil))) pa_nil)))) pa_nil)) (by rfl))
        (pss_cons (ps_asg (pe_call (ok_l_planted T) (hr.mono (by decide)) (by rfl) T.m_l_planted T.F_l_planted.kp T.b_l_planted .nil pass0 (pa_cons (pv 1) (pa_cons (pv 3) (pa_cons (pv 4) (pa_cons (pe_call (ok_l_some T) (hr.mono (by decide)) (by rfl) T.m_l_some T.F_l_some.kp T.b_l_some .nil pass0 (pa_cons (pv 1) (pa_cons (pe_lst (pa_cons (pv 4) (pa_cons pe_int pa_nil))) pa_nil))) pa_nil))))) (pg_tup rfl (pgs_cons (pg_name (i := 5) sc_law.nd rfl (.inl rfl)) (pgs_cons (pg_name (i := 6) sc_law.nd rfl (.inl rfl)) pgs_nil))))
        (Evl.pss_cut (ps_if (pt_cmpR op_eq (pe_call (ok_l_draw T) (hr.mono (by decide)) (by rfl) T.m_l_draw T.F_l_draw.kp T.b_l_draw .nil pass0 (pa_cons (pv 1) (pa_cons pe_int pa_nil))) pe_int (nomark _))
          (pss_one (ps_asg (pe_call (ok_l_long T) (hr.mono (by decide)) (by rfl) T.m_l_long T.F_l_long.kp T.b_l_long .nil pass0 (pa_cons (pv 1) pa_nil)) (pg_tup rfl (pgs_cons (pg_name (i := 3) sc_law.nd rfl (.inl rfl)) (pgs_cons (pg_name (i := 4) sc_law.nd rfl (.inl rfl)) (pgs_cons (pg_name (i := 5) sc_law.nd rfl (.inl rfl)) (pgs_cons (pg_name (i := 6) sc_law.nd rfl (.inl rfl)) pgs_nil)))))))
          pss_nil)
        (pss_cons (ps_set (i := 7) sc_law.nd rfl (.inl rfl) (pe_make T.mk_Web (ok_webI T) (hr.mono (by decide)) (by rfl) T.m_Web T.b_webI .nil pass0 (pa_cons (pv 4) (pa_cons (pv 5) pa_nil))))
        (pss_cons (ps_for PassesOwn.never rfl (pi_range1 (by rfl) T.g_range (pa_cons (pv 4) pa_nil)) (pg_name (i := 8) sc_law.nd rfl (.inl rfl))
          (pss_one (ps_for PassesOwn.never rfl (pi_range1 (by rfl) T.g_range (pa_cons (pv 3) pa_nil)) (pg_name (i := 9) sc_law.nd rfl (.inl rfl))
              (pss_one (ps_if (PW.pt (pw_and (pt_cmpR op_ne (pv 9) (pe_ix ix_tup (pv 6) (pv 8) (fun _ _ => rfl)) (nomark _)) (pw_and1 (pt_not (pt_val (KG.pe_callG hgd (ok_l_is_right T) (hr.mono (by decide)) (by rfl) T.m_l_is_right T.F_l_is_right.kp T.b_l_is_right (pa_cons (pv 7) (pa_cons (pv 3) (pa_cons (pv 6) (pa_cons (pv 8) (pa_cons (pv 9) pa_nil)))))))))))
                  (pss_one (ps_ret pe_bl))
                  pss_nil)))))
        (pss_one (ps_if (pt_cmpR (KN.op_neG (ok_webE T) T.im_Web T.eq_Web T.ne_Web T.eqf_Web T.b_webE pass0 (hr.mono (by decide))) (pv 7) (pe_make T.mk_Web (ok_webI T) (hr.mono (by decide)) (by rfl) T.m_Web T.b_webI .nil pass0 (pa_cons (pv 4) (pa_cons (pv 5) pa_nil))) (nomark _))
          (pss_one (ps_ret pe_bl))
          pss_nil))))))))
    (pss_one (ps_ret pe_bl)))), ?_⟩
  refine ⟨_, rfl, a, ns, rfl, ha, hl, fun h c H1 nh nc s1 hd => ?_⟩
  refine ⟨3, rfl, by decide, by decide, ?_⟩
  refine for_range (lo := 0) (n := (3 : Int).toNat) (fun j σ H' => ∃ y2 y3 y4 y5 y6 y7 y8 y9, σ = [some (.ref a), some (.ref h), y2, y3, y4, y5, y6, y7, y8, y9] ∧ HandAt H' h c) ⟨none, none, none, none, none, none, none, none, rfl, hd⟩ ?_ ?_
  · clear hd ha hl s1 nh nc
    intro j σ H2 hj ⟨y2, y3, y4, y5, y6, y7, y8, y9, e, hd⟩
    subst e
    refine ⟨_, rfl, h, c, _, rfl, by omega, by omega, hd, fun d H3 d0 d1 k3 hd3 => ⟨1, d, rfl, rfl, _, rfl, _, rfl, (by show 3 ≤ sizeLine; decide), fun G nG => ?_⟩⟩
    refine ⟨h, c, G, [.int 4, .int 7, .int 10], rfl, SqL.of upd_same, (hd3.ne nG).1, by decide, by decide, hd3.same (same_new nG _), fun v H4 hv k4 hd4 => ?_⟩
    obtain ⟨m, rfl, m0, m1⟩ : ∃ m : Int, v = .int m ∧ 1 ≤ m ∧ m ≤ 10 := by
      rcases List.mem_cons.mp hv with e | hv
      · exact ⟨4, e, by decide, by decide⟩
      rcases List.mem_cons.mp hv with e | hv
      · exact ⟨7, e, by decide, by decide⟩
      exact ⟨10, List.mem_singleton.mp hv, by decide, by decide⟩
    refine ⟨h, c, m, rfl, by omega, by omega, hd4, fun e H5 e0 e1 k5 hd5 => ⟨1, e, rfl, rfl, _, _, rfl, ?_⟩⟩
    refine ⟨_, rfl, _, rfl, _, rfl, _, rfl, _, rfl, (by show 2 ≤ sizeLine; decide), fun G2 nG2 => ?_⟩
    refine ⟨h, c, G2, _, rfl, SqL.of upd_same, (hd5.ne nG2).1, by show 0 < 2; decide, by show 2 < 1000000; decide, hd5.same (same_new nG2 _), fun v H6 hv k6 hd6 => ?_⟩
    obtain ⟨mo, rfl, mo0, mo1⟩ : ∃ m : Int, v = .int m ∧ 0 ≤ m ∧ m ≤ 16 := by
      rcases List.mem_cons.mp hv with e' | hv
      · exact ⟨1 + e, e', by omega, by omega⟩
      exact ⟨16, List.mem_singleton.mp hv, by decide, by decide⟩
    refine ⟨h, c, 1 + d, 1 + e, mo, rfl, hd6, by omega, by omega, by omega, by omega, by omega, by omega, fun y t p ps col H7 k7 hd7 hy ht hp l16 G7 => ?_⟩
    refine ⟨y, _, rfl, SqT.of hy, rfl, _, _, rfl, _, _, rfl, rfl, ?_⟩
    refine ⟨MidL a h c, ?_, ?_⟩
    · refine ⟨_, rfl, h, c, _, rfl, by omega, by omega, hd7, fun z H8 z0 z1 k8 hd8 => ⟨rfl, _, rfl, ite2 (fun _ => ?_) (fun _ => ?_)⟩⟩
      · refine ⟨_, rfl, h, c, rfl, hd8, fun y t p n i ps col H9 k9 hd9 hy ht hp l16 q1 q6 G9 => ?_⟩
        exact ⟨y, _, rfl, SqT.of hy, rfl, _, _, rfl, _, _, rfl, _, _, rfl, _, _, rfl, rfl, t, p, n, i, ps, col, _, _, _, _, rfl, hd9, ht, hp, l16, q1, q6, G9⟩
      · exact ⟨t, p, 1 + e, 1 + d, ps, col, _, _, _, _, rfl, hd8, ht.kp hd7 k8, hp.kp hd7 k8, l16, by omega, by omega, G7⟩
    clear hd7 hd6 hd5 hd4 hd3 hd k3 k4 k5 k6 k7 hy ht hp G7 l16
    intro σ' H7 ⟨t, p, n, i, ps, col, y2, y7, y8, y9, e, hd, ht, hp, l16, q1, q6, G⟩
    subst e
    have n1 := G.n1
    have n2 := G.n2
    have lc := G.l
    have okp : ∀ p ∈ ps, okP n p := fun p hp => (G.ok p hp).ok
    refine ⟨_, rfl, _, rfl, fun x2 d2 nx nd ne => ?_⟩
    have s0 : Same H7 (L2.upd (L2.upd H7 d2 (.own x2)) x2 (.ins T.C_Web d2 [])) := fun b o e => by
      rw [upd_ne (ne_of_none e nx), upd_ne (ne_of_none e nd)]
      exact e
    refine ⟨x2, d2, t, n, ps, rfl, upd_same, n1, n2, ht.same s0, l16, okp, fun H8 k9 hx9 => ⟨rfl, ?_⟩⟩
    have s8 : Same H7 H8 := fun b o e => k9 b o (s0 b o e) (ne_of_none e nx)
    have w8 : WebAt T.C_Web H8 x2 n ps := ⟨d2, t, hx9, ht.same s8⟩
    have P8 : Pt T.C_Web H8 x2 p n i ps col := ⟨w8, hp.same s8, G, l16, q1, q6⟩
    refine ⟨_, rfl, n, rfl, by omega, by omega, ?_⟩
    refine for_range (lo := 0) (n := n.toNat) (fun j σ H' => ∃ y8 y9, σ = [some (.ref a), some (.ref h), y2, some (.int i), some (.int n), some (.ref t), some (.ref p), some (.ref x2), y8, y9] ∧ Same H8 H') ⟨_, _, rfl, Same.refl _⟩ ?_ ?_
    · intro j σ H9 hj ⟨y8, y9, e, sm⟩
      subst e
      have e0 : (0 : Int) + (j : Int) = (j : Int) := Int.zero_add _
      refine ⟨_, rfl, i, rfl, by omega, by omega, ?_⟩
      refine for_range (lo := 0) (n := i.toNat) (fun m σ H' => ∃ y9, σ = [some (.ref a), some (.ref h), y2, some (.int i), some (.int n), some (.ref t), some (.ref p), some (.ref x2), some (.int (0 + (j : Int))), y9] ∧ Same H8 H') ⟨_, rfl, sm⟩ ?_ ?_
      · intro m σ H10 hm ⟨y9, e, sm⟩
        subst e
        have f0 : (0 : Int) + (m : Int) = (m : Int) := Int.zero_add _
        have hp10 : H10 p = some (.tup (col.map V.int)) := P8.p.same sm
        refine ⟨_, rfl, _, rfl, _, rfl, p, _, _, _, rfl, rfl, SqT.of hp10, ix_at (by omega) (by omega), rfl, _, rfl, ite2 (fun g => ?_) (fun g => ⟨_, rfl, sm⟩)⟩
        have ne : (0 : Int) + (m : Int) ≠ ix col (0 + (j : Int)) := fun z => by
          rw [z, decide_eq_true rfl] at g
          cases g
        refine ⟨_, rfl, _, rfl, _, rfl, _, rfl, _, rfl, x2, p, n, i, _, _, ps, col, rfl, P8.same sm, by omega, by omega, by omega, by omega, ne, fun H11 s11 => ⟨true, rfl, iteF ⟨_, rfl, sm.trans s11⟩⟩⟩
      · intro σ H10 ⟨y9, e, sm⟩
        exact ⟨_, _, e, sm⟩
    · intro σ H9 ⟨y8, y9, e, sm⟩
      subst e
      have s9 := s8.trans sm
      refine ⟨_, rfl, _, rfl, _, rfl, fun x3 d3 nx3 nd3 ne3 => ?_⟩
      have s0' : Same H9 (L2.upd (L2.upd H9 d3 (.own x3)) x3 (.ins T.C_Web d3 [])) := fun b o e => by
        rw [upd_ne (ne_of_none e nx3), upd_ne (ne_of_none e nd3)]
        exact e
      refine ⟨x3, d3, t, n, ps, rfl, upd_same, n1, n2, (ht.same s9).same s0', l16, okp, fun H10 k10 hx10 => ⟨rfl, ?_⟩⟩
      have s10 : Same H9 H10 := fun b o e => k10 b o (s0' b o e) (ne_of_none e nx3)
      have w10 : WebAt T.C_Web H10 x3 n ps := ⟨d3, t, hx10, (ht.same s9).same s10⟩
      have w8' := w8.same (sm.trans s10)
      obtain ⟨dx, t', hx8, _⟩ := id w8'
      refine ⟨⟨x2, x3, _, _, _, _, rfl, rfl, hx8, hx10, n, ps, w8', w10⟩, fun H11 s11 => ⟨false, rfl, iteF ?_⟩⟩
      exact ⟨_, _, _, _, _, _, _, _, rfl, ((hd.same s9).same s10).same s11⟩
  · intro σ H' ⟨y2, y3, y4, y5, y6, y7, y8, y9, e, hd⟩
    subst e
    exact q H'
end
end K45
namespace K45
open PySem L2 Rl
theorem all_mk {l : PySem.W.OpenLaw} {w : World} {K : PySem.W.Frag} {h : Heap} {mg : Str → Option Value} {fa f0 f1 f2 f3 f4 f5 f6 f7 f8 f9 f10 f11 f12 f13 f14 f15 f16 f17 f18 f19 f20 f21 f22 f23 f24 f25 f26 f27 f28 f29 C_Web : Addr} (X : K.In h) (G : h.Ns mainGlobals mg) (hfa : mg "law" = some (.ref fa))
    {od0 an0 od1 an1 od2 an2 od3 an3 od4 an4 od5 an5 od6 an6 od7 an7 od8 an8 od9 an9 od10 an10 od11 an11 od12 an12 od13 an13 od14 an14 od15 an15 od16 an16 od17 an17 od18 an18 od19 an19 od20 an20 od21 an21 od22 an22 od23 an23 od24 an24 od25 an25 od26 an26 od27 an27 od28 an28 od29 an29 : Option Addr} {sl0 sl1 sl2 sl3 sl4 sl5 sl6 sl7 sl8 sl9 sl10 sl11 sl12 sl13 sl14 sl15 sl16 sl17 sl18 sl19 sl20 sl21 sl22 sl23 sl24 sl25 sl26 sl27 sl28 sl29 : Array (Option Value)} {oc0 kV0 dc0 pm0 cd0 ct0 oc1 kV1 dc1 pm1 cd1 ct1 oc2 kV2 dc2 pm2 cd2 ct2 oc3 kV3 dc3 pm3 cd3 ct3 oc4 kV4 dc4 pm4 cd4 ct4 oc5 kV5 dc5 pm5 cd5 ct5 oc6 kV6 dc6 pm6 cd6 ct6 oc7 kV7 dc7 pm7 cd7 ct7 oc8 kV8 dc8 pm8 cd8 ct8 oc9 kV9 dc9 pm9 cd9 ct9 oc10 kV10 dc10 pm10 cd10 ct10 oc11 kV11 dc11 pm11 cd11 ct11 oc12 kV12 dc12 pm12 cd12 ct12 oc13 kV13 dc13 pm13 cd13 ct13 oc14 kV14 dc14 pm14 cd14 ct14 oc15 kV15 dc15 pm15 cd15 ct15 oc16 kV16 dc16 pm16 cd16 ct16 oc17 kV17 dc17 pm17 cd17 ct17 oc18 kV18 dc18 pm18 cd18 ct18 oc19 kV19 dc19 pm19 cd19 ct19 oc20 kV20 dc20 pm20 cd20 ct20 oc21 kV21 dc21 pm21 cd21 ct21 oc22 kV22 dc22 pm22 cd22 ct22 oc23 kV23 dc23 pm23 cd23 ct23 oc24 kV24 dc24 pm24 cd24 ct24 oc25 kV25 dc25 pm25 cd25 ct25 oc26 kV26 dc26 pm26 cd26 ct26 oc27 kV27 dc27 pm27 cd27 ct27 oc28 kV28 dc28 pm28 cd28 ct28 oc29 kV29 dc29 pm29 cd29 ct29 : Value} {t_FEW_COLOURS t_MOST_COLOURS t_MOST_PLACES t_MOST_TIES : Tok}
    (aC_Web : PySem.W.nsIn K mainGlobals "Web" = some (some (.ref C_Web)))
    (a0 : PySem.W.nsIn K mainGlobals "is_integer" = some (some (.ref f0)))
    (l0 : K.lookup f0 = some ⟨oc0, od0, .func (PySem.W.fnOf "is_integer" "is_integer" (defArgs s_is_integer) (defBody s_is_integer) (defScope s_is_integer) .none kV0 dc0 pm0 an0 cd0 ct0), sl0⟩)
    (c0 : PySem.W.codeIn K cd0 "is_integer" = true)
    (k0 : PySem.W.keepIn K (.ref f0) = true)
    (a1 : PySem.W.nsIn K mainGlobals "is_between" = some (some (.ref f1)))
    (l1 : K.lookup f1 = some ⟨oc1, od1, .func (PySem.W.fnOf "is_between" "is_between" (defArgs s_is_between) (defBody s_is_between) (defScope s_is_between) .none kV1 dc1 pm1 an1 cd1 ct1), sl1⟩)
    (c1 : PySem.W.codeIn K cd1 "is_between" = true)
    (k1 : PySem.W.keepIn K (.ref f1) = true)
    (a2 : PySem.W.nsIn K mainGlobals "is_below" = some (some (.ref f2)))
    (l2 : K.lookup f2 = some ⟨oc2, od2, .func (PySem.W.fnOf "is_below" "is_below" (defArgs s_is_below) (defBody s_is_below) (defScope s_is_below) .none kV2 dc2 pm2 an2 cd2 ct2), sl2⟩)
    (c2 : PySem.W.codeIn K cd2 "is_below" = true)
    (k2 : PySem.W.keepIn K (.ref f2) = true)
    (a3 : PySem.W.nsIn K mainGlobals "is_pair" = some (some (.ref f3)))
    (l3 : K.lookup f3 = some ⟨oc3, od3, .func (PySem.W.fnOf "is_pair" "is_pair" (defArgs s_is_pair) (defBody s_is_pair) (defScope s_is_pair) .none kV3 dc3 pm3 an3 cd3 ct3), sl3⟩)
    (c3 : PySem.W.codeIn K cd3 "is_pair" = true)
    (k3 : PySem.W.keepIn K (.ref f3) = true)
    (a4 : PySem.W.nsIn K mainGlobals "is_colours" = some (some (.ref f4)))
    (l4 : K.lookup f4 = some ⟨oc4, od4, .func (PySem.W.fnOf "is_colours" "is_colours" (defArgs s_is_colours) (defBody s_is_colours) (defScope s_is_colours) .none kV4 dc4 pm4 an4 cd4 ct4), sl4⟩)
    (c4 : PySem.W.codeIn K cd4 "is_colours" = true)
    (k4 : PySem.W.keepIn K (.ref f4) = true)
    (a5 : PySem.W.nsIn K mainGlobals "is_few_colours" = some (some (.ref f5)))
    (l5 : K.lookup f5 = some ⟨oc5, od5, .func (PySem.W.fnOf "is_few_colours" "is_few_colours" (defArgs s_is_few_colours) (defBody s_is_few_colours) (defScope s_is_few_colours) .none kV5 dc5 pm5 an5 cd5 ct5), sl5⟩)
    (c5 : PySem.W.codeIn K cd5 "is_few_colours" = true)
    (k5 : PySem.W.keepIn K (.ref f5) = true)
    (a6 : PySem.W.findIn K (.ref C_Web) "__init__" = some (some (.ref f6)))
    (i6 : PySem.W.isFn K (.ref f6) = true)
    (l6 : K.lookup f6 = some ⟨oc6, od6, .func (PySem.W.fnOf "__init__" "Web.__init__" (defArgs s_webI) (defBody s_webI) (defScope s_webI) .none kV6 dc6 pm6 an6 cd6 ct6), sl6⟩)
    (c6 : PySem.W.codeIn K cd6 "Web.__init__" = true)
    (k6 : PySem.W.keepIn K (.ref f6) = true)
    (a7 : PySem.W.findIn K (.ref C_Web) "__eq__" = some (some (.ref f7)))
    (i7 : PySem.W.isFn K (.ref f7) = true)
    (l7 : K.lookup f7 = some ⟨oc7, od7, .func (PySem.W.fnOf "__eq__" "Web.__eq__" (defArgs s_webE) (defBody s_webE) (defScope s_webE) .none kV7 dc7 pm7 an7 cd7 ct7), sl7⟩)
    (c7 : PySem.W.codeIn K cd7 "Web.__eq__" = true)
    (k7 : PySem.W.keepIn K (.ref f7) = true)
    (a8 : PySem.W.nsIn K mainGlobals "_is_tie" = some (some (.ref f8)))
    (l8 : K.lookup f8 = some ⟨oc8, od8, .func (PySem.W.fnOf "_is_tie" "_is_tie" (defArgs s_is_tie) (defBody s_is_tie) (defScope s_is_tie) .none kV8 dc8 pm8 an8 cd8 ct8), sl8⟩)
    (c8 : PySem.W.codeIn K cd8 "_is_tie" = true)
    (k8 : PySem.W.keepIn K (.ref f8) = true)
    (a9 : PySem.W.nsIn K mainGlobals "neighbours" = some (some (.ref f9)))
    (l9 : K.lookup f9 = some ⟨oc9, od9, .func (PySem.W.fnOf "neighbours" "neighbours" (defArgs s_neighbours) (defBody s_neighbours) (defScope s_neighbours) .none kV9 dc9 pm9 an9 cd9 ct9), sl9⟩)
    (c9 : PySem.W.codeIn K cd9 "neighbours" = true)
    (k9 : PySem.W.keepIn K (.ref f9) = true)
    (a10 : PySem.W.nsIn K mainGlobals "is_painting" = some (some (.ref f10)))
    (l10 : K.lookup f10 = some ⟨oc10, od10, .func (PySem.W.fnOf "is_painting" "is_painting" (defArgs s_is_painting) (defBody s_is_painting) (defScope s_is_painting) .none kV10 dc10 pm10 an10 cd10 ct10), sl10⟩)
    (c10 : PySem.W.codeIn K cd10 "is_painting" = true)
    (k10 : PySem.W.keepIn K (.ref f10) = true)
    (a11 : PySem.W.nsIn K mainGlobals "is_good" = some (some (.ref f11)))
    (l11 : K.lookup f11 = some ⟨oc11, od11, .func (PySem.W.fnOf "is_good" "is_good" (defArgs s_is_good) (defBody s_is_good) (defScope s_is_good) .none kV11 dc11 pm11 an11 cd11 ct11), sl11⟩)
    (c11 : PySem.W.codeIn K cd11 "is_good" = true)
    (k11 : PySem.W.keepIn K (.ref f11) = true)
    (a12 : PySem.W.nsIn K mainGlobals "chain" = some (some (.ref f12)))
    (l12 : K.lookup f12 = some ⟨oc12, od12, .func (PySem.W.fnOf "chain" "chain" (defArgs s_chain) (defBody s_chain) (defScope s_chain) .none kV12 dc12 pm12 an12 cd12 ct12), sl12⟩)
    (c12 : PySem.W.codeIn K cd12 "chain" = true)
    (k12 : PySem.W.keepIn K (.ref f12) = true)
    (a13 : PySem.W.nsIn K mainGlobals "exchanged" = some (some (.ref f13)))
    (l13 : K.lookup f13 = some ⟨oc13, od13, .func (PySem.W.fnOf "exchanged" "exchanged" (defArgs s_exchanged) (defBody s_exchanged) (defScope s_exchanged) .none kV13 dc13 pm13 an13 cd13 ct13), sl13⟩)
    (c13 : PySem.W.codeIn K cd13 "exchanged" = true)
    (k13 : PySem.W.keepIn K (.ref f13) = true)
    (a14 : PySem.W.nsIn K mainGlobals "_judge" = some (some (.ref f14)))
    (l14 : K.lookup f14 = some ⟨oc14, od14, .func (PySem.W.fnOf "_judge" "_judge" (defArgs s_judge) (defBody s_judge) (defScope s_judge) .none kV14 dc14 pm14 an14 cd14 ct14), sl14⟩)
    (c14 : PySem.W.codeIn K cd14 "_judge" = true)
    (k14 : PySem.W.keepIn K (.ref f14) = true)
    (a15 : PySem.W.nsIn K mainGlobals "chain_of" = some (some (.ref f15)))
    (l15 : K.lookup f15 = some ⟨oc15, od15, .func (PySem.W.fnOf "chain_of" "chain_of" (defArgs s_chain_of) (defBody s_chain_of) (defScope s_chain_of) .none kV15 dc15 pm15 an15 cd15 ct15), sl15⟩)
    (c15 : PySem.W.codeIn K cd15 "chain_of" = true)
    (k15 : PySem.W.keepIn K (.ref f15) = true)
    (a16 : PySem.W.nsIn K mainGlobals "exchange_of" = some (some (.ref f16)))
    (l16 : K.lookup f16 = some ⟨oc16, od16, .func (PySem.W.fnOf "exchange_of" "exchange_of" (defArgs s_exchange_of) (defBody s_exchange_of) (defScope s_exchange_of) .none kV16 dc16 pm16 an16 cd16 ct16), sl16⟩)
    (c16 : PySem.W.codeIn K cd16 "exchange_of" = true)
    (k16 : PySem.W.keepIn K (.ref f16) = true)
    (a17 : PySem.W.nsIn K mainGlobals "_changed" = some (some (.ref f17)))
    (l17 : K.lookup f17 = some ⟨oc17, od17, .func (PySem.W.fnOf "_changed" "_changed" (defArgs s_changed) (defBody s_changed) (defScope s_changed) .none kV17 dc17 pm17 an17 cd17 ct17), sl17⟩)
    (c17 : PySem.W.codeIn K cd17 "_changed" = true)
    (k17 : PySem.W.keepIn K (.ref f17) = true)
    (a18 : PySem.W.nsIn K mainGlobals "_law_hand" = some (some (.ref f18)))
    (l18 : K.lookup f18 = some ⟨oc18, od18, .func (PySem.W.fnOf "_law_hand" "_law_hand" (defArgs s_l_hand) (defBody s_l_hand) (defScope s_l_hand) .none kV18 dc18 pm18 an18 cd18 ct18), sl18⟩)
    (c18 : PySem.W.codeIn K cd18 "_law_hand" = true)
    (k18 : PySem.W.keepIn K (.ref f18) = true)
    (a19 : PySem.W.nsIn K mainGlobals "_law_draw" = some (some (.ref f19)))
    (l19 : K.lookup f19 = some ⟨oc19, od19, .func (PySem.W.fnOf "_law_draw" "_law_draw" (defArgs s_l_draw) (defBody s_l_draw) (defScope s_l_draw) .none kV19 dc19 pm19 an19 cd19 ct19), sl19⟩)
    (c19 : PySem.W.codeIn K cd19 "_law_draw" = true)
    (k19 : PySem.W.keepIn K (.ref f19) = true)
    (a20 : PySem.W.nsIn K mainGlobals "_law_some" = some (some (.ref f20)))
    (l20 : K.lookup f20 = some ⟨oc20, od20, .func (PySem.W.fnOf "_law_some" "_law_some" (defArgs s_l_some) (defBody s_l_some) (defScope s_l_some) .none kV20 dc20 pm20 an20 cd20 ct20), sl20⟩)
    (c20 : PySem.W.codeIn K cd20 "_law_some" = true)
    (k20 : PySem.W.keepIn K (.ref f20) = true)
    (a21 : PySem.W.nsIn K mainGlobals "_law_mixed" = some (some (.ref f21)))
    (l21 : K.lookup f21 = some ⟨oc21, od21, .func (PySem.W.fnOf "_law_mixed" "_law_mixed" (defArgs s_l_mixed) (defBody s_l_mixed) (defScope s_l_mixed) .none kV21 dc21 pm21 an21 cd21 ct21), sl21⟩)
    (c21 : PySem.W.codeIn K cd21 "_law_mixed" = true)
    (k21 : PySem.W.keepIn K (.ref f21) = true)
    (a22 : PySem.W.nsIn K mainGlobals "_law_planted" = some (some (.ref f22)))
    (l22 : K.lookup f22 = some ⟨oc22, od22, .func (PySem.W.fnOf "_law_planted" "_law_planted" (defArgs s_l_planted) (defBody s_l_planted) (defScope s_l_planted) .none kV22 dc22 pm22 an22 cd22 ct22), sl22⟩)
    (c22 : PySem.W.codeIn K cd22 "_law_planted" = true)
    (k22 : PySem.W.keepIn K (.ref f22) = true)
    (a23 : PySem.W.nsIn K mainGlobals "_law_is_good" = some (some (.ref f23)))
    (l23 : K.lookup f23 = some ⟨oc23, od23, .func (PySem.W.fnOf "_law_is_good" "_law_is_good" (defArgs s_l_is_good) (defBody s_l_is_good) (defScope s_l_is_good) .none kV23 dc23 pm23 an23 cd23 ct23), sl23⟩)
    (c23 : PySem.W.codeIn K cd23 "_law_is_good" = true)
    (k23 : PySem.W.keepIn K (.ref f23) = true)
    (a24 : PySem.W.nsIn K mainGlobals "_law_chain" = some (some (.ref f24)))
    (l24 : K.lookup f24 = some ⟨oc24, od24, .func (PySem.W.fnOf "_law_chain" "_law_chain" (defArgs s_l_chain) (defBody s_l_chain) (defScope s_l_chain) .none kV24 dc24 pm24 an24 cd24 ct24), sl24⟩)
    (c24 : PySem.W.codeIn K cd24 "_law_chain" = true)
    (k24 : PySem.W.keepIn K (.ref f24) = true)
    (a25 : PySem.W.nsIn K mainGlobals "_law_exchanged" = some (some (.ref f25)))
    (l25 : K.lookup f25 = some ⟨oc25, od25, .func (PySem.W.fnOf "_law_exchanged" "_law_exchanged" (defArgs s_l_exchanged) (defBody s_l_exchanged) (defScope s_l_exchanged) .none kV25 dc25 pm25 an25 cd25 ct25), sl25⟩)
    (c25 : PySem.W.codeIn K cd25 "_law_exchanged" = true)
    (k25 : PySem.W.keepIn K (.ref f25) = true)
    (a26 : PySem.W.nsIn K mainGlobals "_law_long" = some (some (.ref f26)))
    (l26 : K.lookup f26 = some ⟨oc26, od26, .func (PySem.W.fnOf "_law_long" "_law_long" (defArgs s_l_long) (defBody s_l_long) (defScope s_l_long) .none kV26 dc26 pm26 an26 cd26 ct26), sl26⟩)
    (c26 : PySem.W.codeIn K cd26 "_law_long" = true)
    (k26 : PySem.W.keepIn K (.ref f26) = true)
    (a27 : PySem.W.nsIn K mainGlobals "_law_is" = some (some (.ref f27)))
    (l27 : K.lookup f27 = some ⟨oc27, od27, .func (PySem.W.fnOf "_law_is" "_law_is" (defArgs s_l_is) (defBody s_l_is) (defScope s_l_is) .none kV27 dc27 pm27 an27 cd27 ct27), sl27⟩)
    (c27 : PySem.W.codeIn K cd27 "_law_is" = true)
    (k27 : PySem.W.keepIn K (.ref f27) = true)
    (a28 : PySem.W.nsIn K mainGlobals "_law_is_right" = some (some (.ref f28)))
    (l28 : K.lookup f28 = some ⟨oc28, od28, .func (PySem.W.fnOf "_law_is_right" "_law_is_right" (defArgs s_l_is_right) (defBody s_l_is_right) (defScope s_l_is_right) .none kV28 dc28 pm28 an28 cd28 ct28), sl28⟩)
    (c28 : PySem.W.codeIn K cd28 "_law_is_right" = true)
    (k28 : PySem.W.keepIn K (.ref f28) = true)
    (a29 : PySem.W.nsIn K mainGlobals "law" = some (some (.ref f29)))
    (l29 : K.lookup f29 = some ⟨oc29, od29, .func (PySem.W.fnOf "law" "law" (defArgs s_law) (defBody s_law) (defScope s_law) .none kV29 dc29 pm29 an29 cd29 ct29), sl29⟩)
    (c29 : PySem.W.codeIn K cd29 "law" = true)
    (k29 : PySem.W.keepIn K (.ref f29) = true)
    (pg_Web : PySem.W.plainGet K C_Web Str.empty = true)
    (hd_Web : PySem.W.hasDictIn K C_Web = true)
    (po_Web : PySem.W.plainOver K C_Web = true)
    (sa_Web : PySem.W.findIn K (.ref C_Web) "__setattr__" = some (some (.builtin "object.__setattr__")))
    (mk_Web : PySem.W.makesIn K C_Web = true)
    (kc_Web : PySem.W.keepIn K (.ref C_Web) = true)
    (ic_Web : PySem.W.findIn K (.ref C_Web) "__class__" = some (some (.builtin "object.__class__")))
    (im_Web : PySem.W.mroIn K C_Web (.type "object") = some true)
    (ne_Web : PySem.W.findIn K (.ref C_Web) "__ne__" = some (some (.builtin "object.__ne__")))
    (no_Web_many : PySem.W.findIn K (.ref C_Web) "many" = some none)
    (no_Web_ties : PySem.W.findIn K (.ref C_Web) "ties" = some none)
    (ia : PySem.W.specialIn K (.builtin "object.__class__") "__get__" = some (some (.builtin "getset_descriptor.__get__")))
    (ib : PySem.W.takesIn K (.builtin "object.__class__") = some true)
    (v_FEW_COLOURS : PySem.W.nsIn K mainGlobals "FEW_COLOURS" = some (some (.int 6 t_FEW_COLOURS)))
    (v_MOST_COLOURS : PySem.W.nsIn K mainGlobals "MOST_COLOURS" = some (some (.int 1000000000 t_MOST_COLOURS)))
    (v_MOST_PLACES : PySem.W.nsIn K mainGlobals "MOST_PLACES" = some (some (.int 10 t_MOST_PLACES)))
    (v_MOST_TIES : PySem.W.nsIn K mainGlobals "MOST_TIES" = some (some (.int 16 t_MOST_TIES)))
    (z_abs : PySem.W.nsIn K mainGlobals "abs" = some none)
    (z_all : PySem.W.nsIn K mainGlobals "all" = some none)
    (z_bool : PySem.W.nsIn K mainGlobals "bool" = some none)
    (z_enumerate : PySem.W.nsIn K mainGlobals "enumerate" = some none)
    (z_int : PySem.W.nsIn K mainGlobals "int" = some none)
    (z_isinstance : PySem.W.nsIn K mainGlobals "isinstance" = some none)
    (z_len : PySem.W.nsIn K mainGlobals "len" = some none)
    (z_list : PySem.W.nsIn K mainGlobals "list" = some none)
    (z_max : PySem.W.nsIn K mainGlobals "max" = some none)
    (z_min : PySem.W.nsIn K mainGlobals "min" = some none)
    (z_range : PySem.W.nsIn K mainGlobals "range" = some none)
    (z_repr : PySem.W.nsIn K mainGlobals "repr" = some none)
    (z_sorted : PySem.W.nsIn K mainGlobals "sorted" = some none)
    (z_tuple : PySem.W.nsIn K mainGlobals "tuple" = some none) :
    ∃ fd : FuncData, (∀ (s : Shared) (v : Value), BindsTo s fd ⟨[v], []⟩ [("script", v)]) ∧ ∀ base : Heap, K.In base → base.Ns mainGlobals mg → KG.FnG l.prog w K mg base 12 fa fd ["script"] (spLaw K) := by
  have e := hfa.symm.trans (PySem.W.mg_of X G a29)
  cases e
  have F0 := fun_mk (st := s_is_integer) l0 c0 k0
  have b0 := F0.binds (ps := ["thing"]) fun _ _ _ _ _ _ us hl => match us, hl with | [_], _ => rfl
  have F1 := fun_mk (st := s_is_between) l1 c1 k1
  have b1 := F1.binds (ps := ["thing", "least", "most"]) fun _ _ _ _ _ _ us hl => match us, hl with | [_, _, _], _ => rfl
  have F2 := fun_mk (st := s_is_below) l2 c2 k2
  have b2 := F2.binds (ps := ["thing", "bound"]) fun _ _ _ _ _ _ us hl => match us, hl with | [_, _], _ => rfl
  have F3 := fun_mk (st := s_is_pair) l3 c3 k3
  have b3 := F3.binds (ps := ["thing"]) fun _ _ _ _ _ _ us hl => match us, hl with | [_], _ => rfl
  have F4 := fun_mk (st := s_is_colours) l4 c4 k4
  have b4 := F4.binds (ps := ["thing"]) fun _ _ _ _ _ _ us hl => match us, hl with | [_], _ => rfl
  have F5 := fun_mk (st := s_is_few_colours) l5 c5 k5
  have b5 := F5.binds (ps := ["thing"]) fun _ _ _ _ _ _ us hl => match us, hl with | [_], _ => rfl
  have F6 := fun_mk (st := s_webI) l6 c6 k6
  have b6 := F6.binds (ps := ["self", "many", "ties"]) fun _ _ _ _ _ _ us hl => match us, hl with | [_, _, _], _ => rfl
  have F7 := fun_mk (st := s_webE) l7 c7 k7
  have b7 := F7.binds (ps := ["self", "other"]) fun _ _ _ _ _ _ us hl => match us, hl with | [_, _], _ => rfl
  have F8 := fun_mk (st := s_is_tie) l8 c8 k8
  have b8 := F8.binds (ps := ["thing", "many"]) fun _ _ _ _ _ _ us hl => match us, hl with | [_, _], _ => rfl
  have F9 := fun_mk (st := s_neighbours) l9 c9 k9
  have b9 := F9.binds (ps := ["web"]) fun _ _ _ _ _ _ us hl => match us, hl with | [_], _ => rfl
  have F10 := fun_mk (st := s_is_painting) l10 c10 k10
  have b10 := F10.binds (ps := ["web", "q", "thing"]) fun _ _ _ _ _ _ us hl => match us, hl with | [_, _, _], _ => rfl
  have F11 := fun_mk (st := s_is_good) l11 c11 k11
  have b11 := F11.binds (ps := ["web", "q", "thing"]) fun _ _ _ _ _ _ us hl => match us, hl with | [_, _, _], _ => rfl
  have F12 := fun_mk (st := s_chain) l12 c12 k12
  have b12 := F12.binds (ps := ["web", "q", "painting", "place", "colour"]) fun _ _ _ _ _ _ us hl => match us, hl with | [_, _, _, _, _], _ => rfl
  have F13 := fun_mk (st := s_exchanged) l13 c13 k13
  have b13 := F13.binds (ps := ["web", "q", "painting", "place", "colour"]) fun _ _ _ _ _ _ us hl => match us, hl with | [_, _, _, _, _], _ => rfl
  have F14 := fun_mk (st := s_judge) l14 c14 k14
  have b14 := F14.binds (ps := ["web", "q", "painting", "place", "colour"]) fun _ _ _ _ _ _ us hl => match us, hl with | [_, _, _, _, _], _ => rfl
  have F15 := fun_mk (st := s_chain_of) l15 c15 k15
  have b15 := F15.binds (ps := ["near", "painting", "place", "colour"]) fun _ _ _ _ _ _ us hl => match us, hl with | [_, _, _, _], _ => rfl
  have F16 := fun_mk (st := s_exchange_of) l16 c16 k16
  have b16 := F16.binds (ps := ["near", "painting", "place", "colour"]) fun _ _ _ _ _ _ us hl => match us, hl with | [_, _, _, _], _ => rfl
  have F17 := fun_mk (st := s_changed) l17 c17 k17
  have b17 := F17.binds (ps := ["painting", "places", "both"]) fun _ _ _ _ _ _ us hl => match us, hl with | [_, _, _], _ => rfl
  have F18 := fun_mk (st := s_l_hand) l18 c18 k18
  have b18 := F18.binds (ps := ["script"]) fun _ _ _ _ _ _ us hl => match us, hl with | [_], _ => rfl
  have F19 := fun_mk (st := s_l_draw) l19 c19 k19
  have b19 := F19.binds (ps := ["hand", "many"]) fun _ _ _ _ _ _ us hl => match us, hl with | [_, _], _ => rfl
  have F20 := fun_mk (st := s_l_some) l20 c20 k20
  have b20 := F20.binds (ps := ["hand", "things"]) fun _ _ _ _ _ _ us hl => match us, hl with | [_, _], _ => rfl
  have F21 := fun_mk (st := s_l_mixed) l21 c21 k21
  have b21 := F21.binds (ps := ["hand", "things"]) fun _ _ _ _ _ _ us hl => match us, hl with | [_, _], _ => rfl
  have F22 := fun_mk (st := s_l_planted) l22 c22 k22
  have b22 := F22.binds (ps := ["hand", "q", "many", "most"]) fun _ _ _ _ _ _ us hl => match us, hl with | [_, _, _, _], _ => rfl
  have F23 := fun_mk (st := s_l_is_good) l23 c23 k23
  have b23 := F23.binds (ps := ["ties", "painting"]) fun _ _ _ _ _ _ us hl => match us, hl with | [_, _], _ => rfl
  have F24 := fun_mk (st := s_l_chain) l24 c24 k24
  have b24 := F24.binds (ps := ["ties", "painting", "place", "colour"]) fun _ _ _ _ _ _ us hl => match us, hl with | [_, _, _, _], _ => rfl
  have F25 := fun_mk (st := s_l_exchanged) l25 c25 k25
  have b25 := F25.binds (ps := ["ties", "painting", "place", "colour"]) fun _ _ _ _ _ _ us hl => match us, hl with | [_, _, _, _], _ => rfl
  have F26 := fun_mk (st := s_l_long) l26 c26 k26
  have b26 := F26.binds (ps := ["hand"]) fun _ _ _ _ _ _ us hl => match us, hl with | [_], _ => rfl
  have F27 := fun_mk (st := s_l_is) l27 c27 k27
  have b27 := F27.binds (ps := ["told", "due"]) fun _ _ _ _ _ _ us hl => match us, hl with | [_, _], _ => rfl
  have F28 := fun_mk (st := s_l_is_right) l28 c28 k28
  have b28 := F28.binds (ps := ["web", "q", "painting", "place", "colour"]) fun _ _ _ _ _ _ us hl => match us, hl with | [_, _, _, _, _], _ => rfl
  have F29 := fun_mk (st := s_law) l29 c29 k29
  have b29 := F29.binds (ps := ["script"]) fun _ _ _ _ _ _ us hl => match us, hl with | [_], _ => rfl
  let T : Tx K mg := {
    f_is_integer := f0, d_is_integer := _, F_is_integer := F0, b_is_integer := b0, m_is_integer := PySem.W.mg_of X G a0,
    f_is_between := f1, d_is_between := _, F_is_between := F1, b_is_between := b1, m_is_between := PySem.W.mg_of X G a1,
    f_is_below := f2, d_is_below := _, F_is_below := F2, b_is_below := b2, m_is_below := PySem.W.mg_of X G a2,
    f_is_pair := f3, d_is_pair := _, F_is_pair := F3, b_is_pair := b3, m_is_pair := PySem.W.mg_of X G a3,
    f_is_colours := f4, d_is_colours := _, F_is_colours := F4, b_is_colours := b4, m_is_colours := PySem.W.mg_of X G a4,
    f_is_few_colours := f5, d_is_few_colours := _, F_is_few_colours := F5, b_is_few_colours := b5, m_is_few_colours := PySem.W.mg_of X G a5,
    f_webI := f6, d_webI := _, F_webI := F6, b_webI := b6,
    f_webE := f7, d_webE := _, F_webE := F7, b_webE := b7,
    f_is_tie := f8, d_is_tie := _, F_is_tie := F8, b_is_tie := b8, m_is_tie := PySem.W.mg_of X G a8,
    f_neighbours := f9, d_neighbours := _, F_neighbours := F9, b_neighbours := b9, m_neighbours := PySem.W.mg_of X G a9,
    f_is_painting := f10, d_is_painting := _, F_is_painting := F10, b_is_painting := b10, m_is_painting := PySem.W.mg_of X G a10,
    f_is_good := f11, d_is_good := _, F_is_good := F11, b_is_good := b11, m_is_good := PySem.W.mg_of X G a11,
    f_chain := f12, d_chain := _, F_chain := F12, b_chain := b12, m_chain := PySem.W.mg_of X G a12,
    f_exchanged := f13, d_exchanged := _, F_exchanged := F13, b_exchanged := b13, m_exchanged := PySem.W.mg_of X G a13,
    f_judge := f14, d_judge := _, F_judge := F14, b_judge := b14, m_judge := PySem.W.mg_of X G a14,
    f_chain_of := f15, d_chain_of := _, F_chain_of := F15, b_chain_of := b15, m_chain_of := PySem.W.mg_of X G a15,
    f_exchange_of := f16, d_exchange_of := _, F_exchange_of := F16, b_exchange_of := b16, m_exchange_of := PySem.W.mg_of X G a16,
    f_changed := f17, d_changed := _, F_changed := F17, b_changed := b17, m_changed := PySem.W.mg_of X G a17,
    f_l_hand := f18, d_l_hand := _, F_l_hand := F18, b_l_hand := b18, m_l_hand := PySem.W.mg_of X G a18,
    f_l_draw := f19, d_l_draw := _, F_l_draw := F19, b_l_draw := b19, m_l_draw := PySem.W.mg_of X G a19,
    f_l_some := f20, d_l_some := _, F_l_some := F20, b_l_some := b20, m_l_some := PySem.W.mg_of X G a20,
    f_l_mixed := f21, d_l_mixed := _, F_l_mixed := F21, b_l_mixed := b21, m_l_mixed := PySem.W.mg_of X G a21,
    f_l_planted := f22, d_l_planted := _, F_l_planted := F22, b_l_planted := b22, m_l_planted := PySem.W.mg_of X G a22,
    f_l_is_good := f23, d_l_is_good := _, F_l_is_good := F23, b_l_is_good := b23, m_l_is_good := PySem.W.mg_of X G a23,
    f_l_chain := f24, d_l_chain := _, F_l_chain := F24, b_l_chain := b24, m_l_chain := PySem.W.mg_of X G a24,
    f_l_exchanged := f25, d_l_exchanged := _, F_l_exchanged := F25, b_l_exchanged := b25, m_l_exchanged := PySem.W.mg_of X G a25,
    f_l_long := f26, d_l_long := _, F_l_long := F26, b_l_long := b26, m_l_long := PySem.W.mg_of X G a26,
    f_l_is := f27, d_l_is := _, F_l_is := F27, b_l_is := b27, m_l_is := PySem.W.mg_of X G a27,
    f_l_is_right := f28, d_l_is_right := _, F_l_is_right := F28, b_l_is_right := b28, m_l_is_right := PySem.W.mg_of X G a28,
    f_law := fa, d_law := _, F_law := F29, b_law := b29, m_law := PySem.W.mg_of X G a29,
    C_Web := C_Web, m_Web := PySem.W.mg_of X G aC_Web, cl_Web := ⟨pg_Web, hd_Web, po_Web, sa_Web⟩, mk_Web := ⟨mk_Web, a6, i6, kc_Web⟩,
    eq_Web := a7, eqf_Web := i7,
    ne_Web := ne_Web,
    ic_Web := ic_Web, im_Web := im_Web, no_Web_many := no_Web_many, no_Web_ties := no_Web_ties,
    ia := ia, ib := ib,
    t_FEW_COLOURS := t_FEW_COLOURS, m_FEW_COLOURS := PySem.W.mg_of X G v_FEW_COLOURS,
    t_MOST_COLOURS := t_MOST_COLOURS, m_MOST_COLOURS := PySem.W.mg_of X G v_MOST_COLOURS,
    t_MOST_PLACES := t_MOST_PLACES, m_MOST_PLACES := PySem.W.mg_of X G v_MOST_PLACES,
    t_MOST_TIES := t_MOST_TIES, m_MOST_TIES := PySem.W.mg_of X G v_MOST_TIES,
    g_abs := PySem.W.mg_none_of X G z_abs, g_all := PySem.W.mg_none_of X G z_all, g_bool := PySem.W.mg_none_of X G z_bool, g_enumerate := PySem.W.mg_none_of X G z_enumerate, g_int := PySem.W.mg_none_of X G z_int, g_isinstance := PySem.W.mg_none_of X G z_isinstance, g_len := PySem.W.mg_none_of X G z_len, g_list := PySem.W.mg_none_of X G z_list, g_max := PySem.W.mg_none_of X G z_max, g_min := PySem.W.mg_none_of X G z_min, g_range := PySem.W.mg_none_of X G z_range, g_repr := PySem.W.mg_none_of X G z_repr, g_sorted := PySem.W.mg_none_of X G z_sorted, g_tuple := PySem.W.mg_none_of X G z_tuple }
  exact ⟨_, fun s v => .of_eq rfl, fun base _ _ => (ok_law T)⟩
end K45
open PySem PySem.W PyProof.Rows
set_option maxRecDepth 100000 in
set_option maxHeartbeats 0 in
theorem PySem.Challenge.cw_takenjoined_k45_whole_chains_holds : PySem.Challenge.rw_takenjoined_k45_whole_chains.Holds := by
  w_on; o_law; k_head; (case hw => w_witness2)
  k_fill
  refine KG.walk_ofG (l := PySem.Challenge.rw_takenjoined_k45_whole_chains) (n := 63) (k := 12) (x := "script") (sp := fun w => K45.spLaw _) rfl (by decide) rfl ⟨rfl, by decide, by decide⟩ (fun w h Y => PySem.W.kIn_of Y) ?F (fun _ _ a ns hl _ hS => ⟨a, ns, rfl, hS, hl, fun _ => rfl⟩)
  case F =>
    intro w mg fa h KX G hmg
    refine' K45.all_mk KX G hmg ?aC_Web ?a0 ?l0 ?c0 ?k0 ?a1 ?l1 ?c1 ?k1 ?a2 ?l2 ?c2 ?k2 ?a3 ?l3 ?c3 ?k3 ?a4 ?l4 ?c4 ?k4 ?a5 ?l5 ?c5 ?k5 ?a6 ?i6 ?l6 ?c6 ?k6 ?a7 ?i7 ?l7 ?c7 ?k7 ?a8 ?l8 ?c8 ?k8 ?a9 ?l9 ?c9 ?k9 ?a10 ?l10 ?c10 ?k10 ?a11 ?l11 ?c11 ?k11 ?a12 ?l12 ?c12 ?k12 ?a13 ?l13 ?c13 ?k13 ?a14 ?l14 ?c14 ?k14 ?a15 ?l15 ?c15 ?k15 ?a16 ?l16 ?c16 ?k16 ?a17 ?l17 ?c17 ?k17 ?a18 ?l18 ?c18 ?k18 ?a19 ?l19 ?c19 ?k19 ?a20 ?l20 ?c20 ?k20 ?a21 ?l21 ?c21 ?k21 ?a22 ?l22 ?c22 ?k22 ?a23 ?l23 ?c23 ?k23 ?a24 ?l24 ?c24 ?k24 ?a25 ?l25 ?c25 ?k25 ?a26 ?l26 ?c26 ?k26 ?a27 ?l27 ?c27 ?k27 ?a28 ?l28 ?c28 ?k28 ?a29 ?l29 ?c29 ?k29 ?pg_Web ?hd_Web ?po_Web ?sa_Web ?mk_Web ?kc_Web ?ic_Web ?im_Web ?ne_Web ?no_Web_many ?no_Web_ties ?ia ?ib ?v_FEW_COLOURS ?v_MOST_COLOURS ?v_MOST_PLACES ?v_MOST_TIES ?z_abs ?z_all ?z_bool ?z_enumerate ?z_int ?z_isinstance ?z_len ?z_list ?z_max ?z_min ?z_range ?z_repr ?z_sorted ?z_tuple
    (case aC_Web => k_is); (case a0 => k_is); (case l0 => k_is); (case c0 => k_is); (case k0 => k_is)
    (case a1 => k_is); (case l1 => k_is); (case c1 => k_is); (case k1 => k_is); (case a2 => k_is)
    (case l2 => k_is); (case c2 => k_is); (case k2 => k_is); (case a3 => k_is); (case l3 => k_is)
    (case c3 => k_is); (case k3 => k_is); (case a4 => k_is); (case l4 => k_is); (case c4 => k_is)
    (case k4 => k_is); (case a5 => k_is); (case l5 => k_is); (case c5 => k_is); (case k5 => k_is)
    (case a6 => k_is); (case i6 => k_is); (case l6 => k_is); (case c6 => k_is); (case k6 => k_is)
    (case a7 => k_is); (case i7 => k_is); (case l7 => k_is); (case c7 => k_is); (case k7 => k_is)
    (case a8 => k_is); (case l8 => k_is); (case c8 => k_is); (case k8 => k_is); (case a9 => k_is)
    (case l9 => k_is); (case c9 => k_is); (case k9 => k_is); (case a10 => k_is); (case l10 => k_is)
    (case c10 => k_is); (case k10 => k_is); (case a11 => k_is); (case l11 => k_is); (case c11 => k_is)
    (case k11 => k_is); (case a12 => k_is); (case l12 => k_is); (case c12 => k_is); (case k12 => k_is)
    (case a13 => k_is); (case l13 => k_is); (case c13 => k_is); (case k13 => k_is); (case a14 => k_is)
    (case l14 => k_is); (case c14 => k_is); (case k14 => k_is); (case a15 => k_is); (case l15 => k_is)
    (case c15 => k_is); (case k15 => k_is); (case a16 => k_is); (case l16 => k_is); (case c16 => k_is)
    (case k16 => k_is); (case a17 => k_is); (case l17 => k_is); (case c17 => k_is); (case k17 => k_is)
    (case a18 => k_is); (case l18 => k_is); (case c18 => k_is); (case k18 => k_is); (case a19 => k_is)
    (case l19 => k_is); (case c19 => k_is); (case k19 => k_is); (case a20 => k_is); (case l20 => k_is)
    (case c20 => k_is); (case k20 => k_is); (case a21 => k_is); (case l21 => k_is); (case c21 => k_is)
    (case k21 => k_is); (case a22 => k_is); (case l22 => k_is); (case c22 => k_is); (case k22 => k_is)
    (case a23 => k_is); (case l23 => k_is); (case c23 => k_is); (case k23 => k_is); (case a24 => k_is)
    (case l24 => k_is); (case c24 => k_is); (case k24 => k_is); (case a25 => k_is); (case l25 => k_is)
    (case c25 => k_is); (case k25 => k_is); (case a26 => k_is); (case l26 => k_is); (case c26 => k_is)
    (case k26 => k_is); (case a27 => k_is); (case l27 => k_is); (case c27 => k_is); (case k27 => k_is)
    (case a28 => k_is); (case l28 => k_is); (case c28 => k_is); (case k28 => k_is); (case a29 => k_is)
    (case l29 => k_is); (case c29 => k_is); (case k29 => k_is); (case pg_Web => k_is); (case hd_Web => k_is)
    (case po_Web => k_is); (case sa_Web => k_is); (case mk_Web => k_is); (case kc_Web => k_is); (case ic_Web => k_is)
    (case im_Web => k_is); (case ne_Web => k_is); (case no_Web_many => k_is); (case no_Web_ties => k_is); (case ia => k_is)
    (case ib => k_is); (case v_FEW_COLOURS => k_is); (case v_MOST_COLOURS => k_is); (case v_MOST_PLACES => k_is); (case v_MOST_TIES => k_is)
    (case z_abs => k_is); (case z_all => k_is); (case z_bool => k_is); (case z_enumerate => k_is); (case z_int => k_is)
    (case z_isinstance => k_is); (case z_len => k_is); (case z_list => k_is); (case z_max => k_is); (case z_min => k_is)
    (case z_range => k_is); (case z_repr => k_is); (case z_sorted => k_is); (case z_tuple => k_is)

