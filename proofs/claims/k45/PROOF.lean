import PyProof.Rows.All
import Wide.All
import OpenK.AllK
import Wide.FinOn
import HandS.ForMost
import HandS.IsInst
import HandS.Property
import HandS.TupAny
import HandS.Strs
import HandS.Conv
import HandS.Defaults
import KE.GoesEnum
import HandS.Walk
import PyProof.ReprLen
import PyProof.StrLawsRepr
import PyProof.FitsInt
import KE.KRevSl
import HandS.OwnEq
import HandS.More
import KE.KOpsOwn
import KE.KCallOwn
import PyProof.InstNe
import HandS.WideBits
import HandS.Zip
import HandS.Star
import KE.KStar
import HandS.MethStar
import OpenK.KMeth
import OpenK.KOps
import KE.KFmtOwn
import HandS.FStr
import HandS.ClsMeth
import HandS.MakeKwOnly
import HandS.RaiseMore
import HandS.Exc
import KE.KTryMore
import HandS.ExcInit
import HandS.ExcField
import HandS.ExcIs
import HandS.Lambda
import HandS.HotCalls
import KE.KExcIs
import HandS.Dict
import KE.DataFind
import HandS.ReplaceLit
import HandS.Style
import HandS.EndTab
import KE.KNestM
import HandS.WordsExc
import HandS.ListEq
import KE.KEqSeq
import PyProof.EnumMake
import HandS.Wide
import OpenK.KDescr
import PyProof.StrBlock2
import HandS.Head0
import HandS.Head1
import HandS.Head2
import PySem.Challenge.RW_menuhouses_k45_looks_made_and_read
set_option Elab.async false
set_option linter.all false
set_option maxRecDepth 100000
set_option maxHeartbeats 4000000
/-! Own rules beside the layer: promises that know that no repr is under way (FnG), repr of data, sorted of a tuple of texts, enumerate of a tuple, o.m(k = v). -/
namespace MH
open PySem PySem.Spec PyProof.Rows L2
/-! ### promises of defs that are called while no repr is under way -/
def FnG (P : Program) (w : World) (K : PySem.W.Frag) (mg : Str → Option Value) (base : Heap) (k : Nat) (f : Addr) (sp : Sp) : Prop :=
  ∀ (A : Around) (fr : List Env) (st : Shared) (H : Hp) (us : List Value) (vs : List V) (Q : VK), A.guards = some [] → Room k A → Env0 P w K mg base A fr st H → Vals vs us →
    sp vs H Q E0 → codeAny (model P w) A (.call (.ref f) ⟨us, []⟩) (CR CX0 fr P w H st Q E0) st
section
variable {P : Program} {w : World} {K : PySem.W.Frag} {mg : Str → Option Value} {base : Heap} {k : Nat} {f : Addr} {sp : Sp}
theorem FnG.mono {j : Nat} (F : FnG P w K mg base j f sp) (h : j ≤ k) : FnG P w K mg base k f sp := fun A fr st H us vs Q hg hr => F A fr st H us vs Q hg (hr.mono h)
theorem fg_of {name qual : Str} {pms : Arguments} {body : List Stmt} {sc : Scope} {dV kV doc pm cdv ct oc : Value} {an od : Option Addr} {osl : Array (Option Value)} {N ps : List Str}
    (lk : K.lookup f = some ⟨oc, od, .func (PySem.W.fnOf name qual pms body sc dV kV doc pm an cdv ct), osl⟩) (hc : PySem.W.codeIn K cdv qual = true) (S : FnScope N ps sc)
    (hB : Binds K (PySem.W.fnOf name qual pms body sc dV kV doc pm an cdv ct) ps []) (hlen : ∀ vs H Q E, sp vs H Q E → vs.length = ps.length)
    (hbd : ∀ (A : Around) (fr : List Env) (st : Shared) (H : Hp) (vs : List V) (Q : VK), A.guards = some [] → Room k (A.deeper (envOfC qual sc st.heap.objs.size f cdv)) → sp vs H Q E0 →
      ∃ t, PSs (cxOf CX0 P w K mg base N qual sc f cdv A fr st H E0).nox body t ∧ t { nx := fun _ H' => Q .non H', rt := Q } (start N vs) H) :
    FnG P w K mg base (k + 1) f sp := by
  intro A fr st H us vs Q hg hr e0 r hs
  have hl := hlen _ _ _ _ hs
  have hul : (us ++ []).length = ps.length := by
    rw [List.append_nil, ← r.length, hl]
  have KX : K.In st.heap := e0.mod.kin.keeps fun b o e => (e0.bs b o e).1
  have nl : st.heap.NoLimit := e0.mod.nolimit.keeps fun b o e => (e0.bs b o e).1
  have hk : ∀ y ∈ ps.zip us, sc.names.lookup y.1 = some .local ∨ (sc.names.lookup y.1 = some .cell ∧ ((cellsFrom (st.heap.objs.size + 1) sc.names []).lookup y.1).isSome = true) := by
    intro y hy
    rcases S.par y.1 (List.of_mem_zip hy).1 with q | q
    · exact .inl q
    · exact .inr ⟨q, PySem.W.cellsFrom_some _ _ _ (.inl q)⟩
  have hb2 := hB st us KX hul
  rw [List.append_nil] at hb2
  refine codeAny_call_function hr.depth (KX _ _ lk) rfl S.co S.gen rfl (PySem.W.codeRec_of KX hc) (hb2 _ _ _ _ ?_)
  refine wpAny_newFunctionEnv_cells S.kind hk fun env he s1 x => ?_
  subst he
  refine ⟨nl.keeps x.toInCall.keep, codeAny_func ?_⟩
  obtain ⟨t, ht, hq⟩ := hbd A fr st H vs Q hg (hr.deeper _) hs
  have J : Inv (cxOf CX0 P w K mg base N qual sc f cdv A fr st H E0) [] (start N vs) H s1 := inv_start S hr.hd e0 hl r x
  refine wpAny_mono (ht.nox.run [] s1 (start N vs) H _ J hq) (fun fl s' hz => ?_) fun e s' hz => hz
  cases fl with
  | ret u =>
    obtain ⟨v, σ', H', J', rv, q⟩ := hz
    exact ⟨v, H', J'.os, J'.bare, J'.base, J'.hok, rv, q⟩
  | next =>
    obtain ⟨σ', H', J', q⟩ := hz
    exact ⟨.non, H', J'.os, J'.bare, J'.base, J'.hok, rfl, q⟩
  | brk => exact (hz.choose_spec.choose_spec.2 : False).elim
  | cont => exact (hz.choose_spec.choose_spec.2 : False).elim
/-- the def's rule, by its text -/
theorem fun_g {x qual : Str} {st : Stmt} {fd : FuncData} {N ps : List Str} (F : Fun K x qual st f fd) (S : FnScope N ps (defScope st)) (hB : Binds K fd ps []) (hlen : ∀ vs H Q E, sp vs H Q E → vs.length = ps.length)
    (hbd : ∀ (cdv : Value) (A : Around) (fr : List Env) (s : Shared) (H : Hp) (vs : List V) (Q : VK), A.guards = some [] → Room k (A.deeper (envOfC qual (defScope st) s.heap.objs.size f cdv)) → sp vs H Q E0 →
      ∃ t, PSs (cxOf CX0 P w K mg base N qual (defScope st) f cdv A fr s H E0).nox (defBody st) t ∧ t { nx := fun _ H' => Q .non H', rt := Q } (start N vs) H) :
    FnG P w K mg base (k + 1) f sp := by
  obtain ⟨oc, od, kV, doc, pm, an, cdv, ct, osl, rfl, lk, hc⟩ := F.ex
  exact fg_of lk hc S hB hlen fun A fr s H vs Q hg hr hs => hbd cdv A fr s H vs Q hg hr hs
end
section
variable {X : Cx} {k : Nat} {f : Addr} {sp : Sp} {x : Str} {p pos : Pos} {e : Expr} {es : List Expr} {t : TA}
/-- f(e, ..) -/
theorem pe_callg (F : FnG X.prog X.w X.K X.mg X.base k f sp) (hg : X.A.guards = some []) (hr : Room k X.A) (gl : Gl X x) (hm : X.mg x = some (.ref f)) (hk : PySem.W.keepIn X.K (.ref f) = true)
    (ha : PA X (e :: es) t) (hdb : (x == ("__debug__" : Str)) = false := by decide) (he : starEach (e :: es) X.env = (false, eval e X.env) :: starEach es X.env := by rfl) (hpl : (backTo pos (starEach es X.env)).any (·.1) = false := by rfl) :
    PE X (.Call (.Name x p) (e :: es) [] pos) (tCall sp [] E0 t) := by
  refine ⟨fun pins s σ H Q I h => ?_⟩
  refine wpAny_Call_Name_kw (ld_glob I gl hm ?_ hdb)
  refine PySem.W.callWith_K (h₀ := X.base) I.ok.mod.kin hk (thn (ha.run pos pins s σ H _ I h) fun us s1 ⟨vs, H1, I1, r, q⟩ => ⟨I1.kIn, ?_⟩) he hpl
  have q1 : sp vs H1 Q E0 := by
    have z : sp (vs ++ []) H1 Q E0 := q
    rw [List.append_nil] at z
    exact z
  refine wpAny_call (codeAny_mono (F X.A X.stack s1 H1 us vs Q hg hr I1.env0 r q1) fun r s' hq => ?_)
  match r, hq with
  | .ok (.ret u), hq => exact I1.after hq
  | .ok .next, hq => exact False.elim hq
  | .ok .brk, hq => exact False.elim hq
  | .ok .cont, hq => exact False.elim hq
  | .error _, hq => exact False.elim hq
end
/-! ### repr of data -/
def rRepr (K : PySem.W.Frag) : List V → Hp → VK → Prop := fun xs H Q => ∃ (a : Addr) (d : PyData), xs = [.ref a] ∧ Dp K H (.ref a) d ∧ d.showable = true ∧ d.hasDict = false ∧ d.depth ≤ 60 ∧ d.shown.length ≤ sizeLine ∧ Q (.str d.shown) H
section
variable {X : Cx}
theorem call_reprD (hg : X.A.guards = some []) (hu : X.A.units + 64 < cLine) : CallR X (.builtin "repr") (rRepr X.K) := by
  intro pins s σ H xs us Q I r h
  obtain ⟨a, d, rfl, hd, h1, h2, h3, h4, q⟩ := h
  obtain ⟨u, rfl, ru⟩ := vals1 r
  obtain ⟨as, rd⟩ := Dp.reads I d _ _ hd ru
  obtain rfl : u = Value.ref a := ru
  exact repr_of_reads' rd h1 (PyData.noDict_hsm h2) hg (by omega) (fun _ _ e => e) (fun h' u tk hk => ⟨.str d.shown, H, I.kept hk, ⟨_, rfl⟩, q⟩) h4
end
/-! ### sorted of a tuple of texts -/
/-! ### enumerate of a tuple -/
theorem enum_tup_new {t : Addr} {items : Array Value} : Meets (Builtin.«enumerate.__new__» ⟨[.type "enumerate", .ref t], []⟩) (fun _ R s => s.heap.IsTuple t items ∧
      R (.ok (.ret (.ref (s.heap.push { cls := .type "tuple_iterator", data := .fields #[.ref t, .int 0 0] }).objs.size)))
        { s with heap := (s.heap.push { cls := .type "tuple_iterator", data := .fields #[.ref t, .int 0 0] }).push { cls := .type "enumerate", data := .fields #[.none, .bool false, .ref s.heap.objs.size, rawInt 0, .none, .none] } }) :=
  .of_wp fun prog w A R s h => by
    obtain ⟨hp, g, d, tk, os⟩ := s
    obtain ⟨hT, k⟩ := h
    have hsub := sub_enumerate
    have it : ∀ {A' : Around} {E Q : Value → Shared → Prop}, Q (.ref hp.objs.size) ⟨hp.push { cls := .type "tuple_iterator", data := .fields #[.ref t, .int 0 0] }, g, d, tk, os⟩ → wpAny (model prog w) A' (pyIter (.ref t)) Q E ⟨hp, g, d, tk, os⟩ :=
      fun q => wpAny_pyIter_tuple (items := items) hT q
    wp_walk using it
    refine wpAny_stack_any fun st => wpAny_pure ?_
    split
    · rename_i c _ _ _ _ _
      cases (c == Value.type "enumerate") <;> (wp_walk using it; exact ⟨_, rfl, k⟩)
    · wp_walk using it
      exact ⟨_, rfl, k⟩
section
variable {prog : Program} {w : World} {A : Around} {E : Value → Shared → Prop} {s : Shared}
theorem call_enum_tup {t : Addr} {items : Array Value} {Q : Value → Shared → Prop} (hT : s.heap.IsTuple t items)
    (k : ∀ h', IsEnum h' (s.heap.objs.size + 1) s.heap.objs.size 0 .none → h'.IsTupleIter s.heap.objs.size t 0 → h'.objs.size = s.heap.objs.size + 2 →
      (∀ b o, s.heap.get? b = some o → h'.get? b = some o) → Q (.ref (s.heap.objs.size + 1)) { s with heap := h' }) :
    wpAny (model prog w) A (call (.type "enumerate") [.ref t]) Q E s := by
  refine callType_new F.called_enumerate (by decide) (F.typeCall_enumerate_1 _) (F.newCall_enumerate_1 _) (fun obj => F.args_object_init_2 obj _) F.entry_enumerate_new enum_tup_new ⟨hT, ?_⟩
  have hz : (s.heap.push { cls := .type "tuple_iterator", data := .fields #[.ref t, .int 0 0] }).objs.size = s.heap.objs.size + 1 := Heap.size_push ..
  refine (show _ ∧ _ from ?_)
  rw [hz]
  have he := Heap.get?_push_size (s.heap.push { cls := .type "tuple_iterator", data := .fields #[.ref t, .int 0 0] }) (o := { cls := .type "enumerate", data := .fields #[.none, .bool false, .ref s.heap.objs.size, rawInt 0, .none, .none] }) rfl
  rw [hz] at he
  refine ⟨⟨_, he, rfl⟩, k _ he ⟨_, Heap.get?_push_of_some _ (Heap.get?_push_size _ rfl), rfl, rfl⟩ ?_ fun b o x => Heap.get?_push_of_some _ (Heap.get?_push_of_some _ x)⟩
  rw [Heap.size_push, hz]
end
theorem wpAny_pyNext_enum_none {prog : Program} {w : World} {A : Around} {E : Value → Shared → Prop} {s : Shared} {e it t : Addr} {i : Nat} {items : Array Value} {old : Value} {Q : Option Value → Shared → Prop} (hh : A.in1.handled = none) (he : IsEnum s.heap e it i old) (hit : s.heap.IsTupleIter it t i) (ht : s.heap.IsTuple t items)
    (hx : items[i]? = none) (k : ∀ h', Heap.ExtBut it s.heap h' → Q none { s with heap := h' }) : wpAny (model prog w) A (pyNext (.ref e)) Q E s := by
  have ty : s.TypeIs (.ref e) "enumerate" := ⟨_, he, rfl⟩
  unfold pyNext
  refine wpAny_bind (wpAny_attempt (wpAny_callSpecial?_slot (name := Str.ofString "__next__") ty F.slot_enumerate_next
    (wpAny_call_entry F.slot_enumerate_next ty F.entry_enumerate_next ?_ (F.args_enumerate_next_1 _))))
  refine (show wpAny _ _ (field (.ref e) 2 >>= _) _ _ _ from ?_)
  refine wpAny_bind (wpAny_field he rfl (x := .ref it) rfl ?_)
  refine wpAny_bind (wpAny_nextOf_tuple_end hh hit ht hx fun h' x eb hx' => ?_)
  obtain ⟨o, ho, hc⟩ := hx'
  refine wpAny_bind (wpAny_isInstance (T := "StopIteration") (b := true) ⟨o, ho, hc⟩ isSubtype_stop ?_)
  exact wpAny_pure (k _ eb)
/-- the tuple at a, each item in a new pair behind its index -/
def IteT (K : PySem.W.Frag) (a : Addr) : It where
  go := fun i H => ∃ xs x, SqT K H a xs ∧ xs[i]? = some x
  yld := fun i H v H' => ∃ T x, v = .ref T ∧ H T = none ∧ H' = upd H T (.tup [.int (i : Nat), x]) ∧ ∀ xs, SqT K H a xs → xs[i]? = some x
  stop := fun i H => ∃ xs, SqT K H a xs ∧ xs.length ≤ i
theorem turn_enumT {P : Program} {w : World} {K : PySem.W.Frag} {elts : List Expr} {kk : Nat} {tpos : Pos} (a e it : Addr) :
    Turn P w K (.Tuple elts kk tpos) (IteT K a) [e, it] e (fun i h => (∃ old, IsEnum h e it ((i : Nat) : Int) old) ∧ h.IsTupleIter it a i ∧ e ≠ it) where
  mem := List.mem_cons_self
  obj := by
    rintro i h ⟨⟨old, he⟩, ⟨o, ho, hc, hd⟩, _⟩ b hb
    have e' : b = e ∨ b = it := by simpa using hb
    rcases e' with rfl | rfl
    · exact ⟨_, he, fun v q => nomatch q⟩
    · refine ⟨o, ho, fun v q => ?_⟩
      rw [hd] at q
      cases q
  keep := fun i h h' st k => ⟨⟨st.1.choose, k e (by simp) _ st.1.choose_spec⟩, st.2.1.at fun o q => k it (by simp) o q, st.2.2⟩
  item := by
    intro X hP hw hK hc i pins s σ H E I hf st hg
    subst hP hw hK
    obtain ⟨⟨old, he⟩, hit, hne⟩ := st
    obtain ⟨xs, x, hq, hx⟩ := hg
    obtain ⟨its, rv, p, hz⟩ := I.tuple hq
    obtain ⟨u, hu, ru⟩ := rv.get hx
    have hel : e < s.heap.objs.size := Heap.lt_size he
    have hil : it < s.heap.objs.size := by
      obtain ⟨_, q, _⟩ := hit
      exact Heap.lt_size q
    obtain ⟨ot, hot, hct, _⟩ := id (show s.heap.IsTuple a its.toArray from p)
    have hae : e ≠ a := fun q => by
      have z : s.heap.get? e = some ot := q ▸ hot
      rw [he] at z
      cases z
      exact absurd (show Value.type "enumerate" = Value.type "tuple" from hct) (by decide)
    have hait : a ≠ it := fun q => by
      obtain ⟨o2, h2, c2, _⟩ := hit
      rw [← q, hot] at h2
      cases h2
      rw [hct] at c2
      exact absurd c2 (by decide)
    have hlt : i < its.toArray.size := by
      have := (List.getElem?_eq_some_iff.mp hu).1
      simpa using this
    have hh : X.A.in1.handled = none := I.ok.hd hc
    refine wpAny_pyNext_enum_itemD (Draws.tuple hh it a hait its.toArray) he ⟨hit, p⟩ hlt hne (by simp [hne, hae]) fun y h' tk hy ho hst hT hsz hk => ?_
    have hyu : y = u := by
      have z : its.toArray[i]? = some y := hy
      rw [List.getElem?_toArray, hu] at z
      exact (Option.some.inj z).symm
    subst hyu
    refine ⟨_, rfl, wpAny_letOwnedTupleGo_enum (s := { s with heap := h', toks := tk + 1 }) ho fun h'' he' sb => ?_⟩
    have hT2 : h''.get? s.heap.objs.size = some { cls := .type "tuple", data := .seq #[.int i tk, y] } := (sb.2 _ (Nat.ne_of_gt hel)).trans hT
    have new : ObjOk X.prog X.w (upd H s.heap.objs.size (.tup [.int (i : Nat), x])) h'' s.heap.objs.size (.tup [.int (i : Nat), x]) :=
      ⟨(by decide : 2 ≤ sizeLine), [.int i tk, y], .cons ⟨_, rfl⟩ (.cons ru .nil), ⟨_, hT2, rfl, _, rfl⟩⟩
    have I1 : Inv X pins σ (upd H s.heap.objs.size (.tup [.int (i : Nat), x])) { s with heap := h'', toks := tk + 1 } := by
      refine I.turnedNew (ch := [e, it]) (fun b ob hb q => ?_) hf (Nat.le_refl _) new
      rw [sb.2 b (fun z => hb (by simp [z]))]
      exact hk b ob (fun z => hb (by simp [z])) (fun z => hb (by simp [z])) q
    refine ⟨.ref s.heap.objs.size, _, I1, rfl, ⟨_, x, rfl, I.hok.fresh (Nat.le_refl _), rfl, fun ys hy => by rw [I.tuple_inj hy hq]; exact hx⟩, ⟨⟨y, ?_⟩, ?_, hne⟩, fun b hb => ?_⟩
    · rw [show ((i + 1 : Nat) : Int) = (i : Int) + 1 from by omega]
      exact he'
    · exact hst.1.at fun o q => (sb.2 it (Ne.symm hne)).trans q
    · have hb' : b < s.heap.objs.size := by
        have e' : b = e ∨ b = it := by simpa using hb
        rcases e' with z | z
        · rw [z]
          exact hel
        · rw [z]
          exact hil
      rw [upd_ne (Nat.ne_of_lt hb')]
      exact (hf b hb).1
  done := by
    intro X hP hw hK hc i pins s σ H E I hf st hg
    subst hP hw hK
    obtain ⟨⟨old, he⟩, hit, hne⟩ := st
    obtain ⟨xs, hq, hx⟩ := hg
    obtain ⟨its, rv, p, hz⟩ := I.tuple hq
    obtain ⟨f0, f1, f2, f3, f4, f5⟩ := hf it (by simp)
    have hh : X.A.in1.handled = none := I.ok.hd hc
    have hl := rv.length
    obtain ⟨ot, hot, hct, _⟩ := id (show s.heap.IsTuple a its.toArray from p)
    have hait : a ≠ it := fun q => by
      obtain ⟨o2, h2, c2, _⟩ := hit
      rw [← q, hot] at h2
      cases h2
      rw [hct] at c2
      exact absurd c2 (by decide)
    refine wpAny_pyNext_enum_none hh he hit p (by simp; omega) fun h' eb => ⟨rfl, I.turned (t' := s.toks) (fun b o hb q => eb b o hb q) f0 f1 f3 f4 f5⟩
  self := fun A i s Q E st h => wpAny_pyIter_enum st.1.choose_spec h
def iEnumT (K : PySem.W.Frag) (ta : TA) : TI := fun σ H R => ta σ H fun vs H1 => ∃ a xs, vs = [.ref a] ∧ SqT K H1 a xs ∧ R (IteT K a) H1
theorem pi_enumT {X : Cx} {e : Expr} {ta : TA} {p pos tpos : Pos} {elts : List Expr} {kk : Nat} (hg : Gl X "enumerate") (hm : X.mg "enumerate" = none) (ha : PA X [e] ta) (hs : starEach [e] X.env = [(false, eval e X.env)] := by rfl) :
    PI X (.Tuple elts kk tpos) (.Call (.Name "enumerate" p) [e] [] pos) (iEnumT X.K ta) := by
  refine ⟨fun pins s σ H R I h => ?_⟩
  refine Call_ (ld_blt I hg hm boot_enumerate (PyProof.Rows.callWith_type1 (thn (ha.run pos pins s σ H _ I h) fun us s1 ⟨vs, H1, I1, r1, a, xs, ex, hq, q⟩ => ?_) hs rfl))
  subst ex
  obtain ⟨u, rfl, ru⟩ := vals1 r1
  obtain rfl : u = Value.ref a := ru
  obtain ⟨its, rv, p', hz⟩ := I1.tuple hq
  refine call_enum_tup (show s1.heap.IsTuple a its.toArray from p') fun h' he hit hsz hk => wpAny_pyIter_enum he ?_
  have I2 : Inv X pins σ H1 { s1 with heap := h' } := I1.kept (t' := s1.toks) hk
  refine ⟨s1.heap.objs.size + 1, [s1.heap.objs.size + 1, s1.heap.objs.size], _, _, H1, rfl, I2, turn_enumT a (s1.heap.objs.size + 1) s1.heap.objs.size, ⟨⟨.none, he⟩, hit, Nat.succ_ne_self _⟩, fun b hb => ?_, q⟩
  have e' : b = s1.heap.objs.size + 1 ∨ b = s1.heap.objs.size := by simpa using hb
  have hle : s1.heap.objs.size ≤ b := by
    rcases e' with z | z
    · rw [z]
      exact Nat.le_succ _
    · rw [z]
      exact Nat.le_refl _
  exact I1.fpOk hle (I1.hok.fresh hle)
/-! ### o.m(k = v, ..) -/
/-! ### tuples that are known to the object: their methods -/
def TupO (H : Hp) (a : Addr) (xs : List V) : Prop := ∃ o : Obj, H a = some (.frz o (.tup xs)) ∧ o.dict = none
theorem TupO.sqt {K : PySem.W.Frag} {H : Hp} {a : Addr} {xs : List V} (h : TupO H a xs) : SqT K H a xs := .inl (.inr ⟨_, h.choose_spec.1⟩)
theorem TupO.same {H H' : Hp} {a : Addr} {xs : List V} (h : TupO H a xs) (s : ∀ b o, H b = some o → H' b = some o) : TupO H' a xs := ⟨_, s _ _ h.choose_spec.1, h.choose_spec.2⟩
/-- tuple(list): a new one; tuple(tuple): itself -/
def rTupF (K : PySem.W.Frag) : List V → Hp → VK → Prop := fun xs H Q => ∃ p ys, xs = [.ref p] ∧ ((SqL K H p ys ∧ ∀ (l : Addr) (o : Obj), H l = none → o.dict = none → Q (.ref l) (upd H l (.frz o (.tup ys)))) ∨ (SqT K H p ys ∧ Q (.ref p) H))
section
variable {X : Cx} {o e : Expr} {es : List Expr} {to : TE} {t : TA} {name : Str} {apos cpos : Pos} {id : String} {r : V → List V → Hp → VK → Prop}
theorem call_tupF : CallR X (.type "tuple") (rTupF X.K) := by
  intro pins s σ H xs us Q I r h
  obtain ⟨p, ys, rfl, h⟩ := h
  obtain ⟨u, rfl, rx⟩ := vals1 r
  obtain rfl : u = Value.ref p := rx
  rcases h with ⟨hq, q⟩ | ⟨hq, q⟩
  · obtain ⟨its, rv, pl, hz⟩ := I.list hq
    have hl := rv.length
    refine call_tuple_list pl.isList (fun h' kp => ?_) (by simp only [List.size_toArray]; omega)
    have I1 : Inv X pins σ H { s with heap := h' } := I.kept (t' := s.toks) kp
    have at1 := Heap.get?_push_size h' (o := { cls := .type "tuple", data := .seq its.toArray }) rfl
    have I2 : Inv X pins σ (upd H h'.objs.size (.frz { cls := .type "tuple", data := .seq its.toArray } (.tup ys))) { s with heap := h'.push { cls := .type "tuple", data := .seq its.toArray } } :=
      I1.laid (t' := s.toks) (fun b o e => Heap.get?_push_of_some _ e) (Nat.le_refl _) ⟨at1, hz, its, rv, IsTup.new _ _⟩
    exact ⟨.ref h'.objs.size, _, I2, rfl, q _ _ (I1.hok.fresh (Nat.le_refl _)) rfl⟩
  · obtain ⟨its, rv, pl, hz⟩ := I.tuple hq
    exact call_tuple_same pl ⟨.ref p, H, I, rfl, q⟩
end
/-! ### the end of a law whose def is promised while no repr is under way -/
theorem law_callg {P : Program} {w : World} {K : PySem.W.Frag} {mg mb : Str → Option Value} {k : Nat} {fa a : Addr} {sp : Sp} {st : Shared} {us : List Value} {ns : List Int}
    (KX : K.In st.heap) (hn : st.heap.Ns mainGlobals mg) (hb : st.heap.Ns builtinsNs mb) (hbb : ∀ x : Str, x ≠ "__name__" → mb x = bootBuiltins x) (nl : st.heap.NoLimit) (hgens : st.gens = #[])
    (ha : st.heap.get? a = some { cls := .type "list", data := .seq us.toArray }) (hi : IntsAre us ns) (hz : ns.length ≤ sizeLine) (hr : Room k callerA)
    (F : ∀ base : Heap, K.In base → base.Ns mainGlobals mg → FnG P w K mg base k fa sp)
    (hsp : ∀ H : Hp, SqL K H a (ns.map V.int) → sp [.ref a] H (fun v _ => v = .bl true) E0) :
    codeAny (model P w) callerA (.call (.ref fa) ⟨[.ref a], []⟩) (fun r s' => r = .ok (.ret (.bool true)) ∧ OldK st.heap s'.heap ∧ s'.os = st.os ∧ AllBare s'.gens) st := by
  have rv := vals_ints hi
  have hlen := hi.length
  have key : ∀ H : Hp, Only H → SqL K H a (ns.map V.int) → HOk P w H st.heap → (∀ b, H b ≠ none → b = a) → (H a ≠ none → K.lookup a = none) →
      codeAny (model P w) callerA (.call (.ref fa) ⟨[.ref a], []⟩) (fun r s' => r = .ok (.ret (.bool true)) ∧ OldK st.heap s'.heap ∧ s'.os = st.os ∧ AllBare s'.gens) st := by
    intro H hO hS hok hA hK
    have offD : ∀ {b : Addr} {o : Obj} {es : Array DictEntry} {ep : Nat}, st.heap.get? b = some o → o.data = .dict es ep → H b = none := by
      intro b o es ep e d
      cases q : H b with
      | none => rfl
      | some v =>
        obtain rfl : b = a := hA b (by rw [q]; simp)
        rw [ha] at e
        cases e
        exact nomatch d
    have offK : ∀ {b : Addr} {o : Obj}, K.lookup b = some o → H b = none := by
      intro b o e
      cases q : H b with
      | none => rfl
      | some v =>
        obtain rfl : b = a := hA b (by rw [q]; simp)
        rw [hK (by rw [q]; simp)] at e
        cases e
    have toNs : ∀ {b : Addr} {m : Str → Option Value}, st.heap.Ns b m → (hidT st.heap H).Ns b m := fun ⟨o, es, ep, e, d, r⟩ => ⟨o, es, ep, hidT_get e (offD e d), d, r⟩
    have kb : K.In (hidT st.heap H) := fun b o e => hidT_get (KX b o e) (offK e)
    obtain ⟨mc, l1, l2⟩ := nl
    have M : Mod K mg (hidT st.heap H) := ⟨kb, toNs hn, ⟨mb, toNs hb, hbb⟩, ⟨mc, toNs l1, l2⟩⟩
    have e0 : Env0 P w K mg (hidT st.heap H) callerA [] st H :=
      ⟨rfl, M, fun b o e => of_hidT e, Nat.le_of_eq (hidT_size _ _), trivial, fun b hb => absurd (show b ∈ ([] : List Addr) from hb) (by simp), hok, .of_eq hgens⟩
    refine codeAny_mono (F _ kb (toNs hn) callerA [] st H [.ref a] [.ref a] _ rfl hr e0 (.cons rfl .nil) (hsp H hS)) fun r s' h => ?_
    match r, h with
    | .error e, h => exact h.elim
    | .ok .next, h => exact h.elim
    | .ok .brk, h => exact h.elim
    | .ok .cont, h => exact h.elim
    | .ok (.ret u), h =>
      obtain ⟨v, H', os, bare, un, hok', rr, q⟩ := h
      obtain rfl : v = .bl true := q
      obtain rfl : u = Value.bool true := rr
      refine ⟨rfl, OldK.of_keep fun b o e => ?_, os, bare⟩
      cases q : H b with
      | none => exact un.keep b o e q (fun z => absurd (show b ∈ ([] : List Addr) from z) (by simp)) (by simp)
      | some v =>
        rcases hO b with z | ⟨ob, xs, z⟩
        · rw [q] at z
          cases z
        · obtain ⟨g1, _⟩ := hok b _ z
          obtain ⟨g2, _⟩ := hok' b _ (un.frzs b ob _ z)
          rw [e] at g1
          cases g1
          exact g2
  cases hk : K.lookup a with
  | some o =>
    have e := KX a o hk
    rw [ha] at e
    cases e
    refine key (fun _ => none) (fun _ => .inl rfl) (.inr ⟨_, us.toArray, _, hk, rfl, rfl, rfl, ?_, by simpa using rv⟩) (fun b u z => nomatch z) (fun b z => absurd rfl z) fun z => absurd rfl z
    rw [List.size_toArray, hlen]
    exact hz
  | none =>
    let T : HO := .frz { cls := .type "list", data := .seq us.toArray } (.lst (ns.map V.int))
    refine key (fun b => if b = a then some T else none) (fun b => ?_) (.inl (.inr ⟨_, if_pos rfl⟩)) (fun b u z => ?_) (fun b z => ?_) fun _ => hk
    · by_cases hb : b = a
      · exact .inr ⟨_, _, if_pos hb⟩
      · exact .inl (if_neg hb)
    · by_cases hb : b = a
      · subst hb
        have z' := (if_pos rfl).symm.trans z
        cases z'
        exact ⟨ha, by rw [List.length_map]; exact hz, us, _, rv, ha⟩
      · have z' := (if_neg hb).symm.trans z
        cases z'
    · by_cases hb : b = a
      · exact hb
      · exact absurd (if_neg hb) z
theorem walk_g {l : PySem.W.OpenLaw} {n k : Nat} {q : Program} {loose : List Str} {XP : (Str → Option Value) → Heap → Prop} {YP : World → Heap → Prop} {d : DefRec} {K : Params → PySem.W.Frag} {sp : PySem.W.Frag → Sp}
    (hn : l.most = some n) (hn2 : n ≤ sizeLine) (hdf : d.params.defaults = []) (hr : Room k callerA) (hY : ∀ (w : World) (h : Heap), YP w h → (K w.params).In h)
    (F : ∀ (w : World) (mg : Str → Option Value) (fa : Addr) (h : Heap), (K w.params).In h → h.Ns mainGlobals mg → mg d.name = some (.ref fa) →
      ∀ base : Heap, (K w.params).In base → base.Ns mainGlobals mg → FnG l.prog w (K w.params) mg base k fa (sp (K w.params)))
    (hsp : ∀ (K : PySem.W.Frag) (H : Hp) (a : Addr) (ns : List Int), ns.length ≤ n → SqL K H a (ns.map V.int) → sp K [.ref a] H (fun v _ => v = .bl true) E0) :
    PySem.W.WalkO q loose XP YP l.row.toRowW d [] (fun f vs => PySem.call f vs) := by
  refine Att.attach_call hn hdf fun w s₀ s₁ mg mb fa o pm cd doc a vs ns G Y ho hd hcd hmg hobj hints hlen hg => ?_
  have KX := hY w _ Y
  exact law_callg KX G.T.g G.T.b G.T.builtins G.T.nolimit hg hobj hints (Nat.le_trans hlen hn2) hr (F w mg fa _ KX G.T.g hmg) fun H hS => hsp _ H a ns hlen hS
end MH
/-! Comprehensions by what their values are. -/
namespace MH
open PySem PySem.Spec PyProof.Rows L2
/-- all but lists stands -/
def SameO (H H' : Hp) : Prop := ∀ b o, (∀ l, o ≠ .lst l) → H b = some o → H' b = some o
theorem SameO.of {H H' : Hp} (s : Same H H') : SameO H H' := fun b o _ e => s b o e
theorem SameO.refl (H : Hp) : SameO H H := fun _ _ _ e => e
theorem SameO.trans {H H1 H2 : Hp} (a : SameO H H1) (b : SameO H1 H2) : SameO H H2 := fun c o n e => b c o n (a c o n e)
theorem SameO.put {H H1 : Hp} {D : Addr} {l : List V} {o : HO} (s : SameO H H1) (h : H1 D = some (.lst l)) : SameO H (upd H1 D o) := fun b x n e => by
  have e1 := s b x n e
  rw [upd_ne (ne_of e1 h (fun q => n l q))]
  exact e1
theorem SameO.sqt {K : PySem.W.Frag} {H H' : Hp} {a : Addr} {xs : List V} (s : SameO H H') (h : SqT K H a xs) : SqT K H' a xs := by
  rcases h with (h | ⟨o, h⟩) | h
  · exact .inl (.inl (s _ _ (fun l q => by cases q) h))
  · exact .inl (.inr ⟨o, s _ _ (fun l q => by cases q) h⟩)
  · exact .inr h
/-- what a comprehension leaves to be shown -/
abbrev LcQ (J : It) (g : TG) (tt : TT) (te : TE) (vs : List Nat) (σ : L2.St) (H1 : Hp) (D : Addr) (Qd : Hp → Prop) : Prop :=
  ∃ W : Nat → Nat → Hp → Prop, (∃ m, W 0 m (upd H1 D (.lst []))) ∧
    ∀ i m H, W i m H → (J.stop i H ∧ Qd H) ∨ (J.go i H ∧
      ∃ Nx : Hp → Prop, (∀ H', Nx H' → ∃ m', m' < m ∧ W (i + 1) m' H') ∧
        ∀ x H', J.yld i H x H' → g x (wipe σ vs) H' fun σ2 H2 => wipe σ2 vs = wipe σ vs ∧
          tt σ2 H2 fun b H3 => if b = true
            then te σ2 H3 fun y H4 => ∃ acc, H4 D = some (.lst acc) ∧ acc.length < sizeLine ∧ Nx (upd H4 D (.lst (acc ++ [y])))
            else Nx H3)
section
variable {J : It} {n : Nat} {G : Hp → Prop} {Y : Nat → Hp → V → Hp → Prop} {g : TG} {te : TE} {vs : List Nat} {σ : L2.St} {H1 : Hp} {D : Addr} {Qd : Hp → Prop}
/-- the general one: St stands throughout, the i-th value keeps R i -/
theorem lcg (w : Walk J n G Y) (St : Hp → Prop) (R : Nat → V → Hp → Prop) (nD : H1 D = none) (hn : n < 100000) (S0 : St (upd H1 D (.lst []))) (SD : ∀ H l zs, St H → H D = some (.lst l) → St (upd H D (.lst zs)))
    (hG : ∀ H', St H' → G H') (hY : ∀ i H x H', St H → Y i H x H' → Same H H') (hm : ∀ i v H H', R i v H → SameO H H' → R i v H')
    (hs : ∀ i x H H', i < n → St H → Y i H x H' → (∃ l, H' D = some (.lst l)) → ∀ Z : V → Hp → Prop, (∀ v H2, St H2 → SameO H' H2 → H2 D = H' D → R i v H2 → Z v H2) →
      g x (wipe σ vs) H' fun σ2 H2 => wipe σ2 vs = wipe σ vs ∧ te σ2 H2 Z)
    (hd : ∀ H' zs, St H' → H' D = some (.lst zs) → zs.length = n → (∀ i v, zs[i]? = some v → R i v H') → Qd H') : LcQ J g tYes te vs σ H1 D Qd := by
  refine lc_it w (fun i H => St H ∧ ∃ zs, H D = some (.lst zs) ∧ zs.length = i ∧ ∀ i v, zs[i]? = some v → R i v H) ⟨S0, [], upd_same, rfl, fun i v h => nomatch ((List.getElem?_nil (α := V) (i := i)).symm.trans h)⟩ (fun i H _ h => hG H h.1) ?_ ?_
  · rintro i x H H' hi ⟨st, zs, e, le, hz⟩ y
    have s := hY i H x H' st y
    refine hs i x H H' hi st y ⟨zs, s _ _ e⟩ _ fun v H2 st2 so eD hR => ?_
    have e2 : H2 D = some (.lst zs) := eD.trans (s _ _ e)
    have so2 : SameO H2 (upd H2 D (.lst (zs ++ [v]))) := (SameO.refl H2).put e2
    refine ⟨zs, e2, Nat.lt_of_lt_of_le (by omega : zs.length < 100000) (by decide), SD _ _ _ st2 e2, zs ++ [v], upd_same, by rw [List.length_append, le]; rfl, fun j u hj => ?_⟩
    by_cases c : j < zs.length
    · rw [List.getElem?_append_left c] at hj
      exact hm _ _ _ _ (hz j u hj) ((SameO.of s).trans (so.trans so2))
    · rw [List.getElem?_append_right (by omega)] at hj
      have ej : j - zs.length = 0 := by
        cases q : j - zs.length with
        | zero => rfl
        | succ n =>
          rw [q] at hj
          cases hj
      rw [ej] at hj
      obtain rfl : v = u := Option.some.inj hj
      obtain rfl : j = i := by omega
      exact hm _ _ _ _ hR so2
  · rintro H ⟨st, zs, e, le, hz⟩
    exact hd H zs st e le hz
/-- new things are made, nothing else changes -/
theorem lco (w : Walk J n G Y) (R : Nat → V → Hp → Prop) (nD : H1 D = none) (hn : n < 100000) (hG : ∀ H', Same H1 H' → G H') (hY : ∀ i H x H', Same H1 H → Y i H x H' → Same H H') (hm : ∀ i v H H', R i v H → SameO H H' → R i v H')
    (hs : ∀ i x H H', i < n → Same H1 H → Y i H x H' → ∀ Z : V → Hp → Prop, (∀ v H2, Same H' H2 → R i v H2 → Z v H2) →
      g x (wipe σ vs) H' fun σ2 H2 => wipe σ2 vs = wipe σ vs ∧ te σ2 H2 Z)
    (hd : ∀ H' zs, Same H1 H' → H' D = some (.lst zs) → zs.length = n → (∀ i v, zs[i]? = some v → R i v H') → Qd H') : LcQ J g tYes te vs σ H1 D Qd := by
  refine lcg w (fun H => Same H1 H ∧ ∃ l, H D = some (.lst l)) R nD hn ⟨fun b o h => ?_, _, upd_same⟩ (fun H l zs h e => ⟨fun b o hb => ?_, _, upd_same⟩) (fun H' h => hG H' h.1) (fun i H x H' h y => hY i H x H' h.1 y) hm (fun i x H H' hi h y _ Z hZ => ?_) (fun H' zs h e le hz => hd H' zs h.1 e le hz)
  · rw [upd_ne (ne_of_none h nD)]
    exact h
  · rw [upd_ne (ne_of_none hb nD)]
    exact h.1 b o hb
  · obtain ⟨s, l, e⟩ := h
    have s' := hY i H x H' s y
    refine hs i x H H' hi s y Z fun v H2 s2 hR => hZ v H2 ⟨s.trans (s'.trans s2), l, s2 _ _ (s' _ _ e)⟩ (SameO.of s2) ?_ hR
    rw [s2 _ _ (s' _ _ e), s' _ _ e]
/-- the values are known -/
theorem lcv {α : Type} (w : Walk J n G Y) (us : List α) (f : α → V) (hl : us.length = n) (nD : H1 D = none) (hn : n < 100000) (hG : ∀ H', Same H1 H' → G H') (hY : ∀ i H x H', Same H1 H → Y i H x H' → Same H H')
    (hs : ∀ i u x H H', us[i]? = some u → Same H1 H → Y i H x H' → ∀ Z : V → Hp → Prop, (∀ H2, Same H' H2 → Z (f u) H2) →
      g x (wipe σ vs) H' fun σ2 H2 => wipe σ2 vs = wipe σ vs ∧ te σ2 H2 Z)
    (hd : ∀ H', Same H1 H' → H' D = some (.lst (us.map f)) → Qd H') : LcQ J g tYes te vs σ H1 D Qd := by
  refine lco w (fun i v _ => (us.map f)[i]? = some v) nD hn hG hY (fun i v H H' h _ => h) (fun i x H H' hi s y Z hZ => ?_) (fun H' zs s e le hz => hd H' s ?_)
  · have hu : us[i]? = some (us[i]'(by omega)) := List.getElem?_eq_getElem _
    refine hs i _ x H H' hu s y Z fun H2 s2 => hZ _ H2 s2 ?_
    rw [List.getElem?_map, hu]
    rfl
  · have ez : zs = us.map f := by
      refine List.ext_getElem? fun i => ?_
      cases q : zs[i]? with
      | some v => exact (hz i v q).symm
      | none =>
        rw [List.getElem?_eq_none_iff] at q
        exact (List.getElem?_eq_none_iff.mpr (by rw [List.length_map]; omega)).symm
    rw [← ez]
    exact e
/-- those that pass -/
theorem lcf {tt : TT} {α : Type} (w : Walk J n G Y) (us : List α) (f : α → V) (c : α → Bool) (hl : us.length = n) (nD : H1 D = none) (hn : n < 100000) (hG : ∀ H', Same H1 H' → G H') (hY : ∀ i H x H', Same H1 H → Y i H x H' → Same H H')
    (hs : ∀ i u x H H', us[i]? = some u → Same H1 H → Y i H x H' → ∀ (Z : V → Hp → Prop) (N : Hp → Prop), (c u = true → ∀ H2, Same H' H2 → Z (f u) H2) → (c u = false → ∀ H2, Same H' H2 → N H2) →
      g x (wipe σ vs) H' fun σ2 H2 => wipe σ2 vs = wipe σ vs ∧ tt σ2 H2 fun b H3 => if b = true then te σ2 H3 Z else N H3)
    (hd : ∀ H', Same H1 H' → H' D = some (.lst ((us.filter c).map f)) → Qd H') : LcQ J g tt te vs σ H1 D Qd := by
  refine lc_it w (fun i H => Same H1 H ∧ H D = some (.lst (((us.take i).filter c).map f))) ⟨fun b o h => ?_, upd_same⟩ (fun i H _ h => hG H h.1) ?_ ?_
  · rw [upd_ne (ne_of_none h nD)]
    exact h
  · rintro i x H H' hi ⟨s, e⟩ y
    have s' := hY i H x H' s y
    have hu : us[i]? = some (us[i]'(by omega)) := List.getElem?_eq_getElem _
    generalize us[i]'(by omega) = u at hu
    refine hs i u x H H' hu s y _ _ (fun hc H2 s2 => ?_) (fun hc H2 s2 => ⟨s.trans (s'.trans s2), ?_⟩)
    · have e2 := s2 _ _ (s' _ _ e)
      refine ⟨_, e2, Nat.lt_of_lt_of_le (?_ : _ < 100000) (by decide), fun b o h => ?_, ?_⟩
      · rw [List.length_map]
        have := List.length_filter_le c (us.take i)
        rw [List.length_take] at this
        omega
      · rw [upd_ne (ne_of_none h nD)]
        exact s2 _ _ (s' _ _ (s _ _ h))
      · rw [upd_same, List.take_add_one, hu, List.filter_append, List.map_append]
        show _ = some (HO.lst (_ ++ List.map f (List.filter c [u])))
        rw [List.filter_cons, hc]
        rfl
    · have e2 := s2 _ _ (s' _ _ e)
      rw [e2, List.take_add_one, hu, List.filter_append, List.map_append]
      show _ = some (HO.lst (_ ++ List.map f (List.filter c [u])))
      rw [List.filter_cons, hc]
      show _ = some (HO.lst (_ ++ []))
      rw [List.append_nil]
  · rintro H ⟨s, e⟩
    rw [← hl, List.take_length] at e
    exact hd H s e
end
/-- walks of lists, tuples and ranges change nothing -/
theorem yat_same {xs : List V} {i : Nat} {H H' : Hp} {x : V} (h : YAt xs i H x H') : Same H H' := h.1 ▸ Same.refl _
theorem yfn_same {f : Nat → V} {i : Nat} {H H' : Hp} {x : V} (h : YFn f i H x H') : Same H H' := h.1 ▸ Same.refl _
theorem ypair_same {f g : Nat → Option V} {i : Nat} {H H' : Hp} {x : V} (h : YPair f g i H x H') : Same H H' := by
  obtain ⟨T, a, b, _, nT, rfl, _⟩ := h
  intro c o e
  rw [upd_ne (ne_of_none e nT)]
  exact e
end MH
/-! The mathematics: texts in order, names, menus. -/
namespace MH
open PySem PySem.Spec PyProof.Rows L2
/-! ### the order of texts -/
def ltS (x y : Str) : Prop := x.cps.toList < y.cps.toList
instance (x y : Str) : Decidable (ltS x y) := inferInstanceAs (Decidable (x.cps.toList < y.cps.toList))
theorem lst_lt_irrefl : ∀ a : List Nat, ¬ a < a := fun a h => List.lt_irrefl a h
theorem ltS_irrefl (x : Str) : ¬ ltS x x := lst_lt_irrefl _
theorem ltS_trans {x y z : Str} (a : ltS x y) (b : ltS y z) : ltS x z := List.lt_trans a b
theorem ltS_tri (x y : Str) : ltS x y ∨ x = y ∨ ltS y x := by
  by_cases h : ltS x y
  · exact .inl h
  · by_cases h2 : ltS y x
    · exact .inr (.inr h2)
    · refine .inr (.inl ?_)
      have e : x.cps.toList = y.cps.toList := List.le_antisymm (List.not_lt.mp h2) (List.not_lt.mp h)
      exact Str.ext' (Array.toList_inj.mp e)
theorem risingS_pw : ∀ (p : Str) (l : List Str), risingS p l = true → l.Pairwise (fun a b => ¬ ltS b a) ∧ ∀ x ∈ l, ¬ ltS x p
  | p, [], _ => ⟨List.Pairwise.nil, fun _ h => nomatch h⟩
  | p, x :: r, h => by
    have h' : (!ltCps x.cps.toList p.cps.toList && risingS x r) = true := h
    rw [Bool.and_eq_true, ltCps_eq] at h'
    obtain ⟨h1, h2⟩ := h'
    obtain ⟨q1, q2⟩ := risingS_pw x r h2
    have n1 : ¬ ltS x p := by
      intro z
      rw [decide_eq_true (show x.cps.toList < p.cps.toList from z)] at h1
      cases h1
    refine ⟨List.Pairwise.cons (fun y hy => q2 y hy) q1, fun y hy => ?_⟩
    rcases List.mem_cons.mp hy with rfl | hy
    · exact n1
    · intro z
      rcases ltS_tri x p with a | a | a
      · exact n1 a
      · subst a
        exact q2 y hy z
      · exact q2 y hy (ltS_trans z a)
theorem sortedS_pw : ∀ {l : List Str}, sortedS l = true → l.Pairwise (fun a b => ¬ ltS b a)
  | [], _ => List.Pairwise.nil
  | x :: r, h => List.Pairwise.cons (risingS_pw x r h).2 (risingS_pw x r h).1
/-- in order and none twice: each before the next -/
theorem sorted_lt {l : List Str} (hn : l.Nodup) (h : sortedS l = true) : l.Pairwise ltS := by
  have a := sortedS_pw h
  have b : l.Pairwise (fun x y => x ≠ y) := hn
  refine (List.pairwise_and_iff.mpr ⟨a, b⟩).imp fun {x y} z => ?_
  rcases ltS_tri x y with q | q | q
  · exact q
  · exact absurd q z.2
  · exact absurd q z.1
/-! ### names -/
def letters : Str := "abcdefghijklmnopqrstuvwxyz"
def digits : Str := "0123456789"
def isL (c : Nat) : Bool := decide (c ∈ letters.cps.toList)
def isD (c : Nat) : Bool := decide (c ∈ digits.cps.toList)
def nameOk (z : Str) : Bool := decide (1 ≤ z.length) && (decide (z.length ≤ 8) && (isL (z.cps.toList.getD 0 0) && z.cps.toList.all fun c => isL c || isD c))
/-! ### menus -/
end MH
/-! Data as repr shows it: its length, and what == and repr ask. -/
namespace MH
open PySem PySem.Spec PyProof.Rows L2
mutual
def cost : PyData → Nat
  | .none => 4
  | .bool _ => 5
  | .int _ => 101
  | .str x => 10 * x.length + 2
  | .list xs => costAll xs + 3
  | .tuple xs => costAll xs + 3
  | .dict _ => 0
def costAll : List PyData → Nat
  | [] => 0
  | x :: xs => cost x + 2 + costAll xs
end
mutual
def okD : PyData → Bool
  | .none => true
  | .bool _ => true
  | .int i => decide (i.natAbs < 10 ^ 100)
  | .str x => PyData.strOk x
  | .list xs => okDs xs
  | .tuple xs => okDs xs
  | .dict _ => false
def okDs : List PyData → Bool
  | [] => true
  | x :: xs => okD x && okDs xs
end
theorem strOk_lt {x : Str} (h : PyData.strOk x = true) : ∀ c ∈ x.cps.toList, c < 16 ^ 8 := by
  intro c hc
  unfold PyData.strOk at h
  rw [← Array.all_toList, List.all_eq_true] at h
  have := of_decide_eq_true (h c hc)
  omega
mutual
theorem shown_le : ∀ d : PyData, okD d = true → d.shown.length ≤ cost d
  | .none, _ => by decide +kernel
  | .bool true, _ => by decide +kernel
  | .bool false, _ => by decide +kernel
  | .int i, h => by
    have q := int_text_length_le10 (k := 100) (by decide) (of_decide_eq_true (show decide (i.natAbs < 10 ^ 100) = true from h))
    show (Str.ofString (toString i)).length ≤ 101
    rw [PySem.ofString_length]
    exact q
  | .str x, h => by
    rw [PyData.shown]
    exact StrLaws.reprText_len x (strOk_lt h)
  | .list xs, h => by
    have q := shownAll_le xs h
    have q2 := listText_len_le (PyData.shownAll xs)
    rw [PyData.shown]
    show _ ≤ costAll xs + 3
    omega
  | .tuple xs, h => by
    have q := shownAll_le xs h
    have q2 := tupleText_len_le (PyData.shownAll xs)
    rw [PyData.shown]
    show _ ≤ costAll xs + 3
    omega
  | .dict _, h => nomatch h
theorem shownAll_le : ∀ xs : List PyData, okDs xs = true → ((PyData.shownAll xs).map (·.length)).sum + 2 * (PyData.shownAll xs).length ≤ costAll xs
  | [], _ => by simp [PyData.shownAll]
  | x :: xs, h => by
    have h' : (okD x && okDs xs) = true := h
    rw [Bool.and_eq_true] at h'
    have a := shown_le x h'.1
    have b := shownAll_le xs h'.2
    rw [PyData.shownAll, List.map_cons, List.sum_cons, List.length_cons]
    show _ ≤ cost x + 2 + costAll xs
    omega
end
mutual
theorem ok_show : ∀ d : PyData, okD d = true → d.showable = true
  | .none, _ => by simp only [PyData.showable]
  | .bool _, _ => by simp only [PyData.showable]
  | .int i, h => by
    have q := of_decide_eq_true (show decide (i.natAbs < 10 ^ 100) = true from h)
    rw [PyData.showable]
    refine decide_eq_true ?_
    by_cases z : i.natAbs = 0
    · rw [z]
      decide
    · rw [Nat.log2_lt z]
      exact Nat.lt_of_lt_of_le q (by decide +kernel)
  | .str _, _ => by simp only [PyData.showable]
  | .list xs, h => by
    rw [PyData.showable]
    exact ok_showAll xs h
  | .tuple xs, h => by
    rw [PyData.showable]
    exact ok_showAll xs h
  | .dict _, h => nomatch h
theorem ok_showAll : ∀ xs : List PyData, okDs xs = true → PyData.showableAll xs = true
  | [], _ => by simp only [PyData.showableAll]
  | x :: xs, h => by
    have h' : (okD x && okDs xs) = true := h
    rw [Bool.and_eq_true] at h'
    rw [PyData.showableAll, ok_show x h'.1, ok_showAll xs h'.2]
    rfl
end
mutual
theorem ok_lay : ∀ d : PyData, okD d = true → d.canLay0 = true
  | .none, _ => by simp only [PyData.canLay0]
  | .bool _, _ => by simp only [PyData.canLay0]
  | .int _, _ => by simp only [PyData.canLay0]
  | .str x, h => by
    rw [PyData.canLay0]
    exact h
  | .list xs, h => by
    rw [PyData.canLay0]
    exact ok_layAll xs h
  | .tuple xs, h => by
    rw [PyData.canLay0]
    exact ok_layAll xs h
  | .dict _, h => nomatch h
theorem ok_layAll : ∀ xs : List PyData, okDs xs = true → PyData.canLayAll0 xs = true
  | [], _ => by simp only [PyData.canLayAll0]
  | x :: xs, h => by
    have h' : (okD x && okDs xs) = true := h
    rw [Bool.and_eq_true] at h'
    rw [PyData.canLayAll0, ok_lay x h'.1, ok_layAll xs h'.2]
    rfl
end
/-- what repr of data asks -/
structure ShowOk (K : PySem.W.Frag) (H : Hp) (a : Addr) (d : PyData) : Prop where
  dp : Dp K H (.ref a) d
  sh : d.showable = true
  nd : d.hasDict = false
  dep : d.depth ≤ 60
  len : d.shown.length ≤ sizeLine
theorem show_of {K : PySem.W.Frag} {H : Hp} {a : Addr} {d : PyData} (h : Dp K H (.ref a) d) (ok : okD d = true) (h1 : d.depth ≤ 60) (h2 : cost d ≤ 100000) : ShowOk K H a d :=
  ⟨h, ok_show d ok, PyData.hasDict_of_canLay d (ok_lay d ok), h1, Nat.le_trans (shown_le d ok) (Nat.le_trans h2 (by decide))⟩
theorem shaped_of {d : PyData} (ok : okD d = true) (h : d.depth ≤ 64) : SeqAt.shaped d = true := by
  unfold SeqAt.shaped
  rw [ok_lay d ok, decide_eq_true h]
  rfl
/-! texts in a row -/
theorem okDs_strs {ss : List Str} (h : ∀ z ∈ ss, PyData.strOk z = true) : okDs (ss.map PyData.str) = true := by
  induction ss with
  | nil => rfl
  | cons z r ih =>
    show (PyData.strOk z && okDs (r.map PyData.str)) = true
    rw [h z List.mem_cons_self, ih fun y hy => h y (List.mem_cons_of_mem _ hy)]
    rfl
theorem depth_strs : ∀ ss : List Str, PyData.depthAll (ss.map PyData.str) = 0
  | [] => by rw [List.map_nil, PyData.depthAll]
  | z :: r => by rw [List.map_cons, PyData.depthAll, depth_strs r, PyData.depth]; rfl
theorem dp_strs {K : PySem.W.Frag} {H : Hp} : ∀ ss : List Str, DpAll K H (ss.map V.str) (ss.map PyData.str)
  | [] => .nil
  | z :: r => .cons (.str z) (dp_strs r)
theorem isL_le {c : Nat} (h : isL c = true) : c < 128 := by
  have q : ∀ c ∈ letters.cps.toList, c < 128 := by decide +kernel
  exact q c (of_decide_eq_true h)
theorem isD_le {c : Nat} (h : isD c = true) : c < 128 := by
  have q : ∀ c ∈ digits.cps.toList, c < 128 := by decide +kernel
  exact q c (of_decide_eq_true h)
theorem nameOk_len {z : Str} (h : nameOk z = true) : z.length ≤ 8 := by
  unfold nameOk at h
  simp only [Bool.and_eq_true, decide_eq_true_eq] at h
  exact h.2.1
theorem nameOk_str {z : Str} (h : nameOk z = true) : PyData.strOk z = true := by
  unfold nameOk at h
  simp only [Bool.and_eq_true, decide_eq_true_eq] at h
  have q := h.2.2.2
  rw [List.all_eq_true] at q
  unfold PyData.strOk
  rw [← Array.all_toList, List.all_eq_true]
  intro c hc
  refine decide_eq_true ?_
  have w := q c hc
  rw [Bool.or_eq_true] at w
  rcases w with w | w
  · have := isL_le w
    omega
  · have := isD_le w
    omega
end MH
/-! A tuple taken from the back: t[::-1]. -/
namespace MH
open PySem PySem.Spec PyProof.Rows L2 PySem.SeqAt HT
end MH
/-! Own special methods of instances: -o, o == p, o != p, str(o). -/
namespace MH
open PySem PySem.Spec PyProof.Rows L2
section
variable {prog : Program} {w : World} {M : Model} {A : Around} {E : Value → Shared → Prop} {s : Shared} {K : PySem.W.Frag} {x C f L : Addr} {h₀ : Heap} {m : Str → Option Value} {ox : Obj} {od : Option Obj} {b tb : Value}
open PySem.W in
theorem ifBound_objNe {args : List Value} {Q : Option Value → Shared → Prop} (X : K.In s.heap) (I : InstAt s.heap x ox C od) (hs : findIn K (.ref C) "__ne__" = some (some (.builtin "object.__ne__")))
    (h : wpAny M A (call (.builtin "object.__ne__") (.ref x :: args)) (fun v => Q (some v)) E s) : wpAny M A (callSpecialIfBound? (.ref x) "__ne__" args) Q E s := by
  simp only [callSpecialIfBound?, bindSpecialIfBound?]
  refine wpAny_holding (wpAny_bind (wpAny_bind (wpAny_bind (I.type.here ((looks_findIn X hs).here ?_)))))
  refine wpAny_bind (wpAny_askSetting (wpAny_ite ?_))
  have fin : wpAny M A (call (.builtin "object.__ne__") ([.ref x] ++ args) >>= fun v => pure (some v)) Q E s := wpAny_bind (wpAny_mono h (fun v s' h' => wpAny_pure h') fun _ _ h' => h')
  split
  · exact wpAny_bind (wpAny_of_eq (F.cmp_object.ne.bind _) (wpAny_pure (by exact fin)))
  · exact wpAny_tryCatch (wpAny_bind (wpAny_of_eq (F.cmp_object.ne.bind _) (wpAny_pure (by exact fin))))
open PySem.W Builtin in
theorem entry_ne {Q : Fin → Shared → Prop} (hu : A.units < cLine) (X : K.In s.heap) (I : InstAt s.heap x ox C od) (hs : findIn K (.ref C) "__eq__" = some (some (.ref f))) (hf : isFn K (.ref f) = true)
    (h : wpAny M A (call (.ref f) [.ref x, b]) (fun v s' => ∃ k, v = .bool k ∧ Q (.done (.ret (.bool (!k)))) s') E s) : wpAny M A (Builtin.«object.__ne__» ⟨[.ref x, b], []⟩) Q E s := by
  unfold Builtin.«object.__ne__»
  repeat (first
    | with_reducible refine wpAny_cRoomFor hu ?_
    | (refine wpAny_bind (m := callSpecialIfBound? (.ref x) (Str.ofString "__eq__") [b]) (ifBound_K X I hs hf (wpAny_mono h (fun r s' hr => by
          obtain ⟨k, rfl, hq⟩ := hr
          repeat (first | exact hq | exact wpAny_pure hq | exact wpAny_truthy_bool hq | (refine wpAny_bind (m := truthy (.bool _)) (wpAny_truthy_bool ?_)) | wp_step)) fun _ _ e => e)))
    | wp_step)
open PySem.W in
theorem ne_K {Q : Value → Shared → Prop} (hu : A.units < cLine) (hu1 : A.in1.units < cLine) (F₀ : Fr h₀ L s.heap m) (X₀ : K.In h₀) (I : InstAt s.heap x ox C od) (hb : Looks (model prog w) s.heap (typeOf b) tb) (hn : notFirst K C tb = true)
    (hne : findIn K (.ref C) "__ne__" = some (some (.builtin "object.__ne__"))) (hm : mroIn K C (.type "object") = some true) (hs : findIn K (.ref C) "__eq__" = some (some (.ref f))) (hf : isFn K (.ref f) = true)
    (h : wpAny (model prog w) A.in1 (call (.ref f) [.ref x, b]) (fun v s' => ∃ k, v = .bool k ∧ Q (.bool (!k)) s') E s) : wpAny (model prog w) A (richCompare .NotEq (.ref x) b) Q E s := by
  have X := X₀.keeps F₀.keep
  have one : wpAny (model prog w) A (tryCompare (.ref x) "__ne__" b) (fun r s' => ∃ v, r = some v ∧ Q v s') E s := by
    unfold tryCompare
    refine wpAny_bind (ifBound_objNe X I hne (wpAny_call (codeAny_call_builtin F.cmp_object.ne.plain F.cmpEntry_ne (check_slot F.cmpKind_ne F.cmpSplit_ne (I.type.andThen (looks_mroIn X hm)) (F.cmpArgs_ne _ _)
      (entry_ne (A := A.in1) hu1 X I hs hf (wpAny_mono h (fun v s' hv => ?_) fun _ _ e => e))))))
    obtain ⟨k, rfl, hq⟩ := hv
    first | exact ⟨k, rfl, wpAny_pure ⟨_, rfl, hq⟩⟩ | exact ⟨k, rfl, wpAny_pure (wpAny_pure ⟨_, rfl, hq⟩)⟩ | exact ⟨k, rfl, ⟨_, rfl, hq⟩⟩
  unfold richCompare
  simp only [oneThing_ref]
  refine wpAny_holding (wpAny_bind (wpAny_cRoomFor hu ?_))
  rw [cmpInfo_NotEq]
  dsimp only
  refine wpAny_bind (I.type.here (wpAny_bind (hb.here ?_)))
  split
  · rename_i q
    have e : subIn K tb (.ref C) = some false := by
      rcases Bool.or_eq_true_iff.mp hn with e | e
      · rw [beq_iff_eq.mp e] at q; simp at q
      · exact beq_iff_eq.mp e
    refine wpAny_bind ((looks_subIn X e).here ?_)
    simp only [Bool.false_eq_true, if_false]
    refine wpAny_bind (wpAny_mono one (fun r s' z => ?_) fun _ _ e => e)
    obtain ⟨v, rfl, hq⟩ := z
    exact wpAny_pure hq
  · refine wpAny_bind (wpAny_pure ?_)
    simp only [Bool.false_eq_true, if_false]
    refine wpAny_bind (wpAny_mono one (fun r s' z => ?_) fun _ _ e => e)
    obtain ⟨v, rfl, hq⟩ := z
    exact wpAny_pure hq
end
section
variable {X : Cx} {CX : CXT} {k : Nat} {C f : Addr} {fd : FuncData} {ps : List Str} {sp : Sp} {E : XK}
/-- a def called from a deeper place (a builtin calls it) -/
theorem run_A {pins : List (Addr × Obj)} {σ : L2.St} {H : Hp} {s : Shared} {Q : VK} {A : Around} {us : List Value} {vs : List V} (F : FnOk X.prog X.w X.K X.mg X.base CX k f fd ps sp) (hr : Room k A) (e0 : Env0 X.prog X.w X.K X.mg X.base A X.stack s H)
    (hb : Binds X.K fd ps []) (hx : Passes CX X E) (I : Inv X pins σ H s) (r : Vals vs us) (h : sp vs H Q E) : wpAny (model X.prog X.w) A (call (.ref f) us) (EP X pins σ Q) X.xe s := by
  have hl : (us ++ []).length = ps.length := by rw [List.append_nil, ← r.length, F.len _ _ _ _ h]
  have hb2 := hb s us I.kIn hl
  rw [List.append_nil] at hb2
  refine wpAny_call (codeAny_mono (F.run A X.stack s H ⟨us, []⟩ us vs Q E hr e0 hb2 r h) fun r s' hq => ?_)
  cases r with
  | error e => exact hx pins σ H s e s' I hq
  | ok fl =>
    cases fl with
    | ret u => exact I.after hq
    | next => exact False.elim hq
    | brk => exact False.elim hq
    | cont => exact False.elim hq
/-- what len asks of a list or tuple (call_len_seq), named -/
abbrev rLenSq (K : PySem.W.Frag) : List V → Hp → VK → Prop := fun xs H Q => ∃ p ys, xs = [V.ref p] ∧ (SqL K H p ys ∨ SqT K H p ys) ∧ Q (V.int (ys.length : Nat)) H
/-- o == p -/
def rOO (C : Addr) (sp : Sp) (E : XK) : R2 := fun x y H Q => ∃ a b dx dy fs gs, x = .ref a ∧ y = .ref b ∧ H a = some (.ins C dx fs) ∧ H b = some (.ins C dy gs) ∧ sp [.ref a, .ref b] H (fun v H' => (∃ k, v = .bl k) ∧ Q v H') E
theorem op_eqO (hm : Meth X.K C "__eq__" f) (F : FnOk X.prog X.w X.K X.mg X.base CX k f fd ps sp) (hr : Room k X.A) (hb : Binds X.K fd ps []) (hx : Passes CX X E) : OpR X (compareOp .Eq) (rOO C sp E) := by
  intro pins s σ H x y v u Q I rx ry h
  obtain ⟨a, b, dx, dy, fs, gs, rfl, rfl, ha, hb', q⟩ := h
  obtain rfl : v = Value.ref a := rx
  obtain rfl : u = Value.ref b := ry
  obtain ⟨mA, J, _⟩ := ins_get I.hok ha
  obtain ⟨mB, J', _⟩ := ins_get I.hok hb'
  obtain ⟨od, J, _⟩ := J.look
  obtain ⟨od', J', _⟩ := J'.look
  obtain ⟨m, hF⟩ := I.fr
  refine PySem.W.cmp_K (op := .Eq) (tb := .ref C) hr.units0 hF I.ok.mod.kin J J'.type (by simp [PySem.W.notFirst]) hm.at_ hm.fn ?_
  refine wpAny_mono (run_A F hr I.env0 hb hx I (show Vals [V.ref a, V.ref b] [Value.ref a, Value.ref b] from .cons rfl (.cons rfl .nil)) q) (fun r s' z => ?_) fun _ _ e => e
  obtain ⟨v, H', I', rv, ⟨k, rfl⟩, q'⟩ := z
  obtain rfl : r = Value.bool k := rv
  exact ⟨.bl k, H', I', rfl, q'⟩
/-- o != p by the own == -/
def rONe (C : Addr) (sp : Sp) (E : XK) : R2 := fun x y H Q => ∃ a b dx dy fs gs, x = .ref a ∧ y = .ref b ∧ H a = some (.ins C dx fs) ∧ H b = some (.ins C dy gs) ∧ sp [.ref a, .ref b] H (fun v H' => ∃ k, v = .bl k ∧ Q (.bl (!k)) H') E
theorem op_neO (hm : Meth X.K C "__eq__" f) (hne : PySem.W.findIn X.K (.ref C) "__ne__" = some (some (.builtin "object.__ne__"))) (ho : PySem.W.mroIn X.K C (.type "object") = some true)
    (F : FnOk X.prog X.w X.K X.mg X.base CX k f fd ps sp) (hr : Room (k + 1) X.A) (hb : Binds X.K fd ps []) (hx : Passes CX X E) : OpR X (compareOp .NotEq) (rONe C sp E) := by
  intro pins s σ H x y v u Q I rx ry h
  obtain ⟨a, b, dx, dy, fs, gs, rfl, rfl, ha, hb', q⟩ := h
  obtain rfl : v = Value.ref a := rx
  obtain rfl : u = Value.ref b := ry
  obtain ⟨mA, J, _⟩ := ins_get I.hok ha
  obtain ⟨mB, J', _⟩ := ins_get I.hok hb'
  obtain ⟨od, J, _⟩ := J.look
  obtain ⟨od', J', _⟩ := J'.look
  obtain ⟨m, hF⟩ := I.fr
  refine ne_K (tb := .ref C) hr.units0 hr.in1.units0 hF I.ok.mod.kin J J'.type (by simp [PySem.W.notFirst]) hne ho hm.at_ hm.fn ?_
  refine wpAny_mono (run_A F hr.in1 I.env0.in1 hb hx I (show Vals [V.ref a, V.ref b] [Value.ref a, Value.ref b] from .cons rfl (.cons rfl .nil)) q) (fun r s' z => ?_) fun _ _ e => e
  obtain ⟨v, H', I', rv, k, rfl, q'⟩ := z
  obtain rfl : r = Value.bool k := rv
  exact ⟨k, rfl, .bl (!k), H', I', rfl, q'⟩
/-- str(o) -/
def rStrO (C : Addr) (sp : Sp) (E : XK) : List V → Hp → VK → Prop := fun xs H Q => ∃ a dx fs, xs = [.ref a] ∧ H a = some (.ins C dx fs) ∧ sp [.ref a] H (fun v H' => (∃ z, v = .str z) ∧ Q v H') E
theorem call_strO (hm : Meth X.K C "__str__" f) (F : FnOk X.prog X.w X.K X.mg X.base CX k f fd ps sp) (hr : Room (k + 2) X.A) (hb : Binds X.K fd ps []) (hx : Passes CX X E) : CallR X (.type "str") (rStrO C sp E) := by
  intro pins s σ H xs us Q I r h
  obtain ⟨a, dx, fs, rfl, ha, q⟩ := h
  obtain ⟨u, rfl, ru⟩ := vals1 r
  obtain rfl : u = Value.ref a := ru
  obtain ⟨mA, J, _⟩ := ins_get I.hok ha
  obtain ⟨od, J, _⟩ := J.look
  refine PySem.W.kso_call hr.in1.in1.units0 I.kIn J hm.at_ hm.fn ?_
  refine wpAny_mono (run_A F hr.in1.in1 I.env0.in1.in1 hb hx I (show Vals [V.ref a] [Value.ref a] from .cons rfl .nil) q) (fun r s' z => ?_) fun _ _ e => e
  obtain ⟨v, H', I', rv, ⟨z, rfl⟩, q'⟩ := z
  obtain ⟨t, rfl⟩ := rv
  exact ⟨.str z, H', I', ⟨t, rfl⟩, q'⟩
end
end MH
/-! Own rules: the call of an own object, o(..) by its class's __call__; the truth of a whole number within a comprehension. -/
namespace MH
open PySem PySem.Spec PyProof.Rows L2
end MH
/-! Comprehensions over two walks, the second within the first. -/
namespace MH
open PySem PySem.Spec PyProof.Rows L2
end MH
/-! More own special methods: len, bool, repr, [], in, == and != with values of other kinds, f-strings, classmethods. -/
namespace MH
open PySem PySem.Spec PyProof.Rows L2
section
variable {prog : Program} {w : World} {A : Around} {E : Value → Shared → Prop} {s : Shared} {K : PySem.W.Frag} {x C f L : Addr} {h₀ : Heap} {m : Str → Option Value} {ox : Obj} {od : Option Obj}
open PySem.W in
/-- truth by an own __len__ -/
theorem truthy_len {Q : Bool → Shared → Prop} (F₀ : Fr h₀ L s.heap m) (X₀ : K.In h₀) (I : InstAt s.heap x ox C od) (hs : findIn K (.ref C) "__bool__" = some none) (hl : findIn K (.ref C) "__len__" = some (some (.ref f))) (hf : isFn K (.ref f) = true)
    (h : wpAny (model prog w) A.in1 (call (.ref f) [.ref x]) (fun v s' => ∃ n t, v = .int n t ∧ 0 ≤ n ∧ n < 2 ^ 63 ∧ Q (n != 0) { s' with toks := s'.toks + 1 }) E s) : wpAny (model prog w) A (truthy (.ref x)) Q E s := by
  have X := X₀.keeps F₀.keep
  unfold truthy
  refine wpAny_bind (m := callSpecial? (.ref x) (Str.ofString "__bool__")) (wpAny_bind (wpAny_bind (I.type.here ((looks_findIn X hs).here (wpAny_pure ?_)))))
  refine wpAny_bind (wpAny_bind (I.type.here ((looks_findIn X hl).here ?_)))
  show wpAny _ _ (if (some (Value.ref f)).isNone = true then _ else _) _ _ _
  rw [if_neg (by simp)]
  have key : wpAny (model prog w) A (runValue (.builtin "len" ⟨[.ref x], []⟩)) (fun r s' => ∃ n t, r = .int n t ∧ Q (n != 0) s') E s := by
    refine wpAny_runValue (codeAny_builtin entry_len ?_)
    rw [show A.under (.builtin "len" ⟨[.ref x], []⟩) = A.in1 from Around.under_plainId (by decide +kernel) _]
    unfold Builtin.«len»
    refine wpAny_bind (m := oneArg "len" _) (wpAny_pure ?_)
    refine wpAny_bind (m := callSpecial? (.ref x) (Str.ofString "__len__")) (special_fn X I hl (beq_iff_eq.mp hf) (wpAny_mono h (fun r s' hr => ?_) fun _ _ y => y))
    obtain ⟨n, t, rfl, h0, h1, hq⟩ := hr
    refine wpAny_bind (wpAny_holding (wpAny_pure ?_))
    refine wpAny_bind (wpAny_letGo ?_)
    show wpAny _ _ (if n < 0 then _ else _) _ _ _
    rw [if_neg (by omega)]
    show wpAny _ _ (if n ≥ 2 ^ 63 then _ else _) _ _ _
    rw [if_neg (by omega)]
    exact wpAny_bind (wpAny_mkInt (wpAny_pure ⟨n, _, rfl, hq⟩))
  refine wpAny_bind (wpAny_mono key (fun r s' hr => ?_) fun _ _ y => y)
  obtain ⟨n, t, rfl, hq⟩ := hr
  exact wpAny_pure hq
open PySem.W in
theorem sub_ty {T : String} {l : List Value} (e : fastBuiltinMro T = some l) (h : l.all (fun v => match v with | .type _ => true | _ => false) = true) : subIn K (.type T) (.ref C) = some false := by
  show (fastBuiltinMro T).map (·.contains (.ref C)) = some false
  rw [e]
  show some (l.contains (Value.ref C)) = some false
  refine congrArg some ?_
  cases q : l.contains (Value.ref C) with
  | false => rfl
  | true =>
    have m := List.contains_iff_mem.mp q
    have z := List.all_eq_true.mp h _ m
    cases z
open PySem.W in
theorem notFirst_ty {T : String} (e : subIn K (.type T) (.ref C) = some false) : notFirst K C (.type T) = true := by
  unfold notFirst
  rw [e]
  simp
open PySem.W in
theorem kit_own {T : String} (c : Cls K C) (ht : typeIn K (.ref C) = some (.type "type")) (e : subIn K (.type T) (.ref C) = some false) : kitOne K (.type T) (.ref C) = some false := by
  obtain ⟨cd, hc, _⟩ := any_some c.hd
  unfold kitOne
  rw [if_neg (by simp)]
  unfold kitCls
  simp only [hc, ht]
  simpa using e
end
section
variable {X : Cx} {CX : CXT} {k : Nat} {C f : Addr} {fd : FuncData} {ps : List Str} {sp : Sp} {E : XK}
/-- len(o) -/
def rLenO (C : Addr) (sp : Sp) (E : XK) : List V → Hp → VK → Prop := fun xs H Q => ∃ a dx fs, xs = [.ref a] ∧ H a = some (.ins C dx fs) ∧ sp [.ref a] H (fun v H' => (∃ n : Int, v = .int n ∧ 0 ≤ n ∧ n < 2 ^ 63) ∧ Q v H') E
theorem call_lenO (hm : Meth X.K C "__len__" f) (F : FnOk X.prog X.w X.K X.mg X.base CX k f fd ps sp) (hr : Room (k + 1) X.A) (hb : Binds X.K fd ps []) (hx : Passes CX X E) : CallR X (.builtin "len") (rLenO C sp E) := by
  intro pins s σ H xs us Q I r h
  obtain ⟨a, dx, fs, rfl, ha, q⟩ := h
  obtain ⟨u, rfl, ru⟩ := vals1 r
  obtain rfl : u = Value.ref a := ru
  obtain ⟨mA, J, _⟩ := ins_get I.hok ha
  obtain ⟨od, J, _⟩ := J.look
  obtain ⟨m, hF⟩ := I.fr
  refine PySem.W.len_K hF I.ok.mod.kin J hm.at_ hm.fn ?_
  refine wpAny_mono (run_A F hr.in1 I.env0.in1 hb hx I (show Vals [V.ref a] [Value.ref a] from .cons rfl .nil) q) (fun r s' z => ?_) fun _ _ e => e
  obtain ⟨v, H', I', rv, ⟨n, rfl, h0, h1⟩, q'⟩ := z
  obtain ⟨t, rfl⟩ := rv
  exact ⟨⟨h0, h1⟩, .int n, H', I'.tok _, ⟨_, rfl⟩, q'⟩
/-- repr(o) -/
theorem call_reprO (hm : Meth X.K C "__repr__" f) (F : FnOk X.prog X.w X.K X.mg X.base CX k f fd ps sp) (hr : Room (k + 1) X.A) (hb : Binds X.K fd ps []) (hx : Passes CX X E) : CallR X (.builtin "repr") (rStrO C sp E) := by
  intro pins s σ H xs us Q I r h
  obtain ⟨a, dx, fs, rfl, ha, q⟩ := h
  obtain ⟨u, rfl, ru⟩ := vals1 r
  obtain rfl : u = Value.ref a := ru
  obtain ⟨mA, J, _⟩ := ins_get I.hok ha
  obtain ⟨od, J, _⟩ := J.look
  obtain ⟨m, hF⟩ := I.fr
  refine PySem.W.repr_K hr.in1.units0 hF I.ok.mod.kin J hm.at_ hm.fn ?_
  refine wpAny_mono (run_A F hr.in1 I.env0.in1 hb hx I (show Vals [V.ref a] [Value.ref a] from .cons rfl .nil) q) (fun r s' z => ?_) fun _ _ e => e
  obtain ⟨v, H', I', rv, ⟨z, rfl⟩, q'⟩ := z
  obtain ⟨t, rfl⟩ := rv
  exact ⟨.str z, H', I', ⟨t, rfl⟩, q'⟩
/-- o[e] -/
def tItO (C : Addr) (sp : Sp) (E : XK) (ta tb : TE) : TE := fun σ H Q => ta σ H fun x H1 => tb σ H1 fun y H2 => ∃ a dx fs, x = .ref a ∧ H2 a = some (.ins C dx fs) ∧ sp [.ref a, y] H2 Q E
theorem pe_itO {a b : Expr} {ta tb : TE} {pos : Pos} (hm : Meth X.K C "__getitem__" f) (hfi : PySem.W.fnIn X.K f = true) (F : FnOk X.prog X.w X.K X.mg X.base CX k f fd ps sp) (hr : Room (k + 1) X.A) (hb : Binds X.K fd ps []) (hx : Passes CX X E)
    (he : PE X a ta) (hi : PE X b tb) (hsl : ∀ o i, subscripted b true o i = runValue (.builtin "lifetime.subscript" ⟨[o, i], []⟩)) : PE X (.Subscript a b pos) (tItO C sp E ta tb) := by
  refine ⟨fun pins s σ H Q I h => ?_⟩
  refine Subscript_ (binT he hi I h fun v u s2 x y H2 I2 rx ry q => ?_)
  obtain ⟨o, dx, fs, rfl, ha, q⟩ := q
  obtain rfl : v = Value.ref o := rx
  obtain ⟨mA, J, _⟩ := ins_get I2.hok ha
  obtain ⟨od, J, _⟩ := J.look
  obtain ⟨m, hF⟩ := I2.fr
  exact PySem.W.sub_K hF I2.ok.mod.kin J hm.at_ hfi hm.fn (run_A F hr.in1 I2.env0.in1 hb hx I2 (show Vals [V.ref o, y] [Value.ref o, u] from .cons rfl (.cons ry .nil)) q) (hsl _ _)
/-- o == v, v of a known type -/
def rOX (C : Addr) (K : PySem.W.Frag) (sp : Sp) (E : XK) : R2 := fun x y H Q => ∃ a dx fs t, x = .ref a ∧ H a = some (.ins C dx fs) ∧ TyX K H y t ∧ PySem.W.notFirst K C t = true ∧ sp [.ref a, y] H (fun v H' => (∃ k, v = .bl k) ∧ Q v H') E
theorem op_eqX (hm : Meth X.K C "__eq__" f) (F : FnOk X.prog X.w X.K X.mg X.base CX k f fd ps sp) (hr : Room k X.A) (hb : Binds X.K fd ps []) (hx : Passes CX X E) : OpR X (compareOp .Eq) (rOX C X.K sp E) := by
  intro pins s σ H x y v u Q I rx ry h
  obtain ⟨a, dx, fs, t, rfl, ha, ty, hn, q⟩ := h
  obtain rfl : v = Value.ref a := rx
  obtain ⟨mA, J, _⟩ := ins_get I.hok ha
  obtain ⟨od, J, _⟩ := J.look
  obtain ⟨m, hF⟩ := I.fr
  obtain ⟨P, Z, p, _⟩ := kit_of I ry ty
  refine PySem.W.cmp_K (op := .Eq) (tb := t) hr.units0 hF I.ok.mod.kin J (Z.ty _ _ I.kIn p) hn hm.at_ hm.fn ?_
  refine wpAny_mono (run_A F hr I.env0 hb hx I (show Vals [V.ref a, y] [Value.ref a, u] from .cons rfl (.cons ry .nil)) q) (fun r s' z => ?_) fun _ _ e => e
  obtain ⟨w, H', I', rv, ⟨k, rfl⟩, q'⟩ := z
  obtain rfl : r = Value.bool k := rv
  exact ⟨.bl k, H', I', rfl, q'⟩
/-- o != v -/
def rNX (C : Addr) (K : PySem.W.Frag) (sp : Sp) (E : XK) : R2 := fun x y H Q => ∃ a dx fs t, x = .ref a ∧ H a = some (.ins C dx fs) ∧ TyX K H y t ∧ PySem.W.notFirst K C t = true ∧ sp [.ref a, y] H (fun v H' => ∃ k, v = .bl k ∧ Q (.bl (!k)) H') E
theorem op_neX (hm : Meth X.K C "__eq__" f) (hne : PySem.W.findIn X.K (.ref C) "__ne__" = some (some (.builtin "object.__ne__"))) (ho : PySem.W.mroIn X.K C (.type "object") = some true)
    (F : FnOk X.prog X.w X.K X.mg X.base CX k f fd ps sp) (hr : Room (k + 1) X.A) (hb : Binds X.K fd ps []) (hx : Passes CX X E) : OpR X (compareOp .NotEq) (rNX C X.K sp E) := by
  intro pins s σ H x y v u Q I rx ry h
  obtain ⟨a, dx, fs, t, rfl, ha, ty, hn, q⟩ := h
  obtain rfl : v = Value.ref a := rx
  obtain ⟨mA, J, _⟩ := ins_get I.hok ha
  obtain ⟨od, J, _⟩ := J.look
  obtain ⟨m, hF⟩ := I.fr
  obtain ⟨P, Z, p, _⟩ := kit_of I ry ty
  refine ne_K (tb := t) hr.units0 hr.in1.units0 hF I.ok.mod.kin J (Z.ty _ _ I.kIn p) hn hne ho hm.at_ hm.fn ?_
  refine wpAny_mono (run_A F hr.in1 I.env0.in1 hb hx I (show Vals [V.ref a, y] [Value.ref a, u] from .cons rfl (.cons ry .nil)) q) (fun r s' z => ?_) fun _ _ e => e
  obtain ⟨w, H', I', rv, k, rfl, q'⟩ := z
  obtain rfl : r = Value.bool k := rv
  exact ⟨k, rfl, .bl (!k), H', I', rfl, q'⟩
/-- {o} in an f-string -/
def tFmtO (C : Addr) (sp : Sp) (E : XK) (te : TE) : TE := fun σ H Q => te σ H fun x H1 => ∃ a dx fs, x = .ref a ∧ H1 a = some (.ins C dx fs) ∧ sp [.ref a] H1 (fun v H' => (∃ z, v = .str z) ∧ Q v H') E
theorem pe_fmtO {e : Expr} {te : TE} {pos : Pos} (hm : Meth X.K C "__str__" f) (hfm : PySem.W.findIn X.K (.ref C) "__format__" = some (some (.builtin "object.__format__"))) (ho : PySem.W.mroIn X.K C (.type "object") = some true)
    (F : FnOk X.prog X.w X.K X.mg X.base CX k f fd ps sp) (hr : Room (k + 1) X.A) (hb : Binds X.K fd ps []) (hx : Passes CX X E) (he : PE X e te) : PE X (.FormattedValue e (-1) none pos) (tFmtO C sp E te) := by
  refine ⟨fun pins s σ H Q I h => ?_⟩
  refine wpAny_FormattedValue_plain (thn (he.run pins s σ H _ I h) fun v s1 ⟨x, H1, I1, r1, a, dx, fs, ex, ha, q⟩ => ?_)
  subst ex
  obtain rfl : v = Value.ref a := r1
  obtain ⟨mA, J, _⟩ := ins_get I1.hok ha
  obtain ⟨od, J, _⟩ := J.look
  have I2 := I1.tok (s1.toks + 1)
  refine PySem.W.kfo_fieldS hr.in1.units0 I1.kIn J hfm ho hm.at_ hm.fn ?_
  refine wpAny_mono (run_A F hr.in1 I2.env0.in1 hb (fun pins σ H s e s' I z => hx pins σ H s e s' I z) I2 (show Vals [V.ref a] [Value.ref a] from .cons rfl .nil) q) (fun r s' z => ?_) fun _ _ e => e
  obtain ⟨v, H', I', rv, ⟨z, rfl⟩, q'⟩ := z
  obtain ⟨t, rfl⟩ := rv
  exact ⟨.str z, H', I', ⟨t, rfl⟩, q'⟩
/-- c(..), c a local name that holds the class -/
def tMakeV (C : Addr) (sp : Sp) (E : XK) (tf : TE) (t : TA) : TE := fun σ H Q => tf σ H fun x H0 => x = .ref C ∧ tMake C sp [] E t σ H0 Q
theorem pe_makeV {x : Str} {p pos : Pos} {e : Expr} {es : List Expr} {tf : TE} {t : TA} (M : Mk X.K C f) (F : FnOk X.prog X.w X.K X.mg X.base CX k f fd ps sp) (hr : Room (k + 1) X.A) (hv : PE X (.Name x p) tf) (hb : Binds X.K fd ps []) (hx : Passes CX X E)
    (ha : PA X (e :: es) t) (he : starEach (e :: es) X.env = (false, eval e X.env) :: starEach es X.env := by rfl) (hpl : (backTo pos (starEach es X.env)).any (·.1) = false := by rfl) : PE X (.Call (.Name x p) (e :: es) [] pos) (tMakeV C sp E tf t) := by
  refine ⟨fun pins s σ H Q I h => ?_⟩
  refine wpAny_Call_Name_kw (thn (hv.run pins s σ H _ I h) fun f s0 ⟨v, H0, I0, r0, ev, q0⟩ => ?_)
  subst ev
  obtain rfl : f = Value.ref C := r0
  refine PySem.W.callWith_K (h₀ := X.base) I.ok.mod.kin M.kp (thn (ha.run pos pins s0 σ H0 _ I0 q0) fun us s1 ⟨vs, H1, I1, r, q⟩ => ⟨I1.kIn, ?_⟩) he hpl
  exact run_make M F hr hb .nil hx I1 r q
theorem FnOk.toR {P : Program} {w : World} {K : PySem.W.Frag} {mg : Str → Option Value} {base : Heap} (F : FnOk P w K mg base CX k f fd ps sp) (hB : Binds K fd ps []) : FnR P w K mg base CX k f sp := fun A outer s H us vs Q E hr e0 r hs => by
  have KX : K.In s.heap := e0.mod.kin.keeps fun b o e => (e0.bs b o e).1
  have hl : (us ++ []).length = ps.length := by rw [List.append_nil, ← r.length, F.len _ _ _ _ hs]
  have hb2 := hB s us KX hl
  rw [List.append_nil] at hb2
  exact F.run A outer s H ⟨us, []⟩ us vs Q E hr e0 hb2 r hs
end
end MH
/-! try .. except (A, B, C) as n: the clause's classes in a tuple. -/
namespace MH
open PySem PySem.Spec PyProof.Rows L2
end MH
/-! Caught exceptions as objects of the tracked heap; defs that are called within an except suite. -/
namespace MH
open PySem PySem.Spec PyProof.Rows L2
/-! ### a caught exception -/
/-! ### try: body, except (A, B, C) as n: suite -/
/-! ### promises of defs that are called within a suite (whatever is handled), while no repr is under way -/
def FnK (P : Program) (w : World) (K : PySem.W.Frag) (mg : Str → Option Value) (base : Heap) (k : Nat) (f : Addr) (sp : Sp) : Prop :=
  ∀ (A : Around) (fr : List Env) (st : Shared) (H : Hp) (us : List Value) (vs : List V) (Q : VK), A.guards = some [] → L2H.RoomH k A → Env0 P w K mg base A fr st H → Vals vs us →
    sp vs H Q E0 → codeAny (model P w) A (.call (.ref f) ⟨us, []⟩) (CR CX0 fr P w H st Q E0) st
section
variable {P : Program} {w : World} {K : PySem.W.Frag} {mg : Str → Option Value} {base : Heap} {k : Nat} {f : Addr} {sp : Sp}
theorem FnK.mono {j : Nat} (F : FnK P w K mg base j f sp) (h : j ≤ k) : FnK P w K mg base k f sp := fun A fr st H us vs Q hg hr => F A fr st H us vs Q hg (hr.mono h)
end
/-! ### isinstance and fields of a caught exception -/
end MH
/-! repr of values of many kinds; list.count of truths; the signs of what repr shows. -/
namespace MH
open PySem PySem.Spec PyProof.Rows L2
/-! ### signs -/
/-! ### what repr shows of a value -/
/-! ### list.count of truths -/
end MH
/-! Small rules: what a callee lets out, defs that make lambdas, upper and replace side by side, frames in which tables of code grow, the end of such a law. -/
namespace MH
open PySem PySem.Spec PyProof.Rows L2
theorem roomH_units {k : Nat} {A : Around} (r : L2H.RoomH k A) : A.units + 64 < cLine := by
  have := r.un
  omega
theorem _root_.L2H.RoomH.units {k : Nat} {A : Around} (r : L2H.RoomH k A) : A.units + 64 < cLine := roomH_units r
/-! ### a def whose code object is told -/
/-! ### [x.upper(), y.replace(".", ".."), ..] -/
/-! ### frames in which the tables of code may grow -/
/-! ### the end of a law whose defs make lambdas -/
end MH
/-! More small rules: t == (), star defs that raise, c.m() of a class, calls that may raise but do not, the end of a law with several tables of code. -/
namespace MH
open PySem PySem.Spec PyProof.Rows L2
/-! ### t == () -/
/-! ### calls that may raise and do not -/
/-! ### star defs that raise -/
/-! ### c.m(), m a classmethod -/
/-! ### the end of a law whose defs make lambdas: several tables -/
end MH
/-! own rules: zip of a list and a tuple -/
namespace MH
open PySem PySem.Spec PyProof.Rows L2
section
variable {prog : Program} {w : World} {A : Around} {E : Value → Shared → Prop} {s : Shared}
abbrev KeptBut (z TO i1 i2 : Addr) (h h' : Heap) : Prop := ∀ c o, c ≠ z → c ≠ TO → c ≠ i1 → c ≠ i2 → h.get? c = some o → h'.get? c = some o
end
end MH
/-! own rules: zip of a tuple and a text -/
namespace MH
open PySem PySem.Spec PyProof.Rows L2
section
variable {prog : Program} {w : World} {A : Around} {E : Value → Shared → Prop} {s : Shared}
theorem nextS_item {ty : String} {it : Addr} {x : Str} {t : Tok} {i c : Nat} {Q : Value → Shared → Prop} (hty : ty = "str_ascii_iterator" ∨ ty = "str_iterator") (hit : s.heap.IsStrIter it ty x t i) (hx : x.cps[i]? = some c)
    (hQ : ∀ h', h'.IsStrIter it ty x t (i + 1) → Heap.SameBut it s.heap h' → Q (.str ⟨#[c]⟩ s.toks) { s with heap := h', toks := s.toks + 1 }) : wpAny (model prog w) A (Builtin.SmallTypes.nextOf (.ref it)) Q E s := by
  rcases hty with rfl | rfl
  · exact wpAny_nextOf_ascii_item hit hx hQ
  · exact wpAny_nextOf_wide_item hit hx hQ
theorem nextS_end {ty : String} {it : Addr} {x : Str} {t : Tok} {i : Nat} {Q : Value → Shared → Prop} (hty : ty = "str_ascii_iterator" ∨ ty = "str_iterator") (hh : A.handled = none) (hit : s.heap.IsStrIter it ty x t i) (hx : x.cps[i]? = none)
    (hE : ∀ h' e, Heap.ExtBut it s.heap h' → (∃ o, h'.get? e = some o ∧ o.cls = .type "StopIteration") → E (.ref e) { s with heap := h' }) : wpAny (model prog w) A (Builtin.SmallTypes.nextOf (.ref it)) Q E s := by
  rcases hty with rfl | rfl
  · exact wpAny_nextOf_ascii_end hh hit hx hE
  · exact wpAny_nextOf_wide_end hh hit hx hE
/-- a zip at z that draws from a tuple at l1 (its place m) and a text x (its place n) -/
structure ZipTS (h : Heap) (z TI TO i1 i2 l1 : Addr) (ty : String) (x : Str) (t : Tok) (m n : Nat) (xs : Array Value) (a b : Value) : Prop where
  z : IsZip h z TI TO .none
  ti : IsPair h TI (.ref i1) (.ref i2)
  to : IsPair h TO a b
  i1 : h.IsTupleIter i1 l1 m
  i2 : h.IsStrIter i2 ty x t n
  l1 : h.IsTuple l1 xs
theorem zipTS_item {z TI TO i1 i2 l1 : Addr} {ty : String} {x : Str} {t : Tok} {m n c : Nat} {xs : Array Value} {y a b : Value} {Q : Value → Shared → Prop} (hty : ty = "str_ascii_iterator" ∨ ty = "str_iterator") (D : ZipApart z TI TO i1 i2 l1 l1) (Z : ZipTS s.heap z TI TO i1 i2 l1 ty x t m n xs a b) (hx : xs[m]? = some y) (hy : x.cps[n]? = some c)
    (hQ : ∀ h', IsZip h' z TI TO (rawInt s.heap.objs.size) → IsPair h' TO y (.str ⟨#[c]⟩ s.toks) → h'.IsTupleIter i1 l1 (m + 1) → h'.IsStrIter i2 ty x t (n + 1) → IsPair h' s.heap.objs.size y (.str ⟨#[c]⟩ s.toks) → h'.objs.size = s.heap.objs.size + 1 → KeptBut z TO i1 i2 s.heap h' → Q (.ref s.heap.objs.size) { s with heap := h', toks := s.toks + 1 }) :
    wpAny (model prog w) A (Builtin.«zip.__next__» ⟨[.ref z], []⟩) (fun fin s' => ∃ v, fin = .done (.ret v) ∧ Q v s') E s := by
  obtain ⟨zz, zi, zo, f1, f2, g1⟩ := Z
  (show wpAny _ _ (field (.ref z) 2 >>= _) _ _ _; refine wpAny_bind (wpAny_field zz rfl (x := .bool false) rfl ?_))
  (show wpAny _ _ (field (.ref z) 3 >>= _) _ _ _; refine wpAny_bind (wpAny_field zz rfl (x := .ref TI) rfl (wpAny_bind (wpAny_seqItems zi rfl ?_))))
  (show wpAny _ _ (Builtin.SmallTypes.ownedTupleIsFree (.ref z) >>= _) _ _ _; refine wpAny_bind ?_; unfold Builtin.SmallTypes.ownedTupleIsFree; refine wpAny_bind (wpAny_field zz rfl (x := .none) rfl (wpAny_pure ?_)); simp only [if_true])
  refine wpAny_bind (wpAny_rule (wpAny_bind (wpAny_field zz rfl (x := .ref TO) rfl (wpAny_bind (wpAny_setField_rec zz (by simp) fun u1 e1 t1 => ?_)))))
  replace e1 : IsZip u1 z TI TO .ellipsis := e1
  refine wpAny_bind ?_
  (simp only [List.zipIdx_cons, List.zipIdx_nil, List.forIn_cons, List.forIn_nil]; refine wpAny_bind (wpAny_bind (wpAny_onRaise ?_)))
  (show wpAny _ _ (Builtin.SmallTypes.nextOf (.ref i1) >>= _) _ _ _; refine wpAny_bind (RZ.nextOf_tuple_item (f1.extBut t1.extBut D.i1z) (g1.extBut t1.extBut D.l1z) hx fun u2 p2 t2 => wpAny_pure ?_))
  have o2 : IsPair u2 TO a b := t2.extBut _ _ D.TOi1 (t1.extBut _ _ D.TOz zo)
  refine wpAny_bind (wpAny_seqItems o2 rfl (wpAny_bind (wpAny_updateSeq_pair o2 fun u3 o3 t3 => ?_)))
  replace o3 : IsPair u3 TO y b := o3
  (refine wpAny_bind (wpAny_letGo (wpAny_pure ?_)); refine wpAny_bind (wpAny_bind (wpAny_onRaise ?_)))
  have q3 : u3.IsStrIter i2 ty x t n := ((f2.extBut t1.extBut D.i2z).extBut t2.extBut D.i12.symm).extBut t3.extBut D.TOi2.symm
  (show wpAny _ _ (Builtin.SmallTypes.nextOf (.ref i2) >>= _) _ _ _; refine wpAny_bind (nextS_item hty q3 hy fun u4 p4 t4 => wpAny_pure ?_))
  have o4 : IsPair u4 TO y b := t4.extBut _ _ D.TOi2 o3
  refine wpAny_bind (wpAny_seqItems o4 rfl (wpAny_bind (wpAny_updateSeq_pair o4 fun u5 o5 t5 => ?_)))
  replace o5 : IsPair u5 TO y (.str ⟨#[c]⟩ s.toks) := o5
  (refine wpAny_bind (wpAny_letGo (wpAny_pure (wpAny_pure ?_))); refine wpAny_bind (wpAny_seqItems o5 rfl (wpAny_bind (wpAny_newTuple ?_))))
  have sz : u5.objs.size = s.heap.objs.size := by rw [t5.1, t4.1, t3.1, t2.1, t1.1]
  have z5 : IsZip u5 z TI TO .ellipsis := t5.extBut _ _ D.TOz.symm (t4.extBut _ _ D.i2z.symm (t3.extBut _ _ D.TOz.symm (t2.extBut _ _ D.i1z.symm e1)))
  have k5 : KeptBut z TO i1 i2 s.heap u5 := fun c o c1 c2 c3 c4 e => t5.extBut _ _ c2 (t4.extBut _ _ c4 (t3.extBut _ _ c2 (t2.extBut _ _ c3 (t1.extBut _ _ c1 e))))
  have p5 : u5.IsTupleIter i1 l1 (m + 1) := ((p2.extBut t3.extBut D.TOi1.symm).extBut t4.extBut D.i12).extBut t5.extBut D.TOi1.symm
  have r5 : u5.IsStrIter i2 ty x t (n + 1) := p4.extBut t5.extBut D.TOi2.symm
  have zlt : z < u5.objs.size := Heap.lt_size z5
  (show wpAny _ _ (Builtin.SmallTypes.ownedTupleHandOut (.ref z) (.ref u5.objs.size) >>= _) _ _ _; refine wpAny_bind ?_; unfold Builtin.SmallTypes.ownedTupleHandOut)
  have z6 : IsZip (u5.push { cls := .type "tuple", data := .seq #[y, .str ⟨#[c]⟩ s.toks] }) z TI TO .ellipsis := Heap.get?_push_of_some _ z5
  refine wpAny_bind (wpAny_setField_rec z6 (by simp) fun u7 z7 t7 => ?_)
  replace z7 : IsZip u7 z TI TO (rawInt u5.objs.size) := z7
  refine wpAny_setField_rec z7 (by simp) fun u8 z8 t8 => ?_
  replace z8 : IsZip u8 z TI TO (rawInt u5.objs.size) := z8
  have up : ∀ c o, c ≠ z → u5.get? c = some o → u8.get? c = some o := fun c o c1 e => t8.extBut _ _ c1 (t7.extBut _ _ c1 (Heap.get?_push_of_some _ e))
  have T8 : IsPair u8 u5.objs.size y (.str ⟨#[c]⟩ s.toks) := t8.extBut _ _ (Nat.ne_of_gt zlt) (t7.extBut _ _ (Nat.ne_of_gt zlt) (Heap.get?_push_size _ rfl))
  have s8 : u8.objs.size = u5.objs.size + 1 := by rw [t8.1, t7.1, Heap.size_push]
  have at2 : u8.IsStrIter i2 ty x t (n + 1) := let ⟨o, e, r⟩ := r5; ⟨o, up _ o D.i2z e, r⟩
  rw [sz] at z8 T8 s8
  refine wpAny_pure ⟨_, rfl, ?_⟩
  (show Q (.ref u5.objs.size) _; rw [sz])
  exact hQ u8 z8 (up _ _ D.TOz o5) (p5.at fun o e => up _ o D.i1z e) at2 T8 s8 fun c o c1 c2 c3 c4 e => up c o c1 (k5 c o c1 c2 c3 c4 e)
theorem zipTS_end {z TI TO i1 i2 l1 : Addr} {ty : String} {x : Str} {t : Tok} {m n : Nat} {xs : Array Value} {a b : Value} {Q : Fin → Shared → Prop} (hty : ty = "str_ascii_iterator" ∨ ty = "str_iterator") (hh : A.handled = none) (D : ZipApart z TI TO i1 i2 l1 l1) (Z : ZipTS s.heap z TI TO i1 i2 l1 ty x t m n xs a b) (hend : xs[m]? = none ∨ x.cps[n]? = none)
    (hE : ∀ h' e, KeptBut z TO i1 i2 s.heap h' → (∃ o, h'.get? e = some o ∧ o.cls = .type "StopIteration") → E (.ref e) { s with heap := h' }) :
    wpAny (model prog w) A (Builtin.«zip.__next__» ⟨[.ref z], []⟩) Q E s := by
  obtain ⟨zz, zi, zo, f1, f2, g1⟩ := Z
  (show wpAny _ _ (field (.ref z) 2 >>= _) _ _ _; refine wpAny_bind (wpAny_field zz rfl (x := .bool false) rfl ?_))
  (show wpAny _ _ (field (.ref z) 3 >>= _) _ _ _; refine wpAny_bind (wpAny_field zz rfl (x := .ref TI) rfl (wpAny_bind (wpAny_seqItems zi rfl ?_))))
  (show wpAny _ _ (Builtin.SmallTypes.ownedTupleIsFree (.ref z) >>= _) _ _ _; refine wpAny_bind ?_; unfold Builtin.SmallTypes.ownedTupleIsFree; refine wpAny_bind (wpAny_field zz rfl (x := .none) rfl (wpAny_pure ?_)); simp only [if_true])
  refine wpAny_bind (wpAny_rule (wpAny_bind (wpAny_field zz rfl (x := .ref TO) rfl (wpAny_bind (wpAny_setField_rec zz (by simp) fun u1 e1 t1 => ?_)))))
  replace e1 : IsZip u1 z TI TO .ellipsis := e1
  refine wpAny_bind ?_
  (simp only [List.zipIdx_cons, List.zipIdx_nil, List.forIn_cons, List.forIn_nil]; refine wpAny_bind (wpAny_bind (wpAny_onRaise ?_)))
  (show wpAny _ _ (Builtin.SmallTypes.nextOf (.ref i1) >>= _) _ _ _; rcases hx : xs[m]? with _ | y)
  · refine wpAny_bind (RZ.nextOf_tuple_end hh (f1.extBut t1.extBut D.i1z) (g1.extBut t1.extBut D.l1z) hx fun u2 e t2 ⟨oe, hoe, hce⟩ => ?_)
    have z2 : IsZip u2 z TI TO .ellipsis := t2 _ _ D.i1z.symm e1
    have ne : e ≠ z := fun q => by
      rw [q, z2] at hoe
      cases hoe
      simp at hce
    exact wpAny_setField_rec z2 (by simp) fun u3 _ t3 => hE u3 e (fun c o c1 _ c3 _ q => t3.extBut _ _ c1 (t2 _ _ c3 (t1.extBut _ _ c1 q))) ⟨oe, t3.extBut _ _ ne hoe, hce⟩
  · have hy : x.cps[n]? = none := hend.resolve_left (by rw [hx]; simp)
    refine wpAny_bind (RZ.nextOf_tuple_item (f1.extBut t1.extBut D.i1z) (g1.extBut t1.extBut D.l1z) hx fun u2 p2 t2 => wpAny_pure ?_)
    have o2 : IsPair u2 TO a b := t2.extBut _ _ D.TOi1 (t1.extBut _ _ D.TOz zo)
    refine wpAny_bind (wpAny_seqItems o2 rfl (wpAny_bind (wpAny_updateSeq_pair o2 fun u3 o3 t3 => ?_)))
    (refine wpAny_bind (wpAny_letGo (wpAny_pure ?_)); refine wpAny_bind (wpAny_bind (wpAny_onRaise ?_)))
    have q3 : u3.IsStrIter i2 ty x t n := ((f2.extBut t1.extBut D.i2z).extBut t2.extBut D.i12.symm).extBut t3.extBut D.TOi2.symm
    (show wpAny _ _ (Builtin.SmallTypes.nextOf (.ref i2) >>= _) _ _ _; refine wpAny_bind (nextS_end hty hh q3 hy fun u4 e t4 ⟨oe, hoe, hce⟩ => ?_))
    have z4 : IsZip u4 z TI TO .ellipsis := t4 _ _ D.i2z.symm (t3.extBut _ _ D.TOz.symm (t2.extBut _ _ D.i1z.symm e1))
    have ne : e ≠ z := fun q => by
      rw [q, z4] at hoe
      cases hoe
      simp at hce
    exact wpAny_setField_rec z4 (by simp) fun u5 _ t5 => hE u5 e (fun c o c1 c2 c3 c4 q => t5.extBut _ _ c1 (t4 _ _ c4 (t3.extBut _ _ c2 (t2.extBut _ _ c3 (t1.extBut _ _ c1 q))))) ⟨oe, t5.extBut _ _ ne hoe, hce⟩
theorem pyNext_zipTS_item {z TI TO i1 i2 l1 : Addr} {ty : String} {x : Str} {t : Tok} {m n c : Nat} {xs : Array Value} {y a b : Value} {Q : Option Value → Shared → Prop} (hty : ty = "str_ascii_iterator" ∨ ty = "str_iterator") (D : ZipApart z TI TO i1 i2 l1 l1) (Z : ZipTS s.heap z TI TO i1 i2 l1 ty x t m n xs a b) (hx : xs[m]? = some y) (hy : x.cps[n]? = some c)
    (hQ : ∀ h', IsZip h' z TI TO (rawInt s.heap.objs.size) → IsPair h' TO y (.str ⟨#[c]⟩ s.toks) → h'.IsTupleIter i1 l1 (m + 1) → h'.IsStrIter i2 ty x t (n + 1) → IsPair h' s.heap.objs.size y (.str ⟨#[c]⟩ s.toks) → h'.objs.size = s.heap.objs.size + 1 → KeptBut z TO i1 i2 s.heap h' → Q (some (.ref s.heap.objs.size)) { s with heap := h', toks := s.toks + 1 }) :
    wpAny (model prog w) A (pyNext (.ref z)) Q E s := by
  unfold pyNext
  have tz : s.TypeIs (.ref z) "zip" := ⟨_, Z.z, rfl⟩
  exact wpAny_bind (wpAny_attempt (wpAny_callSpecial?_slot (name := Str.ofString "__next__") tz F.slot_zip_next (wpAny_call_entry F.slot_zip_next tz F.entry_zip_next (zipTS_item hty D Z hx hy fun h' b1 b2 b3 b4 b5 b6 b7 => wpAny_pure (hQ h' b1 b2 b3 b4 b5 b6 b7)) (F.args_zip_next_1 _))))
theorem pyNext_zipTS_end {z TI TO i1 i2 l1 : Addr} {ty : String} {x : Str} {t : Tok} {m n : Nat} {xs : Array Value} {a b : Value} {Q : Option Value → Shared → Prop} (hty : ty = "str_ascii_iterator" ∨ ty = "str_iterator") (hh : A.handled = none) (D : ZipApart z TI TO i1 i2 l1 l1) (Z : ZipTS s.heap z TI TO i1 i2 l1 ty x t m n xs a b) (hend : xs[m]? = none ∨ x.cps[n]? = none)
    (hQ : ∀ h', KeptBut z TO i1 i2 s.heap h' → Q none { s with heap := h' }) : wpAny (model prog w) A (pyNext (.ref z)) Q E s := by
  unfold pyNext
  have tz : s.TypeIs (.ref z) "zip" := ⟨_, Z.z, rfl⟩
  refine wpAny_bind (wpAny_attempt (wpAny_callSpecial?_slot (name := Str.ofString "__next__") tz F.slot_zip_next (wpAny_call_entry F.slot_zip_next tz F.entry_zip_next (zipTS_end hty hh D Z hend fun h' e hk ⟨o, ho, hc⟩ => ?_) (F.args_zip_next_1 _))))
  exact wpAny_bind (wpAny_isInstance (T := "StopIteration") (b := true) ⟨o, ho, hc⟩ isSubtype_stop (wpAny_pure (hQ _ hk)))
end
/-- the heap behind zip(tuple, text): two iterators, the two pairs, the zip -/
abbrev zts1 (h : Heap) (l1 : Addr) : Heap := h.push { cls := .type "tuple_iterator", data := .fields #[.ref l1, .int 0 0] }
abbrev zts2 (h : Heap) (l1 : Addr) (x : Str) (t : Tok) : Heap := (zts1 h l1).push { cls := .type (strIterType x), data := .fields #[.str x t, .int 0 0] }
abbrev zts3 (h : Heap) (l1 : Addr) (x : Str) (t : Tok) : Heap := (zts2 h l1 x t).push { cls := .type "tuple", data := .seq #[.ref h.objs.size, .ref (zts1 h l1).objs.size] }
abbrev zts4 (h : Heap) (l1 : Addr) (x : Str) (t : Tok) : Heap := (zts3 h l1 x t).push { cls := .type "tuple", data := .seq #[.none, .none] }
abbrev zts5 (h : Heap) (l1 : Addr) (x : Str) (t : Tok) : Heap := (zts4 h l1 x t).push { cls := .type "zip", data := .fields #[.none, .bool false, .bool false, .ref (zts2 h l1 x t).objs.size, .ref (zts3 h l1 x t).objs.size] }
theorem meets_zipTS (l1 : Addr) (xs : Array Value) (x : Str) (t : Tok) : Meets (Builtin.«zip.__new__» ⟨[.type "zip", .ref l1, .str x t], []⟩) (fun _ R s => s.heap.IsTuple l1 xs ∧ R (.ok (.ret (.ref (zts4 s.heap l1 x t).objs.size))) { s with heap := zts5 s.heap l1 x t }) :=
  .of_wp fun prog w A R s h => by
    obtain ⟨hp, g, d, tk, os⟩ := s
    obtain ⟨y1, h⟩ := h
    have hsub := sub_zip
    have L1 : Heap.IsTuple (Shared.heap ⟨hp, g, d, tk, os⟩) l1 xs := y1
    wp_walk using wpAny_pyIter_tuple L1, wpAny_pyIter_strU
    exact ⟨_, rfl, h⟩
section
variable {prog : Program} {w : World} {A : Around} {E : Value → Shared → Prop} {s : Shared}
theorem call_zipTS {l1 : Addr} {xs : Array Value} {x : Str} {t : Tok} {Q : Value → Shared → Prop} (y1 : s.heap.IsTuple l1 xs)
    (h : ∀ h', IsZip h' (s.heap.objs.size + 4) (s.heap.objs.size + 2) (s.heap.objs.size + 3) .none → IsPair h' (s.heap.objs.size + 2) (.ref s.heap.objs.size) (.ref (s.heap.objs.size + 1)) → IsPair h' (s.heap.objs.size + 3) .none .none →
      h'.IsTupleIter s.heap.objs.size l1 0 → h'.IsStrIter (s.heap.objs.size + 1) (strIterType x) x t 0 → (∀ c o, s.heap.get? c = some o → h'.get? c = some o) → Q (.ref (s.heap.objs.size + 4)) { s with heap := h' }) :
    wpAny (model prog w) A (call (.type "zip") [.ref l1, .str x t]) Q E s := by
  refine callType_new F.called_zip (by decide) (F.typeCall_zip_2 _ _) (F.newCall_zip_2 _ _) (fun obj => F.args_object_init_3 obj _ _) F.entry_zip_new (meets_zipTS l1 xs x t) ⟨y1, ?_⟩
  have z1 : (zts1 s.heap l1).objs.size = s.heap.objs.size + 1 := by rw [Heap.size_push]
  have z2 : (zts2 s.heap l1 x t).objs.size = s.heap.objs.size + 2 := by rw [Heap.size_push, z1]
  have z3 : (zts3 s.heap l1 x t).objs.size = s.heap.objs.size + 3 := by rw [Heap.size_push, z2]
  have z4 : (zts4 s.heap l1 x t).objs.size = s.heap.objs.size + 4 := by rw [Heap.size_push, z3]
  have up : ∀ {h : Heap} {o u : Obj} {a : Addr}, h.get? a = some u → (h.push o).get? a = some u := fun e => Heap.get?_push_of_some _ e
  have e5 : (zts5 s.heap l1 x t).get? (zts4 s.heap l1 x t).objs.size = some _ := Heap.get?_push_size _ rfl
  have e4 : (zts5 s.heap l1 x t).get? (zts3 s.heap l1 x t).objs.size = some _ := up (Heap.get?_push_size _ rfl)
  have e3 : (zts5 s.heap l1 x t).get? (zts2 s.heap l1 x t).objs.size = some _ := up (up (Heap.get?_push_size _ rfl))
  have e2 : (zts5 s.heap l1 x t).get? (zts1 s.heap l1).objs.size = some _ := up (up (up (Heap.get?_push_size _ rfl)))
  have e1 : (zts5 s.heap l1 x t).get? s.heap.objs.size = some _ := up (up (up (up (Heap.get?_push_size _ rfl))))
  show _ ∧ _
  rw [z4, z3, z2] at e5
  rw [z3] at e4
  rw [z2, z1] at e3
  rw [z1] at e2
  rw [z4]
  exact ⟨⟨_, e5, rfl⟩, h _ e5 e3 e4 ⟨_, e1, rfl, rfl⟩ ⟨_, e2, rfl, rfl⟩ fun c o q => up (up (up (up (up q))))⟩
end
/-- the tuple at a and the text x, the items in new pairs -/
def ItzTS (K : PySem.W.Frag) (a : Addr) (x : Str) : It :=
  ⟨fun i H => ∃ (xs : List V) (y : V) (c : Nat), SqT K H a xs ∧ xs[i]? = some y ∧ x.cps[i]? = some c,
    fun i H v H' => ∃ T y c, v = .ref T ∧ H T = none ∧ H' = upd H T (.tup [y, .str ⟨#[c]⟩]) ∧ (∀ xs, SqT K H a xs → xs[i]? = some y) ∧ x.cps[i]? = some c,
    fun i H => ∃ xs : List V, SqT K H a xs ∧ (xs.length ≤ i ∨ x.cps.size ≤ i)⟩
/-- how the five objects stand ahead of turn i -/
def ZTAt (z TI TO i1 i2 a : Addr) (ty : String) (x : Str) (t : Tok) (i : Nat) (h : Heap) : Prop := IsZip h z TI TO .none ∧ IsPair h TI (.ref i1) (.ref i2) ∧ (∃ x y, IsPair h TO x y) ∧ h.IsTupleIter i1 a i ∧ h.IsStrIter i2 ty x t i
theorem ztat_obj {z TI TO i1 i2 a : Addr} {ty : String} {x : Str} {t : Tok} {i : Nat} {h : Heap} (st : ZTAt z TI TO i1 i2 a ty x t i h) : ∀ c ∈ [z, TI, TO, i1, i2], ∃ o, h.get? c = some o ∧ ∀ v, o.data ≠ .cell v := by
  obtain ⟨e1, e2, ⟨x, y, e3⟩, ⟨o1, e4, _, d1⟩, ⟨o2, e5, _, d2⟩⟩ := st
  intro c hc
  simp only [List.mem_cons, List.not_mem_nil, or_false] at hc
  rcases hc with rfl | rfl | rfl | rfl | rfl
  · exact ⟨_, e1, fun v q => nomatch q⟩
  · exact ⟨_, e2, fun v q => nomatch q⟩
  · exact ⟨_, e3, fun v q => nomatch q⟩
  · exact ⟨o1, e4, fun v q => nomatch (d1.symm.trans q)⟩
  · exact ⟨o2, e5, fun v q => nomatch (d2.symm.trans q)⟩
theorem turn_zipTS {P : Program} {w : World} {K : PySem.W.Frag} {elts : List Expr} {kk : Nat} {tpos : Pos} {a z TI TO i1 i2 : Addr} {ty : String} {x : Str} {t : Tok} (hty : ty = "str_ascii_iterator" ∨ ty = "str_iterator") (D : ZipApart z TI TO i1 i2 a a) : Turn P w K (.Tuple elts kk tpos) (ItzTS K a x) [z, TI, TO, i1, i2] z (ZTAt z TI TO i1 i2 a ty x t) where
  mem := List.mem_cons_self
  obj := fun i h st => ztat_obj st
  keep := fun i h h' ⟨e1, e2, ⟨x, y, e3⟩, e4, ⟨o5, e5, r5⟩⟩ k => ⟨k z (by simp) _ e1, k TI (by simp) _ e2, ⟨x, y, k TO (by simp) _ e3⟩, e4.at fun o q => k i1 (by simp) o q, ⟨o5, k i2 (by simp) _ e5, r5⟩⟩
  item := by
    rintro X rfl rfl rfl hc i pins s σ H E I hf st ⟨xs, y, c, qx, hx, hy⟩
    have lo := ztat_obj st
    obtain ⟨e1, e2, ⟨x0, y0, e3⟩, e4, e5⟩ := st
    obtain ⟨us, rv, p, _⟩ := I.tuple qx
    obtain ⟨u, hu, ru⟩ := rv.get hx
    have zl : z < s.heap.objs.size := Heap.lt_size e1
    refine pyNext_zipTS_item hty D ⟨e1, e2, e3, e4, e5, p⟩ (y := u) (by simpa using hu) hy fun h' z' o' j1 j2 pT szT kT => ⟨_, rfl, ?_⟩
    refine wpAny_letOwnedTupleGo_zip (s := { s with heap := h', toks := s.toks + 1 }) z' fun h2 z2 sb => ?_
    have T2 : h2.get? s.heap.objs.size = some { cls := .type "tuple", data := .seq #[u, .str ⟨#[c]⟩ s.toks] } := (sb.2 _ (Nat.ne_of_gt zl)).trans pT
    have off : ∀ {c : Addr}, c ∉ [z, TI, TO, i1, i2] → c ≠ z ∧ c ≠ TO ∧ c ≠ i1 ∧ c ≠ i2 := fun {c} hb => by
      simp only [List.mem_cons, List.not_mem_nil, or_false, not_or] at hb
      exact ⟨hb.1, hb.2.2.1, hb.2.2.2.1, hb.2.2.2.2⟩
    have I1 : Inv X pins σ (upd H s.heap.objs.size (.tup [y, .str ⟨#[c]⟩])) { s with heap := h2, toks := s.toks + 1 } := I.turnedNew (t' := s.toks + 1) (ch := [z, TI, TO, i1, i2]) (fun c o hb q => (sb.2 c (off hb).1).trans (kT c o (off hb).1 (off hb).2.1 (off hb).2.2.1 (off hb).2.2.2 q)) hf (Nat.le_refl _)
      ⟨(by show 2 ≤ sizeLine; decide), [u, .str ⟨#[c]⟩ s.toks], .cons ru (.cons ⟨_, rfl⟩ .nil), ⟨_, T2, rfl, _, rfl⟩⟩
    refine ⟨.ref s.heap.objs.size, _, I1, rfl, ⟨_, y, c, rfl, I.hok.fresh (Nat.le_refl _), rfl, fun l hl => by rw [I.tuple_inj hl qx]; exact hx, hy⟩, ⟨z2, (sb.2 _ D.TIz).trans (kT _ _ D.TIz D.TITO D.TIi1 D.TIi2 e2), ⟨u, _, (sb.2 _ D.TOz).trans o'⟩, j1.at fun o q => (sb.2 _ D.i1z).trans q, let ⟨o, e, r⟩ := j2; ⟨o, (sb.2 _ D.i2z).trans e, r⟩⟩, fun c hcm => ?_⟩
    obtain ⟨o, eo, _⟩ := lo c hcm
    rw [upd_ne (Nat.ne_of_lt (Heap.lt_size eo))]
    exact (hf c hcm).1
  done := by
    rintro X rfl rfl rfl hc i pins s σ H E I hf ⟨e1, e2, ⟨x0, y0, e3⟩, e4, e5⟩ ⟨xs, qx, hend⟩
    obtain ⟨us, rv, p, _⟩ := I.tuple qx
    have n1 := rv.length
    refine pyNext_zipTS_end hty (I.ok.hd hc) D ⟨e1, e2, e3, e4, e5, p⟩ (hend.imp (fun q => by simp; omega) fun q => Array.getElem?_eq_none q) fun h' hk => ⟨rfl, I.turnedL (t' := s.toks) (ch := [z, TI, TO, i1, i2]) (fun c o hb q => ?_) hf⟩
    simp only [List.mem_cons, List.not_mem_nil, or_false, not_or] at hb
    exact hk c o hb.1 hb.2.2.1 hb.2.2.2.1 hb.2.2.2.2 q
  self := fun A i s Q E st h => wpAny_pyIter_zip st.1 h
def iZipTS (K : PySem.W.Frag) (ta : TA) : TI := fun σ H R => ta σ H fun vs H1 => ∃ a x xs, vs = [.ref a, .str x] ∧ SqT K H1 a xs ∧ R (ItzTS K a x) H1
theorem pi_zipTS {X : Cx} {e e2 : Expr} {ta : TA} {p pos tpos : Pos} {elts : List Expr} {kk : Nat} (hg : Gl X "zip") (hm : X.mg "zip" = none) (ha : PA X [e, e2] ta)
    (hs : starEach [e, e2] X.env = (false, eval e X.env) :: starEach [e2] X.env := by rfl) (hpl : (backTo pos (starEach [e2] X.env)).any (·.1) = false := by rfl) :
    PI X (.Tuple elts kk tpos) (.Call (.Name "zip" p) [e, e2] [] pos) (iZipTS X.K ta) := by
  refine ⟨fun pins s σ H R I h => ?_⟩
  refine Call_ (ld_blt I hg hm PyProof.Rows.boot_zip (PyProof.Rows.callWith_type1 (thn (ha.run pos pins s σ H _ I h) fun us s1 ⟨vs, H1, I1, r1, a, x, xs, ev, qx, q⟩ => ?_) hs hpl))
  subst ev
  obtain ⟨u, us', rfl, ru, r2⟩ : ∃ u us', us = u :: us' ∧ RelV (.ref a) u ∧ Vals [.str x] us' := by
    cases r1 with
    | cons r rr => exact ⟨_, _, rfl, r, rr⟩
  obtain ⟨u2, rfl, ru2⟩ := vals1 r2
  obtain rfl : u = Value.ref a := ru
  obtain ⟨t, rfl⟩ := ru2
  obtain ⟨us, rv, p1, _⟩ := I1.tuple qx
  obtain ⟨o1, ho1, _⟩ := id p1
  have hty : strIterType x = "str_ascii_iterator" ∨ strIterType x = "str_iterator" := by
    unfold strIterType
    split
    · exact .inl rfl
    · exact .inr rfl
  refine call_zipTS p1 fun h' hz hTI hTO h1 h2 hk => wpAny_pyIter_zip hz ?_
  have I2 : Inv X pins σ H1 { s1 with heap := h' } := I1.kept (t' := s1.toks) hk
  refine ⟨s1.heap.objs.size + 4, [s1.heap.objs.size + 4, s1.heap.objs.size + 2, s1.heap.objs.size + 3, s1.heap.objs.size, s1.heap.objs.size + 1], _, _, H1, rfl, I2, turn_zipTS hty (PySem.W.ktu_apart s1.heap.objs.size a a (Heap.lt_size ho1) (Heap.lt_size ho1)), ⟨hz, hTI, ⟨_, _, hTO⟩, h1, h2⟩, fun c hcm => ?_, q⟩
  have le : s1.heap.objs.size ≤ c := by
    simp only [List.mem_cons, List.not_mem_nil, or_false] at hcm
    rcases hcm with e | e | e | e | e <;> rw [e] <;> first | exact Nat.le_refl _ | exact Nat.le_add_right _ _
  exact I1.fpOk le (I1.hok.fresh le)
theorem walk_zipTS {K : PySem.W.Frag} {a : Addr} {x : Str} {xs : List V} {n : Nat} (hn : n = min xs.length x.cps.size) : Walk (ItzTS K a x) n (fun H => SqT K H a xs) (YPair (fun i => xs[i]?) (fun i => (x.cps[i]?).map fun c => V.str ⟨#[c]⟩)) where
  goes := fun i H hi qx => ⟨xs, xs[i]'(by omega), x.cps[i]'(by omega), qx, List.getElem?_eq_getElem _, Array.getElem?_eq_getElem _⟩
  stops := fun H qx => ⟨xs, qx, by omega⟩
  yields := fun i H v H' hi qx ⟨T, y, c, e1, e2, e3, f1, f2⟩ => ⟨T, y, _, e1, e2, e3, f1 xs qx, by show Option.map _ _ = _; rw [f2]; rfl⟩
end MH
/-! f(k = v, ..) without positional values; == of two tuples of the same objects. -/
namespace MH
open PySem PySem.Spec PyProof.Rows L2
/-! ### C.m(e, ..), m a staticmethod -/
structure SMet (K : PySem.W.Frag) (C : Addr) (mc : Value) (m : Str) (p g : Addr) : Prop where
  at_ : PySem.W.findCls K (.ref C) mc m = some (.get (.builtin "staticmethod.__get__") (.ref p) .none (.ref C))
  rc : ∃ rest, PySem.W.recIn K p "staticmethod" = some (.ref g :: rest)
  kp : PySem.W.keepIn K (.ref g) = true
def tSMeth (C : Addr) (sp : Sp) (E : XK) (ta : TE) (t : TA) : TE := fun σ H Q => ta σ H fun x H1 => x = .ref C ∧ t σ H1 fun vs H2 => sp (vs ++ []) H2 Q E
section
variable {X : Cx} {CX : CXT} {k : Nat} {C p g : Addr} {mc : Value} {fd : FuncData} {ps : List Str} {sp : Sp} {E : XK} {o e : Expr} {es : List Expr} {m : Str} {pos apos : Pos} {ta : TE} {t : TA} {pl : Sem Bool}
theorem pe_smeth (he : PE X o ta) (r : ClX.CRead X.K C mc) (c : SMet X.K C mc m p g) (F : FnOk X.prog X.w X.K X.mg X.base CX k g fd ps sp) (hr : Room k X.A) (hb : Binds X.K fd ps []) (hx : Passes CX X E) (ha : PA X (e :: es) t)
    (hst : starEach (e :: es) X.env = (false, eval e X.env) :: starEach es X.env := by rfl) (hpl : (backTo pos (starEach es X.env)).any (·.1) = false := by rfl)
    (ht : eval (.Call (.Attribute o m apos) (e :: es) [] pos) X.env = (do
      let ov ← eval o X.env
      standAt apos.atName
      let (f, first) ← holding [ov] (getMethod ov m pl)
      callWith pos f first (backTo pos (starEach (e :: es) X.env)) (backToKw pos (keywordEach [] X.env))) := by rfl) :
    PE X (.Call (.Attribute o m apos) (e :: es) [] pos) (tSMeth C sp E ta t) := by
  refine ⟨fun pins s σ H Q I h => ?_⟩
  refine PySem.W.methodCall_KW (pl := pl) (thn (he.run pins s σ H _ I h) fun u s1 ⟨x, H1, I1, rx, ex, q⟩ => ?_) ht
  subst ex
  obtain rfl : u = Value.ref C := rx
  obtain ⟨rest, hp⟩ := c.rc
  refine PySem.W.method_cls I1.kIn r.ga ?_
  refine PySem.W.cls_bind I1.kIn r.rd c.at_ ?_
  refine wpAny_call (PySem.W.sm_get (s := { s1 with toks := s1.toks + 1 }) I1.kIn hp (PySem.W.handed_on rfl ?_))
  have I2 := I1.tok (s1.toks + 1)
  refine PySem.W.callWith_K (h₀ := X.base) I2.ok.mod.kin c.kp (thn (ha.run pos pins _ σ H1 _ I2 q) fun us s3 ⟨vs, H2, I3, rv, q2⟩ => ⟨I3.kIn, ?_⟩) hst hpl
  exact run_fn F hr hb .nil hx I3 rv q2
end
/-! ### defs with defaults -/
structure FunV (K : PySem.W.Frag) (x qual : Str) (st : Stmt) (dvs : List V) (f : Addr) (fd : FuncData) : Prop where
  ex : ∃ (oc : Value) (od : Option Addr) (T : Addr) (kV doc pm : Value) (an : Option Addr) (cdv ct : Value) (osl : Array (Option Value)) (o : Obj) (its : List Value) (n : Nat),
    fd = PySem.W.fnOf x qual (defArgs st) (defBody st) (defScope st) (.ref T) kV doc pm an cdv ct ∧ K.lookup f = some ⟨oc, od, .func fd, osl⟩ ∧ PySem.W.codeIn K cdv qual = true ∧ K.lookup T = some o ∧ o.data = .seq its.toArray n ∧ Vals dvs its
  kp : PySem.W.keepIn K (.ref f) = true
section
variable {P : Program} {w : World} {K : PySem.W.Frag} {mg : Str → Option Value} {base : Heap} {x qual : Str} {st : Stmt} {dvs : List V} {f : Addr} {fd : FuncData}
theorem FunV.ok {N ps : List Str} {k : Nat} {sp : Sp} (F : FunV K x qual st dvs f fd) (S : FnScope N ps (defScope st)) (len : ∀ vs H Q E, sp vs H Q E → vs.length = ps.length)
    (hbody : ∀ (cdv : Value) (A : Around) (outer : List Env) (s : Shared) (H : Hp) (vs : List V) (Q : VK) (E : XK), Room k (A.deeper (envOfC qual (defScope st) s.heap.objs.size f cdv)) → sp vs H Q E →
      ∃ t, PSs (cxOf CX0 P w K mg base N qual (defScope st) f cdv A outer s H E).nox (defBody st) t ∧ t { nx := fun _ H' => Q .non H', rt := Q } (start N vs) H) : FnOk P w K mg base CX0 (k + 1) f fd ps sp := by
  obtain ⟨oc, od, T, kV, doc, pm, an, cdv, ct, osl, o, its, n, rfl, lk, hcd, _⟩ := F.ex
  refine fn_of lk hcd S len fun A outer s H vs Q E hr hsp => ?_
  obtain ⟨t, h, q⟩ := hbody cdv A outer s H vs Q E hr hsp
  exact ⟨t, h.nox, q⟩
/-- n values are written; the defaults behind the first j fill up -/
theorem FunV.bindD {ps : List Str} (F : FunV K x qual st dvs f fd) (n j : Nat) (hn : n + (dvs.length - j) = ps.length)
    (h : ∀ (T : Addr) (kV doc pm : Value) (an : Option Addr) (cdv ct : Value) (us its : List Value), us.length = n → its.length = dvs.length →
      ∃ k, bindArgs (PySem.W.fnOf x qual (defArgs st) (defBody st) (defScope st) (.ref T) kV doc pm an cdv ct) ⟨us, []⟩ = seqItems? (.ref T) >>= k ∧ k (some its.toArray) = pure (ps.zip (us ++ its.drop j))) : ∃ ds, Vals (dvs.drop j) ds ∧ Binds K fd ps ds := by
  obtain ⟨oc, od, T, kV, doc, pm, an, cdv, ct, osl, o, its, m, rfl, lk, hcd, lT, oT, rT⟩ := F.ex
  refine ⟨its.drop j, rT.drop j, fun s us X hlen => ?_⟩
  have l1 : its.length = dvs.length := rT.length.symm
  have l2 : us.length = n := by
    rw [List.length_append, List.length_drop, l1] at hlen
    omega
  obtain ⟨k, e1, e2⟩ := h T kV doc pm an cdv ct us its l2 l1
  refine BindsTo.of_looks fun M => ?_
  rw [e1]
  exact looks_items X lT oT (.of_pure e2)
/-- all values are written -/
theorem FunV.bindA {ps : List Str} (F : FunV K x qual st dvs f fd)
    (h : ∀ (T : Addr) (kV doc pm : Value) (an : Option Addr) (cdv ct : Value) (us its : List Value), us.length = ps.length → its.length = dvs.length →
      ∃ k, bindArgs (PySem.W.fnOf x qual (defArgs st) (defBody st) (defScope st) (.ref T) kV doc pm an cdv ct) ⟨us, []⟩ = seqItems? (.ref T) >>= k ∧ k (some its.toArray) = pure (ps.zip us)) : Binds K fd ps [] := by
  obtain ⟨ds, rv, b⟩ := F.bindD (ps := ps) ps.length dvs.length (by omega) (fun T kV doc pm an cdv ct us its h1 h2 => by
    obtain ⟨k, e1, e2⟩ := h T kV doc pm an cdv ct us its h1 h2
    refine ⟨k, e1, ?_⟩
    rw [e2, List.drop_of_length_le (Nat.le_of_eq h2), List.append_nil])
  rw [List.drop_length] at rv
  cases rv
  exact b
end
theorem fun_mkV {K : PySem.W.Frag} {x qual : Str} {st : Stmt} {dvs : List V} {f T : Addr} {oc tc : Value} {od an td : Option Addr} {osl ts : Array (Option Value)} {kV doc pm cdv ct : Value} {its : List Value} {n : Nat}
    (l : K.lookup f = some ⟨oc, od, .func (PySem.W.fnOf x qual (defArgs st) (defBody st) (defScope st) (.ref T) kV doc pm an cdv ct), osl⟩)
    (c : PySem.W.codeIn K cdv qual = true) (k : PySem.W.keepIn K (.ref f) = true) (lT : K.lookup T = some ⟨tc, td, .seq its.toArray n, ts⟩) (hv : Vals dvs its) : FunV K x qual st dvs f (PySem.W.fnOf x qual (defArgs st) (defBody st) (defScope st) (.ref T) kV doc pm an cdv ct) :=
  ⟨⟨oc, od, T, kV, doc, pm, an, cdv, ct, osl, _, its, n, rfl, l, c, lT, rfl, hv⟩, k⟩
/-- f'..' within a comprehension -/
def tJoinF (ts : List TE) : TE := fun σ H Q => tJs ts Str.empty σ H fun out H1 => Q (.str out) H1
theorem pe_joinedF {X : Cx} {v1 v2 : Expr} {rest : List Expr} {ts : List TE} {pos : Pos} (h : PJ X (v1 :: v2 :: rest) ts) : PE X (.JoinedStr (v1 :: v2 :: rest) pos) (tJoinF ts) := pe_joined h
/-- if o: an own object with a length -/
def tTruO (C : Addr) (sp : Sp) (E : XK) (ta : TE) : TT := fun σ H Q => ta σ H fun x H1 => ∃ a dx fs, x = .ref a ∧ H1 a = some (.ins C dx fs) ∧ sp [.ref a] H1 (fun v H' => ∃ n : Int, v = .int n ∧ 0 ≤ n ∧ n < 2 ^ 63 ∧ Q (n != 0) H') E
theorem pt_truO {X : Cx} {CX : CXT} {k : Nat} {C f : Addr} {fd : FuncData} {ps : List Str} {sp : Sp} {E : XK} {a : Expr} {ta : TE} (ha : PE X a ta) (hm : Meth X.K C "__len__" f) (hs : PySem.W.findIn X.K (.ref C) "__bool__" = some none) (F : FnOk X.prog X.w X.K X.mg X.base CX k f fd ps sp) (hr : Room (k + 3) X.A) (hb : Binds X.K fd ps []) (hx : Passes CX X E)
    (he : ∀ whole, isTrue a X.env whole = (do let v ← whole; standAt a.pos; holding [v] (truthy v))) : PT X a (tTruO C sp E ta) := by
  refine ⟨fun pins s σ H Q I h => ?_⟩
  refine isTrue_plain (thn (ha.run pins s σ H _ I h) fun v s1 ⟨x, H1, I1, r1, p, dx, fs, ex, ep, q⟩ => ?_) (he _)
  subst ex
  obtain rfl : v = Value.ref p := r1
  obtain ⟨mA, J, _⟩ := ins_get I1.hok ep
  obtain ⟨od, J, _⟩ := J.look
  obtain ⟨m, hF⟩ := I1.fr
  refine truthy_len hF I1.ok.mod.kin J hs hm.at_ hm.fn ?_
  refine wpAny_mono (run_A F (hr.in1.mono (by omega)) I1.env0.in1 hb hx I1 (show Vals [V.ref p] [Value.ref p] from .cons rfl .nil) q) (fun r s' z => ?_) fun _ _ e => e
  obtain ⟨v, H', I', rv, n, rfl, h0, h1, q'⟩ := z
  obtain ⟨t, rfl⟩ := rv
  exact ⟨n, t, rfl, h0, h1, H', I'.tok _, q'⟩
/-- a text so many times -/
def rMulS : R2 := fun x y H Q => ∃ (z : Str) (n : Int), x = .str z ∧ y = .int n ∧ MulOk z n ∧ Q (.str (Txt.mul z n)) H
theorem op_mulS {X : Cx} : OpR X (binaryOp .Mult) rMulS := by
  intro pins s σ H x y v u Q I rx ry h
  obtain ⟨z, n, rfl, rfl, ok, q⟩ := h
  obtain ⟨t, rfl⟩ := rx
  obtain ⟨t', rfl⟩ := ry
  exact SB.mul ok fun t' tk => ⟨.str (Txt.mul z n), H, I.tok _, ⟨_, rfl⟩, q⟩
theorem mul_ok1 {c n : Nat} (h : n ≤ 1000) : MulOk (⟨#[c]⟩ : Str) (n : Int) := by
  refine ⟨?_, fun h1 _ => ?_, fun _ _ => ?_⟩
  · rw [decide_eq_false (by omega), decide_eq_false (by omega)]
    rfl
  · have h1 : 1 ≤ n := by omega
    show ¬ ((1 : Int) > (2 ^ 63 - 1) / (n : Int))
    have : (1 : Int) ≤ (2 ^ 63 - 1) / (n : Int) := by
      rw [Int.le_ediv_iff_mul_le (by omega)]
      omega
    omega
  · show Builtin.Str.tooLong (1 * n) = false
    rw [Nat.one_mul]
    unfold Builtin.Str.tooLong
    refine decide_eq_false ?_
    have : 1000 ≤ sizeLine := by decide
    omega
theorem foldl_one (c : Nat) : ∀ (n : Nat) (acc : List Nat), (List.replicate n (#[c] : Array Nat)).foldl (· ++ ·) acc.toArray = (acc ++ List.replicate n c).toArray
  | 0, acc => by simp
  | n + 1, acc => by
    rw [List.replicate_succ, List.foldl_cons]
    have e : acc.toArray ++ #[c] = (acc ++ [c]).toArray := by simp
    rw [e, foldl_one c n, List.replicate_succ, List.append_assoc]
    rfl
theorem mul_one {c n : Nat} : Txt.mul (⟨#[c]⟩ : Str) (n : Int) = ⟨(List.replicate n c).toArray⟩ := by
  unfold Txt.mul
  by_cases h : (n : Int) < 1
  · rw [if_pos h]
    obtain rfl : n = 0 := by omega
    rfl
  · rw [if_neg h]
    by_cases h1 : n = 1
    · subst h1
      rfl
    · have e : (((n : Int) == 1) || ((⟨#[c]⟩ : Str).length == 0)) = false := by
        have : ((n : Int) == 1) = false := beq_eq_false_iff_ne.mpr (by omega)
        rw [this]
        rfl
      rw [if_neg (by rw [e]; exact Bool.false_ne_true), Int.toNat_natCast]
      have := foldl_one c n []
      rw [List.nil_append] at this
      exact congrArg Str.mk this
end MH
noncomputable section
/-! own work: the head of a law in cuts, each cut one kernel run between two states that are written out once -/
namespace MN
open PySem PySem.W PySem.Calls PyProof.Rows HandSHeadRun
section
variable (st : SharedT → Thread → Option (SharedT × Thread)) (n0 : Nat) (ann : Option Value)
/-- one step that the top may do -/
def one (s : SharedT) (t : Thread) : Option (SharedT × Thread) := match stepOk n0 ann t with
  | true => st s t
  | false => none
/-- statements of the top, to their end -/
def seg : Nat → SharedT → Thread → Option (Flow × SharedT × Code × Pos)
  | 0, _, _ => none
  | m + 1, s, t => match endAt 1 t with
    | some f => some (f, s, t.code, t.pos)
    | none => match one st n0 ann s t with
      | some r => frS r.1 fun s' => seg m s' r.2
      | none => none
/-- the first steps of the top -/
def fore : Nat → SharedT → Thread → Option (SharedT × Thread)
  | 0, s, t => some (s, t)
  | m + 1, s, t => match through t with
    | true => none
    | false => match one st n0 ann s t with
      | some r => frS r.1 fun s' => fore m s' r.2
      | none => none
end
section
variable {tb : String → Option Builtin} {p : Program} {w : World} {n0 : Nat} {ann : Option Value}
theorem one_ok {s s2 : SharedT} {t t2 : Thread} (h : one (stepT (denote tb) p w) n0 ann s t = some (s2, t2)) : stepOk n0 ann t = true ∧ step (denote tb) p w s.abs t = .go s2.abs t2 := by
  unfold one at h
  split at h
  · rename_i a
    exact ⟨a, stepT_spec h⟩
  · cases h
theorem seg_ok {f : Flow} {s2 : SharedT} {c : Code} {q : Pos} : ∀ {m : Nat} {s : SharedT} {t : Thread}, seg (stepT (denote tb) p w) n0 ann m s t = some (f, s2, c, q) → segRun tb p w n0 ann 1 m s.abs t = some (f, s2.abs, c, q)
  | 0, _, _, h => nomatch h
  | m + 1, s, t, h => by
    simp only [seg] at h
    unfold segRun
    split at h
    · rename_i a
      rw [a]
      cases h
      rfl
    · rename_i a
      rw [a]
      split at h
      · rename_i r b
        obtain ⟨u, v⟩ := r
        obtain ⟨d, e⟩ := one_ok b
        rw [frS_eq] at h
        simp only [d, e]
        exact seg_ok h
      · cases h
theorem fore_ok {s2 : SharedT} {t2 : Thread} : ∀ {m : Nat} {s : SharedT} {t : Thread}, fore (stepT (denote tb) p w) n0 ann m s t = some (s2, t2) → topGo tb p w n0 ann m s.abs t = some (s2.abs, t2)
  | 0, s, t, h => by
    cases h
    rfl
  | m + 1, s, t, h => by
    simp only [fore] at h
    unfold topGo
    split at h
    · cases h
    · rename_i a
      rw [a]
      split at h
      · rename_i r b
        obtain ⟨u, v⟩ := r
        obtain ⟨d, e⟩ := one_ok b
        rw [frS_eq] at h
        simp only [d, e]
        exact fore_ok h
      · cases h
end
/-- the state behind the boot, off the tree -/
def bootQ (w : World) (os : OsState) (k : SharedT → Option (SharedT × Thread)) : Option (SharedT × Thread) := match putAll (boot_heap w.params).objs.toList .nil 0 with
  | some (t, n) => frNat n fun n => k (bootT w os (t, n))
  | none => none
theorem bootQ_ok {w : World} {os : OsState} {k : SharedT → Option (SharedT × Thread)} {r : SharedT × Thread} (h : bootQ w os k = some r) : ∃ s : SharedT, s.abs = ⟨boot_heap w.params, #[], boot_drawn, boot_toks, os⟩ ∧ k s = some r := by
  unfold bootQ at h
  split at h
  · rename_i t n e
    rw [frNat_eq] at h
    refine ⟨_, ?_, h⟩
    show (⟨absHeap t n (boot_heap w.params).life, #[], boot_drawn, boot_toks, os⟩ : Shared) = _
    rw [putAll_heap e]
  · cases h
/-- the top runs from s, t to r in N steps at most -/
def Run (p : Program) (w : World) (n0 : Nat) (ann : Option Value) (N : Nat) (s : SharedT) (t : Thread) (r : SharedT) : Prop := topRun treeTable p w n0 ann N s.abs t = some r.abs
def exQ : List Stmt → Env → Sem Flow := PySem.W.Fast.tw12563942051412417395
theorem exQ_eq : @PySem.execs = exQ := PySem.W.Fast.te12563942051412417395
abbrev piecesQ (l : List Stmt) (env : Env) (c : Code) (p : Pos) (B : List Frame) : Thread := ⟨(exQ l env).wrap doneF deadEnd id id, c, p, B⟩
abbrev restQ (l : List Stmt) (env : Env) (c : Code) (p : Pos) (B : List Frame) : Thread := ⟨(exQ l env).wrap doneF (leaveH env) id id, c, p, B⟩
theorem piecesQ_eq (l : List Stmt) (env : Env) (c : Code) (p : Pos) (B : List Frame) : piecesOf l env c p B = piecesQ l env c p B := by
  show (⟨(execs l env).wrap doneF deadEnd id id, c, p, B⟩ : Thread) = ⟨(exQ l env).wrap doneF deadEnd id id, c, p, B⟩
  rw [exQ_eq]
theorem restQ_eq (l : List Stmt) (env : Env) (c : Code) (p : Pos) (B : List Frame) : restOf l env c p B = restQ l env c p B := by
  show (⟨(execs l env).wrap doneF (leaveH env) id id, c, p, B⟩ : Thread) = ⟨(exQ l env).wrap doneF (leaveH env) id id, c, p, B⟩
  rw [exQ_eq]
abbrev stQ (p : Program) (w : World) := stepQ (denQ tabQ) p w
theorem st_eq (p : Program) (w : World) : stepT (denote treeTable) p w = stQ p w := by
  rw [stepQ_eq, denQ_eq, tabQ_eq]
section
variable {p : Program} {w : World} {n0 : Nat} {ann : Option Value} {env : Env} {q : Pos}
theorem run_end {m : Nat} {b : List Stmt} {s r : SharedT} {c : Code} {u : Pos} (h : goF (stQ p w) n0 ann m s (restQ b env c u [topFrame q]) = some r) : Run p w n0 ann m s (restOf b env c u [topFrame q]) r := goF_ok (by rw [st_eq, restQ_eq]; exact h)
theorem run_cut {m N i j k : Nat} {b : List Stmt} {s s2 r : SharedT} {c : Code} {u v : Pos} (hk : i + k = j) (h : seg (stQ p w) n0 ann m s (piecesQ ((b.drop i).take k) env c u [topFrame q]) = some (.next, s2, c, v))
    (z : Run p w n0 ann N s2 (restOf (b.drop j) env c v [topFrame q]) r) : Run p w n0 ann (m + N) s (restOf (b.drop i) env c u [topFrame q]) r := by
  have e : b.drop i = (b.drop i).take k ++ b.drop j := by
    rw [← hk, ← List.drop_drop]
    exact (List.take_append_drop k _).symm
  rw [e]
  exact piece_app (seg_ok (by rw [st_eq, piecesQ_eq]; exact h)) z
theorem run_block {m N : Nat} {b : List Stmt} {s s2 r : SharedT} {c : Code} {u v : Pos} (h : seg (stQ p w) n0 ann m s (blockOf b env c u [topFrame q]) = some (.next, s2, c, v))
    (z : Run p w n0 ann N s2 (restOf b env c v [topFrame q]) r) : Run p w n0 ann (m + N) s ⟨denote treeTable (.body b env), c, u, [topFrame q]⟩ r := piece_block (seg_ok (by rw [st_eq]; exact h)) z
theorem run_fore {m N : Nat} {b : List Stmt} {s s2 r : SharedT} {t : Thread} {c : Code} {u : Pos} (h : fore (stQ p w) n0 ann m s t = some (s2, ⟨denQ tabQ (.body b env), c, u, [topFrame q]⟩))
    (z : Run p w n0 ann N s2 ⟨denote treeTable (.body b env), c, u, [topFrame q]⟩ r) : Run p w n0 ann (m + N) s t r := go_top (fore_ok (by rw [st_eq, denQ_eq, tabQ_eq]; exact h)) z
end
/-- what is looked at behind the top -/
abbrev Looks (p q : Program) (loose : List PySem.Str) (Xt : Shared → Bool) (as : List Addr) (w : World) (s : SharedT) := (looksF p (boot_heap w.params) s.abs, seenQ q loose (importedModules p.main.body) Xt s.abs, as.map (getT s))
abbrev Good (q : Program) (loose : List PySem.Str) (K : Params → Frag) (w : World) := (true, openGood q loose, (K w.params).map fun x => some x.2)
theorem left_cuts {p q : Program} {loose : List PySem.Str} {Xt : Shared → Bool} {K : Params → Frag} {as : List Addr} {ek : ∀ P, as = (K P).map (·.1)} {N M : Nat}
    (e : opening p = plainProg p.main.scope.names) (hN : Nat.ble 600 N = true) (f : ∀ s, fenceModules? p s = some s) (le : Nat.ble M N = true)
    (run : ∀ (w : World) (os : OsState), ∃ s r : SharedT, s.abs = ⟨boot_heap w.params, #[], boot_drawn, boot_toks, os⟩ ∧ Run p w (boot_heap w.params).objs.size (bootAnn w) M s (topStub p) r ∧ Looks p q loose Xt as w r = Good q loose K w) :
    LeftO p q loose Xt (Hook.obs (kHook K as ek)) (Hook.val (kHook K as ek)) N true := fun w => by
  obtain ⟨⟨h, gs, d, k, os⟩, a, a2⟩ := Option.map_eq_some_iff.mp (boot_open e hN f w)
  simp only [Prod.mk.injEq] at a2
  obtain ⟨rfl, rfl, rfl, rfl⟩ := a2
  obtain ⟨s, r, hs, hr, hl⟩ := run w os
  simp only [Prod.mk.injEq] at hl
  obtain ⟨l1, l2, l3⟩ := hl
  have l4 : Hook.obs (kHook K as ek) r.abs = (K w.params).map fun x => some x.2 := by
    rw [← l3]
    exact (List.map_congr_left fun a _ => getT_eq r a).symm
  have g : topRun treeTable p w (boot_heap w.params).objs.size (bootAnn w) N s.abs (topStub p) = some r.abs := by
    have g1 := topRun_mono (N - M) _ _ _ _ hr
    rwa [Nat.add_sub_cancel' (Nat.le_of_ble_eq_true le)] at g1
  rw [hs] at g
  have t : topFrom treeTable p w N ⟨boot_heap w.params, Array.mk [], boot_drawn, boot_toks, os⟩ = some r.abs := by
    simp only [topFrom]
    rw [boot_ns]
    show Option.bind (topRun treeTable p w (boot_heap w.params).objs.size (bootAnn w) N ⟨boot_heap w.params, #[], boot_drawn, boot_toks, os⟩ (topStub p)) _ = _
    rw [g]
    have l1b : (staticsOk (importedModules p.main.body) (boot_heap w.params) r.abs.heap && namesBound p r.abs.heap && gensDone r.abs && laidKept (boot_heap w.params) r.abs.heap) = true := l1
    show (match staticsOk (importedModules p.main.body) (boot_heap w.params) r.abs.heap && namesBound p r.abs.heap && gensDone r.abs && laidKept (boot_heap w.params) r.abs.heap with | true => some r.abs | false => none) = _
    rw [l1b]
  simp only [openEnds, a]
  show Option.map _ (topFrom treeTable p w N _) = _
  rw [t]
  refine congrArg some (Prod.ext ?_ l4)
  rw [← l2]
  exact seenQ_eq _ _ _ _ _
end MN
end
namespace MH
open PySem PySem.Spec PyProof.Rows L2
def topS (i : Nat) : Stmt := PySem.Challenge.pw_menuhouses_k45_looks_made_and_read.main.body.getD i (.Pass ⟨0, 0, 0, 0⟩)
abbrev st_is_name : Stmt := topS 14
abbrev names_is_name : List Str := ["value", "sign"]
theorem sc_is_name : FnScope names_is_name ["value"] (defScope st_is_name) := ⟨rfl, rfl, rfl, by decide +kernel, rfl, by decide +kernel, by decide +kernel⟩
abbrev st_is_filled_tuple : Stmt := topS 15
abbrev names_is_filled_tuple : List Str := ["value"]
theorem sc_is_filled_tuple : FnScope names_is_filled_tuple ["value"] (defScope st_is_filled_tuple) := ⟨rfl, rfl, rfl, by decide +kernel, rfl, by decide +kernel, by decide +kernel⟩
abbrev st_is_one_of : Stmt := topS 16
abbrev names_is_one_of : List Str := ["value", "things"]
theorem sc_is_one_of : FnScope names_is_one_of ["value", "things"] (defScope st_is_one_of) := ⟨rfl, rfl, rfl, by decide +kernel, rfl, by decide +kernel, by decide +kernel⟩
abbrev st_first_wrong_of_names : Stmt := topS 17
abbrev names_first_wrong_of_names : List Str := ["names", "most", "at", "name"]
theorem sc_first_wrong_of_names : FnScope names_first_wrong_of_names ["names", "most"] (defScope st_first_wrong_of_names) := ⟨rfl, rfl, rfl, by decide +kernel, rfl, by decide +kernel, by decide +kernel⟩
abbrev st_first_wrong_on_menu : Stmt := topS 18
abbrev names_first_wrong_on_menu : List Str := ["menu", "things", "at", "thing"]
theorem sc_first_wrong_on_menu : FnScope names_first_wrong_on_menu ["menu", "things"] (defScope st_first_wrong_on_menu) := ⟨rfl, rfl, rfl, by decide +kernel, rfl, by decide +kernel, by decide +kernel⟩
abbrev st_check_names_of_menu : Stmt := topS 19
abbrev names_check_names_of_menu : List Str := ["menu", "wrong"]
theorem sc_check_names_of_menu : FnScope names_check_names_of_menu ["menu"] (defScope st_check_names_of_menu) := ⟨rfl, rfl, rfl, by decide +kernel, rfl, by decide +kernel, by decide +kernel⟩
abbrev st_check_taken : Stmt := topS 20
abbrev names_check_taken : List Str := ["taken", "menu", "wrong"]
theorem sc_check_taken : FnScope names_check_taken ["taken", "menu"] (defScope st_check_taken) := ⟨rfl, rfl, rfl, by decide +kernel, rfl, by decide +kernel, by decide +kernel⟩
abbrev st_check_thing : Stmt := topS 21
abbrev names_check_thing : List Str := ["thing", "things"]
theorem sc_check_thing : FnScope names_check_thing ["thing", "things"] (defScope st_check_thing) := ⟨rfl, rfl, rfl, by decide +kernel, rfl, by decide +kernel, by decide +kernel⟩
abbrev st_index_of : Stmt := topS 23
abbrev names_index_of : List Str := ["name", "names", "at", "other"]
theorem sc_index_of : FnScope names_index_of ["name", "names"] (defScope st_index_of) := ⟨rfl, rfl, rfl, by decide +kernel, rfl, by decide +kernel, by decide +kernel⟩
abbrev st_are_marks : Stmt := topS 26
abbrev names_are_marks : List Str := ["marks", "many", "mark"]
theorem sc_are_marks : FnScope names_are_marks ["marks", "many"] (defScope st_are_marks) := ⟨rfl, rfl, rfl, by decide +kernel, rfl, by decide +kernel, by decide +kernel⟩
abbrev st_look_at_just : Stmt := topS 27
abbrev names_look_at_just : List Str := ["menu", "taken", "thing"]
theorem sc_look_at_just : FnScope names_look_at_just ["menu", "taken"] (defScope st_look_at_just) := ⟨rfl, rfl, rfl, by decide +kernel, rfl, by decide +kernel, by decide +kernel⟩
abbrev st_LookD_initD : Stmt := inClass (topS 28) 0
abbrev names_LookD_initD : List Str := ["self", "menu", "marks"]
theorem sc_LookD_initD : FnScope names_LookD_initD ["self", "menu", "marks"] (defScope st_LookD_initD) := ⟨rfl, rfl, rfl, by decide +kernel, rfl, by decide +kernel, by decide +kernel⟩
abbrev st_Look_read : Stmt := inClass (topS 28) 1
abbrev names_Look_read : List Str := ["cls", "text", "parts", "menu", "marks", "part"]
theorem sc_Look_read : FnScope names_Look_read ["cls", "text"] (defScope st_Look_read) := ⟨rfl, rfl, rfl, by decide +kernel, rfl, by decide +kernel, by decide +kernel⟩
abbrev st_Look_just : Stmt := inClass (topS 28) 2
abbrev names_Look_just : List Str := ["menu", "taken"]
theorem sc_Look_just : FnScope names_Look_just ["menu", "taken"] (defScope st_Look_just) := ⟨rfl, rfl, rfl, by decide +kernel, rfl, by decide +kernel, by decide +kernel⟩
abbrev st_Look_marks : Stmt := inClass (topS 28) 3
abbrev names_Look_marks : List Str := ["self"]
theorem sc_Look_marks : FnScope names_Look_marks ["self"] (defScope st_Look_marks) := ⟨rfl, rfl, rfl, by decide +kernel, rfl, by decide +kernel, by decide +kernel⟩
abbrev st_Look_taken : Stmt := inClass (topS 28) 4
abbrev names_Look_taken : List Str := ["self", "thing", "mark"]
theorem sc_Look_taken : FnScope names_Look_taken ["self"] (defScope st_Look_taken) := ⟨rfl, rfl, rfl, by decide +kernel, rfl, by decide +kernel, by decide +kernel⟩
abbrev st_Look_passed : Stmt := inClass (topS 28) 5
abbrev names_Look_passed : List Str := ["self", "thing", "mark"]
theorem sc_Look_passed : FnScope names_Look_passed ["self"] (defScope st_Look_passed) := ⟨rfl, rfl, rfl, by decide +kernel, rfl, by decide +kernel, by decide +kernel⟩
abbrev st_LookD_getitemD : Stmt := inClass (topS 28) 7
abbrev names_LookD_getitemD : List Str := ["self", "at"]
theorem sc_LookD_getitemD : FnScope names_LookD_getitemD ["self", "at"] (defScope st_LookD_getitemD) := ⟨rfl, rfl, rfl, by decide +kernel, rfl, by decide +kernel, by decide +kernel⟩
abbrev st_LookD_lenD : Stmt := inClass (topS 28) 9
abbrev names_LookD_lenD : List Str := ["self"]
theorem sc_LookD_lenD : FnScope names_LookD_lenD ["self"] (defScope st_LookD_lenD) := ⟨rfl, rfl, rfl, by decide +kernel, rfl, by decide +kernel, by decide +kernel⟩
abbrev st_LookD_strD : Stmt := inClass (topS 28) 10
abbrev names_LookD_strD : List Str := ["self", "thing", "mark"]
theorem sc_LookD_strD : FnScope names_LookD_strD ["self"] (defScope st_LookD_strD) := ⟨rfl, rfl, rfl, by decide +kernel, rfl, by decide +kernel, by decide +kernel⟩
abbrev st_LookD_reprD : Stmt := inClass (topS 28) 11
abbrev names_LookD_reprD : List Str := ["self"]
theorem sc_LookD_reprD : FnScope names_LookD_reprD ["self"] (defScope st_LookD_reprD) := ⟨rfl, rfl, rfl, by decide +kernel, rfl, by decide +kernel, by decide +kernel⟩
abbrev st_LookD_eqD : Stmt := inClass (topS 28) 12
abbrev names_LookD_eqD : List Str := ["self", "other"]
theorem sc_LookD_eqD : FnScope names_LookD_eqD ["self", "other"] (defScope st_LookD_eqD) := ⟨rfl, rfl, rfl, by decide +kernel, rfl, by decide +kernel, by decide +kernel⟩
abbrev st_l_urn : Stmt := topS 30
abbrev names_l_urn : List Str := ["_law_cells", "_law_k", "_law_seed", "_law_some", "_law_cell", "_law_great"]
theorem sc_l_urn : FnScope names_l_urn ["_law_cells", "_law_k"] (defScope st_l_urn) := ⟨rfl, rfl, rfl, by decide +kernel, rfl, by decide +kernel, by decide +kernel⟩
abbrev st_l_draw : Stmt := topS 31
abbrev names_l_draw : List Str := ["_law_urn_here", "_law_many", "_law_mixed", "_law_digit"]
theorem sc_l_draw : FnScope names_l_draw ["_law_urn_here", "_law_many"] (defScope st_l_draw) := ⟨rfl, rfl, rfl, by decide +kernel, rfl, by decide +kernel, by decide +kernel⟩
abbrev st_l_name : Stmt := topS 32
abbrev names_l_name : List Str := ["_law_urn_here", "_law_signs", "_law_found", "_law_turn"]
theorem sc_l_name : FnScope names_l_name ["_law_urn_here"] (defScope st_l_name) := ⟨rfl, rfl, rfl, by decide +kernel, rfl, by decide +kernel, by decide +kernel⟩
abbrev st_l_names : Stmt := topS 33
abbrev names_l_names : List Str := ["_law_urn_here", "_law_many", "_law_found", "_law_k", "_law_name_here", "_law_spare", "_law_sign"]
theorem sc_l_names : FnScope names_l_names ["_law_urn_here", "_law_many"] (defScope st_l_names) := ⟨rfl, rfl, rfl, by decide +kernel, rfl, by decide +kernel, by decide +kernel⟩
abbrev st_l_marks : Stmt := topS 34
abbrev names_l_marks : List Str := ["_law_urn_here", "_law_many", "_law_signs", "_law_k"]
theorem sc_l_marks : FnScope names_l_marks ["_law_urn_here", "_law_many"] (defScope st_l_marks) := ⟨rfl, rfl, rfl, by decide +kernel, rfl, by decide +kernel, by decide +kernel⟩
abbrev st_l_text : Stmt := topS 35
abbrev names_l_text : List Str := ["_law_pair", "_law_k"]
theorem sc_l_text : FnScope names_l_text ["_law_pair"] (defScope st_l_text) := ⟨rfl, rfl, rfl, by decide +kernel, rfl, by decide +kernel, by decide +kernel⟩
abbrev st_l_is : Stmt := topS 36
abbrev names_l_is : List Str := ["_law_look", "_law_menu", "_law_signs", "_law_some", "_law_sign", "_law_k", "_law_thing"]
theorem sc_l_is : FnScope names_l_is ["_law_look", "_law_menu", "_law_signs"] (defScope st_l_is) := ⟨rfl, rfl, rfl, by decide +kernel, rfl, by decide +kernel, by decide +kernel⟩
abbrev st_l_others : Stmt := topS 37
abbrev names_l_others : List Str := ["_law_urn_here", "_law_menu", "_law_signs", "_law_at", "_law_mark", "_law_found"]
theorem sc_l_others : FnScope names_l_others ["_law_urn_here", "_law_menu", "_law_signs"] (defScope st_l_others) := ⟨rfl, rfl, rfl, by decide +kernel, rfl, by decide +kernel, by decide +kernel⟩
abbrev st_l_right : Stmt := topS 38
abbrev names_l_right : List Str := ["_law_urn_here", "_law_menu", "_law_signs", "_law_look", "_law_twin", "_law_one", "_law_taken", "_law_just", "_law_other", "_law_k"]
theorem sc_l_right : FnScope names_l_right ["_law_urn_here"] (defScope st_l_right) := ⟨rfl, rfl, rfl, by decide +kernel, rfl, by decide +kernel, by decide +kernel⟩
abbrev st_law : Stmt := topS 39
abbrev names_law : List Str := ["_law_cells", "_law_k"]
theorem sc_law : FnScope names_law ["_law_cells"] (defScope st_law) := ⟨rfl, rfl, rfl, by decide +kernel, rfl, by decide +kernel, by decide +kernel⟩
structure Tx (K : PySem.W.Frag) (mg : Str → Option Value) where
  C : Addr
  cl : Cls K C
  g_Look : mg "Look" = some (.ref C)
  ne : PySem.W.findIn K (.ref C) "__ne__" = some (some (.builtin "object.__ne__"))
  ob : PySem.W.mroIn K C (.type "object") = some true
  ty : ∀ {H : Hp} {a dx : Addr} {fs : List (Str × V)}, H a = some (.ins C dx fs) → TyX K H (.ref a) (.ref C)
  nobool : PySem.W.findIn K (.ref C) "__bool__" = some none
  fm : PySem.W.findIn K (.ref C) "__format__" = some (some (.builtin "object.__format__"))
  crd : ClX.CRead K C (.type "type")
  cty : PySem.W.typeIn K (.ref C) = some (.type "type")
  no_menu : NoAttr K C "menu"
  no__marks : NoAttr K C "_marks"
  a_is_name : Addr
  fd_is_name : FuncData
  F_is_name : Fun K "is_name" "is_name" st_is_name a_is_name fd_is_name
  b_is_name : Binds K fd_is_name ["value"] []
  g_is_name : mg "is_name" = some (.ref a_is_name)
  a_is_filled_tuple : Addr
  fd_is_filled_tuple : FuncData
  F_is_filled_tuple : Fun K "is_filled_tuple" "is_filled_tuple" st_is_filled_tuple a_is_filled_tuple fd_is_filled_tuple
  b_is_filled_tuple : Binds K fd_is_filled_tuple ["value"] []
  g_is_filled_tuple : mg "is_filled_tuple" = some (.ref a_is_filled_tuple)
  a_is_one_of : Addr
  fd_is_one_of : FuncData
  F_is_one_of : Fun K "is_one_of" "is_one_of" st_is_one_of a_is_one_of fd_is_one_of
  b_is_one_of : Binds K fd_is_one_of ["value", "things"] []
  g_is_one_of : mg "is_one_of" = some (.ref a_is_one_of)
  a_first_wrong_of_names : Addr
  fd_first_wrong_of_names : FuncData
  F_first_wrong_of_names : FunV K "first_wrong_of_names" "first_wrong_of_names" st_first_wrong_of_names [V.int 10] a_first_wrong_of_names fd_first_wrong_of_names
  b_first_wrong_of_names : Binds K fd_first_wrong_of_names ["names", "most"] []
  bd_first_wrong_of_names : ∃ ds, Vals [V.int 10] ds ∧ Binds K fd_first_wrong_of_names ["names", "most"] ds
  g_first_wrong_of_names : mg "first_wrong_of_names" = some (.ref a_first_wrong_of_names)
  a_first_wrong_on_menu : Addr
  fd_first_wrong_on_menu : FuncData
  F_first_wrong_on_menu : Fun K "first_wrong_on_menu" "first_wrong_on_menu" st_first_wrong_on_menu a_first_wrong_on_menu fd_first_wrong_on_menu
  b_first_wrong_on_menu : Binds K fd_first_wrong_on_menu ["menu", "things"] []
  g_first_wrong_on_menu : mg "first_wrong_on_menu" = some (.ref a_first_wrong_on_menu)
  a_check_names_of_menu : Addr
  fd_check_names_of_menu : FuncData
  F_check_names_of_menu : Fun K "check_names_of_menu" "check_names_of_menu" st_check_names_of_menu a_check_names_of_menu fd_check_names_of_menu
  b_check_names_of_menu : Binds K fd_check_names_of_menu ["menu"] []
  g_check_names_of_menu : mg "check_names_of_menu" = some (.ref a_check_names_of_menu)
  a_check_taken : Addr
  fd_check_taken : FuncData
  F_check_taken : Fun K "check_taken" "check_taken" st_check_taken a_check_taken fd_check_taken
  b_check_taken : Binds K fd_check_taken ["taken", "menu"] []
  g_check_taken : mg "check_taken" = some (.ref a_check_taken)
  a_check_thing : Addr
  fd_check_thing : FuncData
  F_check_thing : Fun K "check_thing" "check_thing" st_check_thing a_check_thing fd_check_thing
  b_check_thing : Binds K fd_check_thing ["thing", "things"] []
  g_check_thing : mg "check_thing" = some (.ref a_check_thing)
  a_index_of : Addr
  fd_index_of : FuncData
  F_index_of : Fun K "index_of" "index_of" st_index_of a_index_of fd_index_of
  b_index_of : Binds K fd_index_of ["name", "names"] []
  g_index_of : mg "index_of" = some (.ref a_index_of)
  a_are_marks : Addr
  fd_are_marks : FuncData
  F_are_marks : Fun K "are_marks" "are_marks" st_are_marks a_are_marks fd_are_marks
  b_are_marks : Binds K fd_are_marks ["marks", "many"] []
  g_are_marks : mg "are_marks" = some (.ref a_are_marks)
  a_look_at_just : Addr
  fd_look_at_just : FuncData
  F_look_at_just : Fun K "look_at_just" "look_at_just" st_look_at_just a_look_at_just fd_look_at_just
  b_look_at_just : Binds K fd_look_at_just ["menu", "taken"] []
  g_look_at_just : mg "look_at_just" = some (.ref a_look_at_just)
  a_LookD_initD : Addr
  fd_LookD_initD : FuncData
  F_LookD_initD : Fun K "__init__" "Look.__init__" st_LookD_initD a_LookD_initD fd_LookD_initD
  b_LookD_initD : Binds K fd_LookD_initD ["self", "menu", "marks"] []
  mkc : Mk K C a_LookD_initD
  q_Look_read : Addr
  a_Look_read : Addr
  fd_Look_read : FuncData
  F_Look_read : Fun K "read" "Look.read" st_Look_read a_Look_read fd_Look_read
  b_Look_read : Binds K fd_Look_read ["cls", "text"] []
  cm_Look_read : ClX.CMet K C (.type "type") "read" q_Look_read a_Look_read
  q_Look_just : Addr
  a_Look_just : Addr
  fd_Look_just : FuncData
  F_Look_just : Fun K "just" "Look.just" st_Look_just a_Look_just fd_Look_just
  b_Look_just : Binds K fd_Look_just ["menu", "taken"] []
  sm_Look_just : SMet K C (.type "type") "just" q_Look_just a_Look_just
  q_Look_marks : Addr
  a_Look_marks : Addr
  fd_Look_marks : FuncData
  F_Look_marks : Fun K "marks" "Look.marks" st_Look_marks a_Look_marks fd_Look_marks
  b_Look_marks : Binds K fd_Look_marks ["self"] []
  p_marks : PropOf K C "marks" q_Look_marks a_Look_marks
  q_Look_taken : Addr
  a_Look_taken : Addr
  fd_Look_taken : FuncData
  F_Look_taken : Fun K "taken" "Look.taken" st_Look_taken a_Look_taken fd_Look_taken
  b_Look_taken : Binds K fd_Look_taken ["self"] []
  p_taken : PropOf K C "taken" q_Look_taken a_Look_taken
  q_Look_passed : Addr
  a_Look_passed : Addr
  fd_Look_passed : FuncData
  F_Look_passed : Fun K "passed" "Look.passed" st_Look_passed a_Look_passed fd_Look_passed
  b_Look_passed : Binds K fd_Look_passed ["self"] []
  p_passed : PropOf K C "passed" q_Look_passed a_Look_passed
  a_LookD_getitemD : Addr
  fd_LookD_getitemD : FuncData
  F_LookD_getitemD : Fun K "__getitem__" "Look.__getitem__" st_LookD_getitemD a_LookD_getitemD fd_LookD_getitemD
  b_LookD_getitemD : Binds K fd_LookD_getitemD ["self", "at"] []
  fi_LookD_getitemD : PySem.W.fnIn K a_LookD_getitemD = true
  m_LookD_getitemD : Meth K C "__getitem__" a_LookD_getitemD
  a_LookD_lenD : Addr
  fd_LookD_lenD : FuncData
  F_LookD_lenD : Fun K "__len__" "Look.__len__" st_LookD_lenD a_LookD_lenD fd_LookD_lenD
  b_LookD_lenD : Binds K fd_LookD_lenD ["self"] []
  m_LookD_lenD : Meth K C "__len__" a_LookD_lenD
  a_LookD_strD : Addr
  fd_LookD_strD : FuncData
  F_LookD_strD : Fun K "__str__" "Look.__str__" st_LookD_strD a_LookD_strD fd_LookD_strD
  b_LookD_strD : Binds K fd_LookD_strD ["self"] []
  m_LookD_strD : Meth K C "__str__" a_LookD_strD
  a_LookD_reprD : Addr
  fd_LookD_reprD : FuncData
  F_LookD_reprD : Fun K "__repr__" "Look.__repr__" st_LookD_reprD a_LookD_reprD fd_LookD_reprD
  b_LookD_reprD : Binds K fd_LookD_reprD ["self"] []
  m_LookD_reprD : Meth K C "__repr__" a_LookD_reprD
  a_LookD_eqD : Addr
  fd_LookD_eqD : FuncData
  F_LookD_eqD : Fun K "__eq__" "Look.__eq__" st_LookD_eqD a_LookD_eqD fd_LookD_eqD
  b_LookD_eqD : Binds K fd_LookD_eqD ["self", "other"] []
  m_LookD_eqD : Meth K C "__eq__" a_LookD_eqD
  a_l_urn : Addr
  fd_l_urn : FuncData
  F_l_urn : Fun K "_law_urn" "_law_urn" st_l_urn a_l_urn fd_l_urn
  b_l_urn : Binds K fd_l_urn ["_law_cells", "_law_k"] []
  g_l_urn : mg "_law_urn" = some (.ref a_l_urn)
  a_l_draw : Addr
  fd_l_draw : FuncData
  F_l_draw : Fun K "_law_draw" "_law_draw" st_l_draw a_l_draw fd_l_draw
  b_l_draw : Binds K fd_l_draw ["_law_urn_here", "_law_many"] []
  g_l_draw : mg "_law_draw" = some (.ref a_l_draw)
  a_l_name : Addr
  fd_l_name : FuncData
  F_l_name : Fun K "_law_name" "_law_name" st_l_name a_l_name fd_l_name
  b_l_name : Binds K fd_l_name ["_law_urn_here"] []
  g_l_name : mg "_law_name" = some (.ref a_l_name)
  a_l_names : Addr
  fd_l_names : FuncData
  F_l_names : Fun K "_law_names" "_law_names" st_l_names a_l_names fd_l_names
  b_l_names : Binds K fd_l_names ["_law_urn_here", "_law_many"] []
  g_l_names : mg "_law_names" = some (.ref a_l_names)
  a_l_marks : Addr
  fd_l_marks : FuncData
  F_l_marks : Fun K "_law_marks" "_law_marks" st_l_marks a_l_marks fd_l_marks
  b_l_marks : Binds K fd_l_marks ["_law_urn_here", "_law_many"] []
  g_l_marks : mg "_law_marks" = some (.ref a_l_marks)
  a_l_text : Addr
  fd_l_text : FuncData
  F_l_text : Fun K "_law_text" "_law_text" st_l_text a_l_text fd_l_text
  b_l_text : Binds K fd_l_text ["_law_pair"] []
  g_l_text : mg "_law_text" = some (.ref a_l_text)
  a_l_is : Addr
  fd_l_is : FuncData
  F_l_is : Fun K "_law_is" "_law_is" st_l_is a_l_is fd_l_is
  b_l_is : Binds K fd_l_is ["_law_look", "_law_menu", "_law_signs"] []
  g_l_is : mg "_law_is" = some (.ref a_l_is)
  a_l_others : Addr
  fd_l_others : FuncData
  F_l_others : Fun K "_law_others" "_law_others" st_l_others a_l_others fd_l_others
  b_l_others : Binds K fd_l_others ["_law_urn_here", "_law_menu", "_law_signs"] []
  g_l_others : mg "_law_others" = some (.ref a_l_others)
  a_l_right : Addr
  fd_l_right : FuncData
  F_l_right : Fun K "_law_right" "_law_right" st_l_right a_l_right fd_l_right
  b_l_right : Binds K fd_l_right ["_law_urn_here"] []
  g_l_right : mg "_law_right" = some (.ref a_l_right)
  a_law : Addr
  fd_law : FuncData
  F_law : Fun K "law" "law" st_law a_law fd_law
  b_law : Binds K fd_law ["_law_cells"] []
  g_law : mg "law" = some (.ref a_law)
  g_MOST_THINGS : ∃ t : Tok, mg "MOST_THINGS" = some (.int 10 t)
  g_LETTERS : ∃ t : Tok, mg "LETTERS" = some (.str "abcdefghijklmnopqrstuvwxyz" t)
  g_DIGITS : ∃ t : Tok, mg "DIGITS" = some (.str "0123456789" t)
  g_LONGEST_NAME : ∃ t : Tok, mg "LONGEST_NAME" = some (.int 8 t)
  g_MARKS : ∃ t : Tok, mg "MARKS" = some (.str "+-?" t)
  n_len : mg "len" = none
  n_isinstance : mg "isinstance" = none
  n_all : mg "all" = none
  n_enumerate : mg "enumerate" = none
  n_tuple : mg "tuple" = none
  n_sorted : mg "sorted" = none
  n_abs : mg "abs" = none
  n_int : mg "int" = none
  n_divmod : mg "divmod" = none
  n_range : mg "range" = none
  n_list : mg "list" = none
  n_repr : mg "repr" = none
  n_max : mg "max" = none
  n_min : mg "min" = none
  n_str : mg "str" = none
  n_bool : mg "bool" = none
  n_zip : mg "zip" = none
theorem tx_of {K : PySem.W.Frag} {h : Heap} {mg : Str → Option Value} {fa : Addr} (X : K.In h) (G : h.Ns mainGlobals mg) (hfa : mg "law" = some (.ref fa))
    {C_Look : Addr}
    {f_is_name : Addr} {od_is_name an_is_name : Option Addr} {sl_is_name : Array (Option Value)} {oc_is_name kV_is_name dc_is_name pm_is_name cd_is_name ct_is_name : Value}
    {f_is_filled_tuple : Addr} {od_is_filled_tuple an_is_filled_tuple : Option Addr} {sl_is_filled_tuple : Array (Option Value)} {oc_is_filled_tuple kV_is_filled_tuple dc_is_filled_tuple pm_is_filled_tuple cd_is_filled_tuple ct_is_filled_tuple : Value}
    {f_is_one_of : Addr} {od_is_one_of an_is_one_of : Option Addr} {sl_is_one_of : Array (Option Value)} {oc_is_one_of kV_is_one_of dc_is_one_of pm_is_one_of cd_is_one_of ct_is_one_of : Value}
    {f_first_wrong_of_names : Addr} {od_first_wrong_of_names an_first_wrong_of_names : Option Addr} {sl_first_wrong_of_names : Array (Option Value)} {oc_first_wrong_of_names kV_first_wrong_of_names dc_first_wrong_of_names pm_first_wrong_of_names cd_first_wrong_of_names ct_first_wrong_of_names : Value}
    {dT_first_wrong_of_names : Addr} {dtc_first_wrong_of_names : Value} {dtd_first_wrong_of_names : Option Addr} {dts_first_wrong_of_names : Array (Option Value)} {dtn_first_wrong_of_names : Nat} {dk0_first_wrong_of_names : Tok}
    {f_first_wrong_on_menu : Addr} {od_first_wrong_on_menu an_first_wrong_on_menu : Option Addr} {sl_first_wrong_on_menu : Array (Option Value)} {oc_first_wrong_on_menu kV_first_wrong_on_menu dc_first_wrong_on_menu pm_first_wrong_on_menu cd_first_wrong_on_menu ct_first_wrong_on_menu : Value}
    {f_check_names_of_menu : Addr} {od_check_names_of_menu an_check_names_of_menu : Option Addr} {sl_check_names_of_menu : Array (Option Value)} {oc_check_names_of_menu kV_check_names_of_menu dc_check_names_of_menu pm_check_names_of_menu cd_check_names_of_menu ct_check_names_of_menu : Value}
    {f_check_taken : Addr} {od_check_taken an_check_taken : Option Addr} {sl_check_taken : Array (Option Value)} {oc_check_taken kV_check_taken dc_check_taken pm_check_taken cd_check_taken ct_check_taken : Value}
    {f_check_thing : Addr} {od_check_thing an_check_thing : Option Addr} {sl_check_thing : Array (Option Value)} {oc_check_thing kV_check_thing dc_check_thing pm_check_thing cd_check_thing ct_check_thing : Value}
    {f_index_of : Addr} {od_index_of an_index_of : Option Addr} {sl_index_of : Array (Option Value)} {oc_index_of kV_index_of dc_index_of pm_index_of cd_index_of ct_index_of : Value}
    {f_are_marks : Addr} {od_are_marks an_are_marks : Option Addr} {sl_are_marks : Array (Option Value)} {oc_are_marks kV_are_marks dc_are_marks pm_are_marks cd_are_marks ct_are_marks : Value}
    {f_look_at_just : Addr} {od_look_at_just an_look_at_just : Option Addr} {sl_look_at_just : Array (Option Value)} {oc_look_at_just kV_look_at_just dc_look_at_just pm_look_at_just cd_look_at_just ct_look_at_just : Value}
    {f_LookD_initD : Addr} {od_LookD_initD an_LookD_initD : Option Addr} {sl_LookD_initD : Array (Option Value)} {oc_LookD_initD kV_LookD_initD dc_LookD_initD pm_LookD_initD cd_LookD_initD ct_LookD_initD : Value}
    {f_Look_read : Addr} {od_Look_read an_Look_read : Option Addr} {sl_Look_read : Array (Option Value)} {oc_Look_read kV_Look_read dc_Look_read pm_Look_read cd_Look_read ct_Look_read : Value}
    {q_Look_read : Addr} {rest_Look_read : List Value}
    {f_Look_just : Addr} {od_Look_just an_Look_just : Option Addr} {sl_Look_just : Array (Option Value)} {oc_Look_just kV_Look_just dc_Look_just pm_Look_just cd_Look_just ct_Look_just : Value}
    {q_Look_just : Addr} {rest_Look_just : List Value}
    {f_Look_marks : Addr} {od_Look_marks an_Look_marks : Option Addr} {sl_Look_marks : Array (Option Value)} {oc_Look_marks kV_Look_marks dc_Look_marks pm_Look_marks cd_Look_marks ct_Look_marks : Value}
    {q_Look_marks : Addr} {rest_Look_marks : List Value}
    {f_Look_taken : Addr} {od_Look_taken an_Look_taken : Option Addr} {sl_Look_taken : Array (Option Value)} {oc_Look_taken kV_Look_taken dc_Look_taken pm_Look_taken cd_Look_taken ct_Look_taken : Value}
    {q_Look_taken : Addr} {rest_Look_taken : List Value}
    {f_Look_passed : Addr} {od_Look_passed an_Look_passed : Option Addr} {sl_Look_passed : Array (Option Value)} {oc_Look_passed kV_Look_passed dc_Look_passed pm_Look_passed cd_Look_passed ct_Look_passed : Value}
    {q_Look_passed : Addr} {rest_Look_passed : List Value}
    {f_LookD_getitemD : Addr} {od_LookD_getitemD an_LookD_getitemD : Option Addr} {sl_LookD_getitemD : Array (Option Value)} {oc_LookD_getitemD kV_LookD_getitemD dc_LookD_getitemD pm_LookD_getitemD cd_LookD_getitemD ct_LookD_getitemD : Value}
    {f_LookD_lenD : Addr} {od_LookD_lenD an_LookD_lenD : Option Addr} {sl_LookD_lenD : Array (Option Value)} {oc_LookD_lenD kV_LookD_lenD dc_LookD_lenD pm_LookD_lenD cd_LookD_lenD ct_LookD_lenD : Value}
    {f_LookD_strD : Addr} {od_LookD_strD an_LookD_strD : Option Addr} {sl_LookD_strD : Array (Option Value)} {oc_LookD_strD kV_LookD_strD dc_LookD_strD pm_LookD_strD cd_LookD_strD ct_LookD_strD : Value}
    {f_LookD_reprD : Addr} {od_LookD_reprD an_LookD_reprD : Option Addr} {sl_LookD_reprD : Array (Option Value)} {oc_LookD_reprD kV_LookD_reprD dc_LookD_reprD pm_LookD_reprD cd_LookD_reprD ct_LookD_reprD : Value}
    {f_LookD_eqD : Addr} {od_LookD_eqD an_LookD_eqD : Option Addr} {sl_LookD_eqD : Array (Option Value)} {oc_LookD_eqD kV_LookD_eqD dc_LookD_eqD pm_LookD_eqD cd_LookD_eqD ct_LookD_eqD : Value}
    {f_l_urn : Addr} {od_l_urn an_l_urn : Option Addr} {sl_l_urn : Array (Option Value)} {oc_l_urn kV_l_urn dc_l_urn pm_l_urn cd_l_urn ct_l_urn : Value}
    {f_l_draw : Addr} {od_l_draw an_l_draw : Option Addr} {sl_l_draw : Array (Option Value)} {oc_l_draw kV_l_draw dc_l_draw pm_l_draw cd_l_draw ct_l_draw : Value}
    {f_l_name : Addr} {od_l_name an_l_name : Option Addr} {sl_l_name : Array (Option Value)} {oc_l_name kV_l_name dc_l_name pm_l_name cd_l_name ct_l_name : Value}
    {f_l_names : Addr} {od_l_names an_l_names : Option Addr} {sl_l_names : Array (Option Value)} {oc_l_names kV_l_names dc_l_names pm_l_names cd_l_names ct_l_names : Value}
    {f_l_marks : Addr} {od_l_marks an_l_marks : Option Addr} {sl_l_marks : Array (Option Value)} {oc_l_marks kV_l_marks dc_l_marks pm_l_marks cd_l_marks ct_l_marks : Value}
    {f_l_text : Addr} {od_l_text an_l_text : Option Addr} {sl_l_text : Array (Option Value)} {oc_l_text kV_l_text dc_l_text pm_l_text cd_l_text ct_l_text : Value}
    {f_l_is : Addr} {od_l_is an_l_is : Option Addr} {sl_l_is : Array (Option Value)} {oc_l_is kV_l_is dc_l_is pm_l_is cd_l_is ct_l_is : Value}
    {f_l_others : Addr} {od_l_others an_l_others : Option Addr} {sl_l_others : Array (Option Value)} {oc_l_others kV_l_others dc_l_others pm_l_others cd_l_others ct_l_others : Value}
    {f_l_right : Addr} {od_l_right an_l_right : Option Addr} {sl_l_right : Array (Option Value)} {oc_l_right kV_l_right dc_l_right pm_l_right cd_l_right ct_l_right : Value}
    {f_law : Addr} {od_law an_law : Option Addr} {sl_law : Array (Option Value)} {oc_law kV_law dc_law pm_law cd_law ct_law : Value}
    {t_MOST_THINGS : Tok}
    {t_LETTERS : Tok}
    {t_DIGITS : Tok}
    {t_LONGEST_NAME : Tok}
    {t_MARKS : Tok}
    (cg_Look : PySem.W.nsIn K mainGlobals "Look" = some (some (.ref C_Look)))
    (cp_Look : PySem.W.plainGet K C_Look Str.empty = true)
    (ch_Look : PySem.W.hasDictIn K C_Look = true)
    (co_Look : PySem.W.plainOver K C_Look = true)
    (cs_Look : PySem.W.findIn K (.ref C_Look) "__setattr__" = some (some (.builtin "object.__setattr__")))
    (cm_Look : PySem.W.makesIn K C_Look = true)
    (ck_Look : PySem.W.keepIn K (.ref C_Look) = true)
    (cne_Look : PySem.W.findIn K (.ref C_Look) "__ne__" = some (some (.builtin "object.__ne__")))
    (cob_Look : PySem.W.mroIn K C_Look (.type "object") = some true)
    (cca_Look : PySem.W.findIn K (.ref C_Look) "__class__" = some (some (.builtin "object.__class__")))
    (ccb_Look : PySem.W.specialIn K (.builtin "object.__class__") "__get__" = some (some (.builtin "getset_descriptor.__get__")))
    (ccc_Look : PySem.W.takesIn K (.builtin "object.__class__") = some true)
    (cbo_Look : PySem.W.findIn K (.ref C_Look) "__bool__" = some none)
    (cfm_Look : PySem.W.findIn K (.ref C_Look) "__format__" = some (some (.builtin "object.__format__")))
    (crd_Look : PySem.W.readsIn K C_Look (.type "type") = true)
    (cty_Look : PySem.W.typeIn K (.ref C_Look) = some (.type "type"))
    (cga_Look : PySem.W.specialIn K (.ref C_Look) "__getattribute__" = some (some (.builtin "type.__getattribute__")))
    (cn_Look_menu : PySem.W.findIn K (.ref C_Look) "menu" = some none)
    (cn_Look__marks : PySem.W.findIn K (.ref C_Look) "_marks" = some none)
    (a_is_name : PySem.W.nsIn K mainGlobals "is_name" = some (some (.ref f_is_name)))
    (l_is_name : K.lookup f_is_name = some ⟨oc_is_name, od_is_name, .func (PySem.W.fnOf "is_name" "is_name" (defArgs st_is_name) (defBody st_is_name) (defScope st_is_name) .none kV_is_name dc_is_name pm_is_name an_is_name cd_is_name ct_is_name), sl_is_name⟩)
    (c_is_name : PySem.W.codeIn K cd_is_name "is_name" = true)
    (k_is_name : PySem.W.keepIn K (.ref f_is_name) = true)
    (a_is_filled_tuple : PySem.W.nsIn K mainGlobals "is_filled_tuple" = some (some (.ref f_is_filled_tuple)))
    (l_is_filled_tuple : K.lookup f_is_filled_tuple = some ⟨oc_is_filled_tuple, od_is_filled_tuple, .func (PySem.W.fnOf "is_filled_tuple" "is_filled_tuple" (defArgs st_is_filled_tuple) (defBody st_is_filled_tuple) (defScope st_is_filled_tuple) .none kV_is_filled_tuple dc_is_filled_tuple pm_is_filled_tuple an_is_filled_tuple cd_is_filled_tuple ct_is_filled_tuple), sl_is_filled_tuple⟩)
    (c_is_filled_tuple : PySem.W.codeIn K cd_is_filled_tuple "is_filled_tuple" = true)
    (k_is_filled_tuple : PySem.W.keepIn K (.ref f_is_filled_tuple) = true)
    (a_is_one_of : PySem.W.nsIn K mainGlobals "is_one_of" = some (some (.ref f_is_one_of)))
    (l_is_one_of : K.lookup f_is_one_of = some ⟨oc_is_one_of, od_is_one_of, .func (PySem.W.fnOf "is_one_of" "is_one_of" (defArgs st_is_one_of) (defBody st_is_one_of) (defScope st_is_one_of) .none kV_is_one_of dc_is_one_of pm_is_one_of an_is_one_of cd_is_one_of ct_is_one_of), sl_is_one_of⟩)
    (c_is_one_of : PySem.W.codeIn K cd_is_one_of "is_one_of" = true)
    (k_is_one_of : PySem.W.keepIn K (.ref f_is_one_of) = true)
    (a_first_wrong_of_names : PySem.W.nsIn K mainGlobals "first_wrong_of_names" = some (some (.ref f_first_wrong_of_names)))
    (l_first_wrong_of_names : K.lookup f_first_wrong_of_names = some ⟨oc_first_wrong_of_names, od_first_wrong_of_names, .func (PySem.W.fnOf "first_wrong_of_names" "first_wrong_of_names" (defArgs st_first_wrong_of_names) (defBody st_first_wrong_of_names) (defScope st_first_wrong_of_names) (.ref dT_first_wrong_of_names) kV_first_wrong_of_names dc_first_wrong_of_names pm_first_wrong_of_names an_first_wrong_of_names cd_first_wrong_of_names ct_first_wrong_of_names), sl_first_wrong_of_names⟩)
    (tb_d_first_wrong_of_names : K.lookup dT_first_wrong_of_names = some ⟨dtc_first_wrong_of_names, dtd_first_wrong_of_names, .seq #[.int 10 dk0_first_wrong_of_names] dtn_first_wrong_of_names, dts_first_wrong_of_names⟩)
    (c_first_wrong_of_names : PySem.W.codeIn K cd_first_wrong_of_names "first_wrong_of_names" = true)
    (k_first_wrong_of_names : PySem.W.keepIn K (.ref f_first_wrong_of_names) = true)
    (a_first_wrong_on_menu : PySem.W.nsIn K mainGlobals "first_wrong_on_menu" = some (some (.ref f_first_wrong_on_menu)))
    (l_first_wrong_on_menu : K.lookup f_first_wrong_on_menu = some ⟨oc_first_wrong_on_menu, od_first_wrong_on_menu, .func (PySem.W.fnOf "first_wrong_on_menu" "first_wrong_on_menu" (defArgs st_first_wrong_on_menu) (defBody st_first_wrong_on_menu) (defScope st_first_wrong_on_menu) .none kV_first_wrong_on_menu dc_first_wrong_on_menu pm_first_wrong_on_menu an_first_wrong_on_menu cd_first_wrong_on_menu ct_first_wrong_on_menu), sl_first_wrong_on_menu⟩)
    (c_first_wrong_on_menu : PySem.W.codeIn K cd_first_wrong_on_menu "first_wrong_on_menu" = true)
    (k_first_wrong_on_menu : PySem.W.keepIn K (.ref f_first_wrong_on_menu) = true)
    (a_check_names_of_menu : PySem.W.nsIn K mainGlobals "check_names_of_menu" = some (some (.ref f_check_names_of_menu)))
    (l_check_names_of_menu : K.lookup f_check_names_of_menu = some ⟨oc_check_names_of_menu, od_check_names_of_menu, .func (PySem.W.fnOf "check_names_of_menu" "check_names_of_menu" (defArgs st_check_names_of_menu) (defBody st_check_names_of_menu) (defScope st_check_names_of_menu) .none kV_check_names_of_menu dc_check_names_of_menu pm_check_names_of_menu an_check_names_of_menu cd_check_names_of_menu ct_check_names_of_menu), sl_check_names_of_menu⟩)
    (c_check_names_of_menu : PySem.W.codeIn K cd_check_names_of_menu "check_names_of_menu" = true)
    (k_check_names_of_menu : PySem.W.keepIn K (.ref f_check_names_of_menu) = true)
    (a_check_taken : PySem.W.nsIn K mainGlobals "check_taken" = some (some (.ref f_check_taken)))
    (l_check_taken : K.lookup f_check_taken = some ⟨oc_check_taken, od_check_taken, .func (PySem.W.fnOf "check_taken" "check_taken" (defArgs st_check_taken) (defBody st_check_taken) (defScope st_check_taken) .none kV_check_taken dc_check_taken pm_check_taken an_check_taken cd_check_taken ct_check_taken), sl_check_taken⟩)
    (c_check_taken : PySem.W.codeIn K cd_check_taken "check_taken" = true)
    (k_check_taken : PySem.W.keepIn K (.ref f_check_taken) = true)
    (a_check_thing : PySem.W.nsIn K mainGlobals "check_thing" = some (some (.ref f_check_thing)))
    (l_check_thing : K.lookup f_check_thing = some ⟨oc_check_thing, od_check_thing, .func (PySem.W.fnOf "check_thing" "check_thing" (defArgs st_check_thing) (defBody st_check_thing) (defScope st_check_thing) .none kV_check_thing dc_check_thing pm_check_thing an_check_thing cd_check_thing ct_check_thing), sl_check_thing⟩)
    (c_check_thing : PySem.W.codeIn K cd_check_thing "check_thing" = true)
    (k_check_thing : PySem.W.keepIn K (.ref f_check_thing) = true)
    (a_index_of : PySem.W.nsIn K mainGlobals "index_of" = some (some (.ref f_index_of)))
    (l_index_of : K.lookup f_index_of = some ⟨oc_index_of, od_index_of, .func (PySem.W.fnOf "index_of" "index_of" (defArgs st_index_of) (defBody st_index_of) (defScope st_index_of) .none kV_index_of dc_index_of pm_index_of an_index_of cd_index_of ct_index_of), sl_index_of⟩)
    (c_index_of : PySem.W.codeIn K cd_index_of "index_of" = true)
    (k_index_of : PySem.W.keepIn K (.ref f_index_of) = true)
    (a_are_marks : PySem.W.nsIn K mainGlobals "are_marks" = some (some (.ref f_are_marks)))
    (l_are_marks : K.lookup f_are_marks = some ⟨oc_are_marks, od_are_marks, .func (PySem.W.fnOf "are_marks" "are_marks" (defArgs st_are_marks) (defBody st_are_marks) (defScope st_are_marks) .none kV_are_marks dc_are_marks pm_are_marks an_are_marks cd_are_marks ct_are_marks), sl_are_marks⟩)
    (c_are_marks : PySem.W.codeIn K cd_are_marks "are_marks" = true)
    (k_are_marks : PySem.W.keepIn K (.ref f_are_marks) = true)
    (a_look_at_just : PySem.W.nsIn K mainGlobals "look_at_just" = some (some (.ref f_look_at_just)))
    (l_look_at_just : K.lookup f_look_at_just = some ⟨oc_look_at_just, od_look_at_just, .func (PySem.W.fnOf "look_at_just" "look_at_just" (defArgs st_look_at_just) (defBody st_look_at_just) (defScope st_look_at_just) .none kV_look_at_just dc_look_at_just pm_look_at_just an_look_at_just cd_look_at_just ct_look_at_just), sl_look_at_just⟩)
    (c_look_at_just : PySem.W.codeIn K cd_look_at_just "look_at_just" = true)
    (k_look_at_just : PySem.W.keepIn K (.ref f_look_at_just) = true)
    (a_LookD_initD : PySem.W.findIn K (.ref C_Look) "__init__" = some (some (.ref f_LookD_initD)))
    (i_LookD_initD : PySem.W.isFn K (.ref f_LookD_initD) = true)
    (l_LookD_initD : K.lookup f_LookD_initD = some ⟨oc_LookD_initD, od_LookD_initD, .func (PySem.W.fnOf "__init__" "Look.__init__" (defArgs st_LookD_initD) (defBody st_LookD_initD) (defScope st_LookD_initD) .none kV_LookD_initD dc_LookD_initD pm_LookD_initD an_LookD_initD cd_LookD_initD ct_LookD_initD), sl_LookD_initD⟩)
    (c_LookD_initD : PySem.W.codeIn K cd_LookD_initD "Look.__init__" = true)
    (k_LookD_initD : PySem.W.keepIn K (.ref f_LookD_initD) = true)
    (a_Look_read : PySem.W.findCls K (.ref C_Look) (.type "type") "read" = some (.get (.builtin "classmethod.__get__") (.ref q_Look_read) .none (.ref C_Look)))
    (pr_Look_read : PySem.W.recIn K q_Look_read "classmethod" = some (.ref f_Look_read :: rest_Look_read))
    (fi_Look_read : PySem.W.fnIn K f_Look_read = true)
    (l_Look_read : K.lookup f_Look_read = some ⟨oc_Look_read, od_Look_read, .func (PySem.W.fnOf "read" "Look.read" (defArgs st_Look_read) (defBody st_Look_read) (defScope st_Look_read) .none kV_Look_read dc_Look_read pm_Look_read an_Look_read cd_Look_read ct_Look_read), sl_Look_read⟩)
    (c_Look_read : PySem.W.codeIn K cd_Look_read "Look.read" = true)
    (k_Look_read : PySem.W.keepIn K (.ref f_Look_read) = true)
    (a_Look_just : PySem.W.findCls K (.ref C_Look) (.type "type") "just" = some (.get (.builtin "staticmethod.__get__") (.ref q_Look_just) .none (.ref C_Look)))
    (pr_Look_just : PySem.W.recIn K q_Look_just "staticmethod" = some (.ref f_Look_just :: rest_Look_just))
    (l_Look_just : K.lookup f_Look_just = some ⟨oc_Look_just, od_Look_just, .func (PySem.W.fnOf "just" "Look.just" (defArgs st_Look_just) (defBody st_Look_just) (defScope st_Look_just) .none kV_Look_just dc_Look_just pm_Look_just an_Look_just cd_Look_just ct_Look_just), sl_Look_just⟩)
    (c_Look_just : PySem.W.codeIn K cd_Look_just "Look.just" = true)
    (k_Look_just : PySem.W.keepIn K (.ref f_Look_just) = true)
    (a_Look_marks : PySem.W.findIn K (.ref C_Look) "marks" = some (some (.ref q_Look_marks)))
    (pg_Look_marks : PySem.W.specialIn K (.ref q_Look_marks) "__get__" = some (some (.builtin "property.__get__")))
    (pt_Look_marks : PySem.W.takesIn K (.ref q_Look_marks) = some true)
    (pr_Look_marks : PySem.W.recIn K q_Look_marks "property" = some (.ref f_Look_marks :: rest_Look_marks))
    (l_Look_marks : K.lookup f_Look_marks = some ⟨oc_Look_marks, od_Look_marks, .func (PySem.W.fnOf "marks" "Look.marks" (defArgs st_Look_marks) (defBody st_Look_marks) (defScope st_Look_marks) .none kV_Look_marks dc_Look_marks pm_Look_marks an_Look_marks cd_Look_marks ct_Look_marks), sl_Look_marks⟩)
    (c_Look_marks : PySem.W.codeIn K cd_Look_marks "Look.marks" = true)
    (k_Look_marks : PySem.W.keepIn K (.ref f_Look_marks) = true)
    (a_Look_taken : PySem.W.findIn K (.ref C_Look) "taken" = some (some (.ref q_Look_taken)))
    (pg_Look_taken : PySem.W.specialIn K (.ref q_Look_taken) "__get__" = some (some (.builtin "property.__get__")))
    (pt_Look_taken : PySem.W.takesIn K (.ref q_Look_taken) = some true)
    (pr_Look_taken : PySem.W.recIn K q_Look_taken "property" = some (.ref f_Look_taken :: rest_Look_taken))
    (l_Look_taken : K.lookup f_Look_taken = some ⟨oc_Look_taken, od_Look_taken, .func (PySem.W.fnOf "taken" "Look.taken" (defArgs st_Look_taken) (defBody st_Look_taken) (defScope st_Look_taken) .none kV_Look_taken dc_Look_taken pm_Look_taken an_Look_taken cd_Look_taken ct_Look_taken), sl_Look_taken⟩)
    (c_Look_taken : PySem.W.codeIn K cd_Look_taken "Look.taken" = true)
    (k_Look_taken : PySem.W.keepIn K (.ref f_Look_taken) = true)
    (a_Look_passed : PySem.W.findIn K (.ref C_Look) "passed" = some (some (.ref q_Look_passed)))
    (pg_Look_passed : PySem.W.specialIn K (.ref q_Look_passed) "__get__" = some (some (.builtin "property.__get__")))
    (pt_Look_passed : PySem.W.takesIn K (.ref q_Look_passed) = some true)
    (pr_Look_passed : PySem.W.recIn K q_Look_passed "property" = some (.ref f_Look_passed :: rest_Look_passed))
    (l_Look_passed : K.lookup f_Look_passed = some ⟨oc_Look_passed, od_Look_passed, .func (PySem.W.fnOf "passed" "Look.passed" (defArgs st_Look_passed) (defBody st_Look_passed) (defScope st_Look_passed) .none kV_Look_passed dc_Look_passed pm_Look_passed an_Look_passed cd_Look_passed ct_Look_passed), sl_Look_passed⟩)
    (c_Look_passed : PySem.W.codeIn K cd_Look_passed "Look.passed" = true)
    (k_Look_passed : PySem.W.keepIn K (.ref f_Look_passed) = true)
    (a_LookD_getitemD : PySem.W.findIn K (.ref C_Look) "__getitem__" = some (some (.ref f_LookD_getitemD)))
    (i_LookD_getitemD : PySem.W.isFn K (.ref f_LookD_getitemD) = true)
    (fi_LookD_getitemD : PySem.W.fnIn K f_LookD_getitemD = true)
    (l_LookD_getitemD : K.lookup f_LookD_getitemD = some ⟨oc_LookD_getitemD, od_LookD_getitemD, .func (PySem.W.fnOf "__getitem__" "Look.__getitem__" (defArgs st_LookD_getitemD) (defBody st_LookD_getitemD) (defScope st_LookD_getitemD) .none kV_LookD_getitemD dc_LookD_getitemD pm_LookD_getitemD an_LookD_getitemD cd_LookD_getitemD ct_LookD_getitemD), sl_LookD_getitemD⟩)
    (c_LookD_getitemD : PySem.W.codeIn K cd_LookD_getitemD "Look.__getitem__" = true)
    (k_LookD_getitemD : PySem.W.keepIn K (.ref f_LookD_getitemD) = true)
    (a_LookD_lenD : PySem.W.findIn K (.ref C_Look) "__len__" = some (some (.ref f_LookD_lenD)))
    (i_LookD_lenD : PySem.W.isFn K (.ref f_LookD_lenD) = true)
    (l_LookD_lenD : K.lookup f_LookD_lenD = some ⟨oc_LookD_lenD, od_LookD_lenD, .func (PySem.W.fnOf "__len__" "Look.__len__" (defArgs st_LookD_lenD) (defBody st_LookD_lenD) (defScope st_LookD_lenD) .none kV_LookD_lenD dc_LookD_lenD pm_LookD_lenD an_LookD_lenD cd_LookD_lenD ct_LookD_lenD), sl_LookD_lenD⟩)
    (c_LookD_lenD : PySem.W.codeIn K cd_LookD_lenD "Look.__len__" = true)
    (k_LookD_lenD : PySem.W.keepIn K (.ref f_LookD_lenD) = true)
    (a_LookD_strD : PySem.W.findIn K (.ref C_Look) "__str__" = some (some (.ref f_LookD_strD)))
    (i_LookD_strD : PySem.W.isFn K (.ref f_LookD_strD) = true)
    (l_LookD_strD : K.lookup f_LookD_strD = some ⟨oc_LookD_strD, od_LookD_strD, .func (PySem.W.fnOf "__str__" "Look.__str__" (defArgs st_LookD_strD) (defBody st_LookD_strD) (defScope st_LookD_strD) .none kV_LookD_strD dc_LookD_strD pm_LookD_strD an_LookD_strD cd_LookD_strD ct_LookD_strD), sl_LookD_strD⟩)
    (c_LookD_strD : PySem.W.codeIn K cd_LookD_strD "Look.__str__" = true)
    (k_LookD_strD : PySem.W.keepIn K (.ref f_LookD_strD) = true)
    (a_LookD_reprD : PySem.W.findIn K (.ref C_Look) "__repr__" = some (some (.ref f_LookD_reprD)))
    (i_LookD_reprD : PySem.W.isFn K (.ref f_LookD_reprD) = true)
    (l_LookD_reprD : K.lookup f_LookD_reprD = some ⟨oc_LookD_reprD, od_LookD_reprD, .func (PySem.W.fnOf "__repr__" "Look.__repr__" (defArgs st_LookD_reprD) (defBody st_LookD_reprD) (defScope st_LookD_reprD) .none kV_LookD_reprD dc_LookD_reprD pm_LookD_reprD an_LookD_reprD cd_LookD_reprD ct_LookD_reprD), sl_LookD_reprD⟩)
    (c_LookD_reprD : PySem.W.codeIn K cd_LookD_reprD "Look.__repr__" = true)
    (k_LookD_reprD : PySem.W.keepIn K (.ref f_LookD_reprD) = true)
    (a_LookD_eqD : PySem.W.findIn K (.ref C_Look) "__eq__" = some (some (.ref f_LookD_eqD)))
    (i_LookD_eqD : PySem.W.isFn K (.ref f_LookD_eqD) = true)
    (l_LookD_eqD : K.lookup f_LookD_eqD = some ⟨oc_LookD_eqD, od_LookD_eqD, .func (PySem.W.fnOf "__eq__" "Look.__eq__" (defArgs st_LookD_eqD) (defBody st_LookD_eqD) (defScope st_LookD_eqD) .none kV_LookD_eqD dc_LookD_eqD pm_LookD_eqD an_LookD_eqD cd_LookD_eqD ct_LookD_eqD), sl_LookD_eqD⟩)
    (c_LookD_eqD : PySem.W.codeIn K cd_LookD_eqD "Look.__eq__" = true)
    (k_LookD_eqD : PySem.W.keepIn K (.ref f_LookD_eqD) = true)
    (a_l_urn : PySem.W.nsIn K mainGlobals "_law_urn" = some (some (.ref f_l_urn)))
    (l_l_urn : K.lookup f_l_urn = some ⟨oc_l_urn, od_l_urn, .func (PySem.W.fnOf "_law_urn" "_law_urn" (defArgs st_l_urn) (defBody st_l_urn) (defScope st_l_urn) .none kV_l_urn dc_l_urn pm_l_urn an_l_urn cd_l_urn ct_l_urn), sl_l_urn⟩)
    (c_l_urn : PySem.W.codeIn K cd_l_urn "_law_urn" = true)
    (k_l_urn : PySem.W.keepIn K (.ref f_l_urn) = true)
    (a_l_draw : PySem.W.nsIn K mainGlobals "_law_draw" = some (some (.ref f_l_draw)))
    (l_l_draw : K.lookup f_l_draw = some ⟨oc_l_draw, od_l_draw, .func (PySem.W.fnOf "_law_draw" "_law_draw" (defArgs st_l_draw) (defBody st_l_draw) (defScope st_l_draw) .none kV_l_draw dc_l_draw pm_l_draw an_l_draw cd_l_draw ct_l_draw), sl_l_draw⟩)
    (c_l_draw : PySem.W.codeIn K cd_l_draw "_law_draw" = true)
    (k_l_draw : PySem.W.keepIn K (.ref f_l_draw) = true)
    (a_l_name : PySem.W.nsIn K mainGlobals "_law_name" = some (some (.ref f_l_name)))
    (l_l_name : K.lookup f_l_name = some ⟨oc_l_name, od_l_name, .func (PySem.W.fnOf "_law_name" "_law_name" (defArgs st_l_name) (defBody st_l_name) (defScope st_l_name) .none kV_l_name dc_l_name pm_l_name an_l_name cd_l_name ct_l_name), sl_l_name⟩)
    (c_l_name : PySem.W.codeIn K cd_l_name "_law_name" = true)
    (k_l_name : PySem.W.keepIn K (.ref f_l_name) = true)
    (a_l_names : PySem.W.nsIn K mainGlobals "_law_names" = some (some (.ref f_l_names)))
    (l_l_names : K.lookup f_l_names = some ⟨oc_l_names, od_l_names, .func (PySem.W.fnOf "_law_names" "_law_names" (defArgs st_l_names) (defBody st_l_names) (defScope st_l_names) .none kV_l_names dc_l_names pm_l_names an_l_names cd_l_names ct_l_names), sl_l_names⟩)
    (c_l_names : PySem.W.codeIn K cd_l_names "_law_names" = true)
    (k_l_names : PySem.W.keepIn K (.ref f_l_names) = true)
    (a_l_marks : PySem.W.nsIn K mainGlobals "_law_marks" = some (some (.ref f_l_marks)))
    (l_l_marks : K.lookup f_l_marks = some ⟨oc_l_marks, od_l_marks, .func (PySem.W.fnOf "_law_marks" "_law_marks" (defArgs st_l_marks) (defBody st_l_marks) (defScope st_l_marks) .none kV_l_marks dc_l_marks pm_l_marks an_l_marks cd_l_marks ct_l_marks), sl_l_marks⟩)
    (c_l_marks : PySem.W.codeIn K cd_l_marks "_law_marks" = true)
    (k_l_marks : PySem.W.keepIn K (.ref f_l_marks) = true)
    (a_l_text : PySem.W.nsIn K mainGlobals "_law_text" = some (some (.ref f_l_text)))
    (l_l_text : K.lookup f_l_text = some ⟨oc_l_text, od_l_text, .func (PySem.W.fnOf "_law_text" "_law_text" (defArgs st_l_text) (defBody st_l_text) (defScope st_l_text) .none kV_l_text dc_l_text pm_l_text an_l_text cd_l_text ct_l_text), sl_l_text⟩)
    (c_l_text : PySem.W.codeIn K cd_l_text "_law_text" = true)
    (k_l_text : PySem.W.keepIn K (.ref f_l_text) = true)
    (a_l_is : PySem.W.nsIn K mainGlobals "_law_is" = some (some (.ref f_l_is)))
    (l_l_is : K.lookup f_l_is = some ⟨oc_l_is, od_l_is, .func (PySem.W.fnOf "_law_is" "_law_is" (defArgs st_l_is) (defBody st_l_is) (defScope st_l_is) .none kV_l_is dc_l_is pm_l_is an_l_is cd_l_is ct_l_is), sl_l_is⟩)
    (c_l_is : PySem.W.codeIn K cd_l_is "_law_is" = true)
    (k_l_is : PySem.W.keepIn K (.ref f_l_is) = true)
    (a_l_others : PySem.W.nsIn K mainGlobals "_law_others" = some (some (.ref f_l_others)))
    (l_l_others : K.lookup f_l_others = some ⟨oc_l_others, od_l_others, .func (PySem.W.fnOf "_law_others" "_law_others" (defArgs st_l_others) (defBody st_l_others) (defScope st_l_others) .none kV_l_others dc_l_others pm_l_others an_l_others cd_l_others ct_l_others), sl_l_others⟩)
    (c_l_others : PySem.W.codeIn K cd_l_others "_law_others" = true)
    (k_l_others : PySem.W.keepIn K (.ref f_l_others) = true)
    (a_l_right : PySem.W.nsIn K mainGlobals "_law_right" = some (some (.ref f_l_right)))
    (l_l_right : K.lookup f_l_right = some ⟨oc_l_right, od_l_right, .func (PySem.W.fnOf "_law_right" "_law_right" (defArgs st_l_right) (defBody st_l_right) (defScope st_l_right) .none kV_l_right dc_l_right pm_l_right an_l_right cd_l_right ct_l_right), sl_l_right⟩)
    (c_l_right : PySem.W.codeIn K cd_l_right "_law_right" = true)
    (k_l_right : PySem.W.keepIn K (.ref f_l_right) = true)
    (a_law : PySem.W.nsIn K mainGlobals "law" = some (some (.ref f_law)))
    (l_law : K.lookup f_law = some ⟨oc_law, od_law, .func (PySem.W.fnOf "law" "law" (defArgs st_law) (defBody st_law) (defScope st_law) .none kV_law dc_law pm_law an_law cd_law ct_law), sl_law⟩)
    (c_law : PySem.W.codeIn K cd_law "law" = true)
    (k_law : PySem.W.keepIn K (.ref f_law) = true)
    (v_MOST_THINGS : PySem.W.nsIn K mainGlobals "MOST_THINGS" = some (some (.int 10 t_MOST_THINGS)))
    (v_LETTERS : PySem.W.nsIn K mainGlobals "LETTERS" = some (some (.str "abcdefghijklmnopqrstuvwxyz" t_LETTERS)))
    (v_DIGITS : PySem.W.nsIn K mainGlobals "DIGITS" = some (some (.str "0123456789" t_DIGITS)))
    (v_LONGEST_NAME : PySem.W.nsIn K mainGlobals "LONGEST_NAME" = some (some (.int 8 t_LONGEST_NAME)))
    (v_MARKS : PySem.W.nsIn K mainGlobals "MARKS" = some (some (.str "+-?" t_MARKS)))
    (z_len : PySem.W.nsIn K mainGlobals "len" = some none)
    (z_isinstance : PySem.W.nsIn K mainGlobals "isinstance" = some none)
    (z_all : PySem.W.nsIn K mainGlobals "all" = some none)
    (z_enumerate : PySem.W.nsIn K mainGlobals "enumerate" = some none)
    (z_tuple : PySem.W.nsIn K mainGlobals "tuple" = some none)
    (z_sorted : PySem.W.nsIn K mainGlobals "sorted" = some none)
    (z_abs : PySem.W.nsIn K mainGlobals "abs" = some none)
    (z_int : PySem.W.nsIn K mainGlobals "int" = some none)
    (z_divmod : PySem.W.nsIn K mainGlobals "divmod" = some none)
    (z_range : PySem.W.nsIn K mainGlobals "range" = some none)
    (z_list : PySem.W.nsIn K mainGlobals "list" = some none)
    (z_repr : PySem.W.nsIn K mainGlobals "repr" = some none)
    (z_max : PySem.W.nsIn K mainGlobals "max" = some none)
    (z_min : PySem.W.nsIn K mainGlobals "min" = some none)
    (z_str : PySem.W.nsIn K mainGlobals "str" = some none)
    (z_bool : PySem.W.nsIn K mainGlobals "bool" = some none)
    (z_zip : PySem.W.nsIn K mainGlobals "zip" = some none) : ∃ T : Tx K mg, T.a_law = fa := by
  have e := hfa.symm.trans (PySem.W.mg_of X G a_law)
  cases e
  exact ⟨{
    C := C_Look
    cl := ⟨cp_Look, ch_Look, co_Look, cs_Look⟩
    g_Look := PySem.W.mg_of X G cg_Look
    ne := cne_Look
    ob := cob_Look
    ty := fun e => .base (.ins e ⟨cp_Look, ch_Look, co_Look, cs_Look⟩ cca_Look ccb_Look ccc_Look cob_Look)
    nobool := cbo_Look
    fm := cfm_Look
    crd := ⟨crd_Look, cga_Look⟩
    cty := cty_Look
    no_menu := cn_Look_menu
    no__marks := cn_Look__marks
    a_is_name := f_is_name
    fd_is_name := _
    F_is_name := fun_mk (st := st_is_name) l_is_name c_is_name k_is_name
    b_is_name := (fun_mk (st := st_is_name) l_is_name c_is_name k_is_name).binds (ps := ["value"]) fun _ _ _ _ _ _ us hl => match us, hl with | [_], _ => rfl
    g_is_name := PySem.W.mg_of X G a_is_name
    a_is_filled_tuple := f_is_filled_tuple
    fd_is_filled_tuple := _
    F_is_filled_tuple := fun_mk (st := st_is_filled_tuple) l_is_filled_tuple c_is_filled_tuple k_is_filled_tuple
    b_is_filled_tuple := (fun_mk (st := st_is_filled_tuple) l_is_filled_tuple c_is_filled_tuple k_is_filled_tuple).binds (ps := ["value"]) fun _ _ _ _ _ _ us hl => match us, hl with | [_], _ => rfl
    g_is_filled_tuple := PySem.W.mg_of X G a_is_filled_tuple
    a_is_one_of := f_is_one_of
    fd_is_one_of := _
    F_is_one_of := fun_mk (st := st_is_one_of) l_is_one_of c_is_one_of k_is_one_of
    b_is_one_of := (fun_mk (st := st_is_one_of) l_is_one_of c_is_one_of k_is_one_of).binds (ps := ["value", "things"]) fun _ _ _ _ _ _ us hl => match us, hl with | [_, _], _ => rfl
    g_is_one_of := PySem.W.mg_of X G a_is_one_of
    a_first_wrong_of_names := f_first_wrong_of_names
    fd_first_wrong_of_names := _
    F_first_wrong_of_names := (fun_mkV (st := st_first_wrong_of_names) (dvs := [V.int 10]) (its := [.int 10 dk0_first_wrong_of_names]) l_first_wrong_of_names c_first_wrong_of_names k_first_wrong_of_names tb_d_first_wrong_of_names (.cons ⟨_, rfl⟩ .nil))
    b_first_wrong_of_names := (fun_mkV (st := st_first_wrong_of_names) (dvs := [V.int 10]) (its := [.int 10 dk0_first_wrong_of_names]) l_first_wrong_of_names c_first_wrong_of_names k_first_wrong_of_names tb_d_first_wrong_of_names (.cons ⟨_, rfl⟩ .nil)).bindA (ps := ["names", "most"]) fun _ _ _ _ _ _ _ us its h1 h2 => match us, its, h1, h2 with | [_, _], [_], _, _ => ⟨_, rfl, rfl⟩
    bd_first_wrong_of_names := (fun_mkV (st := st_first_wrong_of_names) (dvs := [V.int 10]) (its := [.int 10 dk0_first_wrong_of_names]) l_first_wrong_of_names c_first_wrong_of_names k_first_wrong_of_names tb_d_first_wrong_of_names (.cons ⟨_, rfl⟩ .nil)).bindD (ps := ["names", "most"]) 1 0 rfl fun _ _ _ _ _ _ _ us its h1 h2 => match us, its, h1, h2 with | [_], [_], _, _ => ⟨_, rfl, rfl⟩
    g_first_wrong_of_names := PySem.W.mg_of X G a_first_wrong_of_names
    a_first_wrong_on_menu := f_first_wrong_on_menu
    fd_first_wrong_on_menu := _
    F_first_wrong_on_menu := fun_mk (st := st_first_wrong_on_menu) l_first_wrong_on_menu c_first_wrong_on_menu k_first_wrong_on_menu
    b_first_wrong_on_menu := (fun_mk (st := st_first_wrong_on_menu) l_first_wrong_on_menu c_first_wrong_on_menu k_first_wrong_on_menu).binds (ps := ["menu", "things"]) fun _ _ _ _ _ _ us hl => match us, hl with | [_, _], _ => rfl
    g_first_wrong_on_menu := PySem.W.mg_of X G a_first_wrong_on_menu
    a_check_names_of_menu := f_check_names_of_menu
    fd_check_names_of_menu := _
    F_check_names_of_menu := fun_mk (st := st_check_names_of_menu) l_check_names_of_menu c_check_names_of_menu k_check_names_of_menu
    b_check_names_of_menu := (fun_mk (st := st_check_names_of_menu) l_check_names_of_menu c_check_names_of_menu k_check_names_of_menu).binds (ps := ["menu"]) fun _ _ _ _ _ _ us hl => match us, hl with | [_], _ => rfl
    g_check_names_of_menu := PySem.W.mg_of X G a_check_names_of_menu
    a_check_taken := f_check_taken
    fd_check_taken := _
    F_check_taken := fun_mk (st := st_check_taken) l_check_taken c_check_taken k_check_taken
    b_check_taken := (fun_mk (st := st_check_taken) l_check_taken c_check_taken k_check_taken).binds (ps := ["taken", "menu"]) fun _ _ _ _ _ _ us hl => match us, hl with | [_, _], _ => rfl
    g_check_taken := PySem.W.mg_of X G a_check_taken
    a_check_thing := f_check_thing
    fd_check_thing := _
    F_check_thing := fun_mk (st := st_check_thing) l_check_thing c_check_thing k_check_thing
    b_check_thing := (fun_mk (st := st_check_thing) l_check_thing c_check_thing k_check_thing).binds (ps := ["thing", "things"]) fun _ _ _ _ _ _ us hl => match us, hl with | [_, _], _ => rfl
    g_check_thing := PySem.W.mg_of X G a_check_thing
    a_index_of := f_index_of
    fd_index_of := _
    F_index_of := fun_mk (st := st_index_of) l_index_of c_index_of k_index_of
    b_index_of := (fun_mk (st := st_index_of) l_index_of c_index_of k_index_of).binds (ps := ["name", "names"]) fun _ _ _ _ _ _ us hl => match us, hl with | [_, _], _ => rfl
    g_index_of := PySem.W.mg_of X G a_index_of
    a_are_marks := f_are_marks
    fd_are_marks := _
    F_are_marks := fun_mk (st := st_are_marks) l_are_marks c_are_marks k_are_marks
    b_are_marks := (fun_mk (st := st_are_marks) l_are_marks c_are_marks k_are_marks).binds (ps := ["marks", "many"]) fun _ _ _ _ _ _ us hl => match us, hl with | [_, _], _ => rfl
    g_are_marks := PySem.W.mg_of X G a_are_marks
    a_look_at_just := f_look_at_just
    fd_look_at_just := _
    F_look_at_just := fun_mk (st := st_look_at_just) l_look_at_just c_look_at_just k_look_at_just
    b_look_at_just := (fun_mk (st := st_look_at_just) l_look_at_just c_look_at_just k_look_at_just).binds (ps := ["menu", "taken"]) fun _ _ _ _ _ _ us hl => match us, hl with | [_, _], _ => rfl
    g_look_at_just := PySem.W.mg_of X G a_look_at_just
    a_LookD_initD := f_LookD_initD
    fd_LookD_initD := _
    F_LookD_initD := fun_mk (st := st_LookD_initD) l_LookD_initD c_LookD_initD k_LookD_initD
    b_LookD_initD := (fun_mk (st := st_LookD_initD) l_LookD_initD c_LookD_initD k_LookD_initD).binds (ps := ["self", "menu", "marks"]) fun _ _ _ _ _ _ us hl => match us, hl with | [_, _, _], _ => rfl
    mkc := ⟨cm_Look, a_LookD_initD, i_LookD_initD, ck_Look⟩
    a_Look_read := f_Look_read
    fd_Look_read := _
    F_Look_read := fun_mk (st := st_Look_read) l_Look_read c_Look_read k_Look_read
    b_Look_read := (fun_mk (st := st_Look_read) l_Look_read c_Look_read k_Look_read).binds (ps := ["cls", "text"]) fun _ _ _ _ _ _ us hl => match us, hl with | [_, _], _ => rfl
    q_Look_read := q_Look_read
    cm_Look_read := ⟨a_Look_read, ⟨_, pr_Look_read⟩, fi_Look_read⟩
    a_Look_just := f_Look_just
    fd_Look_just := _
    F_Look_just := fun_mk (st := st_Look_just) l_Look_just c_Look_just k_Look_just
    b_Look_just := (fun_mk (st := st_Look_just) l_Look_just c_Look_just k_Look_just).binds (ps := ["menu", "taken"]) fun _ _ _ _ _ _ us hl => match us, hl with | [_, _], _ => rfl
    q_Look_just := q_Look_just
    sm_Look_just := ⟨a_Look_just, ⟨_, pr_Look_just⟩, k_Look_just⟩
    a_Look_marks := f_Look_marks
    fd_Look_marks := _
    F_Look_marks := fun_mk (st := st_Look_marks) l_Look_marks c_Look_marks k_Look_marks
    b_Look_marks := (fun_mk (st := st_Look_marks) l_Look_marks c_Look_marks k_Look_marks).binds (ps := ["self"]) fun _ _ _ _ _ _ us hl => match us, hl with | [_], _ => rfl
    q_Look_marks := q_Look_marks
    p_marks := ⟨a_Look_marks, pg_Look_marks, pt_Look_marks, ⟨_, pr_Look_marks⟩⟩
    a_Look_taken := f_Look_taken
    fd_Look_taken := _
    F_Look_taken := fun_mk (st := st_Look_taken) l_Look_taken c_Look_taken k_Look_taken
    b_Look_taken := (fun_mk (st := st_Look_taken) l_Look_taken c_Look_taken k_Look_taken).binds (ps := ["self"]) fun _ _ _ _ _ _ us hl => match us, hl with | [_], _ => rfl
    q_Look_taken := q_Look_taken
    p_taken := ⟨a_Look_taken, pg_Look_taken, pt_Look_taken, ⟨_, pr_Look_taken⟩⟩
    a_Look_passed := f_Look_passed
    fd_Look_passed := _
    F_Look_passed := fun_mk (st := st_Look_passed) l_Look_passed c_Look_passed k_Look_passed
    b_Look_passed := (fun_mk (st := st_Look_passed) l_Look_passed c_Look_passed k_Look_passed).binds (ps := ["self"]) fun _ _ _ _ _ _ us hl => match us, hl with | [_], _ => rfl
    q_Look_passed := q_Look_passed
    p_passed := ⟨a_Look_passed, pg_Look_passed, pt_Look_passed, ⟨_, pr_Look_passed⟩⟩
    a_LookD_getitemD := f_LookD_getitemD
    fd_LookD_getitemD := _
    F_LookD_getitemD := fun_mk (st := st_LookD_getitemD) l_LookD_getitemD c_LookD_getitemD k_LookD_getitemD
    b_LookD_getitemD := (fun_mk (st := st_LookD_getitemD) l_LookD_getitemD c_LookD_getitemD k_LookD_getitemD).binds (ps := ["self", "at"]) fun _ _ _ _ _ _ us hl => match us, hl with | [_, _], _ => rfl
    fi_LookD_getitemD := fi_LookD_getitemD
    m_LookD_getitemD := ⟨a_LookD_getitemD, i_LookD_getitemD, k_LookD_getitemD⟩
    a_LookD_lenD := f_LookD_lenD
    fd_LookD_lenD := _
    F_LookD_lenD := fun_mk (st := st_LookD_lenD) l_LookD_lenD c_LookD_lenD k_LookD_lenD
    b_LookD_lenD := (fun_mk (st := st_LookD_lenD) l_LookD_lenD c_LookD_lenD k_LookD_lenD).binds (ps := ["self"]) fun _ _ _ _ _ _ us hl => match us, hl with | [_], _ => rfl
    m_LookD_lenD := ⟨a_LookD_lenD, i_LookD_lenD, k_LookD_lenD⟩
    a_LookD_strD := f_LookD_strD
    fd_LookD_strD := _
    F_LookD_strD := fun_mk (st := st_LookD_strD) l_LookD_strD c_LookD_strD k_LookD_strD
    b_LookD_strD := (fun_mk (st := st_LookD_strD) l_LookD_strD c_LookD_strD k_LookD_strD).binds (ps := ["self"]) fun _ _ _ _ _ _ us hl => match us, hl with | [_], _ => rfl
    m_LookD_strD := ⟨a_LookD_strD, i_LookD_strD, k_LookD_strD⟩
    a_LookD_reprD := f_LookD_reprD
    fd_LookD_reprD := _
    F_LookD_reprD := fun_mk (st := st_LookD_reprD) l_LookD_reprD c_LookD_reprD k_LookD_reprD
    b_LookD_reprD := (fun_mk (st := st_LookD_reprD) l_LookD_reprD c_LookD_reprD k_LookD_reprD).binds (ps := ["self"]) fun _ _ _ _ _ _ us hl => match us, hl with | [_], _ => rfl
    m_LookD_reprD := ⟨a_LookD_reprD, i_LookD_reprD, k_LookD_reprD⟩
    a_LookD_eqD := f_LookD_eqD
    fd_LookD_eqD := _
    F_LookD_eqD := fun_mk (st := st_LookD_eqD) l_LookD_eqD c_LookD_eqD k_LookD_eqD
    b_LookD_eqD := (fun_mk (st := st_LookD_eqD) l_LookD_eqD c_LookD_eqD k_LookD_eqD).binds (ps := ["self", "other"]) fun _ _ _ _ _ _ us hl => match us, hl with | [_, _], _ => rfl
    m_LookD_eqD := ⟨a_LookD_eqD, i_LookD_eqD, k_LookD_eqD⟩
    a_l_urn := f_l_urn
    fd_l_urn := _
    F_l_urn := fun_mk (st := st_l_urn) l_l_urn c_l_urn k_l_urn
    b_l_urn := (fun_mk (st := st_l_urn) l_l_urn c_l_urn k_l_urn).binds (ps := ["_law_cells", "_law_k"]) fun _ _ _ _ _ _ us hl => match us, hl with | [_, _], _ => rfl
    g_l_urn := PySem.W.mg_of X G a_l_urn
    a_l_draw := f_l_draw
    fd_l_draw := _
    F_l_draw := fun_mk (st := st_l_draw) l_l_draw c_l_draw k_l_draw
    b_l_draw := (fun_mk (st := st_l_draw) l_l_draw c_l_draw k_l_draw).binds (ps := ["_law_urn_here", "_law_many"]) fun _ _ _ _ _ _ us hl => match us, hl with | [_, _], _ => rfl
    g_l_draw := PySem.W.mg_of X G a_l_draw
    a_l_name := f_l_name
    fd_l_name := _
    F_l_name := fun_mk (st := st_l_name) l_l_name c_l_name k_l_name
    b_l_name := (fun_mk (st := st_l_name) l_l_name c_l_name k_l_name).binds (ps := ["_law_urn_here"]) fun _ _ _ _ _ _ us hl => match us, hl with | [_], _ => rfl
    g_l_name := PySem.W.mg_of X G a_l_name
    a_l_names := f_l_names
    fd_l_names := _
    F_l_names := fun_mk (st := st_l_names) l_l_names c_l_names k_l_names
    b_l_names := (fun_mk (st := st_l_names) l_l_names c_l_names k_l_names).binds (ps := ["_law_urn_here", "_law_many"]) fun _ _ _ _ _ _ us hl => match us, hl with | [_, _], _ => rfl
    g_l_names := PySem.W.mg_of X G a_l_names
    a_l_marks := f_l_marks
    fd_l_marks := _
    F_l_marks := fun_mk (st := st_l_marks) l_l_marks c_l_marks k_l_marks
    b_l_marks := (fun_mk (st := st_l_marks) l_l_marks c_l_marks k_l_marks).binds (ps := ["_law_urn_here", "_law_many"]) fun _ _ _ _ _ _ us hl => match us, hl with | [_, _], _ => rfl
    g_l_marks := PySem.W.mg_of X G a_l_marks
    a_l_text := f_l_text
    fd_l_text := _
    F_l_text := fun_mk (st := st_l_text) l_l_text c_l_text k_l_text
    b_l_text := (fun_mk (st := st_l_text) l_l_text c_l_text k_l_text).binds (ps := ["_law_pair"]) fun _ _ _ _ _ _ us hl => match us, hl with | [_], _ => rfl
    g_l_text := PySem.W.mg_of X G a_l_text
    a_l_is := f_l_is
    fd_l_is := _
    F_l_is := fun_mk (st := st_l_is) l_l_is c_l_is k_l_is
    b_l_is := (fun_mk (st := st_l_is) l_l_is c_l_is k_l_is).binds (ps := ["_law_look", "_law_menu", "_law_signs"]) fun _ _ _ _ _ _ us hl => match us, hl with | [_, _, _], _ => rfl
    g_l_is := PySem.W.mg_of X G a_l_is
    a_l_others := f_l_others
    fd_l_others := _
    F_l_others := fun_mk (st := st_l_others) l_l_others c_l_others k_l_others
    b_l_others := (fun_mk (st := st_l_others) l_l_others c_l_others k_l_others).binds (ps := ["_law_urn_here", "_law_menu", "_law_signs"]) fun _ _ _ _ _ _ us hl => match us, hl with | [_, _, _], _ => rfl
    g_l_others := PySem.W.mg_of X G a_l_others
    a_l_right := f_l_right
    fd_l_right := _
    F_l_right := fun_mk (st := st_l_right) l_l_right c_l_right k_l_right
    b_l_right := (fun_mk (st := st_l_right) l_l_right c_l_right k_l_right).binds (ps := ["_law_urn_here"]) fun _ _ _ _ _ _ us hl => match us, hl with | [_], _ => rfl
    g_l_right := PySem.W.mg_of X G a_l_right
    a_law := fa
    fd_law := _
    F_law := fun_mk (st := st_law) l_law c_law k_law
    b_law := (fun_mk (st := st_law) l_law c_law k_law).binds (ps := ["_law_cells"]) fun _ _ _ _ _ _ us hl => match us, hl with | [_], _ => rfl
    g_law := PySem.W.mg_of X G a_law
    g_MOST_THINGS := ⟨_, PySem.W.mg_of X G v_MOST_THINGS⟩
    g_LETTERS := ⟨_, PySem.W.mg_of X G v_LETTERS⟩
    g_DIGITS := ⟨_, PySem.W.mg_of X G v_DIGITS⟩
    g_LONGEST_NAME := ⟨_, PySem.W.mg_of X G v_LONGEST_NAME⟩
    g_MARKS := ⟨_, PySem.W.mg_of X G v_MARKS⟩
    n_len := PySem.W.mg_none_of X G z_len
    n_isinstance := PySem.W.mg_none_of X G z_isinstance
    n_all := PySem.W.mg_none_of X G z_all
    n_enumerate := PySem.W.mg_none_of X G z_enumerate
    n_tuple := PySem.W.mg_none_of X G z_tuple
    n_sorted := PySem.W.mg_none_of X G z_sorted
    n_abs := PySem.W.mg_none_of X G z_abs
    n_int := PySem.W.mg_none_of X G z_int
    n_divmod := PySem.W.mg_none_of X G z_divmod
    n_range := PySem.W.mg_none_of X G z_range
    n_list := PySem.W.mg_none_of X G z_list
    n_repr := PySem.W.mg_none_of X G z_repr
    n_max := PySem.W.mg_none_of X G z_max
    n_min := PySem.W.mg_none_of X G z_min
    n_str := PySem.W.mg_none_of X G z_str
    n_bool := PySem.W.mg_none_of X G z_bool
    n_zip := PySem.W.mg_none_of X G z_zip }, rfl⟩
end MH
noncomputable section
namespace MHead
open PySem PySem.W PySem.Calls PyProof.Rows HandSHeadRun MN MH
open L2 (defArgs defBody defScope inClass)
abbrev P0 : Program := PySem.Challenge.pw_menuhouses_k45_looks_made_and_read
abbrev R0 : OpenRow := OpenLaw.row PySem.Challenge.rw_menuhouses_k45_looks_made_and_read
def b0 : List Stmt := behindTheImports P0
def env0 : Env := { scope := P0.main.scope, locals := mainNs, globals := mainNs, cells := [], code := (@Value.ref (nat_lit 13)), frame := some (nat_lit 14) }
abbrev c0 : Code := .body b0 env0
abbrev q0 : Pos := (@Pos.mk (nat_lit 0) (nat_lit 0) (nat_lit 0) (nat_lit 0))
def o11 (P : Params) : Obj := (@Obj.mk (@Value.type "tuple") none (@Data.seq (.mk []) (nat_lit 0)) (.mk []))
def o12 (P : Params) : Obj := (@Obj.mk Value.none none (@Data.fields (.mk [])) (.mk []))
def o13 (P : Params) : Obj := (@Obj.mk (@Value.type "code") none (@Data.fields (.mk [(@Value.str (@Str.ofString "<module>") (nat_lit 182)), (@Value.str (@Str.ofString "<module>") (nat_lit 183)), (@Value.str (@Str.ofString "/claim/cut.py") (nat_lit 184)), (@Value.int (.ofNat (nat_lit 1)) (nat_lit 0)), (@Value.int (.ofNat (nat_lit 0)) (nat_lit 0)), (@Value.int (.ofNat (nat_lit 0)) (nat_lit 0)), (@Value.int (.ofNat (nat_lit 0)) (nat_lit 0)), (@Value.int (.ofNat (nat_lit 0)) (nat_lit 0)), (@Value.ref (nat_lit 11)), (@Value.bool false), (@Value.int (.ofNat (nat_lit 181)) (nat_lit 0)), (@Value.ref (nat_lit 12)), Value.none, Value.none, Value.none, Value.none, (@Value.int (.ofNat (nat_lit 185)) (nat_lit 0)), (@Value.int (.ofNat (nat_lit 1)) (nat_lit 0)), (@Value.str (@Str.ofString "/claim/cut.py") (nat_lit 186))])) (.mk []))
def o14 (P : Params) : Obj := (@Obj.mk (@Value.type "frame") none Data.plain (.mk [(some (@Value.ref (nat_lit 13))), (some (@Value.ref (nat_lit 3))), (some (@Value.ref (nat_lit 3))), none, (some (@Value.str (@Str.ofString "__main__") (nat_lit 164))), none, (some (@Value.ref (nat_lit 0)))]))
def o3 (P : Params) : Obj := (@Obj.mk (@Value.type "dict") none (@Data.dict (.mk [(@DictEntry.mk (@PyData.keyHash P (@Str.ofString "__name__")) (@Value.str (@Str.ofString "__name__") (nat_lit 165)) (@Value.str (@Str.ofString "menuhouses.errors") (nat_lit 194))), (@DictEntry.mk (@PyData.keyHash P (@Str.ofString "__doc__")) (@Value.str (@Str.ofString "__doc__") (nat_lit 166)) Value.none), (@DictEntry.mk (@PyData.keyHash P (@Str.ofString "__package__")) (@Value.str (@Str.ofString "__package__") (nat_lit 167)) Value.none), (@DictEntry.mk (@PyData.keyHash P (@Str.ofString "__loader__")) (@Value.str (@Str.ofString "__loader__") (nat_lit 168)) (@Value.builtin "__main__.__loader__#opaque")), (@DictEntry.mk (@PyData.keyHash P (@Str.ofString "__spec__")) (@Value.str (@Str.ofString "__spec__") (nat_lit 169)) Value.none), (@DictEntry.mk (@PyData.keyHash P (@Str.ofString "__annotations__")) (@Value.str (@Str.ofString "__annotations__") (nat_lit 170)) (@Value.ref (nat_lit 6))), (@DictEntry.mk (@PyData.keyHash P (@Str.ofString "__builtins__")) (@Value.str (@Str.ofString "__builtins__") (nat_lit 171)) (@Value.ref (nat_lit 4))), (@DictEntry.mk (@PyData.keyHash P (@Str.ofString "__file__")) (@Value.str (@Str.ofString "__file__") (nat_lit 173)) (@Value.str (@Str.ofString "/claim/cut.py") (nat_lit 172))), (@DictEntry.mk (@PyData.keyHash P (@Str.ofString "__cached__")) (@Value.str (@Str.ofString "__cached__") (nat_lit 174)) Value.none), (@DictEntry.mk (@PyData.keyHash P (@Str.ofString "_wall")) (@Value.str (@Str.ofString "_wall") (nat_lit 193)) (@Value.ref (nat_lit 21))), (@DictEntry.mk (@PyData.keyHash P (@Str.ofString "WrongValue")) (@Value.str (@Str.ofString "WrongValue") (nat_lit 213)) (@Value.ref (nat_lit 31))), (@DictEntry.mk (@PyData.keyHash P (@Str.ofString "InvalidText")) (@Value.str (@Str.ofString "InvalidText") (nat_lit 238)) (@Value.ref (nat_lit 51))), (@DictEntry.mk (@PyData.keyHash P (@Str.ofString "InvalidMarks")) (@Value.str (@Str.ofString "InvalidMarks") (nat_lit 263)) (@Value.ref (nat_lit 70))), (@DictEntry.mk (@PyData.keyHash P (@Str.ofString "InvalidMenu")) (@Value.str (@Str.ofString "InvalidMenu") (nat_lit 288)) (@Value.ref (nat_lit 89))), (@DictEntry.mk (@PyData.keyHash P (@Str.ofString "InvalidTaken")) (@Value.str (@Str.ofString "InvalidTaken") (nat_lit 313)) (@Value.ref (nat_lit 108)))]) (nat_lit 15)) (.mk []))
def o12v1 (P : Params) : Obj := (@Obj.mk Value.none none (@Data.fields (.mk [(@Value.int (.ofNat (nat_lit 1)) (nat_lit 0)), (@Value.int (.ofNat (nat_lit 0)) (nat_lit 0)), (@Value.ref (nat_lit 20)), (@Value.int (.ofNat (nat_lit 5)) (nat_lit 0)), (@Value.int (.ofNat (nat_lit 0)) (nat_lit 0)), (@Value.ref (nat_lit 27)), (@Value.int (.ofNat (nat_lit 7)) (nat_lit 0)), (@Value.int (.ofNat (nat_lit 0)) (nat_lit 0)), (@Value.ref (nat_lit 40)), (@Value.int (.ofNat (nat_lit 11)) (nat_lit 0)), (@Value.int (.ofNat (nat_lit 0)) (nat_lit 0)), (@Value.ref (nat_lit 59)), (@Value.int (.ofNat (nat_lit 15)) (nat_lit 0)), (@Value.int (.ofNat (nat_lit 0)) (nat_lit 0)), (@Value.ref (nat_lit 78)), (@Value.int (.ofNat (nat_lit 19)) (nat_lit 0)), (@Value.int (.ofNat (nat_lit 0)) (nat_lit 0)), (@Value.ref (nat_lit 97))])) (.mk []))
def o15 (P : Params) : Obj := (@Obj.mk (@Value.type "tuple") none (@Data.seq (.mk []) (nat_lit 0)) (.mk []))
def o16 (P : Params) : Obj := (@Obj.mk Value.none none (@Data.fields (.mk [])) (.mk []))
def o17 (P : Params) : Obj := (@Obj.mk (@Value.type "tuple") none (@Data.seq (.mk [(@Value.str (@Str.ofString "k") (nat_lit 190))]) (nat_lit 0)) (.mk []))
def o18 (P : Params) : Obj := (@Obj.mk (@Value.type "tuple") none (@Data.seq (.mk []) (nat_lit 0)) (.mk []))
def o19 (P : Params) : Obj := (@Obj.mk Value.none none (@Data.func (@FuncData.mk (@Str.ofString "_wall") (@Str.ofString "_wall") (defArgs (topS 0)) (@FuncBody.stmts (defBody (topS 0))) (defScope (topS 0)) (nat_lit 0) [] Value.none Value.none Value.none Value.none none Value.none Value.none (nat_lit 0))) (.mk []))
def o20 (P : Params) : Obj := (@Obj.mk (@Value.type "code") none (@Data.fields (.mk [(@Value.str (@Str.ofString "_wall") (nat_lit 187)), (@Value.str (@Str.ofString "_wall") (nat_lit 188)), (@Value.str (@Str.ofString "/claim/cut.py") (nat_lit 189)), (@Value.int (.ofNat (nat_lit 1)) (nat_lit 0)), (@Value.int (.ofNat (nat_lit 1)) (nat_lit 0)), (@Value.int (.ofNat (nat_lit 0)) (nat_lit 0)), (@Value.int (.ofNat (nat_lit 0)) (nat_lit 0)), (@Value.int (.ofNat (nat_lit 3)) (nat_lit 0)), (@Value.ref (nat_lit 15)), (@Value.bool true), (@Value.int (.ofNat (nat_lit 181)) (nat_lit 0)), (@Value.ref (nat_lit 16)), Value.none, (@Value.ref (nat_lit 17)), (@Value.ref (nat_lit 18)), (@Value.ref (nat_lit 19)), (@Value.int (.ofNat (nat_lit 191)) (nat_lit 0)), (@Value.int (.ofNat (nat_lit 1)) (nat_lit 0)), (@Value.str (@Str.ofString "/claim/cut.py") (nat_lit 192))])) (.mk []))
def o21 (P : Params) : Obj := (@Obj.mk (@Value.type "function") none (@Data.func (@FuncData.mk (@Str.ofString "_wall") (@Str.ofString "_wall") (defArgs (topS 0)) (@FuncBody.stmts (defBody (topS 0))) (defScope (topS 0)) (nat_lit 3) [] Value.none Value.none Value.none (@Value.str (@Str.ofString "__main__") (nat_lit 164)) none (@Value.ref (nat_lit 20)) Value.none (nat_lit 0))) (.mk []))
def o22 (P : Params) : Obj := (@Obj.mk (@Value.type "tuple") none (@Data.seq (.mk [(@Value.type "ValueError")]) (nat_lit 0)) (.mk []))
def o23 (P : Params) : Obj := (@Obj.mk (@Value.type "builtin_function_or_method") none (@Data.fields (.mk [(@Value.builtin "type.__prepare__"), (@Value.type "type")])) (.mk []))
def o24 (P : Params) : Obj := (@Obj.mk (@Value.type "dict") none (@Data.dict (.mk [(@DictEntry.mk (@PyData.keyHash P (@Str.ofString "__module__")) (@Value.str (@Str.ofString "__module__") (nat_lit 203)) (@Value.str (@Str.ofString "menuhouses.errors") (nat_lit 194))), (@DictEntry.mk (@PyData.keyHash P (@Str.ofString "__qualname__")) (@Value.str (@Str.ofString "__qualname__") (nat_lit 205)) (@Value.str (@Str.ofString "WrongValue") (nat_lit 204))), (@DictEntry.mk (@PyData.keyHash P (@Str.ofString "__firstlineno__")) (@Value.str (@Str.ofString "__firstlineno__") (nat_lit 207)) (@Value.int (.ofNat (nat_lit 5)) (nat_lit 206))), (@DictEntry.mk (@PyData.keyHash P (@Str.ofString "__static_attributes__")) (@Value.str (@Str.ofString "__static_attributes__") (nat_lit 208)) (@Value.ref (nat_lit 29)))]) (nat_lit 4)) (.mk []))
def o25 (P : Params) : Obj := (@Obj.mk (@Value.type "tuple") none (@Data.seq (.mk []) (nat_lit 0)) (.mk []))
def o26 (P : Params) : Obj := (@Obj.mk Value.none none (@Data.fields (.mk [])) (.mk []))
def o27 (P : Params) : Obj := (@Obj.mk (@Value.type "code") none (@Data.fields (.mk [(@Value.str (@Str.ofString "WrongValue") (nat_lit 198)), (@Value.str (@Str.ofString "WrongValue") (nat_lit 199)), (@Value.str (@Str.ofString "/claim/cut.py") (nat_lit 200)), (@Value.int (.ofNat (nat_lit 5)) (nat_lit 0)), (@Value.int (.ofNat (nat_lit 0)) (nat_lit 0)), (@Value.int (.ofNat (nat_lit 0)) (nat_lit 0)), (@Value.int (.ofNat (nat_lit 0)) (nat_lit 0)), (@Value.int (.ofNat (nat_lit 0)) (nat_lit 0)), (@Value.ref (nat_lit 25)), (@Value.bool false), (@Value.int (.ofNat (nat_lit 181)) (nat_lit 0)), (@Value.ref (nat_lit 26)), Value.none, Value.none, Value.none, Value.none, (@Value.int (.ofNat (nat_lit 201)) (nat_lit 0)), (@Value.int (.ofNat (nat_lit 5)) (nat_lit 0)), (@Value.str (@Str.ofString "/claim/cut.py") (nat_lit 202))])) (.mk []))
def o28 (P : Params) : Obj := (@Obj.mk (@Value.type "frame") none Data.plain (.mk [(some (@Value.ref (nat_lit 27))), (some (@Value.ref (nat_lit 3))), (some (@Value.ref (nat_lit 24))), none, (some (@Value.str (@Str.ofString "menuhouses.errors") (nat_lit 194))), none, (some (@Value.ref (nat_lit 0)))]))
def o29 (P : Params) : Obj := (@Obj.mk (@Value.type "tuple") none (@Data.seq (.mk []) (nat_lit 0)) (.mk []))
def o30 (P : Params) : Obj := (@Obj.mk (@Value.type "dict") none (@Data.dict (.mk [(@DictEntry.mk (@PyData.keyHash P (@Str.ofString "__module__")) (@Value.str (@Str.ofString "__module__") (nat_lit 203)) (@Value.str (@Str.ofString "menuhouses.errors") (nat_lit 194))), (@DictEntry.mk (@PyData.keyHash P (@Str.ofString "__firstlineno__")) (@Value.str (@Str.ofString "__firstlineno__") (nat_lit 207)) (@Value.int (.ofNat (nat_lit 5)) (nat_lit 206))), (@DictEntry.mk (@PyData.keyHash P (@Str.ofString "__static_attributes__")) (@Value.str (@Str.ofString "__static_attributes__") (nat_lit 208)) (@Value.ref (nat_lit 29))), (@DictEntry.mk (@PyData.keyHash P (@Str.ofString "__weakref__")) (@Value.str (@Str.ofString "__weakref__") (nat_lit 210)) (@Value.ref (nat_lit 32))), (@DictEntry.mk (@PyData.keyHash P (@Str.ofString "__doc__")) (@Value.str (@Str.ofString "__doc__") (nat_lit 211)) Value.none)]) (nat_lit 3)) (.mk []))
def o31 (P : Params) : Obj := (@Obj.mk (@Value.type "type") none (@Data.cls (@ClassData.mk (@Str.ofString "WrongValue") [(@Value.type "ValueError")] [(@Value.ref (nat_lit 31)), (@Value.type "ValueError"), (@Value.type "Exception"), (@Value.type "BaseException"), (@Value.type "object")] (nat_lit 30) (@Str.ofString "WrongValue") true [] [(@Value.ref (nat_lit 51)), (@Value.ref (nat_lit 70)), (@Value.ref (nat_lit 89)), (@Value.ref (nat_lit 108))] false none false)) (.mk [(some (@Value.ref (nat_lit 22))), none, (some (@Value.str (@Str.ofString "WrongValue") (nat_lit 196))), (some (@Value.str (@Str.ofString "WrongValue") (nat_lit 204))), (some (@Value.builtin "ValueError.__new__")), (some (@Value.bool true))]))
def o32 (P : Params) : Obj := (@Obj.mk (@Value.type "getset_descriptor") none (@Data.fields (.mk [(@Value.str (@Str.ofString "__weakref__") (nat_lit 209)), (@Value.ref (nat_lit 31)), (@Value.builtin "ExceptionGroup.__weakref__"), Value.none])) (.mk []))
def o33 (P : Params) : Obj := (@Obj.mk (@Value.type "super") none (@Data.fields (.mk [(@Value.ref (nat_lit 31)), (@Value.ref (nat_lit 31)), (@Value.ref (nat_lit 31))])) (.mk []))
def o34 (P : Params) : Obj := (@Obj.mk (@Value.type "builtin_function_or_method") none (@Data.fields (.mk [(@Value.builtin "object.__init_subclass__"), (@Value.ref (nat_lit 31))])) (.mk []))
def o35 (P : Params) : Obj := (@Obj.mk (@Value.type "tuple") none (@Data.seq (.mk [(@Value.ref (nat_lit 31))]) (nat_lit 0)) (.mk []))
def o36 (P : Params) : Obj := (@Obj.mk (@Value.type "builtin_function_or_method") none (@Data.fields (.mk [(@Value.builtin "type.__prepare__"), (@Value.type "type")])) (.mk []))
def o37 (P : Params) : Obj := (@Obj.mk (@Value.type "dict") none (@Data.dict (.mk [(@DictEntry.mk (@PyData.keyHash P (@Str.ofString "__module__")) (@Value.str (@Str.ofString "__module__") (nat_lit 221)) (@Value.str (@Str.ofString "menuhouses.errors") (nat_lit 194))), (@DictEntry.mk (@PyData.keyHash P (@Str.ofString "__qualname__")) (@Value.str (@Str.ofString "__qualname__") (nat_lit 223)) (@Value.str (@Str.ofString "InvalidText") (nat_lit 222))), (@DictEntry.mk (@PyData.keyHash P (@Str.ofString "__firstlineno__")) (@Value.str (@Str.ofString "__firstlineno__") (nat_lit 225)) (@Value.int (.ofNat (nat_lit 7)) (nat_lit 224))), (@DictEntry.mk (@PyData.keyHash P (@Str.ofString "__init__")) (@Value.str (@Str.ofString "__init__") (nat_lit 233)) (@Value.ref (nat_lit 48))), (@DictEntry.mk (@PyData.keyHash P (@Str.ofString "__static_attributes__")) (@Value.str (@Str.ofString "__static_attributes__") (nat_lit 235)) (@Value.ref (nat_lit 49)))]) (nat_lit 5)) (.mk []))
def o38 (P : Params) : Obj := (@Obj.mk (@Value.type "tuple") none (@Data.seq (.mk []) (nat_lit 0)) (.mk []))
def o39 (P : Params) : Obj := (@Obj.mk Value.none none (@Data.fields (.mk [(@Value.int (.ofNat (nat_lit 9)) (nat_lit 0)), (@Value.int (.ofNat (nat_lit 4)) (nat_lit 0)), (@Value.ref (nat_lit 47))])) (.mk []))
def o40 (P : Params) : Obj := (@Obj.mk (@Value.type "code") none (@Data.fields (.mk [(@Value.str (@Str.ofString "InvalidText") (nat_lit 216)), (@Value.str (@Str.ofString "InvalidText") (nat_lit 217)), (@Value.str (@Str.ofString "/claim/cut.py") (nat_lit 218)), (@Value.int (.ofNat (nat_lit 7)) (nat_lit 0)), (@Value.int (.ofNat (nat_lit 0)) (nat_lit 0)), (@Value.int (.ofNat (nat_lit 0)) (nat_lit 0)), (@Value.int (.ofNat (nat_lit 0)) (nat_lit 0)), (@Value.int (.ofNat (nat_lit 0)) (nat_lit 0)), (@Value.ref (nat_lit 38)), (@Value.bool false), (@Value.int (.ofNat (nat_lit 181)) (nat_lit 0)), (@Value.ref (nat_lit 39)), Value.none, Value.none, Value.none, Value.none, (@Value.int (.ofNat (nat_lit 219)) (nat_lit 0)), (@Value.int (.ofNat (nat_lit 7)) (nat_lit 0)), (@Value.str (@Str.ofString "/claim/cut.py") (nat_lit 220))])) (.mk []))
def o41 (P : Params) : Obj := (@Obj.mk (@Value.type "frame") none Data.plain (.mk [(some (@Value.ref (nat_lit 40))), (some (@Value.ref (nat_lit 3))), (some (@Value.ref (nat_lit 37))), none, (some (@Value.str (@Str.ofString "menuhouses.errors") (nat_lit 194))), none, (some (@Value.ref (nat_lit 0)))]))
def o42 (P : Params) : Obj := (@Obj.mk (@Value.type "tuple") none (@Data.seq (.mk []) (nat_lit 0)) (.mk []))
def o43 (P : Params) : Obj := (@Obj.mk Value.none none (@Data.fields (.mk [])) (.mk []))
def o44 (P : Params) : Obj := (@Obj.mk (@Value.type "tuple") none (@Data.seq (.mk [(@Value.str (@Str.ofString "self") (nat_lit 229)), (@Value.str (@Str.ofString "given") (nat_lit 230))]) (nat_lit 0)) (.mk []))
def o45 (P : Params) : Obj := (@Obj.mk (@Value.type "tuple") none (@Data.seq (.mk []) (nat_lit 0)) (.mk []))
def o46 (P : Params) : Obj := (@Obj.mk Value.none none (@Data.func (@FuncData.mk (@Str.ofString "__init__") (@Str.ofString "InvalidText.__init__") (defArgs (inClass (topS 3) 0)) (@FuncBody.stmts (defBody (inClass (topS 3) 0))) (defScope (inClass (topS 8) 0)) (nat_lit 0) [] Value.none Value.none Value.none Value.none none Value.none Value.none (nat_lit 0))) (.mk []))
def o47 (P : Params) : Obj := (@Obj.mk (@Value.type "code") none (@Data.fields (.mk [(@Value.str (@Str.ofString "__init__") (nat_lit 226)), (@Value.str (@Str.ofString "InvalidText.__init__") (nat_lit 227)), (@Value.str (@Str.ofString "/claim/cut.py") (nat_lit 228)), (@Value.int (.ofNat (nat_lit 9)) (nat_lit 0)), (@Value.int (.ofNat (nat_lit 2)) (nat_lit 0)), (@Value.int (.ofNat (nat_lit 0)) (nat_lit 0)), (@Value.int (.ofNat (nat_lit 0)) (nat_lit 0)), (@Value.int (.ofNat (nat_lit 3)) (nat_lit 0)), (@Value.ref (nat_lit 42)), (@Value.bool true), (@Value.int (.ofNat (nat_lit 181)) (nat_lit 0)), (@Value.ref (nat_lit 43)), Value.none, (@Value.ref (nat_lit 44)), (@Value.ref (nat_lit 45)), (@Value.ref (nat_lit 46)), (@Value.int (.ofNat (nat_lit 231)) (nat_lit 0)), (@Value.int (.ofNat (nat_lit 9)) (nat_lit 0)), (@Value.str (@Str.ofString "/claim/cut.py") (nat_lit 232))])) (.mk []))
def o48 (P : Params) : Obj := (@Obj.mk (@Value.type "function") none (@Data.func (@FuncData.mk (@Str.ofString "__init__") (@Str.ofString "InvalidText.__init__") (defArgs (inClass (topS 3) 0)) (@FuncBody.stmts (defBody (inClass (topS 3) 0))) (defScope (inClass (topS 8) 0)) (nat_lit 3) [] Value.none Value.none Value.none (@Value.str (@Str.ofString "menuhouses.errors") (nat_lit 194)) none (@Value.ref (nat_lit 47)) Value.none (nat_lit 0))) (.mk []))
def o49 (P : Params) : Obj := (@Obj.mk (@Value.type "tuple") none (@Data.seq (.mk [(@Value.str (@Str.ofString "given") (nat_lit 234))]) (nat_lit 0)) (.mk []))
def o50 (P : Params) : Obj := (@Obj.mk (@Value.type "dict") none (@Data.dict (.mk [(@DictEntry.mk (@PyData.keyHash P (@Str.ofString "__module__")) (@Value.str (@Str.ofString "__module__") (nat_lit 221)) (@Value.str (@Str.ofString "menuhouses.errors") (nat_lit 194))), (@DictEntry.mk (@PyData.keyHash P (@Str.ofString "__firstlineno__")) (@Value.str (@Str.ofString "__firstlineno__") (nat_lit 225)) (@Value.int (.ofNat (nat_lit 7)) (nat_lit 224))), (@DictEntry.mk (@PyData.keyHash P (@Str.ofString "__init__")) (@Value.str (@Str.ofString "__init__") (nat_lit 233)) (@Value.ref (nat_lit 48))), (@DictEntry.mk (@PyData.keyHash P (@Str.ofString "__static_attributes__")) (@Value.str (@Str.ofString "__static_attributes__") (nat_lit 235)) (@Value.ref (nat_lit 49))), (@DictEntry.mk (@PyData.keyHash P (@Str.ofString "__doc__")) (@Value.str (@Str.ofString "__doc__") (nat_lit 236)) Value.none)]) (nat_lit 2)) (.mk []))
def o51 (P : Params) : Obj := (@Obj.mk (@Value.type "type") none (@Data.cls (@ClassData.mk (@Str.ofString "InvalidText") [(@Value.ref (nat_lit 31))] [(@Value.ref (nat_lit 51)), (@Value.ref (nat_lit 31)), (@Value.type "ValueError"), (@Value.type "Exception"), (@Value.type "BaseException"), (@Value.type "object")] (nat_lit 50) (@Str.ofString "InvalidText") true [] [] false none false)) (.mk [(some (@Value.ref (nat_lit 35))), none, (some (@Value.str (@Str.ofString "InvalidText") (nat_lit 214))), (some (@Value.str (@Str.ofString "InvalidText") (nat_lit 222))), (some (@Value.builtin "ValueError.__new__")), (some (@Value.bool true))]))
def o52 (P : Params) : Obj := (@Obj.mk (@Value.type "super") none (@Data.fields (.mk [(@Value.ref (nat_lit 51)), (@Value.ref (nat_lit 51)), (@Value.ref (nat_lit 51))])) (.mk []))
def o53 (P : Params) : Obj := (@Obj.mk (@Value.type "builtin_function_or_method") none (@Data.fields (.mk [(@Value.builtin "object.__init_subclass__"), (@Value.ref (nat_lit 51))])) (.mk []))
def o54 (P : Params) : Obj := (@Obj.mk (@Value.type "tuple") none (@Data.seq (.mk [(@Value.ref (nat_lit 31))]) (nat_lit 0)) (.mk []))
def o55 (P : Params) : Obj := (@Obj.mk (@Value.type "builtin_function_or_method") none (@Data.fields (.mk [(@Value.builtin "type.__prepare__"), (@Value.type "type")])) (.mk []))
def o56 (P : Params) : Obj := (@Obj.mk (@Value.type "dict") none (@Data.dict (.mk [(@DictEntry.mk (@PyData.keyHash P (@Str.ofString "__module__")) (@Value.str (@Str.ofString "__module__") (nat_lit 246)) (@Value.str (@Str.ofString "menuhouses.errors") (nat_lit 194))), (@DictEntry.mk (@PyData.keyHash P (@Str.ofString "__qualname__")) (@Value.str (@Str.ofString "__qualname__") (nat_lit 248)) (@Value.str (@Str.ofString "InvalidMarks") (nat_lit 247))), (@DictEntry.mk (@PyData.keyHash P (@Str.ofString "__firstlineno__")) (@Value.str (@Str.ofString "__firstlineno__") (nat_lit 250)) (@Value.int (.ofNat (nat_lit 11)) (nat_lit 249))), (@DictEntry.mk (@PyData.keyHash P (@Str.ofString "__init__")) (@Value.str (@Str.ofString "__init__") (nat_lit 258)) (@Value.ref (nat_lit 67))), (@DictEntry.mk (@PyData.keyHash P (@Str.ofString "__static_attributes__")) (@Value.str (@Str.ofString "__static_attributes__") (nat_lit 260)) (@Value.ref (nat_lit 68)))]) (nat_lit 5)) (.mk []))
def o57 (P : Params) : Obj := (@Obj.mk (@Value.type "tuple") none (@Data.seq (.mk []) (nat_lit 0)) (.mk []))
def o58 (P : Params) : Obj := (@Obj.mk Value.none none (@Data.fields (.mk [(@Value.int (.ofNat (nat_lit 13)) (nat_lit 0)), (@Value.int (.ofNat (nat_lit 4)) (nat_lit 0)), (@Value.ref (nat_lit 66))])) (.mk []))
def o59 (P : Params) : Obj := (@Obj.mk (@Value.type "code") none (@Data.fields (.mk [(@Value.str (@Str.ofString "InvalidMarks") (nat_lit 241)), (@Value.str (@Str.ofString "InvalidMarks") (nat_lit 242)), (@Value.str (@Str.ofString "/claim/cut.py") (nat_lit 243)), (@Value.int (.ofNat (nat_lit 11)) (nat_lit 0)), (@Value.int (.ofNat (nat_lit 0)) (nat_lit 0)), (@Value.int (.ofNat (nat_lit 0)) (nat_lit 0)), (@Value.int (.ofNat (nat_lit 0)) (nat_lit 0)), (@Value.int (.ofNat (nat_lit 0)) (nat_lit 0)), (@Value.ref (nat_lit 57)), (@Value.bool false), (@Value.int (.ofNat (nat_lit 181)) (nat_lit 0)), (@Value.ref (nat_lit 58)), Value.none, Value.none, Value.none, Value.none, (@Value.int (.ofNat (nat_lit 244)) (nat_lit 0)), (@Value.int (.ofNat (nat_lit 11)) (nat_lit 0)), (@Value.str (@Str.ofString "/claim/cut.py") (nat_lit 245))])) (.mk []))
def o60 (P : Params) : Obj := (@Obj.mk (@Value.type "frame") none Data.plain (.mk [(some (@Value.ref (nat_lit 59))), (some (@Value.ref (nat_lit 3))), (some (@Value.ref (nat_lit 56))), none, (some (@Value.str (@Str.ofString "menuhouses.errors") (nat_lit 194))), none, (some (@Value.ref (nat_lit 0)))]))
def o61 (P : Params) : Obj := (@Obj.mk (@Value.type "tuple") none (@Data.seq (.mk []) (nat_lit 0)) (.mk []))
def o62 (P : Params) : Obj := (@Obj.mk Value.none none (@Data.fields (.mk [])) (.mk []))
def o63 (P : Params) : Obj := (@Obj.mk (@Value.type "tuple") none (@Data.seq (.mk [(@Value.str (@Str.ofString "self") (nat_lit 254)), (@Value.str (@Str.ofString "given") (nat_lit 255))]) (nat_lit 0)) (.mk []))
def o64 (P : Params) : Obj := (@Obj.mk (@Value.type "tuple") none (@Data.seq (.mk []) (nat_lit 0)) (.mk []))
def o65 (P : Params) : Obj := (@Obj.mk Value.none none (@Data.func (@FuncData.mk (@Str.ofString "__init__") (@Str.ofString "InvalidMarks.__init__") (defArgs (inClass (topS 4) 0)) (@FuncBody.stmts (defBody (inClass (topS 4) 0))) (defScope (inClass (topS 8) 0)) (nat_lit 0) [] Value.none Value.none Value.none Value.none none Value.none Value.none (nat_lit 0))) (.mk []))
def o66 (P : Params) : Obj := (@Obj.mk (@Value.type "code") none (@Data.fields (.mk [(@Value.str (@Str.ofString "__init__") (nat_lit 251)), (@Value.str (@Str.ofString "InvalidMarks.__init__") (nat_lit 252)), (@Value.str (@Str.ofString "/claim/cut.py") (nat_lit 253)), (@Value.int (.ofNat (nat_lit 13)) (nat_lit 0)), (@Value.int (.ofNat (nat_lit 2)) (nat_lit 0)), (@Value.int (.ofNat (nat_lit 0)) (nat_lit 0)), (@Value.int (.ofNat (nat_lit 0)) (nat_lit 0)), (@Value.int (.ofNat (nat_lit 3)) (nat_lit 0)), (@Value.ref (nat_lit 61)), (@Value.bool true), (@Value.int (.ofNat (nat_lit 181)) (nat_lit 0)), (@Value.ref (nat_lit 62)), Value.none, (@Value.ref (nat_lit 63)), (@Value.ref (nat_lit 64)), (@Value.ref (nat_lit 65)), (@Value.int (.ofNat (nat_lit 256)) (nat_lit 0)), (@Value.int (.ofNat (nat_lit 13)) (nat_lit 0)), (@Value.str (@Str.ofString "/claim/cut.py") (nat_lit 257))])) (.mk []))
def o67 (P : Params) : Obj := (@Obj.mk (@Value.type "function") none (@Data.func (@FuncData.mk (@Str.ofString "__init__") (@Str.ofString "InvalidMarks.__init__") (defArgs (inClass (topS 4) 0)) (@FuncBody.stmts (defBody (inClass (topS 4) 0))) (defScope (inClass (topS 8) 0)) (nat_lit 3) [] Value.none Value.none Value.none (@Value.str (@Str.ofString "menuhouses.errors") (nat_lit 194)) none (@Value.ref (nat_lit 66)) Value.none (nat_lit 0))) (.mk []))
def o68 (P : Params) : Obj := (@Obj.mk (@Value.type "tuple") none (@Data.seq (.mk [(@Value.str (@Str.ofString "given") (nat_lit 259))]) (nat_lit 0)) (.mk []))
def o69 (P : Params) : Obj := (@Obj.mk (@Value.type "dict") none (@Data.dict (.mk [(@DictEntry.mk (@PyData.keyHash P (@Str.ofString "__module__")) (@Value.str (@Str.ofString "__module__") (nat_lit 246)) (@Value.str (@Str.ofString "menuhouses.errors") (nat_lit 194))), (@DictEntry.mk (@PyData.keyHash P (@Str.ofString "__firstlineno__")) (@Value.str (@Str.ofString "__firstlineno__") (nat_lit 250)) (@Value.int (.ofNat (nat_lit 11)) (nat_lit 249))), (@DictEntry.mk (@PyData.keyHash P (@Str.ofString "__init__")) (@Value.str (@Str.ofString "__init__") (nat_lit 258)) (@Value.ref (nat_lit 67))), (@DictEntry.mk (@PyData.keyHash P (@Str.ofString "__static_attributes__")) (@Value.str (@Str.ofString "__static_attributes__") (nat_lit 260)) (@Value.ref (nat_lit 68))), (@DictEntry.mk (@PyData.keyHash P (@Str.ofString "__doc__")) (@Value.str (@Str.ofString "__doc__") (nat_lit 261)) Value.none)]) (nat_lit 2)) (.mk []))
def o70 (P : Params) : Obj := (@Obj.mk (@Value.type "type") none (@Data.cls (@ClassData.mk (@Str.ofString "InvalidMarks") [(@Value.ref (nat_lit 31))] [(@Value.ref (nat_lit 70)), (@Value.ref (nat_lit 31)), (@Value.type "ValueError"), (@Value.type "Exception"), (@Value.type "BaseException"), (@Value.type "object")] (nat_lit 69) (@Str.ofString "InvalidMarks") true [] [] false none false)) (.mk [(some (@Value.ref (nat_lit 54))), none, (some (@Value.str (@Str.ofString "InvalidMarks") (nat_lit 239))), (some (@Value.str (@Str.ofString "InvalidMarks") (nat_lit 247))), (some (@Value.builtin "ValueError.__new__")), (some (@Value.bool true))]))
def o71 (P : Params) : Obj := (@Obj.mk (@Value.type "super") none (@Data.fields (.mk [(@Value.ref (nat_lit 70)), (@Value.ref (nat_lit 70)), (@Value.ref (nat_lit 70))])) (.mk []))
def o72 (P : Params) : Obj := (@Obj.mk (@Value.type "builtin_function_or_method") none (@Data.fields (.mk [(@Value.builtin "object.__init_subclass__"), (@Value.ref (nat_lit 70))])) (.mk []))
def o73 (P : Params) : Obj := (@Obj.mk (@Value.type "tuple") none (@Data.seq (.mk [(@Value.ref (nat_lit 31))]) (nat_lit 0)) (.mk []))
def o74 (P : Params) : Obj := (@Obj.mk (@Value.type "builtin_function_or_method") none (@Data.fields (.mk [(@Value.builtin "type.__prepare__"), (@Value.type "type")])) (.mk []))
def o75 (P : Params) : Obj := (@Obj.mk (@Value.type "dict") none (@Data.dict (.mk [(@DictEntry.mk (@PyData.keyHash P (@Str.ofString "__module__")) (@Value.str (@Str.ofString "__module__") (nat_lit 271)) (@Value.str (@Str.ofString "menuhouses.errors") (nat_lit 194))), (@DictEntry.mk (@PyData.keyHash P (@Str.ofString "__qualname__")) (@Value.str (@Str.ofString "__qualname__") (nat_lit 273)) (@Value.str (@Str.ofString "InvalidMenu") (nat_lit 272))), (@DictEntry.mk (@PyData.keyHash P (@Str.ofString "__firstlineno__")) (@Value.str (@Str.ofString "__firstlineno__") (nat_lit 275)) (@Value.int (.ofNat (nat_lit 15)) (nat_lit 274))), (@DictEntry.mk (@PyData.keyHash P (@Str.ofString "__init__")) (@Value.str (@Str.ofString "__init__") (nat_lit 283)) (@Value.ref (nat_lit 86))), (@DictEntry.mk (@PyData.keyHash P (@Str.ofString "__static_attributes__")) (@Value.str (@Str.ofString "__static_attributes__") (nat_lit 285)) (@Value.ref (nat_lit 87)))]) (nat_lit 5)) (.mk []))
def o76 (P : Params) : Obj := (@Obj.mk (@Value.type "tuple") none (@Data.seq (.mk []) (nat_lit 0)) (.mk []))
def o77 (P : Params) : Obj := (@Obj.mk Value.none none (@Data.fields (.mk [(@Value.int (.ofNat (nat_lit 17)) (nat_lit 0)), (@Value.int (.ofNat (nat_lit 4)) (nat_lit 0)), (@Value.ref (nat_lit 85))])) (.mk []))
def o78 (P : Params) : Obj := (@Obj.mk (@Value.type "code") none (@Data.fields (.mk [(@Value.str (@Str.ofString "InvalidMenu") (nat_lit 266)), (@Value.str (@Str.ofString "InvalidMenu") (nat_lit 267)), (@Value.str (@Str.ofString "/claim/cut.py") (nat_lit 268)), (@Value.int (.ofNat (nat_lit 15)) (nat_lit 0)), (@Value.int (.ofNat (nat_lit 0)) (nat_lit 0)), (@Value.int (.ofNat (nat_lit 0)) (nat_lit 0)), (@Value.int (.ofNat (nat_lit 0)) (nat_lit 0)), (@Value.int (.ofNat (nat_lit 0)) (nat_lit 0)), (@Value.ref (nat_lit 76)), (@Value.bool false), (@Value.int (.ofNat (nat_lit 181)) (nat_lit 0)), (@Value.ref (nat_lit 77)), Value.none, Value.none, Value.none, Value.none, (@Value.int (.ofNat (nat_lit 269)) (nat_lit 0)), (@Value.int (.ofNat (nat_lit 15)) (nat_lit 0)), (@Value.str (@Str.ofString "/claim/cut.py") (nat_lit 270))])) (.mk []))
def o79 (P : Params) : Obj := (@Obj.mk (@Value.type "frame") none Data.plain (.mk [(some (@Value.ref (nat_lit 78))), (some (@Value.ref (nat_lit 3))), (some (@Value.ref (nat_lit 75))), none, (some (@Value.str (@Str.ofString "menuhouses.errors") (nat_lit 194))), none, (some (@Value.ref (nat_lit 0)))]))
def o80 (P : Params) : Obj := (@Obj.mk (@Value.type "tuple") none (@Data.seq (.mk []) (nat_lit 0)) (.mk []))
def o81 (P : Params) : Obj := (@Obj.mk Value.none none (@Data.fields (.mk [])) (.mk []))
def o82 (P : Params) : Obj := (@Obj.mk (@Value.type "tuple") none (@Data.seq (.mk [(@Value.str (@Str.ofString "self") (nat_lit 279)), (@Value.str (@Str.ofString "index") (nat_lit 280))]) (nat_lit 0)) (.mk []))
def o83 (P : Params) : Obj := (@Obj.mk (@Value.type "tuple") none (@Data.seq (.mk []) (nat_lit 0)) (.mk []))
def o84 (P : Params) : Obj := (@Obj.mk Value.none none (@Data.func (@FuncData.mk (@Str.ofString "__init__") (@Str.ofString "InvalidMenu.__init__") (defArgs (inClass (topS 5) 0)) (@FuncBody.stmts (defBody (inClass (topS 5) 0))) (defScope (inClass (topS 6) 0)) (nat_lit 0) [] Value.none Value.none Value.none Value.none none Value.none Value.none (nat_lit 0))) (.mk []))
def o85 (P : Params) : Obj := (@Obj.mk (@Value.type "code") none (@Data.fields (.mk [(@Value.str (@Str.ofString "__init__") (nat_lit 276)), (@Value.str (@Str.ofString "InvalidMenu.__init__") (nat_lit 277)), (@Value.str (@Str.ofString "/claim/cut.py") (nat_lit 278)), (@Value.int (.ofNat (nat_lit 17)) (nat_lit 0)), (@Value.int (.ofNat (nat_lit 2)) (nat_lit 0)), (@Value.int (.ofNat (nat_lit 0)) (nat_lit 0)), (@Value.int (.ofNat (nat_lit 0)) (nat_lit 0)), (@Value.int (.ofNat (nat_lit 3)) (nat_lit 0)), (@Value.ref (nat_lit 80)), (@Value.bool true), (@Value.int (.ofNat (nat_lit 181)) (nat_lit 0)), (@Value.ref (nat_lit 81)), Value.none, (@Value.ref (nat_lit 82)), (@Value.ref (nat_lit 83)), (@Value.ref (nat_lit 84)), (@Value.int (.ofNat (nat_lit 281)) (nat_lit 0)), (@Value.int (.ofNat (nat_lit 17)) (nat_lit 0)), (@Value.str (@Str.ofString "/claim/cut.py") (nat_lit 282))])) (.mk []))
def o86 (P : Params) : Obj := (@Obj.mk (@Value.type "function") none (@Data.func (@FuncData.mk (@Str.ofString "__init__") (@Str.ofString "InvalidMenu.__init__") (defArgs (inClass (topS 5) 0)) (@FuncBody.stmts (defBody (inClass (topS 5) 0))) (defScope (inClass (topS 6) 0)) (nat_lit 3) [] Value.none Value.none Value.none (@Value.str (@Str.ofString "menuhouses.errors") (nat_lit 194)) none (@Value.ref (nat_lit 85)) Value.none (nat_lit 0))) (.mk []))
def o87 (P : Params) : Obj := (@Obj.mk (@Value.type "tuple") none (@Data.seq (.mk [(@Value.str (@Str.ofString "index") (nat_lit 284))]) (nat_lit 0)) (.mk []))
def o88 (P : Params) : Obj := (@Obj.mk (@Value.type "dict") none (@Data.dict (.mk [(@DictEntry.mk (@PyData.keyHash P (@Str.ofString "__module__")) (@Value.str (@Str.ofString "__module__") (nat_lit 271)) (@Value.str (@Str.ofString "menuhouses.errors") (nat_lit 194))), (@DictEntry.mk (@PyData.keyHash P (@Str.ofString "__firstlineno__")) (@Value.str (@Str.ofString "__firstlineno__") (nat_lit 275)) (@Value.int (.ofNat (nat_lit 15)) (nat_lit 274))), (@DictEntry.mk (@PyData.keyHash P (@Str.ofString "__init__")) (@Value.str (@Str.ofString "__init__") (nat_lit 283)) (@Value.ref (nat_lit 86))), (@DictEntry.mk (@PyData.keyHash P (@Str.ofString "__static_attributes__")) (@Value.str (@Str.ofString "__static_attributes__") (nat_lit 285)) (@Value.ref (nat_lit 87))), (@DictEntry.mk (@PyData.keyHash P (@Str.ofString "__doc__")) (@Value.str (@Str.ofString "__doc__") (nat_lit 286)) Value.none)]) (nat_lit 2)) (.mk []))
def o89 (P : Params) : Obj := (@Obj.mk (@Value.type "type") none (@Data.cls (@ClassData.mk (@Str.ofString "InvalidMenu") [(@Value.ref (nat_lit 31))] [(@Value.ref (nat_lit 89)), (@Value.ref (nat_lit 31)), (@Value.type "ValueError"), (@Value.type "Exception"), (@Value.type "BaseException"), (@Value.type "object")] (nat_lit 88) (@Str.ofString "InvalidMenu") true [] [] false none false)) (.mk [(some (@Value.ref (nat_lit 73))), none, (some (@Value.str (@Str.ofString "InvalidMenu") (nat_lit 264))), (some (@Value.str (@Str.ofString "InvalidMenu") (nat_lit 272))), (some (@Value.builtin "ValueError.__new__")), (some (@Value.bool true))]))
def o90 (P : Params) : Obj := (@Obj.mk (@Value.type "super") none (@Data.fields (.mk [(@Value.ref (nat_lit 89)), (@Value.ref (nat_lit 89)), (@Value.ref (nat_lit 89))])) (.mk []))
def o91 (P : Params) : Obj := (@Obj.mk (@Value.type "builtin_function_or_method") none (@Data.fields (.mk [(@Value.builtin "object.__init_subclass__"), (@Value.ref (nat_lit 89))])) (.mk []))
def o92 (P : Params) : Obj := (@Obj.mk (@Value.type "tuple") none (@Data.seq (.mk [(@Value.ref (nat_lit 31))]) (nat_lit 0)) (.mk []))
def o93 (P : Params) : Obj := (@Obj.mk (@Value.type "builtin_function_or_method") none (@Data.fields (.mk [(@Value.builtin "type.__prepare__"), (@Value.type "type")])) (.mk []))
def o94 (P : Params) : Obj := (@Obj.mk (@Value.type "dict") none (@Data.dict (.mk [(@DictEntry.mk (@PyData.keyHash P (@Str.ofString "__module__")) (@Value.str (@Str.ofString "__module__") (nat_lit 296)) (@Value.str (@Str.ofString "menuhouses.errors") (nat_lit 194))), (@DictEntry.mk (@PyData.keyHash P (@Str.ofString "__qualname__")) (@Value.str (@Str.ofString "__qualname__") (nat_lit 298)) (@Value.str (@Str.ofString "InvalidTaken") (nat_lit 297))), (@DictEntry.mk (@PyData.keyHash P (@Str.ofString "__firstlineno__")) (@Value.str (@Str.ofString "__firstlineno__") (nat_lit 300)) (@Value.int (.ofNat (nat_lit 19)) (nat_lit 299))), (@DictEntry.mk (@PyData.keyHash P (@Str.ofString "__init__")) (@Value.str (@Str.ofString "__init__") (nat_lit 308)) (@Value.ref (nat_lit 105))), (@DictEntry.mk (@PyData.keyHash P (@Str.ofString "__static_attributes__")) (@Value.str (@Str.ofString "__static_attributes__") (nat_lit 310)) (@Value.ref (nat_lit 106)))]) (nat_lit 5)) (.mk []))
def o95 (P : Params) : Obj := (@Obj.mk (@Value.type "tuple") none (@Data.seq (.mk []) (nat_lit 0)) (.mk []))
def o96 (P : Params) : Obj := (@Obj.mk Value.none none (@Data.fields (.mk [(@Value.int (.ofNat (nat_lit 21)) (nat_lit 0)), (@Value.int (.ofNat (nat_lit 4)) (nat_lit 0)), (@Value.ref (nat_lit 104))])) (.mk []))
def o97 (P : Params) : Obj := (@Obj.mk (@Value.type "code") none (@Data.fields (.mk [(@Value.str (@Str.ofString "InvalidTaken") (nat_lit 291)), (@Value.str (@Str.ofString "InvalidTaken") (nat_lit 292)), (@Value.str (@Str.ofString "/claim/cut.py") (nat_lit 293)), (@Value.int (.ofNat (nat_lit 19)) (nat_lit 0)), (@Value.int (.ofNat (nat_lit 0)) (nat_lit 0)), (@Value.int (.ofNat (nat_lit 0)) (nat_lit 0)), (@Value.int (.ofNat (nat_lit 0)) (nat_lit 0)), (@Value.int (.ofNat (nat_lit 0)) (nat_lit 0)), (@Value.ref (nat_lit 95)), (@Value.bool false), (@Value.int (.ofNat (nat_lit 181)) (nat_lit 0)), (@Value.ref (nat_lit 96)), Value.none, Value.none, Value.none, Value.none, (@Value.int (.ofNat (nat_lit 294)) (nat_lit 0)), (@Value.int (.ofNat (nat_lit 19)) (nat_lit 0)), (@Value.str (@Str.ofString "/claim/cut.py") (nat_lit 295))])) (.mk []))
def o98 (P : Params) : Obj := (@Obj.mk (@Value.type "frame") none Data.plain (.mk [(some (@Value.ref (nat_lit 97))), (some (@Value.ref (nat_lit 3))), (some (@Value.ref (nat_lit 94))), none, (some (@Value.str (@Str.ofString "menuhouses.errors") (nat_lit 194))), none, (some (@Value.ref (nat_lit 0)))]))
def o99 (P : Params) : Obj := (@Obj.mk (@Value.type "tuple") none (@Data.seq (.mk []) (nat_lit 0)) (.mk []))
def o100 (P : Params) : Obj := (@Obj.mk Value.none none (@Data.fields (.mk [])) (.mk []))
def o101 (P : Params) : Obj := (@Obj.mk (@Value.type "tuple") none (@Data.seq (.mk [(@Value.str (@Str.ofString "self") (nat_lit 304)), (@Value.str (@Str.ofString "index") (nat_lit 305))]) (nat_lit 0)) (.mk []))
def o102 (P : Params) : Obj := (@Obj.mk (@Value.type "tuple") none (@Data.seq (.mk []) (nat_lit 0)) (.mk []))
def o103 (P : Params) : Obj := (@Obj.mk Value.none none (@Data.func (@FuncData.mk (@Str.ofString "__init__") (@Str.ofString "InvalidTaken.__init__") (defArgs (inClass (topS 6) 0)) (@FuncBody.stmts (defBody (inClass (topS 6) 0))) (defScope (inClass (topS 6) 0)) (nat_lit 0) [] Value.none Value.none Value.none Value.none none Value.none Value.none (nat_lit 0))) (.mk []))
def o104 (P : Params) : Obj := (@Obj.mk (@Value.type "code") none (@Data.fields (.mk [(@Value.str (@Str.ofString "__init__") (nat_lit 301)), (@Value.str (@Str.ofString "InvalidTaken.__init__") (nat_lit 302)), (@Value.str (@Str.ofString "/claim/cut.py") (nat_lit 303)), (@Value.int (.ofNat (nat_lit 21)) (nat_lit 0)), (@Value.int (.ofNat (nat_lit 2)) (nat_lit 0)), (@Value.int (.ofNat (nat_lit 0)) (nat_lit 0)), (@Value.int (.ofNat (nat_lit 0)) (nat_lit 0)), (@Value.int (.ofNat (nat_lit 3)) (nat_lit 0)), (@Value.ref (nat_lit 99)), (@Value.bool true), (@Value.int (.ofNat (nat_lit 181)) (nat_lit 0)), (@Value.ref (nat_lit 100)), Value.none, (@Value.ref (nat_lit 101)), (@Value.ref (nat_lit 102)), (@Value.ref (nat_lit 103)), (@Value.int (.ofNat (nat_lit 306)) (nat_lit 0)), (@Value.int (.ofNat (nat_lit 21)) (nat_lit 0)), (@Value.str (@Str.ofString "/claim/cut.py") (nat_lit 307))])) (.mk []))
def o105 (P : Params) : Obj := (@Obj.mk (@Value.type "function") none (@Data.func (@FuncData.mk (@Str.ofString "__init__") (@Str.ofString "InvalidTaken.__init__") (defArgs (inClass (topS 6) 0)) (@FuncBody.stmts (defBody (inClass (topS 6) 0))) (defScope (inClass (topS 6) 0)) (nat_lit 3) [] Value.none Value.none Value.none (@Value.str (@Str.ofString "menuhouses.errors") (nat_lit 194)) none (@Value.ref (nat_lit 104)) Value.none (nat_lit 0))) (.mk []))
def o106 (P : Params) : Obj := (@Obj.mk (@Value.type "tuple") none (@Data.seq (.mk [(@Value.str (@Str.ofString "index") (nat_lit 309))]) (nat_lit 0)) (.mk []))
def o107 (P : Params) : Obj := (@Obj.mk (@Value.type "dict") none (@Data.dict (.mk [(@DictEntry.mk (@PyData.keyHash P (@Str.ofString "__module__")) (@Value.str (@Str.ofString "__module__") (nat_lit 296)) (@Value.str (@Str.ofString "menuhouses.errors") (nat_lit 194))), (@DictEntry.mk (@PyData.keyHash P (@Str.ofString "__firstlineno__")) (@Value.str (@Str.ofString "__firstlineno__") (nat_lit 300)) (@Value.int (.ofNat (nat_lit 19)) (nat_lit 299))), (@DictEntry.mk (@PyData.keyHash P (@Str.ofString "__init__")) (@Value.str (@Str.ofString "__init__") (nat_lit 308)) (@Value.ref (nat_lit 105))), (@DictEntry.mk (@PyData.keyHash P (@Str.ofString "__static_attributes__")) (@Value.str (@Str.ofString "__static_attributes__") (nat_lit 310)) (@Value.ref (nat_lit 106))), (@DictEntry.mk (@PyData.keyHash P (@Str.ofString "__doc__")) (@Value.str (@Str.ofString "__doc__") (nat_lit 311)) Value.none)]) (nat_lit 2)) (.mk []))
def o108 (P : Params) : Obj := (@Obj.mk (@Value.type "type") none (@Data.cls (@ClassData.mk (@Str.ofString "InvalidTaken") [(@Value.ref (nat_lit 31))] [(@Value.ref (nat_lit 108)), (@Value.ref (nat_lit 31)), (@Value.type "ValueError"), (@Value.type "Exception"), (@Value.type "BaseException"), (@Value.type "object")] (nat_lit 107) (@Str.ofString "InvalidTaken") true [] [] false none false)) (.mk [(some (@Value.ref (nat_lit 92))), none, (some (@Value.str (@Str.ofString "InvalidTaken") (nat_lit 289))), (some (@Value.str (@Str.ofString "InvalidTaken") (nat_lit 297))), (some (@Value.builtin "ValueError.__new__")), (some (@Value.bool true))]))
def o109 (P : Params) : Obj := (@Obj.mk (@Value.type "super") none (@Data.fields (.mk [(@Value.ref (nat_lit 108)), (@Value.ref (nat_lit 108)), (@Value.ref (nat_lit 108))])) (.mk []))
def o110 (P : Params) : Obj := (@Obj.mk (@Value.type "builtin_function_or_method") none (@Data.fields (.mk [(@Value.builtin "object.__init_subclass__"), (@Value.ref (nat_lit 108))])) (.mk []))
def o3v1 (P : Params) : Obj := (@Obj.mk (@Value.type "dict") none (@Data.dict (.mk [(@DictEntry.mk (@PyData.keyHash P (@Str.ofString "__name__")) (@Value.str (@Str.ofString "__name__") (nat_lit 165)) (@Value.str (@Str.ofString "menuhouses.looks") (nat_lit 441))), (@DictEntry.mk (@PyData.keyHash P (@Str.ofString "__doc__")) (@Value.str (@Str.ofString "__doc__") (nat_lit 166)) Value.none), (@DictEntry.mk (@PyData.keyHash P (@Str.ofString "__package__")) (@Value.str (@Str.ofString "__package__") (nat_lit 167)) Value.none), (@DictEntry.mk (@PyData.keyHash P (@Str.ofString "__loader__")) (@Value.str (@Str.ofString "__loader__") (nat_lit 168)) (@Value.builtin "__main__.__loader__#opaque")), (@DictEntry.mk (@PyData.keyHash P (@Str.ofString "__spec__")) (@Value.str (@Str.ofString "__spec__") (nat_lit 169)) Value.none), (@DictEntry.mk (@PyData.keyHash P (@Str.ofString "__annotations__")) (@Value.str (@Str.ofString "__annotations__") (nat_lit 170)) (@Value.ref (nat_lit 6))), (@DictEntry.mk (@PyData.keyHash P (@Str.ofString "__builtins__")) (@Value.str (@Str.ofString "__builtins__") (nat_lit 171)) (@Value.ref (nat_lit 4))), (@DictEntry.mk (@PyData.keyHash P (@Str.ofString "__file__")) (@Value.str (@Str.ofString "__file__") (nat_lit 173)) (@Value.str (@Str.ofString "/claim/cut.py") (nat_lit 172))), (@DictEntry.mk (@PyData.keyHash P (@Str.ofString "__cached__")) (@Value.str (@Str.ofString "__cached__") (nat_lit 174)) Value.none), (@DictEntry.mk (@PyData.keyHash P (@Str.ofString "_wall")) (@Value.str (@Str.ofString "_wall") (nat_lit 193)) (@Value.ref (nat_lit 21))), (@DictEntry.mk (@PyData.keyHash P (@Str.ofString "WrongValue")) (@Value.str (@Str.ofString "WrongValue") (nat_lit 213)) (@Value.ref (nat_lit 31))), (@DictEntry.mk (@PyData.keyHash P (@Str.ofString "InvalidText")) (@Value.str (@Str.ofString "InvalidText") (nat_lit 238)) (@Value.ref (nat_lit 51))), (@DictEntry.mk (@PyData.keyHash P (@Str.ofString "InvalidMarks")) (@Value.str (@Str.ofString "InvalidMarks") (nat_lit 263)) (@Value.ref (nat_lit 70))), (@DictEntry.mk (@PyData.keyHash P (@Str.ofString "InvalidMenu")) (@Value.str (@Str.ofString "InvalidMenu") (nat_lit 288)) (@Value.ref (nat_lit 89))), (@DictEntry.mk (@PyData.keyHash P (@Str.ofString "InvalidTaken")) (@Value.str (@Str.ofString "InvalidTaken") (nat_lit 313)) (@Value.ref (nat_lit 108))), (@DictEntry.mk (@PyData.keyHash P (@Str.ofString "WrongName")) (@Value.str (@Str.ofString "WrongName") (nat_lit 331)) (@Value.ref (nat_lit 120))), (@DictEntry.mk (@PyData.keyHash P (@Str.ofString "UnknownThing")) (@Value.str (@Str.ofString "UnknownThing") (nat_lit 356)) (@Value.ref (nat_lit 140))), (@DictEntry.mk (@PyData.keyHash P (@Str.ofString "MOST_THINGS")) (@Value.str (@Str.ofString "MOST_THINGS") (nat_lit 358)) (@Value.int (.ofNat (nat_lit 10)) (nat_lit 357))), (@DictEntry.mk (@PyData.keyHash P (@Str.ofString "LETTERS")) (@Value.str (@Str.ofString "LETTERS") (nat_lit 362)) (@Value.str (@Str.ofString "abcdefghijklmnopqrstuvwxyz") (nat_lit 361))), (@DictEntry.mk (@PyData.keyHash P (@Str.ofString "DIGITS")) (@Value.str (@Str.ofString "DIGITS") (nat_lit 364)) (@Value.str (@Str.ofString "0123456789") (nat_lit 363))), (@DictEntry.mk (@PyData.keyHash P (@Str.ofString "LONGEST_NAME")) (@Value.str (@Str.ofString "LONGEST_NAME") (nat_lit 366)) (@Value.int (.ofNat (nat_lit 8)) (nat_lit 365))), (@DictEntry.mk (@PyData.keyHash P (@Str.ofString "is_name")) (@Value.str (@Str.ofString "is_name") (nat_lit 372)) (@Value.ref (nat_lit 147))), (@DictEntry.mk (@PyData.keyHash P (@Str.ofString "is_filled_tuple")) (@Value.str (@Str.ofString "is_filled_tuple") (nat_lit 379)) (@Value.ref (nat_lit 154))), (@DictEntry.mk (@PyData.keyHash P (@Str.ofString "is_one_of")) (@Value.str (@Str.ofString "is_one_of") (nat_lit 387)) (@Value.ref (nat_lit 161))), (@DictEntry.mk (@PyData.keyHash P (@Str.ofString "first_wrong_of_names")) (@Value.str (@Str.ofString "first_wrong_of_names") (nat_lit 397)) (@Value.ref (nat_lit 169))), (@DictEntry.mk (@PyData.keyHash P (@Str.ofString "first_wrong_on_menu")) (@Value.str (@Str.ofString "first_wrong_on_menu") (nat_lit 407)) (@Value.ref (nat_lit 176))), (@DictEntry.mk (@PyData.keyHash P (@Str.ofString "check_names_of_menu")) (@Value.str (@Str.ofString "check_names_of_menu") (nat_lit 415)) (@Value.ref (nat_lit 183))), (@DictEntry.mk (@PyData.keyHash P (@Str.ofString "check_taken")) (@Value.str (@Str.ofString "check_taken") (nat_lit 424)) (@Value.ref (nat_lit 190))), (@DictEntry.mk (@PyData.keyHash P (@Str.ofString "check_thing")) (@Value.str (@Str.ofString "check_thing") (nat_lit 432)) (@Value.ref (nat_lit 197))), (@DictEntry.mk (@PyData.keyHash P (@Str.ofString "index_of")) (@Value.str (@Str.ofString "index_of") (nat_lit 440)) (@Value.ref (nat_lit 202))), (@DictEntry.mk (@PyData.keyHash P (@Str.ofString "MARKS")) (@Value.str (@Str.ofString "MARKS") (nat_lit 444)) (@Value.str (@Str.ofString "+-?") (nat_lit 443))), (@DictEntry.mk (@PyData.keyHash P (@Str.ofString "are_marks")) (@Value.str (@Str.ofString "are_marks") (nat_lit 450)) (@Value.ref (nat_lit 207))), (@DictEntry.mk (@PyData.keyHash P (@Str.ofString "look_at_just")) (@Value.str (@Str.ofString "look_at_just") (nat_lit 456)) (@Value.ref (nat_lit 212)))]) (nat_lit 33)) (.mk []))
def o12v2 (P : Params) : Obj := (@Obj.mk Value.none none (@Data.fields (.mk [(@Value.int (.ofNat (nat_lit 1)) (nat_lit 0)), (@Value.int (.ofNat (nat_lit 0)) (nat_lit 0)), (@Value.ref (nat_lit 20)), (@Value.int (.ofNat (nat_lit 5)) (nat_lit 0)), (@Value.int (.ofNat (nat_lit 0)) (nat_lit 0)), (@Value.ref (nat_lit 27)), (@Value.int (.ofNat (nat_lit 7)) (nat_lit 0)), (@Value.int (.ofNat (nat_lit 0)) (nat_lit 0)), (@Value.ref (nat_lit 40)), (@Value.int (.ofNat (nat_lit 11)) (nat_lit 0)), (@Value.int (.ofNat (nat_lit 0)) (nat_lit 0)), (@Value.ref (nat_lit 59)), (@Value.int (.ofNat (nat_lit 15)) (nat_lit 0)), (@Value.int (.ofNat (nat_lit 0)) (nat_lit 0)), (@Value.ref (nat_lit 78)), (@Value.int (.ofNat (nat_lit 19)) (nat_lit 0)), (@Value.int (.ofNat (nat_lit 0)) (nat_lit 0)), (@Value.ref (nat_lit 97)), (@Value.int (.ofNat (nat_lit 23)) (nat_lit 0)), (@Value.int (.ofNat (nat_lit 0)) (nat_lit 0)), (@Value.ref (nat_lit 116)), (@Value.int (.ofNat (nat_lit 25)) (nat_lit 0)), (@Value.int (.ofNat (nat_lit 0)) (nat_lit 0)), (@Value.ref (nat_lit 129)), (@Value.int (.ofNat (nat_lit 34)) (nat_lit 0)), (@Value.int (.ofNat (nat_lit 0)) (nat_lit 0)), (@Value.ref (nat_lit 146)), (@Value.int (.ofNat (nat_lit 38)) (nat_lit 0)), (@Value.int (.ofNat (nat_lit 0)) (nat_lit 0)), (@Value.ref (nat_lit 153)), (@Value.int (.ofNat (nat_lit 40)) (nat_lit 0)), (@Value.int (.ofNat (nat_lit 0)) (nat_lit 0)), (@Value.ref (nat_lit 160)), (@Value.int (.ofNat (nat_lit 42)) (nat_lit 0)), (@Value.int (.ofNat (nat_lit 0)) (nat_lit 0)), (@Value.ref (nat_lit 168)), (@Value.int (.ofNat (nat_lit 49)) (nat_lit 0)), (@Value.int (.ofNat (nat_lit 0)) (nat_lit 0)), (@Value.ref (nat_lit 175)), (@Value.int (.ofNat (nat_lit 56)) (nat_lit 0)), (@Value.int (.ofNat (nat_lit 0)) (nat_lit 0)), (@Value.ref (nat_lit 182)), (@Value.int (.ofNat (nat_lit 62)) (nat_lit 0)), (@Value.int (.ofNat (nat_lit 0)) (nat_lit 0)), (@Value.ref (nat_lit 189)), (@Value.int (.ofNat (nat_lit 68)) (nat_lit 0)), (@Value.int (.ofNat (nat_lit 0)) (nat_lit 0)), (@Value.ref (nat_lit 196)), (@Value.int (.ofNat (nat_lit 72)) (nat_lit 0)), (@Value.int (.ofNat (nat_lit 0)) (nat_lit 0)), (@Value.ref (nat_lit 201)), (@Value.int (.ofNat (nat_lit 76)) (nat_lit 0)), (@Value.int (.ofNat (nat_lit 0)) (nat_lit 0)), (@Value.ref (nat_lit 206)), (@Value.int (.ofNat (nat_lit 80)) (nat_lit 0)), (@Value.int (.ofNat (nat_lit 0)) (nat_lit 0)), (@Value.ref (nat_lit 211))])) (.mk []))
def o111 (P : Params) : Obj := (@Obj.mk (@Value.type "tuple") none (@Data.seq (.mk [(@Value.type "LookupError")]) (nat_lit 0)) (.mk []))
def o112 (P : Params) : Obj := (@Obj.mk (@Value.type "builtin_function_or_method") none (@Data.fields (.mk [(@Value.builtin "type.__prepare__"), (@Value.type "type")])) (.mk []))
def o113 (P : Params) : Obj := (@Obj.mk (@Value.type "dict") none (@Data.dict (.mk [(@DictEntry.mk (@PyData.keyHash P (@Str.ofString "__module__")) (@Value.str (@Str.ofString "__module__") (nat_lit 321)) (@Value.str (@Str.ofString "menuhouses.errors") (nat_lit 194))), (@DictEntry.mk (@PyData.keyHash P (@Str.ofString "__qualname__")) (@Value.str (@Str.ofString "__qualname__") (nat_lit 323)) (@Value.str (@Str.ofString "WrongName") (nat_lit 322))), (@DictEntry.mk (@PyData.keyHash P (@Str.ofString "__firstlineno__")) (@Value.str (@Str.ofString "__firstlineno__") (nat_lit 325)) (@Value.int (.ofNat (nat_lit 23)) (nat_lit 324))), (@DictEntry.mk (@PyData.keyHash P (@Str.ofString "__static_attributes__")) (@Value.str (@Str.ofString "__static_attributes__") (nat_lit 326)) (@Value.ref (nat_lit 118)))]) (nat_lit 4)) (.mk []))
def o114 (P : Params) : Obj := (@Obj.mk (@Value.type "tuple") none (@Data.seq (.mk []) (nat_lit 0)) (.mk []))
def o115 (P : Params) : Obj := (@Obj.mk Value.none none (@Data.fields (.mk [])) (.mk []))
def o116 (P : Params) : Obj := (@Obj.mk (@Value.type "code") none (@Data.fields (.mk [(@Value.str (@Str.ofString "WrongName") (nat_lit 316)), (@Value.str (@Str.ofString "WrongName") (nat_lit 317)), (@Value.str (@Str.ofString "/claim/cut.py") (nat_lit 318)), (@Value.int (.ofNat (nat_lit 23)) (nat_lit 0)), (@Value.int (.ofNat (nat_lit 0)) (nat_lit 0)), (@Value.int (.ofNat (nat_lit 0)) (nat_lit 0)), (@Value.int (.ofNat (nat_lit 0)) (nat_lit 0)), (@Value.int (.ofNat (nat_lit 0)) (nat_lit 0)), (@Value.ref (nat_lit 114)), (@Value.bool false), (@Value.int (.ofNat (nat_lit 181)) (nat_lit 0)), (@Value.ref (nat_lit 115)), Value.none, Value.none, Value.none, Value.none, (@Value.int (.ofNat (nat_lit 319)) (nat_lit 0)), (@Value.int (.ofNat (nat_lit 23)) (nat_lit 0)), (@Value.str (@Str.ofString "/claim/cut.py") (nat_lit 320))])) (.mk []))
def o117 (P : Params) : Obj := (@Obj.mk (@Value.type "frame") none Data.plain (.mk [(some (@Value.ref (nat_lit 116))), (some (@Value.ref (nat_lit 3))), (some (@Value.ref (nat_lit 113))), none, (some (@Value.str (@Str.ofString "menuhouses.errors") (nat_lit 194))), none, (some (@Value.ref (nat_lit 0)))]))
def o118 (P : Params) : Obj := (@Obj.mk (@Value.type "tuple") none (@Data.seq (.mk []) (nat_lit 0)) (.mk []))
def o119 (P : Params) : Obj := (@Obj.mk (@Value.type "dict") none (@Data.dict (.mk [(@DictEntry.mk (@PyData.keyHash P (@Str.ofString "__module__")) (@Value.str (@Str.ofString "__module__") (nat_lit 321)) (@Value.str (@Str.ofString "menuhouses.errors") (nat_lit 194))), (@DictEntry.mk (@PyData.keyHash P (@Str.ofString "__firstlineno__")) (@Value.str (@Str.ofString "__firstlineno__") (nat_lit 325)) (@Value.int (.ofNat (nat_lit 23)) (nat_lit 324))), (@DictEntry.mk (@PyData.keyHash P (@Str.ofString "__static_attributes__")) (@Value.str (@Str.ofString "__static_attributes__") (nat_lit 326)) (@Value.ref (nat_lit 118))), (@DictEntry.mk (@PyData.keyHash P (@Str.ofString "__weakref__")) (@Value.str (@Str.ofString "__weakref__") (nat_lit 328)) (@Value.ref (nat_lit 121))), (@DictEntry.mk (@PyData.keyHash P (@Str.ofString "__doc__")) (@Value.str (@Str.ofString "__doc__") (nat_lit 329)) Value.none)]) (nat_lit 3)) (.mk []))
def o120 (P : Params) : Obj := (@Obj.mk (@Value.type "type") none (@Data.cls (@ClassData.mk (@Str.ofString "WrongName") [(@Value.type "LookupError")] [(@Value.ref (nat_lit 120)), (@Value.type "LookupError"), (@Value.type "Exception"), (@Value.type "BaseException"), (@Value.type "object")] (nat_lit 119) (@Str.ofString "WrongName") true [] [(@Value.ref (nat_lit 140))] false none false)) (.mk [(some (@Value.ref (nat_lit 111))), none, (some (@Value.str (@Str.ofString "WrongName") (nat_lit 314))), (some (@Value.str (@Str.ofString "WrongName") (nat_lit 322))), (some (@Value.builtin "LookupError.__new__")), (some (@Value.bool true))]))
def o121 (P : Params) : Obj := (@Obj.mk (@Value.type "getset_descriptor") none (@Data.fields (.mk [(@Value.str (@Str.ofString "__weakref__") (nat_lit 327)), (@Value.ref (nat_lit 120)), (@Value.builtin "ExceptionGroup.__weakref__"), Value.none])) (.mk []))
def o122 (P : Params) : Obj := (@Obj.mk (@Value.type "super") none (@Data.fields (.mk [(@Value.ref (nat_lit 120)), (@Value.ref (nat_lit 120)), (@Value.ref (nat_lit 120))])) (.mk []))
def o123 (P : Params) : Obj := (@Obj.mk (@Value.type "builtin_function_or_method") none (@Data.fields (.mk [(@Value.builtin "object.__init_subclass__"), (@Value.ref (nat_lit 120))])) (.mk []))
def o124 (P : Params) : Obj := (@Obj.mk (@Value.type "tuple") none (@Data.seq (.mk [(@Value.ref (nat_lit 120))]) (nat_lit 0)) (.mk []))
def o125 (P : Params) : Obj := (@Obj.mk (@Value.type "builtin_function_or_method") none (@Data.fields (.mk [(@Value.builtin "type.__prepare__"), (@Value.type "type")])) (.mk []))
def o126 (P : Params) : Obj := (@Obj.mk (@Value.type "dict") none (@Data.dict (.mk [(@DictEntry.mk (@PyData.keyHash P (@Str.ofString "__module__")) (@Value.str (@Str.ofString "__module__") (nat_lit 339)) (@Value.str (@Str.ofString "menuhouses.errors") (nat_lit 194))), (@DictEntry.mk (@PyData.keyHash P (@Str.ofString "__qualname__")) (@Value.str (@Str.ofString "__qualname__") (nat_lit 341)) (@Value.str (@Str.ofString "UnknownThing") (nat_lit 340))), (@DictEntry.mk (@PyData.keyHash P (@Str.ofString "__firstlineno__")) (@Value.str (@Str.ofString "__firstlineno__") (nat_lit 343)) (@Value.int (.ofNat (nat_lit 25)) (nat_lit 342))), (@DictEntry.mk (@PyData.keyHash P (@Str.ofString "__init__")) (@Value.str (@Str.ofString "__init__") (nat_lit 351)) (@Value.ref (nat_lit 137))), (@DictEntry.mk (@PyData.keyHash P (@Str.ofString "__static_attributes__")) (@Value.str (@Str.ofString "__static_attributes__") (nat_lit 353)) (@Value.ref (nat_lit 138)))]) (nat_lit 5)) (.mk []))
def o127 (P : Params) : Obj := (@Obj.mk (@Value.type "tuple") none (@Data.seq (.mk []) (nat_lit 0)) (.mk []))
def o128 (P : Params) : Obj := (@Obj.mk Value.none none (@Data.fields (.mk [(@Value.int (.ofNat (nat_lit 27)) (nat_lit 0)), (@Value.int (.ofNat (nat_lit 4)) (nat_lit 0)), (@Value.ref (nat_lit 136))])) (.mk []))
def o129 (P : Params) : Obj := (@Obj.mk (@Value.type "code") none (@Data.fields (.mk [(@Value.str (@Str.ofString "UnknownThing") (nat_lit 334)), (@Value.str (@Str.ofString "UnknownThing") (nat_lit 335)), (@Value.str (@Str.ofString "/claim/cut.py") (nat_lit 336)), (@Value.int (.ofNat (nat_lit 25)) (nat_lit 0)), (@Value.int (.ofNat (nat_lit 0)) (nat_lit 0)), (@Value.int (.ofNat (nat_lit 0)) (nat_lit 0)), (@Value.int (.ofNat (nat_lit 0)) (nat_lit 0)), (@Value.int (.ofNat (nat_lit 0)) (nat_lit 0)), (@Value.ref (nat_lit 127)), (@Value.bool false), (@Value.int (.ofNat (nat_lit 181)) (nat_lit 0)), (@Value.ref (nat_lit 128)), Value.none, Value.none, Value.none, Value.none, (@Value.int (.ofNat (nat_lit 337)) (nat_lit 0)), (@Value.int (.ofNat (nat_lit 25)) (nat_lit 0)), (@Value.str (@Str.ofString "/claim/cut.py") (nat_lit 338))])) (.mk []))
def o130 (P : Params) : Obj := (@Obj.mk (@Value.type "frame") none Data.plain (.mk [(some (@Value.ref (nat_lit 129))), (some (@Value.ref (nat_lit 3))), (some (@Value.ref (nat_lit 126))), none, (some (@Value.str (@Str.ofString "menuhouses.errors") (nat_lit 194))), none, (some (@Value.ref (nat_lit 0)))]))
def o131 (P : Params) : Obj := (@Obj.mk (@Value.type "tuple") none (@Data.seq (.mk []) (nat_lit 0)) (.mk []))
def o132 (P : Params) : Obj := (@Obj.mk Value.none none (@Data.fields (.mk [])) (.mk []))
def o133 (P : Params) : Obj := (@Obj.mk (@Value.type "tuple") none (@Data.seq (.mk [(@Value.str (@Str.ofString "self") (nat_lit 347)), (@Value.str (@Str.ofString "given") (nat_lit 348))]) (nat_lit 0)) (.mk []))
def o134 (P : Params) : Obj := (@Obj.mk (@Value.type "tuple") none (@Data.seq (.mk []) (nat_lit 0)) (.mk []))
def o135 (P : Params) : Obj := (@Obj.mk Value.none none (@Data.func (@FuncData.mk (@Str.ofString "__init__") (@Str.ofString "UnknownThing.__init__") (defArgs (inClass (topS 8) 0)) (@FuncBody.stmts (defBody (inClass (topS 8) 0))) (defScope (inClass (topS 8) 0)) (nat_lit 0) [] Value.none Value.none Value.none Value.none none Value.none Value.none (nat_lit 0))) (.mk []))
def o136 (P : Params) : Obj := (@Obj.mk (@Value.type "code") none (@Data.fields (.mk [(@Value.str (@Str.ofString "__init__") (nat_lit 344)), (@Value.str (@Str.ofString "UnknownThing.__init__") (nat_lit 345)), (@Value.str (@Str.ofString "/claim/cut.py") (nat_lit 346)), (@Value.int (.ofNat (nat_lit 27)) (nat_lit 0)), (@Value.int (.ofNat (nat_lit 2)) (nat_lit 0)), (@Value.int (.ofNat (nat_lit 0)) (nat_lit 0)), (@Value.int (.ofNat (nat_lit 0)) (nat_lit 0)), (@Value.int (.ofNat (nat_lit 3)) (nat_lit 0)), (@Value.ref (nat_lit 131)), (@Value.bool true), (@Value.int (.ofNat (nat_lit 181)) (nat_lit 0)), (@Value.ref (nat_lit 132)), Value.none, (@Value.ref (nat_lit 133)), (@Value.ref (nat_lit 134)), (@Value.ref (nat_lit 135)), (@Value.int (.ofNat (nat_lit 349)) (nat_lit 0)), (@Value.int (.ofNat (nat_lit 27)) (nat_lit 0)), (@Value.str (@Str.ofString "/claim/cut.py") (nat_lit 350))])) (.mk []))
def o137 (P : Params) : Obj := (@Obj.mk (@Value.type "function") none (@Data.func (@FuncData.mk (@Str.ofString "__init__") (@Str.ofString "UnknownThing.__init__") (defArgs (inClass (topS 8) 0)) (@FuncBody.stmts (defBody (inClass (topS 8) 0))) (defScope (inClass (topS 8) 0)) (nat_lit 3) [] Value.none Value.none Value.none (@Value.str (@Str.ofString "menuhouses.errors") (nat_lit 194)) none (@Value.ref (nat_lit 136)) Value.none (nat_lit 0))) (.mk []))
def o138 (P : Params) : Obj := (@Obj.mk (@Value.type "tuple") none (@Data.seq (.mk [(@Value.str (@Str.ofString "given") (nat_lit 352))]) (nat_lit 0)) (.mk []))
def o139 (P : Params) : Obj := (@Obj.mk (@Value.type "dict") none (@Data.dict (.mk [(@DictEntry.mk (@PyData.keyHash P (@Str.ofString "__module__")) (@Value.str (@Str.ofString "__module__") (nat_lit 339)) (@Value.str (@Str.ofString "menuhouses.errors") (nat_lit 194))), (@DictEntry.mk (@PyData.keyHash P (@Str.ofString "__firstlineno__")) (@Value.str (@Str.ofString "__firstlineno__") (nat_lit 343)) (@Value.int (.ofNat (nat_lit 25)) (nat_lit 342))), (@DictEntry.mk (@PyData.keyHash P (@Str.ofString "__init__")) (@Value.str (@Str.ofString "__init__") (nat_lit 351)) (@Value.ref (nat_lit 137))), (@DictEntry.mk (@PyData.keyHash P (@Str.ofString "__static_attributes__")) (@Value.str (@Str.ofString "__static_attributes__") (nat_lit 353)) (@Value.ref (nat_lit 138))), (@DictEntry.mk (@PyData.keyHash P (@Str.ofString "__doc__")) (@Value.str (@Str.ofString "__doc__") (nat_lit 354)) Value.none)]) (nat_lit 2)) (.mk []))
def o140 (P : Params) : Obj := (@Obj.mk (@Value.type "type") none (@Data.cls (@ClassData.mk (@Str.ofString "UnknownThing") [(@Value.ref (nat_lit 120))] [(@Value.ref (nat_lit 140)), (@Value.ref (nat_lit 120)), (@Value.type "LookupError"), (@Value.type "Exception"), (@Value.type "BaseException"), (@Value.type "object")] (nat_lit 139) (@Str.ofString "UnknownThing") true [] [] false none false)) (.mk [(some (@Value.ref (nat_lit 124))), none, (some (@Value.str (@Str.ofString "UnknownThing") (nat_lit 332))), (some (@Value.str (@Str.ofString "UnknownThing") (nat_lit 340))), (some (@Value.builtin "LookupError.__new__")), (some (@Value.bool true))]))
def o141 (P : Params) : Obj := (@Obj.mk (@Value.type "super") none (@Data.fields (.mk [(@Value.ref (nat_lit 140)), (@Value.ref (nat_lit 140)), (@Value.ref (nat_lit 140))])) (.mk []))
def o142 (P : Params) : Obj := (@Obj.mk (@Value.type "builtin_function_or_method") none (@Data.fields (.mk [(@Value.builtin "object.__init_subclass__"), (@Value.ref (nat_lit 140))])) (.mk []))
def o143 (P : Params) : Obj := (@Obj.mk (@Value.type "tuple") none (@Data.seq (.mk []) (nat_lit 0)) (.mk []))
def o144 (P : Params) : Obj := (@Obj.mk Value.none none (@Data.fields (.mk [])) (.mk []))
def o145 (P : Params) : Obj := (@Obj.mk Value.none none (@Data.func (@FuncData.mk (@Str.ofString "is_name") (@Str.ofString "is_name") (defArgs (topS 14)) (@FuncBody.stmts (defBody (topS 14))) (defScope (topS 14)) (nat_lit 0) [] Value.none Value.none Value.none Value.none none Value.none Value.none (nat_lit 0))) (.mk []))
def o146 (P : Params) : Obj := (@Obj.mk (@Value.type "code") none (@Data.fields (.mk [(@Value.str (@Str.ofString "is_name") (nat_lit 367)), (@Value.str (@Str.ofString "is_name") (nat_lit 368)), (@Value.str (@Str.ofString "/claim/cut.py") (nat_lit 369)), (@Value.int (.ofNat (nat_lit 34)) (nat_lit 0)), (@Value.int (.ofNat (nat_lit 1)) (nat_lit 0)), (@Value.int (.ofNat (nat_lit 0)) (nat_lit 0)), (@Value.int (.ofNat (nat_lit 0)) (nat_lit 0)), (@Value.int (.ofNat (nat_lit 3)) (nat_lit 0)), (@Value.ref (nat_lit 143)), (@Value.bool true), (@Value.int (.ofNat (nat_lit 181)) (nat_lit 0)), (@Value.ref (nat_lit 144)), Value.none, Value.none, Value.none, (@Value.ref (nat_lit 145)), (@Value.int (.ofNat (nat_lit 370)) (nat_lit 0)), (@Value.int (.ofNat (nat_lit 34)) (nat_lit 0)), (@Value.str (@Str.ofString "/claim/cut.py") (nat_lit 371))])) (.mk []))
def o147 (P : Params) : Obj := (@Obj.mk (@Value.type "function") none (@Data.func (@FuncData.mk (@Str.ofString "is_name") (@Str.ofString "is_name") (defArgs (topS 14)) (@FuncBody.stmts (defBody (topS 14))) (defScope (topS 14)) (nat_lit 3) [] Value.none Value.none Value.none (@Value.str (@Str.ofString "menuhouses.checks") (nat_lit 359)) none (@Value.ref (nat_lit 146)) Value.none (nat_lit 0))) (.mk []))
def o148 (P : Params) : Obj := (@Obj.mk (@Value.type "tuple") none (@Data.seq (.mk []) (nat_lit 0)) (.mk []))
def o149 (P : Params) : Obj := (@Obj.mk Value.none none (@Data.fields (.mk [])) (.mk []))
def o150 (P : Params) : Obj := (@Obj.mk (@Value.type "tuple") none (@Data.seq (.mk [(@Value.str (@Str.ofString "value") (nat_lit 376))]) (nat_lit 0)) (.mk []))
def o151 (P : Params) : Obj := (@Obj.mk (@Value.type "tuple") none (@Data.seq (.mk []) (nat_lit 0)) (.mk []))
def o152 (P : Params) : Obj := (@Obj.mk Value.none none (@Data.func (@FuncData.mk (@Str.ofString "is_filled_tuple") (@Str.ofString "is_filled_tuple") (defArgs (topS 15)) (@FuncBody.stmts (defBody (topS 15))) (defScope (topS 15)) (nat_lit 0) [] Value.none Value.none Value.none Value.none none Value.none Value.none (nat_lit 0))) (.mk []))
def o153 (P : Params) : Obj := (@Obj.mk (@Value.type "code") none (@Data.fields (.mk [(@Value.str (@Str.ofString "is_filled_tuple") (nat_lit 373)), (@Value.str (@Str.ofString "is_filled_tuple") (nat_lit 374)), (@Value.str (@Str.ofString "/claim/cut.py") (nat_lit 375)), (@Value.int (.ofNat (nat_lit 38)) (nat_lit 0)), (@Value.int (.ofNat (nat_lit 1)) (nat_lit 0)), (@Value.int (.ofNat (nat_lit 0)) (nat_lit 0)), (@Value.int (.ofNat (nat_lit 0)) (nat_lit 0)), (@Value.int (.ofNat (nat_lit 3)) (nat_lit 0)), (@Value.ref (nat_lit 148)), (@Value.bool true), (@Value.int (.ofNat (nat_lit 181)) (nat_lit 0)), (@Value.ref (nat_lit 149)), Value.none, (@Value.ref (nat_lit 150)), (@Value.ref (nat_lit 151)), (@Value.ref (nat_lit 152)), (@Value.int (.ofNat (nat_lit 377)) (nat_lit 0)), (@Value.int (.ofNat (nat_lit 38)) (nat_lit 0)), (@Value.str (@Str.ofString "/claim/cut.py") (nat_lit 378))])) (.mk []))
def o154 (P : Params) : Obj := (@Obj.mk (@Value.type "function") none (@Data.func (@FuncData.mk (@Str.ofString "is_filled_tuple") (@Str.ofString "is_filled_tuple") (defArgs (topS 15)) (@FuncBody.stmts (defBody (topS 15))) (defScope (topS 15)) (nat_lit 3) [] Value.none Value.none Value.none (@Value.str (@Str.ofString "menuhouses.checks") (nat_lit 359)) none (@Value.ref (nat_lit 153)) Value.none (nat_lit 0))) (.mk []))
def o155 (P : Params) : Obj := (@Obj.mk (@Value.type "tuple") none (@Data.seq (.mk []) (nat_lit 0)) (.mk []))
def o156 (P : Params) : Obj := (@Obj.mk Value.none none (@Data.fields (.mk [])) (.mk []))
def o157 (P : Params) : Obj := (@Obj.mk (@Value.type "tuple") none (@Data.seq (.mk [(@Value.str (@Str.ofString "value") (nat_lit 383)), (@Value.str (@Str.ofString "things") (nat_lit 384))]) (nat_lit 0)) (.mk []))
def o158 (P : Params) : Obj := (@Obj.mk (@Value.type "tuple") none (@Data.seq (.mk []) (nat_lit 0)) (.mk []))
def o159 (P : Params) : Obj := (@Obj.mk Value.none none (@Data.func (@FuncData.mk (@Str.ofString "is_one_of") (@Str.ofString "is_one_of") (defArgs (topS 16)) (@FuncBody.stmts (defBody (topS 16))) (defScope (topS 16)) (nat_lit 0) [] Value.none Value.none Value.none Value.none none Value.none Value.none (nat_lit 0))) (.mk []))
def o160 (P : Params) : Obj := (@Obj.mk (@Value.type "code") none (@Data.fields (.mk [(@Value.str (@Str.ofString "is_one_of") (nat_lit 380)), (@Value.str (@Str.ofString "is_one_of") (nat_lit 381)), (@Value.str (@Str.ofString "/claim/cut.py") (nat_lit 382)), (@Value.int (.ofNat (nat_lit 40)) (nat_lit 0)), (@Value.int (.ofNat (nat_lit 2)) (nat_lit 0)), (@Value.int (.ofNat (nat_lit 0)) (nat_lit 0)), (@Value.int (.ofNat (nat_lit 0)) (nat_lit 0)), (@Value.int (.ofNat (nat_lit 3)) (nat_lit 0)), (@Value.ref (nat_lit 155)), (@Value.bool true), (@Value.int (.ofNat (nat_lit 181)) (nat_lit 0)), (@Value.ref (nat_lit 156)), Value.none, (@Value.ref (nat_lit 157)), (@Value.ref (nat_lit 158)), (@Value.ref (nat_lit 159)), (@Value.int (.ofNat (nat_lit 385)) (nat_lit 0)), (@Value.int (.ofNat (nat_lit 40)) (nat_lit 0)), (@Value.str (@Str.ofString "/claim/cut.py") (nat_lit 386))])) (.mk []))
def o161 (P : Params) : Obj := (@Obj.mk (@Value.type "function") none (@Data.func (@FuncData.mk (@Str.ofString "is_one_of") (@Str.ofString "is_one_of") (defArgs (topS 16)) (@FuncBody.stmts (defBody (topS 16))) (defScope (topS 16)) (nat_lit 3) [] Value.none Value.none Value.none (@Value.str (@Str.ofString "menuhouses.checks") (nat_lit 359)) none (@Value.ref (nat_lit 160)) Value.none (nat_lit 0))) (.mk []))
def o162 (P : Params) : Obj := (@Obj.mk (@Value.type "tuple") none (@Data.seq (.mk [(@Value.int (.ofNat (nat_lit 10)) (nat_lit 357))]) (nat_lit 0)) (.mk []))
def o163 (P : Params) : Obj := (@Obj.mk (@Value.type "tuple") none (@Data.seq (.mk []) (nat_lit 0)) (.mk []))
def o164 (P : Params) : Obj := (@Obj.mk Value.none none (@Data.fields (.mk [])) (.mk []))
def o165 (P : Params) : Obj := (@Obj.mk (@Value.type "tuple") none (@Data.seq (.mk [(@Value.str (@Str.ofString "names") (nat_lit 391)), (@Value.str (@Str.ofString "most") (nat_lit 392)), (@Value.str (@Str.ofString "at") (nat_lit 393)), (@Value.str (@Str.ofString "name") (nat_lit 394))]) (nat_lit 0)) (.mk []))
def o166 (P : Params) : Obj := (@Obj.mk (@Value.type "tuple") none (@Data.seq (.mk []) (nat_lit 0)) (.mk []))
def o167 (P : Params) : Obj := (@Obj.mk Value.none none (@Data.func (@FuncData.mk (@Str.ofString "first_wrong_of_names") (@Str.ofString "first_wrong_of_names") (defArgs (topS 17)) (@FuncBody.stmts (defBody (topS 17))) (defScope (topS 17)) (nat_lit 0) [] Value.none Value.none Value.none Value.none none Value.none Value.none (nat_lit 0))) (.mk []))
def o168 (P : Params) : Obj := (@Obj.mk (@Value.type "code") none (@Data.fields (.mk [(@Value.str (@Str.ofString "first_wrong_of_names") (nat_lit 388)), (@Value.str (@Str.ofString "first_wrong_of_names") (nat_lit 389)), (@Value.str (@Str.ofString "/claim/cut.py") (nat_lit 390)), (@Value.int (.ofNat (nat_lit 42)) (nat_lit 0)), (@Value.int (.ofNat (nat_lit 2)) (nat_lit 0)), (@Value.int (.ofNat (nat_lit 0)) (nat_lit 0)), (@Value.int (.ofNat (nat_lit 0)) (nat_lit 0)), (@Value.int (.ofNat (nat_lit 3)) (nat_lit 0)), (@Value.ref (nat_lit 163)), (@Value.bool true), (@Value.int (.ofNat (nat_lit 181)) (nat_lit 0)), (@Value.ref (nat_lit 164)), Value.none, (@Value.ref (nat_lit 165)), (@Value.ref (nat_lit 166)), (@Value.ref (nat_lit 167)), (@Value.int (.ofNat (nat_lit 395)) (nat_lit 0)), (@Value.int (.ofNat (nat_lit 42)) (nat_lit 0)), (@Value.str (@Str.ofString "/claim/cut.py") (nat_lit 396))])) (.mk []))
def o169 (P : Params) : Obj := (@Obj.mk (@Value.type "function") none (@Data.func (@FuncData.mk (@Str.ofString "first_wrong_of_names") (@Str.ofString "first_wrong_of_names") (defArgs (topS 17)) (@FuncBody.stmts (defBody (topS 17))) (defScope (topS 17)) (nat_lit 3) [] (@Value.ref (nat_lit 162)) Value.none Value.none (@Value.str (@Str.ofString "menuhouses.checks") (nat_lit 359)) none (@Value.ref (nat_lit 168)) Value.none (nat_lit 0))) (.mk []))
def o170 (P : Params) : Obj := (@Obj.mk (@Value.type "tuple") none (@Data.seq (.mk []) (nat_lit 0)) (.mk []))
def o171 (P : Params) : Obj := (@Obj.mk Value.none none (@Data.fields (.mk [])) (.mk []))
def o172 (P : Params) : Obj := (@Obj.mk (@Value.type "tuple") none (@Data.seq (.mk [(@Value.str (@Str.ofString "menu") (nat_lit 401)), (@Value.str (@Str.ofString "things") (nat_lit 402)), (@Value.str (@Str.ofString "at") (nat_lit 403)), (@Value.str (@Str.ofString "thing") (nat_lit 404))]) (nat_lit 0)) (.mk []))
def o173 (P : Params) : Obj := (@Obj.mk (@Value.type "tuple") none (@Data.seq (.mk []) (nat_lit 0)) (.mk []))
def o174 (P : Params) : Obj := (@Obj.mk Value.none none (@Data.func (@FuncData.mk (@Str.ofString "first_wrong_on_menu") (@Str.ofString "first_wrong_on_menu") (defArgs (topS 18)) (@FuncBody.stmts (defBody (topS 18))) (defScope (topS 18)) (nat_lit 0) [] Value.none Value.none Value.none Value.none none Value.none Value.none (nat_lit 0))) (.mk []))
def o175 (P : Params) : Obj := (@Obj.mk (@Value.type "code") none (@Data.fields (.mk [(@Value.str (@Str.ofString "first_wrong_on_menu") (nat_lit 398)), (@Value.str (@Str.ofString "first_wrong_on_menu") (nat_lit 399)), (@Value.str (@Str.ofString "/claim/cut.py") (nat_lit 400)), (@Value.int (.ofNat (nat_lit 49)) (nat_lit 0)), (@Value.int (.ofNat (nat_lit 2)) (nat_lit 0)), (@Value.int (.ofNat (nat_lit 0)) (nat_lit 0)), (@Value.int (.ofNat (nat_lit 0)) (nat_lit 0)), (@Value.int (.ofNat (nat_lit 3)) (nat_lit 0)), (@Value.ref (nat_lit 170)), (@Value.bool true), (@Value.int (.ofNat (nat_lit 181)) (nat_lit 0)), (@Value.ref (nat_lit 171)), Value.none, (@Value.ref (nat_lit 172)), (@Value.ref (nat_lit 173)), (@Value.ref (nat_lit 174)), (@Value.int (.ofNat (nat_lit 405)) (nat_lit 0)), (@Value.int (.ofNat (nat_lit 49)) (nat_lit 0)), (@Value.str (@Str.ofString "/claim/cut.py") (nat_lit 406))])) (.mk []))
def o176 (P : Params) : Obj := (@Obj.mk (@Value.type "function") none (@Data.func (@FuncData.mk (@Str.ofString "first_wrong_on_menu") (@Str.ofString "first_wrong_on_menu") (defArgs (topS 18)) (@FuncBody.stmts (defBody (topS 18))) (defScope (topS 18)) (nat_lit 3) [] Value.none Value.none Value.none (@Value.str (@Str.ofString "menuhouses.checks") (nat_lit 359)) none (@Value.ref (nat_lit 175)) Value.none (nat_lit 0))) (.mk []))
def o177 (P : Params) : Obj := (@Obj.mk (@Value.type "tuple") none (@Data.seq (.mk []) (nat_lit 0)) (.mk []))
def o178 (P : Params) : Obj := (@Obj.mk Value.none none (@Data.fields (.mk [])) (.mk []))
def o179 (P : Params) : Obj := (@Obj.mk (@Value.type "tuple") none (@Data.seq (.mk [(@Value.str (@Str.ofString "menu") (nat_lit 411)), (@Value.str (@Str.ofString "wrong") (nat_lit 412))]) (nat_lit 0)) (.mk []))
def o180 (P : Params) : Obj := (@Obj.mk (@Value.type "tuple") none (@Data.seq (.mk []) (nat_lit 0)) (.mk []))
def o181 (P : Params) : Obj := (@Obj.mk Value.none none (@Data.func (@FuncData.mk (@Str.ofString "check_names_of_menu") (@Str.ofString "check_names_of_menu") (defArgs (topS 19)) (@FuncBody.stmts (defBody (topS 19))) (defScope (topS 19)) (nat_lit 0) [] Value.none Value.none Value.none Value.none none Value.none Value.none (nat_lit 0))) (.mk []))
def o182 (P : Params) : Obj := (@Obj.mk (@Value.type "code") none (@Data.fields (.mk [(@Value.str (@Str.ofString "check_names_of_menu") (nat_lit 408)), (@Value.str (@Str.ofString "check_names_of_menu") (nat_lit 409)), (@Value.str (@Str.ofString "/claim/cut.py") (nat_lit 410)), (@Value.int (.ofNat (nat_lit 56)) (nat_lit 0)), (@Value.int (.ofNat (nat_lit 1)) (nat_lit 0)), (@Value.int (.ofNat (nat_lit 0)) (nat_lit 0)), (@Value.int (.ofNat (nat_lit 0)) (nat_lit 0)), (@Value.int (.ofNat (nat_lit 3)) (nat_lit 0)), (@Value.ref (nat_lit 177)), (@Value.bool true), (@Value.int (.ofNat (nat_lit 181)) (nat_lit 0)), (@Value.ref (nat_lit 178)), Value.none, (@Value.ref (nat_lit 179)), (@Value.ref (nat_lit 180)), (@Value.ref (nat_lit 181)), (@Value.int (.ofNat (nat_lit 413)) (nat_lit 0)), (@Value.int (.ofNat (nat_lit 56)) (nat_lit 0)), (@Value.str (@Str.ofString "/claim/cut.py") (nat_lit 414))])) (.mk []))
def o183 (P : Params) : Obj := (@Obj.mk (@Value.type "function") none (@Data.func (@FuncData.mk (@Str.ofString "check_names_of_menu") (@Str.ofString "check_names_of_menu") (defArgs (topS 19)) (@FuncBody.stmts (defBody (topS 19))) (defScope (topS 19)) (nat_lit 3) [] Value.none Value.none Value.none (@Value.str (@Str.ofString "menuhouses.checks") (nat_lit 359)) none (@Value.ref (nat_lit 182)) Value.none (nat_lit 0))) (.mk []))
def o184 (P : Params) : Obj := (@Obj.mk (@Value.type "tuple") none (@Data.seq (.mk []) (nat_lit 0)) (.mk []))
def o185 (P : Params) : Obj := (@Obj.mk Value.none none (@Data.fields (.mk [])) (.mk []))
def o186 (P : Params) : Obj := (@Obj.mk (@Value.type "tuple") none (@Data.seq (.mk [(@Value.str (@Str.ofString "taken") (nat_lit 419)), (@Value.str (@Str.ofString "menu") (nat_lit 420)), (@Value.str (@Str.ofString "wrong") (nat_lit 421))]) (nat_lit 0)) (.mk []))
def o187 (P : Params) : Obj := (@Obj.mk (@Value.type "tuple") none (@Data.seq (.mk []) (nat_lit 0)) (.mk []))
def o188 (P : Params) : Obj := (@Obj.mk Value.none none (@Data.func (@FuncData.mk (@Str.ofString "check_taken") (@Str.ofString "check_taken") (defArgs (topS 20)) (@FuncBody.stmts (defBody (topS 20))) (defScope (topS 20)) (nat_lit 0) [] Value.none Value.none Value.none Value.none none Value.none Value.none (nat_lit 0))) (.mk []))
def o189 (P : Params) : Obj := (@Obj.mk (@Value.type "code") none (@Data.fields (.mk [(@Value.str (@Str.ofString "check_taken") (nat_lit 416)), (@Value.str (@Str.ofString "check_taken") (nat_lit 417)), (@Value.str (@Str.ofString "/claim/cut.py") (nat_lit 418)), (@Value.int (.ofNat (nat_lit 62)) (nat_lit 0)), (@Value.int (.ofNat (nat_lit 2)) (nat_lit 0)), (@Value.int (.ofNat (nat_lit 0)) (nat_lit 0)), (@Value.int (.ofNat (nat_lit 0)) (nat_lit 0)), (@Value.int (.ofNat (nat_lit 3)) (nat_lit 0)), (@Value.ref (nat_lit 184)), (@Value.bool true), (@Value.int (.ofNat (nat_lit 181)) (nat_lit 0)), (@Value.ref (nat_lit 185)), Value.none, (@Value.ref (nat_lit 186)), (@Value.ref (nat_lit 187)), (@Value.ref (nat_lit 188)), (@Value.int (.ofNat (nat_lit 422)) (nat_lit 0)), (@Value.int (.ofNat (nat_lit 62)) (nat_lit 0)), (@Value.str (@Str.ofString "/claim/cut.py") (nat_lit 423))])) (.mk []))
def o190 (P : Params) : Obj := (@Obj.mk (@Value.type "function") none (@Data.func (@FuncData.mk (@Str.ofString "check_taken") (@Str.ofString "check_taken") (defArgs (topS 20)) (@FuncBody.stmts (defBody (topS 20))) (defScope (topS 20)) (nat_lit 3) [] Value.none Value.none Value.none (@Value.str (@Str.ofString "menuhouses.checks") (nat_lit 359)) none (@Value.ref (nat_lit 189)) Value.none (nat_lit 0))) (.mk []))
def o191 (P : Params) : Obj := (@Obj.mk (@Value.type "tuple") none (@Data.seq (.mk []) (nat_lit 0)) (.mk []))
def o192 (P : Params) : Obj := (@Obj.mk Value.none none (@Data.fields (.mk [])) (.mk []))
def o193 (P : Params) : Obj := (@Obj.mk (@Value.type "tuple") none (@Data.seq (.mk [(@Value.str (@Str.ofString "thing") (nat_lit 428)), (@Value.str (@Str.ofString "things") (nat_lit 429))]) (nat_lit 0)) (.mk []))
def o194 (P : Params) : Obj := (@Obj.mk (@Value.type "tuple") none (@Data.seq (.mk []) (nat_lit 0)) (.mk []))
def o195 (P : Params) : Obj := (@Obj.mk Value.none none (@Data.func (@FuncData.mk (@Str.ofString "check_thing") (@Str.ofString "check_thing") (defArgs (topS 21)) (@FuncBody.stmts (defBody (topS 21))) (defScope (topS 21)) (nat_lit 0) [] Value.none Value.none Value.none Value.none none Value.none Value.none (nat_lit 0))) (.mk []))
def o196 (P : Params) : Obj := (@Obj.mk (@Value.type "code") none (@Data.fields (.mk [(@Value.str (@Str.ofString "check_thing") (nat_lit 425)), (@Value.str (@Str.ofString "check_thing") (nat_lit 426)), (@Value.str (@Str.ofString "/claim/cut.py") (nat_lit 427)), (@Value.int (.ofNat (nat_lit 68)) (nat_lit 0)), (@Value.int (.ofNat (nat_lit 2)) (nat_lit 0)), (@Value.int (.ofNat (nat_lit 0)) (nat_lit 0)), (@Value.int (.ofNat (nat_lit 0)) (nat_lit 0)), (@Value.int (.ofNat (nat_lit 3)) (nat_lit 0)), (@Value.ref (nat_lit 191)), (@Value.bool true), (@Value.int (.ofNat (nat_lit 181)) (nat_lit 0)), (@Value.ref (nat_lit 192)), Value.none, (@Value.ref (nat_lit 193)), (@Value.ref (nat_lit 194)), (@Value.ref (nat_lit 195)), (@Value.int (.ofNat (nat_lit 430)) (nat_lit 0)), (@Value.int (.ofNat (nat_lit 68)) (nat_lit 0)), (@Value.str (@Str.ofString "/claim/cut.py") (nat_lit 431))])) (.mk []))
def o197 (P : Params) : Obj := (@Obj.mk (@Value.type "function") none (@Data.func (@FuncData.mk (@Str.ofString "check_thing") (@Str.ofString "check_thing") (defArgs (topS 21)) (@FuncBody.stmts (defBody (topS 21))) (defScope (topS 21)) (nat_lit 3) [] Value.none Value.none Value.none (@Value.str (@Str.ofString "menuhouses.checks") (nat_lit 359)) none (@Value.ref (nat_lit 196)) Value.none (nat_lit 0))) (.mk []))
def o198 (P : Params) : Obj := (@Obj.mk (@Value.type "tuple") none (@Data.seq (.mk []) (nat_lit 0)) (.mk []))
def o199 (P : Params) : Obj := (@Obj.mk Value.none none (@Data.fields (.mk [])) (.mk []))
def o200 (P : Params) : Obj := (@Obj.mk Value.none none (@Data.func (@FuncData.mk (@Str.ofString "index_of") (@Str.ofString "index_of") (defArgs (topS 23)) (@FuncBody.stmts (defBody (topS 23))) (defScope (topS 23)) (nat_lit 0) [] Value.none Value.none Value.none Value.none none Value.none Value.none (nat_lit 0))) (.mk []))
def o201 (P : Params) : Obj := (@Obj.mk (@Value.type "code") none (@Data.fields (.mk [(@Value.str (@Str.ofString "index_of") (nat_lit 435)), (@Value.str (@Str.ofString "index_of") (nat_lit 436)), (@Value.str (@Str.ofString "/claim/cut.py") (nat_lit 437)), (@Value.int (.ofNat (nat_lit 72)) (nat_lit 0)), (@Value.int (.ofNat (nat_lit 2)) (nat_lit 0)), (@Value.int (.ofNat (nat_lit 0)) (nat_lit 0)), (@Value.int (.ofNat (nat_lit 0)) (nat_lit 0)), (@Value.int (.ofNat (nat_lit 3)) (nat_lit 0)), (@Value.ref (nat_lit 198)), (@Value.bool true), (@Value.int (.ofNat (nat_lit 181)) (nat_lit 0)), (@Value.ref (nat_lit 199)), Value.none, Value.none, Value.none, (@Value.ref (nat_lit 200)), (@Value.int (.ofNat (nat_lit 438)) (nat_lit 0)), (@Value.int (.ofNat (nat_lit 72)) (nat_lit 0)), (@Value.str (@Str.ofString "/claim/cut.py") (nat_lit 439))])) (.mk []))
def o202 (P : Params) : Obj := (@Obj.mk (@Value.type "function") none (@Data.func (@FuncData.mk (@Str.ofString "index_of") (@Str.ofString "index_of") (defArgs (topS 23)) (@FuncBody.stmts (defBody (topS 23))) (defScope (topS 23)) (nat_lit 3) [] Value.none Value.none Value.none (@Value.str (@Str.ofString "menuhouses.masks") (nat_lit 433)) none (@Value.ref (nat_lit 201)) Value.none (nat_lit 0))) (.mk []))
def o203 (P : Params) : Obj := (@Obj.mk (@Value.type "tuple") none (@Data.seq (.mk []) (nat_lit 0)) (.mk []))
def o204 (P : Params) : Obj := (@Obj.mk Value.none none (@Data.fields (.mk [])) (.mk []))
def o205 (P : Params) : Obj := (@Obj.mk Value.none none (@Data.func (@FuncData.mk (@Str.ofString "are_marks") (@Str.ofString "are_marks") (defArgs (topS 26)) (@FuncBody.stmts (defBody (topS 26))) (defScope (topS 26)) (nat_lit 0) [] Value.none Value.none Value.none Value.none none Value.none Value.none (nat_lit 0))) (.mk []))
def o206 (P : Params) : Obj := (@Obj.mk (@Value.type "code") none (@Data.fields (.mk [(@Value.str (@Str.ofString "are_marks") (nat_lit 445)), (@Value.str (@Str.ofString "are_marks") (nat_lit 446)), (@Value.str (@Str.ofString "/claim/cut.py") (nat_lit 447)), (@Value.int (.ofNat (nat_lit 76)) (nat_lit 0)), (@Value.int (.ofNat (nat_lit 2)) (nat_lit 0)), (@Value.int (.ofNat (nat_lit 0)) (nat_lit 0)), (@Value.int (.ofNat (nat_lit 0)) (nat_lit 0)), (@Value.int (.ofNat (nat_lit 3)) (nat_lit 0)), (@Value.ref (nat_lit 203)), (@Value.bool true), (@Value.int (.ofNat (nat_lit 181)) (nat_lit 0)), (@Value.ref (nat_lit 204)), Value.none, Value.none, Value.none, (@Value.ref (nat_lit 205)), (@Value.int (.ofNat (nat_lit 448)) (nat_lit 0)), (@Value.int (.ofNat (nat_lit 76)) (nat_lit 0)), (@Value.str (@Str.ofString "/claim/cut.py") (nat_lit 449))])) (.mk []))
def o207 (P : Params) : Obj := (@Obj.mk (@Value.type "function") none (@Data.func (@FuncData.mk (@Str.ofString "are_marks") (@Str.ofString "are_marks") (defArgs (topS 26)) (@FuncBody.stmts (defBody (topS 26))) (defScope (topS 26)) (nat_lit 3) [] Value.none Value.none Value.none (@Value.str (@Str.ofString "menuhouses.looks") (nat_lit 441)) none (@Value.ref (nat_lit 206)) Value.none (nat_lit 0))) (.mk []))
def o208 (P : Params) : Obj := (@Obj.mk (@Value.type "tuple") none (@Data.seq (.mk []) (nat_lit 0)) (.mk []))
def o209 (P : Params) : Obj := (@Obj.mk Value.none none (@Data.fields (.mk [])) (.mk []))
def o210 (P : Params) : Obj := (@Obj.mk Value.none none (@Data.func (@FuncData.mk (@Str.ofString "look_at_just") (@Str.ofString "look_at_just") (defArgs (topS 27)) (@FuncBody.stmts (defBody (topS 27))) (defScope (topS 27)) (nat_lit 0) [] Value.none Value.none Value.none Value.none none Value.none Value.none (nat_lit 0))) (.mk []))
def o211 (P : Params) : Obj := (@Obj.mk (@Value.type "code") none (@Data.fields (.mk [(@Value.str (@Str.ofString "look_at_just") (nat_lit 451)), (@Value.str (@Str.ofString "look_at_just") (nat_lit 452)), (@Value.str (@Str.ofString "/claim/cut.py") (nat_lit 453)), (@Value.int (.ofNat (nat_lit 80)) (nat_lit 0)), (@Value.int (.ofNat (nat_lit 2)) (nat_lit 0)), (@Value.int (.ofNat (nat_lit 0)) (nat_lit 0)), (@Value.int (.ofNat (nat_lit 0)) (nat_lit 0)), (@Value.int (.ofNat (nat_lit 3)) (nat_lit 0)), (@Value.ref (nat_lit 208)), (@Value.bool true), (@Value.int (.ofNat (nat_lit 181)) (nat_lit 0)), (@Value.ref (nat_lit 209)), Value.none, Value.none, Value.none, (@Value.ref (nat_lit 210)), (@Value.int (.ofNat (nat_lit 454)) (nat_lit 0)), (@Value.int (.ofNat (nat_lit 80)) (nat_lit 0)), (@Value.str (@Str.ofString "/claim/cut.py") (nat_lit 455))])) (.mk []))
def o212 (P : Params) : Obj := (@Obj.mk (@Value.type "function") none (@Data.func (@FuncData.mk (@Str.ofString "look_at_just") (@Str.ofString "look_at_just") (defArgs (topS 27)) (@FuncBody.stmts (defBody (topS 27))) (defScope (topS 27)) (nat_lit 3) [] Value.none Value.none Value.none (@Value.str (@Str.ofString "menuhouses.looks") (nat_lit 441)) none (@Value.ref (nat_lit 211)) Value.none (nat_lit 0))) (.mk []))
def o3v2 (P : Params) : Obj := (@Obj.mk (@Value.type "dict") none (@Data.dict (.mk [(@DictEntry.mk (@PyData.keyHash P (@Str.ofString "__name__")) (@Value.str (@Str.ofString "__name__") (nat_lit 165)) (@Value.str (@Str.ofString "law_menuhouses_k45_looks_made_and_read") (nat_lit 600))), (@DictEntry.mk (@PyData.keyHash P (@Str.ofString "__doc__")) (@Value.str (@Str.ofString "__doc__") (nat_lit 166)) Value.none), (@DictEntry.mk (@PyData.keyHash P (@Str.ofString "__package__")) (@Value.str (@Str.ofString "__package__") (nat_lit 167)) Value.none), (@DictEntry.mk (@PyData.keyHash P (@Str.ofString "__loader__")) (@Value.str (@Str.ofString "__loader__") (nat_lit 168)) (@Value.builtin "__main__.__loader__#opaque")), (@DictEntry.mk (@PyData.keyHash P (@Str.ofString "__spec__")) (@Value.str (@Str.ofString "__spec__") (nat_lit 169)) Value.none), (@DictEntry.mk (@PyData.keyHash P (@Str.ofString "__annotations__")) (@Value.str (@Str.ofString "__annotations__") (nat_lit 170)) (@Value.ref (nat_lit 6))), (@DictEntry.mk (@PyData.keyHash P (@Str.ofString "__builtins__")) (@Value.str (@Str.ofString "__builtins__") (nat_lit 171)) (@Value.ref (nat_lit 4))), (@DictEntry.mk (@PyData.keyHash P (@Str.ofString "__file__")) (@Value.str (@Str.ofString "__file__") (nat_lit 173)) (@Value.str (@Str.ofString "/claim/cut.py") (nat_lit 172))), (@DictEntry.mk (@PyData.keyHash P (@Str.ofString "__cached__")) (@Value.str (@Str.ofString "__cached__") (nat_lit 174)) Value.none), (@DictEntry.mk (@PyData.keyHash P (@Str.ofString "_wall")) (@Value.str (@Str.ofString "_wall") (nat_lit 193)) (@Value.ref (nat_lit 21))), (@DictEntry.mk (@PyData.keyHash P (@Str.ofString "WrongValue")) (@Value.str (@Str.ofString "WrongValue") (nat_lit 213)) (@Value.ref (nat_lit 31))), (@DictEntry.mk (@PyData.keyHash P (@Str.ofString "InvalidText")) (@Value.str (@Str.ofString "InvalidText") (nat_lit 238)) (@Value.ref (nat_lit 51))), (@DictEntry.mk (@PyData.keyHash P (@Str.ofString "InvalidMarks")) (@Value.str (@Str.ofString "InvalidMarks") (nat_lit 263)) (@Value.ref (nat_lit 70))), (@DictEntry.mk (@PyData.keyHash P (@Str.ofString "InvalidMenu")) (@Value.str (@Str.ofString "InvalidMenu") (nat_lit 288)) (@Value.ref (nat_lit 89))), (@DictEntry.mk (@PyData.keyHash P (@Str.ofString "InvalidTaken")) (@Value.str (@Str.ofString "InvalidTaken") (nat_lit 313)) (@Value.ref (nat_lit 108))), (@DictEntry.mk (@PyData.keyHash P (@Str.ofString "WrongName")) (@Value.str (@Str.ofString "WrongName") (nat_lit 331)) (@Value.ref (nat_lit 120))), (@DictEntry.mk (@PyData.keyHash P (@Str.ofString "UnknownThing")) (@Value.str (@Str.ofString "UnknownThing") (nat_lit 356)) (@Value.ref (nat_lit 140))), (@DictEntry.mk (@PyData.keyHash P (@Str.ofString "MOST_THINGS")) (@Value.str (@Str.ofString "MOST_THINGS") (nat_lit 358)) (@Value.int (.ofNat (nat_lit 10)) (nat_lit 357))), (@DictEntry.mk (@PyData.keyHash P (@Str.ofString "LETTERS")) (@Value.str (@Str.ofString "LETTERS") (nat_lit 362)) (@Value.str (@Str.ofString "abcdefghijklmnopqrstuvwxyz") (nat_lit 361))), (@DictEntry.mk (@PyData.keyHash P (@Str.ofString "DIGITS")) (@Value.str (@Str.ofString "DIGITS") (nat_lit 364)) (@Value.str (@Str.ofString "0123456789") (nat_lit 363))), (@DictEntry.mk (@PyData.keyHash P (@Str.ofString "LONGEST_NAME")) (@Value.str (@Str.ofString "LONGEST_NAME") (nat_lit 366)) (@Value.int (.ofNat (nat_lit 8)) (nat_lit 365))), (@DictEntry.mk (@PyData.keyHash P (@Str.ofString "is_name")) (@Value.str (@Str.ofString "is_name") (nat_lit 372)) (@Value.ref (nat_lit 147))), (@DictEntry.mk (@PyData.keyHash P (@Str.ofString "is_filled_tuple")) (@Value.str (@Str.ofString "is_filled_tuple") (nat_lit 379)) (@Value.ref (nat_lit 154))), (@DictEntry.mk (@PyData.keyHash P (@Str.ofString "is_one_of")) (@Value.str (@Str.ofString "is_one_of") (nat_lit 387)) (@Value.ref (nat_lit 161))), (@DictEntry.mk (@PyData.keyHash P (@Str.ofString "first_wrong_of_names")) (@Value.str (@Str.ofString "first_wrong_of_names") (nat_lit 397)) (@Value.ref (nat_lit 169))), (@DictEntry.mk (@PyData.keyHash P (@Str.ofString "first_wrong_on_menu")) (@Value.str (@Str.ofString "first_wrong_on_menu") (nat_lit 407)) (@Value.ref (nat_lit 176))), (@DictEntry.mk (@PyData.keyHash P (@Str.ofString "check_names_of_menu")) (@Value.str (@Str.ofString "check_names_of_menu") (nat_lit 415)) (@Value.ref (nat_lit 183))), (@DictEntry.mk (@PyData.keyHash P (@Str.ofString "check_taken")) (@Value.str (@Str.ofString "check_taken") (nat_lit 424)) (@Value.ref (nat_lit 190))), (@DictEntry.mk (@PyData.keyHash P (@Str.ofString "check_thing")) (@Value.str (@Str.ofString "check_thing") (nat_lit 432)) (@Value.ref (nat_lit 197))), (@DictEntry.mk (@PyData.keyHash P (@Str.ofString "index_of")) (@Value.str (@Str.ofString "index_of") (nat_lit 440)) (@Value.ref (nat_lit 202))), (@DictEntry.mk (@PyData.keyHash P (@Str.ofString "MARKS")) (@Value.str (@Str.ofString "MARKS") (nat_lit 444)) (@Value.str (@Str.ofString "+-?") (nat_lit 443))), (@DictEntry.mk (@PyData.keyHash P (@Str.ofString "are_marks")) (@Value.str (@Str.ofString "are_marks") (nat_lit 450)) (@Value.ref (nat_lit 207))), (@DictEntry.mk (@PyData.keyHash P (@Str.ofString "look_at_just")) (@Value.str (@Str.ofString "look_at_just") (nat_lit 456)) (@Value.ref (nat_lit 212))), (@DictEntry.mk (@PyData.keyHash P (@Str.ofString "Look")) (@Value.str (@Str.ofString "Look") (nat_lit 599)) (@Value.ref (nat_lit 314))), (@DictEntry.mk (@PyData.keyHash P (@Str.ofString "_law_urn")) (@Value.str (@Str.ofString "_law_urn") (nat_lit 613)) (@Value.ref (nat_lit 325))), (@DictEntry.mk (@PyData.keyHash P (@Str.ofString "_law_draw")) (@Value.str (@Str.ofString "_law_draw") (nat_lit 623)) (@Value.ref (nat_lit 332))), (@DictEntry.mk (@PyData.keyHash P (@Str.ofString "_law_name")) (@Value.str (@Str.ofString "_law_name") (nat_lit 633)) (@Value.ref (nat_lit 339))), (@DictEntry.mk (@PyData.keyHash P (@Str.ofString "_law_names")) (@Value.str (@Str.ofString "_law_names") (nat_lit 639)) (@Value.ref (nat_lit 344))), (@DictEntry.mk (@PyData.keyHash P (@Str.ofString "_law_marks")) (@Value.str (@Str.ofString "_law_marks") (nat_lit 645)) (@Value.ref (nat_lit 349))), (@DictEntry.mk (@PyData.keyHash P (@Str.ofString "_law_text")) (@Value.str (@Str.ofString "_law_text") (nat_lit 651)) (@Value.ref (nat_lit 354))), (@DictEntry.mk (@PyData.keyHash P (@Str.ofString "_law_is")) (@Value.str (@Str.ofString "_law_is") (nat_lit 657)) (@Value.ref (nat_lit 359))), (@DictEntry.mk (@PyData.keyHash P (@Str.ofString "_law_others")) (@Value.str (@Str.ofString "_law_others") (nat_lit 669)) (@Value.ref (nat_lit 366)))]) (nat_lit 42)) (.mk []))
def o12v3 (P : Params) : Obj := (@Obj.mk Value.none none (@Data.fields (.mk [(@Value.int (.ofNat (nat_lit 1)) (nat_lit 0)), (@Value.int (.ofNat (nat_lit 0)) (nat_lit 0)), (@Value.ref (nat_lit 20)), (@Value.int (.ofNat (nat_lit 5)) (nat_lit 0)), (@Value.int (.ofNat (nat_lit 0)) (nat_lit 0)), (@Value.ref (nat_lit 27)), (@Value.int (.ofNat (nat_lit 7)) (nat_lit 0)), (@Value.int (.ofNat (nat_lit 0)) (nat_lit 0)), (@Value.ref (nat_lit 40)), (@Value.int (.ofNat (nat_lit 11)) (nat_lit 0)), (@Value.int (.ofNat (nat_lit 0)) (nat_lit 0)), (@Value.ref (nat_lit 59)), (@Value.int (.ofNat (nat_lit 15)) (nat_lit 0)), (@Value.int (.ofNat (nat_lit 0)) (nat_lit 0)), (@Value.ref (nat_lit 78)), (@Value.int (.ofNat (nat_lit 19)) (nat_lit 0)), (@Value.int (.ofNat (nat_lit 0)) (nat_lit 0)), (@Value.ref (nat_lit 97)), (@Value.int (.ofNat (nat_lit 23)) (nat_lit 0)), (@Value.int (.ofNat (nat_lit 0)) (nat_lit 0)), (@Value.ref (nat_lit 116)), (@Value.int (.ofNat (nat_lit 25)) (nat_lit 0)), (@Value.int (.ofNat (nat_lit 0)) (nat_lit 0)), (@Value.ref (nat_lit 129)), (@Value.int (.ofNat (nat_lit 34)) (nat_lit 0)), (@Value.int (.ofNat (nat_lit 0)) (nat_lit 0)), (@Value.ref (nat_lit 146)), (@Value.int (.ofNat (nat_lit 38)) (nat_lit 0)), (@Value.int (.ofNat (nat_lit 0)) (nat_lit 0)), (@Value.ref (nat_lit 153)), (@Value.int (.ofNat (nat_lit 40)) (nat_lit 0)), (@Value.int (.ofNat (nat_lit 0)) (nat_lit 0)), (@Value.ref (nat_lit 160)), (@Value.int (.ofNat (nat_lit 42)) (nat_lit 0)), (@Value.int (.ofNat (nat_lit 0)) (nat_lit 0)), (@Value.ref (nat_lit 168)), (@Value.int (.ofNat (nat_lit 49)) (nat_lit 0)), (@Value.int (.ofNat (nat_lit 0)) (nat_lit 0)), (@Value.ref (nat_lit 175)), (@Value.int (.ofNat (nat_lit 56)) (nat_lit 0)), (@Value.int (.ofNat (nat_lit 0)) (nat_lit 0)), (@Value.ref (nat_lit 182)), (@Value.int (.ofNat (nat_lit 62)) (nat_lit 0)), (@Value.int (.ofNat (nat_lit 0)) (nat_lit 0)), (@Value.ref (nat_lit 189)), (@Value.int (.ofNat (nat_lit 68)) (nat_lit 0)), (@Value.int (.ofNat (nat_lit 0)) (nat_lit 0)), (@Value.ref (nat_lit 196)), (@Value.int (.ofNat (nat_lit 72)) (nat_lit 0)), (@Value.int (.ofNat (nat_lit 0)) (nat_lit 0)), (@Value.ref (nat_lit 201)), (@Value.int (.ofNat (nat_lit 76)) (nat_lit 0)), (@Value.int (.ofNat (nat_lit 0)) (nat_lit 0)), (@Value.ref (nat_lit 206)), (@Value.int (.ofNat (nat_lit 80)) (nat_lit 0)), (@Value.int (.ofNat (nat_lit 0)) (nat_lit 0)), (@Value.ref (nat_lit 211)), (@Value.int (.ofNat (nat_lit 82)) (nat_lit 0)), (@Value.int (.ofNat (nat_lit 0)) (nat_lit 0)), (@Value.ref (nat_lit 218)), (@Value.int (.ofNat (nat_lit 142)) (nat_lit 0)), (@Value.int (.ofNat (nat_lit 0)) (nat_lit 0)), (@Value.ref (nat_lit 324)), (@Value.int (.ofNat (nat_lit 149)) (nat_lit 0)), (@Value.int (.ofNat (nat_lit 0)) (nat_lit 0)), (@Value.ref (nat_lit 331)), (@Value.int (.ofNat (nat_lit 158)) (nat_lit 0)), (@Value.int (.ofNat (nat_lit 0)) (nat_lit 0)), (@Value.ref (nat_lit 338)), (@Value.int (.ofNat (nat_lit 164)) (nat_lit 0)), (@Value.int (.ofNat (nat_lit 0)) (nat_lit 0)), (@Value.ref (nat_lit 343)), (@Value.int (.ofNat (nat_lit 173)) (nat_lit 0)), (@Value.int (.ofNat (nat_lit 0)) (nat_lit 0)), (@Value.ref (nat_lit 348)), (@Value.int (.ofNat (nat_lit 178)) (nat_lit 0)), (@Value.int (.ofNat (nat_lit 0)) (nat_lit 0)), (@Value.ref (nat_lit 353)), (@Value.int (.ofNat (nat_lit 180)) (nat_lit 0)), (@Value.int (.ofNat (nat_lit 0)) (nat_lit 0)), (@Value.ref (nat_lit 358)), (@Value.int (.ofNat (nat_lit 189)) (nat_lit 0)), (@Value.int (.ofNat (nat_lit 0)) (nat_lit 0)), (@Value.ref (nat_lit 365))])) (.mk []))
def o213 (P : Params) : Obj := (@Obj.mk (@Value.type "tuple") none (@Data.seq (.mk []) (nat_lit 0)) (.mk []))
def o214 (P : Params) : Obj := (@Obj.mk (@Value.type "builtin_function_or_method") none (@Data.fields (.mk [(@Value.builtin "type.__prepare__"), (@Value.type "type")])) (.mk []))
def o215 (P : Params) : Obj := (@Obj.mk (@Value.type "dict") none (@Data.dict (.mk [(@DictEntry.mk (@PyData.keyHash P (@Str.ofString "__module__")) (@Value.str (@Str.ofString "__module__") (nat_lit 464)) (@Value.str (@Str.ofString "menuhouses.looks") (nat_lit 441))), (@DictEntry.mk (@PyData.keyHash P (@Str.ofString "__qualname__")) (@Value.str (@Str.ofString "__qualname__") (nat_lit 466)) (@Value.str (@Str.ofString "Look") (nat_lit 465))), (@DictEntry.mk (@PyData.keyHash P (@Str.ofString "__firstlineno__")) (@Value.str (@Str.ofString "__firstlineno__") (nat_lit 468)) (@Value.int (.ofNat (nat_lit 82)) (nat_lit 467))), (@DictEntry.mk (@PyData.keyHash P (@Str.ofString "__init__")) (@Value.str (@Str.ofString "__init__") (nat_lit 477)) (@Value.ref (nat_lit 226))), (@DictEntry.mk (@PyData.keyHash P (@Str.ofString "read")) (@Value.str (@Str.ofString "read") (nat_lit 495)) (@Value.ref (nat_lit 233))), (@DictEntry.mk (@PyData.keyHash P (@Str.ofString "just")) (@Value.str (@Str.ofString "just") (nat_lit 515)) (@Value.ref (nat_lit 243))), (@DictEntry.mk (@PyData.keyHash P (@Str.ofString "marks")) (@Value.str (@Str.ofString "marks") (nat_lit 523)) (@Value.ref (nat_lit 252))), (@DictEntry.mk (@PyData.keyHash P (@Str.ofString "taken")) (@Value.str (@Str.ofString "taken") (nat_lit 530)) (@Value.ref (nat_lit 258))), (@DictEntry.mk (@PyData.keyHash P (@Str.ofString "passed")) (@Value.str (@Str.ofString "passed") (nat_lit 537)) (@Value.ref (nat_lit 264))), (@DictEntry.mk (@PyData.keyHash P (@Str.ofString "holds")) (@Value.str (@Str.ofString "holds") (nat_lit 545)) (@Value.ref (nat_lit 271))), (@DictEntry.mk (@PyData.keyHash P (@Str.ofString "__getitem__")) (@Value.str (@Str.ofString "__getitem__") (nat_lit 553)) (@Value.ref (nat_lit 278))), (@DictEntry.mk (@PyData.keyHash P (@Str.ofString "__iter__")) (@Value.str (@Str.ofString "__iter__") (nat_lit 560)) (@Value.ref (nat_lit 285))), (@DictEntry.mk (@PyData.keyHash P (@Str.ofString "__len__")) (@Value.str (@Str.ofString "__len__") (nat_lit 567)) (@Value.ref (nat_lit 292))), (@DictEntry.mk (@PyData.keyHash P (@Str.ofString "__str__")) (@Value.str (@Str.ofString "__str__") (nat_lit 573)) (@Value.ref (nat_lit 297))), (@DictEntry.mk (@PyData.keyHash P (@Str.ofString "__repr__")) (@Value.str (@Str.ofString "__repr__") (nat_lit 580)) (@Value.ref (nat_lit 304))), (@DictEntry.mk (@PyData.keyHash P (@Str.ofString "__eq__")) (@Value.str (@Str.ofString "__eq__") (nat_lit 588)) (@Value.ref (nat_lit 311))), (@DictEntry.mk (@PyData.keyHash P (@Str.ofString "__static_attributes__")) (@Value.str (@Str.ofString "__static_attributes__") (nat_lit 591)) (@Value.ref (nat_lit 312)))]) (nat_lit 17)) (.mk []))
def o216 (P : Params) : Obj := (@Obj.mk (@Value.type "tuple") none (@Data.seq (.mk []) (nat_lit 0)) (.mk []))
def o217 (P : Params) : Obj := (@Obj.mk Value.none none (@Data.fields (.mk [(@Value.int (.ofNat (nat_lit 84)) (nat_lit 0)), (@Value.int (.ofNat (nat_lit 4)) (nat_lit 0)), (@Value.ref (nat_lit 225)), (@Value.int (.ofNat (nat_lit 92)) (nat_lit 0)), (@Value.int (.ofNat (nat_lit 4)) (nat_lit 0)), (@Value.ref (nat_lit 230)), (@Value.int (.ofNat (nat_lit 103)) (nat_lit 0)), (@Value.int (.ofNat (nat_lit 4)) (nat_lit 0)), (@Value.ref (nat_lit 240)), (@Value.int (.ofNat (nat_lit 109)) (nat_lit 0)), (@Value.int (.ofNat (nat_lit 4)) (nat_lit 0)), (@Value.ref (nat_lit 250)), (@Value.int (.ofNat (nat_lit 113)) (nat_lit 0)), (@Value.int (.ofNat (nat_lit 4)) (nat_lit 0)), (@Value.ref (nat_lit 256)), (@Value.int (.ofNat (nat_lit 117)) (nat_lit 0)), (@Value.int (.ofNat (nat_lit 4)) (nat_lit 0)), (@Value.ref (nat_lit 262)), (@Value.int (.ofNat (nat_lit 120)) (nat_lit 0)), (@Value.int (.ofNat (nat_lit 4)) (nat_lit 0)), (@Value.ref (nat_lit 270)), (@Value.int (.ofNat (nat_lit 123)) (nat_lit 0)), (@Value.int (.ofNat (nat_lit 4)) (nat_lit 0)), (@Value.ref (nat_lit 277)), (@Value.int (.ofNat (nat_lit 127)) (nat_lit 0)), (@Value.int (.ofNat (nat_lit 4)) (nat_lit 0)), (@Value.ref (nat_lit 284)), (@Value.int (.ofNat (nat_lit 130)) (nat_lit 0)), (@Value.int (.ofNat (nat_lit 4)) (nat_lit 0)), (@Value.ref (nat_lit 291)), (@Value.int (.ofNat (nat_lit 133)) (nat_lit 0)), (@Value.int (.ofNat (nat_lit 4)) (nat_lit 0)), (@Value.ref (nat_lit 296)), (@Value.int (.ofNat (nat_lit 136)) (nat_lit 0)), (@Value.int (.ofNat (nat_lit 4)) (nat_lit 0)), (@Value.ref (nat_lit 303)), (@Value.int (.ofNat (nat_lit 139)) (nat_lit 0)), (@Value.int (.ofNat (nat_lit 4)) (nat_lit 0)), (@Value.ref (nat_lit 310))])) (.mk []))
def o218 (P : Params) : Obj := (@Obj.mk (@Value.type "code") none (@Data.fields (.mk [(@Value.str (@Str.ofString "Look") (nat_lit 459)), (@Value.str (@Str.ofString "Look") (nat_lit 460)), (@Value.str (@Str.ofString "/claim/cut.py") (nat_lit 461)), (@Value.int (.ofNat (nat_lit 82)) (nat_lit 0)), (@Value.int (.ofNat (nat_lit 0)) (nat_lit 0)), (@Value.int (.ofNat (nat_lit 0)) (nat_lit 0)), (@Value.int (.ofNat (nat_lit 0)) (nat_lit 0)), (@Value.int (.ofNat (nat_lit 0)) (nat_lit 0)), (@Value.ref (nat_lit 216)), (@Value.bool false), (@Value.int (.ofNat (nat_lit 181)) (nat_lit 0)), (@Value.ref (nat_lit 217)), Value.none, Value.none, Value.none, Value.none, (@Value.int (.ofNat (nat_lit 462)) (nat_lit 0)), (@Value.int (.ofNat (nat_lit 82)) (nat_lit 0)), (@Value.str (@Str.ofString "/claim/cut.py") (nat_lit 463))])) (.mk []))
def o219 (P : Params) : Obj := (@Obj.mk (@Value.type "frame") none Data.plain (.mk [(some (@Value.ref (nat_lit 218))), (some (@Value.ref (nat_lit 3))), (some (@Value.ref (nat_lit 215))), none, (some (@Value.str (@Str.ofString "menuhouses.looks") (nat_lit 441))), none, (some (@Value.ref (nat_lit 0)))]))
def o220 (P : Params) : Obj := (@Obj.mk (@Value.type "tuple") none (@Data.seq (.mk []) (nat_lit 0)) (.mk []))
def o221 (P : Params) : Obj := (@Obj.mk Value.none none (@Data.fields (.mk [])) (.mk []))
def o222 (P : Params) : Obj := (@Obj.mk (@Value.type "tuple") none (@Data.seq (.mk [(@Value.str (@Str.ofString "self") (nat_lit 472)), (@Value.str (@Str.ofString "menu") (nat_lit 473)), (@Value.str (@Str.ofString "marks") (nat_lit 474))]) (nat_lit 0)) (.mk []))
def o223 (P : Params) : Obj := (@Obj.mk (@Value.type "tuple") none (@Data.seq (.mk []) (nat_lit 0)) (.mk []))
def o224 (P : Params) : Obj := (@Obj.mk Value.none none (@Data.func (@FuncData.mk (@Str.ofString "__init__") (@Str.ofString "Look.__init__") (defArgs (inClass (topS 28) 0)) (@FuncBody.stmts (defBody (inClass (topS 28) 0))) (defScope (inClass (topS 28) 0)) (nat_lit 0) [] Value.none Value.none Value.none Value.none none Value.none Value.none (nat_lit 0))) (.mk []))
def o225 (P : Params) : Obj := (@Obj.mk (@Value.type "code") none (@Data.fields (.mk [(@Value.str (@Str.ofString "__init__") (nat_lit 469)), (@Value.str (@Str.ofString "Look.__init__") (nat_lit 470)), (@Value.str (@Str.ofString "/claim/cut.py") (nat_lit 471)), (@Value.int (.ofNat (nat_lit 84)) (nat_lit 0)), (@Value.int (.ofNat (nat_lit 3)) (nat_lit 0)), (@Value.int (.ofNat (nat_lit 0)) (nat_lit 0)), (@Value.int (.ofNat (nat_lit 0)) (nat_lit 0)), (@Value.int (.ofNat (nat_lit 3)) (nat_lit 0)), (@Value.ref (nat_lit 220)), (@Value.bool true), (@Value.int (.ofNat (nat_lit 181)) (nat_lit 0)), (@Value.ref (nat_lit 221)), Value.none, (@Value.ref (nat_lit 222)), (@Value.ref (nat_lit 223)), (@Value.ref (nat_lit 224)), (@Value.int (.ofNat (nat_lit 475)) (nat_lit 0)), (@Value.int (.ofNat (nat_lit 84)) (nat_lit 0)), (@Value.str (@Str.ofString "/claim/cut.py") (nat_lit 476))])) (.mk []))
def o226 (P : Params) : Obj := (@Obj.mk (@Value.type "function") none (@Data.func (@FuncData.mk (@Str.ofString "__init__") (@Str.ofString "Look.__init__") (defArgs (inClass (topS 28) 0)) (@FuncBody.stmts (defBody (inClass (topS 28) 0))) (defScope (inClass (topS 28) 0)) (nat_lit 3) [] Value.none Value.none Value.none (@Value.str (@Str.ofString "menuhouses.looks") (nat_lit 441)) none (@Value.ref (nat_lit 225)) Value.none (nat_lit 0))) (.mk []))
def o227 (P : Params) : Obj := (@Obj.mk (@Value.type "tuple") none (@Data.seq (.mk []) (nat_lit 0)) (.mk []))
def o228 (P : Params) : Obj := (@Obj.mk Value.none none (@Data.fields (.mk [])) (.mk []))
def o229 (P : Params) : Obj := (@Obj.mk Value.none none (@Data.func (@FuncData.mk (@Str.ofString "read") (@Str.ofString "Look.read") (defArgs (inClass (topS 28) 1)) (@FuncBody.stmts (defBody (inClass (topS 28) 1))) (defScope (inClass (topS 28) 1)) (nat_lit 0) [] Value.none Value.none Value.none Value.none none Value.none Value.none (nat_lit 0))) (.mk []))
def o230 (P : Params) : Obj := (@Obj.mk (@Value.type "code") none (@Data.fields (.mk [(@Value.str (@Str.ofString "read") (nat_lit 478)), (@Value.str (@Str.ofString "Look.read") (nat_lit 479)), (@Value.str (@Str.ofString "/claim/cut.py") (nat_lit 480)), (@Value.int (.ofNat (nat_lit 91)) (nat_lit 0)), (@Value.int (.ofNat (nat_lit 2)) (nat_lit 0)), (@Value.int (.ofNat (nat_lit 0)) (nat_lit 0)), (@Value.int (.ofNat (nat_lit 0)) (nat_lit 0)), (@Value.int (.ofNat (nat_lit 3)) (nat_lit 0)), (@Value.ref (nat_lit 227)), (@Value.bool true), (@Value.int (.ofNat (nat_lit 181)) (nat_lit 0)), (@Value.ref (nat_lit 228)), Value.none, Value.none, Value.none, (@Value.ref (nat_lit 229)), (@Value.int (.ofNat (nat_lit 481)) (nat_lit 0)), (@Value.int (.ofNat (nat_lit 91)) (nat_lit 0)), (@Value.str (@Str.ofString "/claim/cut.py") (nat_lit 482))])) (.mk []))
def o231 (P : Params) : Obj := (@Obj.mk (@Value.type "function") none (@Data.func (@FuncData.mk (@Str.ofString "read") (@Str.ofString "Look.read") (defArgs (inClass (topS 28) 1)) (@FuncBody.stmts (defBody (inClass (topS 28) 1))) (defScope (inClass (topS 28) 1)) (nat_lit 3) [] Value.none Value.none Value.none (@Value.str (@Str.ofString "menuhouses.looks") (nat_lit 441)) (some (nat_lit 234)) (@Value.ref (nat_lit 230)) Value.none (nat_lit 0))) (.mk []))
def o232 (P : Params) : Obj := (@Obj.mk (@Value.type "dict") none (@Data.dict (.mk [(@DictEntry.mk (@PyData.keyHash P (@Str.ofString "__module__")) (@Value.str (@Str.ofString "__module__") (nat_lit 484)) (@Value.str (@Str.ofString "menuhouses.looks") (nat_lit 441))), (@DictEntry.mk (@PyData.keyHash P (@Str.ofString "__name__")) (@Value.str (@Str.ofString "__name__") (nat_lit 487)) (@Value.str (@Str.ofString "read") (nat_lit 486))), (@DictEntry.mk (@PyData.keyHash P (@Str.ofString "__qualname__")) (@Value.str (@Str.ofString "__qualname__") (nat_lit 490)) (@Value.str (@Str.ofString "Look.read") (nat_lit 489))), (@DictEntry.mk (@PyData.keyHash P (@Str.ofString "__doc__")) (@Value.str (@Str.ofString "__doc__") (nat_lit 492)) Value.none), (@DictEntry.mk (@PyData.keyHash P (@Str.ofString "__annotations__")) (@Value.str (@Str.ofString "__annotations__") (nat_lit 494)) (@Value.ref (nat_lit 234)))]) (nat_lit 5)) (.mk []))
def o233 (P : Params) : Obj := (@Obj.mk (@Value.type "classmethod") (some (nat_lit 232)) (@Data.fields (.mk [(@Value.ref (nat_lit 231)), (@Value.bool false)])) (.mk []))
def o234 (P : Params) : Obj := (@Obj.mk (@Value.type "dict") none (@Data.dict (.mk []) (nat_lit 0)) (.mk []))
def o235 (P : Params) : Obj := (@Obj.mk (@Value.type "tuple") none (@Data.seq (.mk []) (nat_lit 0)) (.mk []))
def o236 (P : Params) : Obj := (@Obj.mk Value.none none (@Data.fields (.mk [])) (.mk []))
def o237 (P : Params) : Obj := (@Obj.mk (@Value.type "tuple") none (@Data.seq (.mk [(@Value.str (@Str.ofString "menu") (nat_lit 499)), (@Value.str (@Str.ofString "taken") (nat_lit 500))]) (nat_lit 0)) (.mk []))
def o238 (P : Params) : Obj := (@Obj.mk (@Value.type "tuple") none (@Data.seq (.mk []) (nat_lit 0)) (.mk []))
def o239 (P : Params) : Obj := (@Obj.mk Value.none none (@Data.func (@FuncData.mk (@Str.ofString "just") (@Str.ofString "Look.just") (defArgs (inClass (topS 28) 2)) (@FuncBody.stmts (defBody (inClass (topS 28) 2))) (defScope (inClass (topS 28) 2)) (nat_lit 0) [] Value.none Value.none Value.none Value.none none Value.none Value.none (nat_lit 0))) (.mk []))
def o240 (P : Params) : Obj := (@Obj.mk (@Value.type "code") none (@Data.fields (.mk [(@Value.str (@Str.ofString "just") (nat_lit 496)), (@Value.str (@Str.ofString "Look.just") (nat_lit 497)), (@Value.str (@Str.ofString "/claim/cut.py") (nat_lit 498)), (@Value.int (.ofNat (nat_lit 102)) (nat_lit 0)), (@Value.int (.ofNat (nat_lit 2)) (nat_lit 0)), (@Value.int (.ofNat (nat_lit 0)) (nat_lit 0)), (@Value.int (.ofNat (nat_lit 0)) (nat_lit 0)), (@Value.int (.ofNat (nat_lit 3)) (nat_lit 0)), (@Value.ref (nat_lit 235)), (@Value.bool true), (@Value.int (.ofNat (nat_lit 181)) (nat_lit 0)), (@Value.ref (nat_lit 236)), Value.none, (@Value.ref (nat_lit 237)), (@Value.ref (nat_lit 238)), (@Value.ref (nat_lit 239)), (@Value.int (.ofNat (nat_lit 501)) (nat_lit 0)), (@Value.int (.ofNat (nat_lit 102)) (nat_lit 0)), (@Value.str (@Str.ofString "/claim/cut.py") (nat_lit 502))])) (.mk []))
def o241 (P : Params) : Obj := (@Obj.mk (@Value.type "function") none (@Data.func (@FuncData.mk (@Str.ofString "just") (@Str.ofString "Look.just") (defArgs (inClass (topS 28) 2)) (@FuncBody.stmts (defBody (inClass (topS 28) 2))) (defScope (inClass (topS 28) 2)) (nat_lit 3) [] Value.none Value.none Value.none (@Value.str (@Str.ofString "menuhouses.looks") (nat_lit 441)) (some (nat_lit 244)) (@Value.ref (nat_lit 240)) Value.none (nat_lit 0))) (.mk []))
def o242 (P : Params) : Obj := (@Obj.mk (@Value.type "dict") none (@Data.dict (.mk [(@DictEntry.mk (@PyData.keyHash P (@Str.ofString "__module__")) (@Value.str (@Str.ofString "__module__") (nat_lit 504)) (@Value.str (@Str.ofString "menuhouses.looks") (nat_lit 441))), (@DictEntry.mk (@PyData.keyHash P (@Str.ofString "__name__")) (@Value.str (@Str.ofString "__name__") (nat_lit 507)) (@Value.str (@Str.ofString "just") (nat_lit 506))), (@DictEntry.mk (@PyData.keyHash P (@Str.ofString "__qualname__")) (@Value.str (@Str.ofString "__qualname__") (nat_lit 510)) (@Value.str (@Str.ofString "Look.just") (nat_lit 509))), (@DictEntry.mk (@PyData.keyHash P (@Str.ofString "__doc__")) (@Value.str (@Str.ofString "__doc__") (nat_lit 512)) Value.none), (@DictEntry.mk (@PyData.keyHash P (@Str.ofString "__annotations__")) (@Value.str (@Str.ofString "__annotations__") (nat_lit 514)) (@Value.ref (nat_lit 244)))]) (nat_lit 5)) (.mk []))
def o243 (P : Params) : Obj := (@Obj.mk (@Value.type "staticmethod") (some (nat_lit 242)) (@Data.fields (.mk [(@Value.ref (nat_lit 241)), (@Value.bool false)])) (.mk []))
def o244 (P : Params) : Obj := (@Obj.mk (@Value.type "dict") none (@Data.dict (.mk []) (nat_lit 0)) (.mk []))
def o245 (P : Params) : Obj := (@Obj.mk (@Value.type "tuple") none (@Data.seq (.mk []) (nat_lit 0)) (.mk []))
def o246 (P : Params) : Obj := (@Obj.mk Value.none none (@Data.fields (.mk [])) (.mk []))
def o247 (P : Params) : Obj := (@Obj.mk (@Value.type "tuple") none (@Data.seq (.mk [(@Value.str (@Str.ofString "self") (nat_lit 519))]) (nat_lit 0)) (.mk []))
def o248 (P : Params) : Obj := (@Obj.mk (@Value.type "tuple") none (@Data.seq (.mk []) (nat_lit 0)) (.mk []))
def o249 (P : Params) : Obj := (@Obj.mk Value.none none (@Data.func (@FuncData.mk (@Str.ofString "marks") (@Str.ofString "Look.marks") (defArgs (inClass (topS 28) 3)) (@FuncBody.stmts (defBody (inClass (topS 28) 3))) (defScope (inClass (topS 28) 11)) (nat_lit 0) [] Value.none Value.none Value.none Value.none none Value.none Value.none (nat_lit 0))) (.mk []))
def o250 (P : Params) : Obj := (@Obj.mk (@Value.type "code") none (@Data.fields (.mk [(@Value.str (@Str.ofString "marks") (nat_lit 516)), (@Value.str (@Str.ofString "Look.marks") (nat_lit 517)), (@Value.str (@Str.ofString "/claim/cut.py") (nat_lit 518)), (@Value.int (.ofNat (nat_lit 108)) (nat_lit 0)), (@Value.int (.ofNat (nat_lit 1)) (nat_lit 0)), (@Value.int (.ofNat (nat_lit 0)) (nat_lit 0)), (@Value.int (.ofNat (nat_lit 0)) (nat_lit 0)), (@Value.int (.ofNat (nat_lit 3)) (nat_lit 0)), (@Value.ref (nat_lit 245)), (@Value.bool true), (@Value.int (.ofNat (nat_lit 181)) (nat_lit 0)), (@Value.ref (nat_lit 246)), Value.none, (@Value.ref (nat_lit 247)), (@Value.ref (nat_lit 248)), (@Value.ref (nat_lit 249)), (@Value.int (.ofNat (nat_lit 520)) (nat_lit 0)), (@Value.int (.ofNat (nat_lit 108)) (nat_lit 0)), (@Value.str (@Str.ofString "/claim/cut.py") (nat_lit 521))])) (.mk []))
def o251 (P : Params) : Obj := (@Obj.mk (@Value.type "function") none (@Data.func (@FuncData.mk (@Str.ofString "marks") (@Str.ofString "Look.marks") (defArgs (inClass (topS 28) 3)) (@FuncBody.stmts (defBody (inClass (topS 28) 3))) (defScope (inClass (topS 28) 11)) (nat_lit 3) [] Value.none Value.none Value.none (@Value.str (@Str.ofString "menuhouses.looks") (nat_lit 441)) none (@Value.ref (nat_lit 250)) Value.none (nat_lit 0))) (.mk []))
def o252 (P : Params) : Obj := (@Obj.mk (@Value.type "property") none (@Data.fields (.mk [(@Value.ref (nat_lit 251)), Value.none, Value.none, Value.none, (@Value.str (@Str.ofString "marks") (nat_lit 523)), (@Value.bool false)])) (.mk []))
def o253 (P : Params) : Obj := (@Obj.mk (@Value.type "tuple") none (@Data.seq (.mk []) (nat_lit 0)) (.mk []))
def o254 (P : Params) : Obj := (@Obj.mk Value.none none (@Data.fields (.mk [])) (.mk []))
def o255 (P : Params) : Obj := (@Obj.mk Value.none none (@Data.func (@FuncData.mk (@Str.ofString "taken") (@Str.ofString "Look.taken") (defArgs (inClass (topS 28) 4)) (@FuncBody.stmts (defBody (inClass (topS 28) 4))) (defScope (inClass (topS 28) 5)) (nat_lit 0) [] Value.none Value.none Value.none Value.none none Value.none Value.none (nat_lit 0))) (.mk []))
def o256 (P : Params) : Obj := (@Obj.mk (@Value.type "code") none (@Data.fields (.mk [(@Value.str (@Str.ofString "taken") (nat_lit 524)), (@Value.str (@Str.ofString "Look.taken") (nat_lit 525)), (@Value.str (@Str.ofString "/claim/cut.py") (nat_lit 526)), (@Value.int (.ofNat (nat_lit 112)) (nat_lit 0)), (@Value.int (.ofNat (nat_lit 1)) (nat_lit 0)), (@Value.int (.ofNat (nat_lit 0)) (nat_lit 0)), (@Value.int (.ofNat (nat_lit 0)) (nat_lit 0)), (@Value.int (.ofNat (nat_lit 3)) (nat_lit 0)), (@Value.ref (nat_lit 253)), (@Value.bool true), (@Value.int (.ofNat (nat_lit 181)) (nat_lit 0)), (@Value.ref (nat_lit 254)), Value.none, Value.none, Value.none, (@Value.ref (nat_lit 255)), (@Value.int (.ofNat (nat_lit 527)) (nat_lit 0)), (@Value.int (.ofNat (nat_lit 112)) (nat_lit 0)), (@Value.str (@Str.ofString "/claim/cut.py") (nat_lit 528))])) (.mk []))
def o257 (P : Params) : Obj := (@Obj.mk (@Value.type "function") none (@Data.func (@FuncData.mk (@Str.ofString "taken") (@Str.ofString "Look.taken") (defArgs (inClass (topS 28) 4)) (@FuncBody.stmts (defBody (inClass (topS 28) 4))) (defScope (inClass (topS 28) 5)) (nat_lit 3) [] Value.none Value.none Value.none (@Value.str (@Str.ofString "menuhouses.looks") (nat_lit 441)) none (@Value.ref (nat_lit 256)) Value.none (nat_lit 0))) (.mk []))
def o258 (P : Params) : Obj := (@Obj.mk (@Value.type "property") none (@Data.fields (.mk [(@Value.ref (nat_lit 257)), Value.none, Value.none, Value.none, (@Value.str (@Str.ofString "taken") (nat_lit 530)), (@Value.bool false)])) (.mk []))
def o259 (P : Params) : Obj := (@Obj.mk (@Value.type "tuple") none (@Data.seq (.mk []) (nat_lit 0)) (.mk []))
def o260 (P : Params) : Obj := (@Obj.mk Value.none none (@Data.fields (.mk [])) (.mk []))
def o261 (P : Params) : Obj := (@Obj.mk Value.none none (@Data.func (@FuncData.mk (@Str.ofString "passed") (@Str.ofString "Look.passed") (defArgs (inClass (topS 28) 5)) (@FuncBody.stmts (defBody (inClass (topS 28) 5))) (defScope (inClass (topS 28) 5)) (nat_lit 0) [] Value.none Value.none Value.none Value.none none Value.none Value.none (nat_lit 0))) (.mk []))
def o262 (P : Params) : Obj := (@Obj.mk (@Value.type "code") none (@Data.fields (.mk [(@Value.str (@Str.ofString "passed") (nat_lit 531)), (@Value.str (@Str.ofString "Look.passed") (nat_lit 532)), (@Value.str (@Str.ofString "/claim/cut.py") (nat_lit 533)), (@Value.int (.ofNat (nat_lit 116)) (nat_lit 0)), (@Value.int (.ofNat (nat_lit 1)) (nat_lit 0)), (@Value.int (.ofNat (nat_lit 0)) (nat_lit 0)), (@Value.int (.ofNat (nat_lit 0)) (nat_lit 0)), (@Value.int (.ofNat (nat_lit 3)) (nat_lit 0)), (@Value.ref (nat_lit 259)), (@Value.bool true), (@Value.int (.ofNat (nat_lit 181)) (nat_lit 0)), (@Value.ref (nat_lit 260)), Value.none, Value.none, Value.none, (@Value.ref (nat_lit 261)), (@Value.int (.ofNat (nat_lit 534)) (nat_lit 0)), (@Value.int (.ofNat (nat_lit 116)) (nat_lit 0)), (@Value.str (@Str.ofString "/claim/cut.py") (nat_lit 535))])) (.mk []))
def o263 (P : Params) : Obj := (@Obj.mk (@Value.type "function") none (@Data.func (@FuncData.mk (@Str.ofString "passed") (@Str.ofString "Look.passed") (defArgs (inClass (topS 28) 5)) (@FuncBody.stmts (defBody (inClass (topS 28) 5))) (defScope (inClass (topS 28) 5)) (nat_lit 3) [] Value.none Value.none Value.none (@Value.str (@Str.ofString "menuhouses.looks") (nat_lit 441)) none (@Value.ref (nat_lit 262)) Value.none (nat_lit 0))) (.mk []))
def o264 (P : Params) : Obj := (@Obj.mk (@Value.type "property") none (@Data.fields (.mk [(@Value.ref (nat_lit 263)), Value.none, Value.none, Value.none, (@Value.str (@Str.ofString "passed") (nat_lit 537)), (@Value.bool false)])) (.mk []))
def o265 (P : Params) : Obj := (@Obj.mk (@Value.type "tuple") none (@Data.seq (.mk []) (nat_lit 0)) (.mk []))
def o266 (P : Params) : Obj := (@Obj.mk Value.none none (@Data.fields (.mk [])) (.mk []))
def o267 (P : Params) : Obj := (@Obj.mk (@Value.type "tuple") none (@Data.seq (.mk [(@Value.str (@Str.ofString "self") (nat_lit 541)), (@Value.str (@Str.ofString "house") (nat_lit 542))]) (nat_lit 0)) (.mk []))
def o268 (P : Params) : Obj := (@Obj.mk (@Value.type "tuple") none (@Data.seq (.mk []) (nat_lit 0)) (.mk []))
def o269 (P : Params) : Obj := (@Obj.mk Value.none none (@Data.func (@FuncData.mk (@Str.ofString "holds") (@Str.ofString "Look.holds") (defArgs (inClass (topS 28) 6)) (@FuncBody.stmts (defBody (inClass (topS 28) 6))) (defScope (inClass (topS 28) 6)) (nat_lit 0) [] Value.none Value.none Value.none Value.none none Value.none Value.none (nat_lit 0))) (.mk []))
def o270 (P : Params) : Obj := (@Obj.mk (@Value.type "code") none (@Data.fields (.mk [(@Value.str (@Str.ofString "holds") (nat_lit 538)), (@Value.str (@Str.ofString "Look.holds") (nat_lit 539)), (@Value.str (@Str.ofString "/claim/cut.py") (nat_lit 540)), (@Value.int (.ofNat (nat_lit 120)) (nat_lit 0)), (@Value.int (.ofNat (nat_lit 2)) (nat_lit 0)), (@Value.int (.ofNat (nat_lit 0)) (nat_lit 0)), (@Value.int (.ofNat (nat_lit 0)) (nat_lit 0)), (@Value.int (.ofNat (nat_lit 3)) (nat_lit 0)), (@Value.ref (nat_lit 265)), (@Value.bool true), (@Value.int (.ofNat (nat_lit 181)) (nat_lit 0)), (@Value.ref (nat_lit 266)), Value.none, (@Value.ref (nat_lit 267)), (@Value.ref (nat_lit 268)), (@Value.ref (nat_lit 269)), (@Value.int (.ofNat (nat_lit 543)) (nat_lit 0)), (@Value.int (.ofNat (nat_lit 120)) (nat_lit 0)), (@Value.str (@Str.ofString "/claim/cut.py") (nat_lit 544))])) (.mk []))
def o271 (P : Params) : Obj := (@Obj.mk (@Value.type "function") none (@Data.func (@FuncData.mk (@Str.ofString "holds") (@Str.ofString "Look.holds") (defArgs (inClass (topS 28) 6)) (@FuncBody.stmts (defBody (inClass (topS 28) 6))) (defScope (inClass (topS 28) 6)) (nat_lit 3) [] Value.none Value.none Value.none (@Value.str (@Str.ofString "menuhouses.looks") (nat_lit 441)) none (@Value.ref (nat_lit 270)) Value.none (nat_lit 0))) (.mk []))
def o272 (P : Params) : Obj := (@Obj.mk (@Value.type "tuple") none (@Data.seq (.mk []) (nat_lit 0)) (.mk []))
def o273 (P : Params) : Obj := (@Obj.mk Value.none none (@Data.fields (.mk [])) (.mk []))
def o274 (P : Params) : Obj := (@Obj.mk (@Value.type "tuple") none (@Data.seq (.mk [(@Value.str (@Str.ofString "self") (nat_lit 549)), (@Value.str (@Str.ofString "at") (nat_lit 550))]) (nat_lit 0)) (.mk []))
def o275 (P : Params) : Obj := (@Obj.mk (@Value.type "tuple") none (@Data.seq (.mk []) (nat_lit 0)) (.mk []))
def o276 (P : Params) : Obj := (@Obj.mk Value.none none (@Data.func (@FuncData.mk (@Str.ofString "__getitem__") (@Str.ofString "Look.__getitem__") (defArgs (inClass (topS 28) 7)) (@FuncBody.stmts (defBody (inClass (topS 28) 7))) (defScope (inClass (topS 28) 7)) (nat_lit 0) [] Value.none Value.none Value.none Value.none none Value.none Value.none (nat_lit 0))) (.mk []))
def o277 (P : Params) : Obj := (@Obj.mk (@Value.type "code") none (@Data.fields (.mk [(@Value.str (@Str.ofString "__getitem__") (nat_lit 546)), (@Value.str (@Str.ofString "Look.__getitem__") (nat_lit 547)), (@Value.str (@Str.ofString "/claim/cut.py") (nat_lit 548)), (@Value.int (.ofNat (nat_lit 123)) (nat_lit 0)), (@Value.int (.ofNat (nat_lit 2)) (nat_lit 0)), (@Value.int (.ofNat (nat_lit 0)) (nat_lit 0)), (@Value.int (.ofNat (nat_lit 0)) (nat_lit 0)), (@Value.int (.ofNat (nat_lit 3)) (nat_lit 0)), (@Value.ref (nat_lit 272)), (@Value.bool true), (@Value.int (.ofNat (nat_lit 181)) (nat_lit 0)), (@Value.ref (nat_lit 273)), Value.none, (@Value.ref (nat_lit 274)), (@Value.ref (nat_lit 275)), (@Value.ref (nat_lit 276)), (@Value.int (.ofNat (nat_lit 551)) (nat_lit 0)), (@Value.int (.ofNat (nat_lit 123)) (nat_lit 0)), (@Value.str (@Str.ofString "/claim/cut.py") (nat_lit 552))])) (.mk []))
def o278 (P : Params) : Obj := (@Obj.mk (@Value.type "function") none (@Data.func (@FuncData.mk (@Str.ofString "__getitem__") (@Str.ofString "Look.__getitem__") (defArgs (inClass (topS 28) 7)) (@FuncBody.stmts (defBody (inClass (topS 28) 7))) (defScope (inClass (topS 28) 7)) (nat_lit 3) [] Value.none Value.none Value.none (@Value.str (@Str.ofString "menuhouses.looks") (nat_lit 441)) none (@Value.ref (nat_lit 277)) Value.none (nat_lit 0))) (.mk []))
def o279 (P : Params) : Obj := (@Obj.mk (@Value.type "tuple") none (@Data.seq (.mk []) (nat_lit 0)) (.mk []))
def o280 (P : Params) : Obj := (@Obj.mk Value.none none (@Data.fields (.mk [])) (.mk []))
def o281 (P : Params) : Obj := (@Obj.mk (@Value.type "tuple") none (@Data.seq (.mk [(@Value.str (@Str.ofString "self") (nat_lit 557))]) (nat_lit 0)) (.mk []))
def o282 (P : Params) : Obj := (@Obj.mk (@Value.type "tuple") none (@Data.seq (.mk []) (nat_lit 0)) (.mk []))
def o283 (P : Params) : Obj := (@Obj.mk Value.none none (@Data.func (@FuncData.mk (@Str.ofString "__iter__") (@Str.ofString "Look.__iter__") (defArgs (inClass (topS 28) 8)) (@FuncBody.stmts (defBody (inClass (topS 28) 8))) (defScope (inClass (topS 28) 8)) (nat_lit 0) [] Value.none Value.none Value.none Value.none none Value.none Value.none (nat_lit 0))) (.mk []))
def o284 (P : Params) : Obj := (@Obj.mk (@Value.type "code") none (@Data.fields (.mk [(@Value.str (@Str.ofString "__iter__") (nat_lit 554)), (@Value.str (@Str.ofString "Look.__iter__") (nat_lit 555)), (@Value.str (@Str.ofString "/claim/cut.py") (nat_lit 556)), (@Value.int (.ofNat (nat_lit 127)) (nat_lit 0)), (@Value.int (.ofNat (nat_lit 1)) (nat_lit 0)), (@Value.int (.ofNat (nat_lit 0)) (nat_lit 0)), (@Value.int (.ofNat (nat_lit 0)) (nat_lit 0)), (@Value.int (.ofNat (nat_lit 3)) (nat_lit 0)), (@Value.ref (nat_lit 279)), (@Value.bool true), (@Value.int (.ofNat (nat_lit 181)) (nat_lit 0)), (@Value.ref (nat_lit 280)), Value.none, (@Value.ref (nat_lit 281)), (@Value.ref (nat_lit 282)), (@Value.ref (nat_lit 283)), (@Value.int (.ofNat (nat_lit 558)) (nat_lit 0)), (@Value.int (.ofNat (nat_lit 127)) (nat_lit 0)), (@Value.str (@Str.ofString "/claim/cut.py") (nat_lit 559))])) (.mk []))
def o285 (P : Params) : Obj := (@Obj.mk (@Value.type "function") none (@Data.func (@FuncData.mk (@Str.ofString "__iter__") (@Str.ofString "Look.__iter__") (defArgs (inClass (topS 28) 8)) (@FuncBody.stmts (defBody (inClass (topS 28) 8))) (defScope (inClass (topS 28) 8)) (nat_lit 3) [] Value.none Value.none Value.none (@Value.str (@Str.ofString "menuhouses.looks") (nat_lit 441)) none (@Value.ref (nat_lit 284)) Value.none (nat_lit 0))) (.mk []))
def o286 (P : Params) : Obj := (@Obj.mk (@Value.type "tuple") none (@Data.seq (.mk []) (nat_lit 0)) (.mk []))
def o287 (P : Params) : Obj := (@Obj.mk Value.none none (@Data.fields (.mk [])) (.mk []))
def o288 (P : Params) : Obj := (@Obj.mk (@Value.type "tuple") none (@Data.seq (.mk [(@Value.str (@Str.ofString "self") (nat_lit 564))]) (nat_lit 0)) (.mk []))
def o289 (P : Params) : Obj := (@Obj.mk (@Value.type "tuple") none (@Data.seq (.mk []) (nat_lit 0)) (.mk []))
def o290 (P : Params) : Obj := (@Obj.mk Value.none none (@Data.func (@FuncData.mk (@Str.ofString "__len__") (@Str.ofString "Look.__len__") (defArgs (inClass (topS 28) 9)) (@FuncBody.stmts (defBody (inClass (topS 28) 9))) (defScope (inClass (topS 28) 9)) (nat_lit 0) [] Value.none Value.none Value.none Value.none none Value.none Value.none (nat_lit 0))) (.mk []))
def o291 (P : Params) : Obj := (@Obj.mk (@Value.type "code") none (@Data.fields (.mk [(@Value.str (@Str.ofString "__len__") (nat_lit 561)), (@Value.str (@Str.ofString "Look.__len__") (nat_lit 562)), (@Value.str (@Str.ofString "/claim/cut.py") (nat_lit 563)), (@Value.int (.ofNat (nat_lit 130)) (nat_lit 0)), (@Value.int (.ofNat (nat_lit 1)) (nat_lit 0)), (@Value.int (.ofNat (nat_lit 0)) (nat_lit 0)), (@Value.int (.ofNat (nat_lit 0)) (nat_lit 0)), (@Value.int (.ofNat (nat_lit 3)) (nat_lit 0)), (@Value.ref (nat_lit 286)), (@Value.bool true), (@Value.int (.ofNat (nat_lit 181)) (nat_lit 0)), (@Value.ref (nat_lit 287)), Value.none, (@Value.ref (nat_lit 288)), (@Value.ref (nat_lit 289)), (@Value.ref (nat_lit 290)), (@Value.int (.ofNat (nat_lit 565)) (nat_lit 0)), (@Value.int (.ofNat (nat_lit 130)) (nat_lit 0)), (@Value.str (@Str.ofString "/claim/cut.py") (nat_lit 566))])) (.mk []))
def o292 (P : Params) : Obj := (@Obj.mk (@Value.type "function") none (@Data.func (@FuncData.mk (@Str.ofString "__len__") (@Str.ofString "Look.__len__") (defArgs (inClass (topS 28) 9)) (@FuncBody.stmts (defBody (inClass (topS 28) 9))) (defScope (inClass (topS 28) 9)) (nat_lit 3) [] Value.none Value.none Value.none (@Value.str (@Str.ofString "menuhouses.looks") (nat_lit 441)) none (@Value.ref (nat_lit 291)) Value.none (nat_lit 0))) (.mk []))
def o293 (P : Params) : Obj := (@Obj.mk (@Value.type "tuple") none (@Data.seq (.mk []) (nat_lit 0)) (.mk []))
def o294 (P : Params) : Obj := (@Obj.mk Value.none none (@Data.fields (.mk [])) (.mk []))
def o295 (P : Params) : Obj := (@Obj.mk Value.none none (@Data.func (@FuncData.mk (@Str.ofString "__str__") (@Str.ofString "Look.__str__") (defArgs (inClass (topS 28) 10)) (@FuncBody.stmts (defBody (inClass (topS 28) 10))) (defScope (inClass (topS 28) 10)) (nat_lit 0) [] Value.none Value.none Value.none Value.none none Value.none Value.none (nat_lit 0))) (.mk []))
def o296 (P : Params) : Obj := (@Obj.mk (@Value.type "code") none (@Data.fields (.mk [(@Value.str (@Str.ofString "__str__") (nat_lit 568)), (@Value.str (@Str.ofString "Look.__str__") (nat_lit 569)), (@Value.str (@Str.ofString "/claim/cut.py") (nat_lit 570)), (@Value.int (.ofNat (nat_lit 133)) (nat_lit 0)), (@Value.int (.ofNat (nat_lit 1)) (nat_lit 0)), (@Value.int (.ofNat (nat_lit 0)) (nat_lit 0)), (@Value.int (.ofNat (nat_lit 0)) (nat_lit 0)), (@Value.int (.ofNat (nat_lit 3)) (nat_lit 0)), (@Value.ref (nat_lit 293)), (@Value.bool true), (@Value.int (.ofNat (nat_lit 181)) (nat_lit 0)), (@Value.ref (nat_lit 294)), Value.none, Value.none, Value.none, (@Value.ref (nat_lit 295)), (@Value.int (.ofNat (nat_lit 571)) (nat_lit 0)), (@Value.int (.ofNat (nat_lit 133)) (nat_lit 0)), (@Value.str (@Str.ofString "/claim/cut.py") (nat_lit 572))])) (.mk []))
def o297 (P : Params) : Obj := (@Obj.mk (@Value.type "function") none (@Data.func (@FuncData.mk (@Str.ofString "__str__") (@Str.ofString "Look.__str__") (defArgs (inClass (topS 28) 10)) (@FuncBody.stmts (defBody (inClass (topS 28) 10))) (defScope (inClass (topS 28) 10)) (nat_lit 3) [] Value.none Value.none Value.none (@Value.str (@Str.ofString "menuhouses.looks") (nat_lit 441)) none (@Value.ref (nat_lit 296)) Value.none (nat_lit 0))) (.mk []))
def o298 (P : Params) : Obj := (@Obj.mk (@Value.type "tuple") none (@Data.seq (.mk []) (nat_lit 0)) (.mk []))
def o299 (P : Params) : Obj := (@Obj.mk Value.none none (@Data.fields (.mk [])) (.mk []))
def o300 (P : Params) : Obj := (@Obj.mk (@Value.type "tuple") none (@Data.seq (.mk [(@Value.str (@Str.ofString "self") (nat_lit 577))]) (nat_lit 0)) (.mk []))
def o301 (P : Params) : Obj := (@Obj.mk (@Value.type "tuple") none (@Data.seq (.mk []) (nat_lit 0)) (.mk []))
def o302 (P : Params) : Obj := (@Obj.mk Value.none none (@Data.func (@FuncData.mk (@Str.ofString "__repr__") (@Str.ofString "Look.__repr__") (defArgs (inClass (topS 28) 11)) (@FuncBody.stmts (defBody (inClass (topS 28) 11))) (defScope (inClass (topS 28) 11)) (nat_lit 0) [] Value.none Value.none Value.none Value.none none Value.none Value.none (nat_lit 0))) (.mk []))
def o303 (P : Params) : Obj := (@Obj.mk (@Value.type "code") none (@Data.fields (.mk [(@Value.str (@Str.ofString "__repr__") (nat_lit 574)), (@Value.str (@Str.ofString "Look.__repr__") (nat_lit 575)), (@Value.str (@Str.ofString "/claim/cut.py") (nat_lit 576)), (@Value.int (.ofNat (nat_lit 136)) (nat_lit 0)), (@Value.int (.ofNat (nat_lit 1)) (nat_lit 0)), (@Value.int (.ofNat (nat_lit 0)) (nat_lit 0)), (@Value.int (.ofNat (nat_lit 0)) (nat_lit 0)), (@Value.int (.ofNat (nat_lit 3)) (nat_lit 0)), (@Value.ref (nat_lit 298)), (@Value.bool true), (@Value.int (.ofNat (nat_lit 181)) (nat_lit 0)), (@Value.ref (nat_lit 299)), Value.none, (@Value.ref (nat_lit 300)), (@Value.ref (nat_lit 301)), (@Value.ref (nat_lit 302)), (@Value.int (.ofNat (nat_lit 578)) (nat_lit 0)), (@Value.int (.ofNat (nat_lit 136)) (nat_lit 0)), (@Value.str (@Str.ofString "/claim/cut.py") (nat_lit 579))])) (.mk []))
def o304 (P : Params) : Obj := (@Obj.mk (@Value.type "function") none (@Data.func (@FuncData.mk (@Str.ofString "__repr__") (@Str.ofString "Look.__repr__") (defArgs (inClass (topS 28) 11)) (@FuncBody.stmts (defBody (inClass (topS 28) 11))) (defScope (inClass (topS 28) 11)) (nat_lit 3) [] Value.none Value.none Value.none (@Value.str (@Str.ofString "menuhouses.looks") (nat_lit 441)) none (@Value.ref (nat_lit 303)) Value.none (nat_lit 0))) (.mk []))
def o305 (P : Params) : Obj := (@Obj.mk (@Value.type "tuple") none (@Data.seq (.mk []) (nat_lit 0)) (.mk []))
def o306 (P : Params) : Obj := (@Obj.mk Value.none none (@Data.fields (.mk [])) (.mk []))
def o307 (P : Params) : Obj := (@Obj.mk (@Value.type "tuple") none (@Data.seq (.mk [(@Value.str (@Str.ofString "self") (nat_lit 584)), (@Value.str (@Str.ofString "other") (nat_lit 585))]) (nat_lit 0)) (.mk []))
def o308 (P : Params) : Obj := (@Obj.mk (@Value.type "tuple") none (@Data.seq (.mk []) (nat_lit 0)) (.mk []))
def o309 (P : Params) : Obj := (@Obj.mk Value.none none (@Data.func (@FuncData.mk (@Str.ofString "__eq__") (@Str.ofString "Look.__eq__") (defArgs (inClass (topS 28) 12)) (@FuncBody.stmts (defBody (inClass (topS 28) 12))) (defScope (inClass (topS 28) 12)) (nat_lit 0) [] Value.none Value.none Value.none Value.none none Value.none Value.none (nat_lit 0))) (.mk []))
def o310 (P : Params) : Obj := (@Obj.mk (@Value.type "code") none (@Data.fields (.mk [(@Value.str (@Str.ofString "__eq__") (nat_lit 581)), (@Value.str (@Str.ofString "Look.__eq__") (nat_lit 582)), (@Value.str (@Str.ofString "/claim/cut.py") (nat_lit 583)), (@Value.int (.ofNat (nat_lit 139)) (nat_lit 0)), (@Value.int (.ofNat (nat_lit 2)) (nat_lit 0)), (@Value.int (.ofNat (nat_lit 0)) (nat_lit 0)), (@Value.int (.ofNat (nat_lit 0)) (nat_lit 0)), (@Value.int (.ofNat (nat_lit 3)) (nat_lit 0)), (@Value.ref (nat_lit 305)), (@Value.bool true), (@Value.int (.ofNat (nat_lit 181)) (nat_lit 0)), (@Value.ref (nat_lit 306)), Value.none, (@Value.ref (nat_lit 307)), (@Value.ref (nat_lit 308)), (@Value.ref (nat_lit 309)), (@Value.int (.ofNat (nat_lit 586)) (nat_lit 0)), (@Value.int (.ofNat (nat_lit 139)) (nat_lit 0)), (@Value.str (@Str.ofString "/claim/cut.py") (nat_lit 587))])) (.mk []))
def o311 (P : Params) : Obj := (@Obj.mk (@Value.type "function") none (@Data.func (@FuncData.mk (@Str.ofString "__eq__") (@Str.ofString "Look.__eq__") (defArgs (inClass (topS 28) 12)) (@FuncBody.stmts (defBody (inClass (topS 28) 12))) (defScope (inClass (topS 28) 12)) (nat_lit 3) [] Value.none Value.none Value.none (@Value.str (@Str.ofString "menuhouses.looks") (nat_lit 441)) none (@Value.ref (nat_lit 310)) Value.none (nat_lit 0))) (.mk []))
def o312 (P : Params) : Obj := (@Obj.mk (@Value.type "tuple") none (@Data.seq (.mk [(@Value.str (@Str.ofString "_marks") (nat_lit 589)), (@Value.str (@Str.ofString "menu") (nat_lit 590))]) (nat_lit 0)) (.mk []))
def o313 (P : Params) : Obj := (@Obj.mk (@Value.type "dict") none (@Data.dict (.mk [(@DictEntry.mk (@PyData.keyHash P (@Str.ofString "__module__")) (@Value.str (@Str.ofString "__module__") (nat_lit 464)) (@Value.str (@Str.ofString "menuhouses.looks") (nat_lit 441))), (@DictEntry.mk (@PyData.keyHash P (@Str.ofString "__firstlineno__")) (@Value.str (@Str.ofString "__firstlineno__") (nat_lit 468)) (@Value.int (.ofNat (nat_lit 82)) (nat_lit 467))), (@DictEntry.mk (@PyData.keyHash P (@Str.ofString "__init__")) (@Value.str (@Str.ofString "__init__") (nat_lit 477)) (@Value.ref (nat_lit 226))), (@DictEntry.mk (@PyData.keyHash P (@Str.ofString "read")) (@Value.str (@Str.ofString "read") (nat_lit 495)) (@Value.ref (nat_lit 233))), (@DictEntry.mk (@PyData.keyHash P (@Str.ofString "just")) (@Value.str (@Str.ofString "just") (nat_lit 515)) (@Value.ref (nat_lit 243))), (@DictEntry.mk (@PyData.keyHash P (@Str.ofString "marks")) (@Value.str (@Str.ofString "marks") (nat_lit 523)) (@Value.ref (nat_lit 252))), (@DictEntry.mk (@PyData.keyHash P (@Str.ofString "taken")) (@Value.str (@Str.ofString "taken") (nat_lit 530)) (@Value.ref (nat_lit 258))), (@DictEntry.mk (@PyData.keyHash P (@Str.ofString "passed")) (@Value.str (@Str.ofString "passed") (nat_lit 537)) (@Value.ref (nat_lit 264))), (@DictEntry.mk (@PyData.keyHash P (@Str.ofString "holds")) (@Value.str (@Str.ofString "holds") (nat_lit 545)) (@Value.ref (nat_lit 271))), (@DictEntry.mk (@PyData.keyHash P (@Str.ofString "__getitem__")) (@Value.str (@Str.ofString "__getitem__") (nat_lit 553)) (@Value.ref (nat_lit 278))), (@DictEntry.mk (@PyData.keyHash P (@Str.ofString "__iter__")) (@Value.str (@Str.ofString "__iter__") (nat_lit 560)) (@Value.ref (nat_lit 285))), (@DictEntry.mk (@PyData.keyHash P (@Str.ofString "__len__")) (@Value.str (@Str.ofString "__len__") (nat_lit 567)) (@Value.ref (nat_lit 292))), (@DictEntry.mk (@PyData.keyHash P (@Str.ofString "__str__")) (@Value.str (@Str.ofString "__str__") (nat_lit 573)) (@Value.ref (nat_lit 297))), (@DictEntry.mk (@PyData.keyHash P (@Str.ofString "__repr__")) (@Value.str (@Str.ofString "__repr__") (nat_lit 580)) (@Value.ref (nat_lit 304))), (@DictEntry.mk (@PyData.keyHash P (@Str.ofString "__eq__")) (@Value.str (@Str.ofString "__eq__") (nat_lit 588)) (@Value.ref (nat_lit 311))), (@DictEntry.mk (@PyData.keyHash P (@Str.ofString "__static_attributes__")) (@Value.str (@Str.ofString "__static_attributes__") (nat_lit 591)) (@Value.ref (nat_lit 312))), (@DictEntry.mk (@PyData.keyHash P (@Str.ofString "__dict__")) (@Value.str (@Str.ofString "__dict__") (nat_lit 593)) (@Value.ref (nat_lit 315))), (@DictEntry.mk (@PyData.keyHash P (@Str.ofString "__weakref__")) (@Value.str (@Str.ofString "__weakref__") (nat_lit 595)) (@Value.ref (nat_lit 316))), (@DictEntry.mk (@PyData.keyHash P (@Str.ofString "__doc__")) (@Value.str (@Str.ofString "__doc__") (nat_lit 596)) Value.none), (@DictEntry.mk (@PyData.keyHash P (@Str.ofString "__hash__")) (@Value.str (@Str.ofString "__hash__") (nat_lit 597)) Value.none)]) (nat_lit 5)) (.mk []))
def o314 (P : Params) : Obj := (@Obj.mk (@Value.type "type") none (@Data.cls (@ClassData.mk (@Str.ofString "Look") [(@Value.type "object")] [(@Value.ref (nat_lit 314)), (@Value.type "object")] (nat_lit 313) (@Str.ofString "Look") true [] [] false none false)) (.mk [none, none, (some (@Value.str (@Str.ofString "Look") (nat_lit 457))), (some (@Value.str (@Str.ofString "Look") (nat_lit 465))), (some (@Value.builtin "object.__new__")), (some (@Value.bool true))]))
def o315 (P : Params) : Obj := (@Obj.mk (@Value.type "getset_descriptor") none (@Data.fields (.mk [(@Value.str (@Str.ofString "__dict__") (nat_lit 592)), (@Value.ref (nat_lit 314)), (@Value.builtin "function.__dict__"), (@Value.builtin "function.__dict__#set")])) (.mk []))
def o316 (P : Params) : Obj := (@Obj.mk (@Value.type "getset_descriptor") none (@Data.fields (.mk [(@Value.str (@Str.ofString "__weakref__") (nat_lit 594)), (@Value.ref (nat_lit 314)), (@Value.builtin "ExceptionGroup.__weakref__"), Value.none])) (.mk []))
def o317 (P : Params) : Obj := (@Obj.mk (@Value.type "super") none (@Data.fields (.mk [(@Value.ref (nat_lit 314)), (@Value.ref (nat_lit 314)), (@Value.ref (nat_lit 314))])) (.mk []))
def o318 (P : Params) : Obj := (@Obj.mk (@Value.type "builtin_function_or_method") none (@Data.fields (.mk [(@Value.builtin "object.__init_subclass__"), (@Value.ref (nat_lit 314))])) (.mk []))
def o319 (P : Params) : Obj := (@Obj.mk (@Value.type "tuple") none (@Data.seq (.mk []) (nat_lit 0)) (.mk []))
def o320 (P : Params) : Obj := (@Obj.mk Value.none none (@Data.fields (.mk [])) (.mk []))
def o321 (P : Params) : Obj := (@Obj.mk (@Value.type "tuple") none (@Data.seq (.mk [(@Value.str (@Str.ofString "_law_cells") (nat_lit 605)), (@Value.str (@Str.ofString "_law_k") (nat_lit 606)), (@Value.str (@Str.ofString "_law_seed") (nat_lit 607)), (@Value.str (@Str.ofString "_law_some") (nat_lit 608)), (@Value.str (@Str.ofString "_law_cell") (nat_lit 609)), (@Value.str (@Str.ofString "_law_great") (nat_lit 610))]) (nat_lit 0)) (.mk []))
def o322 (P : Params) : Obj := (@Obj.mk (@Value.type "tuple") none (@Data.seq (.mk []) (nat_lit 0)) (.mk []))
def o323 (P : Params) : Obj := (@Obj.mk Value.none none (@Data.func (@FuncData.mk (@Str.ofString "_law_urn") (@Str.ofString "_law_urn") (defArgs (topS 30)) (@FuncBody.stmts (defBody (topS 30))) (defScope (topS 30)) (nat_lit 0) [] Value.none Value.none Value.none Value.none none Value.none Value.none (nat_lit 0))) (.mk []))
def o324 (P : Params) : Obj := (@Obj.mk (@Value.type "code") none (@Data.fields (.mk [(@Value.str (@Str.ofString "_law_urn") (nat_lit 602)), (@Value.str (@Str.ofString "_law_urn") (nat_lit 603)), (@Value.str (@Str.ofString "/claim/cut.py") (nat_lit 604)), (@Value.int (.ofNat (nat_lit 142)) (nat_lit 0)), (@Value.int (.ofNat (nat_lit 2)) (nat_lit 0)), (@Value.int (.ofNat (nat_lit 0)) (nat_lit 0)), (@Value.int (.ofNat (nat_lit 0)) (nat_lit 0)), (@Value.int (.ofNat (nat_lit 3)) (nat_lit 0)), (@Value.ref (nat_lit 319)), (@Value.bool true), (@Value.int (.ofNat (nat_lit 181)) (nat_lit 0)), (@Value.ref (nat_lit 320)), Value.none, (@Value.ref (nat_lit 321)), (@Value.ref (nat_lit 322)), (@Value.ref (nat_lit 323)), (@Value.int (.ofNat (nat_lit 611)) (nat_lit 0)), (@Value.int (.ofNat (nat_lit 142)) (nat_lit 0)), (@Value.str (@Str.ofString "/claim/cut.py") (nat_lit 612))])) (.mk []))
def o325 (P : Params) : Obj := (@Obj.mk (@Value.type "function") none (@Data.func (@FuncData.mk (@Str.ofString "_law_urn") (@Str.ofString "_law_urn") (defArgs (topS 30)) (@FuncBody.stmts (defBody (topS 30))) (defScope (topS 30)) (nat_lit 3) [] Value.none Value.none Value.none (@Value.str (@Str.ofString "law_menuhouses_k45_looks_made_and_read") (nat_lit 600)) none (@Value.ref (nat_lit 324)) Value.none (nat_lit 0))) (.mk []))
def o326 (P : Params) : Obj := (@Obj.mk (@Value.type "tuple") none (@Data.seq (.mk []) (nat_lit 0)) (.mk []))
def o327 (P : Params) : Obj := (@Obj.mk Value.none none (@Data.fields (.mk [])) (.mk []))
def o328 (P : Params) : Obj := (@Obj.mk (@Value.type "tuple") none (@Data.seq (.mk [(@Value.str (@Str.ofString "_law_urn_here") (nat_lit 617)), (@Value.str (@Str.ofString "_law_many") (nat_lit 618)), (@Value.str (@Str.ofString "_law_mixed") (nat_lit 619)), (@Value.str (@Str.ofString "_law_digit") (nat_lit 620))]) (nat_lit 0)) (.mk []))
def o329 (P : Params) : Obj := (@Obj.mk (@Value.type "tuple") none (@Data.seq (.mk []) (nat_lit 0)) (.mk []))
def o330 (P : Params) : Obj := (@Obj.mk Value.none none (@Data.func (@FuncData.mk (@Str.ofString "_law_draw") (@Str.ofString "_law_draw") (defArgs (topS 31)) (@FuncBody.stmts (defBody (topS 31))) (defScope (topS 31)) (nat_lit 0) [] Value.none Value.none Value.none Value.none none Value.none Value.none (nat_lit 0))) (.mk []))
def o331 (P : Params) : Obj := (@Obj.mk (@Value.type "code") none (@Data.fields (.mk [(@Value.str (@Str.ofString "_law_draw") (nat_lit 614)), (@Value.str (@Str.ofString "_law_draw") (nat_lit 615)), (@Value.str (@Str.ofString "/claim/cut.py") (nat_lit 616)), (@Value.int (.ofNat (nat_lit 149)) (nat_lit 0)), (@Value.int (.ofNat (nat_lit 2)) (nat_lit 0)), (@Value.int (.ofNat (nat_lit 0)) (nat_lit 0)), (@Value.int (.ofNat (nat_lit 0)) (nat_lit 0)), (@Value.int (.ofNat (nat_lit 3)) (nat_lit 0)), (@Value.ref (nat_lit 326)), (@Value.bool true), (@Value.int (.ofNat (nat_lit 181)) (nat_lit 0)), (@Value.ref (nat_lit 327)), Value.none, (@Value.ref (nat_lit 328)), (@Value.ref (nat_lit 329)), (@Value.ref (nat_lit 330)), (@Value.int (.ofNat (nat_lit 621)) (nat_lit 0)), (@Value.int (.ofNat (nat_lit 149)) (nat_lit 0)), (@Value.str (@Str.ofString "/claim/cut.py") (nat_lit 622))])) (.mk []))
def o332 (P : Params) : Obj := (@Obj.mk (@Value.type "function") none (@Data.func (@FuncData.mk (@Str.ofString "_law_draw") (@Str.ofString "_law_draw") (defArgs (topS 31)) (@FuncBody.stmts (defBody (topS 31))) (defScope (topS 31)) (nat_lit 3) [] Value.none Value.none Value.none (@Value.str (@Str.ofString "law_menuhouses_k45_looks_made_and_read") (nat_lit 600)) none (@Value.ref (nat_lit 331)) Value.none (nat_lit 0))) (.mk []))
def o333 (P : Params) : Obj := (@Obj.mk (@Value.type "tuple") none (@Data.seq (.mk []) (nat_lit 0)) (.mk []))
def o334 (P : Params) : Obj := (@Obj.mk Value.none none (@Data.fields (.mk [])) (.mk []))
def o335 (P : Params) : Obj := (@Obj.mk (@Value.type "tuple") none (@Data.seq (.mk [(@Value.str (@Str.ofString "_law_urn_here") (nat_lit 627)), (@Value.str (@Str.ofString "_law_signs") (nat_lit 628)), (@Value.str (@Str.ofString "_law_found") (nat_lit 629)), (@Value.str (@Str.ofString "_law_turn") (nat_lit 630))]) (nat_lit 0)) (.mk []))
def o336 (P : Params) : Obj := (@Obj.mk (@Value.type "tuple") none (@Data.seq (.mk []) (nat_lit 0)) (.mk []))
def o337 (P : Params) : Obj := (@Obj.mk Value.none none (@Data.func (@FuncData.mk (@Str.ofString "_law_name") (@Str.ofString "_law_name") (defArgs (topS 32)) (@FuncBody.stmts (defBody (topS 32))) (defScope (topS 32)) (nat_lit 0) [] Value.none Value.none Value.none Value.none none Value.none Value.none (nat_lit 0))) (.mk []))
def o338 (P : Params) : Obj := (@Obj.mk (@Value.type "code") none (@Data.fields (.mk [(@Value.str (@Str.ofString "_law_name") (nat_lit 624)), (@Value.str (@Str.ofString "_law_name") (nat_lit 625)), (@Value.str (@Str.ofString "/claim/cut.py") (nat_lit 626)), (@Value.int (.ofNat (nat_lit 158)) (nat_lit 0)), (@Value.int (.ofNat (nat_lit 1)) (nat_lit 0)), (@Value.int (.ofNat (nat_lit 0)) (nat_lit 0)), (@Value.int (.ofNat (nat_lit 0)) (nat_lit 0)), (@Value.int (.ofNat (nat_lit 3)) (nat_lit 0)), (@Value.ref (nat_lit 333)), (@Value.bool true), (@Value.int (.ofNat (nat_lit 181)) (nat_lit 0)), (@Value.ref (nat_lit 334)), Value.none, (@Value.ref (nat_lit 335)), (@Value.ref (nat_lit 336)), (@Value.ref (nat_lit 337)), (@Value.int (.ofNat (nat_lit 631)) (nat_lit 0)), (@Value.int (.ofNat (nat_lit 158)) (nat_lit 0)), (@Value.str (@Str.ofString "/claim/cut.py") (nat_lit 632))])) (.mk []))
def o339 (P : Params) : Obj := (@Obj.mk (@Value.type "function") none (@Data.func (@FuncData.mk (@Str.ofString "_law_name") (@Str.ofString "_law_name") (defArgs (topS 32)) (@FuncBody.stmts (defBody (topS 32))) (defScope (topS 32)) (nat_lit 3) [] Value.none Value.none Value.none (@Value.str (@Str.ofString "law_menuhouses_k45_looks_made_and_read") (nat_lit 600)) none (@Value.ref (nat_lit 338)) Value.none (nat_lit 0))) (.mk []))
def o340 (P : Params) : Obj := (@Obj.mk (@Value.type "tuple") none (@Data.seq (.mk []) (nat_lit 0)) (.mk []))
def o341 (P : Params) : Obj := (@Obj.mk Value.none none (@Data.fields (.mk [])) (.mk []))
def o342 (P : Params) : Obj := (@Obj.mk Value.none none (@Data.func (@FuncData.mk (@Str.ofString "_law_names") (@Str.ofString "_law_names") (defArgs (topS 33)) (@FuncBody.stmts (defBody (topS 33))) (defScope (topS 33)) (nat_lit 0) [] Value.none Value.none Value.none Value.none none Value.none Value.none (nat_lit 0))) (.mk []))
def o343 (P : Params) : Obj := (@Obj.mk (@Value.type "code") none (@Data.fields (.mk [(@Value.str (@Str.ofString "_law_names") (nat_lit 634)), (@Value.str (@Str.ofString "_law_names") (nat_lit 635)), (@Value.str (@Str.ofString "/claim/cut.py") (nat_lit 636)), (@Value.int (.ofNat (nat_lit 164)) (nat_lit 0)), (@Value.int (.ofNat (nat_lit 2)) (nat_lit 0)), (@Value.int (.ofNat (nat_lit 0)) (nat_lit 0)), (@Value.int (.ofNat (nat_lit 0)) (nat_lit 0)), (@Value.int (.ofNat (nat_lit 3)) (nat_lit 0)), (@Value.ref (nat_lit 340)), (@Value.bool true), (@Value.int (.ofNat (nat_lit 181)) (nat_lit 0)), (@Value.ref (nat_lit 341)), Value.none, Value.none, Value.none, (@Value.ref (nat_lit 342)), (@Value.int (.ofNat (nat_lit 637)) (nat_lit 0)), (@Value.int (.ofNat (nat_lit 164)) (nat_lit 0)), (@Value.str (@Str.ofString "/claim/cut.py") (nat_lit 638))])) (.mk []))
def o344 (P : Params) : Obj := (@Obj.mk (@Value.type "function") none (@Data.func (@FuncData.mk (@Str.ofString "_law_names") (@Str.ofString "_law_names") (defArgs (topS 33)) (@FuncBody.stmts (defBody (topS 33))) (defScope (topS 33)) (nat_lit 3) [] Value.none Value.none Value.none (@Value.str (@Str.ofString "law_menuhouses_k45_looks_made_and_read") (nat_lit 600)) none (@Value.ref (nat_lit 343)) Value.none (nat_lit 0))) (.mk []))
def o345 (P : Params) : Obj := (@Obj.mk (@Value.type "tuple") none (@Data.seq (.mk []) (nat_lit 0)) (.mk []))
def o346 (P : Params) : Obj := (@Obj.mk Value.none none (@Data.fields (.mk [])) (.mk []))
def o347 (P : Params) : Obj := (@Obj.mk Value.none none (@Data.func (@FuncData.mk (@Str.ofString "_law_marks") (@Str.ofString "_law_marks") (defArgs (topS 34)) (@FuncBody.stmts (defBody (topS 34))) (defScope (topS 34)) (nat_lit 0) [] Value.none Value.none Value.none Value.none none Value.none Value.none (nat_lit 0))) (.mk []))
def o348 (P : Params) : Obj := (@Obj.mk (@Value.type "code") none (@Data.fields (.mk [(@Value.str (@Str.ofString "_law_marks") (nat_lit 640)), (@Value.str (@Str.ofString "_law_marks") (nat_lit 641)), (@Value.str (@Str.ofString "/claim/cut.py") (nat_lit 642)), (@Value.int (.ofNat (nat_lit 173)) (nat_lit 0)), (@Value.int (.ofNat (nat_lit 2)) (nat_lit 0)), (@Value.int (.ofNat (nat_lit 0)) (nat_lit 0)), (@Value.int (.ofNat (nat_lit 0)) (nat_lit 0)), (@Value.int (.ofNat (nat_lit 3)) (nat_lit 0)), (@Value.ref (nat_lit 345)), (@Value.bool true), (@Value.int (.ofNat (nat_lit 181)) (nat_lit 0)), (@Value.ref (nat_lit 346)), Value.none, Value.none, Value.none, (@Value.ref (nat_lit 347)), (@Value.int (.ofNat (nat_lit 643)) (nat_lit 0)), (@Value.int (.ofNat (nat_lit 173)) (nat_lit 0)), (@Value.str (@Str.ofString "/claim/cut.py") (nat_lit 644))])) (.mk []))
def o349 (P : Params) : Obj := (@Obj.mk (@Value.type "function") none (@Data.func (@FuncData.mk (@Str.ofString "_law_marks") (@Str.ofString "_law_marks") (defArgs (topS 34)) (@FuncBody.stmts (defBody (topS 34))) (defScope (topS 34)) (nat_lit 3) [] Value.none Value.none Value.none (@Value.str (@Str.ofString "law_menuhouses_k45_looks_made_and_read") (nat_lit 600)) none (@Value.ref (nat_lit 348)) Value.none (nat_lit 0))) (.mk []))
def o350 (P : Params) : Obj := (@Obj.mk (@Value.type "tuple") none (@Data.seq (.mk []) (nat_lit 0)) (.mk []))
def o351 (P : Params) : Obj := (@Obj.mk Value.none none (@Data.fields (.mk [])) (.mk []))
def o352 (P : Params) : Obj := (@Obj.mk Value.none none (@Data.func (@FuncData.mk (@Str.ofString "_law_text") (@Str.ofString "_law_text") (defArgs (topS 35)) (@FuncBody.stmts (defBody (topS 35))) (defScope (topS 35)) (nat_lit 0) [] Value.none Value.none Value.none Value.none none Value.none Value.none (nat_lit 0))) (.mk []))
def o353 (P : Params) : Obj := (@Obj.mk (@Value.type "code") none (@Data.fields (.mk [(@Value.str (@Str.ofString "_law_text") (nat_lit 646)), (@Value.str (@Str.ofString "_law_text") (nat_lit 647)), (@Value.str (@Str.ofString "/claim/cut.py") (nat_lit 648)), (@Value.int (.ofNat (nat_lit 178)) (nat_lit 0)), (@Value.int (.ofNat (nat_lit 1)) (nat_lit 0)), (@Value.int (.ofNat (nat_lit 0)) (nat_lit 0)), (@Value.int (.ofNat (nat_lit 0)) (nat_lit 0)), (@Value.int (.ofNat (nat_lit 3)) (nat_lit 0)), (@Value.ref (nat_lit 350)), (@Value.bool true), (@Value.int (.ofNat (nat_lit 181)) (nat_lit 0)), (@Value.ref (nat_lit 351)), Value.none, Value.none, Value.none, (@Value.ref (nat_lit 352)), (@Value.int (.ofNat (nat_lit 649)) (nat_lit 0)), (@Value.int (.ofNat (nat_lit 178)) (nat_lit 0)), (@Value.str (@Str.ofString "/claim/cut.py") (nat_lit 650))])) (.mk []))
def o354 (P : Params) : Obj := (@Obj.mk (@Value.type "function") none (@Data.func (@FuncData.mk (@Str.ofString "_law_text") (@Str.ofString "_law_text") (defArgs (topS 35)) (@FuncBody.stmts (defBody (topS 35))) (defScope (topS 35)) (nat_lit 3) [] Value.none Value.none Value.none (@Value.str (@Str.ofString "law_menuhouses_k45_looks_made_and_read") (nat_lit 600)) none (@Value.ref (nat_lit 353)) Value.none (nat_lit 0))) (.mk []))
def o355 (P : Params) : Obj := (@Obj.mk (@Value.type "tuple") none (@Data.seq (.mk []) (nat_lit 0)) (.mk []))
def o356 (P : Params) : Obj := (@Obj.mk Value.none none (@Data.fields (.mk [])) (.mk []))
def o357 (P : Params) : Obj := (@Obj.mk Value.none none (@Data.func (@FuncData.mk (@Str.ofString "_law_is") (@Str.ofString "_law_is") (defArgs (topS 36)) (@FuncBody.stmts (defBody (topS 36))) (defScope (topS 36)) (nat_lit 0) [] Value.none Value.none Value.none Value.none none Value.none Value.none (nat_lit 0))) (.mk []))
def o358 (P : Params) : Obj := (@Obj.mk (@Value.type "code") none (@Data.fields (.mk [(@Value.str (@Str.ofString "_law_is") (nat_lit 652)), (@Value.str (@Str.ofString "_law_is") (nat_lit 653)), (@Value.str (@Str.ofString "/claim/cut.py") (nat_lit 654)), (@Value.int (.ofNat (nat_lit 180)) (nat_lit 0)), (@Value.int (.ofNat (nat_lit 3)) (nat_lit 0)), (@Value.int (.ofNat (nat_lit 0)) (nat_lit 0)), (@Value.int (.ofNat (nat_lit 0)) (nat_lit 0)), (@Value.int (.ofNat (nat_lit 3)) (nat_lit 0)), (@Value.ref (nat_lit 355)), (@Value.bool true), (@Value.int (.ofNat (nat_lit 181)) (nat_lit 0)), (@Value.ref (nat_lit 356)), Value.none, Value.none, Value.none, (@Value.ref (nat_lit 357)), (@Value.int (.ofNat (nat_lit 655)) (nat_lit 0)), (@Value.int (.ofNat (nat_lit 180)) (nat_lit 0)), (@Value.str (@Str.ofString "/claim/cut.py") (nat_lit 656))])) (.mk []))
def o359 (P : Params) : Obj := (@Obj.mk (@Value.type "function") none (@Data.func (@FuncData.mk (@Str.ofString "_law_is") (@Str.ofString "_law_is") (defArgs (topS 36)) (@FuncBody.stmts (defBody (topS 36))) (defScope (topS 36)) (nat_lit 3) [] Value.none Value.none Value.none (@Value.str (@Str.ofString "law_menuhouses_k45_looks_made_and_read") (nat_lit 600)) none (@Value.ref (nat_lit 358)) Value.none (nat_lit 0))) (.mk []))
def o360 (P : Params) : Obj := (@Obj.mk (@Value.type "tuple") none (@Data.seq (.mk []) (nat_lit 0)) (.mk []))
def o361 (P : Params) : Obj := (@Obj.mk Value.none none (@Data.fields (.mk [])) (.mk []))
def o362 (P : Params) : Obj := (@Obj.mk (@Value.type "tuple") none (@Data.seq (.mk [(@Value.str (@Str.ofString "_law_urn_here") (nat_lit 661)), (@Value.str (@Str.ofString "_law_menu") (nat_lit 662)), (@Value.str (@Str.ofString "_law_signs") (nat_lit 663)), (@Value.str (@Str.ofString "_law_at") (nat_lit 664)), (@Value.str (@Str.ofString "_law_mark") (nat_lit 665)), (@Value.str (@Str.ofString "_law_found") (nat_lit 666))]) (nat_lit 0)) (.mk []))
def o363 (P : Params) : Obj := (@Obj.mk (@Value.type "tuple") none (@Data.seq (.mk []) (nat_lit 0)) (.mk []))
def o364 (P : Params) : Obj := (@Obj.mk Value.none none (@Data.func (@FuncData.mk (@Str.ofString "_law_others") (@Str.ofString "_law_others") (defArgs (topS 37)) (@FuncBody.stmts (defBody (topS 37))) (defScope (topS 37)) (nat_lit 0) [] Value.none Value.none Value.none Value.none none Value.none Value.none (nat_lit 0))) (.mk []))
def o365 (P : Params) : Obj := (@Obj.mk (@Value.type "code") none (@Data.fields (.mk [(@Value.str (@Str.ofString "_law_others") (nat_lit 658)), (@Value.str (@Str.ofString "_law_others") (nat_lit 659)), (@Value.str (@Str.ofString "/claim/cut.py") (nat_lit 660)), (@Value.int (.ofNat (nat_lit 189)) (nat_lit 0)), (@Value.int (.ofNat (nat_lit 3)) (nat_lit 0)), (@Value.int (.ofNat (nat_lit 0)) (nat_lit 0)), (@Value.int (.ofNat (nat_lit 0)) (nat_lit 0)), (@Value.int (.ofNat (nat_lit 3)) (nat_lit 0)), (@Value.ref (nat_lit 360)), (@Value.bool true), (@Value.int (.ofNat (nat_lit 181)) (nat_lit 0)), (@Value.ref (nat_lit 361)), Value.none, (@Value.ref (nat_lit 362)), (@Value.ref (nat_lit 363)), (@Value.ref (nat_lit 364)), (@Value.int (.ofNat (nat_lit 667)) (nat_lit 0)), (@Value.int (.ofNat (nat_lit 189)) (nat_lit 0)), (@Value.str (@Str.ofString "/claim/cut.py") (nat_lit 668))])) (.mk []))
def o366 (P : Params) : Obj := (@Obj.mk (@Value.type "function") none (@Data.func (@FuncData.mk (@Str.ofString "_law_others") (@Str.ofString "_law_others") (defArgs (topS 37)) (@FuncBody.stmts (defBody (topS 37))) (defScope (topS 37)) (nat_lit 3) [] Value.none Value.none Value.none (@Value.str (@Str.ofString "law_menuhouses_k45_looks_made_and_read") (nat_lit 600)) none (@Value.ref (nat_lit 365)) Value.none (nat_lit 0))) (.mk []))
def o2 (P : Params) : Obj := (@Obj.mk Value.none none (@Data.dict (.mk []) (nat_lit 0)) (.mk []))
def o3v3 (P : Params) : Obj := (@Obj.mk (@Value.type "dict") none (@Data.dict (.mk [(@DictEntry.mk (@PyData.keyHash P (@Str.ofString "__name__")) (@Value.str (@Str.ofString "__name__") (nat_lit 165)) (@Value.str (@Str.ofString "law_menuhouses_k45_looks_made_and_read") (nat_lit 600))), (@DictEntry.mk (@PyData.keyHash P (@Str.ofString "__doc__")) (@Value.str (@Str.ofString "__doc__") (nat_lit 166)) Value.none), (@DictEntry.mk (@PyData.keyHash P (@Str.ofString "__package__")) (@Value.str (@Str.ofString "__package__") (nat_lit 167)) Value.none), (@DictEntry.mk (@PyData.keyHash P (@Str.ofString "__loader__")) (@Value.str (@Str.ofString "__loader__") (nat_lit 168)) (@Value.builtin "__main__.__loader__#opaque")), (@DictEntry.mk (@PyData.keyHash P (@Str.ofString "__spec__")) (@Value.str (@Str.ofString "__spec__") (nat_lit 169)) Value.none), (@DictEntry.mk (@PyData.keyHash P (@Str.ofString "__annotations__")) (@Value.str (@Str.ofString "__annotations__") (nat_lit 170)) (@Value.ref (nat_lit 6))), (@DictEntry.mk (@PyData.keyHash P (@Str.ofString "__builtins__")) (@Value.str (@Str.ofString "__builtins__") (nat_lit 171)) (@Value.ref (nat_lit 4))), (@DictEntry.mk (@PyData.keyHash P (@Str.ofString "__file__")) (@Value.str (@Str.ofString "__file__") (nat_lit 173)) (@Value.str (@Str.ofString "/claim/cut.py") (nat_lit 172))), (@DictEntry.mk (@PyData.keyHash P (@Str.ofString "__cached__")) (@Value.str (@Str.ofString "__cached__") (nat_lit 174)) Value.none), (@DictEntry.mk (@PyData.keyHash P (@Str.ofString "_wall")) (@Value.str (@Str.ofString "_wall") (nat_lit 193)) (@Value.ref (nat_lit 21))), (@DictEntry.mk (@PyData.keyHash P (@Str.ofString "WrongValue")) (@Value.str (@Str.ofString "WrongValue") (nat_lit 213)) (@Value.ref (nat_lit 31))), (@DictEntry.mk (@PyData.keyHash P (@Str.ofString "InvalidText")) (@Value.str (@Str.ofString "InvalidText") (nat_lit 238)) (@Value.ref (nat_lit 51))), (@DictEntry.mk (@PyData.keyHash P (@Str.ofString "InvalidMarks")) (@Value.str (@Str.ofString "InvalidMarks") (nat_lit 263)) (@Value.ref (nat_lit 70))), (@DictEntry.mk (@PyData.keyHash P (@Str.ofString "InvalidMenu")) (@Value.str (@Str.ofString "InvalidMenu") (nat_lit 288)) (@Value.ref (nat_lit 89))), (@DictEntry.mk (@PyData.keyHash P (@Str.ofString "InvalidTaken")) (@Value.str (@Str.ofString "InvalidTaken") (nat_lit 313)) (@Value.ref (nat_lit 108))), (@DictEntry.mk (@PyData.keyHash P (@Str.ofString "WrongName")) (@Value.str (@Str.ofString "WrongName") (nat_lit 331)) (@Value.ref (nat_lit 120))), (@DictEntry.mk (@PyData.keyHash P (@Str.ofString "UnknownThing")) (@Value.str (@Str.ofString "UnknownThing") (nat_lit 356)) (@Value.ref (nat_lit 140))), (@DictEntry.mk (@PyData.keyHash P (@Str.ofString "MOST_THINGS")) (@Value.str (@Str.ofString "MOST_THINGS") (nat_lit 358)) (@Value.int (.ofNat (nat_lit 10)) (nat_lit 357))), (@DictEntry.mk (@PyData.keyHash P (@Str.ofString "LETTERS")) (@Value.str (@Str.ofString "LETTERS") (nat_lit 362)) (@Value.str (@Str.ofString "abcdefghijklmnopqrstuvwxyz") (nat_lit 361))), (@DictEntry.mk (@PyData.keyHash P (@Str.ofString "DIGITS")) (@Value.str (@Str.ofString "DIGITS") (nat_lit 364)) (@Value.str (@Str.ofString "0123456789") (nat_lit 363))), (@DictEntry.mk (@PyData.keyHash P (@Str.ofString "LONGEST_NAME")) (@Value.str (@Str.ofString "LONGEST_NAME") (nat_lit 366)) (@Value.int (.ofNat (nat_lit 8)) (nat_lit 365))), (@DictEntry.mk (@PyData.keyHash P (@Str.ofString "is_name")) (@Value.str (@Str.ofString "is_name") (nat_lit 372)) (@Value.ref (nat_lit 147))), (@DictEntry.mk (@PyData.keyHash P (@Str.ofString "is_filled_tuple")) (@Value.str (@Str.ofString "is_filled_tuple") (nat_lit 379)) (@Value.ref (nat_lit 154))), (@DictEntry.mk (@PyData.keyHash P (@Str.ofString "is_one_of")) (@Value.str (@Str.ofString "is_one_of") (nat_lit 387)) (@Value.ref (nat_lit 161))), (@DictEntry.mk (@PyData.keyHash P (@Str.ofString "first_wrong_of_names")) (@Value.str (@Str.ofString "first_wrong_of_names") (nat_lit 397)) (@Value.ref (nat_lit 169))), (@DictEntry.mk (@PyData.keyHash P (@Str.ofString "first_wrong_on_menu")) (@Value.str (@Str.ofString "first_wrong_on_menu") (nat_lit 407)) (@Value.ref (nat_lit 176))), (@DictEntry.mk (@PyData.keyHash P (@Str.ofString "check_names_of_menu")) (@Value.str (@Str.ofString "check_names_of_menu") (nat_lit 415)) (@Value.ref (nat_lit 183))), (@DictEntry.mk (@PyData.keyHash P (@Str.ofString "check_taken")) (@Value.str (@Str.ofString "check_taken") (nat_lit 424)) (@Value.ref (nat_lit 190))), (@DictEntry.mk (@PyData.keyHash P (@Str.ofString "check_thing")) (@Value.str (@Str.ofString "check_thing") (nat_lit 432)) (@Value.ref (nat_lit 197))), (@DictEntry.mk (@PyData.keyHash P (@Str.ofString "index_of")) (@Value.str (@Str.ofString "index_of") (nat_lit 440)) (@Value.ref (nat_lit 202))), (@DictEntry.mk (@PyData.keyHash P (@Str.ofString "MARKS")) (@Value.str (@Str.ofString "MARKS") (nat_lit 444)) (@Value.str (@Str.ofString "+-?") (nat_lit 443))), (@DictEntry.mk (@PyData.keyHash P (@Str.ofString "are_marks")) (@Value.str (@Str.ofString "are_marks") (nat_lit 450)) (@Value.ref (nat_lit 207))), (@DictEntry.mk (@PyData.keyHash P (@Str.ofString "look_at_just")) (@Value.str (@Str.ofString "look_at_just") (nat_lit 456)) (@Value.ref (nat_lit 212))), (@DictEntry.mk (@PyData.keyHash P (@Str.ofString "Look")) (@Value.str (@Str.ofString "Look") (nat_lit 599)) (@Value.ref (nat_lit 314))), (@DictEntry.mk (@PyData.keyHash P (@Str.ofString "_law_urn")) (@Value.str (@Str.ofString "_law_urn") (nat_lit 613)) (@Value.ref (nat_lit 325))), (@DictEntry.mk (@PyData.keyHash P (@Str.ofString "_law_draw")) (@Value.str (@Str.ofString "_law_draw") (nat_lit 623)) (@Value.ref (nat_lit 332))), (@DictEntry.mk (@PyData.keyHash P (@Str.ofString "_law_name")) (@Value.str (@Str.ofString "_law_name") (nat_lit 633)) (@Value.ref (nat_lit 339))), (@DictEntry.mk (@PyData.keyHash P (@Str.ofString "_law_names")) (@Value.str (@Str.ofString "_law_names") (nat_lit 639)) (@Value.ref (nat_lit 344))), (@DictEntry.mk (@PyData.keyHash P (@Str.ofString "_law_marks")) (@Value.str (@Str.ofString "_law_marks") (nat_lit 645)) (@Value.ref (nat_lit 349))), (@DictEntry.mk (@PyData.keyHash P (@Str.ofString "_law_text")) (@Value.str (@Str.ofString "_law_text") (nat_lit 651)) (@Value.ref (nat_lit 354))), (@DictEntry.mk (@PyData.keyHash P (@Str.ofString "_law_is")) (@Value.str (@Str.ofString "_law_is") (nat_lit 657)) (@Value.ref (nat_lit 359))), (@DictEntry.mk (@PyData.keyHash P (@Str.ofString "_law_others")) (@Value.str (@Str.ofString "_law_others") (nat_lit 669)) (@Value.ref (nat_lit 366))), (@DictEntry.mk (@PyData.keyHash P (@Str.ofString "_law_right")) (@Value.str (@Str.ofString "_law_right") (nat_lit 675)) (@Value.ref (nat_lit 371))), (@DictEntry.mk (@PyData.keyHash P (@Str.ofString "law")) (@Value.str (@Str.ofString "law") (nat_lit 681)) (@Value.ref (nat_lit 376)))]) (nat_lit 44)) (.mk []))
def o367 (P : Params) : Obj := (@Obj.mk (@Value.type "tuple") none (@Data.seq (.mk []) (nat_lit 0)) (.mk []))
def o370 (P : Params) : Obj := (@Obj.mk (@Value.type "code") none (@Data.fields (.mk [(@Value.str (@Str.ofString "_law_right") (nat_lit 670)), (@Value.str (@Str.ofString "_law_right") (nat_lit 671)), (@Value.str (@Str.ofString "/claim/cut.py") (nat_lit 672)), (@Value.int (.ofNat (nat_lit 198)) (nat_lit 0)), (@Value.int (.ofNat (nat_lit 1)) (nat_lit 0)), (@Value.int (.ofNat (nat_lit 0)) (nat_lit 0)), (@Value.int (.ofNat (nat_lit 0)) (nat_lit 0)), (@Value.int (.ofNat (nat_lit 3)) (nat_lit 0)), (@Value.ref (nat_lit 367)), (@Value.bool true), (@Value.int (.ofNat (nat_lit 181)) (nat_lit 0)), (@Value.ref (nat_lit 368)), Value.none, Value.none, Value.none, (@Value.ref (nat_lit 369)), (@Value.int (.ofNat (nat_lit 673)) (nat_lit 0)), (@Value.int (.ofNat (nat_lit 198)) (nat_lit 0)), (@Value.str (@Str.ofString "/claim/cut.py") (nat_lit 674))])) (.mk []))
def o371 (P : Params) : Obj := (@Obj.mk (@Value.type "function") none (@Data.func (@FuncData.mk (@Str.ofString "_law_right") (@Str.ofString "_law_right") (defArgs (topS 38)) (@FuncBody.stmts (defBody (topS 38))) (defScope (topS 38)) (nat_lit 3) [] Value.none Value.none Value.none (@Value.str (@Str.ofString "law_menuhouses_k45_looks_made_and_read") (nat_lit 600)) none (@Value.ref (nat_lit 370)) Value.none (nat_lit 0))) (.mk []))
def o372 (P : Params) : Obj := (@Obj.mk (@Value.type "tuple") none (@Data.seq (.mk []) (nat_lit 0)) (.mk []))
def o375 (P : Params) : Obj := (@Obj.mk (@Value.type "code") none (@Data.fields (.mk [(@Value.str (@Str.ofString "law") (nat_lit 676)), (@Value.str (@Str.ofString "law") (nat_lit 677)), (@Value.str (@Str.ofString "/claim/cut.py") (nat_lit 678)), (@Value.int (.ofNat (nat_lit 216)) (nat_lit 0)), (@Value.int (.ofNat (nat_lit 1)) (nat_lit 0)), (@Value.int (.ofNat (nat_lit 0)) (nat_lit 0)), (@Value.int (.ofNat (nat_lit 0)) (nat_lit 0)), (@Value.int (.ofNat (nat_lit 3)) (nat_lit 0)), (@Value.ref (nat_lit 372)), (@Value.bool true), (@Value.int (.ofNat (nat_lit 181)) (nat_lit 0)), (@Value.ref (nat_lit 373)), Value.none, Value.none, Value.none, (@Value.ref (nat_lit 374)), (@Value.int (.ofNat (nat_lit 679)) (nat_lit 0)), (@Value.int (.ofNat (nat_lit 216)) (nat_lit 0)), (@Value.str (@Str.ofString "/claim/cut.py") (nat_lit 680))])) (.mk []))
def o376 (P : Params) : Obj := (@Obj.mk (@Value.type "function") none (@Data.func (@FuncData.mk (@Str.ofString "law") (@Str.ofString "law") (defArgs (topS 39)) (@FuncBody.stmts (defBody (topS 39))) (defScope (topS 39)) (nat_lit 3) [] Value.none Value.none Value.none (@Value.str (@Str.ofString "law_menuhouses_k45_looks_made_and_read") (nat_lit 600)) none (@Value.ref (nat_lit 375)) Value.none (nat_lit 0))) (.mk []))
def T0 (P : Params) : BT := (.node (boot_o_0 P) (.node (boot_o_1 P) (.node (boot_o_3 P) (.node (boot_o_7 P) .nil .nil) (.node (o11 P) .nil .nil)) (.node (boot_o_5 P) (.node (boot_o_9 P) .nil .nil) (.node (o13 P) .nil .nil))) (.node (boot_o_2 P) (.node (boot_o_4 P) (.node (boot_o_8 P) .nil .nil) (.node (o12 P) .nil .nil)) (.node (boot_o_6 P) (.node (boot_o_10 P) .nil .nil) (.node (o14 P) .nil .nil))))
abbrev S0 (w : World) (os : OsState) : SharedT := ⟨T0 w.params, (nat_lit 15), (boot_heap w.params).life, .mk [], boot_drawn, (nat_lit 187), os⟩
def T1 (P : Params) : BT := (.node (boot_o_0 P) (.node (boot_o_1 P) (.node (boot_o_3 P) (.node (boot_o_7 P) .nil .nil) (.node (o11 P) .nil .nil)) (.node (boot_o_5 P) (.node (boot_o_9 P) .nil .nil) (.node (o13 P) .nil .nil))) (.node (boot_o_2 P) (.node (boot_o_4 P) (.node (boot_o_8 P) .nil .nil) (.node (o12 P) .nil .nil)) (.node (boot_o_6 P) (.node (boot_o_10 P) .nil .nil) (.node (o14 P) .nil .nil))))
abbrev S1 (w : World) (os : OsState) : SharedT := ⟨T1 w.params, (nat_lit 15), (boot_heap w.params).life, .mk [], boot_drawn, (nat_lit 187), os⟩
def T2 (P : Params) : BT := (.node (boot_o_0 P) (.node (boot_o_1 P) (.node (o3 P) (.node (boot_o_7 P) (.node (o15 P) (.node (o31 P) (.node (o63 P) .nil .nil) (.node (o95 P) .nil .nil)) (.node (o47 P) (.node (o79 P) .nil .nil) .nil)) (.node (o23 P) (.node (o39 P) (.node (o71 P) .nil .nil) (.node (o103 P) .nil .nil)) (.node (o55 P) (.node (o87 P) .nil .nil) .nil))) (.node (o11 P) (.node (o19 P) (.node (o35 P) (.node (o67 P) .nil .nil) (.node (o99 P) .nil .nil)) (.node (o51 P) (.node (o83 P) .nil .nil) .nil)) (.node (o27 P) (.node (o43 P) (.node (o75 P) .nil .nil) (.node (o107 P) .nil .nil)) (.node (o59 P) (.node (o91 P) .nil .nil) .nil)))) (.node (boot_o_5 P) (.node (boot_o_9 P) (.node (o17 P) (.node (o33 P) (.node (o65 P) .nil .nil) (.node (o97 P) .nil .nil)) (.node (o49 P) (.node (o81 P) .nil .nil) .nil)) (.node (o25 P) (.node (o41 P) (.node (o73 P) .nil .nil) (.node (o105 P) .nil .nil)) (.node (o57 P) (.node (o89 P) .nil .nil) .nil))) (.node (o13 P) (.node (o21 P) (.node (o37 P) (.node (o69 P) .nil .nil) (.node (o101 P) .nil .nil)) (.node (o53 P) (.node (o85 P) .nil .nil) .nil)) (.node (o29 P) (.node (o45 P) (.node (o77 P) .nil .nil) (.node (o109 P) .nil .nil)) (.node (o61 P) (.node (o93 P) .nil .nil) .nil))))) (.node (boot_o_2 P) (.node (boot_o_4 P) (.node (boot_o_8 P) (.node (o16 P) (.node (o32 P) (.node (o64 P) .nil .nil) (.node (o96 P) .nil .nil)) (.node (o48 P) (.node (o80 P) .nil .nil) .nil)) (.node (o24 P) (.node (o40 P) (.node (o72 P) .nil .nil) (.node (o104 P) .nil .nil)) (.node (o56 P) (.node (o88 P) .nil .nil) .nil))) (.node (o12v1 P) (.node (o20 P) (.node (o36 P) (.node (o68 P) .nil .nil) (.node (o100 P) .nil .nil)) (.node (o52 P) (.node (o84 P) .nil .nil) .nil)) (.node (o28 P) (.node (o44 P) (.node (o76 P) .nil .nil) (.node (o108 P) .nil .nil)) (.node (o60 P) (.node (o92 P) .nil .nil) .nil)))) (.node (boot_o_6 P) (.node (boot_o_10 P) (.node (o18 P) (.node (o34 P) (.node (o66 P) .nil .nil) (.node (o98 P) .nil .nil)) (.node (o50 P) (.node (o82 P) .nil .nil) .nil)) (.node (o26 P) (.node (o42 P) (.node (o74 P) .nil .nil) (.node (o106 P) .nil .nil)) (.node (o58 P) (.node (o90 P) .nil .nil) .nil))) (.node (o14 P) (.node (o22 P) (.node (o38 P) (.node (o70 P) .nil .nil) (.node (o102 P) .nil .nil)) (.node (o54 P) (.node (o86 P) .nil .nil) .nil)) (.node (o30 P) (.node (o46 P) (.node (o78 P) .nil .nil) (.node (o110 P) .nil .nil)) (.node (o62 P) (.node (o94 P) .nil .nil) .nil))))))
abbrev S2 (w : World) (os : OsState) : SharedT := ⟨T2 w.params, (nat_lit 111), (boot_heap w.params).life, .mk [], boot_drawn, (nat_lit 314), os⟩
def T3 (P : Params) : BT := (.node (boot_o_0 P) (.node (boot_o_1 P) (.node (o3v1 P) (.node (boot_o_7 P) (.node (o15 P) (.node (o31 P) (.node (o63 P) (.node (o127 P) .nil .nil) (.node (o191 P) .nil .nil)) (.node (o95 P) (.node (o159 P) .nil .nil) .nil)) (.node (o47 P) (.node (o79 P) (.node (o143 P) .nil .nil) (.node (o207 P) .nil .nil)) (.node (o111 P) (.node (o175 P) .nil .nil) .nil))) (.node (o23 P) (.node (o39 P) (.node (o71 P) (.node (o135 P) .nil .nil) (.node (o199 P) .nil .nil)) (.node (o103 P) (.node (o167 P) .nil .nil) .nil)) (.node (o55 P) (.node (o87 P) (.node (o151 P) .nil .nil) .nil) (.node (o119 P) (.node (o183 P) .nil .nil) .nil)))) (.node (o11 P) (.node (o19 P) (.node (o35 P) (.node (o67 P) (.node (o131 P) .nil .nil) (.node (o195 P) .nil .nil)) (.node (o99 P) (.node (o163 P) .nil .nil) .nil)) (.node (o51 P) (.node (o83 P) (.node (o147 P) .nil .nil) (.node (o211 P) .nil .nil)) (.node (o115 P) (.node (o179 P) .nil .nil) .nil))) (.node (o27 P) (.node (o43 P) (.node (o75 P) (.node (o139 P) .nil .nil) (.node (o203 P) .nil .nil)) (.node (o107 P) (.node (o171 P) .nil .nil) .nil)) (.node (o59 P) (.node (o91 P) (.node (o155 P) .nil .nil) .nil) (.node (o123 P) (.node (o187 P) .nil .nil) .nil))))) (.node (boot_o_5 P) (.node (boot_o_9 P) (.node (o17 P) (.node (o33 P) (.node (o65 P) (.node (o129 P) .nil .nil) (.node (o193 P) .nil .nil)) (.node (o97 P) (.node (o161 P) .nil .nil) .nil)) (.node (o49 P) (.node (o81 P) (.node (o145 P) .nil .nil) (.node (o209 P) .nil .nil)) (.node (o113 P) (.node (o177 P) .nil .nil) .nil))) (.node (o25 P) (.node (o41 P) (.node (o73 P) (.node (o137 P) .nil .nil) (.node (o201 P) .nil .nil)) (.node (o105 P) (.node (o169 P) .nil .nil) .nil)) (.node (o57 P) (.node (o89 P) (.node (o153 P) .nil .nil) .nil) (.node (o121 P) (.node (o185 P) .nil .nil) .nil)))) (.node (o13 P) (.node (o21 P) (.node (o37 P) (.node (o69 P) (.node (o133 P) .nil .nil) (.node (o197 P) .nil .nil)) (.node (o101 P) (.node (o165 P) .nil .nil) .nil)) (.node (o53 P) (.node (o85 P) (.node (o149 P) .nil .nil) .nil) (.node (o117 P) (.node (o181 P) .nil .nil) .nil))) (.node (o29 P) (.node (o45 P) (.node (o77 P) (.node (o141 P) .nil .nil) (.node (o205 P) .nil .nil)) (.node (o109 P) (.node (o173 P) .nil .nil) .nil)) (.node (o61 P) (.node (o93 P) (.node (o157 P) .nil .nil) .nil) (.node (o125 P) (.node (o189 P) .nil .nil) .nil)))))) (.node (boot_o_2 P) (.node (boot_o_4 P) (.node (boot_o_8 P) (.node (o16 P) (.node (o32 P) (.node (o64 P) (.node (o128 P) .nil .nil) (.node (o192 P) .nil .nil)) (.node (o96 P) (.node (o160 P) .nil .nil) .nil)) (.node (o48 P) (.node (o80 P) (.node (o144 P) .nil .nil) (.node (o208 P) .nil .nil)) (.node (o112 P) (.node (o176 P) .nil .nil) .nil))) (.node (o24 P) (.node (o40 P) (.node (o72 P) (.node (o136 P) .nil .nil) (.node (o200 P) .nil .nil)) (.node (o104 P) (.node (o168 P) .nil .nil) .nil)) (.node (o56 P) (.node (o88 P) (.node (o152 P) .nil .nil) .nil) (.node (o120 P) (.node (o184 P) .nil .nil) .nil)))) (.node (o12v2 P) (.node (o20 P) (.node (o36 P) (.node (o68 P) (.node (o132 P) .nil .nil) (.node (o196 P) .nil .nil)) (.node (o100 P) (.node (o164 P) .nil .nil) .nil)) (.node (o52 P) (.node (o84 P) (.node (o148 P) .nil .nil) (.node (o212 P) .nil .nil)) (.node (o116 P) (.node (o180 P) .nil .nil) .nil))) (.node (o28 P) (.node (o44 P) (.node (o76 P) (.node (o140 P) .nil .nil) (.node (o204 P) .nil .nil)) (.node (o108 P) (.node (o172 P) .nil .nil) .nil)) (.node (o60 P) (.node (o92 P) (.node (o156 P) .nil .nil) .nil) (.node (o124 P) (.node (o188 P) .nil .nil) .nil))))) (.node (boot_o_6 P) (.node (boot_o_10 P) (.node (o18 P) (.node (o34 P) (.node (o66 P) (.node (o130 P) .nil .nil) (.node (o194 P) .nil .nil)) (.node (o98 P) (.node (o162 P) .nil .nil) .nil)) (.node (o50 P) (.node (o82 P) (.node (o146 P) .nil .nil) (.node (o210 P) .nil .nil)) (.node (o114 P) (.node (o178 P) .nil .nil) .nil))) (.node (o26 P) (.node (o42 P) (.node (o74 P) (.node (o138 P) .nil .nil) (.node (o202 P) .nil .nil)) (.node (o106 P) (.node (o170 P) .nil .nil) .nil)) (.node (o58 P) (.node (o90 P) (.node (o154 P) .nil .nil) .nil) (.node (o122 P) (.node (o186 P) .nil .nil) .nil)))) (.node (o14 P) (.node (o22 P) (.node (o38 P) (.node (o70 P) (.node (o134 P) .nil .nil) (.node (o198 P) .nil .nil)) (.node (o102 P) (.node (o166 P) .nil .nil) .nil)) (.node (o54 P) (.node (o86 P) (.node (o150 P) .nil .nil) .nil) (.node (o118 P) (.node (o182 P) .nil .nil) .nil))) (.node (o30 P) (.node (o46 P) (.node (o78 P) (.node (o142 P) .nil .nil) (.node (o206 P) .nil .nil)) (.node (o110 P) (.node (o174 P) .nil .nil) .nil)) (.node (o62 P) (.node (o94 P) (.node (o158 P) .nil .nil) .nil) (.node (o126 P) (.node (o190 P) .nil .nil) .nil)))))))
abbrev S3 (w : World) (os : OsState) : SharedT := ⟨T3 w.params, (nat_lit 213), (boot_heap w.params).life, .mk [], boot_drawn, (nat_lit 457), os⟩
def T4 (P : Params) : BT := (.node (boot_o_0 P) (.node (boot_o_1 P) (.node (o3v2 P) (.node (boot_o_7 P) (.node (o15 P) (.node (o31 P) (.node (o63 P) (.node (o127 P) (.node (o255 P) .nil .nil) .nil) (.node (o191 P) (.node (o319 P) .nil .nil) .nil)) (.node (o95 P) (.node (o159 P) (.node (o287 P) .nil .nil) .nil) (.node (o223 P) (.node (o351 P) .nil .nil) .nil))) (.node (o47 P) (.node (o79 P) (.node (o143 P) (.node (o271 P) .nil .nil) .nil) (.node (o207 P) (.node (o335 P) .nil .nil) .nil)) (.node (o111 P) (.node (o175 P) (.node (o303 P) .nil .nil) .nil) (.node (o239 P) .nil .nil)))) (.node (o23 P) (.node (o39 P) (.node (o71 P) (.node (o135 P) (.node (o263 P) .nil .nil) .nil) (.node (o199 P) (.node (o327 P) .nil .nil) .nil)) (.node (o103 P) (.node (o167 P) (.node (o295 P) .nil .nil) .nil) (.node (o231 P) (.node (o359 P) .nil .nil) .nil))) (.node (o55 P) (.node (o87 P) (.node (o151 P) (.node (o279 P) .nil .nil) .nil) (.node (o215 P) (.node (o343 P) .nil .nil) .nil)) (.node (o119 P) (.node (o183 P) (.node (o311 P) .nil .nil) .nil) (.node (o247 P) .nil .nil))))) (.node (o11 P) (.node (o19 P) (.node (o35 P) (.node (o67 P) (.node (o131 P) (.node (o259 P) .nil .nil) .nil) (.node (o195 P) (.node (o323 P) .nil .nil) .nil)) (.node (o99 P) (.node (o163 P) (.node (o291 P) .nil .nil) .nil) (.node (o227 P) (.node (o355 P) .nil .nil) .nil))) (.node (o51 P) (.node (o83 P) (.node (o147 P) (.node (o275 P) .nil .nil) .nil) (.node (o211 P) (.node (o339 P) .nil .nil) .nil)) (.node (o115 P) (.node (o179 P) (.node (o307 P) .nil .nil) .nil) (.node (o243 P) .nil .nil)))) (.node (o27 P) (.node (o43 P) (.node (o75 P) (.node (o139 P) (.node (o267 P) .nil .nil) .nil) (.node (o203 P) (.node (o331 P) .nil .nil) .nil)) (.node (o107 P) (.node (o171 P) (.node (o299 P) .nil .nil) .nil) (.node (o235 P) (.node (o363 P) .nil .nil) .nil))) (.node (o59 P) (.node (o91 P) (.node (o155 P) (.node (o283 P) .nil .nil) .nil) (.node (o219 P) (.node (o347 P) .nil .nil) .nil)) (.node (o123 P) (.node (o187 P) (.node (o315 P) .nil .nil) .nil) (.node (o251 P) .nil .nil)))))) (.node (boot_o_5 P) (.node (boot_o_9 P) (.node (o17 P) (.node (o33 P) (.node (o65 P) (.node (o129 P) (.node (o257 P) .nil .nil) .nil) (.node (o193 P) (.node (o321 P) .nil .nil) .nil)) (.node (o97 P) (.node (o161 P) (.node (o289 P) .nil .nil) .nil) (.node (o225 P) (.node (o353 P) .nil .nil) .nil))) (.node (o49 P) (.node (o81 P) (.node (o145 P) (.node (o273 P) .nil .nil) .nil) (.node (o209 P) (.node (o337 P) .nil .nil) .nil)) (.node (o113 P) (.node (o177 P) (.node (o305 P) .nil .nil) .nil) (.node (o241 P) .nil .nil)))) (.node (o25 P) (.node (o41 P) (.node (o73 P) (.node (o137 P) (.node (o265 P) .nil .nil) .nil) (.node (o201 P) (.node (o329 P) .nil .nil) .nil)) (.node (o105 P) (.node (o169 P) (.node (o297 P) .nil .nil) .nil) (.node (o233 P) (.node (o361 P) .nil .nil) .nil))) (.node (o57 P) (.node (o89 P) (.node (o153 P) (.node (o281 P) .nil .nil) .nil) (.node (o217 P) (.node (o345 P) .nil .nil) .nil)) (.node (o121 P) (.node (o185 P) (.node (o313 P) .nil .nil) .nil) (.node (o249 P) .nil .nil))))) (.node (o13 P) (.node (o21 P) (.node (o37 P) (.node (o69 P) (.node (o133 P) (.node (o261 P) .nil .nil) .nil) (.node (o197 P) (.node (o325 P) .nil .nil) .nil)) (.node (o101 P) (.node (o165 P) (.node (o293 P) .nil .nil) .nil) (.node (o229 P) (.node (o357 P) .nil .nil) .nil))) (.node (o53 P) (.node (o85 P) (.node (o149 P) (.node (o277 P) .nil .nil) .nil) (.node (o213 P) (.node (o341 P) .nil .nil) .nil)) (.node (o117 P) (.node (o181 P) (.node (o309 P) .nil .nil) .nil) (.node (o245 P) .nil .nil)))) (.node (o29 P) (.node (o45 P) (.node (o77 P) (.node (o141 P) (.node (o269 P) .nil .nil) .nil) (.node (o205 P) (.node (o333 P) .nil .nil) .nil)) (.node (o109 P) (.node (o173 P) (.node (o301 P) .nil .nil) .nil) (.node (o237 P) (.node (o365 P) .nil .nil) .nil))) (.node (o61 P) (.node (o93 P) (.node (o157 P) (.node (o285 P) .nil .nil) .nil) (.node (o221 P) (.node (o349 P) .nil .nil) .nil)) (.node (o125 P) (.node (o189 P) (.node (o317 P) .nil .nil) .nil) (.node (o253 P) .nil .nil))))))) (.node (boot_o_2 P) (.node (boot_o_4 P) (.node (boot_o_8 P) (.node (o16 P) (.node (o32 P) (.node (o64 P) (.node (o128 P) (.node (o256 P) .nil .nil) .nil) (.node (o192 P) (.node (o320 P) .nil .nil) .nil)) (.node (o96 P) (.node (o160 P) (.node (o288 P) .nil .nil) .nil) (.node (o224 P) (.node (o352 P) .nil .nil) .nil))) (.node (o48 P) (.node (o80 P) (.node (o144 P) (.node (o272 P) .nil .nil) .nil) (.node (o208 P) (.node (o336 P) .nil .nil) .nil)) (.node (o112 P) (.node (o176 P) (.node (o304 P) .nil .nil) .nil) (.node (o240 P) .nil .nil)))) (.node (o24 P) (.node (o40 P) (.node (o72 P) (.node (o136 P) (.node (o264 P) .nil .nil) .nil) (.node (o200 P) (.node (o328 P) .nil .nil) .nil)) (.node (o104 P) (.node (o168 P) (.node (o296 P) .nil .nil) .nil) (.node (o232 P) (.node (o360 P) .nil .nil) .nil))) (.node (o56 P) (.node (o88 P) (.node (o152 P) (.node (o280 P) .nil .nil) .nil) (.node (o216 P) (.node (o344 P) .nil .nil) .nil)) (.node (o120 P) (.node (o184 P) (.node (o312 P) .nil .nil) .nil) (.node (o248 P) .nil .nil))))) (.node (o12v3 P) (.node (o20 P) (.node (o36 P) (.node (o68 P) (.node (o132 P) (.node (o260 P) .nil .nil) .nil) (.node (o196 P) (.node (o324 P) .nil .nil) .nil)) (.node (o100 P) (.node (o164 P) (.node (o292 P) .nil .nil) .nil) (.node (o228 P) (.node (o356 P) .nil .nil) .nil))) (.node (o52 P) (.node (o84 P) (.node (o148 P) (.node (o276 P) .nil .nil) .nil) (.node (o212 P) (.node (o340 P) .nil .nil) .nil)) (.node (o116 P) (.node (o180 P) (.node (o308 P) .nil .nil) .nil) (.node (o244 P) .nil .nil)))) (.node (o28 P) (.node (o44 P) (.node (o76 P) (.node (o140 P) (.node (o268 P) .nil .nil) .nil) (.node (o204 P) (.node (o332 P) .nil .nil) .nil)) (.node (o108 P) (.node (o172 P) (.node (o300 P) .nil .nil) .nil) (.node (o236 P) (.node (o364 P) .nil .nil) .nil))) (.node (o60 P) (.node (o92 P) (.node (o156 P) (.node (o284 P) .nil .nil) .nil) (.node (o220 P) (.node (o348 P) .nil .nil) .nil)) (.node (o124 P) (.node (o188 P) (.node (o316 P) .nil .nil) .nil) (.node (o252 P) .nil .nil)))))) (.node (boot_o_6 P) (.node (boot_o_10 P) (.node (o18 P) (.node (o34 P) (.node (o66 P) (.node (o130 P) (.node (o258 P) .nil .nil) .nil) (.node (o194 P) (.node (o322 P) .nil .nil) .nil)) (.node (o98 P) (.node (o162 P) (.node (o290 P) .nil .nil) .nil) (.node (o226 P) (.node (o354 P) .nil .nil) .nil))) (.node (o50 P) (.node (o82 P) (.node (o146 P) (.node (o274 P) .nil .nil) .nil) (.node (o210 P) (.node (o338 P) .nil .nil) .nil)) (.node (o114 P) (.node (o178 P) (.node (o306 P) .nil .nil) .nil) (.node (o242 P) .nil .nil)))) (.node (o26 P) (.node (o42 P) (.node (o74 P) (.node (o138 P) (.node (o266 P) .nil .nil) .nil) (.node (o202 P) (.node (o330 P) .nil .nil) .nil)) (.node (o106 P) (.node (o170 P) (.node (o298 P) .nil .nil) .nil) (.node (o234 P) (.node (o362 P) .nil .nil) .nil))) (.node (o58 P) (.node (o90 P) (.node (o154 P) (.node (o282 P) .nil .nil) .nil) (.node (o218 P) (.node (o346 P) .nil .nil) .nil)) (.node (o122 P) (.node (o186 P) (.node (o314 P) .nil .nil) .nil) (.node (o250 P) .nil .nil))))) (.node (o14 P) (.node (o22 P) (.node (o38 P) (.node (o70 P) (.node (o134 P) (.node (o262 P) .nil .nil) .nil) (.node (o198 P) (.node (o326 P) .nil .nil) .nil)) (.node (o102 P) (.node (o166 P) (.node (o294 P) .nil .nil) .nil) (.node (o230 P) (.node (o358 P) .nil .nil) .nil))) (.node (o54 P) (.node (o86 P) (.node (o150 P) (.node (o278 P) .nil .nil) .nil) (.node (o214 P) (.node (o342 P) .nil .nil) .nil)) (.node (o118 P) (.node (o182 P) (.node (o310 P) .nil .nil) .nil) (.node (o246 P) .nil .nil)))) (.node (o30 P) (.node (o46 P) (.node (o78 P) (.node (o142 P) (.node (o270 P) .nil .nil) .nil) (.node (o206 P) (.node (o334 P) .nil .nil) .nil)) (.node (o110 P) (.node (o174 P) (.node (o302 P) .nil .nil) .nil) (.node (o238 P) (.node (o366 P) .nil .nil) .nil))) (.node (o62 P) (.node (o94 P) (.node (o158 P) (.node (o286 P) .nil .nil) .nil) (.node (o222 P) (.node (o350 P) .nil .nil) .nil)) (.node (o126 P) (.node (o190 P) (.node (o318 P) .nil .nil) .nil) (.node (o254 P) .nil .nil))))))))
abbrev S4 (w : World) (os : OsState) : SharedT := ⟨T4 w.params, (nat_lit 367), (boot_heap w.params).life, .mk [], boot_drawn, (nat_lit 670), os⟩
theorem r_boot (w : World) (os : OsState) : bootQ w os (fun s => fore (stQ P0 w) (nat_lit 11) (some (@Value.ref (nat_lit 6))) 12 s (topStub P0)) = some (S0 w os, ⟨denQ tabQ c0, c0, (@Pos.mk (nat_lit 0) (nat_lit 0) (nat_lit 0) (nat_lit 0)), [topFrame q0]⟩) := by kernel_rfl
theorem r_block (w : World) (os : OsState) : seg (stQ P0 w) (nat_lit 11) (some (@Value.ref (nat_lit 6))) 1 (S0 w os) (blockOf b0 env0 c0 (@Pos.mk (nat_lit 0) (nat_lit 0) (nat_lit 0) (nat_lit 0)) [topFrame q0]) = some (.next, S1 w os, c0, (@Pos.mk (nat_lit 0) (nat_lit 0) (nat_lit 0) (nat_lit 0))) := by kernel_rfl
theorem r_cut1 (w : World) (os : OsState) : seg (stQ P0 w) (nat_lit 11) (some (@Value.ref (nat_lit 6))) 1205 (S1 w os) (piecesQ ((b0.drop 0).take 7) env0 c0 (@Pos.mk (nat_lit 0) (nat_lit 0) (nat_lit 0) (nat_lit 0)) [topFrame q0]) = some (.next, S2 w os, c0, (@Pos.mk (nat_lit 19) (nat_lit 0) (nat_lit 22) (nat_lit 26))) := by kernel_rfl
theorem r_cut2 (w : World) (os : OsState) : seg (stQ P0 w) (nat_lit 11) (some (@Value.ref (nat_lit 6))) 825 (S2 w os) (piecesQ ((b0.drop 7).take 21) env0 c0 (@Pos.mk (nat_lit 19) (nat_lit 0) (nat_lit 22) (nat_lit 26)) [topFrame q0]) = some (.next, S3 w os, c0, (@Pos.mk (nat_lit 80) (nat_lit 0) (nat_lit 81) (nat_lit 82))) := by kernel_rfl
theorem r_cut3 (w : World) (os : OsState) : seg (stQ P0 w) (nat_lit 11) (some (@Value.ref (nat_lit 6))) 1278 (S3 w os) (piecesQ ((b0.drop 28).take 10) env0 c0 (@Pos.mk (nat_lit 80) (nat_lit 0) (nat_lit 81) (nat_lit 82)) [topFrame q0]) = some (.next, S4 w os, c0, (@Pos.mk (nat_lit 189) (nat_lit 0) (nat_lit 197) (nat_lit 21))) := by kernel_rfl
abbrev view0 : Program := view P0 [0, 2, 3, 4, 5, 6, 7, 8, 9, 11, 12, 13, 14, 15, 16, 18, 19, 20, 21, 23, 25, 26, 27, 28, 30, 31, 32, 33, 34, 35, 36, 37, 38, 39]
def loose0 : List PySem.Str := ["first_wrong_of_names", "Look"]
def K0 : Params → Frag := fun P => (nat_lit 2, o2 P) :: (nat_lit 3, o3v3 P) :: (nat_lit 15, o15 P) :: (nat_lit 17, o17 P) :: (nat_lit 18, o18 P) :: (nat_lit 20, o20 P) :: (nat_lit 21, o21 P) :: (nat_lit 22, o22 P) :: (nat_lit 29, o29 P) :: (nat_lit 30, o30 P) :: (nat_lit 31, o31 P) :: (nat_lit 32, o32 P) :: (nat_lit 35, o35 P) :: (nat_lit 42, o42 P) :: (nat_lit 44, o44 P) :: (nat_lit 45, o45 P) :: (nat_lit 47, o47 P) :: (nat_lit 48, o48 P) :: (nat_lit 49, o49 P) :: (nat_lit 50, o50 P) :: (nat_lit 51, o51 P) :: (nat_lit 54, o54 P) :: (nat_lit 61, o61 P) :: (nat_lit 63, o63 P) :: (nat_lit 64, o64 P) :: (nat_lit 66, o66 P) :: (nat_lit 67, o67 P) :: (nat_lit 68, o68 P) :: (nat_lit 69, o69 P) :: (nat_lit 70, o70 P) :: (nat_lit 73, o73 P) :: (nat_lit 80, o80 P) :: (nat_lit 82, o82 P) :: (nat_lit 83, o83 P) :: (nat_lit 85, o85 P) :: (nat_lit 86, o86 P) :: (nat_lit 87, o87 P) :: (nat_lit 88, o88 P) :: (nat_lit 89, o89 P) :: (nat_lit 92, o92 P) :: (nat_lit 99, o99 P) :: (nat_lit 101, o101 P) :: (nat_lit 102, o102 P) :: (nat_lit 104, o104 P) :: (nat_lit 105, o105 P) :: (nat_lit 106, o106 P) :: (nat_lit 107, o107 P) :: (nat_lit 108, o108 P) :: (nat_lit 111, o111 P) :: (nat_lit 118, o118 P) :: (nat_lit 119, o119 P) :: (nat_lit 120, o120 P) :: (nat_lit 121, o121 P) :: (nat_lit 124, o124 P) :: (nat_lit 131, o131 P) :: (nat_lit 133, o133 P) :: (nat_lit 134, o134 P) :: (nat_lit 136, o136 P) :: (nat_lit 137, o137 P) :: (nat_lit 138, o138 P) :: (nat_lit 139, o139 P) :: (nat_lit 140, o140 P) :: (nat_lit 143, o143 P) :: (nat_lit 146, o146 P) :: (nat_lit 147, o147 P) :: (nat_lit 148, o148 P) :: (nat_lit 150, o150 P) :: (nat_lit 151, o151 P) :: (nat_lit 153, o153 P) :: (nat_lit 154, o154 P) :: (nat_lit 155, o155 P) :: (nat_lit 157, o157 P) :: (nat_lit 158, o158 P) :: (nat_lit 160, o160 P) :: (nat_lit 161, o161 P) :: (nat_lit 162, o162 P) :: (nat_lit 163, o163 P) :: (nat_lit 165, o165 P) :: (nat_lit 166, o166 P) :: (nat_lit 168, o168 P) :: (nat_lit 169, o169 P) :: (nat_lit 170, o170 P) :: (nat_lit 172, o172 P) :: (nat_lit 173, o173 P) :: (nat_lit 175, o175 P) :: (nat_lit 176, o176 P) :: (nat_lit 177, o177 P) :: (nat_lit 179, o179 P) :: (nat_lit 180, o180 P) :: (nat_lit 182, o182 P) :: (nat_lit 183, o183 P) :: (nat_lit 184, o184 P) :: (nat_lit 186, o186 P) :: (nat_lit 187, o187 P) :: (nat_lit 189, o189 P) :: (nat_lit 190, o190 P) :: (nat_lit 191, o191 P) :: (nat_lit 193, o193 P) :: (nat_lit 194, o194 P) :: (nat_lit 196, o196 P) :: (nat_lit 197, o197 P) :: (nat_lit 198, o198 P) :: (nat_lit 201, o201 P) :: (nat_lit 202, o202 P) :: (nat_lit 203, o203 P) :: (nat_lit 206, o206 P) :: (nat_lit 207, o207 P) :: (nat_lit 208, o208 P) :: (nat_lit 211, o211 P) :: (nat_lit 212, o212 P) :: (nat_lit 220, o220 P) :: (nat_lit 222, o222 P) :: (nat_lit 223, o223 P) :: (nat_lit 225, o225 P) :: (nat_lit 226, o226 P) :: (nat_lit 227, o227 P) :: (nat_lit 230, o230 P) :: (nat_lit 231, o231 P) :: (nat_lit 232, o232 P) :: (nat_lit 233, o233 P) :: (nat_lit 234, o234 P) :: (nat_lit 235, o235 P) :: (nat_lit 237, o237 P) :: (nat_lit 238, o238 P) :: (nat_lit 240, o240 P) :: (nat_lit 241, o241 P) :: (nat_lit 242, o242 P) :: (nat_lit 243, o243 P) :: (nat_lit 244, o244 P) :: (nat_lit 245, o245 P) :: (nat_lit 247, o247 P) :: (nat_lit 248, o248 P) :: (nat_lit 250, o250 P) :: (nat_lit 251, o251 P) :: (nat_lit 252, o252 P) :: (nat_lit 253, o253 P) :: (nat_lit 256, o256 P) :: (nat_lit 257, o257 P) :: (nat_lit 258, o258 P) :: (nat_lit 259, o259 P) :: (nat_lit 262, o262 P) :: (nat_lit 263, o263 P) :: (nat_lit 264, o264 P) :: (nat_lit 265, o265 P) :: (nat_lit 267, o267 P) :: (nat_lit 268, o268 P) :: (nat_lit 270, o270 P) :: (nat_lit 271, o271 P) :: (nat_lit 272, o272 P) :: (nat_lit 274, o274 P) :: (nat_lit 275, o275 P) :: (nat_lit 277, o277 P) :: (nat_lit 278, o278 P) :: (nat_lit 279, o279 P) :: (nat_lit 281, o281 P) :: (nat_lit 282, o282 P) :: (nat_lit 284, o284 P) :: (nat_lit 285, o285 P) :: (nat_lit 286, o286 P) :: (nat_lit 288, o288 P) :: (nat_lit 289, o289 P) :: (nat_lit 291, o291 P) :: (nat_lit 292, o292 P) :: (nat_lit 293, o293 P) :: (nat_lit 296, o296 P) :: (nat_lit 297, o297 P) :: (nat_lit 298, o298 P) :: (nat_lit 300, o300 P) :: (nat_lit 301, o301 P) :: (nat_lit 303, o303 P) :: (nat_lit 304, o304 P) :: (nat_lit 305, o305 P) :: (nat_lit 307, o307 P) :: (nat_lit 308, o308 P) :: (nat_lit 310, o310 P) :: (nat_lit 311, o311 P) :: (nat_lit 312, o312 P) :: (nat_lit 313, o313 P) :: (nat_lit 314, o314 P) :: (nat_lit 315, o315 P) :: (nat_lit 316, o316 P) :: (nat_lit 319, o319 P) :: (nat_lit 321, o321 P) :: (nat_lit 322, o322 P) :: (nat_lit 324, o324 P) :: (nat_lit 325, o325 P) :: (nat_lit 326, o326 P) :: (nat_lit 328, o328 P) :: (nat_lit 329, o329 P) :: (nat_lit 331, o331 P) :: (nat_lit 332, o332 P) :: (nat_lit 333, o333 P) :: (nat_lit 335, o335 P) :: (nat_lit 336, o336 P) :: (nat_lit 338, o338 P) :: (nat_lit 339, o339 P) :: (nat_lit 340, o340 P) :: (nat_lit 343, o343 P) :: (nat_lit 344, o344 P) :: (nat_lit 345, o345 P) :: (nat_lit 348, o348 P) :: (nat_lit 349, o349 P) :: (nat_lit 350, o350 P) :: (nat_lit 353, o353 P) :: (nat_lit 354, o354 P) :: (nat_lit 355, o355 P) :: (nat_lit 358, o358 P) :: (nat_lit 359, o359 P) :: (nat_lit 360, o360 P) :: (nat_lit 362, o362 P) :: (nat_lit 363, o363 P) :: (nat_lit 365, o365 P) :: (nat_lit 366, o366 P) :: (nat_lit 367, o367 P) :: (nat_lit 370, o370 P) :: (nat_lit 371, o371 P) :: (nat_lit 372, o372 P) :: (nat_lit 375, o375 P) :: (nat_lit 376, o376 P) :: []
def as0 : List Addr := [(nat_lit 2), (nat_lit 3), (nat_lit 15), (nat_lit 17), (nat_lit 18), (nat_lit 20), (nat_lit 21), (nat_lit 22), (nat_lit 29), (nat_lit 30), (nat_lit 31), (nat_lit 32), (nat_lit 35), (nat_lit 42), (nat_lit 44), (nat_lit 45), (nat_lit 47), (nat_lit 48), (nat_lit 49), (nat_lit 50), (nat_lit 51), (nat_lit 54), (nat_lit 61), (nat_lit 63), (nat_lit 64), (nat_lit 66), (nat_lit 67), (nat_lit 68), (nat_lit 69), (nat_lit 70), (nat_lit 73), (nat_lit 80), (nat_lit 82), (nat_lit 83), (nat_lit 85), (nat_lit 86), (nat_lit 87), (nat_lit 88), (nat_lit 89), (nat_lit 92), (nat_lit 99), (nat_lit 101), (nat_lit 102), (nat_lit 104), (nat_lit 105), (nat_lit 106), (nat_lit 107), (nat_lit 108), (nat_lit 111), (nat_lit 118), (nat_lit 119), (nat_lit 120), (nat_lit 121), (nat_lit 124), (nat_lit 131), (nat_lit 133), (nat_lit 134), (nat_lit 136), (nat_lit 137), (nat_lit 138), (nat_lit 139), (nat_lit 140), (nat_lit 143), (nat_lit 146), (nat_lit 147), (nat_lit 148), (nat_lit 150), (nat_lit 151), (nat_lit 153), (nat_lit 154), (nat_lit 155), (nat_lit 157), (nat_lit 158), (nat_lit 160), (nat_lit 161), (nat_lit 162), (nat_lit 163), (nat_lit 165), (nat_lit 166), (nat_lit 168), (nat_lit 169), (nat_lit 170), (nat_lit 172), (nat_lit 173), (nat_lit 175), (nat_lit 176), (nat_lit 177), (nat_lit 179), (nat_lit 180), (nat_lit 182), (nat_lit 183), (nat_lit 184), (nat_lit 186), (nat_lit 187), (nat_lit 189), (nat_lit 190), (nat_lit 191), (nat_lit 193), (nat_lit 194), (nat_lit 196), (nat_lit 197), (nat_lit 198), (nat_lit 201), (nat_lit 202), (nat_lit 203), (nat_lit 206), (nat_lit 207), (nat_lit 208), (nat_lit 211), (nat_lit 212), (nat_lit 220), (nat_lit 222), (nat_lit 223), (nat_lit 225), (nat_lit 226), (nat_lit 227), (nat_lit 230), (nat_lit 231), (nat_lit 232), (nat_lit 233), (nat_lit 234), (nat_lit 235), (nat_lit 237), (nat_lit 238), (nat_lit 240), (nat_lit 241), (nat_lit 242), (nat_lit 243), (nat_lit 244), (nat_lit 245), (nat_lit 247), (nat_lit 248), (nat_lit 250), (nat_lit 251), (nat_lit 252), (nat_lit 253), (nat_lit 256), (nat_lit 257), (nat_lit 258), (nat_lit 259), (nat_lit 262), (nat_lit 263), (nat_lit 264), (nat_lit 265), (nat_lit 267), (nat_lit 268), (nat_lit 270), (nat_lit 271), (nat_lit 272), (nat_lit 274), (nat_lit 275), (nat_lit 277), (nat_lit 278), (nat_lit 279), (nat_lit 281), (nat_lit 282), (nat_lit 284), (nat_lit 285), (nat_lit 286), (nat_lit 288), (nat_lit 289), (nat_lit 291), (nat_lit 292), (nat_lit 293), (nat_lit 296), (nat_lit 297), (nat_lit 298), (nat_lit 300), (nat_lit 301), (nat_lit 303), (nat_lit 304), (nat_lit 305), (nat_lit 307), (nat_lit 308), (nat_lit 310), (nat_lit 311), (nat_lit 312), (nat_lit 313), (nat_lit 314), (nat_lit 315), (nat_lit 316), (nat_lit 319), (nat_lit 321), (nat_lit 322), (nat_lit 324), (nat_lit 325), (nat_lit 326), (nat_lit 328), (nat_lit 329), (nat_lit 331), (nat_lit 332), (nat_lit 333), (nat_lit 335), (nat_lit 336), (nat_lit 338), (nat_lit 339), (nat_lit 340), (nat_lit 343), (nat_lit 344), (nat_lit 345), (nat_lit 348), (nat_lit 349), (nat_lit 350), (nat_lit 353), (nat_lit 354), (nat_lit 355), (nat_lit 358), (nat_lit 359), (nat_lit 360), (nat_lit 362), (nat_lit 363), (nat_lit 365), (nat_lit 366), (nat_lit 367), (nat_lit 370), (nat_lit 371), (nat_lit 372), (nat_lit 375), (nat_lit 376)]
theorem as0_eq (P : Params) : as0 = (K0 P).map (·.1) := by kernel_rfl
abbrev X0 : Shared → Bool := fun s => xlAt view0 [] s && recOk (RowW.records (OpenRow.toRowW R0)) s
theorem r_last (w : World) (os : OsState) : (goF (stQ P0 w) (nat_lit 11) (some (@Value.ref (nat_lit 6))) 73 (S4 w os) (restQ (b0.drop 38) env0 c0 (@Pos.mk (nat_lit 189) (nat_lit 0) (nat_lit 197) (nat_lit 21)) [topFrame q0])).map (Looks P0 view0 loose0 X0 as0 w) = some (Good view0 loose0 K0 w) := by kernel_rfl
theorem r_size (w : World) : (boot_heap w.params).objs.size = (nat_lit 11) := by kernel_rfl
theorem r_ann (w : World) : bootAnn w = (some (@Value.ref (nat_lit 6))) := by kernel_rfl
abbrev M0 : Nat := 12 + (1 + (1205 + (825 + (1278 + 73))))
theorem left0 : LeftO P0 view0 loose0 X0 (Hook.obs (kHook K0 as0 as0_eq)) (Hook.val (kHook K0 as0 as0_eq)) 7840 true := by
  refine left_cuts (M := M0) (by kernel_rfl) (by rfl) (fun s => by kernel_rfl) (by rfl) fun w os => ?_
  obtain ⟨s, hs, hb⟩ := bootQ_ok (r_boot w os)
  obtain ⟨r, hr, hl⟩ := Option.map_eq_some_iff.mp (r_last w os)
  refine ⟨s, r, hs, ?_, hl⟩
  rw [r_size w, r_ann w]
  exact run_fore hb (run_block (r_block w os) (run_cut (i := 0) (j := 7) (k := 7) (b := b0) rfl (r_cut1 w os) (run_cut (i := 7) (j := 28) (k := 21) (b := b0) rfl (r_cut2 w os) (run_cut (i := 28) (j := 38) (k := 10) (b := b0) rfl (r_cut3 w os) (run_end hr)))))
end MHead
end
namespace MH
open PySem PySem.Spec PyProof.Rows L2
/-! ### frames -/
theorem _root_.L2.Same.sqt {K : PySem.W.Frag} {H H' : Hp} {a : Addr} {xs : List V} (e : Same H H') (h : SqT K H a xs) : SqT K H' a xs := by
  rcases h with (h | ⟨o, h⟩) | h
  · exact .inl (.inl (e _ _ h))
  · exact .inl (.inr ⟨o, e _ _ h⟩)
  · exact .inr h
theorem _root_.L2.Same.new {H : Hp} {p : Addr} {o : HO} (h : H p = none) : Same H (upd H p o) := fun b x e => by
  rw [upd_ne (ne_of_none e h)]
  exact e
theorem _root_.L2.Same.new' {H H1 : Hp} {p : Addr} {o : HO} (s : Same H H1) (h : H1 p = none) : Same H (upd H1 p o) := s.trans (Same.new h)
/-- all as it was but p -/
def SameB (p : Addr) (H H' : Hp) : Prop := ∀ b o, b ≠ p → H b = some o → H' b = some o
theorem SameB.of {p : Addr} {H H' : Hp} (s : Same H H') : SameB p H H' := fun b o _ e => s b o e
theorem SameB.refl (p : Addr) (H : Hp) : SameB p H H := fun _ _ _ e => e
theorem SameB.trans {p : Addr} {H H1 H2 : Hp} (a : SameB p H H1) (b : SameB p H1 H2) : SameB p H H2 := fun c o n e => b c o n (a c o n e)
theorem SameB.put {p : Addr} {H H1 : Hp} {o : HO} (s : SameB p H H1) : SameB p H (upd H1 p o) := fun b x n e => by
  rw [upd_ne n]
  exact s b x n e
theorem SameB.new {p q : Addr} {H H1 : Hp} {o : HO} (s : SameB p H H1) (h : H1 q = none) : SameB p H (upd H1 q o) := s.trans (SameB.of (Same.new h))
/-- a tuple stands where only a list changed -/
theorem SameB.sqt {K : PySem.W.Frag} {p a : Addr} {H H' : Hp} {xs ys : List V} (s : SameB p H H') (hp : H p = some (.lst ys)) (h : SqT K H a xs) : SqT K H' a xs := by
  rcases h with (h | ⟨o, h⟩) | h
  · exact .inl (.inl (s _ _ (ne_of h hp (by intro q; cases q)) h))
  · exact .inl (.inr ⟨o, s _ _ (ne_of h hp (by intro q; cases q)) h⟩)
  · exact .inr h
theorem tup_of {K : PySem.W.Frag} {H : Hp} {a : Addr} {xs : List V} (h : H a = some (.tup xs)) : SqT K H a xs := .inl (.inl h)
theorem frz_of {K : PySem.W.Frag} {H : Hp} {a : Addr} {o : Obj} {xs : List V} (h : H a = some (.frz o (.tup xs))) : SqT K H a xs := .inl (.inr ⟨o, h⟩)
theorem lst_of {K : PySem.W.Frag} {H : Hp} {a : Addr} {xs : List V} (h : H a = some (.lst xs)) : SqL K H a xs := .inl (.inl h)
theorem le_line {n : Nat} (h : n ≤ 100000) : n ≤ sizeLine := Nat.le_trans h (by decide)
theorem lt_line {n : Nat} (h : n < 100000) : n < sizeLine := Nat.lt_of_lt_of_le h (by decide)
/-! ### the urn -/
def Ur (H : Hp) (p : Addr) (n : Nat) : Prop := ∃ x y c : Int, H p = some (.lst [.int x, .int y, .int c]) ∧ 0 ≤ x ∧ 0 ≤ y ∧ y < 2305843009213693951 ∧ 0 ≤ c ∧ c ≤ n
theorem Ur.sqt {K : PySem.W.Frag} {H H' : Hp} {p a : Addr} {n : Nat} {xs : List V} (u : Ur H p n) (s : SameB p H H') (h : SqT K H a xs) : SqT K H' a xs := by
  obtain ⟨x, y, c, hp, _⟩ := u
  exact s.sqt hp h
theorem Ur.same {H H' : Hp} {p : Addr} {n : Nat} (u : Ur H p n) (s : Same H H') : Ur H' p n := by
  obtain ⟨x, y, c, hp, h⟩ := u
  exact ⟨x, y, c, s _ _ hp, h⟩
theorem Ur.mono {H : Hp} {p : Addr} {n m : Nat} (u : Ur H p n) (h : n ≤ m) : Ur H p m := by
  obtain ⟨x, y, c, hp, h1, h2, h3, h4, h5⟩ := u
  exact ⟨x, y, c, hp, h1, h2, h3, h4, by omega⟩
theorem Ur.put {H : Hp} {p q : Addr} {n : Nat} {o u : HO} (a : Ur H p n) (hq : H q = some u) (d : ∀ x y z : Int, u ≠ .lst [.int x, .int y, .int z]) : Ur (upd H q o) p n := by
  obtain ⟨x, y, c, hp, h⟩ := a
  have ne : p ≠ q := fun e => by
    subst e
    rw [hp] at hq
    exact d x y c (Option.some.inj hq).symm
  exact ⟨x, y, c, by rw [upd_ne ne]; exact hp, h⟩
/-- what is new stands apart from the urn -/
theorem Ur.ne {H : Hp} {p q : Addr} {n : Nat} (u : Ur H p n) (h : H q = none) : q ≠ p := fun e => by
  obtain ⟨x, y, c, hp, _⟩ := u
  rw [← e, h] at hp
  cases hp
def spDraw : Sp := fun vs H Q _ => ∃ (p : Addr) (m : Int) (n : Nat), vs = [.ref p, .int m] ∧ Ur H p n ∧ n ≤ 1000000000 ∧ 0 < m ∧ m < 1000000 ∧ ∀ d H', 0 ≤ d → d < m → SameB p H H' → Ur H' p (n + 1) → Q (.int d) H'
theorem ite2 {c : Bool} {A B : Prop} (a : c = true → A) (b : ¬ c = true → B) : if c = true then A else B := by
  by_cases h : c = true
  · rw [if_pos h]
    exact a h
  · rw [if_neg h]
    exact b h
section
variable {P : Program} {w : World} {K : PySem.W.Frag} {mg : Str → Option Value} {base : Heap}
theorem ok_l_draw (T : Tx K mg) : FnOk P w K mg base CX0 6 T.a_l_draw T.fd_l_draw ["_law_urn_here", "_law_many"] spDraw := by
  refine T.F_l_draw.ok sc_l_draw (fun vs H Q E h => ?_) (fun cdv A outer s H vs Q E hr h => ?_)
  · obtain ⟨p, m, n, rfl, _⟩ := h
    rfl
  · obtain ⟨p, m, n, rfl, ⟨x, y, c, hp, hx, hy, hy2, hc, hcn⟩, hn, hm, hm2, k⟩ := h
    refine ⟨_, (pss_cons (ps_asg (pe_op op_add (pe_ix ix_list (pv 0) pe_int (fun _ _ => rfl)) pe_int) (pg_sub (pv 0) pe_int set_list))
      (pss_cons (ps_set (i := 2) sc_l_draw.nd rfl (Or.inl rfl) (pe_callTy call_int1 (by rfl) T.n_int (by decide +kernel) (pa_cons (pe_op op_add (pe_op op_mul (pe_ix ix_list (pv 0) pe_int (fun _ _ => rfl)) pe_int) pe_int) pa_nil)))
      (pss_cons (ps_set (i := 2) sc_l_draw.nd rfl (Or.inl rfl) (pe_op op_add (pv 2) (pe_callTy call_int1 (by rfl) T.n_int (by decide +kernel) (pa_cons (pe_op op_mul (pe_op op_mul (pe_ix ix_list (pv 0) pe_int (fun _ _ => rfl)) (pe_ix ix_list (pv 0) pe_int (fun _ _ => rfl))) pe_int) pa_nil))))
      (pss_cons (ps_asg (pe_op op_mod (pe_callTy call_int1 (by rfl) T.n_int (by decide +kernel) (pa_cons (pv 2) pa_nil)) pe_int) (pg_sub (pv 0) pe_int set_list))
      (pss_cons (ps_if (pt_cmpR op_gt (pe_ix ix_list (pv 0) pe_int (fun _ _ => rfl)) pe_int (nomark _))
        (pss_cons (ps_asg (pe_callB call_divmod (by rfl) T.n_divmod (by decide +kernel) (pa_cons (pe_ix ix_list (pv 0) pe_int (fun _ _ => rfl)) (pa_cons (pv 1) pa_nil))) (pg_tup rfl (pgs_cons (pg_sub (pv 0) pe_int set_list) (pgs_cons (pg_name (i := 3) sc_l_draw.nd rfl (Or.inl rfl)) pgs_nil))))
      (pss_one (ps_ret (pv 3))))
        pss_nil)
      (pss_one (ps_ret (pe_op op_mod (pe_callTy call_int1 (by rfl) T.n_int (by decide +kernel) (pa_cons (pe_op op_fdivW (pe_ix ix_list (pv 0) pe_int (fun _ _ => rfl)) pe_int) pa_nil)) (pv 1))))))))), ?_⟩
    refine ⟨_, rfl, p, _, 2, _, rfl, rfl, lst_of hp, rfl, _, _, rfl, rfl, ?_⟩
    refine ⟨_, rfl, p, _, 2, 2, rfl, rfl, hp, rfl, ?_⟩
    have b1 : SameB p H (upd H p (.lst [.int x, .int y, .int (c + 1)])) := (SameB.refl p H).put
    have h1 : (upd H p (.lst [.int x, .int y, .int (c + 1)])) p = some (.lst [.int x, .int y, .int (c + 1)]) := upd_same
    change tSeq _ _ _ _ (upd H p (.lst [.int x, .int y, .int (c + 1)]))
    generalize upd H p (.lst [.int x, .int y, .int (c + 1)]) = H1 at b1 h1 ⊢
    refine ⟨_, rfl, p, _, 1, _, rfl, rfl, lst_of h1, rfl, _, _, rfl, rfl, .inl ⟨by omega, by omega⟩, _, _, rfl, rfl, .inl ⟨_, rfl, ?_⟩⟩
    generalize y * 1442695040888963407 + 1181783497276652981 = m1
    refine ⟨_, rfl, _, rfl, p, _, 2, _, rfl, rfl, lst_of h1, rfl, _, rfl, p, _, 2, _, rfl, rfl, lst_of h1, rfl, _, _, rfl, rfl, .inl ⟨by omega, by omega⟩, _, _, rfl, rfl, .inr ⟨by decide, by decide⟩, .inl ⟨_, rfl, _, _, rfl, rfl, ?_⟩⟩
    generalize (c + 1) * (c + 1) * 7046029254386353131 = m2
    refine ⟨_, rfl, .inl ⟨_, rfl, _, _, rfl, rfl, (by show (0 : Int) < 2305843009213693951; decide), _, rfl, p, _, 1, 1, rfl, rfl, h1, rfl, ?_⟩⟩
    have e0 : 0 ≤ (m1 + m2) % 2305843009213693951 := Int.emod_nonneg _ (by decide)
    have e1 : (m1 + m2) % 2305843009213693951 < 2305843009213693951 := Int.emod_lt_of_pos _ (by decide)
    change tSeq _ _ _ _ (upd H1 p (.lst [.int x, .int ((m1 + m2) % 2305843009213693951), .int (c + 1)]))
    generalize (m1 + m2) % 2305843009213693951 = z at e0 e1 ⊢
    have b2 : SameB p H (upd H1 p (.lst [.int x, .int z, .int (c + 1)])) := b1.put
    have h2 : (upd H1 p (.lst [.int x, .int z, .int (c + 1)])) p = some (.lst [.int x, .int z, .int (c + 1)]) := upd_same
    generalize upd H1 p (.lst [.int x, .int z, .int (c + 1)]) = H2 at b2 h2 ⊢
    refine ⟨_, rfl, p, _, 0, _, rfl, rfl, lst_of h2, rfl, _, _, rfl, rfl, _, rfl, ?_⟩
    refine ite2 (fun q => ?_) (fun q => ?_)
    · have q : 0 < x := of_decide_eq_true q
      refine ⟨_, rfl, p, _, 0, _, rfl, rfl, lst_of h2, rfl, _, rfl, _, _, rfl, ⟨hm, by omega⟩, fun t ht => ?_⟩
      have npt : p ≠ t := ne_of_none h2 ht
      refine ⟨t, _, rfl, tup_of upd_same, rfl, _, _, rfl, _, rfl, p, _, 0, 0, rfl, rfl, (by rw [upd_ne npt]; exact h2), rfl, _, _, rfl, rfl, ?_⟩
      refine ⟨_, rfl, ?_⟩
      refine k _ _ (Int.emod_nonneg _ (by omega)) (Int.emod_lt_of_pos _ hm) (b2.new ht).put ⟨x / m, z, c + 1, ?_, Int.ediv_nonneg hx (by omega), e0, e1, by omega, by omega⟩
      rw [upd_same]
      rfl
    · refine ⟨_, rfl, p, _, 1, _, rfl, rfl, lst_of h2, rfl, _, _, rfl, rfl, wide_div (b := 31) (by decide) (by decide) (by decide) (by decide), .inl ⟨_, rfl, _, rfl, _, _, rfl, rfl, hm, ?_⟩⟩
      exact k _ _ (Int.emod_nonneg _ (by omega)) (Int.emod_lt_of_pos _ hm) b2 ⟨x, z, c + 1, h2, hx, e0, e1, by omega, by omega⟩
end
end MH
namespace MH
open PySem PySem.Spec PyProof.Rows L2
theorem _root_.L2.Same.sql {K : PySem.W.Frag} {H H' : Hp} {a : Addr} {xs : List V} (e : Same H H') (h : SqL K H a xs) : SqL K H' a xs := by
  rcases h with (h | ⟨o, h⟩) | h
  · exact .inl (.inl (e _ _ h))
  · exact .inl (.inr ⟨o, e _ _ h⟩)
  · exact .inr h
theorem cutV_mem {xs : List V} {lo hi : Option Int} {x : V} (h : x ∈ cutV xs lo hi) : x ∈ xs := List.mem_of_mem_drop (List.mem_of_mem_take h)
def spUrn (K : PySem.W.Frag) : Sp := fun vs H Q _ => ∃ (a : Addr) (ns : List Int) (i : Nat), vs = [.ref a, .int i] ∧ SqL K H a (ns.map V.int) ∧ ns.length ≤ 63 ∧ i < 1000 ∧ ∀ H' p, Same H H' → H p = none → Ur H' p 0 → Q (.ref p) H'
section
variable {P : Program} {w : World} {K : PySem.W.Frag} {mg : Str → Option Value} {base : Heap}
theorem ok_l_urn (T : Tx K mg) : FnOk P w K mg base CX0 6 T.a_l_urn T.fd_l_urn ["_law_cells", "_law_k"] (spUrn K) := by
  refine T.F_l_urn.ok sc_l_urn (fun vs H Q E h => ?_) (fun cdv A outer s H vs Q E hr h => ?_)
  · obtain ⟨a, ns, i, rfl, _⟩ := h
    rfl
  · obtain ⟨a, ns, i, rfl, hS, hlen, hi, k⟩ := h
    refine ⟨_, (pss_cons (ps_set (i := 2) sc_l_urn.nd rfl (Or.inl rfl) (pe_op op_add (pe_op op_mul pe_int (pv 1)) pe_int))
      (pss_cons (ps_set (i := 3) sc_l_urn.nd rfl (Or.inl rfl) (pe_ifExp (pt_cmpR op_lt (pv 1) (pe_callB call_len_seq (by rfl) T.n_len (by decide +kernel) (pa_cons (pv 0) pa_nil)) (nomark _)) (pe_slice sl_list (pv 0) (po_some (pv 1)) (po_some (pe_op op_add (pv 1) pe_int))) (pe_slice sl_list (pv 0) po_none (po_some pe_int))))
      (pss_cons (ps_for PassesOwn.never rfl (pi_list (pv 3)) (pg_name (i := 4) sc_l_urn.nd rfl (Or.inl rfl))
        (pss_one (ps_set (i := 2) sc_l_urn.nd rfl (Or.inl rfl) (pe_op op_mod (pe_callTy call_int1 (by rfl) T.n_int (by decide +kernel) (pa_cons (pe_op op_add (pe_op op_mul (pv 2) pe_int) (pv 4)) pa_nil)) pe_int))))
      (pss_cons (ps_set (i := 5) sc_l_urn.nd rfl (Or.inl rfl) (pe_ifExp (PW.pt (pw_and (pt_cmpR op_lt (pv 1) (pe_callB call_len_seq (by rfl) T.n_len (by decide +kernel) (pa_cons (pv 0) pa_nil)) (nomark _)) (pw_and1 (pt_cmpR op_ge (pe_callB call_abs (by rfl) T.n_abs (by decide +kernel) (pa_cons (pe_ix ix_list (pv 0) (pv 1) (fun _ _ => rfl)) pa_nil)) (pe_op op_pow pe_int pe_int) (nomark _))))) (pe_callB call_abs (by rfl) T.n_abs (by decide +kernel) (pa_cons (pe_ix ix_list (pv 0) (pv 1) (fun _ _ => rfl)) pa_nil)) pe_int))
      (pss_one (ps_ret (pe_lst (pa_cons (pv 5) (pa_cons (pv 2) (pa_cons pe_int pa_nil)))))))))), ?_⟩
    refine ⟨_, rfl, _, _, rfl, rfl, .inl ⟨by decide, by decide⟩, _, _, rfl, rfl, ?_⟩
    refine ⟨_, rfl, _, rfl, a, _, rfl, .inl hS, _, _, rfl, rfl, _, rfl, ?_⟩
    refine ite2 (fun c => ?a1) (fun c => ?a2)
    case' a1 =>
      refine ⟨_, rfl, _, rfl, (i : Int), rfl, _, rfl, _, _, rfl, rfl, (i : Int) + 1, rfl, a, _, rfl, hS, fun q nq => ?_⟩
      generalize hcut : cutV (ns.map V.int) (some (i : Int)) (some ((i : Int) + 1)) = cs
    case' a2 =>
      refine ⟨_, rfl, 5, rfl, a, _, rfl, hS, fun q nq => ?_⟩
      generalize hcut : cutV (ns.map V.int) none (some 5) = cs
    all_goals
      have hcs : ∀ x ∈ cs, ∃ n : Int, x = V.int n := fun x hx => by
        rw [← hcut] at hx
        obtain ⟨n, _, e⟩ := List.mem_map.mp (cutV_mem hx)
        exact ⟨n, e.symm⟩
      have s1 : Same H (upd H q (.lst cs)) := Same.new nq
      have hq : (upd H q (.lst cs)) q = some (.lst cs) := upd_same
      clear hcut c
      generalize upd H q (.lst cs) = H1 at s1 hq ⊢
      have nqa : H q = none := nq
      refine ⟨_, rfl, q, rfl, ⟨_, lst_of hq⟩, for_list (K := K) (a := q) (xs := cs) (fun j σ H' => ∃ (y : Int) (v : Option V), σ = [some (.ref a), some (.int i), some (.int y), some (.ref q), v, none] ∧ 0 ≤ y ∧ y < 2305843009213693951 ∧ H' = H1)
        ⟨(69143 : Int) * i + 17, none, rfl, by omega, by omega, rfl⟩ (fun j σ H' _ ⟨_, _, _, _, _, e⟩ => by rw [e]; exact lst_of hq) ?_ ?_⟩
      · rintro j x σ H' hx ⟨y, v, rfl, h0, h1, rfl⟩
        obtain ⟨n, rfl⟩ := hcs x (List.mem_of_getElem? hx)
        refine ⟨_, rfl, _, _, rfl, rfl, .inl ⟨by omega, by omega⟩, _, rfl, _, _, rfl, rfl, .inl ⟨_, rfl, _, _, rfl, rfl, (by show (0 : Int) < 2305843009213693921; decide), ?_⟩⟩
        refine ⟨_, _, rfl, Int.emod_nonneg _ (by decide), ?_, rfl⟩
        have := Int.emod_lt_of_pos (y * 1103515293 + n) (show (0 : Int) < 2305843009213693921 by decide)
        omega
      · rintro σ H' ⟨y, v, rfl, h0, h1, rfl⟩
        have hS1 := s1.sql hS
        refine ⟨_, rfl, _, rfl, a, _, rfl, .inl hS1, _, _, rfl, rfl, _, rfl, ?_⟩
        have fin : ∀ g : Int, 0 ≤ g → ∀ t, H' t = none → Q (.ref t) (upd H' t (.lst [.int g, .int y, .int 0])) := fun g h t nt =>
          k _ _ (s1.new' nt) (s1.free nt) ⟨g, y, 0, upd_same, h, h0, h1, Int.le_refl 0, by simp⟩
        refine ite2 (fun c => ?_) (fun c => ?_)
        · have c : (i : Int) < ((ns.map V.int).length : Nat) := of_decide_eq_true c
          have c2 : i < ns.length := by
            rw [List.length_map] at c
            omega
          have g : (ns.map V.int)[i]? = some (.int ns[i]) := by
            rw [List.getElem?_map, List.getElem?_eq_getElem c2]
            rfl
          refine ⟨_, rfl, _, rfl, a, _, _, _, rfl, rfl, hS1, atI_nat g, _, rfl, _, _, rfl, rfl, ⟨by decide, by decide, by decide⟩, _, _, rfl, rfl, _, rfl, ?_⟩
          refine ite2 (fun c => ?_) (fun c => ?_)
          · refine ⟨_, rfl, _, rfl, a, _, _, _, rfl, rfl, hS1, atI_nat g, _, rfl, ?_⟩
            refine ⟨_, rfl, _, rfl, (by show 3 ≤ sizeLine; decide), fun t nt => ?_⟩
            refine fin _ ?_ t nt
            split <;> omega
          · exact ⟨_, rfl, _, rfl, (by show 3 ≤ sizeLine; decide), fun t nt => fin 0 (Int.le_refl 0) t nt⟩
        · exact ⟨_, rfl, _, rfl, (by show 3 ≤ sizeLine; decide), fun t nt => fin 0 (Int.le_refl 0) t nt⟩
end
end MH
namespace MH
open PySem PySem.Spec PyProof.Rows L2
def s36 : Str := "abcdefghijklmnopqrstuvwxyz0123456789"
theorem s36_len : s36.cps.toList.length = 36 := by decide +kernel
theorem s36_ok : ∀ d, d < 36 → (isL (s36.cps.toList.getD d 0) || isD (s36.cps.toList.getD d 0)) = true := by decide +kernel
theorem s36_l : ∀ d, d < 26 → isL (s36.cps.toList.getD d 0) = true := by decide +kernel
theorem s36_at {d : Nat} (h : d < 36) : s36.cps.toList[d]? = some (s36.cps.toList.getD d 0) := by
  rw [List.getD_eq_getElem?_getD, List.getElem?_eq_getElem (by rw [s36_len]; exact h)]
  rfl
theorem cps_app (z x : Str) : (z ++ x).cps.toList = z.cps.toList ++ x.cps.toList := by
  show (z.cps ++ x.cps).toList = _
  exact Array.toList_append
theorem len_cps (z : Str) : z.length = z.cps.toList.length := by
  show z.cps.size = _
  exact Array.length_toList.symm
theorem one_len (c : Nat) : (⟨#[c]⟩ : Str).length = 1 := rfl
theorem one_cps (c : Nat) : (⟨#[c]⟩ : Str).cps.toList = [c] := rfl
theorem nameOk_iff {z : Str} : nameOk z = true ↔ 1 ≤ z.length ∧ z.length ≤ 8 ∧ isL (z.cps.toList.getD 0 0) = true ∧ ∀ c ∈ z.cps.toList, (isL c || isD c) = true := by
  unfold nameOk
  simp only [Bool.and_eq_true, decide_eq_true_eq, List.all_eq_true]
theorem nameOk_one {c : Nat} (h : isL c = true) : nameOk ⟨#[c]⟩ = true := nameOk_iff.mpr ⟨Nat.le_refl 1, (by show 1 ≤ 8; decide), h, fun d hd => by
  rw [one_cps] at hd
  rw [List.mem_singleton.mp hd, h]
  rfl⟩
theorem nameOk_snoc {z : Str} {c : Nat} (h : nameOk z = true) (hl : z.length ≤ 7) (hc : (isL c || isD c) = true) : nameOk (z ++ ⟨#[c]⟩) = true := by
  obtain ⟨h1, h2, h3, h4⟩ := nameOk_iff.mp h
  have l : (z ++ (⟨#[c]⟩ : Str)).length = z.length + 1 := by
    rw [len_cps, cps_app, List.length_append, ← len_cps]
    rfl
  refine nameOk_iff.mpr ⟨by omega, by omega, ?_, fun d hd => ?_⟩
  · rw [cps_app]
    rw [len_cps] at h1
    generalize z.cps.toList = l at h1 h3
    cases l with
    | nil => simp at h1
    | cons a r => exact h3
  · rw [cps_app, one_cps] at hd
    rcases List.mem_append.mp hd with hd | hd
    · exact h4 d hd
    · rw [List.mem_singleton.mp hd]
      exact hc
theorem len_app1 (z : Str) (c : Nat) : (z ++ (⟨#[c]⟩ : Str)).length = z.length + 1 := by
  rw [len_cps, cps_app, List.length_append, ← len_cps]
  rfl
def spName : Sp := fun vs H Q _ => ∃ (p : Addr) (n : Nat), vs = [.ref p] ∧ Ur H p n ∧ n ≤ 900000000 ∧ ∀ z H', nameOk z = true → SameB p H H' → Ur H' p (n + 20) → Q (.str z) H'
/-- the names with their marks behind them -/
def markAt (ms : List Str) (sg : Str) (i : Nat) : Str := ms.getD i "" ++ ⟨#[sg.cps.toList.getD i 0]⟩
def lineOf (ms : List Str) (sg : Str) : Str := Txt.join " " ((List.range ms.length).map (markAt ms sg))
def spText (K : PySem.W.Frag) : Sp := fun vs H Q _ => ∃ (q t : Addr) (ms : List Str) (sg : Str), vs = [.ref q] ∧ SqT K H q [.ref t, .str sg] ∧ SqT K H t (ms.map V.str) ∧ ms.length ≤ 100 ∧ sg.cps.toList.length = ms.length ∧ (∀ z ∈ ms, z.length ≤ 100) ∧ ∀ H', Same H H' → Q (.str (lineOf ms sg)) H'
section
variable {P : Program} {w : World} {K : PySem.W.Frag} {mg : Str → Option Value} {base : Heap}
theorem ok_l_name (T : Tx K mg) : FnOk P w K mg base CX0 7 T.a_l_name T.fd_l_name ["_law_urn_here"] spName := by
  refine T.F_l_name.ok sc_l_name (fun vs H Q E h => ?_) (fun cdv A outer s H vs Q E hr h => ?_)
  · obtain ⟨p, n, rfl, _⟩ := h
    rfl
  · obtain ⟨p, n, rfl, u, hn, k⟩ := h
    refine ⟨_, (pss_cons (ps_set (i := 1) sc_l_name.nd rfl (Or.inl rfl) pe_str)
      (pss_cons (ps_set (i := 2) sc_l_name.nd rfl (Or.inl rfl) (pe_ix ix_str (pv 1) (pe_call (ok_l_draw T) (hr.mono (by decide)) rfl T.g_l_draw T.F_l_draw.kp T.b_l_draw .nil pass0 (pa_cons (pv 0) (pa_cons pe_int pa_nil))) (fun _ _ => rfl)))
      (pss_cons (ps_for PassesOwn.never rfl (pi_range1 (by rfl) T.n_range (pa_cons (pe_op op_fdiv (pe_call (ok_l_draw T) (hr.mono (by decide)) rfl T.g_l_draw T.F_l_draw.kp T.b_l_draw .nil pass0 (pa_cons (pv 0) (pa_cons pe_int pa_nil))) (pe_op op_add pe_int (pe_call (ok_l_draw T) (hr.mono (by decide)) rfl T.g_l_draw T.F_l_draw.kp T.b_l_draw .nil pass0 (pa_cons (pv 0) (pa_cons pe_int pa_nil))))) pa_nil)) (pg_name (i := 3) sc_l_name.nd rfl (Or.inl rfl))
        (pss_one (ps_set (i := 2) sc_l_name.nd rfl (Or.inl rfl) (pe_op op_add_str (pv 2) (pe_ix ix_str (pv 1) (pe_call (ok_l_draw T) (hr.mono (by decide)) rfl T.g_l_draw T.F_l_draw.kp T.b_l_draw .nil pass0 (pa_cons (pv 0) (pa_cons pe_int pa_nil))) (fun _ _ => rfl))))))
      (pss_one (ps_ret (pv 2)))))), ?_⟩
    refine ⟨_, rfl, _, rfl, p, 26, n, rfl, u, by omega, by decide, by decide, fun d H1 d0 d1 sb1 u1 => ?_⟩
    obtain ⟨d, rfl⟩ : ∃ e : Nat, d = e := ⟨d.toNat, by omega⟩
    refine ⟨s36, d, _, rfl, rfl, (by decide +kernel), atI_nat (s36_at (by omega)), ?_⟩
    have hz0 := nameOk_one (s36_l d (by omega))
    have hz1 := one_len (s36.cps.toList.getD d 0)
    generalize (⟨#[s36.cps.toList.getD d 0]⟩ : Str) = z0 at hz0 hz1 ⊢
    refine ⟨_, rfl, p, 8, n + 1, rfl, u1, by omega, by decide, by decide, fun a1 H2 a0 a8 sb2 u2 => ⟨_, rfl, p, 3, n + 2, rfl, u2, by omega, by decide, by decide, fun a2 H3 b0 b3 sb3 u3 => ?_⟩⟩
    refine ⟨_, _, rfl, rfl, _, _, rfl, rfl, ⟨by omega, by omega⟩, ?_⟩
    have q0 : 0 ≤ a1 / (1 + a2) := Int.ediv_nonneg a0 (by omega)
    have q1 : a1 / (1 + a2) ≤ a1 := Int.ediv_le_self _ a0
    refine ⟨_, rfl, by omega, by omega, for_range (lo := 0) (n := (a1 / (1 + a2)).toNat) (fun i σ H' => ∃ (z : Str) (v : Option V), σ = [some (.ref p), some (.str s36), some (.str z), v] ∧ nameOk z = true ∧ z.length = i + 1 ∧ i ≤ 7 ∧ SameB p H H' ∧ Ur H' p (n + 3 + i))
      ⟨z0, none, rfl, hz0, hz1, by omega, (sb1.trans sb2).trans sb3, u3⟩ ?_ ?_⟩
    · rintro i σ H' hi ⟨z, v, rfl, hz, hl, h7, sb, u'⟩
      refine ⟨_, rfl, _, rfl, _, rfl, p, 36, n + 3 + i, rfl, u', by omega, by decide, by decide, fun e H4 e0 e1 sb4 u4 => ?_⟩
      obtain ⟨e, rfl⟩ : ∃ f : Nat, e = f := ⟨e.toNat, by omega⟩
      refine ⟨s36, e, _, rfl, rfl, (by decide +kernel), atI_nat (s36_at (by omega)), ?_⟩
      refine ⟨z, _, rfl, rfl, le_line (by rw [one_len]; omega), ?_⟩
      exact ⟨_, _, rfl, nameOk_snoc hz (by omega) (s36_ok e (by omega)), by rw [len_app1, hl], by omega, sb.trans sb4, u4⟩
    · rintro σ H' ⟨z, v, rfl, hz, hl, h7, sb, u'⟩
      exact ⟨_, rfl, k z H' hz sb (u'.mono (by omega))⟩
end
end MH
namespace MH
open PySem PySem.Spec PyProof.Rows L2
theorem inV_strs (z : Str) : ∀ ss : List Str, inV (.str z) (ss.map V.str) = decide (z ∈ ss)
  | [] => rfl
  | y :: r => by
    have ih := inV_strs z r
    show (y == z || inV (.str z) (r.map V.str)) = decide (z ∈ y :: r)
    rw [ih]
    by_cases e : y = z
    · subst e
      simp
    · have e2 : ¬ z = y := fun q => e q.symm
      simp [e, e2]
theorem flat_strs (ss : List Str) : (ss.map V.str).all flatV = true := by
  rw [List.all_eq_true]
  intro v hv
  obtain ⟨z, _, rfl⟩ := List.mem_map.mp hv
  rfl
theorem iteN {A B : Prop} (b : B) : if false = true then A else B := by
  rw [if_neg Bool.false_ne_true]
  exact b
theorem sum_le {n : Nat} : ∀ l : List Str, (∀ z ∈ l, z.length ≤ n) → (l.map (·.length)).sum ≤ l.length * n
  | [], _ => by simp
  | z :: r, h => by
    have a := h z List.mem_cons_self
    have b := sum_le r fun y hy => h y (List.mem_cons_of_mem _ hy)
    rw [List.map_cons, List.sum_cons, List.length_cons, Nat.add_mul]
    omega
theorem a0z_ok : ∀ e, e < 3 → (isL (("a0z" : Str).cps.toList.getD e 0) || isD (("a0z" : Str).cps.toList.getD e 0)) = true := by decide +kernel
def elev : Str := "abcdefghijk"
def elevs : List Str := elev.cps.toList.map fun c => ⟨#[c]⟩
theorem elevs_nd : elevs.Nodup := by decide +kernel
theorem elevs_ok : ∀ z ∈ elevs, nameOk z = true := by decide +kernel
theorem elevs_len : elevs.length = 11 := by decide +kernel
theorem spare_ne {found : List Str} (h : found.length ≤ 10) : (elevs.filter fun z => !decide (z ∈ found)) ≠ [] := by
  intro e
  have all : ∀ z ∈ elevs, z ∈ found := fun z hz => by
    have q := List.filter_eq_nil_iff.mp e z hz
    simpa using q
  have q := List.Nodup.length_le_of_subset elevs_nd (fun z hz => all z hz : elevs ⊆ found)
  rw [elevs_len] at q
  omega
def spNames (K : PySem.W.Frag) : Sp := fun vs H Q _ => ∃ (p : Addr) (m n : Nat), vs = [.ref p, .int (m : Nat)] ∧ Ur H p n ∧ n ≤ 800000000 ∧ m ≤ 11 ∧ ∀ (ys : List Str) (t : Addr) H', ys.Nodup → sortedS ys = true → (∀ z ∈ ys, nameOk z = true) → ys.length = m → SameB p H H' → Ur H' p (n + 300) → SqT K H' t (ys.map V.str) → Q (.ref t) H'
section
variable {P : Program} {w : World} {K : PySem.W.Frag} {mg : Str → Option Value} {base : Heap}
theorem ok_l_text (T : Tx K mg) : FnOk P w K mg base CX0 6 T.a_l_text T.fd_l_text ["_law_pair"] (spText K) := by
  refine T.F_l_text.ok sc_l_text (fun vs H Q E h => ?_) (fun cdv A outer s H vs Q E hr h => ?_)
  · obtain ⟨q, t, ms, sg, rfl, _⟩ := h
    rfl
  · obtain ⟨q, t, ms, sg, rfl, hq, hT, hl, hsg, hms, k⟩ := h
    refine ⟨_, (pss_one (ps_ret (pe_join pe_str (pe_lc (own := [("_law_k", 1)]) (g := gName 1) (tt := tYes) rfl sc_l_text.nd (pi_range1 (by rfl) T.n_range (pa_cons (pe_callB call_len_seq (by rfl) T.n_len (by decide +kernel) (pa_cons (pe_ix ix_tup (pv 0) pe_int (fun _ _ => rfl)) pa_nil)) pa_nil)) (blkOk_by (own := [("_law_k", 1)]) (N := names_l_text) (sc := defScope st_l_text) (by decide +kernel)) (fun _ _ _ _ _ => pg_name (i := 1) sc_l_text.nd rfl (Or.inl rfl)) (fun _ _ _ _ _ => pts_nil) (fun _ _ _ _ _ => (pe_op op_add_str (pe_ix (r := rIxT K) ix_tup (pe_ix (r := rIxT K) ix_tup (pv 0) pe_int (fun _ _ => rfl)) (pv 1) (fun _ _ => rfl)) (pe_ix ix_str (pe_ix (r := rIxT K) ix_tup (pv 0) pe_int (fun _ _ => rfl)) (pv 1) (fun _ _ => rfl)))))))), ?_⟩
    have hl2 : (ms.map V.str).length = ms.length := List.length_map _
    refine ⟨⟨_, rfl⟩, _, rfl, q, _, 0, _, rfl, rfl, hq, rfl, t, _, rfl, .inr hT, _, rfl, ?_, ?_, fun D nD => lc_range (lo := 0) (n := _) (fun i H' => Same H H' ∧ H' D = some (.lst (((List.range i).map (markAt ms sg)).map V.str))) ⟨Same.new nD, upd_same⟩ ?_ ?_⟩
    · omega
    · omega
    · rintro i H1 hi ⟨s1, e1⟩
      have hi : i < ms.length := by omega
      refine ⟨rfl, ?_⟩
      rw [show (0 : Int) + (i : Int) = ((i : Nat) : Int) from Int.zero_add _]
      have g1 : (ms.map V.str)[i]? = some (.str (ms.getD i "")) := by
        rw [List.getElem?_map, List.getD_eq_getElem?_getD, List.getElem?_eq_getElem hi]
        rfl
      have g2 : sg.cps.toList[i]? = some (sg.cps.toList.getD i 0) := by
        rw [List.getD_eq_getElem?_getD, List.getElem?_eq_getElem (by omega)]
        rfl
      have g3 : (ms.getD i "").length ≤ 100 := by
        rw [List.getD_eq_getElem?_getD, List.getElem?_eq_getElem hi]
        exact hms _ (List.getElem_mem hi)
      refine ⟨_, rfl, q, _, 0, _, rfl, rfl, s1.sqt hq, rfl, _, rfl, t, _, _, _, rfl, rfl, s1.sqt hT, atI_nat g1, _, rfl, q, _, 1, _, rfl, rfl, s1.sqt hq, rfl, _, rfl, sg, i, _, rfl, rfl, ?_, atI_nat g2, _, _, rfl, rfl, le_line (by rw [one_len]; omega), ?_⟩
      · rw [len_cps, hsg]
        exact le_line (by omega)
      refine ⟨_, e1, lt_line (by rw [List.length_map, List.length_map, List.length_range]; omega), fun b o e => ?_, ?_⟩
      · rw [upd_ne (ne_of_none e nD)]
        exact s1 _ _ e
      · rw [upd_same, List.range_succ, List.map_append, List.map_append]
        rfl
    · rintro H1 ⟨s1, e1⟩
      have en : ((((ms.map V.str).length : Nat) : Int) - 0).toNat = ms.length := by omega
      refine ⟨" ", D, (List.range ms.length).map (markAt ms sg), rfl, rfl, .inl (lst_of ?_), ?_, k H1 s1⟩
      · rw [e1, show ((((ms.map V.str).length : Nat) : Int)).toNat = ms.length by omega]
      · have q := sum_le (n := 101) ((List.range ms.length).map (markAt ms sg)) fun z hz => by
          obtain ⟨i, hi, rfl⟩ := List.mem_map.mp hz
          have hi := List.mem_range.mp hi
          unfold markAt
          rw [len_app1, List.getD_eq_getElem?_getD, List.getElem?_eq_getElem hi]
          have := hms _ (List.getElem_mem hi)
          show (ms[i]).length + 1 ≤ 101
          omega
        rw [List.length_map, List.length_range] at q ⊢
        have e1 : (" " : Str).length = 1 := by decide +kernel
        rw [e1]
        omega
theorem ok_l_names (T : Tx K mg) : FnOk P w K mg base CX0 8 T.a_l_names T.fd_l_names ["_law_urn_here", "_law_many"] (spNames K) := by
  refine T.F_l_names.ok sc_l_names (fun vs H Q E h => ?_) (fun cdv A outer s H vs Q E hr h => ?_)
  · obtain ⟨p, m, n, rfl, _⟩ := h
    rfl
  · obtain ⟨p, m, n, rfl, u, hn, hm, k⟩ := h
    refine ⟨_, (pss_cons (ps_set (i := 2) sc_l_names.nd rfl (Or.inr rfl) (pe_lst pa_nil))
      (pss_cons (ps_for PassesOwn.never rfl (pi_range1 (by rfl) T.n_range (pa_cons (pv 1) pa_nil)) (pg_name (i := 3) sc_l_names.nd rfl (Or.inl rfl))
        (pss_cons (ps_set (i := 4) sc_l_names.nd rfl (Or.inl rfl) (pe_call (ok_l_name T) (hr.mono (by decide)) rfl T.g_l_name T.F_l_name.kp T.b_l_name .nil pass0 (pa_cons (pv 0) pa_nil)))
      (pss_cons (ps_if (PW.pt (pw_and (pt_cmpR op_gt (pv 3) pe_int (nomark _)) (pw_and (pt_cmpR op_lt (pe_callB call_len_str (by rfl) T.n_len (by decide +kernel) (pa_cons (pe_ix ix_list (pv 2) (pe_un un_neg pe_int) (fun _ _ => rfl)) pa_nil)) pe_int (nomark _)) (pw_and1 (pt_cmpR op_eq (pe_call (ok_l_draw T) (hr.mono (by decide)) rfl T.g_l_draw T.F_l_draw.kp T.b_l_draw .nil pass0 (pa_cons (pv 0) (pa_cons pe_int pa_nil))) pe_int (nomark _))))))
        (pss_one (ps_set (i := 4) sc_l_names.nd rfl (Or.inl rfl) (pe_op op_add_str (pe_ix ix_list (pv 2) (pe_un un_neg pe_int) (fun _ _ => rfl)) (pe_ix ix_str pe_str (pe_call (ok_l_draw T) (hr.mono (by decide)) rfl T.g_l_draw T.F_l_draw.kp T.b_l_draw .nil pass0 (pa_cons (pv 0) (pa_cons pe_int pa_nil))) (fun _ _ => rfl)))))
        pss_nil)
      (pss_cons (ps_setLc (i := 5) (own := [("_law_sign", 6)]) (g := gName 6) (tt := tTest (tOp (rIn K true) (tVar 6) (tVar 2))) rfl sc_l_names.nd rfl rfl (sw_true rfl rfl rfl (by decide +kernel)) (pi_str pe_str) (blkOk_by (own := [("_law_sign", 6)]) (N := names_l_names) (sc := defScope st_l_names) (by decide +kernel)) (fun _ _ _ _ _ => pg_name (i := 6) sc_l_names.nd rfl (Or.inl rfl)) (fun _ _ _ _ _ => pts_one (pt_cmpR op_notIn_seq (pv 6) (pv 2) (by rfl))) (fun _ _ _ _ _ => (pv 6)))
      (pss_one (ps_expr (pe_bm PySem.F.plainAttrs_list PySem.F.slot_list_append PySem.F.type_list_append mt_append (pv 2) (pa_cons (pe_ifExp (pt_cmpR op_in_seq (pv 4) (pv 2) (by rfl)) (pe_ix ix_list (pv 5) pe_int (fun _ _ => rfl)) (pv 4)) pa_nil))))))))
      (pss_one (ps_ret (pe_callTy call_tupF (by rfl) T.n_tuple (by decide +kernel) (pa_cons (pe_callB cr_sortedS (by rfl) T.n_sorted (by decide +kernel) (pa_cons (pv 2) pa_nil)) pa_nil)))))), ?_⟩
    refine ⟨Nat.zero_le _, fun fo nfo => ?_⟩
    have nfp : fo ≠ p := u.ne nfo
    refine ⟨_, rfl, (m : Int), rfl, by omega, by omega, for_range (lo := 0) (n := ((m : Nat) : Int).toNat) (fun i σ H' => ∃ (found : List Str) (v3 v4 v5 : Option V), σ = [some (.ref p), some (.int (m : Nat)), some (.ref fo), v3, v4, v5, none] ∧
      H' fo = some (.lst (found.map V.str)) ∧ found.Nodup ∧ (∀ z ∈ found, nameOk z = true) ∧ found.length = i ∧ SameB p H H' ∧ Ur H' p (n + 25 * i))
      ⟨[], none, none, none, rfl, upd_same, List.nodup_nil, fun z hz => (nomatch hz), rfl, .of (Same.new nfo), u.same (Same.new nfo)⟩ ?_ ?_⟩
    · rintro i σ H' hi ⟨found, v3, v4, v5, rfl, hf, nd, ok, hlen, sb, u'⟩
      have hi : i < m := by omega
      refine ⟨_, rfl, p, n + 25 * i, rfl, u', by omega, fun z H1 hz sb1 u1 => ?_⟩
      have hf1 := sb1 _ _ nfp hf
      refine ⟨_, rfl, _, _, rfl, rfl, _, rfl, ite2 (fun c => ?b1) (fun c => ?e1)⟩
      case' e1 =>
        refine iteN ?_
        have hw := hz
        have hfx := hf1
        have sbx := sb.trans sb1
        have ux := u1.mono (m := n + 25 * i + 24) (by omega)
        generalize z = w at hw ⊢
        generalize H1 = Hx at hfx sbx ux ⊢
      case' b1 =>
        have c : (0 : Int) < 0 + (i : Nat) := of_decide_eq_true c
        obtain ⟨f0, l, ef⟩ : ∃ f0 l, found = f0 ++ [l] := by
          rcases List.eq_nil_or_concat found with e | ⟨f0, l, e⟩
          · rw [e] at hlen
            simp at hlen
            omega
          · exact ⟨f0, l, by rw [e]; simp⟩
        have hl := ok l (by rw [ef]; simp)
        have hl8 := (nameOk_iff.mp hl).2.1
        have at1 : atI (found.map V.str) (-1) = some (.str l) := by
          rw [ef, List.map_append]
          exact atI_last _ _
        refine ⟨_, rfl, _, rfl, fo, _, _, _, rfl, rfl, lst_of hf1, at1, l, rfl, le_line (by omega), _, _, rfl, rfl, _, rfl, ite2 (fun c2 => ?b2) (fun c2 => ?e2)⟩
      case' e2 =>
        refine iteN ?_
        have hw := hz
        have hfx := hf1
        have sbx := sb.trans sb1
        have ux := u1.mono (m := n + 25 * i + 24) (by omega)
        generalize z = w at hw ⊢
        generalize H1 = Hx at hfx sbx ux ⊢
      case' b2 =>
        have c2 : (l.length : Int) < 8 := of_decide_eq_true c2
        refine ⟨_, rfl, p, 4, n + 25 * i + 20, rfl, u1, by omega, by decide, by decide, fun d H2 d0 d4 sb2 u2 => ⟨rfl, _, rfl, ite2 (fun c3 => ?b3) (fun c3 => ?e3)⟩⟩
      case' e3 =>
        have hw := hz
        have hfx := sb2 _ _ nfp hf1
        have sbx := (sb.trans sb1).trans sb2
        have ux := u2.mono (m := n + 25 * i + 24) (by omega)
        generalize z = w at hw ⊢
        generalize H2 = Hx at hfx sbx ux ⊢
      case' b3 =>
        have hf2 := sb2 _ _ nfp hf1
        refine ⟨_, rfl, _, rfl, fo, _, _, _, rfl, rfl, lst_of hf2, at1, _, rfl, p, 3, n + 25 * i + 21, rfl, u2, by omega, by decide, by decide, fun d' H3 d0' d3' sb3 u3 => ?_⟩
        obtain ⟨e, rfl⟩ : ∃ e : Nat, d' = e := ⟨d'.toNat, by omega⟩
        have h3 : e < 3 := by omega
        have hs : (isL (("a0z" : Str).cps.toList.getD e 0) || isD (("a0z" : Str).cps.toList.getD e 0)) = true := by
          exact a0z_ok e h3
        have hat : ("a0z" : Str).cps.toList[e]? = some (("a0z" : Str).cps.toList.getD e 0) := by
          rw [List.getD_eq_getElem?_getD, List.getElem?_eq_getElem (by rw [show ("a0z" : Str).cps.toList.length = 3 by decide +kernel]; exact h3)]
          rfl
        refine ⟨"a0z", e, _, rfl, rfl, (by decide +kernel), atI_nat hat, l, _, rfl, rfl, le_line (by rw [one_len]; omega), ?_⟩
        have hw := nameOk_snoc hl (by omega) hs
        have hfx := sb3 _ _ nfp hf2
        have sbx := ((sb.trans sb1).trans sb2).trans sb3
        have ux := u3.mono (m := n + 25 * i + 24) (by omega)
        generalize l ++ ⟨#[("a0z" : Str).cps.toList.getD e 0]⟩ = w at hw ⊢
        generalize H3 = Hx at hfx sbx ux ⊢
      all_goals
        refine ⟨elev, rfl, fun D nD => lc_it (w := walk_str) (fun j H' => Same Hx H' ∧ H' D = some (.lst (((elevs.take j).filter fun y => !decide (y ∈ found)).map V.str))) ⟨Same.new nD, upd_same⟩ (fun _ _ _ _ => trivial) ?_ ?_⟩
        · rintro j x H5 H6 hj ⟨s5, e5⟩ ⟨rfl, cc, hcc, rfl⟩
          refine ⟨rfl, ?_⟩
          have hy : elevs[j]? = some (⟨#[cc]⟩ : Str) := by
            unfold elevs
            rw [List.getElem?_map, show elev.cps.toList[j]? = some cc from by simpa using hcc]
            rfl
          have tk : elevs.take (j + 1) = elevs.take j ++ [(⟨#[cc]⟩ : Str)] := by
            rw [List.take_add_one, hy]
            rfl
          refine ⟨_, rfl, _, rfl, fo, _, rfl, .inl (lst_of (s5 _ _ hfx)), rfl, flat_strs found, _, rfl, ?_⟩
          have iv : inV (.str (⟨#[cc]⟩ : Str)) (found.map V.str) = decide ((⟨#[cc]⟩ : Str) ∈ found) := inV_strs _ found
          refine ite2 (fun c => ?_) (fun c => ?_)
          · have c : (!inV (.str (⟨#[cc]⟩ : Str)) (found.map V.str)) = true := c
            rw [iv] at c
            have hj10 : ((elevs.take j).filter fun y => !decide (y ∈ found)).length ≤ 11 := by
              have q1 := List.length_filter_le (fun y => !decide (y ∈ found)) (elevs.take j)
              rw [List.length_take, elevs_len] at q1
              omega
            refine ⟨_, rfl, _, e5, lt_line (by rw [List.length_map]; omega), fun b o e => ?_, ?_⟩
            · rw [upd_ne (ne_of_none e nD)]
              exact s5 _ _ e
            · rw [upd_same, tk, List.filter_append, List.map_append]
              simp only [List.filter, c]
              rfl
          · have c : ¬ (!inV (.str (⟨#[cc]⟩ : Str)) (found.map V.str)) = true := c
            rw [iv] at c
            refine ⟨s5, ?_⟩
            rw [e5, tk, List.filter_append]
            have c' : (!decide ((⟨#[cc]⟩ : Str) ∈ found)) = false := by simpa using c
            simp only [List.filter, c', List.append_nil]
        · rintro H5 ⟨s5, e5⟩
          rw [show elev.cps.size = 11 by decide +kernel, show elevs.take 11 = elevs from List.take_of_length_le (by rw [elevs_len]; omega)] at e5
          have hf5 := s5 _ _ hfx
          obtain ⟨y0, yr, ey⟩ := List.exists_cons_of_ne_nil (spare_ne (found := found) (by omega))
          have y0m : y0 ∈ elevs ∧ ¬ y0 ∈ found := by
            have q : y0 ∈ elevs.filter fun y => !decide (y ∈ found) := by rw [ey]; exact List.mem_cons_self
            have q := List.mem_filter.mp q
            exact ⟨q.1, by simpa using q.2⟩
          have fin : ∀ y : Str, ¬ y ∈ found → nameOk y = true → ∃ (found' : List Str) (w3 w4 w5 : Option V), ([some (.ref p), some (.int (m : Nat)), some (.ref fo), some (.int (0 + (i : Nat))), some (.str w), some (.ref D), none] : List (Option V)) = [some (.ref p), some (.int (m : Nat)), some (.ref fo), w3, w4, w5, none] ∧
              (upd H5 fo (.lst (found.map V.str ++ [V.str y]))) fo = some (.lst (found'.map V.str)) ∧ found'.Nodup ∧ (∀ z ∈ found', nameOk z = true) ∧ found'.length = i + 1 ∧ SameB p H (upd H5 fo (.lst (found.map V.str ++ [V.str y]))) ∧ Ur (upd H5 fo (.lst (found.map V.str ++ [V.str y]))) p (n + 25 * (i + 1)) := by
            intro y ny oky
            refine ⟨found ++ [y], _, _, _, rfl, ?_, ?_, ?_, ?_, ?_, ?_⟩
            · rw [upd_same, List.map_append]
              rfl
            · exact List.nodup_append.mpr ⟨nd, by simp, fun a ha b hb => by
                rw [List.mem_singleton.mp hb]
                intro e
                rw [e] at ha
                exact ny ha⟩
            · intro z hz
              rcases List.mem_append.mp hz with hz | hz
              · exact ok z hz
              · rw [List.mem_singleton.mp hz]
                exact oky
            · rw [List.length_append, hlen]
              rfl
            · intro b o nb e
              rw [upd_ne (ne_of_none e nfo)]
              exact s5 _ _ (sbx _ _ nb e)
            · have u5 := ux.same s5
              refine (Ur.put (o := .lst (found.map V.str ++ [V.str y])) u5 hf5 (fun x y z q => ?_)).mono (by omega)
              have q := HO.lst.inj q
              cases found with
              | nil => cases q
              | cons a r => cases q
          refine ⟨_, rfl, .inl ⟨rfl, _, lst_of hf5⟩, _, rfl, _, rfl, fo, _, rfl, .inl (lst_of hf5), rfl, flat_strs found, _, rfl, ite2 (fun c => ?_) (fun c => ?_)⟩
          · refine ⟨_, rfl, D, _, 0, .str y0, rfl, rfl, lst_of e5, ?_, fo, _, _, rfl, rfl, hf5, lt_line (by rw [List.length_map]; omega), fin y0 y0m.2 (elevs_ok y0 y0m.1)⟩
            rw [ey]
            exact atI_nat (j := 0) rfl
          · have c : ¬ inV (.str w) (found.map V.str) = true := c
            rw [inV_strs] at c
            exact ⟨_, rfl, fo, _, _, rfl, rfl, hf5, lt_line (by rw [List.length_map]; omega), fin w (fun q => c (decide_eq_true q)) hw⟩
    · rintro σ H' ⟨found, v3, v4, v5, rfl, hf, nd, ok, hlen, sb, u'⟩
      refine ⟨_, rfl, fo, found, rfl, lst_of hf, by omega, fun ys q pm so nq => ⟨q, _, rfl, .inl ⟨lst_of upd_same, fun t ot nt od => ?_⟩⟩⟩
      refine k ys t _ (pm.nodup_iff.mpr nd) so (fun z hz => ok z (pm.subset hz)) (by rw [pm.length_eq, hlen]; omega) ((sb.new nq).new nt) (((u'.same (Same.new nq)).same (Same.new nt)).mono (by omega)) (frz_of upd_same)
end
end MH
namespace MH
open PySem PySem.Spec PyProof.Rows L2
open TL
/-! ### list.count of texts -/
def rCntS (K : PySem.W.Frag) : V → List V → Hp → VK → Prop := fun x xs H Q => ∃ (p : Addr) (ss : List Str) (z : Str), x = .ref p ∧ xs = [.str z] ∧ SqL K H p (ss.map V.str) ∧ ss.length ≤ 1000 ∧ Q (.int (ss.count z : Nat)) H
theorem strs_plain : ∀ ss : List Str, PyData.plainAll (ss.map PyData.str) = true
  | [] => by simp only [List.map_nil, PyData.plainAll]
  | b :: r => by
    rw [List.map_cons, PyData.plainAll, strs_plain r]
    simp only [PyData.plain, Bool.and_true]
theorem strs_count (z : Str) : ∀ ss : List Str, (ss.map PyData.str).countP (fun y => PyData.eqv y (.str z)) = ss.count z
  | [] => rfl
  | c :: r => by
    rw [List.map_cons, List.countP_cons, List.count_cons, strs_count z r]
    congr 1
theorem mt_scount {X : Cx} (hu : X.A.units + 64 < cLine) : MtR X "list.count" (rCntS X.K) := by
  intro pins s σ H x xs v us Q I rx rxs h
  obtain ⟨p, ss, z, rfl, rfl, hs, hz, q⟩ := h
  cases rx
  obtain ⟨u, rfl, ru⟩ := rxs.one
  obtain ⟨tk, rfl⟩ : ∃ tk, u = Value.str z tk := ru
  obtain ⟨its, rv, pl, hlen⟩ := I.list hs
  obtain ⟨as, rd⟩ := Dp.readsAll I _ _ _ (dp_strs ss) rv
  refine PySem.SeqAt.count_list_data (vs := its.toArray) (xs := ss.map PyData.str) (d := .str z) pl.isList (by simpa using rd) (Reads.str z tk) (strs_plain ss) (by simp only [PyData.plain]) (by rw [depth_strs]; simp only [PyData.depth]; omega) ?_
  rw [strs_count]
  exact ⟨.int (ss.count z : Nat), H, I.tok _, ⟨_, rfl⟩, q⟩
/-! ### marks -/
def sgn (c : Nat) : Str := ⟨#[c]⟩
theorem tl_sgn (c : Nat) : tl (sgn c) = [c] := rfl
theorem joinL_one : ∀ cs : List Nat, joinL [] (cs.map fun c => [c]) = cs
  | [] => rfl
  | [c] => rfl
  | c :: d :: r => by
    have ih := joinL_one (d :: r)
    show [c] ++ ([] ++ joinL [] ((d :: r).map fun c => [c])) = c :: d :: r
    rw [ih]
    rfl
theorem join_sgn (cs : List Nat) : Txt.join "" (cs.map sgn) = ⟨cs.toArray⟩ := by
  refine ext_tl ?_
  rw [join_eq, tl_join]
  have e : (cs.map sgn).map tl = cs.map fun c => [c] := by
    rw [List.map_map]
    rfl
  rw [e, show tl "" = [] by decide +kernel, joinL_one]
theorem sgn_inj {a b : Nat} (h : sgn a = sgn b) : a = b := by
  have q := congrArg tl h
  rw [tl_sgn, tl_sgn] at q
  exact (List.cons.inj q).1
theorem count_sgn (c : Nat) : ∀ cs : List Nat, (cs.map sgn).count (sgn c) = cs.count c
  | [] => rfl
  | d :: r => by
    rw [List.map_cons, List.count_cons, List.count_cons, count_sgn c r]
    congr 1
    by_cases h : d = c
    · subst h
      simp
    · have : ¬ sgn d = sgn c := fun e => h (sgn_inj e)
      simp [h, this]
/-- the marks of a look: as many as told, each + - or ?, not all of them - -/
structure MarksOk (cs : List Nat) (m : Nat) : Prop where
  len : cs.length = m
  ok : ∀ c ∈ cs, c = 43 ∨ c = 45 ∨ c = 63
  one : ∃ c ∈ cs, c ≠ 45
def spMarks : Sp := fun vs H Q _ => ∃ (p : Addr) (m n : Nat), vs = [.ref p, .int (m : Nat)] ∧ Ur H p n ∧ n ≤ 700000000 ∧ 1 ≤ m ∧ m ≤ 11 ∧ ∀ (cs : List Nat) H', MarksOk cs m → SameB p H H' → Ur H' p (n + 20) → Q (.str ⟨cs.toArray⟩) H'
theorem m3_ok : ∀ d, d < 3 → (("+-?" : Str).cps.toList.getD d 0 = 43 ∨ ("+-?" : Str).cps.toList.getD d 0 = 45 ∨ ("+-?" : Str).cps.toList.getD d 0 = 63) := by decide +kernel
theorem m2_ok : ∀ d, d < 2 → (("+?" : Str).cps.toList.getD d 0 = 43 ∨ ("+?" : Str).cps.toList.getD d 0 = 63) := by decide +kernel
theorem at_lt {z : Str} {d n : Nat} (hn : z.cps.toList.length = n) (h : d < n) : z.cps.toList[d]? = some (z.cps.toList.getD d 0) := by
  rw [List.getD_eq_getElem?_getD, List.getElem?_eq_getElem (by rw [hn]; exact h)]
  rfl
theorem sum_sgn (cs : List Nat) : ((cs.map sgn).map (·.length)).sum = cs.length := by
  induction cs with
  | nil => rfl
  | cons c r ih =>
    rw [List.map_cons, List.map_cons, List.sum_cons, ih, List.length_cons]
    show 1 + r.length = r.length + 1
    omega
section
variable {P : Program} {w : World} {K : PySem.W.Frag} {mg : Str → Option Value} {base : Heap}
theorem ok_l_marks (T : Tx K mg) : FnOk P w K mg base CX0 7 T.a_l_marks T.fd_l_marks ["_law_urn_here", "_law_many"] spMarks := by
  refine T.F_l_marks.ok sc_l_marks (fun vs H Q E h => ?_) (fun cdv A outer s H vs Q E hr h => ?_)
  · obtain ⟨p, m, n, rfl, _⟩ := h
    rfl
  · obtain ⟨p, m, n, rfl, u, hn, h1, h11, k⟩ := h
    refine ⟨_, (pss_cons (ps_setLc (i := 2) (own := [("_law_k", 3)]) (g := gName 3) (tt := tYes) rfl sc_l_marks.nd rfl rfl (sw_true rfl rfl rfl (by decide +kernel)) (pi_range1 (by rfl) T.n_range (pa_cons (pv 1) pa_nil)) (blkOk_by (own := [("_law_k", 3)]) (N := names_l_marks) (sc := defScope st_l_marks) (by decide +kernel)) (fun _ _ _ _ _ => pg_name (i := 3) sc_l_marks.nd rfl (Or.inl rfl)) (fun _ _ _ _ _ => pts_nil) (fun _ _ _ _ _ => (pe_ix ix_str pe_str (pe_call (ok_l_draw T) (hr.mono (by decide)) rfl T.g_l_draw T.F_l_draw.kp T.b_l_draw .nil pass0 (pa_cons (pv 0) (pa_cons pe_int pa_nil))) (fun _ _ => rfl))))
      (pss_cons (ps_if (pt_cmpR op_eq (pe_bm PySem.F.plainAttrs_list PySem.F.slot_list_count PySem.F.type_list_count (mt_scount hr.units) (pv 2) (pa_cons pe_str pa_nil)) (pv 1) (nomark _))
        (pss_one (ps_asg (pe_ix ix_str pe_str (pe_call (ok_l_draw T) (hr.mono (by decide)) rfl T.g_l_draw T.F_l_draw.kp T.b_l_draw .nil pass0 (pa_cons (pv 0) (pa_cons pe_int pa_nil))) (fun _ _ => rfl)) (pg_sub (pv 2) (pe_call (ok_l_draw T) (hr.mono (by decide)) rfl T.g_l_draw T.F_l_draw.kp T.b_l_draw .nil pass0 (pa_cons (pv 0) (pa_cons (pv 1) pa_nil))) set_list)))
        pss_nil)
      (pss_one (ps_ret (pe_join pe_str (pv 2)))))), ?_⟩
    refine ⟨_, rfl, (m : Int), rfl, by omega, by omega, fun D nD => lc_range (lo := 0) (n := _) (fun i H' => SameB p H H' ∧ Ur H' p (n + i) ∧ ∃ cs : List Nat, cs.length = i ∧ (∀ c ∈ cs, c = 43 ∨ c = 45 ∨ c = 63) ∧ H' D = some (.lst ((cs.map sgn).map V.str)))
      ⟨.of (Same.new nD), u.same (Same.new nD), [], rfl, fun c hc => (nomatch hc), upd_same⟩ ?_ ?_⟩
    · rintro i H1 hi ⟨sb, u1, cs, hl, ok, e1⟩
      have hi : i < m := by omega
      refine ⟨rfl, ?_⟩
      have nDp : D ≠ p := u.ne nD
      refine ⟨_, rfl, p, 3, n + i, rfl, u1, by omega, by decide, by decide, fun d H2 d0 d3 sb2 u2 => ?_⟩
      obtain ⟨e, rfl⟩ : ∃ e : Nat, d = e := ⟨d.toNat, by omega⟩
      have h3 : e < 3 := by omega
      refine ⟨"+-?", e, _, rfl, rfl, (by decide +kernel), atI_nat (at_lt (n := 3) (by decide +kernel) h3), ?_⟩
      have e2 := sb2 _ _ nDp e1
      refine ⟨_, e2, lt_line (by rw [List.length_map, List.length_map]; omega), fun b o nb e => ?_, ?_, cs ++ [("+-?" : Str).cps.toList.getD e 0], ?_, ?_, ?_⟩
      · rw [upd_ne (ne_of_none e nD)]
        exact sb2 _ _ nb (sb _ _ nb e)
      · refine (Ur.put (o := .lst ((cs.map sgn).map V.str ++ [V.str ⟨#[("+-?" : Str).cps.toList.getD e 0]⟩])) u2 e2 (fun x y z q => ?_)).mono (by omega)
        have q := HO.lst.inj q
        cases cs with
        | nil => cases q
        | cons a r => cases q
      · rw [List.length_append, hl]
        rfl
      · intro c hc
        rcases List.mem_append.mp hc with hc | hc
        · exact ok c hc
        · rw [List.mem_singleton.mp hc]
          exact m3_ok e h3
      · rw [upd_same, List.map_append, List.map_append]
        rfl
    · rintro H1 ⟨sb, u1, cs, hl, ok, e1⟩
      have hl : cs.length = m := by omega
      have nDp : D ≠ p := u.ne nD
      have u1 := u1.mono (m := n + 11) (by omega)
      refine ⟨_, rfl, .inl ⟨rfl, _, lst_of e1⟩, D, cs.map sgn, sgn 45, rfl, rfl, lst_of e1, by rw [List.length_map]; omega, ?_⟩
      rw [count_sgn]
      refine ⟨_, rfl, rfl, _, rfl, ite2 (fun c => ?_) (fun c => ?_)⟩
      · refine ⟨_, rfl, p, 2, n + 11, rfl, u1, by omega, by decide, by decide, fun d H2 d0 d2 sb2 u2 => ?_⟩
        obtain ⟨e, rfl⟩ : ∃ e : Nat, d = e := ⟨d.toNat, by omega⟩
        have h2 : e < 2 := by omega
        refine ⟨"+?", e, _, rfl, rfl, (by decide +kernel), atI_nat (at_lt (n := 2) (by decide +kernel) h2), ?_⟩
        refine ⟨_, rfl, _, rfl, _, rfl, p, (m : Int), n + 12, rfl, u2, by omega, by omega, by omega, fun f H3 f0 fm sb3 u3 => ?_⟩
        obtain ⟨f, rfl⟩ : ∃ g : Nat, f = g := ⟨f.toNat, by omega⟩
        have e3 := sb3 _ _ nDp (sb2 _ _ nDp e1)
        have ix : ixN ((cs.map sgn).map V.str).length (f : Int) = some f := by
          unfold ixN
          rw [List.length_map, List.length_map, if_pos (by omega), if_pos (by omega)]
          simp
        refine ⟨D, _, _, f, rfl, rfl, e3, ix, ?_⟩
        have sx : ((cs.map sgn).map V.str).set f (.str ⟨#[("+?" : Str).cps.toList.getD e 0]⟩) = ((cs.set f (("+?" : Str).cps.toList.getD e 0)).map sgn).map V.str := by
          rw [List.map_set, List.map_set]
          rfl
        rw [sx]
        refine ⟨⟨_, rfl⟩, _, rfl, "", D, (cs.set f (("+?" : Str).cps.toList.getD e 0)).map sgn, rfl, rfl, .inl (lst_of upd_same), ?_, ?_⟩
        · rw [sum_sgn, List.length_map, List.length_set]
          have : ("" : Str).length = 0 := by decide +kernel
          rw [this]
          omega
        · rw [join_sgn]
          have hv := m2_ok e h2
          generalize ("+?" : Str).cps.toList.getD e 0 = v at hv ⊢
          refine k _ _ ⟨by rw [List.length_set]; exact hl, fun c hc => ?_, v, ?_, by omega⟩ (fun b o nb e => ?_) ?_
          · rcases List.mem_or_eq_of_mem_set hc with hc | rfl
            · exact ok c hc
            · omega
          · refine List.mem_iff_getElem?.mpr ⟨f, ?_⟩
            rw [List.getElem?_set_self (by omega)]
          · rw [upd_ne (ne_of_none e nD)]
            exact sb3 _ _ nb (sb2 _ _ nb (sb _ _ nb e))
          · refine (Ur.put u3 e3 (fun x y z q => ?_)).mono (by omega)
            have q := HO.lst.inj q
            cases cs with
            | nil => cases q
            | cons a r => cases q
      · refine ⟨⟨_, rfl⟩, _, rfl, "", D, cs.map sgn, rfl, rfl, .inl (lst_of e1), ?_, ?_⟩
        · rw [sum_sgn, List.length_map]
          have : ("" : Str).length = 0 := by decide +kernel
          rw [this]
          omega
        · rw [join_sgn]
          refine k _ _ ⟨hl, ok, ?_⟩ sb (u1.mono (by omega))
          refine Classical.byContradiction fun no => ?_
          have all : ∀ c ∈ cs, c = 45 := fun c hc => Classical.byContradiction fun h => no ⟨c, hc, h⟩
          have q : cs.count 45 = cs.length := List.count_eq_length.mpr fun b hb => (all b hb).symm
          rw [q, hl] at c
          exact c (decide_eq_true rfl)
end
end MH
namespace MH
open PySem PySem.Spec PyProof.Rows L2
theorem _root_.L2.SqT.ty {K : PySem.W.Frag} {H : Hp} {a : Addr} {xs : List V} (h : SqT K H a xs) : TyX K H (.ref a) (.type "tuple") := by
  rcases h with (h | ⟨o, h⟩) | ⟨o, its, n, h, c, _⟩
  · exact .base (.tup h)
  · exact .fTuple h
  · exact .kTuple h c
theorem ifT {c : Bool} {A B : Prop} (h : c = true) (a : A) : if c = true then A else B := by
  rw [if_pos h]
  exact a
theorem ifF {c : Bool} {A B : Prop} (h : c = false) (b : B) : if c = true then A else B := by
  rw [h, if_neg Bool.false_ne_true]
  exact b
theorem cut_upto (xs : List V) (i : Nat) : cutV xs none (some (i : Int)) = xs.take i := by
  unfold cutV
  rw [HT.sIx_none, HT.sIx_nat, Nat.sub_zero, List.drop_zero]
  rcases Nat.le_total i xs.length with h | h
  · rw [Nat.min_eq_left h]
  · rw [Nat.min_eq_right h, List.take_of_length_le (Nat.le_refl _), List.take_of_length_le h]
theorem cut_from (xs : List V) (i : Nat) : cutV xs (some (i : Int)) none = xs.drop i := by
  unfold cutV
  rw [HT.sIx_none, HT.sIx_nat]
  rcases Nat.le_total i xs.length with h | h
  · rw [Nat.min_eq_left h, List.take_of_length_le]
    rw [List.length_drop]
    exact Nat.le_refl _
  · rw [Nat.min_eq_right h, Nat.sub_self, List.drop_of_length_le h]
    rfl
/-- a slice of a tuple: itself or a new one -/
theorem slA_of {K : PySem.W.Frag} {H : Hp} {a : Addr} {xs : List V} {lo hi : Option Int} {Q : VK} (h : SqT K H a xs) (k : ∀ p H', Same H H' → SqT K H' p (cutV xs lo hi) → Q (.ref p) H') : rSlA K (.ref a) lo hi H Q := by
  refine ⟨a, xs, rfl, h, fun ⟨e1, e2⟩ => ?_, fun _ p np => k p _ (Same.new np) (tup_of upd_same)⟩
  have e : cutV xs lo hi = xs := by
    unfold cutV
    rw [e1, e2, Nat.sub_zero, List.drop_zero, List.take_of_length_le (Nat.le_refl _)]
  exact k a H (Same.refl H) (by rw [e]; exact h)
theorem walk_enumT {K : PySem.W.Frag} {a : Addr} {xs : List V} : Walk (IteT K a) xs.length (fun H => SqT K H a xs) (YPair (fun i => some (.int (i : Nat))) (fun i => xs[i]?)) where
  goes := fun i H hi h => ⟨xs, xs[i], h, by simp [hi]⟩
  stops := fun H h => ⟨xs, h, Nat.le_refl _⟩
  yields := fun i H x H' hi h ⟨T, y, e, n, e2, f⟩ => ⟨T, _, y, e, n, e2, rfl, f _ h⟩
def spIsName : Sp := fun vs H Q _ => ∃ z : Str, vs = [.str z] ∧ z.length ≤ 100000 ∧ ∀ H', Same H H' → Q (.bl (nameOk z)) H'
def spFilled (K : PySem.W.Frag) : Sp := fun vs H Q _ => ∃ (a : Addr) (xs : List V), vs = [.ref a] ∧ SqT K H a xs ∧ Q (.bl (decide (0 < xs.length))) H
def spOneOf (K : PySem.W.Frag) : Sp := fun vs H Q _ => ∃ (z : Str) (t : Addr) (ss : List Str), vs = [.str z, .ref t] ∧ SqT K H t (ss.map V.str) ∧ Q (.bl (decide (z ∈ ss))) H
def spFirstMenu (K : PySem.W.Frag) : Sp := fun vs H Q _ => ∃ (m t : Addr) (ms ss : List Str), vs = [.ref m, .ref t] ∧ SqT K H m (ms.map V.str) ∧ SqT K H t (ss.map V.str) ∧ ms.length ≤ 1000 ∧ (∀ z ∈ ms, z ∈ ss) ∧ ms.Pairwise ltS ∧ ∀ H', Same H H' → Q .non H'
section
variable {P : Program} {w : World} {K : PySem.W.Frag} {mg : Str → Option Value} {base : Heap}
theorem ok_is_filled_tuple (T : Tx K mg) : FnOk P w K mg base CX0 1 T.a_is_filled_tuple T.fd_is_filled_tuple ["value"] (spFilled K) := by
  refine T.F_is_filled_tuple.ok sc_is_filled_tuple (fun vs H Q E h => ?_) (fun cdv A outer s H vs Q E hr h => ?_)
  · obtain ⟨a, xs, rfl, _⟩ := h
    rfl
  · obtain ⟨a, xs, rfl, hT, k⟩ := h
    refine ⟨_, (pss_one (ps_ret (pe_and (pe_callB call_isi (by rfl) T.n_isinstance (by decide +kernel) (pa_cons (pv 0) (pa_cons (pe_bltn (v := .ty "tuple") (by rfl) T.n_tuple (by decide +kernel) rfl) pa_nil))) (pe_one (pe_cmpR op_gt (pe_callB call_len_seq (by rfl) T.n_len (by decide +kernel) (pa_cons (pv 0) pa_nil)) pe_int (nomark _)))))), ?_⟩
    refine ⟨_, rfl, _, _, _, _, true, rfl, .ty _, hT.ty, kit_ty (by decide +kernel), true, rfl, iteT ?_⟩
    refine ⟨_, rfl, a, _, rfl, .inr hT, _, _, rfl, rfl, ?_⟩
    have e : decide ((0 : Int) < (xs.length : Nat)) = decide (0 < xs.length) := by simp
    show Q (.bl (decide ((0 : Int) < (xs.length : Nat)))) H
    rw [e]
    exact k
theorem ok_is_name (T : Tx K mg) : FnOk P w K mg base CX0 1 T.a_is_name T.fd_is_name ["value"] spIsName := by
  refine T.F_is_name.ok sc_is_name (fun vs H Q E h => ?_) (fun cdv A outer s H vs Q E hr h => ?_)
  · obtain ⟨z, rfl, _⟩ := h
    rfl
  · obtain ⟨z, rfl, hz, k⟩ := h
    refine ⟨_, (pss_cons (ps_if (PW.pt (pw_or (pt_not (pt_val (pe_callB call_isi (by rfl) T.n_isinstance (by decide +kernel) (pa_cons (pv 0) (pa_cons (pe_bltn (v := .ty "str") (by rfl) T.n_str (by decide +kernel) rfl) pa_nil))))) (pw_or1 (pt_not (pt_chain op_le op_le pe_int (pe_callB call_len_str (by rfl) T.n_len (by decide +kernel) (pa_cons (pv 0) pa_nil)) (pe_glob (v := .int 8) rfl T.g_LONGEST_NAME.choose_spec ⟨_, rfl⟩))))))
        (pss_one (ps_ret pe_bl))
        pss_nil)
      (pss_one (ps_ret (pe_and (pe_cmpR op_in_sign (pe_ix ix_str (pv 0) pe_int (fun _ _ => rfl)) (pe_glob (v := .str "abcdefghijklmnopqrstuvwxyz") rfl T.g_LETTERS.choose_spec ⟨_, rfl⟩) (by rfl)) (pe_one (pe_callB (cr_all rfl) (by rfl) T.n_all (by decide +kernel) (pa_cons (pe_lc (own := [("sign", 1)]) (g := gName 1) (tt := tYes) rfl sc_is_name.nd (pi_str (pv 0)) (blkOk_by (own := [("sign", 1)]) (N := names_is_name) (sc := defScope st_is_name) (by decide +kernel)) (fun _ _ _ _ _ => pg_name (i := 1) sc_is_name.nd rfl (Or.inl rfl)) (fun _ _ _ _ _ => pts_nil) (fun _ _ _ _ _ => (pe_or (pe_cmpR op_in_sign (pv 1) (pe_glob (v := .str "abcdefghijklmnopqrstuvwxyz") rfl T.g_LETTERS.choose_spec ⟨_, rfl⟩) (by rfl)) (pe_one (pe_cmpR op_in_sign (pv 1) (pe_glob (v := .str "0123456789") rfl T.g_DIGITS.choose_spec ⟨_, rfl⟩) (by rfl)))))) pa_nil))))))), ?_⟩
    refine ⟨_, rfl, _, _, _, _, true, rfl, .ty _, .base (.str z), kit_ty (by decide +kernel), true, rfl, iteF ?_⟩
    refine ⟨_, rfl, z, rfl, le_line hz, _, _, rfl, rfl, _, rfl, ?_⟩
    by_cases h1 : 1 ≤ z.length
    · refine ifT (decide_eq_true (show (1 : Int) ≤ (z.length : Nat) by omega)) ?_
      refine ⟨_, _, rfl, rfl, _, rfl, ?_⟩
      by_cases h2 : z.length ≤ 8
      · refine ifF (by simp; omega) ?_
        have hne : z.cps.toList ≠ [] := fun e => by
          have : z.cps.size = 0 := by rw [← Array.length_toList, e]; rfl
          have e2 : z.length = z.cps.size := rfl
          omega
        obtain ⟨c0, rest, ec⟩ : ∃ c r, z.cps.toList = c :: r := List.exists_cons_of_ne_nil hne
        have en : nameOk z = (isL c0 && z.cps.toList.all fun c => isL c || isD c) := by
          unfold nameOk
          rw [decide_eq_true h1, decide_eq_true h2, ec]
          rfl
        refine ⟨_, rfl, z, 0, c0, rfl, rfl, le_line hz, (by rw [ec]; exact atI_nat (j := 0) rfl), c0, letters, rfl, rfl, isL c0, rfl, ?_⟩
        cases hc : isL c0 with
        | false =>
          refine iteF ?_
          have z0 := k H (Same.refl H)
          rw [en, hc] at z0
          exact z0
        | true =>
          refine iteT ?_
          refine ⟨_, rfl, z, rfl, fun D nD => lc_it (w := walk_str) (fun i H' => Same H H' ∧ H' D = some (.lst ((z.cps.toList.take i).map fun c => V.bl (isL c || isD c)))) ⟨Same.new nD, upd_same⟩ (fun _ _ _ _ => trivial) ?_ ?_⟩
          · rintro i x H1 H2 hi ⟨s1, e1⟩ ⟨rfl, c, hc, rfl⟩
            refine ⟨rfl, ?_⟩
            refine ⟨_, rfl, c, letters, rfl, rfl, isL c, rfl, ?_⟩
            have done : ∀ b : Bool, b = (isL c || isD c) → ∃ acc, H2 D = some (.lst acc) ∧ acc.length < sizeLine ∧ (Same H (upd H2 D (.lst (acc ++ [V.bl b]))) ∧ (upd H2 D (.lst (acc ++ [V.bl b]))) D = some (.lst ((z.cps.toList.take (i + 1)).map fun c => V.bl (isL c || isD c)))) := fun b hb => by
              refine ⟨_, e1, lt_line ?_, fun q o e => ?_, ?_⟩
              · have : z.cps.toList.length = z.length := rfl
                rw [List.length_map, List.length_take]
                omega
              · rw [upd_ne (ne_of_none e nD)]
                exact s1 _ _ e
              · rw [upd_same, hb]
                have g : z.cps.toList[i]? = some c := by
                  rw [Array.getElem?_toList]
                  exact hc
                rw [List.take_add_one, g, List.map_append]
                rfl
            cases hl : isL c with
            | true => exact iteT (done true (by rw [hl]; rfl))
            | false => exact iteF ⟨_, rfl, c, digits, rfl, rfl, done (isD c) (by rw [hl]; rfl)⟩
          · rintro H1 ⟨s1, e1⟩
            refine ⟨D, z.cps.toList.map fun c => isL c || isD c, rfl, lst_of ?_, ?_⟩
            · have : z.cps.toList.length ≤ z.cps.size := Nat.le_refl _
              rw [e1, List.take_of_length_le this, List.map_map]
              rfl
            · have z0 := k H1 s1
              rw [en, hc] at z0
              have e3 : (z.cps.toList.map fun c => isL c || isD c).all id = z.cps.toList.all fun c => isL c || isD c := by
                rw [List.all_map]
                rfl
              rw [e3]
              exact z0
      · refine ifT (by simp; omega) ?_
        have z0 := k H (Same.refl H)
        have en : nameOk z = false := by
          unfold nameOk
          rw [decide_eq_false h2]
          simp
        rw [en] at z0
        exact z0
    · refine ifF (decide_eq_false (show ¬ (1 : Int) ≤ (z.length : Nat) by omega)) ?_
      refine ⟨_, rfl, iteT ?_⟩
      have z0 := k H (Same.refl H)
      have en : nameOk z = false := by
        unfold nameOk
        rw [decide_eq_false h1]
        rfl
      rw [en] at z0
      exact z0
end
theorem str_at {ss : List Str} {i : Nat} {y : V} (h : (ss.map V.str)[i]? = some y) : ∃ z, ss[i]? = some z ∧ y = V.str z := by
  rw [List.getElem?_map] at h
  cases e : ss[i]? with
  | none =>
    rw [e] at h
    cases h
  | some z =>
    rw [e] at h
    exact ⟨z, rfl, (Option.some.inj h).symm⟩
theorem getD_of {row : List Str} {i : Nat} {z : Str} (h : row[i]? = some z) : row.getD i "" = z := by
  rw [List.getD_eq_getElem?_getD, h]
  rfl
def optV : Option Nat → V
  | none => .non
  | some i => .int (i : Nat)
theorem eqvAll_strs : ∀ xs ys : List Str, PyData.eqvAll (xs.map PyData.str) (ys.map PyData.str) = decide (xs = ys)
  | [], [] => by simp [PyData.eqvAll]
  | [], _ :: _ => by simp [PyData.eqvAll]
  | _ :: _, [] => by simp [PyData.eqvAll]
  | x :: xs, y :: ys => by
    rw [List.map_cons, List.map_cons, PyData.eqvAll, eqvAll_strs xs ys, PyData.eqv]
    by_cases e : x = y
    · subst e
      simp
    · simp [e]
theorem eqv_strs (xs ys : List Str) : PyData.eqv (.tuple (xs.map PyData.str)) (.tuple (ys.map PyData.str)) = decide (xs = ys) := by
  rw [PyData.eqv]
  exact eqvAll_strs xs ys
theorem shaped_strs {ss : List Str} (h : ∀ z ∈ ss, nameOk z = true) : SeqAt.shaped (.tuple (ss.map PyData.str)) = true := shaped_of (d := .tuple (ss.map PyData.str)) (okDs_strs fun z hz => nameOk_str (h z hz)) (by simp only [PyData.depth, depth_strs]; decide)
/-- tuples of names held against each other -/
theorem eqT_of {K : PySem.W.Frag} {H : Hp} {a b : Addr} {xs ys : List Str} {Q : VK} (ha : SqT K H a (xs.map V.str)) (hb : SqT K H b (ys.map V.str)) (hx : ∀ z ∈ xs, nameOk z = true) (hy : ∀ z ∈ ys, nameOk z = true) (q : Q (.bl (decide (xs = ys))) H) : rEqD K (.ref a) (.ref b) H Q := by
  refine ⟨_, _, .tup ha (dp_strs xs), .tup hb (dp_strs ys), shaped_strs hx, shaped_strs hy, ?_⟩
  rw [eqv_strs]
  exact q
theorem no_blank {z : Str} (h : nameOk z = true) : (32 : Nat) ∉ TL.tl z := by
  intro m
  unfold nameOk at h
  simp only [Bool.and_eq_true, decide_eq_true_eq] at h
  have q := h.2.2.2
  rw [List.all_eq_true] at q
  have w := q 32 m
  revert w
  decide +kernel
def spIndexOf (K : PySem.W.Frag) : Sp := fun vs H Q _ => ∃ (z : Str) (t : Addr) (row : List Str) (j : Nat), vs = [.str z, .ref t] ∧ SqT K H t (row.map V.str) ∧ row[j]? = some z ∧ row.Nodup ∧ row.length ≤ 1000 ∧ ∀ H', Same H H' → Q (.int (j : Nat)) H'
section
variable {P : Program} {w : World} {K : PySem.W.Frag} {mg : Str → Option Value} {base : Heap}
theorem ok_index_of (T : Tx K mg) : FnOk P w K mg base CX0 1 T.a_index_of T.fd_index_of ["name", "names"] (spIndexOf K) := by
  refine T.F_index_of.ok sc_index_of (fun vs H Q E h => ?_) (fun cdv A outer s H vs Q E hr h => ?_)
  · obtain ⟨z, t, row, j, rfl, _⟩ := h
    rfl
  · obtain ⟨z, t, row, j, rfl, hT, hj, nd, hl, k⟩ := h
    refine ⟨_, (pss_one (ps_ret (pe_ix ix_list (pe_lc (own := [("at", 2), ("other", 3)]) (g := gTup K 2 (gCons (gName 2) (gCons (gName 3) gNil))) (tt := tTest (tOp rEq (tVar 3) (tVar 0))) rfl sc_index_of.nd (pi_enumT (by rfl) T.n_enumerate (pa_cons (pv 1) pa_nil)) (blkOk_by (own := [("at", 2), ("other", 3)]) (N := names_index_of) (sc := defScope st_index_of) (by decide +kernel)) (fun _ _ _ _ _ => pg_tup rfl (pgs_cons (pg_name (i := 2) sc_index_of.nd rfl (Or.inl rfl)) (pgs_cons (pg_name (i := 3) sc_index_of.nd rfl (Or.inl rfl)) pgs_nil))) (fun _ _ _ _ _ => pts_one (pt_cmpR op_eq (pv 3) (pv 0) (nomark _))) (fun _ _ _ _ _ => (pv 2))) pe_int (fun _ _ => rfl)))), ?_⟩
    refine ⟨_, rfl, t, _, rfl, hT, fun D nD => lc_it walk_enumT (fun i H' => Same H H' ∧ H' D = some (.lst (if j < i then [V.int (j : Nat)] else []))) ⟨Same.new nD, by rw [if_neg (by omega)]; exact upd_same⟩ (fun i H' _ h => h.1.sqt hT) ?_ ?_⟩
    · rintro i x H1 H2 hi ⟨s1, e1⟩ ⟨p, y1, y2, rfl, np, rfl, ee1, ee2⟩
      cases ee1
      rw [List.length_map] at hi
      obtain ⟨y, hy, rfl⟩ := str_at ee2
      have s2 := s1.new' np (o := .tup [.int (i : Nat), .str y])
      have nDp : D ≠ p := ne_of_none e1 np
      refine ⟨p, _, rfl, tup_of upd_same, rfl, _, _, rfl, _, _, rfl, rfl, rfl, ?_⟩
      refine ⟨_, rfl, _, rfl, rfl, _, rfl, ?_⟩
      have e2 := (upd_ne (o := .tup [.int (i : Nat), .str y]) nDp).trans e1
      refine ite2 (fun c => ?_) (fun c => ?_)
      · have c : y = z := by
          have q := of_decide_eq_true c
          cases q
          rfl
        subst c
        have ij : i = j := by
          obtain ⟨h1, q1⟩ := List.getElem?_eq_some_iff.mp hy
          obtain ⟨h2, q2⟩ := List.getElem?_eq_some_iff.mp hj
          exact (List.getElem_inj nd).mp (q1.trans q2.symm)
        subst ij
        rw [if_neg (by omega)] at e2
        refine ⟨_, rfl, _, e2, lt_line (by show 0 < 100000; decide), fun b o h => ?_, ?_⟩
        · rw [upd_ne (ne_of_none h nD)]
          exact s2 _ _ h
        · rw [upd_same, if_pos (by omega)]
          rfl
      · have ij : i ≠ j := fun q => by
          subst q
          rw [hy] at hj
          cases hj
          exact c (decide_eq_true rfl)
        refine ⟨s2, ?_⟩
        rw [e2]
        congr 2
        by_cases q : j < i
        · rw [if_pos q, if_pos (by omega)]
        · rw [if_neg q, if_neg (by omega)]
    · rintro H1 ⟨s1, e1⟩
      rw [List.length_map, if_pos (List.getElem?_eq_some_iff.mp hj).1] at e1
      exact ⟨D, _, 0, V.int (j : Nat), rfl, rfl, lst_of e1, atI_nat (j := 0) rfl, k H1 s1⟩
end
end MH
namespace MH
open PySem PySem.Spec PyProof.Rows L2
section
variable {P : Program} {w : World} {K : PySem.W.Frag} {mg : Str → Option Value} {base : Heap}
theorem ok_is_one_of (T : Tx K mg) : FnOk P w K mg base CX0 1 T.a_is_one_of T.fd_is_one_of ["value", "things"] (spOneOf K) := by
  refine T.F_is_one_of.ok sc_is_one_of (fun vs H Q E h => ?_) (fun cdv A outer s H vs Q E hr h => ?_)
  · obtain ⟨z, t, ss, rfl, _⟩ := h
    rfl
  · obtain ⟨z, t, ss, rfl, hT, k⟩ := h
    refine ⟨_, (pss_one (ps_ret (pe_and (pe_callB call_isi (by rfl) T.n_isinstance (by decide +kernel) (pa_cons (pv 0) (pa_cons (pe_bltn (v := .ty "str") (by rfl) T.n_str (by decide +kernel) rfl) pa_nil))) (pe_one (pe_cmpR op_in_seq (pv 0) (pv 1) (by rfl)))))), ?_⟩
    refine ⟨_, rfl, _, _, _, _, true, rfl, .ty _, .base (.str z), kit_ty (by decide +kernel), true, rfl, iteT ?_⟩
    refine ⟨_, rfl, _, rfl, t, _, rfl, .inr hT, rfl, flat_strs ss, ?_⟩
    show Q (.bl (inV (.str z) (ss.map V.str))) H
    rw [inV_strs]
    exact k
theorem ok_first_wrong_on_menu (T : Tx K mg) : FnOk P w K mg base CX0 2 T.a_first_wrong_on_menu T.fd_first_wrong_on_menu ["menu", "things"] (spFirstMenu K) := by
  refine T.F_first_wrong_on_menu.ok sc_first_wrong_on_menu (fun vs H Q E h => ?_) (fun cdv A outer s H vs Q E hr h => ?_)
  · obtain ⟨m, t, ms, ss, rfl, _⟩ := h
    rfl
  · obtain ⟨m, t, ms, ss, rfl, hM, hT, hz, hin, hpw, k⟩ := h
    refine ⟨_, (pss_cons (ps_for PassesOwn.never rfl (pi_enumT (by rfl) T.n_enumerate (pa_cons (pv 0) pa_nil)) (pg_tup rfl (pgs_cons (pg_name (i := 2) sc_first_wrong_on_menu.nd rfl (Or.inl rfl)) (pgs_cons (pg_name (i := 3) sc_first_wrong_on_menu.nd rfl (Or.inl rfl)) pgs_nil)))
        (pss_cons (ps_if (pt_not (pt_val (pe_call (ok_is_one_of T) (hr.mono (by decide)) rfl T.g_is_one_of T.F_is_one_of.kp T.b_is_one_of .nil pass0 (pa_cons (pv 3) (pa_cons (pv 1) pa_nil)))))
        (pss_one (ps_ret (pv 2)))
        pss_nil)
      (pss_one (ps_if (PW.pt (pw_and (pt_cmpR op_gt (pv 2) pe_int (nomark _)) (pw_and1 (pt_cmpR op_le_str (pv 3) (pe_ix ix_tup (pv 0) (pe_op op_sub (pv 2) pe_int) (fun _ _ => rfl)) (nomark _)))))
        (pss_one (ps_ret (pv 2)))
        pss_nil))))
      (pss_one (ps_ret pe_non))), ?_⟩
    refine ⟨_, rfl, m, _, rfl, hM, for_it walk_enumT (fun i σ H' => Same H H' ∧ ∃ v1 v2, σ = [some (.ref m), some (.ref t), v1, v2]) ⟨Same.refl H, none, none, rfl⟩ (fun i σ H' _ h => h.1.sqt hM) ?_ ?_⟩
    · rintro i x σ H1 H2 hi ⟨s1, v1, v2, rfl⟩ ⟨p, y1, y2, rfl, np, rfl, e1, e2⟩
      cases e1
      rw [List.length_map] at hi
      obtain ⟨z, hz, rfl⟩ := str_at e2
      have s2 := s1.new' np (o := .tup [.int (i : Nat), .str z])
      refine ⟨p, _, rfl, tup_of upd_same, rfl, _, _, rfl, _, _, rfl, rfl, ?_⟩
      refine ⟨_, rfl, _, rfl, z, t, ss, rfl, s2.sqt hT, _, rfl, ?_⟩
      have dz : decide (z ∈ ss) = true := decide_eq_true (hin z (List.mem_of_getElem? hz))
      refine ifF (by rw [dz]; rfl) ?_
      refine ⟨_, rfl, _, _, rfl, rfl, _, rfl, ?_⟩
      cases i with
      | zero => exact ifF (by decide) (iteF ⟨s2, _, _, rfl⟩)
      | succ i =>
        refine ifT (decide_eq_true (by omega)) ?_
        obtain ⟨y, hy⟩ : ∃ y, ms[i]? = some y := ⟨ms[i], List.getElem?_eq_getElem (by omega)⟩
        have g : (ms.map V.str)[i]? = some (.str y) := by
          rw [List.getElem?_map, hy]
          rfl
        have ix : (((i + 1 : Nat) : Int) - 1) = (i : Nat) := by omega
        refine ⟨_, rfl, _, rfl, _, rfl, _, _, rfl, rfl, m, _, _, _, rfl, rfl, s2.sqt hM, (by rw [ix]; exact atI_nat g), _, _, rfl, rfl, _, rfl, ifF ?_ ⟨s2, _, _, rfl⟩⟩
        have lt : ltS y z := by
          obtain ⟨h1, e1⟩ := List.getElem?_eq_some_iff.mp hy
          obtain ⟨h2, e2⟩ := List.getElem?_eq_some_iff.mp hz
          rw [← e1, ← e2]
          exact List.pairwise_iff_getElem.mp hpw i (i + 1) h1 h2 (by omega)
        rw [decide_eq_true (show y.cps.toList < z.cps.toList from lt)]
        rfl
    · rintro σ H1 ⟨s1, v1, v2, rfl⟩
      exact k H1 s1
end
end MH
namespace MH
open PySem PySem.Spec PyProof.Rows L2
/-! ### names in their order -/
/-- what is no name, not ascending or one too many at this place -/
def badNq (names : List Str) (most i : Nat) : Bool := (decide (most ≤ i) || !nameOk (names.getD i "")) || (decide (0 < i) && !decide (ltS (names.getD (i - 1) "") (names.getD i "")))
def badN (names : List Str) (most : Nat) : Option Nat := (List.range names.length).find? (badNq names most)
theorem badN_some {names : List Str} {most i : Nat} (hi : i < names.length) (b : badNq names most i = true) (h : ∀ j, j < i → badNq names most j = false) : badN names most = some i := by
  unfold badN
  rw [List.find?_range_eq_some]
  exact ⟨b, List.mem_range.mpr hi, fun j hj => by rw [h j hj]; rfl⟩
theorem badN_none {names : List Str} {most : Nat} (h : ∀ j, j < names.length → badNq names most j = false) : badN names most = none := by
  unfold badN
  rw [List.find?_eq_none]
  intro j hj
  rw [h j (List.mem_range.mp hj)]
  simp
def spFirstN (K : PySem.W.Frag) : Sp := fun vs H Q _ => ∃ (t : Addr) (names : List Str) (most : Nat), vs = [.ref t, .int (most : Nat)] ∧ SqT K H t (names.map V.str) ∧ (∀ z ∈ names, z.length ≤ 100000) ∧ ∀ H', Same H H' → Q (optV (badN names most)) H'
section
variable {P : Program} {w : World} {K : PySem.W.Frag} {mg : Str → Option Value} {base : Heap}
theorem ok_first_wrong_of_names (T : Tx K mg) : FnOk P w K mg base CX0 2 T.a_first_wrong_of_names T.fd_first_wrong_of_names ["names", "most"] (spFirstN K) := by
  refine T.F_first_wrong_of_names.ok sc_first_wrong_of_names (fun vs H Q E h => ?_) (fun cdv A outer s H vs Q E hr h => ?_)
  · obtain ⟨t, names, most, rfl, _⟩ := h
    rfl
  · obtain ⟨t, names, most, rfl, hT, hz0, k⟩ := h
    refine ⟨_, (pss_cons (ps_for PassesOwn.never rfl (pi_enumT (by rfl) T.n_enumerate (pa_cons (pv 0) pa_nil)) (pg_tup rfl (pgs_cons (pg_name (i := 2) sc_first_wrong_of_names.nd rfl (Or.inl rfl)) (pgs_cons (pg_name (i := 3) sc_first_wrong_of_names.nd rfl (Or.inl rfl)) pgs_nil)))
        (pss_cons (ps_if (PW.pt (pw_or (pt_cmpR op_ge (pv 2) (pv 1) (nomark _)) (pw_or1 (pt_not (pt_val (pe_call (ok_is_name T) (hr.mono (by decide)) rfl T.g_is_name T.F_is_name.kp T.b_is_name .nil pass0 (pa_cons (pv 3) pa_nil)))))))
        (pss_one (ps_ret (pv 2)))
        pss_nil)
      (pss_one (ps_if (PW.pt (pw_and (pt_cmpR op_gt (pv 2) pe_int (nomark _)) (pw_and1 (pt_cmpR op_le_str (pv 3) (pe_ix ix_tup (pv 0) (pe_op op_sub (pv 2) pe_int) (fun _ _ => rfl)) (nomark _)))))
        (pss_one (ps_ret (pv 2)))
        pss_nil))))
      (pss_one (ps_ret pe_non))), ?_⟩
    refine ⟨_, rfl, t, _, rfl, hT, for_it walk_enumT (fun i σ H' => Same H H' ∧ (∀ j, j < i → badNq names most j = false) ∧ ∃ v1 v2, σ = [some (.ref t), some (.int (most : Nat)), v1, v2]) ⟨Same.refl H, fun j hj => absurd hj (Nat.not_lt_zero j), none, none, rfl⟩ (fun i σ H' _ h => h.1.sqt hT) ?_ ?_⟩
    · rintro i x σ H1 H2 hi ⟨s1, hb, v1, v2, rfl⟩ ⟨p, y1, y2, rfl, np, rfl, e1, e2⟩
      cases e1
      rw [List.length_map] at hi
      obtain ⟨z, hz, rfl⟩ := str_at e2
      have s2 := s1.new' np (o := .tup [.int (i : Nat), .str z])
      refine ⟨p, _, rfl, tup_of upd_same, rfl, _, _, rfl, _, _, rfl, rfl, ?_⟩
      have g := getD_of hz
      have out : badNq names most i = true → ∀ H', Same H H' → Q (.int (i : Nat)) H' := fun b H' s => by
        have q := k _ s
        rw [badN_some hi b hb] at q
        exact q
      refine ⟨_, rfl, _, rfl, _, _, rfl, rfl, _, rfl, ?_⟩
      by_cases h10 : most ≤ i
      · refine ifT (decide_eq_true (by omega)) ⟨_, rfl, out (by unfold badNq; rw [decide_eq_true h10]; rfl) _ s2⟩
      · refine ifF (decide_eq_false (by omega)) ?_
        refine ⟨_, rfl, z, rfl, hz0 z (List.mem_of_getElem? hz), fun H2 s3 => ?_⟩
        cases hn : nameOk z with
        | false => exact ⟨false, rfl, iteT ⟨_, rfl, out (by unfold badNq; rw [g, hn, decide_eq_false h10]; rfl) _ (s2.trans s3)⟩⟩
        | true =>
          refine ⟨true, rfl, iteF ?_⟩
          have b0 : badNq names most i = (decide (0 < i) && !decide (ltS (names.getD (i - 1) "") z)) := by
            unfold badNq
            rw [g, hn, decide_eq_false h10]
            rfl
          have s23 := s2.trans s3
          refine ⟨_, rfl, _, _, rfl, rfl, _, rfl, ?_⟩
          cases i with
          | zero => exact ifF (by decide) (iteF ⟨s23, fun j hj => by
              rcases Nat.lt_succ_iff_lt_or_eq.mp hj with hj | rfl
              · exact hb j hj
              · rw [b0]; rfl, _, _, rfl⟩)
          | succ i =>
            refine ifT (decide_eq_true (by omega)) ?_
            obtain ⟨y, hy⟩ : ∃ y, names[i]? = some y := ⟨names[i], List.getElem?_eq_getElem (by omega)⟩
            have g : (names.map V.str)[i]? = some (.str y) := by
              rw [List.getElem?_map, hy]
              rfl
            have gy : names.getD (i + 1 - 1) "" = y := getD_of hy
            have ix : (((i + 1 : Nat) : Int) - 1) = (i : Nat) := by omega
            refine ⟨_, rfl, _, rfl, _, rfl, _, _, rfl, rfl, t, _, _, _, rfl, rfl, s23.sqt hT, (by rw [ix]; exact atI_nat g), _, _, rfl, rfl, _, rfl, ite2 (fun c => ?_) (fun c => ?_)⟩
            · exact ⟨_, rfl, out (by rw [b0, gy]; exact c) _ s23⟩
            · refine ⟨s23, fun j hj => ?_, _, _, rfl⟩
              rcases Nat.lt_succ_iff_lt_or_eq.mp hj with hj | rfl
              · exact hb j hj
              · rw [b0, gy]
                exact Bool.eq_false_iff.mpr c
    · rintro σ H1 ⟨s1, hb, v1, v2, rfl⟩
      rw [List.length_map] at hb
      have q := k H1 s1
      rw [badN_none hb] at q
      exact q
/-- all names, each greater than the one before it, from one to ten -/
structure MenuN (ms : List Str) : Prop where
  ne : ms ≠ []
  le : ms.length ≤ 10
  ok : ∀ z ∈ ms, nameOk z = true
  up : ms.Pairwise ltS
theorem badN_ok {ms : List Str} (h : MenuN ms) : badN ms 10 = none := by
  refine badN_none fun j hj => ?_
  have le := h.le
  unfold badNq
  rw [getD_of (List.getElem?_eq_getElem hj), h.ok _ (List.getElem_mem hj), decide_eq_false (by omega)]
  cases j with
  | zero => rfl
  | succ j =>
    rw [show j + 1 - 1 = j from rfl, getD_of (List.getElem?_eq_getElem (by omega : j < ms.length)), decide_eq_true (List.pairwise_iff_getElem.mp h.up j (j + 1) (by omega) hj (by omega))]
    rfl
def spCheckN (K : PySem.W.Frag) : Sp := fun vs H Q _ => ∃ (t : Addr) (ms : List Str), vs = [.ref t] ∧ SqT K H t (ms.map V.str) ∧ MenuN ms ∧ ∀ H', Same H H' → Q .non H'
theorem pos_of_ne {ss : List Str} (h : ss ≠ []) : decide (0 < (ss.map V.str).length) = true := by
  cases ss with
  | nil => exact absurd rfl h
  | cons a r => rfl
theorem ok_check_names_of_menu (T : Tx K mg) : FnOk P w K mg base CX0 3 T.a_check_names_of_menu T.fd_check_names_of_menu ["menu"] (spCheckN K) := by
  refine T.F_check_names_of_menu.ok sc_check_names_of_menu (fun vs H Q E h => ?_) (fun cdv A outer s H vs Q E hr h => ?_)
  · obtain ⟨t, ms, rfl, _⟩ := h
    rfl
  · obtain ⟨t, ms, rfl, hT, mo, k⟩ := h
    refine ⟨_, (pss_cons (ps_if (pt_not (pt_val (pe_call (ok_is_filled_tuple T) (hr.mono (by decide)) rfl T.g_is_filled_tuple T.F_is_filled_tuple.kp T.b_is_filled_tuple .nil pass0 (pa_cons (pv 0) pa_nil))))
        (pss_one ps_never)
        pss_nil)
      (pss_cons (ps_set (i := 1) sc_check_names_of_menu.nd rfl (Or.inl rfl) (pe_call (ok_first_wrong_of_names T) (hr.mono (by decide)) rfl T.g_first_wrong_of_names T.F_first_wrong_of_names.kp T.bd_first_wrong_of_names.choose_spec.2 T.bd_first_wrong_of_names.choose_spec.1 pass0 (pa_cons (pv 0) pa_nil)))
      (pss_one (ps_if (pt_cmpR op_notN (pv 1) pe_non (nomark _))
        (pss_one ps_never)
        pss_nil)))), ?_⟩
    refine ⟨_, rfl, t, _, rfl, hT, _, rfl, ifF (by rw [pos_of_ne mo.ne]; rfl) ?_⟩
    refine ⟨_, rfl, t, ms, 10, rfl, hT, (fun z hz => Nat.le_trans (nameOk_len (mo.ok z hz)) (by decide)), fun H1 s1 => ?_⟩
    rw [badN_ok mo]
    exact ⟨_, rfl, rfl, _, rfl, iteF (k H1 s1)⟩
end
end MH
namespace MH
open PySem PySem.Spec PyProof.Rows L2
/-! ### marks -/
def isM (c : Nat) : Bool := decide (c ∈ ("+-?" : Str).cps.toList)
theorem isM_iff {c : Nat} : isM c = true ↔ c = 43 ∨ c = 45 ∨ c = 63 := by
  unfold isM
  rw [decide_eq_true_eq, show ("+-?" : Str).cps.toList = [43, 45, 63] by decide +kernel]
  simp
def marksB (sg : Str) (m : Nat) : Bool := decide (sg.cps.toList.length = m) && (sg.cps.toList.all isM && decide (sg.cps.toList.count 45 < m))
theorem count_dash (x : Str) : Txt.count x "-" = ((x.cps.toList.count 45 : Nat) : Int) := by
  have e : ("-" : Str) = ⟨#[45]⟩ := by decide +kernel
  rw [e, count_is x 45]
  show cnt 45 x.cps.toList = _
  generalize x.cps.toList = l
  induction l with
  | nil => rfl
  | cons a l ih =>
    rw [cnt_cons, ih, List.count_cons]
    by_cases h : a = 45
    · simp [h]; omega
    · simp [h]
theorem marks_ok {cs : List Nat} {m : Nat} (h : MarksOk cs m) : marksB ⟨cs.toArray⟩ m = true := by
  unfold marksB
  show (decide (cs.length = m) && (cs.all isM && decide (cs.count 45 < m))) = true
  rw [Bool.and_eq_true, Bool.and_eq_true, decide_eq_true_eq, decide_eq_true_eq, List.all_eq_true]
  refine ⟨h.len, fun c hc => isM_iff.mpr (h.ok c hc), ?_⟩
  have le := List.count_le_length (a := 45) (l := cs)
  by_cases e : cs.count 45 = cs.length
  · obtain ⟨c, hc, ne⟩ := h.one
    exact absurd (List.count_eq_length.mp e c hc).symm ne
  · have := h.len
    omega
theorem marks_of {sg : Str} {m : Nat} (h : marksB sg m = true) : MarksOk sg.cps.toList m := by
  unfold marksB at h
  rw [Bool.and_eq_true, Bool.and_eq_true, decide_eq_true_eq, decide_eq_true_eq, List.all_eq_true] at h
  obtain ⟨h1, h2, h3⟩ := h
  refine ⟨h1, fun c hc => isM_iff.mp (h2 c hc), ?_⟩
  by_cases e : ∃ c ∈ sg.cps.toList, c ≠ 45
  · exact e
  · have : sg.cps.toList.count 45 = sg.cps.toList.length := List.count_eq_length.mpr fun c hc => by
      by_cases q : c = 45
      · exact q.symm
      · exact absurd ⟨c, hc, q⟩ e
    omega
def spAreMarks : Sp := fun vs H Q _ => ∃ (sg : Str) (m : Nat), vs = [.str sg, .int (m : Nat)] ∧ sg.cps.toList.length ≤ 10000 ∧ ∀ H', Same H H' → Q (.bl (marksB sg m)) H'
section
variable {P : Program} {w : World} {K : PySem.W.Frag} {mg : Str → Option Value} {base : Heap}
theorem ok_are_marks (T : Tx K mg) : FnOk P w K mg base CX0 1 T.a_are_marks T.fd_are_marks ["marks", "many"] spAreMarks := by
  refine T.F_are_marks.ok sc_are_marks (fun vs H Q E h => ?_) (fun cdv A outer s H vs Q E hr h => ?_)
  · obtain ⟨sg, m, rfl, _⟩ := h
    rfl
  · obtain ⟨sg, m, rfl, hl, k⟩ := h
    refine ⟨_, (pss_cons (ps_if (PW.pt (pw_or (pt_not (pt_val (pe_callB call_isi (by rfl) T.n_isinstance (by decide +kernel) (pa_cons (pv 0) (pa_cons (pe_bltn (v := .ty "str") (by rfl) T.n_str (by decide +kernel) rfl) pa_nil))))) (pw_or1 (pt_cmpR op_ne (pe_callB call_len_str (by rfl) T.n_len (by decide +kernel) (pa_cons (pv 0) pa_nil)) (pv 1) (nomark _)))))
        (pss_one (ps_ret pe_bl))
        pss_nil)
      (pss_one (ps_ret (pe_and (pe_callB (cr_all rfl) (by rfl) T.n_all (by decide +kernel) (pa_cons (pe_lc (own := [("mark", 2)]) (g := gName 2) (tt := tYes) rfl sc_are_marks.nd (pi_str (pv 0)) (blkOk_by (own := [("mark", 2)]) (N := names_are_marks) (sc := defScope st_are_marks) (by decide +kernel)) (fun _ _ _ _ _ => pg_name (i := 2) sc_are_marks.nd rfl (Or.inl rfl)) (fun _ _ _ _ _ => pts_nil) (fun _ _ _ _ _ => (pe_cmpR op_in_sign (pv 2) (pe_glob (v := .str "+-?") rfl T.g_MARKS.choose_spec ⟨_, rfl⟩) (by rfl)))) pa_nil)) (pe_one (pe_cmpR op_lt (pe_bm PySem.F.plainAttrs_str PySem.F.slot_str_count PySem.F.type_str_count mt_count (pv 0) (pa_cons pe_str pa_nil)) (pv 1) (nomark _))))))), ?_⟩
    have len : sg.length = sg.cps.toList.length := len_cps sg
    refine ⟨_, rfl, _, _, _, _, true, rfl, .ty _, .base (.str sg), kit_ty (by decide +kernel), true, rfl, iteF ?_⟩
    refine ⟨_, rfl, sg, rfl, le_line (by omega), ?_⟩
    refine ⟨_, rfl, rfl, _, rfl, ite2 (fun c => ?_) (fun c => ?_)⟩
    · have ne : ¬ sg.cps.toList.length = m := fun e => by
        rw [len, e, decide_eq_true rfl] at c
        cases c
      have e : marksB sg m = false := by
        unfold marksB
        rw [decide_eq_false ne]
        rfl
      rw [e] at k
      exact k H (Same.refl H)
    · have e : sg.cps.toList.length = m := by
        by_cases e : sg.cps.toList.length = m
        · exact e
        · exact absurd (by rw [len, decide_eq_false (fun q => e (by injection q with q; omega))]; rfl) c
      refine ⟨_, rfl, sg, rfl, fun D nD => lcv walk_str sg.cps.toList (fun c => V.bl (isM c)) Array.length_toList nD (by rw [← Array.length_toList]; omega) (fun _ _ => trivial) (fun _ _ _ _ _ y => y.1 ▸ Same.refl _) (fun i c y H1 H2 hc s1 yy Z hZ => ?_) (fun H1 s1 e1 => ?_)⟩
      · obtain ⟨rfl, c', hc', rfl⟩ := yy
        have ec : c' = c := by
          rw [Array.getElem?_toList] at hc
          exact Option.some.inj (hc'.symm.trans hc)
        subst ec
        exact ⟨rfl, _, rfl, c', _, rfl, rfl, hZ _ (Same.refl _)⟩
      · refine ⟨D, sg.cps.toList.map isM, rfl, lst_of (by rw [e1, List.map_map]; rfl), ?_⟩
        have e3 : (sg.cps.toList.map isM).all id = sg.cps.toList.all isM := by
          rw [List.all_map]
          rfl
        rw [e3]
        have eb : marksB sg m = (sg.cps.toList.all isM && decide (sg.cps.toList.count 45 < m)) := by
          unfold marksB
          rw [decide_eq_true e]
          rfl
        rw [eb] at k
        refine ⟨_, rfl, ite2 (fun c2 => ?_) (fun c2 => ?_)⟩
        · rw [c2, Bool.true_and] at k
          refine ⟨_, rfl, rfl, _, _, rfl, rfl, ?_⟩
          refine ⟨_, rfl, _, _, rfl, rfl, ?_⟩
          have q := k H1 s1
          have ed : decide (Txt.count sg "-" < (m : Int)) = decide (sg.cps.toList.count 45 < m) := by rw [count_dash]; simp
          show Q (.bl (decide (Txt.count sg "-" < (m : Int)))) H1
          rw [ed]
          exact q
        · rw [Bool.eq_false_iff.mpr c2, Bool.false_and] at k
          exact k H1 s1
end
end MH
namespace MH
open PySem PySem.Spec PyProof.Rows L2
/-! ### looks in memory -/
theorem nmm : ¬ (("menu" : Str) = "_marks") := by decide +kernel
def lkF (m : Addr) (sg : Str) : List (Str × V) := putF "_marks" (.str sg) (putF "menu" (.ref m) [])
theorem lk_menu (m : Addr) (sg : Str) : (lkF m sg).lookup ("menu" : Str) = some (.ref m) := by
  unfold lkF
  rw [lookup_putF, if_neg nmm, lookup_putF, if_pos rfl]
theorem lk_marks (m : Addr) (sg : Str) : (lkF m sg).lookup ("_marks" : Str) = some (.str sg) := by
  unfold lkF
  rw [lookup_putF, if_pos rfl]
theorem sqt_but {K : PySem.W.Frag} {p a : Addr} {H H' : Hp} {C dx : Addr} {fs : List (Str × V)} {xs : List V} (s : SameB p H H') (hp : H p = some (.ins C dx fs)) (h : SqT K H a xs) : SqT K H' a xs := by
  rcases h with (h | ⟨o, h⟩) | h
  · exact .inl (.inl (s _ _ (ne_of h hp (by intro q; cases q)) h))
  · exact .inl (.inr ⟨o, s _ _ (ne_of h hp (by intro q; cases q)) h⟩)
  · exact .inr h
/-- a look with this menu (at m) and these marks stands at x -/
def LkAt (K : PySem.W.Frag) (C : Addr) (H : Hp) (x m : Addr) (ms : List Str) (sg : Str) : Prop := ∃ dx : Addr, H x = some (.ins C dx (lkF m sg)) ∧ SqT K H m (ms.map V.str) ∧ MenuN ms ∧ marksB sg ms.length = true
theorem LkAt.same {K : PySem.W.Frag} {C x m : Addr} {H H' : Hp} {ms : List Str} {sg : Str} (r : LkAt K C H x m ms sg) (s : Same H H') : LkAt K C H' x m ms sg := by
  obtain ⟨dx, h1, h2, h3⟩ := r
  exact ⟨dx, s _ _ h1, s.sqt h2, h3⟩
theorem LkAt.sameB {K : PySem.W.Frag} {C x m p : Addr} {H H' : Hp} {ms : List Str} {sg : Str} {zs : List V} (r : LkAt K C H x m ms sg) (s : SameB p H H') (hp : H p = some (.lst zs)) : LkAt K C H' x m ms sg := by
  obtain ⟨dx, h1, h2, h3⟩ := r
  exact ⟨dx, s _ _ (ne_of h1 hp (by intro q; cases q)) h1, s.sqt hp h2, h3⟩
theorem LkAt.len {K : PySem.W.Frag} {C x m : Addr} {H : Hp} {ms : List Str} {sg : Str} (r : LkAt K C H x m ms sg) : sg.cps.toList.length = ms.length := by
  obtain ⟨dx, _, _, _, h⟩ := r
  exact (marks_of h).len
theorem LkAt.mo {K : PySem.W.Frag} {C x m : Addr} {H : Hp} {ms : List Str} {sg : Str} (r : LkAt K C H x m ms sg) : MenuN ms := by
  obtain ⟨dx, _, _, h, _⟩ := r
  exact h
/-- the sign at a place -/
def sgAt (sg : Str) (i : Nat) : Str := ⟨#[sg.cps.toList.getD i 0]⟩
/-- the things with this mark -/
def withM (ms : List Str) (sg : Str) (c : Nat) : List Str := ((List.range ms.length).filter fun i => decide (sg.cps.toList.getD i 0 = c)).map fun i => ms.getD i ""
def spLkInit (K : PySem.W.Frag) (C : Addr) : Sp := fun vs H Q _ => ∃ (x dx m : Addr) (ms : List Str) (sg : Str), vs = [.ref x, .ref m, .str sg] ∧ H x = some (.ins C dx []) ∧ SqT K H m (ms.map V.str) ∧ MenuN ms ∧ marksB sg ms.length = true ∧ ∀ H', SameB x H H' → LkAt K C H' x m ms sg → Q .non H'
def spLkMarks (K : PySem.W.Frag) (C : Addr) : Sp := fun vs H Q _ => ∃ (x m : Addr) (ms : List Str) (sg : Str), vs = [.ref x] ∧ LkAt K C H x m ms sg ∧ Q (.str sg) H
def spLkWith (K : PySem.W.Frag) (C : Addr) (c : Nat) : Sp := fun vs H Q _ => ∃ (x m : Addr) (ms : List Str) (sg : Str), vs = [.ref x] ∧ LkAt K C H x m ms sg ∧ ∀ a H', Same H H' → SqT K H' a ((withM ms sg c).map V.str) → Q (.ref a) H'
def spLkLen (K : PySem.W.Frag) (C : Addr) : Sp := fun vs H Q _ => ∃ (x m : Addr) (ms : List Str) (sg : Str), vs = [.ref x] ∧ LkAt K C H x m ms sg ∧ Q (.int (ms.length : Nat)) H
def spLkStr (K : PySem.W.Frag) (C : Addr) : Sp := fun vs H Q _ => ∃ (x m : Addr) (ms : List Str) (sg : Str), vs = [.ref x] ∧ LkAt K C H x m ms sg ∧ ∀ H', Same H H' → Q (.str (lineOf ms sg)) H'
def spLkGet (K : PySem.W.Frag) (C : Addr) : Sp := fun vs H Q _ => ∃ (x m : Addr) (ms : List Str) (sg z : Str) (j : Nat), vs = [.ref x, .str z] ∧ LkAt K C H x m ms sg ∧ ms[j]? = some z ∧ ∀ H', Same H H' → Q (.str (sgAt sg j)) H'
theorem MenuN.nd {ms : List Str} (h : MenuN ms) : ms.Nodup := h.up.imp (S := fun a b => a ≠ b) fun {a b} q (e : a = b) => ltS_irrefl a (by subst e; exact q)
def spCheckT (K : PySem.W.Frag) : Sp := fun vs H Q _ => ∃ (z : Str) (t : Addr) (ss : List Str), vs = [.str z, .ref t] ∧ SqT K H t (ss.map V.str) ∧ z ∈ ss ∧ Q .non H
section
variable {P : Program} {w : World} {K : PySem.W.Frag} {mg : Str → Option Value} {base : Heap}
theorem ok_check_thing (T : Tx K mg) : FnOk P w K mg base CX0 3 T.a_check_thing T.fd_check_thing ["thing", "things"] (spCheckT K) := by
  refine T.F_check_thing.ok sc_check_thing (fun vs H Q E h => ?_) (fun cdv A outer s H vs Q E hr h => ?_)
  · obtain ⟨z, t, ss, rfl, _⟩ := h
    rfl
  · obtain ⟨z, t, ss, rfl, hT, hz, k⟩ := h
    refine ⟨_, (pss_one (ps_if (pt_not (pt_val (pe_call (ok_is_one_of T) (hr.mono (by decide)) rfl T.g_is_one_of T.F_is_one_of.kp T.b_is_one_of .nil pass0 (pa_cons (pv 0) (pa_cons (pv 1) pa_nil)))))
        (pss_one ps_never)
        pss_nil)), ?_⟩
    refine ⟨_, rfl, _, rfl, z, t, ss, rfl, hT, _, rfl, ifF (by rw [decide_eq_true hz]; rfl) k⟩
theorem ok_LookD_initD (T : Tx K mg) : FnOk P w K mg base CX0 4 T.a_LookD_initD T.fd_LookD_initD ["self", "menu", "marks"] (spLkInit K T.C) := by
  refine T.F_LookD_initD.ok sc_LookD_initD (fun vs H Q E h => ?_) (fun cdv A outer s H vs Q E hr h => ?_)
  · obtain ⟨x, dx, m, ms, sg, rfl, _⟩ := h
    rfl
  · obtain ⟨x, dx, m, ms, sg, rfl, hx, hM, mo, mk, k⟩ := h
    refine ⟨_, (pss_cons (ps_expr (pe_call (ok_check_names_of_menu T) (hr.mono (by decide)) rfl T.g_check_names_of_menu T.F_check_names_of_menu.kp T.b_check_names_of_menu .nil pass0 (pa_cons (pv 1) pa_nil)))
      (pss_cons (ps_if (pt_not (pt_val (pe_call (ok_are_marks T) (hr.mono (by decide)) rfl T.g_are_marks T.F_are_marks.kp T.b_are_marks .nil pass0 (pa_cons (pv 2) (pa_cons (pe_callB call_len_seq (by rfl) T.n_len (by decide +kernel) (pa_cons (pv 1) pa_nil)) pa_nil)))))
        (pss_one ps_never)
        pss_nil)
      (pss_cons (ps_fld (pv 0) (pv 1) rfl)
      (pss_one (ps_fld (pv 0) (pv 2) rfl))))), ?_⟩
    have ml := mo.le
    have sl := (marks_of mk).len
    refine ⟨_, rfl, m, ms, rfl, hM, mo, fun H1 s1 => ?_⟩
    have lm : (ms.map V.str).length = ms.length := List.length_map _
    refine ⟨_, rfl, _, rfl, m, _, rfl, .inr (s1.sqt hM), sg, ms.length, by rw [lm]; rfl, by omega, fun H2 s2 => ?_⟩
    rw [mk]
    have s12 := s1.trans s2
    refine ⟨_, rfl, ifF rfl ?_⟩
    refine ⟨_, rfl, _, rfl, x, T.C, dx, _, rfl, s12 _ _ hx, T.cl, T.no_menu, (by show 0 < 1000; decide), ?_⟩
    have b2 : SameB x H (upd H2 x (.ins T.C dx (putF "menu" (.ref m) []))) := (SameB.of s12).put
    refine ⟨_, rfl, _, rfl, x, T.C, dx, _, rfl, upd_same, T.cl, T.no__marks, (by show 1 < 1000; decide), ?_⟩
    refine k _ b2.put ⟨dx, upd_same, sqt_but b2.put hx hM, mo, mk⟩
theorem ok_Look_marks (T : Tx K mg) : FnOk P w K mg base CX0 1 T.a_Look_marks T.fd_Look_marks ["self"] (spLkMarks K T.C) := by
  refine T.F_Look_marks.ok sc_Look_marks (fun vs H Q E h => ?_) (fun cdv A outer s H vs Q E hr h => ?_)
  · obtain ⟨x, m, ms, sg, rfl, _⟩ := h
    rfl
  · obtain ⟨x, m, ms, sg, rfl, ⟨dx, hx, _⟩, k⟩ := h
    refine ⟨_, (pss_one (ps_ret (pe_fld (pv 0) rfl))), ?_⟩
    exact ⟨_, rfl, x, T.C, dx, _, _, rfl, hx, T.cl, T.no__marks, lk_marks m sg, k⟩
theorem ok_LookD_lenD (T : Tx K mg) : FnOk P w K mg base CX0 1 T.a_LookD_lenD T.fd_LookD_lenD ["self"] (spLkLen K T.C) := by
  refine T.F_LookD_lenD.ok sc_LookD_lenD (fun vs H Q E h => ?_) (fun cdv A outer s H vs Q E hr h => ?_)
  · obtain ⟨x, m, ms, sg, rfl, _⟩ := h
    rfl
  · obtain ⟨x, m, ms, sg, rfl, ⟨dx, hx, hM, _⟩, k⟩ := h
    refine ⟨_, (pss_one (ps_ret (pe_callB call_len_seq (by rfl) T.n_len (by decide +kernel) (pa_cons (pe_fld (pv 0) rfl) pa_nil)))), ?_⟩
    refine ⟨_, rfl, x, T.C, dx, _, _, rfl, hx, T.cl, T.no_menu, lk_menu m sg, m, _, rfl, .inr hM, ?_⟩
    rw [List.length_map]
    exact k
theorem ok_LookD_getitemD (T : Tx K mg) : FnOk P w K mg base CX0 4 T.a_LookD_getitemD T.fd_LookD_getitemD ["self", "at"] (spLkGet K T.C) := by
  refine T.F_LookD_getitemD.ok sc_LookD_getitemD (fun vs H Q E h => ?_) (fun cdv A outer s H vs Q E hr h => ?_)
  · obtain ⟨x, m, ms, sg, z, j, rfl, _⟩ := h
    rfl
  · obtain ⟨x, m, ms, sg, z, j, rfl, la, hj, k⟩ := h
    have mo := la.mo
    have ln := la.len
    have ml := mo.le
    obtain ⟨dx, hx, hM, _⟩ := la
    refine ⟨_, (pss_cons (ps_expr (pe_call (ok_check_thing T) (hr.mono (by decide)) rfl T.g_check_thing T.F_check_thing.kp T.b_check_thing .nil pass0 (pa_cons (pv 1) (pa_cons (pe_fld (pv 0) rfl) pa_nil))))
      (pss_one (ps_ret (pe_ix ix_str (pe_fld (pv 0) rfl) (pe_call (ok_index_of T) (hr.mono (by decide)) rfl T.g_index_of T.F_index_of.kp T.b_index_of .nil pass0 (pa_cons (pv 1) (pa_cons (pe_fld (pv 0) rfl) pa_nil))) (fun _ _ => rfl))))), ?_⟩
    have hj2 := (List.getElem?_eq_some_iff.mp hj).1
    refine ⟨_, rfl, _, rfl, x, T.C, dx, _, _, rfl, hx, T.cl, T.no_menu, lk_menu m sg, z, m, ms, rfl, hM, List.mem_of_getElem? hj, ?_⟩
    refine ⟨_, rfl, x, T.C, dx, _, _, rfl, hx, T.cl, T.no__marks, lk_marks m sg, _, rfl, _, rfl, x, T.C, dx, _, _, rfl, hx, T.cl, T.no_menu, lk_menu m sg, z, m, ms, j, rfl, hM, hj, mo.nd, by omega, fun H1 s1 => ?_⟩
    have g : sg.cps.toList[j]? = some (sg.cps.toList.getD j 0) := by
      rw [List.getD_eq_getElem?_getD, List.getElem?_eq_getElem (by omega)]
      rfl
    exact ⟨sg, (j : Int), _, rfl, rfl, le_line (by rw [len_cps]; omega), atI_nat g, k H1 s1⟩
end
end MH
namespace MH
open PySem PySem.Spec PyProof.Rows L2
/-! ### what looks tell -/
theorem empty_app (z : Str) : Str.empty ++ z = z := by
  have e : (Str.empty ++ z).cps = z.cps := by
    show (#[] ++ z.cps : Array Nat) = z.cps
    exact Array.empty_append
  cases z
  cases h : Str.empty ++ _
  rw [h] at e
  simp only at e
  rw [e]
theorem dec_sgn (c d : Nat) : decide (V.str (⟨#[c]⟩ : Str) = V.str (sgn d)) = decide (c = d) := by
  rw [decide_eq_decide]
  constructor
  · intro e
    exact sgn_inj (V.str.inj e)
  · rintro rfl
    rfl
theorem plus_sgn : ("+" : Str) = sgn 43 := by decide +kernel
theorem dash_sgn : ("-" : Str) = sgn 45 := by decide +kernel
theorem ask_sgn : ("?" : Str) = sgn 63 := by decide +kernel
theorem sg_get {sg : Str} {i n : Nat} (h : sg.cps.toList.length = n) (hi : i < n) : sg.cps[i]? = some (sg.cps.toList.getD i 0) := by
  rw [← Array.getElem?_toList, List.getD_eq_getElem?_getD, List.getElem?_eq_getElem (by omega)]
  rfl
theorem ms_get {ms : List Str} {i : Nat} (hi : i < ms.length) : (ms.map V.str)[i]? = some (.str (ms.getD i "")) := by
  rw [List.getElem?_map, List.getD_eq_getElem?_getD, List.getElem?_eq_getElem hi]
  rfl
section
variable {P : Program} {w : World} {K : PySem.W.Frag} {mg : Str → Option Value} {base : Heap}
theorem ok_Look_taken (T : Tx K mg) : FnOk P w K mg base CX0 1 T.a_Look_taken T.fd_Look_taken ["self"] (spLkWith K T.C 43) := by
  refine T.F_Look_taken.ok sc_Look_taken (fun vs H Q E h => ?_) (fun cdv A outer s H vs Q E hr h => ?_)
  · obtain ⟨x, m, ms, sg, rfl, _⟩ := h
    rfl
  · obtain ⟨x, m, ms, sg, rfl, la, k⟩ := h
    have ln := la.len
    have ml := la.mo.le
    obtain ⟨dx, hx, hM, _⟩ := la
    refine ⟨_, (pss_one (ps_ret (pe_callTy call_tupF (by rfl) T.n_tuple (by decide +kernel) (pa_cons (pe_lc (own := [("thing", 1), ("mark", 2)]) (g := gTup K 2 (gCons (gName 1) (gCons (gName 2) gNil))) (tt := _) rfl sc_Look_taken.nd (pi_zipTS (by rfl) T.n_zip (pa_cons (pe_fld (pv 0) rfl) (pa_cons (pe_fld (pv 0) rfl) pa_nil))) (blkOk_by (own := [("thing", 1), ("mark", 2)]) (N := names_Look_taken) (sc := defScope st_Look_taken) (by decide +kernel)) (fun _ _ _ _ _ => pg_tup rfl (pgs_cons (pg_name (i := 1) sc_Look_taken.nd rfl (Or.inl rfl)) (pgs_cons (pg_name (i := 2) sc_Look_taken.nd rfl (Or.inl rfl)) pgs_nil))) (fun _ _ _ _ _ => pts_one (pt_cmpR op_eq (pv 2) pe_str (nomark _))) (fun _ _ _ _ _ => (pv 1))) pa_nil)))), ?_⟩
    have lm : (ms.map V.str).length = ms.length := List.length_map _
    have sz : sg.cps.size = ms.length := by rw [← Array.length_toList]; exact ln
    refine ⟨_, rfl, x, T.C, dx, _, _, rfl, hx, T.cl, T.no_menu, lk_menu m sg, _, rfl, x, T.C, dx, _, _, rfl, hx, T.cl, T.no__marks, lk_marks m sg, m, sg, _, rfl, hM, fun D nD => lcf (walk_zipTS (n := ms.length) (by rw [lm, sz, Nat.min_self])) (List.range ms.length) (fun i => V.str (ms.getD i "")) (fun i => decide (sg.cps.toList.getD i 0 = 43)) List.length_range nD (by omega) (fun H' s => s.sqt hM) (fun _ _ _ _ _ y => ypair_same y) (fun i u y H1 H2 hu s1 yy Z N hZ hN => ?_) (fun H1 s1 e1 => ?_)⟩
    · obtain ⟨q, y1, y2, rfl, nq, rfl, e1, e2⟩ := yy
      obtain ⟨hi, rfl⟩ : i < ms.length ∧ i = u := by
        obtain ⟨h, e⟩ := List.getElem?_eq_some_iff.mp hu
        rw [List.getElem_range] at e
        rw [List.length_range] at h
        exact ⟨h, e⟩
      have e1 : (ms.map V.str)[i]? = some y1 := e1
      have e2 : (sg.cps[i]?).map (fun c => V.str ⟨#[c]⟩) = some y2 := e2
      rw [ms_get hi] at e1
      rw [sg_get ln hi] at e2
      obtain rfl := Option.some.inj e1
      obtain rfl := Option.some.inj e2
      have sq := Same.new nq (o := .tup [.str (ms.getD i ""), .str ⟨#[sg.cps.toList.getD i 0]⟩])
      refine ⟨q, _, rfl, tup_of upd_same, rfl, _, _, rfl, _, _, rfl, rfl, rfl, _, rfl, rfl, _, rfl, ?_⟩
      rw [plus_sgn, dec_sgn]
      refine ite2 (fun c => ?_) (fun c => ?_)
      · exact ⟨_, rfl, hZ c _ (Same.refl _)⟩
      · exact hN (by simpa using c) _ (Same.refl _)
    · refine ⟨D, _, rfl, .inl ⟨lst_of e1, fun a oa na oda => k a _ (s1.new' na) ?_⟩⟩
      unfold withM
      rw [List.map_map]
      exact frz_of upd_same
theorem ok_Look_passed (T : Tx K mg) : FnOk P w K mg base CX0 1 T.a_Look_passed T.fd_Look_passed ["self"] (spLkWith K T.C 45) := by
  refine T.F_Look_passed.ok sc_Look_passed (fun vs H Q E h => ?_) (fun cdv A outer s H vs Q E hr h => ?_)
  · obtain ⟨x, m, ms, sg, rfl, _⟩ := h
    rfl
  · obtain ⟨x, m, ms, sg, rfl, la, k⟩ := h
    have ln := la.len
    have ml := la.mo.le
    obtain ⟨dx, hx, hM, _⟩ := la
    refine ⟨_, (pss_one (ps_ret (pe_callTy call_tupF (by rfl) T.n_tuple (by decide +kernel) (pa_cons (pe_lc (own := [("thing", 1), ("mark", 2)]) (g := gTup K 2 (gCons (gName 1) (gCons (gName 2) gNil))) (tt := _) rfl sc_Look_passed.nd (pi_zipTS (by rfl) T.n_zip (pa_cons (pe_fld (pv 0) rfl) (pa_cons (pe_fld (pv 0) rfl) pa_nil))) (blkOk_by (own := [("thing", 1), ("mark", 2)]) (N := names_Look_passed) (sc := defScope st_Look_passed) (by decide +kernel)) (fun _ _ _ _ _ => pg_tup rfl (pgs_cons (pg_name (i := 1) sc_Look_passed.nd rfl (Or.inl rfl)) (pgs_cons (pg_name (i := 2) sc_Look_passed.nd rfl (Or.inl rfl)) pgs_nil))) (fun _ _ _ _ _ => pts_one (pt_cmpR op_eq (pv 2) pe_str (nomark _))) (fun _ _ _ _ _ => (pv 1))) pa_nil)))), ?_⟩
    have lm : (ms.map V.str).length = ms.length := List.length_map _
    have sz : sg.cps.size = ms.length := by rw [← Array.length_toList]; exact ln
    refine ⟨_, rfl, x, T.C, dx, _, _, rfl, hx, T.cl, T.no_menu, lk_menu m sg, _, rfl, x, T.C, dx, _, _, rfl, hx, T.cl, T.no__marks, lk_marks m sg, m, sg, _, rfl, hM, fun D nD => lcf (walk_zipTS (n := ms.length) (by rw [lm, sz, Nat.min_self])) (List.range ms.length) (fun i => V.str (ms.getD i "")) (fun i => decide (sg.cps.toList.getD i 0 = 45)) List.length_range nD (by omega) (fun H' s => s.sqt hM) (fun _ _ _ _ _ y => ypair_same y) (fun i u y H1 H2 hu s1 yy Z N hZ hN => ?_) (fun H1 s1 e1 => ?_)⟩
    · obtain ⟨q, y1, y2, rfl, nq, rfl, e1, e2⟩ := yy
      obtain ⟨hi, rfl⟩ : i < ms.length ∧ i = u := by
        obtain ⟨h, e⟩ := List.getElem?_eq_some_iff.mp hu
        rw [List.getElem_range] at e
        rw [List.length_range] at h
        exact ⟨h, e⟩
      have e1 : (ms.map V.str)[i]? = some y1 := e1
      have e2 : (sg.cps[i]?).map (fun c => V.str ⟨#[c]⟩) = some y2 := e2
      rw [ms_get hi] at e1
      rw [sg_get ln hi] at e2
      obtain rfl := Option.some.inj e1
      obtain rfl := Option.some.inj e2
      have sq := Same.new nq (o := .tup [.str (ms.getD i ""), .str ⟨#[sg.cps.toList.getD i 0]⟩])
      refine ⟨q, _, rfl, tup_of upd_same, rfl, _, _, rfl, _, _, rfl, rfl, rfl, _, rfl, rfl, _, rfl, ?_⟩
      rw [dash_sgn, dec_sgn]
      refine ite2 (fun c => ?_) (fun c => ?_)
      · exact ⟨_, rfl, hZ c _ (Same.refl _)⟩
      · exact hN (by simpa using c) _ (Same.refl _)
    · refine ⟨D, _, rfl, .inl ⟨lst_of e1, fun a oa na oda => k a _ (s1.new' na) ?_⟩⟩
      unfold withM
      rw [List.map_map]
      exact frz_of upd_same
theorem ok_LookD_strD (T : Tx K mg) : FnOk P w K mg base CX0 1 T.a_LookD_strD T.fd_LookD_strD ["self"] (spLkStr K T.C) := by
  refine T.F_LookD_strD.ok sc_LookD_strD (fun vs H Q E h => ?_) (fun cdv A outer s H vs Q E hr h => ?_)
  · obtain ⟨x, m, ms, sg, rfl, _⟩ := h
    rfl
  · obtain ⟨x, m, ms, sg, rfl, la, k⟩ := h
    have ln := la.len
    have mo := la.mo
    have ml := mo.le
    obtain ⟨dx, hx, hM, _⟩ := la
    refine ⟨_, (pss_one (ps_ret (pe_join pe_str (pe_lc (own := [("thing", 1), ("mark", 2)]) (g := gTup K 2 (gCons (gName 1) (gCons (gName 2) gNil))) (tt := tYes) rfl sc_LookD_strD.nd (pi_zipTS (by rfl) T.n_zip (pa_cons (pe_fld (pv 0) rfl) (pa_cons (pe_fld (pv 0) rfl) pa_nil))) (blkOk_by (own := [("thing", 1), ("mark", 2)]) (N := names_LookD_strD) (sc := defScope st_LookD_strD) (by decide +kernel)) (fun _ _ _ _ _ => pg_tup rfl (pgs_cons (pg_name (i := 1) sc_LookD_strD.nd rfl (Or.inl rfl)) (pgs_cons (pg_name (i := 2) sc_LookD_strD.nd rfl (Or.inl rfl)) pgs_nil))) (fun _ _ _ _ _ => pts_nil) (fun _ _ _ _ _ => (pe_joinedF (PJ.cons (pe_fmt (pv 1)) (PJ.cons (pe_fmt (pv 2)) PJ.nil)))))))), ?_⟩
    have lm : (ms.map V.str).length = ms.length := List.length_map _
    have sz : sg.cps.size = ms.length := by rw [← Array.length_toList]; exact ln
    refine ⟨⟨_, rfl⟩, _, rfl, x, T.C, dx, _, _, rfl, hx, T.cl, T.no_menu, lk_menu m sg, _, rfl, x, T.C, dx, _, _, rfl, hx, T.cl, T.no__marks, lk_marks m sg, m, sg, _, rfl, hM, fun D nD => lcv (walk_zipTS (n := ms.length) (by rw [lm, sz, Nat.min_self])) (List.range ms.length) (fun i => V.str (markAt ms sg i)) List.length_range nD (by omega) (fun H' s => s.sqt hM) (fun _ _ _ _ _ y => ypair_same y) (fun i u y H1 H2 hu s1 yy Z hZ => ?_) (fun H1 s1 e1 => ?_)⟩
    · obtain ⟨q, y1, y2, rfl, nq, rfl, e1, e2⟩ := yy
      obtain ⟨hi, rfl⟩ : i < ms.length ∧ i = u := by
        obtain ⟨h, e⟩ := List.getElem?_eq_some_iff.mp hu
        rw [List.getElem_range] at e
        rw [List.length_range] at h
        exact ⟨h, e⟩
      have e1 : (ms.map V.str)[i]? = some y1 := e1
      have e2 : (sg.cps[i]?).map (fun c => V.str ⟨#[c]⟩) = some y2 := e2
      rw [ms_get hi] at e1
      rw [sg_get ln hi] at e2
      obtain rfl := Option.some.inj e1
      obtain rfl := Option.some.inj e2
      have sq := Same.new nq (o := .tup [.str (ms.getD i ""), .str ⟨#[sg.cps.toList.getD i 0]⟩])
      have hz : (ms.getD i "").length ≤ 8 := by
        rw [List.getD_eq_getElem?_getD, List.getElem?_eq_getElem hi]
        exact nameOk_len (mo.ok _ (List.getElem_mem hi))
      refine ⟨q, _, rfl, tup_of upd_same, rfl, _, _, rfl, _, _, rfl, rfl, rfl, ?_⟩
      have es : (Str.empty ++ ms.getD i "") ++ (⟨#[sg.cps.toList.getD i 0]⟩ : Str) = markAt ms sg i := by rw [empty_app]; rfl
      have l1 : (markAt ms sg i).length ≤ 9 := by
        unfold markAt
        rw [len_app1]
        omega
      refine ⟨_, rfl, .inl ⟨_, rfl, le_line (by omega), _, rfl, le_line (by rw [empty_app]; omega), _, rfl, .inl ⟨_, rfl, le_line (by rw [one_len]; omega), _, rfl, le_line (by rw [es]; omega), ?_⟩⟩⟩
      show Z (.str ((Str.empty ++ ms.getD i "") ++ (⟨#[sg.cps.toList.getD i 0]⟩ : Str))) _
      rw [es]
      exact hZ _ (Same.refl _)
    · have e2 : (List.range ms.length).map (fun i => V.str (markAt ms sg i)) = ((List.range ms.length).map (markAt ms sg)).map V.str := by
        rw [List.map_map]
        rfl
      rw [e2] at e1
      refine ⟨_, D, _, rfl, rfl, .inl (lst_of e1), ?_, k H1 s1⟩
      have q := sum_le (n := 9) ((List.range ms.length).map (markAt ms sg)) fun z hz => by
        obtain ⟨i, hi, rfl⟩ := List.mem_map.mp hz
        have hi := List.mem_range.mp hi
        unfold markAt
        rw [len_app1, List.getD_eq_getElem?_getD, List.getElem?_eq_getElem hi]
        have := nameOk_len (mo.ok _ (List.getElem_mem hi))
        show (ms[i]).length + 1 ≤ 9
        omega
      rw [List.length_map, List.length_range] at q ⊢
      have e1 : (" " : Str).length = 1 := by decide +kernel
      rw [e1]
      omega
end
end MH
namespace MH
open PySem PySem.Spec PyProof.Rows L2
/-! ### looks: shown, compared, made -/
def spLkRepr (K : PySem.W.Frag) (C : Addr) : Sp := fun vs H Q _ => ∃ (x m : Addr) (ms : List Str) (sg : Str), vs = [.ref x] ∧ LkAt K C H x m ms sg ∧ ∀ H', Same H H' → Q (.str (("Look " : Str) ++ lineOf ms sg)) H'
def spLkEq (K : PySem.W.Frag) (C : Addr) : Sp := fun vs H Q _ => ∃ (a m : Addr) (v : V) (ms : List Str) (sg : Str) (r : Bool), vs = [.ref a, v] ∧ LkAt K C H a m ms sg ∧
  ((∃ (b n : Addr) (ms2 : List Str) (sg2 : Str), v = .ref b ∧ LkAt K C H b n ms2 sg2 ∧ r = (decide (ms = ms2) && decide (sg = sg2))) ∨ ∃ U, TyX K H v U ∧ PySem.W.kitOne K U (.ref C) = some false ∧ r = false) ∧ Q (.bl r) H
def spCheckTk (K : PySem.W.Frag) : Sp := fun vs H Q _ => ∃ (a m : Addr) (ts ms : List Str), vs = [.ref a, .ref m] ∧ SqT K H a (ts.map V.str) ∧ SqT K H m (ms.map V.str) ∧ ts ≠ [] ∧ ts.length ≤ 1000 ∧ (∀ z ∈ ts, z ∈ ms) ∧ ts.Pairwise ltS ∧ ∀ H', Same H H' → Q .non H'
/-- the marks of the look by which just these things are taken -/
def justM (ms ts : List Str) : Str := ⟨(ms.map fun z => if z ∈ ts then 43 else 45).toArray⟩
def spJust (K : PySem.W.Frag) (C : Addr) : Sp := fun vs H Q _ => ∃ (m a : Addr) (ms ts : List Str), vs = [.ref m, .ref a] ∧ SqT K H m (ms.map V.str) ∧ SqT K H a (ts.map V.str) ∧ MenuN ms ∧ ts ≠ [] ∧ ts.length ≤ 1000 ∧ (∀ z ∈ ts, z ∈ ms) ∧ ts.Pairwise ltS ∧ ∀ x H', Same H H' → LkAt K C H' x m ms (justM ms ts) → Q (.ref x) H'
theorem just_ok {ms ts : List Str} (hne : ts ≠ []) (hin : ∀ z ∈ ts, z ∈ ms) : marksB (justM ms ts) ms.length = true := by
  refine marks_ok (cs := ms.map fun z => if z ∈ ts then 43 else 45) ⟨List.length_map _, fun c hc => ?_, ?_⟩
  · obtain ⟨z, _, rfl⟩ := List.mem_map.mp hc
    split
    · exact .inl rfl
    · exact .inr (.inl rfl)
  · obtain ⟨z, hz⟩ := List.exists_mem_of_ne_nil _ hne
    exact ⟨43, List.mem_map.mpr ⟨z, hin z hz, if_pos hz⟩, by decide⟩
theorem lk_made {K : PySem.W.Frag} {C : Addr} {H : Hp} {y dy m : Addr} {ms : List Str} {sg : Str} {Z : Hp → Prop} (hM : SqT K H m (ms.map V.str)) (mo : MenuN ms) (mk : marksB sg ms.length = true) (ny : H y = none) (ndy : H dy = none) (hne : dy ≠ y)
    (k : ∀ H', Same H H' → LkAt K C H' y m ms sg → Z H') : spLkInit K C [.ref y, .ref m, .str sg] (upd (upd H dy (.own y)) y (.ins C dy [])) (fun v H2 => v = .non ∧ Z H2) E0 := by
  have s2 : Same H (upd (upd H dy (.own y)) y (.ins C dy [])) := (Same.new ndy).new' (by rw [upd_ne hne.symm]; exact ny)
  exact ⟨y, dy, m, ms, sg, rfl, upd_same, s2.sqt hM, mo, mk, fun H6 s6 la => ⟨rfl, k H6 (fun b o h => s6 b o (ne_of_none h ny) (s2 _ _ h)) la⟩⟩
section
variable {P : Program} {w : World} {K : PySem.W.Frag} {mg : Str → Option Value} {base : Heap}
theorem line_le {ms : List Str} {sg : Str} (mo : MenuN ms) : (lineOf ms sg).length ≤ 200 := by
  have e : lineOf ms sg = Str.join " " ((List.range ms.length).map (markAt ms sg)) := TL.join_eq " " _
  have a := PySem.StrLaws.join_length_le " " ((List.range ms.length).map (markAt ms sg))
  have q := sum_le (n := 9) ((List.range ms.length).map (markAt ms sg)) fun z hz => by
    obtain ⟨i, hi, rfl⟩ := List.mem_map.mp hz
    have hi := List.mem_range.mp hi
    unfold markAt
    rw [len_app1, List.getD_eq_getElem?_getD, List.getElem?_eq_getElem hi]
    have := nameOk_len (mo.ok _ (List.getElem_mem hi))
    show (ms[i]).length + 1 ≤ 9
    omega
  have le := mo.le
  rw [List.length_map, List.length_range] at q a
  have e1 : (" " : Str).length = 1 := by decide +kernel
  rw [e1] at a
  rw [e]
  omega
theorem ok_LookD_reprD (T : Tx K mg) : FnOk P w K mg base CX0 3 T.a_LookD_reprD T.fd_LookD_reprD ["self"] (spLkRepr K T.C) := by
  refine T.F_LookD_reprD.ok sc_LookD_reprD (fun vs H Q E h => ?_) (fun cdv A outer s H vs Q E hr h => ?_)
  · obtain ⟨x, m, ms, sg, rfl, _⟩ := h
    rfl
  · obtain ⟨x, m, ms, sg, rfl, la, k⟩ := h
    have mo := la.mo
    obtain ⟨dx, hx, _⟩ := id la
    refine ⟨_, (pss_one (ps_ret (pe_joined (PJ.cons pe_str (PJ.cons (pe_fmtO T.m_LookD_strD T.fm T.ob (ok_LookD_strD T) (hr.mono (by decide)) T.b_LookD_strD pass0 (pv 0)) PJ.nil))))), ?_⟩
    have ll := line_le (sg := sg) mo
    have e5 : (Str.empty ++ ("Look " : Str)).length = 5 := by decide +kernel
    refine ⟨_, rfl, by decide, _, rfl, x, dx, _, rfl, hx, x, m, ms, sg, rfl, la, fun H1 s1 => ⟨⟨_, rfl⟩, _, rfl, ?_, ?_⟩⟩
    · rw [strLen_append, e5]
      exact le_line (by omega)
    · show Q (.str ((Str.empty ++ ("Look " : Str)) ++ lineOf ms sg)) H1
      rw [empty_app]
      exact k H1 s1
theorem ok_LookD_eqD (T : Tx K mg) : FnOk P w K mg base CX0 1 T.a_LookD_eqD T.fd_LookD_eqD ["self", "other"] (spLkEq K T.C) := by
  refine T.F_LookD_eqD.ok sc_LookD_eqD (fun vs H Q E h => ?_) (fun cdv A outer s H vs Q E hr h => ?_)
  · obtain ⟨a, m, v, ms, sg, r, rfl, _⟩ := h
    rfl
  · obtain ⟨a, m, v, ms, sg, r, rfl, la, h, k⟩ := h
    refine ⟨_, (pss_one (ps_ret (pe_and (pe_callB call_isi (by rfl) T.n_isinstance (by decide +kernel) (pa_cons (pv 1) (pa_cons (pe_glob (v := .ref T.C) rfl T.g_Look rfl) pa_nil))) (pe_and (pe_cmpR (op_eqD hr.units) (pe_fld (pv 0) rfl) (pe_fld (pv 1) rfl) (nomark _)) (pe_one (pe_cmpR op_eq (pe_fld (pv 0) rfl) (pe_fld (pv 1) rfl) (nomark _))))))), ?_⟩
    rcases h with ⟨b, n, ms2, sg2, rfl, lb, rfl⟩ | ⟨U, ty, kt, rfl⟩
    · have mo := la.mo
      have mo2 := lb.mo
      obtain ⟨dx, hx, hM, _⟩ := la
      obtain ⟨dy, hy, hM2, _⟩ := lb
      refine ⟨_, rfl, _, _, _, _, true, rfl, .own _, T.ty hy, by unfold PySem.W.kitOne; rw [if_pos (beq_self_eq_true _)], true, rfl, iteT ?_⟩
      refine ⟨_, rfl, a, T.C, dx, _, _, rfl, hx, T.cl, T.no_menu, lk_menu m sg, _, rfl, b, T.C, dy, _, _, rfl, hy, T.cl, T.no_menu, lk_menu n sg2, eqT_of hM hM2 mo.ok mo2.ok ?_⟩
      refine ⟨_, rfl, ite2 (fun c => ?_) (fun c => ?_)⟩
      · rw [c, Bool.true_and] at k
        refine ⟨_, rfl, a, T.C, dx, _, _, rfl, hx, T.cl, T.no__marks, lk_marks m sg, _, rfl, b, T.C, dy, _, _, rfl, hy, T.cl, T.no__marks, lk_marks n sg2, rfl, ?_⟩
        have e : decide (V.str sg = V.str sg2) = decide (sg = sg2) := by simp
        show Q (.bl (decide (V.str sg = V.str sg2))) H
        rw [e]
        exact k
      · rw [Bool.eq_false_iff.mpr c, Bool.false_and] at k
        exact k
    · exact ⟨_, rfl, _, _, _, _, false, rfl, .own _, ty, kt, false, rfl, iteF k⟩
theorem okX_LookD_eqD (T : Tx K mg) : FnOk P w K mg base CX0 1 T.a_LookD_eqD T.fd_LookD_eqD ["self", "other"] (spLkEq K T.C) := ok_LookD_eqD T
theorem ok_check_taken (T : Tx K mg) : FnOk P w K mg base CX0 3 T.a_check_taken T.fd_check_taken ["taken", "menu"] (spCheckTk K) := by
  refine T.F_check_taken.ok sc_check_taken (fun vs H Q E h => ?_) (fun cdv A outer s H vs Q E hr h => ?_)
  · obtain ⟨a, m, ts, ms, rfl, _⟩ := h
    rfl
  · obtain ⟨a, m, ts, ms, rfl, ha, hM, ne, hl, hin, up, k⟩ := h
    refine ⟨_, (pss_cons (ps_if (pt_not (pt_val (pe_call (ok_is_filled_tuple T) (hr.mono (by decide)) rfl T.g_is_filled_tuple T.F_is_filled_tuple.kp T.b_is_filled_tuple .nil pass0 (pa_cons (pv 0) pa_nil))))
        (pss_one ps_never)
        pss_nil)
      (pss_cons (ps_set (i := 2) sc_check_taken.nd rfl (Or.inl rfl) (pe_call (ok_first_wrong_on_menu T) (hr.mono (by decide)) rfl T.g_first_wrong_on_menu T.F_first_wrong_on_menu.kp T.b_first_wrong_on_menu .nil pass0 (pa_cons (pv 0) (pa_cons (pv 1) pa_nil))))
      (pss_one (ps_if (pt_cmpR op_notN (pv 2) pe_non (nomark _))
        (pss_one ps_never)
        pss_nil)))), ?_⟩
    refine ⟨_, rfl, a, _, rfl, ha, _, rfl, ifF (by rw [pos_of_ne ne]; rfl) ?_⟩
    refine ⟨_, rfl, _, rfl, a, m, ts, ms, rfl, ha, hM, hl, hin, up, fun H1 s1 => ?_⟩
    exact ⟨_, rfl, rfl, _, rfl, iteF (k H1 s1)⟩
theorem ok_look_at_just (T : Tx K mg) : FnOk P w K mg base CX0 6 T.a_look_at_just T.fd_look_at_just ["menu", "taken"] (spJust K T.C) := by
  refine T.F_look_at_just.ok sc_look_at_just (fun vs H Q E h => ?_) (fun cdv A outer s H vs Q E hr h => ?_)
  · obtain ⟨m, a, ms, ts, rfl, _⟩ := h
    rfl
  · obtain ⟨m, a, ms, ts, rfl, hM, ha, mo, ne, hl, hin, up, k⟩ := h
    refine ⟨_, (pss_one (ps_ret (pe_make T.mkc (ok_LookD_initD T) (hr.mono (by decide)) rfl T.g_Look T.b_LookD_initD .nil pass0 (pa_cons (pv 0) (pa_cons (pe_join pe_str (pe_lc (own := [("thing", 2)]) (g := gName 2) (tt := tYes) rfl sc_look_at_just.nd (pi_tup (pv 0)) (blkOk_by (own := [("thing", 2)]) (N := names_look_at_just) (sc := defScope st_look_at_just) (by decide +kernel)) (fun _ _ _ _ _ => pg_name (i := 2) sc_look_at_just.nd rfl (Or.inl rfl)) (fun _ _ _ _ _ => pts_nil) (fun _ _ _ _ _ => (pe_ifExp (pt_cmpR (r := rIn K false) op_in_seq (pv 2) (pv 1) (by rfl)) pe_str pe_str)))) pa_nil))))), ?_⟩
    have ml := mo.le
    refine ⟨_, rfl, ⟨_, rfl⟩, _, rfl, m, rfl, ⟨_, hM⟩, fun D nD => lcv walk_tup ms (fun z => V.str (sgn (if z ∈ ts then 43 else 45))) (List.length_map _).symm nD (by rw [List.length_map]; omega) (fun H' s => s.sqt hM) (fun _ _ _ _ _ y => yat_same y) (fun i u y H1 H2 hu s1 yy Z hZ => ?_) (fun H1 s1 e1 => ?_)⟩
    · obtain ⟨rfl, hx⟩ := yy
      obtain ⟨z, hz', rfl⟩ := str_at hx
      obtain rfl : z = u := Option.some.inj (hz'.symm.trans hu)
      refine ⟨rfl, _, rfl, _, rfl, a, _, rfl, .inr (s1.sqt ha), rfl, flat_strs _, _, rfl, ite2 (fun c => ?_) (fun c => ?_)⟩
      · have c : inV (.str z) (ts.map V.str) = true := c
        rw [inV_strs] at c
        rw [if_pos (of_decide_eq_true c), ← plus_sgn] at hZ
        exact hZ _ (Same.refl _)
      · have c : ¬ inV (.str z) (ts.map V.str) = true := c
        rw [inV_strs] at c
        rw [if_neg (by simpa using c), ← dash_sgn] at hZ
        exact hZ _ (Same.refl _)
    · have e2 : ms.map (fun z => V.str (sgn (if z ∈ ts then 43 else 45))) = ((ms.map fun z => if z ∈ ts then 43 else 45).map sgn).map V.str := by
        rw [List.map_map, List.map_map]
        rfl
      rw [e2] at e1
      refine ⟨_, D, _, rfl, rfl, .inl (lst_of e1), ?_, ?_⟩
      · rw [sum_sgn, List.length_map, List.length_map]
        have e1 : ("" : Str).length = 0 := by decide +kernel
        rw [e1]
        omega
      · rw [join_sgn]
        exact fun y dy ny ndy hne => lk_made (s1.sqt hM) mo (just_ok ne hin) ny ndy hne fun H2 s2 la => k y H2 (s1.trans s2) la
theorem ok_Look_just (T : Tx K mg) : FnOk P w K mg base CX0 7 T.a_Look_just T.fd_Look_just ["menu", "taken"] (spJust K T.C) := by
  refine T.F_Look_just.ok sc_Look_just (fun vs H Q E h => ?_) (fun cdv A outer s H vs Q E hr h => ?_)
  · obtain ⟨m, a, ms, ts, rfl, _⟩ := h
    rfl
  · obtain ⟨m, a, ms, ts, rfl, hM, ha, mo, ne, hl, hin, up, k⟩ := h
    refine ⟨_, (pss_cons (ps_expr (pe_call (ok_check_names_of_menu T) (hr.mono (by decide)) rfl T.g_check_names_of_menu T.F_check_names_of_menu.kp T.b_check_names_of_menu .nil pass0 (pa_cons (pv 0) pa_nil)))
      (pss_cons (ps_expr (pe_call (ok_check_taken T) (hr.mono (by decide)) rfl T.g_check_taken T.F_check_taken.kp T.b_check_taken .nil pass0 (pa_cons (pv 1) (pa_cons (pv 0) pa_nil))))
      (pss_one (ps_ret (pe_call (ok_look_at_just T) (hr.mono (by decide)) rfl T.g_look_at_just T.F_look_at_just.kp T.b_look_at_just .nil pass0 (pa_cons (pv 0) (pa_cons (pv 1) pa_nil))))))), ?_⟩
    refine ⟨_, rfl, m, ms, rfl, hM, mo, fun H1 s1 => ?_⟩
    refine ⟨_, rfl, _, rfl, a, m, ts, ms, rfl, s1.sqt ha, s1.sqt hM, ne, hl, hin, up, fun H2 s2 => ?_⟩
    have s12 := s1.trans s2
    exact ⟨_, rfl, _, rfl, m, a, ms, ts, rfl, s12.sqt hM, s12.sqt ha, mo, ne, hl, hin, up, fun x H3 s3 la => k x H3 (s12.trans s3) la⟩
end
end MH
namespace MH
open PySem PySem.Spec PyProof.Rows L2
/-! ### looks of texts -/
def spLkRead (K : PySem.W.Frag) (C : Addr) : Sp := fun vs H Q _ => ∃ (ms : List Str) (sg : Str), vs = [.ref C, .str (lineOf ms sg)] ∧ MenuN ms ∧ marksB sg ms.length = true ∧ ∀ x m H', Same H H' → LkAt K C H' x m ms sg → Q (.ref x) H'
theorem tl_app1 (z : Str) (c : Nat) : (z ++ (⟨#[c]⟩ : Str)).cps.toList = z.cps.toList ++ [c] := cps_app z ⟨#[c]⟩
theorem cut_init (z : Str) (c : Nat) : cutS (z ++ (⟨#[c]⟩ : Str)) none (some (-1)) = z := by
  unfold cutS
  have l := len_app1 z c
  rw [tl_app1, l]
  have e1 : HT.sIx (z.length + 1) 0 none = 0 := rfl
  have e2 : HT.sIx (z.length + 1) (z.length + 1) (some (-1)) = z.length := by
    unfold HT.sIx
    simp only
    rw [if_pos (by decide)]
    omega
  rw [e1, e2, List.drop_zero, Nat.sub_zero, len_cps, List.take_left]
theorem cut_last (z : Str) (c : Nat) : cutS (z ++ (⟨#[c]⟩ : Str)) (some (-1)) none = ⟨#[c]⟩ := by
  unfold cutS
  have l := len_app1 z c
  rw [tl_app1, l]
  have e1 : HT.sIx (z.length + 1) (z.length + 1) none = z.length + 1 := rfl
  have e2 : HT.sIx (z.length + 1) 0 (some (-1)) = z.length := by
    unfold HT.sIx
    simp only
    rw [if_pos (by decide)]
    omega
  rw [e1, e2, len_cps, List.drop_left, show z.cps.toList.length + 1 - z.cps.toList.length = 1 by omega]
  rfl
theorem no_blank_mark {ms : List Str} {sg : Str} (mo : MenuN ms) (mk : marksB sg ms.length = true) : ∀ z ∈ (List.range ms.length).map (markAt ms sg), (32 : Nat) ∉ TL.tl z := fun z hz => by
  obtain ⟨i, hi, rfl⟩ := List.mem_map.mp hz
  have hi := List.mem_range.mp hi
  have mk := marks_of mk
  have l := mk.len
  unfold markAt
  intro h
  have h : (32 : Nat) ∈ (ms.getD i "" ++ (⟨#[sg.cps.toList.getD i 0]⟩ : Str)).cps.toList := h
  rw [tl_app1, List.mem_append] at h
  rcases h with h | h
  · have e : ms.getD i "" = ms[i] := by
      rw [List.getD_eq_getElem?_getD, List.getElem?_eq_getElem hi]
      rfl
    rw [e] at h
    exact no_blank (mo.ok _ (List.getElem_mem hi)) h
  · have e : sg.cps.toList.getD i 0 = sg.cps.toList[i]'(by omega) := by
      rw [List.getD_eq_getElem?_getD, List.getElem?_eq_getElem (by omega)]
      rfl
    rw [List.mem_singleton, e] at h
    have := mk.ok _ (List.getElem_mem (by omega : i < sg.cps.toList.length))
    omega
theorem split_line {ms : List Str} {sg : Str} (mo : MenuN ms) (mk : marksB sg ms.length = true) : Txt.split (lineOf ms sg) " " = (List.range ms.length).map (markAt ms sg) :=
  TL.split_join (s := 32) (S := []) (by decide +kernel) (by decide +kernel) (fun e => mo.ne (List.length_eq_zero_iff.mp (by simpa using congrArg List.length e))) (no_blank_mark mo mk)
theorem range_names (ms : List Str) : (List.range ms.length).map (fun i => ms.getD i "") = ms := by
  refine List.ext_getElem? fun i => ?_
  rw [List.getElem?_map]
  by_cases h : i < ms.length
  · rw [List.getElem?_range h, List.getElem?_eq_getElem h, Option.map_some, List.getD_eq_getElem?_getD, List.getElem?_eq_getElem h]
    rfl
  · rw [List.getElem?_eq_none (by rw [List.length_range]; omega), List.getElem?_eq_none (by omega)]
    rfl
theorem range_signs {n : Nat} {cs : List Nat} (h : cs.length = n) : (List.range n).map (fun i => cs.getD i 0) = cs := by
  subst h
  refine List.ext_getElem? fun i => ?_
  rw [List.getElem?_map]
  by_cases h : i < cs.length
  · rw [List.getElem?_range h, List.getElem?_eq_getElem h, Option.map_some, List.getD_eq_getElem?_getD, List.getElem?_eq_getElem h]
    rfl
  · rw [List.getElem?_eq_none (by rw [List.length_range]; omega), List.getElem?_eq_none (by omega)]
    rfl
section
variable {P : Program} {w : World} {K : PySem.W.Frag} {mg : Str → Option Value} {base : Heap}
theorem ok_Look_read (T : Tx K mg) : FnOk P w K mg base CX0 6 T.a_Look_read T.fd_Look_read ["cls", "text"] (spLkRead K T.C) := by
  refine T.F_Look_read.ok sc_Look_read (fun vs H Q E h => ?_) (fun cdv A outer s H vs Q E hr h => ?_)
  · obtain ⟨ms, sg, rfl, _⟩ := h
    rfl
  · obtain ⟨ms, sg, rfl, mo, mk, k⟩ := h
    refine ⟨_, (pss_cons (ps_if (pt_not (pt_val (pe_callB call_isi (by rfl) T.n_isinstance (by decide +kernel) (pa_cons (pv 1) (pa_cons (pe_bltn (v := .ty "str") (by rfl) T.n_str (by decide +kernel) rfl) pa_nil)))))
        (pss_one ps_never)
        pss_nil)
      (pss_cons (ps_set (i := 2) sc_Look_read.nd rfl (Or.inl rfl) (pe_split (pv 1) pe_str))
      (pss_cons (ps_set (i := 3) sc_Look_read.nd rfl (Or.inl rfl) (pe_callTy call_tupF (by rfl) T.n_tuple (by decide +kernel) (pa_cons (pe_lc (own := [("part", 5)]) (g := gName 5) (tt := tYes) rfl sc_Look_read.nd (pi_list (pv 2)) (blkOk_by (own := [("part", 5)]) (N := names_Look_read) (sc := defScope st_Look_read) (by decide +kernel)) (fun _ _ _ _ _ => pg_name (i := 5) sc_Look_read.nd rfl (Or.inl rfl)) (fun _ _ _ _ _ => pts_nil) (fun _ _ _ _ _ => (pe_slice sl_str (pv 5) po_none (po_some (pe_un un_neg pe_int))))) pa_nil)))
      (pss_cons (ps_set (i := 4) sc_Look_read.nd rfl (Or.inl rfl) (pe_join pe_str (pe_lc (own := [("part", 5)]) (g := gName 5) (tt := tYes) rfl sc_Look_read.nd (pi_list (pv 2)) (blkOk_by (own := [("part", 5)]) (N := names_Look_read) (sc := defScope st_Look_read) (by decide +kernel)) (fun _ _ _ _ _ => pg_name (i := 5) sc_Look_read.nd rfl (Or.inl rfl)) (fun _ _ _ _ _ => pts_nil) (fun _ _ _ _ _ => (pe_slice sl_str (pv 5) (po_some (pe_un un_neg pe_int)) po_none)))))
      (pss_cons (ps_if (PW.pt (pw_or (pt_cmpR op_notN (pe_call (ok_first_wrong_of_names T) (hr.mono (by decide)) rfl T.g_first_wrong_of_names T.F_first_wrong_of_names.kp T.bd_first_wrong_of_names.choose_spec.2 T.bd_first_wrong_of_names.choose_spec.1 pass0 (pa_cons (pv 3) pa_nil)) pe_non (nomark _)) (pw_or1 (pt_not (pt_val (pe_call (ok_are_marks T) (hr.mono (by decide)) rfl T.g_are_marks T.F_are_marks.kp T.b_are_marks .nil pass0 (pa_cons (pv 4) (pa_cons (pe_callB call_len_seq (by rfl) T.n_len (by decide +kernel) (pa_cons (pv 3) pa_nil)) pa_nil))))))))
        (pss_one ps_never)
        pss_nil)
      (pss_one (ps_ret (pe_makeV T.mkc (ok_LookD_initD T) (hr.mono (by decide)) (pv 0) T.b_LookD_initD pass0 (pa_cons (pv 3) (pa_cons (pv 4) pa_nil)))))))))), ?_⟩
    refine ⟨_, rfl, _, _, _, _, true, rfl, .ty _, .base (.str _), kit_ty (by decide +kernel), true, rfl, iteF ?_⟩
    have ll := line_le (sg := sg) mo
    have ml := mo.le
    have mk' := marks_of mk
    have ln := mk'.len
    refine ⟨_, rfl, ⟨_, rfl⟩, _, _, rfl, rfl, by decide, le_line (by omega), ?_⟩
    rw [split_line mo mk]
    intro l nl
    have s0 := Same.new nl (o := .lst (((List.range ms.length).map (markAt ms sg)).map V.str))
    have e0 : (upd H l (.lst (((List.range ms.length).map (markAt ms sg)).map V.str))) l = some (.lst (((List.range ms.length).map (markAt ms sg)).map V.str)) := upd_same
    generalize upd H l (.lst (((List.range ms.length).map (markAt ms sg)).map V.str)) = H0 at s0 e0 ⊢
    have lr : (((List.range ms.length).map (markAt ms sg)).map V.str).length = ms.length := by rw [List.length_map, List.length_map, List.length_range]
    have at_ : ∀ (i : Nat) (y : V), (((List.range ms.length).map (markAt ms sg)).map V.str)[i]? = some y → i < ms.length ∧ y = .str (markAt ms sg i) ∧ (markAt ms sg i).length ≤ 200 := fun i y h => by
      rw [List.map_map, List.getElem?_map] at h
      obtain ⟨j, hj, rfl⟩ := Option.map_eq_some_iff.mp h
      obtain ⟨hi, e⟩ := List.getElem?_eq_some_iff.mp hj
      rw [List.getElem_range] at e
      rw [List.length_range] at hi
      subst e
      refine ⟨hi, rfl, ?_⟩
      unfold markAt
      rw [len_app1, List.getD_eq_getElem?_getD, List.getElem?_eq_getElem hi]
      have := nameOk_len (mo.ok _ (List.getElem_mem hi))
      show (ms[i]).length + 1 ≤ 200
      omega
    refine ⟨_, rfl, l, rfl, ⟨_, lst_of e0⟩, fun D nD => lcv walk_list (List.range ms.length) (fun i => V.str (ms.getD i "")) (by rw [List.length_range, lr]) nD (by rw [lr]; omega) (fun H' s => lst_of (s _ _ e0)) (fun _ _ _ _ _ y => yat_same y) (fun i u y H1 H2 hu s1 yy Z hZ => ?_) (fun H1 s1 e1 => ?_)⟩
    · obtain ⟨rfl, hx⟩ := yy
      obtain ⟨hi, rfl, hl⟩ := at_ i _ hx
      obtain rfl : i = u := by
        obtain ⟨_, e⟩ := List.getElem?_eq_some_iff.mp hu
        rw [List.getElem_range] at e
        exact e
      refine ⟨rfl, _, rfl, _, rfl, _, rfl, _, rfl, le_line (by omega), ?_⟩
      show Z (.str (cutS (ms.getD i "" ++ (⟨#[sg.cps.toList.getD i 0]⟩ : Str)) none (some (-1)))) _
      rw [cut_init]
      exact hZ _ (Same.refl _)
    have en : (List.range ms.length).map (fun i => V.str (ms.getD i "")) = ms.map V.str := by
      conv => rhs; rw [← range_names ms]
      rw [List.map_map]
      rfl
    rw [en] at e1
    refine ⟨D, _, rfl, .inl ⟨lst_of e1, fun a oa na oda => ?_⟩⟩
    have s2 := s1.new' na (o := .frz oa (.tup (ms.map V.str)))
    have hM : SqT K (upd H1 a (.frz oa (.tup (ms.map V.str)))) a (ms.map V.str) := frz_of upd_same
    generalize upd H1 a (.frz oa (.tup (ms.map V.str))) = H2 at s2 hM ⊢
    have e02 := s2 _ _ e0
    refine ⟨⟨_, rfl⟩, _, rfl, l, rfl, ⟨_, lst_of e02⟩, fun D2 nD2 => lcv walk_list (List.range ms.length) (fun i => V.str (sgn (sg.cps.toList.getD i 0))) (by rw [List.length_range, lr]) nD2 (by rw [lr]; omega) (fun H' s => lst_of (s _ _ e02)) (fun _ _ _ _ _ y => yat_same y) (fun i u y H3 H4 hu s3 yy Z hZ => ?_) (fun H3 s3 e3 => ?_)⟩
    · obtain ⟨rfl, hx⟩ := yy
      obtain ⟨hi, rfl, hl⟩ := at_ i _ hx
      obtain rfl : i = u := by
        obtain ⟨_, e⟩ := List.getElem?_eq_some_iff.mp hu
        rw [List.getElem_range] at e
        exact e
      refine ⟨rfl, _, rfl, _, rfl, _, rfl, _, rfl, le_line (by omega), ?_⟩
      show Z (.str (cutS (ms.getD i "" ++ (⟨#[sg.cps.toList.getD i 0]⟩ : Str)) (some (-1)) none)) _
      rw [cut_last]
      exact hZ _ (Same.refl _)
    have ec : (List.range ms.length).map (fun i => V.str (sgn (sg.cps.toList.getD i 0))) = (sg.cps.toList.map sgn).map V.str := by
      conv => rhs; rw [← range_signs ln]
      rw [List.map_map, List.map_map]
      rfl
    rw [ec] at e3
    refine ⟨_, D2, _, rfl, rfl, .inl (lst_of e3), ?_, ?_⟩
    · rw [sum_sgn, List.length_map]
      have e1 : ("" : Str).length = 0 := by decide +kernel
      rw [e1]
      omega
    · rw [join_sgn]
      have eg : (⟨sg.cps.toList.toArray⟩ : Str) = sg := by
        cases sg
        rfl
      rw [eg]
      have hM3 := s3.sqt hM
      have s03 := s0.trans (s2.trans s3)
      have lmm : (ms.map V.str).length = ms.length := List.length_map _
      refine ⟨_, rfl, a, ms, 10, rfl, hM3, (fun z hz => Nat.le_trans (nameOk_len (mo.ok z hz)) (by decide)), fun H5 s5 => ?_⟩
      rw [badN_ok mo]
      refine ⟨rfl, _, rfl, iteF ?_⟩
      refine ⟨_, rfl, _, rfl, a, _, rfl, .inr (s5.sqt hM3), sg, ms.length, by rw [lmm]; rfl, by omega, fun H6 s6 => ?_⟩
      rw [mk]
      refine ⟨true, rfl, iteF ?_⟩
      have s36 := s5.trans s6
      exact ⟨_, rfl, rfl, _, rfl, _, rfl, fun y dy ny ndy hne => lk_made (s36.sqt hM3) mo mk ny ndy hne fun H7 s7 la => k y a H7 (s03.trans (s36.trans s7)) la⟩
end
end MH
namespace MH
open PySem PySem.Spec PyProof.Rows L2
/-! ### the law's look at a look -/
theorem cost_strs {n : Nat} : ∀ {ss : List Str}, (∀ z ∈ ss, z.length ≤ n) → costAll (ss.map PyData.str) ≤ ss.length * (10 * n + 4)
  | [], _ => Nat.zero_le _
  | z :: ss, h => by
    have h1 := h z List.mem_cons_self
    have h2 := cost_strs (ss := ss) fun y hy => h y (List.mem_cons_of_mem _ hy)
    show 10 * z.length + 2 + 2 + costAll (ss.map PyData.str) ≤ (ss.length + 1) * (10 * n + 4)
    rw [show (ss.length + 1) * (10 * n + 4) = ss.length * (10 * n + 4) + (10 * n + 4) from Nat.succ_mul _ _]
    omega
theorem sg_ok {sg : Str} {m : Nat} (h : marksB sg m = true) : PyData.strOk sg = true := by
  unfold PyData.strOk
  rw [← Array.all_toList, List.all_eq_true]
  intro c hc
  have := (marks_of h).ok c hc
  refine decide_eq_true ?_
  omega
theorem withM_sub {ms : List Str} {sg : Str} {c : Nat} : ∀ z ∈ withM ms sg c, z ∈ ms := fun z hz => by
  obtain ⟨i, hi, rfl⟩ := List.mem_map.mp hz
  have hi := List.mem_range.mp (List.mem_filter.mp hi).1
  rw [List.getD_eq_getElem?_getD, List.getElem?_eq_getElem hi]
  exact List.getElem_mem hi
theorem withM_len {ms : List Str} {sg : Str} {c : Nat} : (withM ms sg c).length ≤ ms.length := by
  unfold withM
  rw [List.length_map]
  have := List.length_filter_le (fun i => decide (sg.cps.toList.getD i 0 = c)) (List.range ms.length)
  rw [List.length_range] at this
  exact this
def twoD (a b : List Str) : PyData := .list [.tuple (a.map PyData.str), .tuple (b.map PyData.str)]
theorem two_strs {K : PySem.W.Frag} {H : Hp} {L a b : Addr} {xs ys : List Str} (hL : SqL K H L [V.ref a, V.ref b]) (ha : SqT K H a (xs.map V.str)) (hb : SqT K H b (ys.map V.str)) (hx : ∀ z ∈ xs, nameOk z = true) (hy : ∀ z ∈ ys, nameOk z = true) (lx : xs.length ≤ 100) (ly : ys.length ≤ 100) : ShowOk K H L (twoD xs ys) := by
  have c1 := cost_strs (n := 8) (ss := xs) fun z hz => nameOk_len (hx z hz)
  have c2 := cost_strs (n := 8) (ss := ys) fun z hz => nameOk_len (hy z hz)
  refine show_of (.lst hL (.cons (.tup ha (dp_strs _)) (.cons (.tup hb (dp_strs _)) .nil))) ?_ ?_ ?_
  · show (okDs (xs.map PyData.str) && (okDs (ys.map PyData.str) && true)) = true
    rw [okDs_strs fun z hz => nameOk_str (hx z hz), okDs_strs fun z hz => nameOk_str (hy z hz)]
    rfl
  · simp only [twoD, PyData.depth, PyData.depthAll, depth_strs]
    decide
  · show costAll (xs.map PyData.str) + 3 + 2 + (costAll (ys.map PyData.str) + 3 + 2 + 0) + 3 ≤ 100000
    omega
def pairD (a : List Str) (z : Str) : PyData := .list [.tuple (a.map PyData.str), .str z]
theorem pair_show {K : PySem.W.Frag} {H : Hp} {L a : Addr} {xs : List Str} {z : Str} (hL : SqL K H L [V.ref a, V.str z]) (ha : SqT K H a (xs.map V.str)) (hx : ∀ z ∈ xs, nameOk z = true) (hz : PyData.strOk z = true) (lx : xs.length ≤ 100) (lz : z.length ≤ 100) : ShowOk K H L (pairD xs z) := by
  have c1 := cost_strs (n := 8) (ss := xs) fun z hz => nameOk_len (hx z hz)
  refine show_of (.lst hL (.cons (.tup ha (dp_strs _)) (.cons (.str z) .nil))) ?_ ?_ ?_
  · show (okDs (xs.map PyData.str) && (PyData.strOk z && true)) = true
    rw [okDs_strs fun z hz => nameOk_str (hx z hz), hz]
    rfl
  · simp only [pairD, PyData.depth, PyData.depthAll, depth_strs]
    decide
  · show costAll (xs.map PyData.str) + 3 + 2 + (10 * z.length + 2 + 2 + 0) + 3 ≤ 100000
    omega
theorem strs_show {K : PySem.W.Frag} {H : Hp} {L : Addr} {ss : List Str} (hL : SqL K H L (ss.map V.str)) (hs : ∀ z ∈ ss, PyData.strOk z = true) (hl : ∀ z ∈ ss, z.length ≤ 10) (l : ss.length ≤ 100) : ShowOk K H L (.list (ss.map PyData.str)) := by
  have c1 := cost_strs (n := 10) hl
  refine show_of (.lst hL (dp_strs _)) (okDs_strs hs) ?_ ?_
  · simp only [PyData.depth, depth_strs]
    decide
  · show costAll (ss.map PyData.str) + 3 ≤ 100000
    omega
def spIs (K : PySem.W.Frag) (C : Addr) : Sp := fun vs H Q _ => ∃ (x m t : Addr) (ms : List Str) (sg : Str), vs = [.ref x, .ref t, .str sg] ∧ LkAt K C H x m ms sg ∧ SqT K H t (ms.map V.str) ∧ ∀ H', Same H H' → Q (.bl true) H'
section
variable {P : Program} {w : World} {K : PySem.W.Frag} {mg : Str → Option Value} {base : Heap}
theorem g_l_is (T : Tx K mg) : FnG P w K mg base 7 T.a_l_is (spIs K T.C) := by
  refine fun_g T.F_l_is sc_l_is T.b_l_is (fun vs H Q E h => ?_) (fun cdv A outer s H vs Q hg hr h => ?_)
  · obtain ⟨x, m, t, ms, sg, rfl, _⟩ := h
    rfl
  · obtain ⟨x, m, t, ms, sg, rfl, la, hT, k⟩ := h
    refine ⟨_, (pss_cons (ps_setLc (i := 3) (own := [("_law_sign", 4)]) (g := gName 4) (tt := tYes) rfl sc_l_is.nd rfl rfl (sw_true rfl rfl rfl (by decide +kernel)) (pi_str pe_str) (blkOk_by (own := [("_law_sign", 4)]) (N := names_l_is) (sc := defScope st_l_is) (by decide +kernel)) (fun _ _ _ _ _ => pg_name (i := 4) sc_l_is.nd rfl (Or.inr rfl)) (fun _ _ _ _ _ => pts_nil) (fun _ _ _ _ _ => (pe_callTy (r := rTupF K) (T := "tuple") call_tupF (by rfl) T.n_tuple (by decide +kernel) (pa_cons (pe_lc (own := [("_law_k", 5)]) (g := gName 5) (tt := _) rfl sc_l_is.nd (pi_range1 (by rfl) T.n_range (pa_cons (pe_callB (r := rLenSq K) (id := "len") call_len_seq (by rfl) T.n_len (by decide +kernel) (pa_cons (pv 1) pa_nil)) pa_nil)) (blkOk_by (own := [("_law_k", 5)]) (N := names_l_is) (sc := ({ kind := .function, names := [(".0", .local), ("_law_sign", .cell), ("tuple", .globalImplicit), ("range", .globalImplicit), ("len", .globalImplicit), ("_law_menu", .cell), ("_law_signs", .cell)], isGenerator := false, isCoroutine := false } : Scope)) (by decide +kernel)) (fun _ _ _ _ _ => pg_name (i := 5) sc_l_is.nd rfl (Or.inl rfl)) (fun _ _ _ _ _ => pts_one (pt_cmpR op_eq (pe_ix ix_str (pv 2) (pv 5) (fun _ _ => rfl)) (pv 4) (nomark _))) (fun _ _ _ _ _ => (pe_ix (r := rIxT K) ix_tup (pv 1) (pv 5) (fun _ _ => rfl)))) pa_nil))))
      (pss_cons (ps_if (PW.pt (pw_or (pt_not (pt_val (pe_callB call_isi (by rfl) T.n_isinstance (by decide +kernel) (pa_cons (pv 0) (pa_cons (pe_glob (v := .ref T.C) rfl T.g_Look rfl) pa_nil))))) (pw_or1 (pt_cmpR op_ne (pe_callB (call_reprD hg hr.units) (by rfl) T.n_repr (by decide +kernel) (pa_cons (pe_lst (pa_cons (pe_fld (pv 0) rfl) (pa_cons (pe_prop (pv 0) T.cl T.p_marks (ok_Look_marks T) (hr.mono (by decide)) T.b_Look_marks .nil pass0 (by rfl)) pa_nil))) pa_nil)) (pe_callB (call_reprD hg hr.units) (by rfl) T.n_repr (by decide +kernel) (pa_cons (pe_lst (pa_cons (pv 1) (pa_cons (pv 2) pa_nil))) pa_nil)) (nomark _)))))
        (pss_one (ps_ret pe_bl))
        pss_nil)
      (pss_cons (ps_if (PW.pt (pw_or (pt_cmpR op_ne (pe_callB (call_reprD hg hr.units) (by rfl) T.n_repr (by decide +kernel) (pa_cons (pe_lst (pa_cons (pe_prop (pv 0) T.cl T.p_taken (ok_Look_taken T) (hr.mono (by decide)) T.b_Look_taken .nil pass0 (by rfl)) (pa_cons (pe_prop (pv 0) T.cl T.p_passed (ok_Look_passed T) (hr.mono (by decide)) T.b_Look_passed .nil pass0 (by rfl)) pa_nil))) pa_nil)) (pe_callB (call_reprD hg hr.units) (by rfl) T.n_repr (by decide +kernel) (pa_cons (pv 3) pa_nil)) (nomark _)) (pw_or (pt_cmpR op_ne (pe_callB (call_lenO T.m_LookD_lenD (ok_LookD_lenD T) (hr.mono (by decide)) T.b_LookD_lenD pass0) (by rfl) T.n_len (by decide +kernel) (pa_cons (pv 0) pa_nil)) (pe_callB call_len_seq (by rfl) T.n_len (by decide +kernel) (pa_cons (pv 1) pa_nil)) (nomark _)) (pw_or1 (pt_not (pt_truO (pv 0) T.m_LookD_lenD T.nobool (ok_LookD_lenD T) (hr.mono (by decide)) T.b_LookD_lenD pass0 (fun _ => rfl)))))))
        (pss_one (ps_ret pe_bl))
        pss_nil)
      (pss_cons (ps_if (PW.pt (pw_or (pt_cmpR op_ne (pe_callTy (call_strO T.m_LookD_strD (ok_LookD_strD T) (hr.mono (by decide)) T.b_LookD_strD pass0) (by rfl) T.n_str (by decide +kernel) (pa_cons (pv 0) pa_nil)) (pe_call (ok_l_text T) (hr.mono (by decide)) rfl T.g_l_text T.F_l_text.kp T.b_l_text .nil pass0 (pa_cons (pe_tup (pa_cons (pv 1) (pa_cons (pv 2) pa_nil))) pa_nil)) (nomark _)) (pw_or1 (pt_cmpR op_ne (pe_callB (call_reprO T.m_LookD_reprD (ok_LookD_reprD T) (hr.mono (by decide)) T.b_LookD_reprD pass0) (by rfl) T.n_repr (by decide +kernel) (pa_cons (pv 0) pa_nil)) (pe_op op_add_str pe_str (pe_call (ok_l_text T) (hr.mono (by decide)) rfl T.g_l_text T.F_l_text.kp T.b_l_text .nil pass0 (pa_cons (pe_tup (pa_cons (pv 1) (pa_cons (pv 2) pa_nil))) pa_nil))) (nomark _)))))
        (pss_one (ps_ret pe_bl))
        pss_nil)
      (pss_one (ps_ret (pe_cmpR op_eq (pe_callB (call_reprD hg hr.units) (by rfl) T.n_repr (by decide +kernel) (pa_cons (pe_lc (own := [("_law_thing", 6)]) (g := gName 6) (tt := tYes) rfl sc_l_is.nd (pi_tup (pv 1)) (blkOk_by (own := [("_law_thing", 6)]) (N := names_l_is) (sc := defScope st_l_is) (by decide +kernel)) (fun _ _ _ _ _ => pg_name (i := 6) sc_l_is.nd rfl (Or.inl rfl)) (fun _ _ _ _ _ => pts_nil) (fun _ _ _ _ _ => (pe_itO T.m_LookD_getitemD T.fi_LookD_getitemD (ok_LookD_getitemD T) (hr.mono (by decide)) T.b_LookD_getitemD pass0 (pv 0) (pv 6) (fun _ _ => rfl)))) pa_nil)) (pe_callB (call_reprD hg hr.units) (by rfl) T.n_repr (by decide +kernel) (pa_cons (pe_lc (own := [("_law_sign", 4)]) (g := gName 4) (tt := tYes) rfl sc_l_is.nd (pi_str (pv 2)) (blkOk_by (own := [("_law_sign", 4)]) (N := names_l_is) (sc := defScope st_l_is) (by decide +kernel)) (fun _ _ _ _ _ => pg_name (i := 4) sc_l_is.nd rfl (Or.inl rfl)) (fun _ _ _ _ _ => pts_nil) (fun _ _ _ _ _ => (pv 4))) pa_nil)) (nomark _)))))))), ?_⟩
    have mo := la.mo
    have ln := la.len
    have ml := mo.le
    have mk : marksB sg ms.length = true := let ⟨_, _, _, _, h⟩ := la; h
    have lm : (ms.map V.str).length = ms.length := List.length_map _
    refine ⟨_, rfl, fun D nD => lco walk_str (fun i v H' => ∃ a : Addr, v = V.ref a ∧ SqT K H' a ((withM ms sg (if i = 0 then 43 else 45)).map V.str)) nD (by decide) (fun _ _ => trivial) (fun _ _ _ _ _ y => y.1 ▸ Same.refl _) (fun _ _ _ _ h s => let ⟨a, e, h⟩ := h; ⟨a, e, s.sqt h⟩) (fun i y H1 H2 hi s1 yy Z hZ => ?_) (fun H1 zs s1 e1 le1 hz1 => ?_)⟩
    · obtain ⟨rfl, c, hc, rfl⟩ := yy
      have ec : c = if i = 0 then 43 else 45 := by
        have hi : i < 2 := hi
        have e : ("+-" : Str).cps = #[43, 45] := by decide +kernel
        rw [e] at hc
        match i, hi with
        | 0, _ => exact (Option.some.inj hc).symm
        | 1, _ => exact (Option.some.inj hc).symm
      rw [← ec] at hZ
      refine ⟨rfl, _, rfl, t, _, rfl, .inr (s1.sqt hT), _, rfl, by omega, by omega, fun D2 nD2 => lcf (n := ((((ms.map V.str).length : Nat) : Int)).toNat) (walk_range (lo := 0)) (List.range ms.length) (fun j => V.str (ms.getD j "")) (fun j => decide (sg.cps.toList.getD j 0 = c)) (by rw [List.length_range]; omega) nD2 (by omega) (fun _ _ => trivial) (fun _ _ _ _ _ y => yfn_same y) (fun j u y H3 H4 hu s3 yy Z N hZ hN => ?_) (fun H3 s3 e3 => ?_)⟩
      · have ey : y = V.int ((j : Nat) : Int) := yy.2.trans (congrArg V.int (Int.zero_add _))
        obtain rfl := yy.1
        subst ey
        obtain ⟨hj, rfl⟩ : j < ms.length ∧ j = u := by
          obtain ⟨h, e⟩ := List.getElem?_eq_some_iff.mp hu
          rw [List.getElem_range] at e
          rw [List.length_range] at h
          exact ⟨h, e⟩
        have g : sg.cps.toList[j]? = some (sg.cps.toList.getD j 0) := by
          rw [List.getD_eq_getElem?_getD, List.getElem?_eq_getElem (by omega)]
          rfl
        refine ⟨rfl, _, rfl, _, rfl, sg, (j : Int), _, rfl, rfl, le_line (by rw [len_cps]; omega), atI_nat g, _, rfl, rfl, _, rfl, ?_⟩
        have ed : decide (V.str (⟨#[sg.cps.toList.getD j 0]⟩ : Str) = V.str (⟨#[c]⟩ : Str)) = decide (sg.cps.toList.getD j 0 = c) := dec_sgn _ c
        rw [ed]
        refine ite2 (fun c1 => ?_) (fun c1 => ?_)
        · exact ⟨_, rfl, _, rfl, t, _, _, _, rfl, rfl, s3.sqt (s1.sqt hT), atI_nat (ms_get hj), hZ c1 _ (Same.refl _)⟩
        · exact hN (by simpa using c1) _ (Same.refl _)
      · refine ⟨D2, _, rfl, .inl ⟨lst_of e3, fun a oa na oda => hZ _ _ (s3.new' na) ⟨a, rfl, ?_⟩⟩⟩
        unfold withM
        rw [List.map_map]
        exact frz_of upd_same
    have le1 : zs.length = 2 := le1
    obtain ⟨z0, z1, rfl⟩ : ∃ z0 z1, zs = [z0, z1] := by
      match zs, le1 with
      | [a, b], _ => exact ⟨a, b, rfl⟩
    obtain ⟨a0, rfl, h0⟩ := hz1 0 z0 rfl
    obtain ⟨a1, rfl, h1⟩ := hz1 1 z1 rfl
    have h0 : SqT K H1 a0 ((withM ms sg 43).map V.str) := h0
    have h1 : SqT K H1 a1 ((withM ms sg 45).map V.str) := h1
    clear hz1 le1
    have la1 := la.same s1
    have hT1 := s1.sqt hT
    obtain ⟨dx, hx1, hM1, _⟩ := id la1
    have sgo := sg_ok mk
    have lsg : sg.length ≤ 100 := by rw [len_cps]; omega
    have wl : ∀ c, (withM ms sg c).length ≤ 100 := fun c => Nat.le_trans withM_len (by omega)
    have wo : ∀ c, ∀ z ∈ withM ms sg c, nameOk z = true := fun c z hz => mo.ok z (withM_sub z hz)
    refine ⟨_, rfl, _, _, _, _, true, rfl, .own _, T.ty hx1, by unfold PySem.W.kitOne; rw [if_pos (beq_self_eq_true _)], true, rfl, iteF ?_⟩
    refine ⟨_, rfl, x, T.C, dx, _, _, rfl, hx1, T.cl, T.no_menu, lk_menu m sg, _, rfl, x, dx, _, rfl, hx1, x, m, ms, sg, rfl, la1, (by show 2 ≤ sizeLine; decide), fun L1 nL1 => ?_⟩
    have sa := Same.new nL1 (o := .lst [.ref m, .str sg])
    obtain ⟨p1, p2, p3, p4, p5⟩ := pair_show (K := K) (H := upd H1 L1 (.lst [.ref m, .str sg])) (L := L1) (lst_of upd_same) (sa.sqt hM1) mo.ok sgo (by omega) lsg
    refine ⟨L1, _, rfl, p1, p2, p3, p4, p5, _, rfl, _, rfl, (by show 2 ≤ sizeLine; decide), fun M2 nM2 => ?_⟩
    have sb := sa.new' nM2 (o := .lst [.ref t, .str sg])
    obtain ⟨q1, q2, q3, q4, q5⟩ := pair_show (K := K) (H := upd (upd H1 L1 (.lst [.ref m, .str sg])) M2 (.lst [.ref t, .str sg])) (L := M2) (lst_of upd_same) (sb.sqt hT1) mo.ok sgo (by omega) lsg
    refine ⟨M2, _, rfl, q1, q2, q3, q4, q5, rfl, _, rfl, ifF (by simp) ?_⟩
    clear p1 p2 p3 p4 p5 q1 q2 q3 q4 q5
    generalize upd (upd H1 L1 _) M2 _ = H2 at sb
    clear sa
    have la2 := la1.same sb
    have hx2 := sb _ _ hx1
    refine ⟨_, rfl, x, dx, _, rfl, hx2, x, m, ms, sg, rfl, la2, fun b0 H3 s3 hb0 => ?_⟩
    have la3 := la2.same s3
    refine ⟨_, rfl, x, dx, _, rfl, s3 _ _ hx2, x, m, ms, sg, rfl, la3, fun b1 H4 s4 hb1 => ⟨(by show 2 ≤ sizeLine; decide), fun L3 nL3 => ?_⟩⟩
    have sc := s4.new' nL3 (o := .lst [.ref b0, .ref b1])
    obtain ⟨p1, p2, p3, p4, p5⟩ := two_strs (K := K) (H := upd H4 L3 (.lst [.ref b0, .ref b1])) (L := L3) (lst_of upd_same) (sc.sqt hb0) ((Same.new nL3).sqt hb1) (wo 43) (wo 45) (wl 43) (wl 45)
    have sd := (sb.trans s3).trans sc
    obtain ⟨q1, q2, q3, q4, q5⟩ := two_strs (K := K) (H := upd H4 L3 (.lst [.ref b0, .ref b1])) (L := D) (lst_of (sd _ _ e1)) (sd.sqt h0) (sd.sqt h1) (wo 43) (wo 45) (wl 43) (wl 45)
    refine ⟨L3, _, rfl, p1, p2, p3, p4, p5, _, rfl, D, _, rfl, q1, q2, q3, q4, q5, rfl, _, rfl, ifF (by simp) ?_⟩
    clear p1 p2 p3 p4 p5 q1 q2 q3 q4 q5
    generalize upd H4 L3 _ = H5 at sd sc
    have la5 := la1.same sd
    have hx5 := sd _ _ hx1
    have hT5 := sd.sqt hT1
    refine ⟨_, rfl, x, dx, _, rfl, hx5, x, m, ms, sg, rfl, la5, ?_⟩
    have pos : 0 < ms.length := List.length_pos_iff.mpr mo.ne
    have pn : (((ms.length : Nat) : Int) != 0) = true := bne_iff_ne.mpr (by omega)
    refine ⟨⟨_, rfl, by omega, by omega⟩, _, rfl, t, _, rfl, .inr hT5, rfl, _, rfl, ifF (by rw [lm]; simp) ?_⟩
    refine ⟨_, rfl, x, dx, _, rfl, hx5, x, m, ms, sg, rfl, la5, _, rfl, by omega, by omega, ifF (by rw [pn]; rfl) ?_⟩
    have hz8 : ∀ z ∈ ms, z.length ≤ 100 := fun z hz => Nat.le_trans (nameOk_len (mo.ok z hz)) (by decide)
    refine ⟨_, rfl, x, dx, _, rfl, hx5, x, m, ms, sg, rfl, la5, fun H6 s6 => ⟨⟨_, rfl⟩, _, rfl, _, rfl, (by show 2 ≤ sizeLine; decide), fun q nq => ?_⟩⟩
    have se := s6.new' nq (o := .tup [.ref t, .str sg])
    refine ⟨q, t, ms, sg, rfl, tup_of upd_same, se.sqt hT5, by omega, ln, hz8, fun H7 s7 => ⟨rfl, _, rfl, ifF (by simp) ?_⟩⟩
    have s57 := se.trans s7
    clear se
    have la7 := la5.same s57
    have hx7 := s57 _ _ hx5
    have hT7 := s57.sqt hT5
    refine ⟨_, rfl, x, dx, _, rfl, hx7, x, m, ms, sg, rfl, la7, fun H8 s8 => ⟨⟨_, rfl⟩, _, rfl, _, rfl, (by show 2 ≤ sizeLine; decide), fun q2 nq2 => ?_⟩⟩
    have sf := s8.new' nq2 (o := .tup [.ref t, .str sg])
    have ll := line_le (sg := sg) mo
    refine ⟨q2, t, ms, sg, rfl, tup_of upd_same, sf.sqt hT7, by omega, ln, hz8, fun H9 s9 => ⟨_, _, rfl, rfl, ?_, rfl, _, rfl, ifF (by simp) ?_⟩⟩
    · have e5 : ("Look " : Str).length = 5 := by decide +kernel
      rw [e5]
      exact le_line (by omega)
    have s79 := sf.trans s9
    clear sf
    have la9 := la7.same s79
    have hx9 := s79 _ _ hx7
    have hT9 := s79.sqt hT7
    have sAll : Same H H9 := s1.trans (sd.trans (s57.trans s79))
    clear h0 h1 e1 la1 la2 la3 la5 la7 hx1 hM1 hx2 hx5 hx7 hT1 hT5 hT7 sb sc sd hb0 hb1
    refine ⟨_, rfl, t, rfl, ⟨_, hT9⟩, fun D4 nD4 => lcv walk_tup (List.range ms.length) (fun i => V.str (sgAt sg i)) (by rw [List.length_range, lm]) nD4 (by rw [lm]; omega) (fun H' s => s.sqt hT9) (fun _ _ _ _ _ y => yat_same y) (fun i u y Ha Hb hu sa yy Z hZ => ?_) (fun Ha sa ea => ?_)⟩
    · obtain ⟨rfl, hx⟩ := yy
      obtain ⟨z, hz', rfl⟩ := str_at hx
      obtain rfl : i = u := by
        obtain ⟨_, e⟩ := List.getElem?_eq_some_iff.mp hu
        rw [List.getElem_range] at e
        exact e
      exact ⟨rfl, _, rfl, _, rfl, x, dx, _, rfl, sa _ _ hx9, x, m, ms, sg, z, i, rfl, la9.same sa, hz', fun Hc sc => hZ _ sc⟩
    · have ec : (List.range ms.length).map (fun i => V.str (sgAt sg i)) = (sg.cps.toList.map sgn).map V.str := by
        conv => rhs; rw [← range_signs ln]
        rw [List.map_map, List.map_map]
        rfl
      rw [ec] at ea
      have so : ∀ z ∈ sg.cps.toList.map sgn, PyData.strOk z = true := fun z hz => by
        obtain ⟨c, hc, rfl⟩ := List.mem_map.mp hz
        unfold PyData.strOk
        rw [← Array.all_toList, List.all_eq_true]
        intro d hd
        have hd : d ∈ [c] := hd
        rw [List.mem_singleton.mp hd]
        have := (marks_of mk).ok c hc
        exact decide_eq_true (by omega)
      have sl : ∀ z ∈ sg.cps.toList.map sgn, z.length ≤ 10 := fun z hz => by
        obtain ⟨c, hc, rfl⟩ := List.mem_map.mp hz
        show 1 ≤ 10
        decide
      have ll2 : (sg.cps.toList.map sgn).length ≤ 100 := by rw [List.length_map]; omega
      obtain ⟨p1, p2, p3, p4, p5⟩ := strs_show (K := K) (H := Ha) (L := D4) (lst_of ea) so sl ll2
      refine ⟨D4, _, rfl, p1, p2, p3, p4, p5, _, rfl, sg, rfl, fun D5 nD5 => lcv walk_str sg.cps.toList (fun c => V.str (sgn c)) Array.length_toList nD5 (by rw [← Array.length_toList]; omega) (fun _ _ => trivial) (fun _ _ _ _ _ y => y.1 ▸ Same.refl _) (fun i c y Hc Hd hc sc yy Z hZ => ?_) (fun Hb sb eb => ?_)⟩
      · obtain ⟨rfl, c', hc', rfl⟩ := yy
        have ec : c' = c := by
          rw [Array.getElem?_toList] at hc
          exact Option.some.inj (hc'.symm.trans hc)
        subst ec
        exact ⟨rfl, _, rfl, hZ _ (Same.refl _)⟩
      · have eb : Hb D5 = some (.lst ((sg.cps.toList.map sgn).map V.str)) := by
          rw [eb, List.map_map]
          rfl
        obtain ⟨q1, q2, q3, q4, q5⟩ := strs_show (K := K) (H := Hb) (L := D5) (lst_of eb) so sl ll2
        refine ⟨D5, _, rfl, q1, q2, q3, q4, q5, rfl, ?_⟩
        rw [decide_eq_true rfl]
        exact k _ (sAll.trans (sa.trans sb))
end
end MH
namespace MH
open PySem PySem.Spec PyProof.Rows L2
/-! ### other looks -/
theorem sg_mk (sg : Str) : (⟨sg.cps.toList.toArray⟩ : Str) = sg := by
  cases sg
  rfl
theorem str_ext {a b : Str} (h : a.cps.toList = b.cps.toList) : a = b := by
  rw [← sg_mk a, ← sg_mk b, h]
theorem cut_to (z : Str) (i : Nat) : (cutS z none (some (i : Int))).cps.toList = z.cps.toList.take i := by
  unfold cutS
  show (z.cps.toList.drop (HT.sIx z.length 0 none)).take _ = _
  rw [HT.sIx_none, HT.sIx_nat, List.drop_zero, Nat.sub_zero, len_cps]
  rcases Nat.le_total i z.cps.toList.length with h | h
  · rw [Nat.min_eq_left h]
  · rw [Nat.min_eq_right h, List.take_of_length_le (Nat.le_refl _), List.take_of_length_le h]
theorem cut_behind (z : Str) (i : Nat) : (cutS z (some (i : Int)) none).cps.toList = z.cps.toList.drop i := by
  unfold cutS
  show (z.cps.toList.drop (HT.sIx z.length 0 (some (i : Int)))).take _ = _
  rw [HT.sIx_none, HT.sIx_nat, len_cps, List.take_of_length_le (by rw [List.length_drop]; omega)]
  rcases Nat.le_total i z.cps.toList.length with h | h
  · rw [Nat.min_eq_left h]
  · rw [Nat.min_eq_right h, List.drop_of_length_le (Nat.le_refl _), List.drop_of_length_le h]
/-- the marks with another one at this place -/
theorem marks_set {sg : Str} {m at_ : Nat} {c : Nat} (mk : marksB sg m = true) (ha : at_ < m) (hc : c = 43 ∨ c = 63) : MarksOk (sg.cps.toList.take at_ ++ [c] ++ sg.cps.toList.drop (at_ + 1)) m := by
  have mk := marks_of mk
  have l := mk.len
  refine ⟨?_, fun d hd => ?_, c, by simp, by omega⟩
  · simp only [List.length_append, List.length_take, List.length_drop, List.length_singleton]
    omega
  · rw [List.mem_append, List.mem_append, List.mem_singleton] at hd
    rcases hd with (hd | hd) | hd
    · exact mk.ok d (List.mem_of_mem_take hd)
    · omega
    · exact mk.ok d (List.mem_of_mem_drop hd)
theorem marks_set_ne {cs : List Nat} {at_ c : Nat} (ha : at_ < cs.length) (hc : cs.getD at_ 0 ≠ c) : cs ≠ cs.take at_ ++ [c] ++ cs.drop (at_ + 1) := fun e => by
  have q := congrArg (fun l => l.getD at_ 0) e
  have lt : (cs.take at_).length = at_ := by rw [List.length_take]; omega
  have : (cs.take at_ ++ [c] ++ cs.drop (at_ + 1)).getD at_ 0 = c := by
    rw [List.getD_eq_getElem?_getD, List.append_assoc, List.getElem?_append_right (by omega), lt, Nat.sub_self]
    rfl
  exact hc (q.trans this)
theorem menu_less {ms : List Str} {at_ : Nat} (mo : MenuN ms) (h : 1 < ms.length) (ha : at_ < ms.length) : MenuN (ms.take at_ ++ ms.drop (at_ + 1)) := by
  have ls : (ms.take at_ ++ ms.drop (at_ + 1)).length = ms.length - 1 := by
    rw [List.length_append, List.length_take, List.length_drop]
    omega
  have sub : (ms.take at_ ++ ms.drop (at_ + 1)).Sublist ms := by
    conv => rhs; rw [← List.take_append_drop at_ ms]
    refine List.Sublist.append (List.Sublist.refl _) ?_
    rw [← List.drop_drop]
    exact List.drop_sublist _ _
  have le := mo.le
  exact ⟨fun e => by rw [e] at ls; simp at ls; omega, by omega, fun z hz => mo.ok z (sub.subset hz), mo.up.sublist sub⟩
theorem lt_app (z : Str) (c : Nat) : ltS z (z ++ (⟨#[c]⟩ : Str)) := by
  show z.cps.toList < (z ++ (⟨#[c]⟩ : Str)).cps.toList
  rw [tl_app1]
  generalize z.cps.toList = l
  induction l with
  | nil => exact List.nil_lt_cons _ _
  | cons a l ih => exact List.cons_lt_cons_self.mpr ih
theorem menu_long {ms : List Str} {z : Str} (mo : MenuN (ms ++ [z])) (h : z.length ≤ 7) : MenuN (ms ++ [z ++ (⟨#[97]⟩ : Str)]) := by
  obtain ⟨ne, le, ok, up⟩ := mo
  rw [List.pairwise_append] at up
  refine ⟨by simp, by simpa using le, fun y hy => ?_, List.pairwise_append.mpr ⟨up.1, List.pairwise_singleton _ _, fun a ha b hb => ?_⟩⟩
  · rcases List.mem_append.mp hy with h1 | h1
    · exact ok y (List.mem_append_left _ h1)
    · rw [List.mem_singleton.mp h1]
      exact nameOk_snoc (ok z (by simp)) h (by decide)
  · rw [List.mem_singleton.mp hb]
    exact ltS_trans (up.2.2 a ha z (by simp)) (lt_app z 97)
theorem ask_marks (n : Nat) (h : 0 < n) : MarksOk (List.replicate n 63) n := ⟨List.length_replicate, fun c hc => .inr (.inr (List.eq_of_mem_replicate hc)), 63, List.mem_replicate.mpr ⟨by omega, rfl⟩, by decide⟩
def OtherV (K : PySem.W.Frag) (C : Addr) (H : Hp) (v : V) (ms : List Str) (sg : Str) : Prop :=
  (∃ (b n : Addr) (ms2 : List Str) (sg2 : Str), v = .ref b ∧ LkAt K C H b n ms2 sg2 ∧ (decide (ms = ms2) && decide (sg = sg2)) = false) ∨ (∃ z, v = .str z) ∨ v = .non ∨ (∃ i, v = .int i) ∨ ∃ (a : Addr) (xs : List V), v = .ref a ∧ SqT K H a xs
theorem catA_of {K : PySem.W.Frag} {H : Hp} {a b : Addr} {xs ys : List V} {Q : VK} (ha : SqT K H a xs) (hb : SqT K H b ys) (hz : xs.length + ys.length ≤ 100000) (k : ∀ p H', Same H H' → SqT K H' p (xs ++ ys) → Q (.ref p) H') : rCatA K (.ref a) (.ref b) H Q := by
  refine ⟨a, b, xs, ys, rfl, rfl, ha, hb, le_line hz, fun e => ?_, fun _ e => ?_, fun _ _ p np => k p _ (Same.new np) (tup_of upd_same)⟩
  · subst e
    exact k b H (Same.refl H) hb
  · subst e
    exact k a H (Same.refl H) (by rw [List.append_nil]; exact ha)
theorem otherV_same {K : PySem.W.Frag} {C : Addr} {H H' : Hp} {v : V} {ms : List Str} {sg : Str} {F : Addr} {us : List V} (h : OtherV K C H v ms sg) (s : SameB F H H') (hF : H F = some (.lst us)) : OtherV K C H' v ms sg := by
  rcases h with ⟨b, n, ms2, sg2, e, la, ne⟩ | h | h | h | ⟨a, xs, e, ht⟩
  · exact .inl ⟨b, n, ms2, sg2, e, la.sameB s hF, ne⟩
  · exact .inr (.inl h)
  · exact .inr (.inr (.inl h))
  · exact .inr (.inr (.inr (.inl h)))
  · exact .inr (.inr (.inr (.inr ⟨a, xs, e, s.sqt hF ht⟩)))
theorem cut_init_v (xs : List V) (v : V) : cutV (xs ++ [v]) none (some (-1)) = xs := by
  unfold cutV
  rw [List.length_append]
  have e2 : HT.sIx (xs.length + [v].length) (xs.length + [v].length) (some (-1)) = xs.length := by
    unfold HT.sIx
    simp only
    rw [if_pos (by decide)]
    show (-1 + ((xs.length + 1 : Nat) : Int)).toNat = _
    omega
  rw [e2, HT.sIx_none, Nat.sub_zero, List.drop_zero, List.take_left]
def spOthers (K : PySem.W.Frag) (C : Addr) : Sp := fun vs H Q _ => ∃ (p t : Addr) (ms : List Str) (sg : Str) (n : Nat), vs = [.ref p, .ref t, .str sg] ∧ Ur H p n ∧ n ≤ 600000000 ∧ SqT K H t (ms.map V.str) ∧ MenuN ms ∧ marksB sg ms.length = true ∧
  ∀ (L : Addr) (us : List V) H', SameB p H H' → Ur H' p (n + 1) → H' L = some (.lst us) → us.length ≤ 10 → (∀ v ∈ us, OtherV K C H' v ms sg) → Q (.ref L) H'
section
variable {P : Program} {w : World} {K : PySem.W.Frag} {mg : Str → Option Value} {base : Heap}
theorem ok_l_others (T : Tx K mg) : FnOk P w K mg base CX0 7 T.a_l_others T.fd_l_others ["_law_urn_here", "_law_menu", "_law_signs"] (spOthers K T.C) := by
  refine T.F_l_others.ok sc_l_others (fun vs H Q E h => ?_) (fun cdv A outer s H vs Q E hr h => ?_)
  · obtain ⟨p, t, ms, sg, n, rfl, _⟩ := h
    rfl
  · obtain ⟨p, t, ms, sg, n, rfl, ur, hn, hT, mo, mk, k⟩ := h
    refine ⟨_, (pss_cons (ps_set (i := 3) sc_l_others.nd rfl (Or.inl rfl) (pe_call (ok_l_draw T) (hr.mono (by decide)) rfl T.g_l_draw T.F_l_draw.kp T.b_l_draw .nil pass0 (pa_cons (pv 0) (pa_cons (pe_callB call_len_seq (by rfl) T.n_len (by decide +kernel) (pa_cons (pv 1) pa_nil)) pa_nil))))
      (pss_cons (ps_set (i := 4) sc_l_others.nd rfl (Or.inl rfl) (pe_ifExp (pt_cmpR op_eq (pe_ix ix_str (pv 2) (pv 3) (fun _ _ => rfl)) pe_str (nomark _)) pe_str pe_str))
      (pss_cons (ps_set (i := 5) sc_l_others.nd rfl (Or.inl rfl) (pe_lst (pa_cons (pe_make T.mkc (ok_LookD_initD T) (hr.mono (by decide)) rfl T.g_Look T.b_LookD_initD .nil pass0 (pa_cons (pv 1) (pa_cons (pe_op op_add_str (pe_op op_add_str (pe_slice sl_str (pv 2) po_none (po_some (pv 3))) (pv 4)) (pe_slice sl_str (pv 2) (po_some (pe_op op_add (pv 3) pe_int)) po_none)) pa_nil))) (pa_cons (pe_call (ok_l_text T) (hr.mono (by decide)) rfl T.g_l_text T.F_l_text.kp T.b_l_text .nil pass0 (pa_cons (pe_tup (pa_cons (pv 1) (pa_cons (pv 2) pa_nil))) pa_nil)) (pa_cons (pe_tup (pa_cons (pv 1) (pa_cons (pv 2) pa_nil))) (pa_cons (pv 1) (pa_cons pe_non (pa_cons pe_int pa_nil))))))))
      (pss_cons (ps_if (pt_cmpR op_gt (pe_callB call_len_seq (by rfl) T.n_len (by decide +kernel) (pa_cons (pv 1) pa_nil)) pe_int (nomark _))
        (pss_one (ps_expr (pe_bm PySem.F.plainAttrs_list PySem.F.slot_list_append PySem.F.type_list_append mt_append (pv 5) (pa_cons (pe_make T.mkc (ok_LookD_initD T) (hr.mono (by decide)) rfl T.g_Look T.b_LookD_initD .nil pass0 (pa_cons (pe_op op_catA (pe_slice sl_tupA (pv 1) po_none (po_some (pv 3))) (pe_slice sl_tupA (pv 1) (po_some (pe_op op_add (pv 3) pe_int)) po_none)) (pa_cons (pe_op op_mulS pe_str (pe_op op_sub (pe_callB call_len_seq (by rfl) T.n_len (by decide +kernel) (pa_cons (pv 1) pa_nil)) pe_int)) pa_nil))) pa_nil))))
        pss_nil)
      (pss_cons (ps_if (pt_cmpR op_lt (pe_callB call_len_str (by rfl) T.n_len (by decide +kernel) (pa_cons (pe_ix ix_tup (pv 1) (pe_un un_neg pe_int) (fun _ _ => rfl)) pa_nil)) pe_int (nomark _))
        (pss_one (ps_expr (pe_bm PySem.F.plainAttrs_list PySem.F.slot_list_append PySem.F.type_list_append mt_append (pv 5) (pa_cons (pe_make T.mkc (ok_LookD_initD T) (hr.mono (by decide)) rfl T.g_Look T.b_LookD_initD .nil pass0 (pa_cons (pe_op op_catA (pe_slice sl_tupA (pv 1) po_none (po_some (pe_un un_neg pe_int))) (pe_tup (pa_cons (pe_op op_add_str (pe_ix ix_tup (pv 1) (pe_un un_neg pe_int) (fun _ _ => rfl)) pe_str) pa_nil))) (pa_cons (pv 2) pa_nil))) pa_nil))))
        pss_nil)
      (pss_one (ps_ret (pv 5)))))))), ?_⟩
    have lm : (ms.map V.str).length = ms.length := List.length_map _
    have le := mo.le
    have pos : 0 < ms.length := List.length_pos_iff.mpr mo.ne
    have mk' := marks_of mk
    have ln := mk'.len
    have lsg : sg.length = ms.length := by rw [len_cps]; exact ln
    refine ⟨_, rfl, _, rfl, t, _, rfl, .inr hT, p, _, n, rfl, ur, by omega, by omega, by omega, fun d H1 d0 d1 sb1 ur1 => ?_⟩
    obtain ⟨i, rfl⟩ := Int.eq_ofNat_of_zero_le d0
    have hi : i < ms.length := by omega
    have hT1 := ur.sqt sb1 hT
    have g : sg.cps.toList[i]? = some (sg.cps.toList.getD i 0) := by
      rw [List.getD_eq_getElem?_getD, List.getElem?_eq_getElem (by omega)]
      rfl
    refine ⟨_, rfl, _, rfl, sg, (i : Int), _, rfl, rfl, le_line (by omega), atI_nat g, rfl, _, rfl, ?_⟩
    have ed : decide (V.str (⟨#[sg.cps.toList.getD i 0]⟩ : Str) = V.str ("+" : Str)) = decide (sg.cps.toList.getD i 0 = 43) := by rw [plus_sgn]; exact dec_sgn _ 43
    rw [ed]
    refine (fun (F : ∀ (z : Str) (c : Nat), z = sgn c → (c = 43 ∨ c = 63) → ¬ sg.cps.toList.getD i 0 = c → gName 4 (V.str z) _ _ _) => ite2 (fun c => F _ 63 ask_sgn (.inr rfl) ?_) (fun c => F _ 43 plus_sgn (.inl rfl) ?_)) ?_
    · have := of_decide_eq_true c
      omega
    · simpa using c
    intro z c ez hc hne
    subst ez
    have ex1 : (cutS sg none (some (i : Int)) ++ sgn c).cps.toList = sg.cps.toList.take i ++ [c] := by
      rw [cps_app, cut_to]
      rfl
    have ex2 : ((cutS sg none (some (i : Int)) ++ sgn c) ++ cutS sg (some ((i : Int) + 1)) none).cps.toList = sg.cps.toList.take i ++ [c] ++ sg.cps.toList.drop (i + 1) := by
      rw [cps_app, ex1, show (i : Int) + 1 = ((i + 1 : Nat) : Int) from rfl, cut_behind]
    have mk2 : marksB ((cutS sg none (some (i : Int)) ++ sgn c) ++ cutS sg (some ((i : Int) + 1)) none) ms.length = true := by
      rw [str_ext (a := (cutS sg none (some (i : Int)) ++ sgn c) ++ cutS sg (some ((i : Int) + 1)) none) (b := ⟨(sg.cps.toList.take i ++ [c] ++ sg.cps.toList.drop (i + 1)).toArray⟩) ex2]
      exact marks_ok (marks_set mk hi hc)
    have ne2 : (decide (ms = ms) && decide (sg = (cutS sg none (some (i : Int)) ++ sgn c) ++ cutS sg (some ((i : Int) + 1)) none)) = false := by
      rw [Bool.and_eq_false_iff]
      refine .inr (decide_eq_false fun e => ?_)
      have q : sg.cps.toList = _ := (congrArg (fun z : Str => z.cps.toList) e).trans ex2
      exact marks_set_ne (by omega) hne q
    have l1 : (cutS sg none (some (i : Int))).length ≤ 10 := by
      rw [len_cps, cut_to, List.length_take]
      omega
    have l2 : (cutS sg (some ((i : Int) + 1)) none).length ≤ 10 := by
      rw [len_cps, show (i : Int) + 1 = ((i + 1 : Nat) : Int) from rfl, cut_behind, List.length_drop]
      omega
    have l3 : (cutS sg none (some (i : Int)) ++ sgn c).length ≤ 11 := by
      rw [len_cps, ex1, List.length_append, List.length_take]
      show _ + 1 ≤ 11
      omega
    have ls1 : (sgn c).length = 1 := rfl
    refine ⟨_, rfl, _, rfl, _, rfl, _, rfl, _, rfl, le_line (by omega), _, rfl, _, _, rfl, rfl, le_line (by rw [ls1]; omega), _, rfl, _, rfl, _, _, rfl, rfl, _, rfl, _, rfl, le_line (by omega), _, _, rfl, rfl, le_line (by omega), fun y dy ny ndy hny => lk_made hT1 mo mk2 ny ndy hny fun H2 s2 la2 => ?_⟩
    clear ex1 ex2 mk2
    generalize (cutS sg none (some (i : Int)) ++ sgn c) ++ cutS sg (some ((i : Int) + 1)) none = sg2 at la2 ne2
    have hz8 : ∀ z ∈ ms, z.length ≤ 100 := fun z hz => Nat.le_trans (nameOk_len (mo.ok z hz)) (by decide)
    have hT2 := s2.sqt hT1
    refine ⟨_, rfl, _, rfl, (by show 2 ≤ sizeLine; decide), fun q nq => ?_⟩
    have sq := Same.new nq (o := .tup [.ref t, .str sg])
    refine ⟨q, t, ms, sg, rfl, tup_of upd_same, sq.sqt hT2, by omega, ln, hz8, fun H3 s3 => ?_⟩
    refine ⟨_, rfl, _, rfl, (by show 2 ≤ sizeLine; decide), fun q2 nq2 => ?_⟩
    have sq2 := Same.new nq2 (o := .tup [.ref t, .str sg])
    refine ⟨_, rfl, (by show 6 ≤ sizeLine; decide), fun F nF => ?_⟩
    have hbF : ∀ (b : Addr) (o : HO), b ≠ p → H b = some o → (upd H3 q2 (.tup [.ref t, .str sg])) b = some o := fun b o nb hb => sq2 _ _ (s3 _ _ (sq _ _ (s2 _ _ (sb1 b o nb hb))))
    have sF := Same.new nF (o := .lst [.ref y, .str (lineOf ms sg), .ref q2, .ref t, .non, .int 0])
    have s25 := (sq.trans s3).trans (sq2.trans sF)
    have eF : (upd (upd H3 q2 (.tup [.ref t, .str sg])) F (.lst [.ref y, .str (lineOf ms sg), .ref q2, .ref t, .non, .int 0])) F = some (.lst [.ref y, .str (lineOf ms sg), .ref q2, .ref t, .non, .int 0]) := upd_same
    have eq2 : (upd (upd H3 q2 (.tup [.ref t, .str sg])) F (.lst [.ref y, .str (lineOf ms sg), .ref q2, .ref t, .non, .int 0])) q2 = some (.tup [.ref t, .str sg]) := sF _ _ upd_same
    have la5 := la2.same s25
    have hT5 := s25.sqt hT2
    have s15 : Same H1 _ := s2.trans s25
    generalize upd (upd H3 q2 (.tup [.ref t, .str sg])) F _ = H5 at s25 eF eq2 la5 hT5 s15 ⊢
    clear sF sq sq2
    have npF : p ≠ F := fun e => by
      obtain ⟨x0, y0, z0, hp0, _⟩ := ur1.same s15
      rw [e, eF] at hp0
      cases hp0
    have ur5 := ur1.same s15
    have g5 : ∀ v ∈ [V.ref y, .str (lineOf ms sg), .ref q2, .ref t, .non, .int 0], OtherV K T.C H5 v ms sg := fun v hv => by
      simp only [List.mem_cons, List.not_mem_nil, or_false] at hv
      rcases hv with rfl | rfl | rfl | rfl | rfl | rfl
      · exact .inl ⟨y, t, ms, sg2, rfl, la5, ne2⟩
      · exact .inr (.inl ⟨_, rfl⟩)
      · exact .inr (.inr (.inr (.inr ⟨q2, _, rfl, tup_of eq2⟩)))
      · exact .inr (.inr (.inr (.inr ⟨t, _, rfl, hT5⟩)))
      · exact .inr (.inr (.inl rfl))
      · exact .inr (.inr (.inr (.inl ⟨_, rfl⟩)))
    have l5 : [V.ref y, .str (lineOf ms sg), .ref q2, .ref t, .non, .int 0].length = 6 := rfl
    have sb15 := sb1.trans (SameB.of s15)
    clear s25 s15 eq2 la5 ne2 la2 s2 s3
    generalize [V.ref y, .str (lineOf ms sg), .ref q2, .ref t, .non, .int 0] = us5 at eF g5 l5
    have nTF : ∀ {H' : Hp}, SameB F H5 H' → SqT K H' t (ms.map V.str) := fun s => s.sqt eF hT5
    /- one more look -/
    have more : ∀ {H0 H1 : Hp} {us : List V} {b m2 : Addr} {ms2 : List Str} {sg2 : Str}, H0 F = some (.lst us) → (∀ v ∈ us, OtherV K T.C H0 v ms sg) → Same H0 H1 → LkAt K T.C H1 b m2 ms2 sg2 → (decide (ms = ms2) && decide (sg = sg2)) = false →
        ∀ v ∈ us ++ [V.ref b], OtherV K T.C (upd H1 F (.lst (us ++ [V.ref b]))) v ms sg := fun {H0 H1 us b m2 ms2 sg2} e0 g0 s0 la ne v hv => by
      have e1 := s0 _ _ e0
      have sb : SameB F H1 (upd H1 F (.lst (us ++ [V.ref b]))) := (SameB.refl F H1).put
      rcases List.mem_append.mp hv with h | h
      · exact otherV_same (otherV_same (g0 v h) (SameB.of s0) e0) sb e1
      · rw [List.mem_singleton.mp h]
        exact .inl ⟨b, m2, ms2, sg2, rfl, la.sameB sb e1, ne⟩
    have urK : ∀ {H' : Hp}, SameB F H5 H' → Ur H' p (n + 1) := fun s => by
      obtain ⟨x0, y0, z0, hp0, r⟩ := ur5
      exact ⟨x0, y0, z0, s _ _ npF hp0, r⟩
    obtain ⟨ms0, zl, ems⟩ : ∃ ms0 zl, ms = ms0 ++ [zl] := ⟨ms.dropLast, ms.getLast mo.ne, (List.dropLast_concat_getLast mo.ne).symm⟩
    have at1 : atI (ms.map V.str) (-1) = some (.str zl) := by
      rw [ems, List.map_append]
      exact atI_last _ _
    have zl8 : zl.length ≤ 8 := nameOk_len (mo.ok zl (by rw [ems]; simp))
    refine ⟨_, rfl, t, _, rfl, .inr hT5, _, _, rfl, rfl, _, rfl, ite2 (fun c => ?a1) (fun c => ?a2)⟩
    case' a1 =>
      have c1 : 1 < ms.length := by
        have := of_decide_eq_true c
        omega
      refine ⟨_, rfl, .inl ⟨rfl, _, lst_of eF⟩, ?_⟩
      have ls2 : (ms.take i ++ ms.drop (i + 1)).length = ms.length - 1 := by
        rw [List.length_append, List.length_take, List.length_drop]
        omega
      have ne3 : (decide (ms = ms.take i ++ ms.drop (i + 1)) && decide (sg = (⟨(List.replicate (ms.length - 1) 63).toArray⟩ : Str))) = false := by
        rw [Bool.and_eq_false_iff]
        refine .inl (decide_eq_false fun e => ?_)
        have := congrArg List.length e
        omega
      have mk3 : marksB (⟨(List.replicate (ms.length - 1) 63).toArray⟩ : Str) (ms.take i ++ ms.drop (i + 1)).length = true := by
        rw [ls2]
        exact marks_ok (ask_marks _ (by omega))
      have en : (((ms.map V.str).length : Nat) : Int) - 1 = ((ms.length - 1 : Nat) : Int) := by omega
      refine ⟨_, rfl, _, rfl, _, rfl, slA_of hT5 fun b1 H6 s6 hb1 => ?_⟩
      refine ⟨_, rfl, _, rfl, _, _, rfl, rfl, _, rfl, ?_⟩
      dsimp only [tNoPart]
      refine slA_of (s6.sqt hT5) fun b2 H7 s7 hb2 => ?_
      rw [cut_upto] at hb1
      rw [show (i : Int) + 1 = ((i + 1 : Nat) : Int) from rfl, cut_from] at hb2
      refine catA_of (s7.sqt hb1) hb2 (by rw [List.length_take, List.length_drop]; omega) fun m2 H8 s8 hm2 => ?_
      rw [← List.map_take, ← List.map_drop, ← List.map_append] at hm2
      have s58 := s6.trans (s7.trans s8)
      refine ⟨_, rfl, t, _, rfl, .inr (s58.sqt hT5), _, _, rfl, rfl, _, _, rfl, rfl, (by rw [ask_sgn, en]; exact mul_ok1 (by omega)), ?_⟩
      rw [ask_sgn, en, show sgn 63 = (⟨#[63]⟩ : Str) from rfl, mul_one]
      refine fun y2 dy2 ny2 ndy2 hny2 => lk_made hm2 (menu_less mo c1 hi) mk3 ny2 ndy2 hny2 fun H9 s9 la9 => ?_
      have s59 := s58.trans s9
      refine ⟨F, us5, V.ref y2, rfl, rfl, s59 _ _ eF, lt_line (by omega), ?_⟩
      have g9 := more eF g5 s59 la9 ne3
      have e9 : (upd H9 F (.lst (us5 ++ [V.ref y2]))) F = some (.lst (us5 ++ [V.ref y2])) := upd_same
      have b9 : SameB F H5 (upd H9 F (.lst (us5 ++ [V.ref y2]))) := (SameB.of s59).put
      have l9 : (us5 ++ [V.ref y2]).length ≤ 7 := by
        rw [List.length_append, l5]
        show 6 + 1 ≤ 7
        decide
      clear la9 s59 s9 hm2 s58 s8 hb1 hb2 s7 s6
      generalize upd H9 F (.lst (us5 ++ [V.ref y2])) = H6 at g9 e9 b9 ⊢
      generalize us5 ++ [V.ref y2] = us6 at g9 e9 l9
    case' a2 =>
      have g9 := g5
      have e9 := eF
      have b9 := SameB.refl F H5
      have l9 : us5.length ≤ 7 := by omega
      generalize hus : us5 = us6 at g9 e9 l9
      obtain ⟨H6, hH6⟩ : ∃ H6, H6 = H5 := ⟨H5, rfl⟩
      rw [← hH6] at g9 e9
      rw [show SameB F H5 H5 = SameB F H5 H6 by rw [hH6]] at b9
      rw [← hH6]
    all_goals
      have hT6 := nTF b9
      refine ⟨_, rfl, _, rfl, t, _, _, _, rfl, rfl, hT6, at1, zl, rfl, le_line (by omega), _, _, rfl, rfl, _, rfl, ite2 (fun c => ?_) (fun c => ?_)⟩
      · have c2 : zl.length ≤ 7 := by
          have := of_decide_eq_true c
          omega
        have mo3 : MenuN (ms0 ++ [zl ++ (⟨#[97]⟩ : Str)]) := menu_long (by rw [← ems]; exact mo) c2
        have ne3 : (decide (ms = ms0 ++ [zl ++ (⟨#[97]⟩ : Str)]) && decide (sg = sg)) = false := by
          rw [Bool.and_eq_false_iff]
          refine .inl (decide_eq_false fun e => ?_)
          rw [ems] at e
          have q := List.append_cancel_left e
          injection q with q
          have := congrArg Str.length q
          rw [len_app1] at this
          omega
        have mk3 : marksB sg (ms0 ++ [zl ++ (⟨#[97]⟩ : Str)]).length = true := by
          have : (ms0 ++ [zl ++ (⟨#[97]⟩ : Str)]).length = ms.length := by rw [ems, List.length_append, List.length_append]; rfl
          rw [this]
          exact mk
        refine ⟨_, rfl, .inl ⟨rfl, _, lst_of e9⟩, ?_⟩
        refine ⟨_, rfl, _, rfl, _, rfl, slA_of hT6 fun b1 H7 s7 hb1 => ?_⟩
        rw [ems, List.map_append, show [zl].map V.str = [V.str zl] from rfl, cut_init_v] at hb1
        have hT7 := s7.sqt hT6
        refine ⟨_, rfl, _, rfl, t, _, _, _, rfl, rfl, hT7, at1, _, _, rfl, rfl, ?_, (by show 1 ≤ sizeLine; decide), fun q nq => ?_⟩
        · have e1 : ("a" : Str).length = 1 := by decide +kernel
          rw [e1]
          exact le_line (by omega)
        have sq := Same.new nq (o := .tup [.str (zl ++ ("a" : Str))])
        refine catA_of (sq.sqt hb1) (tup_of upd_same) (by rw [List.length_map]; have := congrArg List.length ems; rw [List.length_append] at this; show ms0.length + 1 ≤ 100000; have : [zl].length = 1 := rfl; omega) fun m2 H8 s8 hm2 => ?_
        have ea : ms0.map V.str ++ [V.str (zl ++ ("a" : Str))] = (ms0 ++ [zl ++ (⟨#[97]⟩ : Str)]).map V.str := by
          rw [List.map_append, show ("a" : Str) = (⟨#[97]⟩ : Str) by decide +kernel]
          rfl
        rw [ea] at hm2
        refine ⟨_, rfl, fun y2 dy2 ny2 ndy2 hny2 => lk_made hm2 mo3 mk3 ny2 ndy2 hny2 fun H9 s9 la9 => ?_⟩
        have s79 := s7.trans (sq.trans (s8.trans s9))
        refine ⟨F, us6, V.ref y2, rfl, rfl, s79 _ _ e9, lt_line (by omega), ?_⟩
        have g10 := more e9 g9 s79 la9 ne3
        have b10 : SameB F H5 (upd H9 F (.lst (us6 ++ [V.ref y2]))) := b9.trans (SameB.of s79).put
        refine ⟨_, rfl, k F _ _ (fun b o nb hb => ?_) (urK b10) upd_same (by rw [List.length_append]; show us6.length + 1 ≤ 10; omega) g10⟩
        exact b10 b o (ne_of_none (hbF b o nb hb) nF) (sb15 b o nb hb)
      · exact ⟨_, rfl, k F _ _ (fun b o nb hb => b9 b o (ne_of_none (hbF b o nb hb) nF) (sb15 b o nb hb)) (urK b9) e9 (by omega) g9⟩
end
end MH
namespace MH
open PySem PySem.Spec PyProof.Rows L2
/-! ### the law -/
theorem twoB_show {K : PySem.W.Frag} {H : Hp} {L : Addr} {a b : Bool} (hL : SqL K H L [V.bl a, V.bl b]) : ShowOk K H L (.list [.bool a, .bool b]) := by
  refine show_of (.lst hL (.cons (.bl a) (.cons (.bl b) .nil))) rfl ?_ ?_
  · simp only [PyData.depth, PyData.depthAll]
    decide
  · show 5 + 2 + (5 + 2 + 0) + 3 ≤ 100000
    decide
theorem threeB_show {K : PySem.W.Frag} {H : Hp} {L : Addr} {a b c : Bool} (hL : SqL K H L [V.bl a, V.bl b, V.bl c]) : ShowOk K H L (.list [.bool a, .bool b, .bool c]) := by
  refine show_of (.lst hL (.cons (.bl a) (.cons (.bl b) (.cons (.bl c) .nil)))) rfl ?_ ?_
  · simp only [PyData.depth, PyData.depthAll]
    decide
  · show 5 + 2 + (5 + 2 + (5 + 2 + 0)) + 3 ≤ 100000
    decide
theorem shown_tf : (PyData.list [.bool true, .bool (!true)]).shown = "[True, False]" := by decide +kernel
theorem shown_ft : (PyData.list [.bool false, .bool (!false)]).shown = "[False, True]" := by decide +kernel
theorem shown_ttf : (PyData.list [.bool true, .bool true, .bool (!true)]).shown = "[True, True, False]" := by decide +kernel
/-- what is taken and passed tells the marks -/
theorem just_back {ms : List Str} {sg : Str} (mo : MenuN ms) (mk : marksB sg ms.length = true) (h : 63 ∉ sg.cps.toList) : withM ms sg 43 ≠ [] ∧ (withM ms sg 43).Pairwise ltS ∧ justM ms (withM ms sg 43) = sg := by
  have mk' := marks_of mk
  have ln := mk'.len
  have at_ : ∀ i, (hi : i < ms.length) → sg.cps.toList.getD i 0 = sg.cps.toList[i]'(by omega) := fun i hi => by
    rw [List.getD_eq_getElem?_getD, List.getElem?_eq_getElem (by omega)]
    rfl
  have msat : ∀ i, (hi : i < ms.length) → ms.getD i "" = ms[i] := fun i hi => by
    rw [List.getD_eq_getElem?_getD, List.getElem?_eq_getElem hi]
    rfl
  have mem : ∀ i, (hi : i < ms.length) → (ms[i] ∈ withM ms sg 43 ↔ sg.cps.toList.getD i 0 = 43) := fun i hi => by
    unfold withM
    rw [List.mem_map]
    constructor
    · rintro ⟨j, hj, e⟩
      rw [List.mem_filter, List.mem_range, decide_eq_true_eq] at hj
      rw [msat j hj.1] at e
      have := (List.getElem_inj mo.nd).mp e
      subst this
      exact hj.2
    · intro e
      exact ⟨i, List.mem_filter.mpr ⟨List.mem_range.mpr hi, decide_eq_true e⟩, msat i hi⟩
  refine ⟨?_, ?_, ?_⟩
  · obtain ⟨c, hc, ne⟩ := mk'.one
    obtain ⟨i, hi, e⟩ := List.mem_iff_getElem.mp hc
    have c43 : c = 43 := by
      rcases mk'.ok c hc with q | q | q
      · exact q
      · exact absurd q ne
      · rw [q] at hc
        exact absurd hc h
    have hi2 : i < ms.length := by omega
    exact List.ne_nil_of_mem ((mem i hi2).mpr (by rw [at_ i hi2, e, c43]))
  · have sub : (withM ms sg 43).Sublist ms := by
      have q := (List.filter_sublist (p := fun i => decide (sg.cps.toList.getD i 0 = 43)) (l := List.range ms.length)).map fun i => ms.getD i ""
      rw [range_names] at q
      exact q
    exact mo.up.sublist sub
  · refine str_ext ?_
    show (ms.map fun z => if z ∈ withM ms sg 43 then 43 else 45) = sg.cps.toList
    refine List.ext_getElem (by rw [List.length_map, ln]) fun i h1 h2 => ?_
    rw [List.length_map] at h1
    rw [List.getElem_map]
    have e := mem i h1
    rw [at_ i h1] at e
    by_cases q : sg.cps.toList[i] = 43
    · rw [if_pos (e.mpr q), q]
    · rw [if_neg fun z => q (e.mp z)]
      rcases mk'.ok _ (List.getElem_mem h2) with r | r | r
      · exact absurd r q
      · exact r.symm
      · exact absurd (r ▸ List.getElem_mem h2) h
theorem other_ty {K : PySem.W.Frag} {C : Addr} {H : Hp} {v : V} {ms : List Str} {sg : Str} (c : Cls K C) (ob : PySem.W.mroIn K C (.type "object") = some true) (h : OtherV K C H v ms sg) :
    (∃ (b n : Addr) (ms2 : List Str) (sg2 : Str), v = .ref b ∧ LkAt K C H b n ms2 sg2 ∧ (decide (ms = ms2) && decide (sg = sg2)) = false) ∨ ∃ N : String, TyX K H v (.type N) ∧ PySem.W.subIn K (.type N) (.ref C) = some false := by
  rcases h with h | ⟨z, rfl⟩ | rfl | ⟨i, rfl⟩ | ⟨a, xs, rfl, ht⟩
  · exact .inl h
  · exact .inr ⟨"str", .base (.str _), sub_ty (l := [.type "str", .type "object"]) (by decide +kernel) rfl⟩
  · exact .inr ⟨"NoneType", .base .non, sub_ty (l := [.type "NoneType", .type "object"]) (by decide +kernel) rfl⟩
  · exact .inr ⟨"int", .base (.int _), sub_ty (l := [.type "int", .type "object"]) (by decide +kernel) rfl⟩
  · exact .inr ⟨"tuple", ht.ty, sub_ty (l := [.type "tuple", .type "object"]) (by decide +kernel) rfl⟩
theorem tyx_same {K : PySem.W.Frag} {H H' : Hp} {v : V} {t : Value} (h : TyX K H v t) (s : Same H H') : TyX K H' v t := by
  cases h with
  | base b =>
    cases b with
    | non => exact .base .non
    | bl x => exact .base (.bl x)
    | int i => exact .base (.int i)
    | str x => exact .base (.str x)
    | flt x => exact .base (.flt x)
    | lst e => exact .base (.lst (s _ _ e))
    | frz e => exact .base (.frz (s _ _ e))
    | tup e => exact .base (.tup (s _ _ e))
    | dK e => exact .base (.dK (s _ _ e))
    | dT e => exact .base (.dT (s _ _ e))
    | ins e c h1 h2 h3 h4 => exact .base (.ins (s _ _ e) c h1 h2 h3 h4)
  | byt b => exact .byt b
  | set e => exact .set (s _ _ e)
  | kList e c => exact .kList e c
  | kTuple e c => exact .kTuple e c
  | kDict e c => exact .kDict e c
  | fTuple e => exact .fTuple (s _ _ e)
  | fDict e => exact .fDict (s _ _ e)
def spRight (K : PySem.W.Frag) : Sp := fun vs H Q _ => ∃ p, vs = [.ref p] ∧ Ur H p 0 ∧ ∀ H', SameB p H H' → Q (.bl true) H'
section
variable {P : Program} {w : World} {K : PySem.W.Frag} {mg : Str → Option Value} {base : Heap}
theorem g_l_right (T : Tx K mg) : FnG P w K mg base 9 T.a_l_right (spRight K) := by
  refine fun_g T.F_l_right sc_l_right T.b_l_right (fun vs H Q E h => ?_) (fun cdv A outer s H vs Q hg hr h => ?_)
  · obtain ⟨p, rfl, _⟩ := h
    rfl
  · obtain ⟨p, rfl, ur, k⟩ := h
    refine ⟨_, (pss_cons (ps_set (i := 1) sc_l_right.nd rfl (Or.inr rfl) (pe_call (ok_l_names T) (hr.mono (by decide)) rfl T.g_l_names T.F_l_names.kp T.b_l_names .nil pass0 (pa_cons (pv 0) (pa_cons (pe_op op_add pe_int (pe_call (ok_l_draw T) (hr.mono (by decide)) rfl T.g_l_draw T.F_l_draw.kp T.b_l_draw .nil pass0 (pa_cons (pv 0) (pa_cons pe_int pa_nil)))) pa_nil))))
      (pss_cons (ps_set (i := 2) sc_l_right.nd rfl (Or.inr rfl) (pe_call (ok_l_marks T) (hr.mono (by decide)) rfl T.g_l_marks T.F_l_marks.kp T.b_l_marks .nil pass0 (pa_cons (pv 0) (pa_cons (pe_callB call_len_seq (by rfl) T.n_len (by decide +kernel) (pa_cons (pv 1) pa_nil)) pa_nil))))
      (pss_cons (ps_par (i := 3) (j := 4) rfl sc_l_right.nd rfl rfl (by decide) rfl rfl (pa_cons (pe_make T.mkc (ok_LookD_initD T) (hr.mono (by decide)) rfl T.g_Look T.b_LookD_initD .nil pass0 (pa_cons (pv 1) (pa_cons (pv 2) pa_nil))) (pa_cons (ClX.pe_cmeth (pe_glob (v := .ref T.C) rfl T.g_Look rfl) T.crd T.cm_Look_read (FnOk.toR (ok_Look_read T) T.b_Look_read) (hr.mono (by decide)) pass0 (pa_cons (pe_call (ok_l_text T) (hr.mono (by decide)) rfl T.g_l_text T.F_l_text.kp T.b_l_text .nil pass0 (pa_cons (pe_tup (pa_cons (pv 1) (pa_cons (pv 2) pa_nil))) pa_nil)) pa_nil)) pa_nil)) (by rfl))
      (pss_cons (ps_for PassesOwn.never rfl (pi_list (pe_lst (pa_cons (pv 3) (pa_cons (pv 4) (pa_cons (pv 3) pa_nil))))) (pg_name (i := 5) sc_l_right.nd rfl (Or.inl rfl))
        (pss_one (ps_if (pt_not (pt_val (pe_callg (g_l_is T) hg (hr.mono (by decide)) rfl T.g_l_is T.F_l_is.kp (pa_cons (pv 5) (pa_cons (pv 1) (pa_cons (pv 2) pa_nil))))))
        (pss_one (ps_ret pe_bl))
        pss_nil)))
      (pss_cons (ps_if (pt_cmpR op_notIn_sign pe_str (pv 2) (by rfl))
        (pss_cons (ps_set (i := 6) sc_l_right.nd rfl (Or.inl rfl) (pe_callTy call_tupF (by rfl) T.n_tuple (by decide +kernel) (pa_cons (pe_lc (own := [("_law_k", 9)]) (g := gName 9) (tt := _) rfl sc_l_right.nd (pi_range1 (by rfl) T.n_range (pa_cons (pe_callB call_len_seq (by rfl) T.n_len (by decide +kernel) (pa_cons (pv 1) pa_nil)) pa_nil)) (blkOk_by (own := [("_law_k", 9)]) (N := names_l_right) (sc := defScope st_l_right) (by decide +kernel)) (fun _ _ _ _ _ => pg_name (i := 9) sc_l_right.nd rfl (Or.inl rfl)) (fun _ _ _ _ _ => pts_one (pt_cmpR op_eq (pe_ix ix_str (pv 2) (pv 9) (fun _ _ => rfl)) pe_str (nomark _))) (fun _ _ _ _ _ => (pe_ix (r := rIxT K) ix_tup (pv 1) (pv 9) (fun _ _ => rfl)))) pa_nil)))
      (pss_cons (ps_set (i := 7) sc_l_right.nd rfl (Or.inl rfl) (pe_smeth (pe_glob (v := .ref T.C) rfl T.g_Look rfl) T.crd T.sm_Look_just (ok_Look_just T) (hr.mono (by decide)) T.b_Look_just pass0 (pa_cons (pv 1) (pa_cons (pv 6) pa_nil))))
      (pss_one (ps_if (PW.pt (pw_or (pt_not (pt_val (pe_callg (g_l_is T) hg (hr.mono (by decide)) rfl T.g_l_is T.F_l_is.kp (pa_cons (pv 7) (pa_cons (pv 1) (pa_cons (pv 2) pa_nil)))))) (pw_or1 (pt_cmpR op_ne (pe_callB (call_reprD hg hr.units) (by rfl) T.n_repr (by decide +kernel) (pa_cons (pe_lst (pa_cons (pe_cmpR (op_eqO T.m_LookD_eqD (ok_LookD_eqD T) (hr.mono (by decide)) T.b_LookD_eqD pass0) (pv 7) (pv 3) (nomark _)) (pa_cons (pe_cmpR (op_neO T.m_LookD_eqD T.ne T.ob (ok_LookD_eqD T) (hr.mono (by decide)) T.b_LookD_eqD pass0) (pv 7) (pv 3) (nomark _)) pa_nil))) pa_nil)) pe_str (nomark _)))))
        (pss_one (ps_ret pe_bl))
        pss_nil))))
        pss_nil)
      (pss_cons (ps_if (pt_cmpR op_ne (pe_callB (call_reprD hg hr.units) (by rfl) T.n_repr (by decide +kernel) (pa_cons (pe_lst (pa_cons (pe_cmpR (op_eqO T.m_LookD_eqD (ok_LookD_eqD T) (hr.mono (by decide)) T.b_LookD_eqD pass0) (pv 3) (pv 4) (nomark _)) (pa_cons (pe_cmpR (op_eqO T.m_LookD_eqD (ok_LookD_eqD T) (hr.mono (by decide)) T.b_LookD_eqD pass0) (pv 4) (pv 3) (nomark _)) (pa_cons (pe_cmpR (op_neO T.m_LookD_eqD T.ne T.ob (ok_LookD_eqD T) (hr.mono (by decide)) T.b_LookD_eqD pass0) (pv 3) (pv 4) (nomark _)) pa_nil)))) pa_nil)) pe_str (nomark _))
        (pss_one (ps_ret pe_bl))
        pss_nil)
      (pss_cons (ps_for PassesOwn.never rfl (pi_list (pe_call (ok_l_others T) (hr.mono (by decide)) rfl T.g_l_others T.F_l_others.kp T.b_l_others .nil pass0 (pa_cons (pv 0) (pa_cons (pv 1) (pa_cons (pv 2) pa_nil))))) (pg_name (i := 8) sc_l_right.nd rfl (Or.inl rfl))
        (pss_one (ps_if (pt_cmpR op_ne (pe_callB (call_reprD hg hr.units) (by rfl) T.n_repr (by decide +kernel) (pa_cons (pe_lst (pa_cons (pe_cmpR (op_eqX T.m_LookD_eqD (okX_LookD_eqD T) (hr.mono (by decide)) T.b_LookD_eqD pass0) (pv 3) (pv 8) (nomark _)) (pa_cons (pe_cmpR (op_neX T.m_LookD_eqD T.ne T.ob (okX_LookD_eqD T) (hr.mono (by decide)) T.b_LookD_eqD pass0) (pv 3) (pv 8) (nomark _)) pa_nil))) pa_nil)) pe_str (nomark _))
        (pss_one (ps_ret pe_bl))
        pss_nil)))
      (pss_one (ps_ret (pe_and (pe_callg (g_l_is T) hg (hr.mono (by decide)) rfl T.g_l_is T.F_l_is.kp (pa_cons (pv 3) (pa_cons (pv 1) (pa_cons (pv 2) pa_nil)))) (pe_one (pe_callg (g_l_is T) hg (hr.mono (by decide)) rfl T.g_l_is T.F_l_is.kp (pa_cons (pv 4) (pa_cons (pv 1) (pa_cons (pv 2) pa_nil))))))))))))))), ?_⟩
    refine ⟨_, rfl, _, rfl, p, 10, 0, rfl, ur, by decide, by decide, by decide, fun d H1 d0 d1 sb1 ur1 => ⟨_, _, rfl, rfl, ?_⟩⟩
    obtain ⟨j, rfl⟩ := Int.eq_ofNat_of_zero_le d0
    have ej : (1 : Int) + (j : Int) = ((1 + j : Nat) : Int) := by omega
    refine ⟨p, 1 + j, 1, by rw [← ej]; rfl, ur1, by decide, by omega, fun ms t H2 nd so ok lms sb2 ur2 hT => ?_⟩
    have mo : MenuN ms := ⟨fun e => by rw [e] at lms; simp at lms; omega, by omega, ok, sorted_lt nd so⟩
    have lm : (ms.map V.str).length = ms.length := List.length_map _
    refine ⟨_, rfl, _, rfl, t, _, rfl, .inr hT, p, ms.length, 301, by rw [lm]; rfl, ur2, by decide, by omega, by omega, fun cs H3 mk' sb3 ur3 => ?_⟩
    have mk := marks_ok mk'
    have hT3 := ur2.sqt sb3 hT
    generalize esg : (⟨cs.toArray⟩ : Str) = sg at mk ⊢
    have lsg := (marks_of mk).len
    have hz8 : ∀ z ∈ ms, z.length ≤ 100 := fun z hz => Nat.le_trans (nameOk_len (ok z hz)) (by decide)
    have sb03 := sb1.trans (sb2.trans sb3)
    clear sb1 sb2 sb3 hT ur1 ur2
    refine ⟨_, rfl, _, rfl, fun x dx nx ndx hx => lk_made hT3 mo mk nx ndx hx fun H4 s4 la4 => ?_⟩
    have hT4 := s4.sqt hT3
    refine ⟨rfl, _, rfl, _, rfl, (by show 2 ≤ sizeLine; decide), fun q nq => ⟨q, t, ms, sg, rfl, tup_of upd_same, (Same.new nq).sqt hT4, by omega, lsg, hz8, fun H5 s5 => ⟨ms, sg, rfl, mo, mk, fun y m2 H6 s6 lb6 => ⟨_, _, rfl, ?_⟩⟩⟩⟩
    have s46 := (Same.new nq (o := .tup [.ref t, .str sg])).trans (s5.trans s6)
    have la6 := la4.same s46
    have hT6 := s46.sqt hT4
    have ur6 := (ur3.same s4).same s46
    have sb06 := sb03.trans (SameB.of (s4.trans s46))
    clear s46 s5 s6 hT4 hT3 la4 ur3 sb03
    refine ⟨_, rfl, _, rfl, _, rfl, (by show 3 ≤ sizeLine; decide), fun D nD => ?_⟩
    have sD := Same.new nD (o := .lst [.ref x, .ref y, .ref x])
    have eD : (upd H6 D (.lst [.ref x, .ref y, .ref x])) D = some (.lst [.ref x, .ref y, .ref x]) := upd_same
    have la7 := la6.same sD
    have lb7 := lb6.same sD
    have hT7 := sD.sqt hT6
    have ur7 := ur6.same sD
    have sb07 := sb06.trans (SameB.of sD)
    generalize upd H6 D (.lst [.ref x, .ref y, .ref x]) = H7 at eD la7 lb7 hT7 ur7 sb07 ⊢
    clear sD la6 lb6 hT6 ur6 sb06
    refine ⟨D, rfl, ⟨_, lst_of eD⟩, for_list (K := K) (a := D) (xs := [V.ref x, V.ref y, V.ref x]) (fun i σ H' => (∃ v5 : Option V, σ = [some (.ref p), some (.ref t), some (.str sg), some (.ref x), some (.ref y), v5, none, none, none, none]) ∧ Same H7 H') ⟨⟨none, rfl⟩, Same.refl _⟩ (fun i σ H' _ h => lst_of (h.2 _ _ eD)) ?_ ?_⟩
    · rintro i z σ H8 hz ⟨⟨v5, rfl⟩, s8⟩
      obtain ⟨b, mb, rfl, lc⟩ : ∃ b mb, z = V.ref b ∧ LkAt K T.C H8 b mb ms sg := by
        match i, hz with
        | 0, hz => exact ⟨x, t, (Option.some.inj hz).symm, la7.same s8⟩
        | 1, hz => exact ⟨y, m2, (Option.some.inj hz).symm, lb7.same s8⟩
        | 2, hz => exact ⟨x, t, (Option.some.inj hz).symm, la7.same s8⟩
        | i + 3, hz => simp at hz
      exact ⟨_, rfl, _, rfl, _, rfl, b, mb, t, ms, sg, rfl, lc, s8.sqt hT7, fun H9 s9 => ⟨true, rfl, iteF ⟨⟨_, rfl⟩, s8.trans s9⟩⟩⟩
    · rintro σ H8 ⟨⟨v5, rfl⟩, s8⟩
      have la8 := la7.same s8
      have lb8 := lb7.same s8
      have hT8 := s8.sqt hT7
      have ur8 := ur7.same s8
      have sb08 := sb07.trans (SameB.of s8)
      clear la7 lb7 hT7 ur7 sb07 s8 eD
      obtain ⟨dx8, ex8, _⟩ := id la8
      obtain ⟨dy8, ey8, _⟩ := id lb8
      have e63 : V.str ("?" : Str) = V.str (⟨#[63]⟩ : Str) := by rw [ask_sgn]; rfl
      refine ⟨_, rfl, 63, sg, e63, rfl, _, rfl, ite2 (fun c => ?a1) (fun c => ?a2)⟩
      case' a1 =>
        have no63 : 63 ∉ sg.cps.toList := by simpa using c
        obtain ⟨jne, jup, jback⟩ := just_back mo mk no63
        have wl : (withM ms sg 43).length ≤ 1000 := Nat.le_trans withM_len (by have := mo.le; omega)
        have ml := mo.le
        refine ⟨_, rfl, t, _, rfl, .inr hT8, _, rfl, by omega, by omega, fun D2 nD2 => lcf (n := ((((ms.map V.str).length : Nat) : Int)).toNat) (walk_range (lo := 0)) (List.range ms.length) (fun j => V.str (ms.getD j "")) (fun j => decide (sg.cps.toList.getD j 0 = 43)) (by rw [List.length_range]; omega) nD2 (by omega) (fun _ _ => trivial) (fun _ _ _ _ _ y => yfn_same y) (fun j u y Ha Hb hu s3 yy Z N hZ hN => ?_) (fun H9 s9 e9 => ?_)⟩
        · have ey : y = V.int ((j : Nat) : Int) := yy.2.trans (congrArg V.int (Int.zero_add _))
          obtain rfl := yy.1
          subst ey
          obtain ⟨hj, rfl⟩ : j < ms.length ∧ j = u := by
            obtain ⟨h, e⟩ := List.getElem?_eq_some_iff.mp hu
            rw [List.getElem_range] at e
            rw [List.length_range] at h
            exact ⟨h, e⟩
          have g : sg.cps.toList[j]? = some (sg.cps.toList.getD j 0) := by
            rw [List.getD_eq_getElem?_getD, List.getElem?_eq_getElem (by omega)]
            rfl
          refine ⟨rfl, _, rfl, _, rfl, sg, (j : Int), _, rfl, rfl, le_line (by rw [len_cps]; omega), atI_nat g, rfl, _, rfl, ?_⟩
          have ed : decide (V.str (⟨#[sg.cps.toList.getD j 0]⟩ : Str) = V.str ("+" : Str)) = decide (sg.cps.toList.getD j 0 = 43) := by rw [plus_sgn]; exact dec_sgn _ 43
          rw [ed]
          refine ite2 (fun c1 => ?_) (fun c1 => ?_)
          · exact ⟨_, rfl, _, rfl, t, _, _, _, rfl, rfl, s3.sqt hT8, atI_nat (ms_get hj), hZ c1 _ (Same.refl _)⟩
          · exact hN (by simpa using c1) _ (Same.refl _)
        refine ⟨D2, _, rfl, .inl ⟨lst_of e9, fun a oa na oda => ?_⟩⟩
        have s10 := s9.new' na (o := .frz oa (.tup (((List.range ms.length).filter fun j => decide (sg.cps.toList.getD j 0 = 43)).map fun j => V.str (ms.getD j ""))))
        have ha : SqT K (upd H9 a (.frz oa (.tup (((List.range ms.length).filter fun j => decide (sg.cps.toList.getD j 0 = 43)).map fun j => V.str (ms.getD j ""))))) a ((withM ms sg 43).map V.str) := by
          unfold withM
          rw [List.map_map]
          exact frz_of upd_same
        generalize upd H9 a _ = H10 at s10 ha ⊢
        refine ⟨rfl, _, rfl, _, rfl, t, a, ms, withM ms sg 43, rfl, s10.sqt hT8, ha, mo, jne, wl, fun z hz => withM_sub z hz, jup, fun z H11 s11 lz => ?_⟩
        rw [jback] at lz
        have s811 := s10.trans s11
        refine ⟨_, rfl, _, rfl, _, rfl, z, t, t, ms, sg, rfl, lz, s811.sqt hT8, fun H12 s12 => ⟨true, rfl, iteF ?_⟩⟩
        have lz12 := lz.same s12
        have s812 := s811.trans s12
        have la12 := la8.same s812
        obtain ⟨dz, ez, _⟩ := id lz12
        have ex12 := s812 _ _ ex8
        refine ⟨_, rfl, _, rfl, z, x, _, _, _, _, rfl, rfl, ez, ex12, z, t, .ref x, ms, sg, true, rfl, lz12, .inl ⟨x, t, ms, sg, rfl, la12, by simp⟩, ⟨_, rfl⟩, ?_⟩
        refine ⟨_, rfl, _, rfl, z, x, _, _, _, _, rfl, rfl, ez, ex12, z, t, .ref x, ms, sg, true, rfl, lz12, .inl ⟨x, t, ms, sg, rfl, la12, by simp⟩, _, rfl, (by show 2 ≤ sizeLine; decide), fun L nL => ?_⟩
        obtain ⟨b1, b2, b3, b4, b5⟩ := twoB_show (K := K) (H := upd H12 L (.lst [.bl true, .bl (!true)])) (L := L) (lst_of upd_same)
        refine ⟨L, _, rfl, b1, b2, b3, b4, b5, rfl, _, rfl, ifF (by rw [shown_tf]; simp) ?_⟩
        have s9 := s812.new' nL (o := .lst [.bl true, .bl (!true)])
        clear b1 b2 b3 b4 b5 ez ex12 lz12 la12 s812 s811 s12 s11 s10 ha lz
        generalize upd H12 L (.lst [.bl true, .bl (!true)]) = H9 at s9 ⊢
      case' a2 =>
        have s9 := Same.refl H8
        obtain ⟨H9, hH⟩ : ∃ H9, H9 = H8 := ⟨H8, rfl⟩
        rw [show Same H8 H8 = Same H8 H9 by rw [hH]] at s9
        rw [← hH]
      all_goals
        have la9 := la8.same s9
        have lb9 := lb8.same s9
        have hT9 := s9.sqt hT8
        have ur9 := ur8.same s9
        have sb09 := sb08.trans (SameB.of s9)
        have ex9 := s9 _ _ ex8
        have ey9 := s9 _ _ ey8
        clear la8 lb8 hT8 ur8 sb08 s9 ex8 ey8
        refine ⟨_, rfl, _, rfl, x, y, _, _, _, _, rfl, rfl, ex9, ey9, x, t, .ref y, ms, sg, true, rfl, la9, .inl ⟨y, m2, ms, sg, rfl, lb9, by simp⟩, ⟨_, rfl⟩, ?_⟩
        refine ⟨_, rfl, _, rfl, y, x, _, _, _, _, rfl, rfl, ey9, ex9, y, m2, .ref x, ms, sg, true, rfl, lb9, .inl ⟨x, t, ms, sg, rfl, la9, by simp⟩, ⟨_, rfl⟩, ?_⟩
        refine ⟨_, rfl, _, rfl, x, y, _, _, _, _, rfl, rfl, ex9, ey9, x, t, .ref y, ms, sg, true, rfl, la9, .inl ⟨y, m2, ms, sg, rfl, lb9, by simp⟩, _, rfl, (by show 3 ≤ sizeLine; decide), fun L nL => ?_⟩
        obtain ⟨b1, b2, b3, b4, b5⟩ := threeB_show (K := K) (H := upd H9 L (.lst [.bl true, .bl true, .bl (!true)])) (L := L) (lst_of upd_same)
        refine ⟨L, _, rfl, b1, b2, b3, b4, b5, rfl, _, rfl, ifF (by rw [shown_ttf]; simp) ?_⟩
        clear b1 b2 b3 b4 b5
        have sL := Same.new nL (o := .lst [.bl true, .bl true, .bl (!true)])
        generalize upd H9 L _ = H10 at sL ⊢
        have la10 := la9.same sL
        have lb10 := lb9.same sL
        have hT10 := sL.sqt hT9
        have ur10 := ur9.same sL
        have sb10 := sb09.trans (SameB.of sL)
        refine ⟨_, rfl, _, rfl, _, rfl, p, t, ms, sg, _, rfl, ur10, by decide, hT10, mo, mk, fun L2 us H11 sb11 ur11 eL lus hus => ?_⟩
        obtain ⟨x0, y0, z0, hp10, _⟩ := id ur10
        have la11 := la10.sameB sb11 hp10
        have lb11 := lb10.sameB sb11 hp10
        have hT11 := sb11.sqt hp10 hT10
        have sb011 := sb10.trans sb11
        clear la10 lb10 la9 lb9 hT10 hT9 ur10 ur9 sb10 sb09
        refine ⟨L2, rfl, ⟨_, lst_of eL⟩, for_list (K := K) (a := L2) (xs := us) (fun i σ H' => (∃ v5 v6 v7 v8 v9 : Option V, σ = [some (.ref p), some (.ref t), some (.str sg), some (.ref x), some (.ref y), v5, v6, v7, v8, v9]) ∧ Same H11 H') ⟨⟨_, _, _, _, _, rfl⟩, Same.refl _⟩ (fun i σ H' _ h => lst_of (h.2 _ _ eL)) ?_ ?_⟩
        · rintro i v σ H12 hv ⟨⟨v5, v6, v7, v8, v9, rfl⟩, s12⟩
          have la12 := la11.same s12
          obtain ⟨dx, ex12, _⟩ := id la12
          rcases other_ty T.cl T.ob (hus v (List.mem_of_getElem? hv)) with ⟨b, n, ms2, sg2, rfl, lb, ne⟩ | ⟨N, ty, sb⟩
          · have lb12 := lb.same s12
            obtain ⟨db, eb12, _⟩ := id lb12
            refine ⟨_, rfl, _, rfl, x, _, _, _, rfl, ex12, T.ty eb12, (by simp [PySem.W.notFirst]), x, t, .ref b, ms, sg, false, rfl, la12, .inl ⟨b, n, ms2, sg2, rfl, lb12, ne.symm⟩, ⟨_, rfl⟩, ?_⟩
            refine ⟨_, rfl, _, rfl, x, _, _, _, rfl, ex12, T.ty eb12, (by simp [PySem.W.notFirst]), x, t, .ref b, ms, sg, false, rfl, la12, .inl ⟨b, n, ms2, sg2, rfl, lb12, ne.symm⟩, _, rfl, (by show 2 ≤ sizeLine; decide), fun L nL => ?_⟩
            obtain ⟨b1, b2, b3, b4, b5⟩ := twoB_show (K := K) (H := upd H12 L (.lst [.bl false, .bl (!false)])) (L := L) (lst_of upd_same)
            refine ⟨L, _, rfl, b1, b2, b3, b4, b5, rfl, _, rfl, ifF (by rw [shown_ft]; simp) ?_⟩
            exact ⟨⟨_, _, _, _, _, rfl⟩, s12.new' nL⟩
          · have ty12 := tyx_same ty s12
            have ko := kit_own T.cl T.cty sb
            refine ⟨_, rfl, _, rfl, x, _, _, _, rfl, ex12, ty12, notFirst_ty sb, x, t, v, ms, sg, false, rfl, la12, .inr ⟨_, ty12, ko, rfl⟩, ⟨_, rfl⟩, ?_⟩
            refine ⟨_, rfl, _, rfl, x, _, _, _, rfl, ex12, ty12, notFirst_ty sb, x, t, v, ms, sg, false, rfl, la12, .inr ⟨_, ty12, ko, rfl⟩, _, rfl, (by show 2 ≤ sizeLine; decide), fun L nL => ?_⟩
            obtain ⟨b1, b2, b3, b4, b5⟩ := twoB_show (K := K) (H := upd H12 L (.lst [.bl false, .bl (!false)])) (L := L) (lst_of upd_same)
            refine ⟨L, _, rfl, b1, b2, b3, b4, b5, rfl, _, rfl, ifF (by rw [shown_ft]; simp) ?_⟩
            exact ⟨⟨_, _, _, _, _, rfl⟩, s12.new' nL⟩
        · rintro σ H12 ⟨⟨v5, v6, v7, v8, v9, rfl⟩, s12⟩
          refine ⟨_, rfl, _, rfl, _, rfl, x, t, t, ms, sg, rfl, la11.same s12, s12.sqt hT11, fun H13 s13 => ⟨true, rfl, iteT ?_⟩⟩
          have s1213 := s12.trans s13
          exact ⟨_, rfl, _, rfl, _, rfl, y, m2, t, ms, sg, rfl, lb11.same s1213, s1213.sqt hT11, fun H14 s14 => k _ (sb011.trans (SameB.of (s1213.trans s14)))⟩
end
end MH
namespace MH
open PySem PySem.Spec PyProof.Rows L2
def spLaw (K : PySem.W.Frag) : Sp := fun vs H Q _ => ∃ (a : Addr) (ns : List Int), vs = [.ref a] ∧ SqL K H a (ns.map V.int) ∧ ns.length ≤ 63 ∧ ∀ H', Q (.bl true) H'
section
variable {P : Program} {w : World} {K : PySem.W.Frag} {mg : Str → Option Value} {base : Heap}
theorem g_law (T : Tx K mg) : FnG P w K mg base 10 T.a_law (spLaw K) := by
  refine fun_g T.F_law sc_law T.b_law (fun vs H Q E h => ?_) (fun cdv A outer s H vs Q hg hr h => ?_)
  · obtain ⟨a, ns, rfl, _⟩ := h
    rfl
  · obtain ⟨a, ns, rfl, hS, hlen, k⟩ := h
    refine ⟨_, (pss_one (ps_ret (pe_callB (cr_all rfl) (by rfl) T.n_all (by decide +kernel) (pa_cons (pe_lc (own := [("_law_k", 1)]) (g := gName 1) (tt := tYes) rfl sc_law.nd (pi_range1 (by rfl) T.n_range (pa_cons (pe_callB (call_max2 rfl) (by rfl) T.n_max (by decide +kernel) (pa_cons pe_int (pa_cons (pe_callB (call_min2 rfl) (by rfl) T.n_min (by decide +kernel) (pa_cons (pe_callB call_len_seq (by rfl) T.n_len (by decide +kernel) (pa_cons (pv 0) pa_nil)) (pa_cons pe_int pa_nil))) pa_nil))) pa_nil)) (blkOk_by (own := [("_law_k", 1)]) (N := names_law) (sc := defScope st_law) (by decide +kernel)) (fun _ _ _ _ _ => pg_name (i := 1) sc_law.nd rfl (Or.inl rfl)) (fun _ _ _ _ _ => pts_nil) (fun _ _ _ _ _ => (pe_callg (g_l_right T) hg (hr.mono (by decide)) rfl T.g_l_right T.F_l_right.kp (pa_cons (pe_call (ok_l_urn T) (hr.mono (by decide)) rfl T.g_l_urn T.F_l_urn.kp T.b_l_urn .nil pass0 (pa_cons (pv 0) (pa_cons (pv 1) pa_nil))) pa_nil)))) pa_nil)))), ?_⟩
    have hl : (ns.map V.int).length = ns.length := List.length_map _
    refine ⟨_, rfl, a, _, rfl, .inl hS, _, _, rfl, _, _, rfl, _, rfl, ?_, ?_, fun D nD => lc_range (lo := 0) (n := _) (fun i H' => Same H H' ∧ H' D = some (.lst (List.replicate i (V.bl true)))) ⟨Same.new nD, upd_same⟩ ?_ ?_⟩
    · omega
    · omega
    · rintro i H1 hi ⟨s1, e1⟩
      have hi : i < 100 := by omega
      refine ⟨rfl, ?_⟩
      rw [show (0 : Int) + (i : Int) = ((i : Nat) : Int) from Int.zero_add _]
      refine ⟨_, rfl, _, rfl, a, ns, i, rfl, s1.sql hS, hlen, by omega, fun H2 p s2 np pu => ⟨p, rfl, pu, fun H3 sb => ?_⟩⟩
      have nDp : D ≠ p := fun e => by
        rw [e, np] at e1
        cases e1
      have e3 := sb _ _ nDp (s2 _ _ e1)
      refine ⟨_, e3, lt_line (by rw [List.length_replicate]; omega), fun b o e => ?_, ?_⟩
      · rw [upd_ne (ne_of_none e nD)]
        have h1 := s1 _ _ e
        exact sb _ _ (ne_of_none h1 np) (s2 _ _ h1)
      · rw [upd_same, List.replicate_succ']
    · rintro H1 ⟨s1, e1⟩
      refine ⟨D, List.replicate _ true, rfl, lst_of (by rw [e1, List.map_replicate]), ?_⟩
      have e : ∀ n : Nat, (List.replicate n true).all id = true := fun n => List.all_eq_true.mpr fun b hb => List.eq_of_mem_replicate hb
      rw [e]
      exact k _
end
section
variable {P : Program} {w : World} {K : PySem.W.Frag} {mg : Str → Option Value} {base : Heap}
theorem walk0 {l : PySem.W.OpenLaw} {q : Program} {loose : List Str} {XP : (Str → Option Value) → Heap → Prop} {YP : World → Heap → Prop} {d : DefRec} {K : Params → PySem.W.Frag}
    (hn : l.most = some 63) (hdf : d.params.defaults = []) (hd : d.name = "law") (hY : ∀ (w : World) (h : Heap), YP w h → (K w.params).In h)
    (F : ∀ (w : World) (mg : Str → Option Value) (fa : Addr) (h : Heap), (K w.params).In h → h.Ns mainGlobals mg → mg "law" = some (.ref fa) → ∃ T : Tx (K w.params) mg, T.a_law = fa) : PySem.W.WalkO q loose XP YP l.row.toRowW d [] (fun f vs => PySem.call f vs) := by
  refine walk_g (sp := spLaw) (k := 10) hn (by decide) hdf ⟨rfl, by decide, by decide⟩ hY (fun w mg fa h KX G hmg base hb hg => ?_) fun K H a ns hl hS => ⟨a, ns, rfl, hS, hl, fun _ => rfl⟩
  rw [hd] at hmg
  obtain ⟨T, rfl⟩ := F w mg fa h KX G hmg
  exact g_law T
end
end MH
open PySem PySem.W PySem.Calls PyProof.Rows in
set_option maxRecDepth 100000 in
set_option maxHeartbeats 0 in
theorem PySem.Challenge.cw_menuhouses_k45_looks_made_and_read_holds : PySem.Challenge.rw_menuhouses_k45_looks_made_and_read.Holds := by
  w_on; o_law
  refine holds_open (r := MHead.R0) (q := MHead.view0) (loose := MHead.loose0) (Xt := MHead.X0) (XP := XL MHead.view0 []) (YP := Hook.says (kHook MHead.K0 MHead.as0 MHead.as0_eq)) MHead.left0 (Hook.of _) (Hook.keeps _) (fun s e => xl_of s (Bool.and_eq_true_iff.mp e).1) XL.keeps (by rfl) (by rfl) (by rfl) (fun s e => recFacts_of (Bool.and_eq_true_iff.mp e).2) (by rfl) (by first | assumption | decide +kernel) (by decide +kernel) ⟨rfl, rfl, rfl, rfl, rfl, by decide +kernel⟩ ?hw ?hc
  case hw => w_witness2
  k_fill
  refine MH.walk0 (l := PySem.Challenge.rw_menuhouses_k45_looks_made_and_read) rfl rfl rfl (fun w h Y => PySem.W.kIn_of Y) ?F
  case F =>
    intro w mg fa h KX G hmg
    refine' MH.tx_of KX G hmg ?cg_Look ?cp_Look ?ch_Look ?co_Look ?cs_Look ?cm_Look ?ck_Look ?cne_Look ?cob_Look ?cca_Look ?ccb_Look ?ccc_Look ?cbo_Look ?cfm_Look ?crd_Look ?cty_Look ?cga_Look ?cn_Look_menu ?cn_Look__marks ?a_is_name ?l_is_name ?c_is_name ?k_is_name ?a_is_filled_tuple ?l_is_filled_tuple ?c_is_filled_tuple ?k_is_filled_tuple ?a_is_one_of ?l_is_one_of ?c_is_one_of ?k_is_one_of ?a_first_wrong_of_names ?l_first_wrong_of_names ?tb_d_first_wrong_of_names ?c_first_wrong_of_names ?k_first_wrong_of_names ?a_first_wrong_on_menu ?l_first_wrong_on_menu ?c_first_wrong_on_menu ?k_first_wrong_on_menu ?a_check_names_of_menu ?l_check_names_of_menu ?c_check_names_of_menu ?k_check_names_of_menu ?a_check_taken ?l_check_taken ?c_check_taken ?k_check_taken ?a_check_thing ?l_check_thing ?c_check_thing ?k_check_thing ?a_index_of ?l_index_of ?c_index_of ?k_index_of ?a_are_marks ?l_are_marks ?c_are_marks ?k_are_marks ?a_look_at_just ?l_look_at_just ?c_look_at_just ?k_look_at_just ?a_LookD_initD ?i_LookD_initD ?l_LookD_initD ?c_LookD_initD ?k_LookD_initD ?a_Look_read ?pr_Look_read ?fi_Look_read ?l_Look_read ?c_Look_read ?k_Look_read ?a_Look_just ?pr_Look_just ?l_Look_just ?c_Look_just ?k_Look_just ?a_Look_marks ?pg_Look_marks ?pt_Look_marks ?pr_Look_marks ?l_Look_marks ?c_Look_marks ?k_Look_marks ?a_Look_taken ?pg_Look_taken ?pt_Look_taken ?pr_Look_taken ?l_Look_taken ?c_Look_taken ?k_Look_taken ?a_Look_passed ?pg_Look_passed ?pt_Look_passed ?pr_Look_passed ?l_Look_passed ?c_Look_passed ?k_Look_passed ?a_LookD_getitemD ?i_LookD_getitemD ?fi_LookD_getitemD ?l_LookD_getitemD ?c_LookD_getitemD ?k_LookD_getitemD ?a_LookD_lenD ?i_LookD_lenD ?l_LookD_lenD ?c_LookD_lenD ?k_LookD_lenD ?a_LookD_strD ?i_LookD_strD ?l_LookD_strD ?c_LookD_strD ?k_LookD_strD ?a_LookD_reprD ?i_LookD_reprD ?l_LookD_reprD ?c_LookD_reprD ?k_LookD_reprD ?a_LookD_eqD ?i_LookD_eqD ?l_LookD_eqD ?c_LookD_eqD ?k_LookD_eqD ?a_l_urn ?l_l_urn ?c_l_urn ?k_l_urn ?a_l_draw ?l_l_draw ?c_l_draw ?k_l_draw ?a_l_name ?l_l_name ?c_l_name ?k_l_name ?a_l_names ?l_l_names ?c_l_names ?k_l_names ?a_l_marks ?l_l_marks ?c_l_marks ?k_l_marks ?a_l_text ?l_l_text ?c_l_text ?k_l_text ?a_l_is ?l_l_is ?c_l_is ?k_l_is ?a_l_others ?l_l_others ?c_l_others ?k_l_others ?a_l_right ?l_l_right ?c_l_right ?k_l_right ?a_law ?l_law ?c_law ?k_law ?v_MOST_THINGS ?v_LETTERS ?v_DIGITS ?v_LONGEST_NAME ?v_MARKS ?z_len ?z_isinstance ?z_all ?z_enumerate ?z_tuple ?z_sorted ?z_abs ?z_int ?z_divmod ?z_range ?z_list ?z_repr ?z_max ?z_min ?z_str ?z_bool ?z_zip
    (case cg_Look => k_is)
    (case cp_Look => k_is)
    (case ch_Look => k_is)
    (case co_Look => k_is)
    (case cs_Look => k_is)
    (case cm_Look => k_is)
    (case ck_Look => k_is)
    (case cne_Look => k_is)
    (case cob_Look => k_is)
    (case cca_Look => k_is)
    (case ccb_Look => k_is)
    (case ccc_Look => k_is)
    (case cbo_Look => k_is)
    (case cfm_Look => k_is)
    (case crd_Look => k_is)
    (case cty_Look => k_is)
    (case cga_Look => k_is)
    (case cn_Look_menu => k_is)
    (case cn_Look__marks => k_is)
    (case a_is_name => k_is)
    (case l_is_name => k_is)
    (case c_is_name => k_is)
    (case k_is_name => k_is)
    (case a_is_filled_tuple => k_is)
    (case l_is_filled_tuple => k_is)
    (case c_is_filled_tuple => k_is)
    (case k_is_filled_tuple => k_is)
    (case a_is_one_of => k_is)
    (case l_is_one_of => k_is)
    (case c_is_one_of => k_is)
    (case k_is_one_of => k_is)
    (case a_first_wrong_of_names => k_is)
    (case l_first_wrong_of_names => k_is)
    (case tb_d_first_wrong_of_names => first | k_is | rfl | decide)
    (case c_first_wrong_of_names => k_is)
    (case k_first_wrong_of_names => k_is)
    (case a_first_wrong_on_menu => k_is)
    (case l_first_wrong_on_menu => k_is)
    (case c_first_wrong_on_menu => k_is)
    (case k_first_wrong_on_menu => k_is)
    (case a_check_names_of_menu => k_is)
    (case l_check_names_of_menu => k_is)
    (case c_check_names_of_menu => k_is)
    (case k_check_names_of_menu => k_is)
    (case a_check_taken => k_is)
    (case l_check_taken => k_is)
    (case c_check_taken => k_is)
    (case k_check_taken => k_is)
    (case a_check_thing => k_is)
    (case l_check_thing => k_is)
    (case c_check_thing => k_is)
    (case k_check_thing => k_is)
    (case a_index_of => k_is)
    (case l_index_of => k_is)
    (case c_index_of => k_is)
    (case k_index_of => k_is)
    (case a_are_marks => k_is)
    (case l_are_marks => k_is)
    (case c_are_marks => k_is)
    (case k_are_marks => k_is)
    (case a_look_at_just => k_is)
    (case l_look_at_just => k_is)
    (case c_look_at_just => k_is)
    (case k_look_at_just => k_is)
    (case a_LookD_initD => k_is)
    (case i_LookD_initD => k_is)
    (case l_LookD_initD => k_is)
    (case c_LookD_initD => k_is)
    (case k_LookD_initD => k_is)
    (case a_Look_read => k_is)
    (case pr_Look_read => k_is)
    (case fi_Look_read => k_is)
    (case l_Look_read => k_is)
    (case c_Look_read => k_is)
    (case k_Look_read => k_is)
    (case a_Look_just => k_is)
    (case pr_Look_just => k_is)
    (case l_Look_just => k_is)
    (case c_Look_just => k_is)
    (case k_Look_just => k_is)
    (case a_Look_marks => k_is)
    (case pg_Look_marks => k_is)
    (case pt_Look_marks => k_is)
    (case pr_Look_marks => k_is)
    (case l_Look_marks => k_is)
    (case c_Look_marks => k_is)
    (case k_Look_marks => k_is)
    (case a_Look_taken => k_is)
    (case pg_Look_taken => k_is)
    (case pt_Look_taken => k_is)
    (case pr_Look_taken => k_is)
    (case l_Look_taken => k_is)
    (case c_Look_taken => k_is)
    (case k_Look_taken => k_is)
    (case a_Look_passed => k_is)
    (case pg_Look_passed => k_is)
    (case pt_Look_passed => k_is)
    (case pr_Look_passed => k_is)
    (case l_Look_passed => k_is)
    (case c_Look_passed => k_is)
    (case k_Look_passed => k_is)
    (case a_LookD_getitemD => k_is)
    (case i_LookD_getitemD => k_is)
    (case fi_LookD_getitemD => k_is)
    (case l_LookD_getitemD => k_is)
    (case c_LookD_getitemD => k_is)
    (case k_LookD_getitemD => k_is)
    (case a_LookD_lenD => k_is)
    (case i_LookD_lenD => k_is)
    (case l_LookD_lenD => k_is)
    (case c_LookD_lenD => k_is)
    (case k_LookD_lenD => k_is)
    (case a_LookD_strD => k_is)
    (case i_LookD_strD => k_is)
    (case l_LookD_strD => k_is)
    (case c_LookD_strD => k_is)
    (case k_LookD_strD => k_is)
    (case a_LookD_reprD => k_is)
    (case i_LookD_reprD => k_is)
    (case l_LookD_reprD => k_is)
    (case c_LookD_reprD => k_is)
    (case k_LookD_reprD => k_is)
    (case a_LookD_eqD => k_is)
    (case i_LookD_eqD => k_is)
    (case l_LookD_eqD => k_is)
    (case c_LookD_eqD => k_is)
    (case k_LookD_eqD => k_is)
    (case a_l_urn => k_is)
    (case l_l_urn => k_is)
    (case c_l_urn => k_is)
    (case k_l_urn => k_is)
    (case a_l_draw => k_is)
    (case l_l_draw => k_is)
    (case c_l_draw => k_is)
    (case k_l_draw => k_is)
    (case a_l_name => k_is)
    (case l_l_name => k_is)
    (case c_l_name => k_is)
    (case k_l_name => k_is)
    (case a_l_names => k_is)
    (case l_l_names => k_is)
    (case c_l_names => k_is)
    (case k_l_names => k_is)
    (case a_l_marks => k_is)
    (case l_l_marks => k_is)
    (case c_l_marks => k_is)
    (case k_l_marks => k_is)
    (case a_l_text => k_is)
    (case l_l_text => k_is)
    (case c_l_text => k_is)
    (case k_l_text => k_is)
    (case a_l_is => k_is)
    (case l_l_is => k_is)
    (case c_l_is => k_is)
    (case k_l_is => k_is)
    (case a_l_others => k_is)
    (case l_l_others => k_is)
    (case c_l_others => k_is)
    (case k_l_others => k_is)
    (case a_l_right => k_is)
    (case l_l_right => k_is)
    (case c_l_right => k_is)
    (case k_l_right => k_is)
    (case a_law => k_is)
    (case l_law => k_is)
    (case c_law => k_is)
    (case k_law => k_is)
    (case v_MOST_THINGS => k_is)
    (case v_LETTERS => k_is)
    (case v_DIGITS => k_is)
    (case v_LONGEST_NAME => k_is)
    (case v_MARKS => k_is)
    (case z_len => k_is)
    (case z_isinstance => k_is)
    (case z_all => k_is)
    (case z_enumerate => k_is)
    (case z_tuple => k_is)
    (case z_sorted => k_is)
    (case z_abs => k_is)
    (case z_int => k_is)
    (case z_divmod => k_is)
    (case z_range => k_is)
    (case z_list => k_is)
    (case z_repr => k_is)
    (case z_max => k_is)
    (case z_min => k_is)
    (case z_str => k_is)
    (case z_bool => k_is)
    (case z_zip => k_is)
