import PyProof.Rows.All
import Wide.All
import OpenK.AllK
import Wide.FinOn
import HandS.ForMost
import HandS.IsInst
import HandS.Property
import HandS.TupAny
import HandS.Strs
import HandS.Conv
import HandS.Defaults
import KE.GoesEnum
import HandS.Walk
import PyProof.ReprLen
import PyProof.StrLawsRepr
import PyProof.FitsInt
import KE.KRevSl
import HandS.OwnEq
import HandS.More
import KE.KOpsOwn
import KE.KCallOwn
import PyProof.InstNe
import HandS.WideBits
import HandS.Zip
import HandS.Star
import KE.KStar
import HandS.MethStar
import OpenK.KMeth
import OpenK.KOps
import KE.KFmtOwn
import HandS.FStr
import HandS.ClsMeth
import HandS.MakeKwOnly
import HandS.RaiseMore
import HandS.Exc
import KE.KTryMore
import HandS.ExcInit
import HandS.ExcField
import HandS.ExcIs
import HandS.Lambda
import HandS.HotCalls
import KE.KExcIs
import HandS.Dict
import KE.DataFind
import HandS.ReplaceLit
import HandS.Style
import HandS.EndTab
import KE.KNestM
import HandS.WordsExc
import HandS.ListEq
import KE.KEqSeq
import HandS.SortOrd
import HandS.SortRule
import KE.KSortTupAny
import HandS.DictComp
import HandS.SortKw
import HandS.TupLe
import HandS.Deep
import PyProof.EnumMake
import HandS.ReplaceList
import HandS.Wide
import OpenK.KDescr
import PyProof.StrBlock2
import HandS.Head0
import HandS.Head1
import HandS.Head2
import PySem.Challenge.RW_menuhouses_k47_look_texts_bent
set_option Elab.async false
set_option linter.all false
set_option maxRecDepth 100000
set_option maxHeartbeats 4000000
/-! Own rules beside the layer: promises that know that no repr is under way (FnG), repr of data, sorted of a tuple of texts, enumerate of a tuple, o.m(k = v). -/
namespace MH
open PySem PySem.Spec PyProof.Rows L2
/-! ### promises of defs that are called while no repr is under way -/
def FnG (P : Program) (w : World) (K : PySem.W.Frag) (mg : Str → Option Value) (base : Heap) (k : Nat) (f : Addr) (sp : Sp) : Prop :=
  ∀ (A : Around) (fr : List Env) (st : Shared) (H : Hp) (us : List Value) (vs : List V) (Q : VK), A.guards = some [] → Room k A → Env0 P w K mg base A fr st H → Vals vs us →
    sp vs H Q E0 → codeAny (model P w) A (.call (.ref f) ⟨us, []⟩) (CR CX0 fr P w H st Q E0) st
section
variable {P : Program} {w : World} {K : PySem.W.Frag} {mg : Str → Option Value} {base : Heap} {k : Nat} {f : Addr} {sp : Sp}
theorem FnG.mono {j : Nat} (F : FnG P w K mg base j f sp) (h : j ≤ k) : FnG P w K mg base k f sp := fun A fr st H us vs Q hg hr => F A fr st H us vs Q hg (hr.mono h)
theorem fg_of {name qual : Str} {pms : Arguments} {body : List Stmt} {sc : Scope} {dV kV doc pm cdv ct oc : Value} {an od : Option Addr} {osl : Array (Option Value)} {N ps : List Str}
    (lk : K.lookup f = some ⟨oc, od, .func (PySem.W.fnOf name qual pms body sc dV kV doc pm an cdv ct), osl⟩) (hc : PySem.W.codeIn K cdv qual = true) (S : FnScope N ps sc)
    (hB : Binds K (PySem.W.fnOf name qual pms body sc dV kV doc pm an cdv ct) ps []) (hlen : ∀ vs H Q E, sp vs H Q E → vs.length = ps.length)
    (hbd : ∀ (A : Around) (fr : List Env) (st : Shared) (H : Hp) (vs : List V) (Q : VK), A.guards = some [] → Room k (A.deeper (envOfC qual sc st.heap.objs.size f cdv)) → sp vs H Q E0 →
      ∃ t, PSs (cxOf CX0 P w K mg base N qual sc f cdv A fr st H E0).nox body t ∧ t { nx := fun _ H' => Q .non H', rt := Q } (start N vs) H) :
    FnG P w K mg base (k + 1) f sp := by
  intro A fr st H us vs Q hg hr e0 r hs
  have hl := hlen _ _ _ _ hs
  have hul : (us ++ []).length = ps.length := by
    rw [List.append_nil, ← r.length, hl]
  have KX : K.In st.heap := e0.mod.kin.keeps fun b o e => (e0.bs b o e).1
  have nl : st.heap.NoLimit := e0.mod.nolimit.keeps fun b o e => (e0.bs b o e).1
  have hk : ∀ y ∈ ps.zip us, sc.names.lookup y.1 = some .local ∨ (sc.names.lookup y.1 = some .cell ∧ ((cellsFrom (st.heap.objs.size + 1) sc.names []).lookup y.1).isSome = true) := by
    intro y hy
    rcases S.par y.1 (List.of_mem_zip hy).1 with q | q
    · exact .inl q
    · exact .inr ⟨q, PySem.W.cellsFrom_some _ _ _ (.inl q)⟩
  have hb2 := hB st us KX hul
  rw [List.append_nil] at hb2
  refine codeAny_call_function hr.depth (KX _ _ lk) rfl S.co S.gen rfl (PySem.W.codeRec_of KX hc) (hb2 _ _ _ _ ?_)
  refine wpAny_newFunctionEnv_cells S.kind hk fun env he s1 x => ?_
  subst he
  refine ⟨nl.keeps x.toInCall.keep, codeAny_func ?_⟩
  obtain ⟨t, ht, hq⟩ := hbd A fr st H vs Q hg (hr.deeper _) hs
  have J : Inv (cxOf CX0 P w K mg base N qual sc f cdv A fr st H E0) [] (start N vs) H s1 := inv_start S hr.hd e0 hl r x
  refine wpAny_mono (ht.nox.run [] s1 (start N vs) H _ J hq) (fun fl s' hz => ?_) fun e s' hz => hz
  cases fl with
  | ret u =>
    obtain ⟨v, σ', H', J', rv, q⟩ := hz
    exact ⟨v, H', J'.os, J'.bare, J'.base, J'.hok, rv, q⟩
  | next =>
    obtain ⟨σ', H', J', q⟩ := hz
    exact ⟨.non, H', J'.os, J'.bare, J'.base, J'.hok, rfl, q⟩
  | brk => exact (hz.choose_spec.choose_spec.2 : False).elim
  | cont => exact (hz.choose_spec.choose_spec.2 : False).elim
/-- the def's rule, by its text -/
theorem fun_g {x qual : Str} {st : Stmt} {fd : FuncData} {N ps : List Str} (F : Fun K x qual st f fd) (S : FnScope N ps (defScope st)) (hB : Binds K fd ps []) (hlen : ∀ vs H Q E, sp vs H Q E → vs.length = ps.length)
    (hbd : ∀ (cdv : Value) (A : Around) (fr : List Env) (s : Shared) (H : Hp) (vs : List V) (Q : VK), A.guards = some [] → Room k (A.deeper (envOfC qual (defScope st) s.heap.objs.size f cdv)) → sp vs H Q E0 →
      ∃ t, PSs (cxOf CX0 P w K mg base N qual (defScope st) f cdv A fr s H E0).nox (defBody st) t ∧ t { nx := fun _ H' => Q .non H', rt := Q } (start N vs) H) :
    FnG P w K mg base (k + 1) f sp := by
  obtain ⟨oc, od, kV, doc, pm, an, cdv, ct, osl, rfl, lk, hc⟩ := F.ex
  exact fg_of lk hc S hB hlen fun A fr s H vs Q hg hr hs => hbd cdv A fr s H vs Q hg hr hs
end
section
variable {X : Cx} {k : Nat} {f : Addr} {sp : Sp} {x : Str} {p pos : Pos} {e : Expr} {es : List Expr} {t : TA}
/-- f(e, ..) -/
theorem pe_callg (F : FnG X.prog X.w X.K X.mg X.base k f sp) (hg : X.A.guards = some []) (hr : Room k X.A) (gl : Gl X x) (hm : X.mg x = some (.ref f)) (hk : PySem.W.keepIn X.K (.ref f) = true)
    (ha : PA X (e :: es) t) (hdb : (x == ("__debug__" : Str)) = false := by decide) (he : starEach (e :: es) X.env = (false, eval e X.env) :: starEach es X.env := by rfl) (hpl : (backTo pos (starEach es X.env)).any (·.1) = false := by rfl) :
    PE X (.Call (.Name x p) (e :: es) [] pos) (tCall sp [] E0 t) := by
  refine ⟨fun pins s σ H Q I h => ?_⟩
  refine wpAny_Call_Name_kw (ld_glob I gl hm ?_ hdb)
  refine PySem.W.callWith_K (h₀ := X.base) I.ok.mod.kin hk (thn (ha.run pos pins s σ H _ I h) fun us s1 ⟨vs, H1, I1, r, q⟩ => ⟨I1.kIn, ?_⟩) he hpl
  have q1 : sp vs H1 Q E0 := by
    have z : sp (vs ++ []) H1 Q E0 := q
    rw [List.append_nil] at z
    exact z
  refine wpAny_call (codeAny_mono (F X.A X.stack s1 H1 us vs Q hg hr I1.env0 r q1) fun r s' hq => ?_)
  match r, hq with
  | .ok (.ret u), hq => exact I1.after hq
  | .ok .next, hq => exact False.elim hq
  | .ok .brk, hq => exact False.elim hq
  | .ok .cont, hq => exact False.elim hq
  | .error _, hq => exact False.elim hq
end
/-! ### repr of data -/
/-! ### sorted of a tuple of texts -/
/-! ### enumerate of a tuple -/
theorem enum_tup_new {t : Addr} {items : Array Value} : Meets (Builtin.«enumerate.__new__» ⟨[.type "enumerate", .ref t], []⟩) (fun _ R s => s.heap.IsTuple t items ∧
      R (.ok (.ret (.ref (s.heap.push { cls := .type "tuple_iterator", data := .fields #[.ref t, .int 0 0] }).objs.size)))
        { s with heap := (s.heap.push { cls := .type "tuple_iterator", data := .fields #[.ref t, .int 0 0] }).push { cls := .type "enumerate", data := .fields #[.none, .bool false, .ref s.heap.objs.size, rawInt 0, .none, .none] } }) :=
  .of_wp fun prog w A R s h => by
    obtain ⟨hp, g, d, tk, os⟩ := s
    obtain ⟨hT, k⟩ := h
    have hsub := sub_enumerate
    have it : ∀ {A' : Around} {E Q : Value → Shared → Prop}, Q (.ref hp.objs.size) ⟨hp.push { cls := .type "tuple_iterator", data := .fields #[.ref t, .int 0 0] }, g, d, tk, os⟩ → wpAny (model prog w) A' (pyIter (.ref t)) Q E ⟨hp, g, d, tk, os⟩ :=
      fun q => wpAny_pyIter_tuple (items := items) hT q
    wp_walk using it
    refine wpAny_stack_any fun st => wpAny_pure ?_
    split
    · rename_i c _ _ _ _ _
      cases (c == Value.type "enumerate") <;> (wp_walk using it; exact ⟨_, rfl, k⟩)
    · wp_walk using it
      exact ⟨_, rfl, k⟩
section
variable {prog : Program} {w : World} {A : Around} {E : Value → Shared → Prop} {s : Shared}
theorem call_enum_tup {t : Addr} {items : Array Value} {Q : Value → Shared → Prop} (hT : s.heap.IsTuple t items)
    (k : ∀ h', IsEnum h' (s.heap.objs.size + 1) s.heap.objs.size 0 .none → h'.IsTupleIter s.heap.objs.size t 0 → h'.objs.size = s.heap.objs.size + 2 →
      (∀ b o, s.heap.get? b = some o → h'.get? b = some o) → Q (.ref (s.heap.objs.size + 1)) { s with heap := h' }) :
    wpAny (model prog w) A (call (.type "enumerate") [.ref t]) Q E s := by
  refine callType_new F.called_enumerate (by decide) (F.typeCall_enumerate_1 _) (F.newCall_enumerate_1 _) (fun obj => F.args_object_init_2 obj _) F.entry_enumerate_new enum_tup_new ⟨hT, ?_⟩
  have hz : (s.heap.push { cls := .type "tuple_iterator", data := .fields #[.ref t, .int 0 0] }).objs.size = s.heap.objs.size + 1 := Heap.size_push ..
  refine (show _ ∧ _ from ?_)
  rw [hz]
  have he := Heap.get?_push_size (s.heap.push { cls := .type "tuple_iterator", data := .fields #[.ref t, .int 0 0] }) (o := { cls := .type "enumerate", data := .fields #[.none, .bool false, .ref s.heap.objs.size, rawInt 0, .none, .none] }) rfl
  rw [hz] at he
  refine ⟨⟨_, he, rfl⟩, k _ he ⟨_, Heap.get?_push_of_some _ (Heap.get?_push_size _ rfl), rfl, rfl⟩ ?_ fun b o x => Heap.get?_push_of_some _ (Heap.get?_push_of_some _ x)⟩
  rw [Heap.size_push, hz]
end
theorem wpAny_pyNext_enum_none {prog : Program} {w : World} {A : Around} {E : Value → Shared → Prop} {s : Shared} {e it t : Addr} {i : Nat} {items : Array Value} {old : Value} {Q : Option Value → Shared → Prop} (hh : A.in1.handled = none) (he : IsEnum s.heap e it i old) (hit : s.heap.IsTupleIter it t i) (ht : s.heap.IsTuple t items)
    (hx : items[i]? = none) (k : ∀ h', Heap.ExtBut it s.heap h' → Q none { s with heap := h' }) : wpAny (model prog w) A (pyNext (.ref e)) Q E s := by
  have ty : s.TypeIs (.ref e) "enumerate" := ⟨_, he, rfl⟩
  unfold pyNext
  refine wpAny_bind (wpAny_attempt (wpAny_callSpecial?_slot (name := Str.ofString "__next__") ty F.slot_enumerate_next
    (wpAny_call_entry F.slot_enumerate_next ty F.entry_enumerate_next ?_ (F.args_enumerate_next_1 _))))
  refine (show wpAny _ _ (field (.ref e) 2 >>= _) _ _ _ from ?_)
  refine wpAny_bind (wpAny_field he rfl (x := .ref it) rfl ?_)
  refine wpAny_bind (wpAny_nextOf_tuple_end hh hit ht hx fun h' x eb hx' => ?_)
  obtain ⟨o, ho, hc⟩ := hx'
  refine wpAny_bind (wpAny_isInstance (T := "StopIteration") (b := true) ⟨o, ho, hc⟩ isSubtype_stop ?_)
  exact wpAny_pure (k _ eb)
/-- the tuple at a, each item in a new pair behind its index -/
def IteT (K : PySem.W.Frag) (a : Addr) : It where
  go := fun i H => ∃ xs x, SqT K H a xs ∧ xs[i]? = some x
  yld := fun i H v H' => ∃ T x, v = .ref T ∧ H T = none ∧ H' = upd H T (.tup [.int (i : Nat), x]) ∧ ∀ xs, SqT K H a xs → xs[i]? = some x
  stop := fun i H => ∃ xs, SqT K H a xs ∧ xs.length ≤ i
theorem turn_enumT {P : Program} {w : World} {K : PySem.W.Frag} {elts : List Expr} {kk : Nat} {tpos : Pos} (a e it : Addr) :
    Turn P w K (.Tuple elts kk tpos) (IteT K a) [e, it] e (fun i h => (∃ old, IsEnum h e it ((i : Nat) : Int) old) ∧ h.IsTupleIter it a i ∧ e ≠ it) where
  mem := List.mem_cons_self
  obj := by
    rintro i h ⟨⟨old, he⟩, ⟨o, ho, hc, hd⟩, _⟩ b hb
    have e' : b = e ∨ b = it := by simpa using hb
    rcases e' with rfl | rfl
    · exact ⟨_, he, fun v q => nomatch q⟩
    · refine ⟨o, ho, fun v q => ?_⟩
      rw [hd] at q
      cases q
  keep := fun i h h' st k => ⟨⟨st.1.choose, k e (by simp) _ st.1.choose_spec⟩, st.2.1.at fun o q => k it (by simp) o q, st.2.2⟩
  item := by
    intro X hP hw hK hc i pins s σ H E I hf st hg
    subst hP hw hK
    obtain ⟨⟨old, he⟩, hit, hne⟩ := st
    obtain ⟨xs, x, hq, hx⟩ := hg
    obtain ⟨its, rv, p, hz⟩ := I.tuple hq
    obtain ⟨u, hu, ru⟩ := rv.get hx
    have hel : e < s.heap.objs.size := Heap.lt_size he
    have hil : it < s.heap.objs.size := by
      obtain ⟨_, q, _⟩ := hit
      exact Heap.lt_size q
    obtain ⟨ot, hot, hct, _⟩ := id (show s.heap.IsTuple a its.toArray from p)
    have hae : e ≠ a := fun q => by
      have z : s.heap.get? e = some ot := q ▸ hot
      rw [he] at z
      cases z
      exact absurd (show Value.type "enumerate" = Value.type "tuple" from hct) (by decide)
    have hait : a ≠ it := fun q => by
      obtain ⟨o2, h2, c2, _⟩ := hit
      rw [← q, hot] at h2
      cases h2
      rw [hct] at c2
      exact absurd c2 (by decide)
    have hlt : i < its.toArray.size := by
      have := (List.getElem?_eq_some_iff.mp hu).1
      simpa using this
    have hh : X.A.in1.handled = none := I.ok.hd hc
    refine wpAny_pyNext_enum_itemD (Draws.tuple hh it a hait its.toArray) he ⟨hit, p⟩ hlt hne (by simp [hne, hae]) fun y h' tk hy ho hst hT hsz hk => ?_
    have hyu : y = u := by
      have z : its.toArray[i]? = some y := hy
      rw [List.getElem?_toArray, hu] at z
      exact (Option.some.inj z).symm
    subst hyu
    refine ⟨_, rfl, wpAny_letOwnedTupleGo_enum (s := { s with heap := h', toks := tk + 1 }) ho fun h'' he' sb => ?_⟩
    have hT2 : h''.get? s.heap.objs.size = some { cls := .type "tuple", data := .seq #[.int i tk, y] } := (sb.2 _ (Nat.ne_of_gt hel)).trans hT
    have new : ObjOk X.prog X.w (upd H s.heap.objs.size (.tup [.int (i : Nat), x])) h'' s.heap.objs.size (.tup [.int (i : Nat), x]) :=
      ⟨(by decide : 2 ≤ sizeLine), [.int i tk, y], .cons ⟨_, rfl⟩ (.cons ru .nil), ⟨_, hT2, rfl, _, rfl⟩⟩
    have I1 : Inv X pins σ (upd H s.heap.objs.size (.tup [.int (i : Nat), x])) { s with heap := h'', toks := tk + 1 } := by
      refine I.turnedNew (ch := [e, it]) (fun b ob hb q => ?_) hf (Nat.le_refl _) new
      rw [sb.2 b (fun z => hb (by simp [z]))]
      exact hk b ob (fun z => hb (by simp [z])) (fun z => hb (by simp [z])) q
    refine ⟨.ref s.heap.objs.size, _, I1, rfl, ⟨_, x, rfl, I.hok.fresh (Nat.le_refl _), rfl, fun ys hy => by rw [I.tuple_inj hy hq]; exact hx⟩, ⟨⟨y, ?_⟩, ?_, hne⟩, fun b hb => ?_⟩
    · rw [show ((i + 1 : Nat) : Int) = (i : Int) + 1 from by omega]
      exact he'
    · exact hst.1.at fun o q => (sb.2 it (Ne.symm hne)).trans q
    · have hb' : b < s.heap.objs.size := by
        have e' : b = e ∨ b = it := by simpa using hb
        rcases e' with z | z
        · rw [z]
          exact hel
        · rw [z]
          exact hil
      rw [upd_ne (Nat.ne_of_lt hb')]
      exact (hf b hb).1
  done := by
    intro X hP hw hK hc i pins s σ H E I hf st hg
    subst hP hw hK
    obtain ⟨⟨old, he⟩, hit, hne⟩ := st
    obtain ⟨xs, hq, hx⟩ := hg
    obtain ⟨its, rv, p, hz⟩ := I.tuple hq
    obtain ⟨f0, f1, f2, f3, f4, f5⟩ := hf it (by simp)
    have hh : X.A.in1.handled = none := I.ok.hd hc
    have hl := rv.length
    obtain ⟨ot, hot, hct, _⟩ := id (show s.heap.IsTuple a its.toArray from p)
    have hait : a ≠ it := fun q => by
      obtain ⟨o2, h2, c2, _⟩ := hit
      rw [← q, hot] at h2
      cases h2
      rw [hct] at c2
      exact absurd c2 (by decide)
    refine wpAny_pyNext_enum_none hh he hit p (by simp; omega) fun h' eb => ⟨rfl, I.turned (t' := s.toks) (fun b o hb q => eb b o hb q) f0 f1 f3 f4 f5⟩
  self := fun A i s Q E st h => wpAny_pyIter_enum st.1.choose_spec h
def iEnumT (K : PySem.W.Frag) (ta : TA) : TI := fun σ H R => ta σ H fun vs H1 => ∃ a xs, vs = [.ref a] ∧ SqT K H1 a xs ∧ R (IteT K a) H1
theorem pi_enumT {X : Cx} {e : Expr} {ta : TA} {p pos tpos : Pos} {elts : List Expr} {kk : Nat} (hg : Gl X "enumerate") (hm : X.mg "enumerate" = none) (ha : PA X [e] ta) (hs : starEach [e] X.env = [(false, eval e X.env)] := by rfl) :
    PI X (.Tuple elts kk tpos) (.Call (.Name "enumerate" p) [e] [] pos) (iEnumT X.K ta) := by
  refine ⟨fun pins s σ H R I h => ?_⟩
  refine Call_ (ld_blt I hg hm boot_enumerate (PyProof.Rows.callWith_type1 (thn (ha.run pos pins s σ H _ I h) fun us s1 ⟨vs, H1, I1, r1, a, xs, ex, hq, q⟩ => ?_) hs rfl))
  subst ex
  obtain ⟨u, rfl, ru⟩ := vals1 r1
  obtain rfl : u = Value.ref a := ru
  obtain ⟨its, rv, p', hz⟩ := I1.tuple hq
  refine call_enum_tup (show s1.heap.IsTuple a its.toArray from p') fun h' he hit hsz hk => wpAny_pyIter_enum he ?_
  have I2 : Inv X pins σ H1 { s1 with heap := h' } := I1.kept (t' := s1.toks) hk
  refine ⟨s1.heap.objs.size + 1, [s1.heap.objs.size + 1, s1.heap.objs.size], _, _, H1, rfl, I2, turn_enumT a (s1.heap.objs.size + 1) s1.heap.objs.size, ⟨⟨.none, he⟩, hit, Nat.succ_ne_self _⟩, fun b hb => ?_, q⟩
  have e' : b = s1.heap.objs.size + 1 ∨ b = s1.heap.objs.size := by simpa using hb
  have hle : s1.heap.objs.size ≤ b := by
    rcases e' with z | z
    · rw [z]
      exact Nat.le_succ _
    · rw [z]
      exact Nat.le_refl _
  exact I1.fpOk hle (I1.hok.fresh hle)
/-! ### o.m(k = v, ..) -/
/-! ### tuples that are known to the object: their methods -/
def TupO (H : Hp) (a : Addr) (xs : List V) : Prop := ∃ o : Obj, H a = some (.frz o (.tup xs)) ∧ o.dict = none
theorem TupO.sqt {K : PySem.W.Frag} {H : Hp} {a : Addr} {xs : List V} (h : TupO H a xs) : SqT K H a xs := .inl (.inr ⟨_, h.choose_spec.1⟩)
theorem TupO.same {H H' : Hp} {a : Addr} {xs : List V} (h : TupO H a xs) (s : ∀ b o, H b = some o → H' b = some o) : TupO H' a xs := ⟨_, s _ _ h.choose_spec.1, h.choose_spec.2⟩
/-- tuple(list): a new one; tuple(tuple): itself -/
def rTupF (K : PySem.W.Frag) : List V → Hp → VK → Prop := fun xs H Q => ∃ p ys, xs = [.ref p] ∧ ((SqL K H p ys ∧ ∀ (l : Addr) (o : Obj), H l = none → o.dict = none → Q (.ref l) (upd H l (.frz o (.tup ys)))) ∨ (SqT K H p ys ∧ Q (.ref p) H))
section
variable {X : Cx} {o e : Expr} {es : List Expr} {to : TE} {t : TA} {name : Str} {apos cpos : Pos} {id : String} {r : V → List V → Hp → VK → Prop}
theorem call_tupF : CallR X (.type "tuple") (rTupF X.K) := by
  intro pins s σ H xs us Q I r h
  obtain ⟨p, ys, rfl, h⟩ := h
  obtain ⟨u, rfl, rx⟩ := vals1 r
  obtain rfl : u = Value.ref p := rx
  rcases h with ⟨hq, q⟩ | ⟨hq, q⟩
  · obtain ⟨its, rv, pl, hz⟩ := I.list hq
    have hl := rv.length
    refine call_tuple_list pl.isList (fun h' kp => ?_) (by simp only [List.size_toArray]; omega)
    have I1 : Inv X pins σ H { s with heap := h' } := I.kept (t' := s.toks) kp
    have at1 := Heap.get?_push_size h' (o := { cls := .type "tuple", data := .seq its.toArray }) rfl
    have I2 : Inv X pins σ (upd H h'.objs.size (.frz { cls := .type "tuple", data := .seq its.toArray } (.tup ys))) { s with heap := h'.push { cls := .type "tuple", data := .seq its.toArray } } :=
      I1.laid (t' := s.toks) (fun b o e => Heap.get?_push_of_some _ e) (Nat.le_refl _) ⟨at1, hz, its, rv, IsTup.new _ _⟩
    exact ⟨.ref h'.objs.size, _, I2, rfl, q _ _ (I1.hok.fresh (Nat.le_refl _)) rfl⟩
  · obtain ⟨its, rv, pl, hz⟩ := I.tuple hq
    exact call_tuple_same pl ⟨.ref p, H, I, rfl, q⟩
end
/-! ### the end of a law whose def is promised while no repr is under way -/
end MH
/-! Comprehensions by what their values are. -/
namespace MH
open PySem PySem.Spec PyProof.Rows L2
/-- all but lists stands -/
def SameO (H H' : Hp) : Prop := ∀ b o, (∀ l, o ≠ .lst l) → H b = some o → H' b = some o
theorem SameO.of {H H' : Hp} (s : Same H H') : SameO H H' := fun b o _ e => s b o e
theorem SameO.refl (H : Hp) : SameO H H := fun _ _ _ e => e
theorem SameO.trans {H H1 H2 : Hp} (a : SameO H H1) (b : SameO H1 H2) : SameO H H2 := fun c o n e => b c o n (a c o n e)
theorem SameO.put {H H1 : Hp} {D : Addr} {l : List V} {o : HO} (s : SameO H H1) (h : H1 D = some (.lst l)) : SameO H (upd H1 D o) := fun b x n e => by
  have e1 := s b x n e
  rw [upd_ne (ne_of e1 h (fun q => n l q))]
  exact e1
theorem SameO.sqt {K : PySem.W.Frag} {H H' : Hp} {a : Addr} {xs : List V} (s : SameO H H') (h : SqT K H a xs) : SqT K H' a xs := by
  rcases h with (h | ⟨o, h⟩) | h
  · exact .inl (.inl (s _ _ (fun l q => by cases q) h))
  · exact .inl (.inr ⟨o, s _ _ (fun l q => by cases q) h⟩)
  · exact .inr h
/-- what a comprehension leaves to be shown -/
abbrev LcQ (J : It) (g : TG) (tt : TT) (te : TE) (vs : List Nat) (σ : L2.St) (H1 : Hp) (D : Addr) (Qd : Hp → Prop) : Prop :=
  ∃ W : Nat → Nat → Hp → Prop, (∃ m, W 0 m (upd H1 D (.lst []))) ∧
    ∀ i m H, W i m H → (J.stop i H ∧ Qd H) ∨ (J.go i H ∧
      ∃ Nx : Hp → Prop, (∀ H', Nx H' → ∃ m', m' < m ∧ W (i + 1) m' H') ∧
        ∀ x H', J.yld i H x H' → g x (wipe σ vs) H' fun σ2 H2 => wipe σ2 vs = wipe σ vs ∧
          tt σ2 H2 fun b H3 => if b = true
            then te σ2 H3 fun y H4 => ∃ acc, H4 D = some (.lst acc) ∧ acc.length < sizeLine ∧ Nx (upd H4 D (.lst (acc ++ [y])))
            else Nx H3)
section
variable {J : It} {n : Nat} {G : Hp → Prop} {Y : Nat → Hp → V → Hp → Prop} {g : TG} {te : TE} {vs : List Nat} {σ : L2.St} {H1 : Hp} {D : Addr} {Qd : Hp → Prop}
/-- the general one: St stands throughout, the i-th value keeps R i -/
theorem lcg (w : Walk J n G Y) (St : Hp → Prop) (R : Nat → V → Hp → Prop) (nD : H1 D = none) (hn : n < 100000) (S0 : St (upd H1 D (.lst []))) (SD : ∀ H l zs, St H → H D = some (.lst l) → St (upd H D (.lst zs)))
    (hG : ∀ H', St H' → G H') (hY : ∀ i H x H', St H → Y i H x H' → Same H H') (hm : ∀ i v H H', R i v H → SameO H H' → R i v H')
    (hs : ∀ i x H H', i < n → St H → Y i H x H' → (∃ l, H' D = some (.lst l)) → ∀ Z : V → Hp → Prop, (∀ v H2, St H2 → SameO H' H2 → H2 D = H' D → R i v H2 → Z v H2) →
      g x (wipe σ vs) H' fun σ2 H2 => wipe σ2 vs = wipe σ vs ∧ te σ2 H2 Z)
    (hd : ∀ H' zs, St H' → H' D = some (.lst zs) → zs.length = n → (∀ i v, zs[i]? = some v → R i v H') → Qd H') : LcQ J g tYes te vs σ H1 D Qd := by
  refine lc_it w (fun i H => St H ∧ ∃ zs, H D = some (.lst zs) ∧ zs.length = i ∧ ∀ i v, zs[i]? = some v → R i v H) ⟨S0, [], upd_same, rfl, fun i v h => nomatch ((List.getElem?_nil (α := V) (i := i)).symm.trans h)⟩ (fun i H _ h => hG H h.1) ?_ ?_
  · rintro i x H H' hi ⟨st, zs, e, le, hz⟩ y
    have s := hY i H x H' st y
    refine hs i x H H' hi st y ⟨zs, s _ _ e⟩ _ fun v H2 st2 so eD hR => ?_
    have e2 : H2 D = some (.lst zs) := eD.trans (s _ _ e)
    have so2 : SameO H2 (upd H2 D (.lst (zs ++ [v]))) := (SameO.refl H2).put e2
    refine ⟨zs, e2, Nat.lt_of_lt_of_le (by omega : zs.length < 100000) (by decide), SD _ _ _ st2 e2, zs ++ [v], upd_same, by rw [List.length_append, le]; rfl, fun j u hj => ?_⟩
    by_cases c : j < zs.length
    · rw [List.getElem?_append_left c] at hj
      exact hm _ _ _ _ (hz j u hj) ((SameO.of s).trans (so.trans so2))
    · rw [List.getElem?_append_right (by omega)] at hj
      have ej : j - zs.length = 0 := by
        cases q : j - zs.length with
        | zero => rfl
        | succ n =>
          rw [q] at hj
          cases hj
      rw [ej] at hj
      obtain rfl : v = u := Option.some.inj hj
      obtain rfl : j = i := by omega
      exact hm _ _ _ _ hR so2
  · rintro H ⟨st, zs, e, le, hz⟩
    exact hd H zs st e le hz
/-- new things are made, nothing else changes -/
theorem lco (w : Walk J n G Y) (R : Nat → V → Hp → Prop) (nD : H1 D = none) (hn : n < 100000) (hG : ∀ H', Same H1 H' → G H') (hY : ∀ i H x H', Same H1 H → Y i H x H' → Same H H') (hm : ∀ i v H H', R i v H → SameO H H' → R i v H')
    (hs : ∀ i x H H', i < n → Same H1 H → Y i H x H' → ∀ Z : V → Hp → Prop, (∀ v H2, Same H' H2 → R i v H2 → Z v H2) →
      g x (wipe σ vs) H' fun σ2 H2 => wipe σ2 vs = wipe σ vs ∧ te σ2 H2 Z)
    (hd : ∀ H' zs, Same H1 H' → H' D = some (.lst zs) → zs.length = n → (∀ i v, zs[i]? = some v → R i v H') → Qd H') : LcQ J g tYes te vs σ H1 D Qd := by
  refine lcg w (fun H => Same H1 H ∧ ∃ l, H D = some (.lst l)) R nD hn ⟨fun b o h => ?_, _, upd_same⟩ (fun H l zs h e => ⟨fun b o hb => ?_, _, upd_same⟩) (fun H' h => hG H' h.1) (fun i H x H' h y => hY i H x H' h.1 y) hm (fun i x H H' hi h y _ Z hZ => ?_) (fun H' zs h e le hz => hd H' zs h.1 e le hz)
  · rw [upd_ne (ne_of_none h nD)]
    exact h
  · rw [upd_ne (ne_of_none hb nD)]
    exact h.1 b o hb
  · obtain ⟨s, l, e⟩ := h
    have s' := hY i H x H' s y
    refine hs i x H H' hi s y Z fun v H2 s2 hR => hZ v H2 ⟨s.trans (s'.trans s2), l, s2 _ _ (s' _ _ e)⟩ (SameO.of s2) ?_ hR
    rw [s2 _ _ (s' _ _ e), s' _ _ e]
/-- the values are known -/
theorem lcv {α : Type} (w : Walk J n G Y) (us : List α) (f : α → V) (hl : us.length = n) (nD : H1 D = none) (hn : n < 100000) (hG : ∀ H', Same H1 H' → G H') (hY : ∀ i H x H', Same H1 H → Y i H x H' → Same H H')
    (hs : ∀ i u x H H', us[i]? = some u → Same H1 H → Y i H x H' → ∀ Z : V → Hp → Prop, (∀ H2, Same H' H2 → Z (f u) H2) →
      g x (wipe σ vs) H' fun σ2 H2 => wipe σ2 vs = wipe σ vs ∧ te σ2 H2 Z)
    (hd : ∀ H', Same H1 H' → H' D = some (.lst (us.map f)) → Qd H') : LcQ J g tYes te vs σ H1 D Qd := by
  refine lco w (fun i v _ => (us.map f)[i]? = some v) nD hn hG hY (fun i v H H' h _ => h) (fun i x H H' hi s y Z hZ => ?_) (fun H' zs s e le hz => hd H' s ?_)
  · have hu : us[i]? = some (us[i]'(by omega)) := List.getElem?_eq_getElem _
    refine hs i _ x H H' hu s y Z fun H2 s2 => hZ _ H2 s2 ?_
    rw [List.getElem?_map, hu]
    rfl
  · have ez : zs = us.map f := by
      refine List.ext_getElem? fun i => ?_
      cases q : zs[i]? with
      | some v => exact (hz i v q).symm
      | none =>
        rw [List.getElem?_eq_none_iff] at q
        exact (List.getElem?_eq_none_iff.mpr (by rw [List.length_map]; omega)).symm
    rw [← ez]
    exact e
end
/-- walks of lists, tuples and ranges change nothing -/
theorem yat_same {xs : List V} {i : Nat} {H H' : Hp} {x : V} (h : YAt xs i H x H') : Same H H' := h.1 ▸ Same.refl _
theorem ypair_same {f g : Nat → Option V} {i : Nat} {H H' : Hp} {x : V} (h : YPair f g i H x H') : Same H H' := by
  obtain ⟨T, a, b, _, nT, rfl, _⟩ := h
  intro c o e
  rw [upd_ne (ne_of_none e nT)]
  exact e
end MH
/-! The mathematics: texts in order, names, menus. -/
namespace MH
open PySem PySem.Spec PyProof.Rows L2
/-! ### the order of texts -/
def ltS (x y : Str) : Prop := x.cps.toList < y.cps.toList
instance (x y : Str) : Decidable (ltS x y) := inferInstanceAs (Decidable (x.cps.toList < y.cps.toList))
theorem lst_lt_irrefl : ∀ a : List Nat, ¬ a < a := fun a h => List.lt_irrefl a h
theorem ltS_irrefl (x : Str) : ¬ ltS x x := lst_lt_irrefl _
theorem ltS_trans {x y z : Str} (a : ltS x y) (b : ltS y z) : ltS x z := List.lt_trans a b
theorem ltS_tri (x y : Str) : ltS x y ∨ x = y ∨ ltS y x := by
  by_cases h : ltS x y
  · exact .inl h
  · by_cases h2 : ltS y x
    · exact .inr (.inr h2)
    · refine .inr (.inl ?_)
      have e : x.cps.toList = y.cps.toList := List.le_antisymm (List.not_lt.mp h2) (List.not_lt.mp h)
      exact Str.ext' (Array.toList_inj.mp e)
theorem risingS_pw : ∀ (p : Str) (l : List Str), risingS p l = true → l.Pairwise (fun a b => ¬ ltS b a) ∧ ∀ x ∈ l, ¬ ltS x p
  | p, [], _ => ⟨List.Pairwise.nil, fun _ h => nomatch h⟩
  | p, x :: r, h => by
    have h' : (!ltCps x.cps.toList p.cps.toList && risingS x r) = true := h
    rw [Bool.and_eq_true, ltCps_eq] at h'
    obtain ⟨h1, h2⟩ := h'
    obtain ⟨q1, q2⟩ := risingS_pw x r h2
    have n1 : ¬ ltS x p := by
      intro z
      rw [decide_eq_true (show x.cps.toList < p.cps.toList from z)] at h1
      cases h1
    refine ⟨List.Pairwise.cons (fun y hy => q2 y hy) q1, fun y hy => ?_⟩
    rcases List.mem_cons.mp hy with rfl | hy
    · exact n1
    · intro z
      rcases ltS_tri x p with a | a | a
      · exact n1 a
      · subst a
        exact q2 y hy z
      · exact q2 y hy (ltS_trans z a)
theorem sortedS_pw : ∀ {l : List Str}, sortedS l = true → l.Pairwise (fun a b => ¬ ltS b a)
  | [], _ => List.Pairwise.nil
  | x :: r, h => List.Pairwise.cons (risingS_pw x r h).2 (risingS_pw x r h).1
/-- in order and none twice: each before the next -/
theorem sorted_lt {l : List Str} (hn : l.Nodup) (h : sortedS l = true) : l.Pairwise ltS := by
  have a := sortedS_pw h
  have b : l.Pairwise (fun x y => x ≠ y) := hn
  refine (List.pairwise_and_iff.mpr ⟨a, b⟩).imp fun {x y} z => ?_
  rcases ltS_tri x y with q | q | q
  · exact q
  · exact absurd q z.2
  · exact absurd q z.1
/-! ### names -/
def letters : Str := "abcdefghijklmnopqrstuvwxyz"
def digits : Str := "0123456789"
def isL (c : Nat) : Bool := decide (c ∈ letters.cps.toList)
def isD (c : Nat) : Bool := decide (c ∈ digits.cps.toList)
def nameOk (z : Str) : Bool := decide (1 ≤ z.length) && (decide (z.length ≤ 8) && (isL (z.cps.toList.getD 0 0) && z.cps.toList.all fun c => isL c || isD c))
/-! ### menus -/
end MH
/-! Data as repr shows it: its length, and what == and repr ask. -/
namespace MH
open PySem PySem.Spec PyProof.Rows L2
mutual
def cost : PyData → Nat
  | .none => 4
  | .bool _ => 5
  | .int _ => 101
  | .str x => 10 * x.length + 2
  | .list xs => costAll xs + 3
  | .tuple xs => costAll xs + 3
  | .dict _ => 0
def costAll : List PyData → Nat
  | [] => 0
  | x :: xs => cost x + 2 + costAll xs
end
mutual
def okD : PyData → Bool
  | .none => true
  | .bool _ => true
  | .int i => decide (i.natAbs < 10 ^ 100)
  | .str x => PyData.strOk x
  | .list xs => okDs xs
  | .tuple xs => okDs xs
  | .dict _ => false
def okDs : List PyData → Bool
  | [] => true
  | x :: xs => okD x && okDs xs
end
theorem strOk_lt {x : Str} (h : PyData.strOk x = true) : ∀ c ∈ x.cps.toList, c < 16 ^ 8 := by
  intro c hc
  unfold PyData.strOk at h
  rw [← Array.all_toList, List.all_eq_true] at h
  have := of_decide_eq_true (h c hc)
  omega
mutual
theorem shown_le : ∀ d : PyData, okD d = true → d.shown.length ≤ cost d
  | .none, _ => by decide +kernel
  | .bool true, _ => by decide +kernel
  | .bool false, _ => by decide +kernel
  | .int i, h => by
    have q := int_text_length_le10 (k := 100) (by decide) (of_decide_eq_true (show decide (i.natAbs < 10 ^ 100) = true from h))
    show (Str.ofString (toString i)).length ≤ 101
    rw [PySem.ofString_length]
    exact q
  | .str x, h => by
    rw [PyData.shown]
    exact StrLaws.reprText_len x (strOk_lt h)
  | .list xs, h => by
    have q := shownAll_le xs h
    have q2 := listText_len_le (PyData.shownAll xs)
    rw [PyData.shown]
    show _ ≤ costAll xs + 3
    omega
  | .tuple xs, h => by
    have q := shownAll_le xs h
    have q2 := tupleText_len_le (PyData.shownAll xs)
    rw [PyData.shown]
    show _ ≤ costAll xs + 3
    omega
  | .dict _, h => nomatch h
theorem shownAll_le : ∀ xs : List PyData, okDs xs = true → ((PyData.shownAll xs).map (·.length)).sum + 2 * (PyData.shownAll xs).length ≤ costAll xs
  | [], _ => by simp [PyData.shownAll]
  | x :: xs, h => by
    have h' : (okD x && okDs xs) = true := h
    rw [Bool.and_eq_true] at h'
    have a := shown_le x h'.1
    have b := shownAll_le xs h'.2
    rw [PyData.shownAll, List.map_cons, List.sum_cons, List.length_cons]
    show _ ≤ cost x + 2 + costAll xs
    omega
end
mutual
theorem ok_show : ∀ d : PyData, okD d = true → d.showable = true
  | .none, _ => by simp only [PyData.showable]
  | .bool _, _ => by simp only [PyData.showable]
  | .int i, h => by
    have q := of_decide_eq_true (show decide (i.natAbs < 10 ^ 100) = true from h)
    rw [PyData.showable]
    refine decide_eq_true ?_
    by_cases z : i.natAbs = 0
    · rw [z]
      decide
    · rw [Nat.log2_lt z]
      exact Nat.lt_of_lt_of_le q (by decide +kernel)
  | .str _, _ => by simp only [PyData.showable]
  | .list xs, h => by
    rw [PyData.showable]
    exact ok_showAll xs h
  | .tuple xs, h => by
    rw [PyData.showable]
    exact ok_showAll xs h
  | .dict _, h => nomatch h
theorem ok_showAll : ∀ xs : List PyData, okDs xs = true → PyData.showableAll xs = true
  | [], _ => by simp only [PyData.showableAll]
  | x :: xs, h => by
    have h' : (okD x && okDs xs) = true := h
    rw [Bool.and_eq_true] at h'
    rw [PyData.showableAll, ok_show x h'.1, ok_showAll xs h'.2]
    rfl
end
mutual
theorem ok_lay : ∀ d : PyData, okD d = true → d.canLay0 = true
  | .none, _ => by simp only [PyData.canLay0]
  | .bool _, _ => by simp only [PyData.canLay0]
  | .int _, _ => by simp only [PyData.canLay0]
  | .str x, h => by
    rw [PyData.canLay0]
    exact h
  | .list xs, h => by
    rw [PyData.canLay0]
    exact ok_layAll xs h
  | .tuple xs, h => by
    rw [PyData.canLay0]
    exact ok_layAll xs h
  | .dict _, h => nomatch h
theorem ok_layAll : ∀ xs : List PyData, okDs xs = true → PyData.canLayAll0 xs = true
  | [], _ => by simp only [PyData.canLayAll0]
  | x :: xs, h => by
    have h' : (okD x && okDs xs) = true := h
    rw [Bool.and_eq_true] at h'
    rw [PyData.canLayAll0, ok_lay x h'.1, ok_layAll xs h'.2]
    rfl
end
theorem shaped_of {d : PyData} (ok : okD d = true) (h : d.depth ≤ 64) : SeqAt.shaped d = true := by
  unfold SeqAt.shaped
  rw [ok_lay d ok, decide_eq_true h]
  rfl
/-! texts in a row -/
theorem okDs_strs {ss : List Str} (h : ∀ z ∈ ss, PyData.strOk z = true) : okDs (ss.map PyData.str) = true := by
  induction ss with
  | nil => rfl
  | cons z r ih =>
    show (PyData.strOk z && okDs (r.map PyData.str)) = true
    rw [h z List.mem_cons_self, ih fun y hy => h y (List.mem_cons_of_mem _ hy)]
    rfl
theorem depth_strs : ∀ ss : List Str, PyData.depthAll (ss.map PyData.str) = 0
  | [] => by rw [List.map_nil, PyData.depthAll]
  | z :: r => by rw [List.map_cons, PyData.depthAll, depth_strs r, PyData.depth]; rfl
theorem dp_strs {K : PySem.W.Frag} {H : Hp} : ∀ ss : List Str, DpAll K H (ss.map V.str) (ss.map PyData.str)
  | [] => .nil
  | z :: r => .cons (.str z) (dp_strs r)
theorem isL_le {c : Nat} (h : isL c = true) : c < 128 := by
  have q : ∀ c ∈ letters.cps.toList, c < 128 := by decide +kernel
  exact q c (of_decide_eq_true h)
theorem isD_le {c : Nat} (h : isD c = true) : c < 128 := by
  have q : ∀ c ∈ digits.cps.toList, c < 128 := by decide +kernel
  exact q c (of_decide_eq_true h)
theorem nameOk_len {z : Str} (h : nameOk z = true) : z.length ≤ 8 := by
  unfold nameOk at h
  simp only [Bool.and_eq_true, decide_eq_true_eq] at h
  exact h.2.1
theorem nameOk_str {z : Str} (h : nameOk z = true) : PyData.strOk z = true := by
  unfold nameOk at h
  simp only [Bool.and_eq_true, decide_eq_true_eq] at h
  have q := h.2.2.2
  rw [List.all_eq_true] at q
  unfold PyData.strOk
  rw [← Array.all_toList, List.all_eq_true]
  intro c hc
  refine decide_eq_true ?_
  have w := q c hc
  rw [Bool.or_eq_true] at w
  rcases w with w | w
  · have := isL_le w
    omega
  · have := isD_le w
    omega
end MH
/-! A tuple taken from the back: t[::-1]. -/
namespace MH
open PySem PySem.Spec PyProof.Rows L2 PySem.SeqAt HT
end MH
/-! Own special methods of instances: -o, o == p, o != p, str(o). -/
namespace MH
open PySem PySem.Spec PyProof.Rows L2
section
variable {X : Cx} {CX : CXT} {k : Nat} {C f : Addr} {fd : FuncData} {ps : List Str} {sp : Sp} {E : XK}
/-- a def called from a deeper place (a builtin calls it) -/
theorem run_A {pins : List (Addr × Obj)} {σ : L2.St} {H : Hp} {s : Shared} {Q : VK} {A : Around} {us : List Value} {vs : List V} (F : FnOk X.prog X.w X.K X.mg X.base CX k f fd ps sp) (hr : Room k A) (e0 : Env0 X.prog X.w X.K X.mg X.base A X.stack s H)
    (hb : Binds X.K fd ps []) (hx : Passes CX X E) (I : Inv X pins σ H s) (r : Vals vs us) (h : sp vs H Q E) : wpAny (model X.prog X.w) A (call (.ref f) us) (EP X pins σ Q) X.xe s := by
  have hl : (us ++ []).length = ps.length := by rw [List.append_nil, ← r.length, F.len _ _ _ _ h]
  have hb2 := hb s us I.kIn hl
  rw [List.append_nil] at hb2
  refine wpAny_call (codeAny_mono (F.run A X.stack s H ⟨us, []⟩ us vs Q E hr e0 hb2 r h) fun r s' hq => ?_)
  cases r with
  | error e => exact hx pins σ H s e s' I hq
  | ok fl =>
    cases fl with
    | ret u => exact I.after hq
    | next => exact False.elim hq
    | brk => exact False.elim hq
    | cont => exact False.elim hq
/-- str(o) -/
def rStrO (C : Addr) (sp : Sp) (E : XK) : List V → Hp → VK → Prop := fun xs H Q => ∃ a dx fs, xs = [.ref a] ∧ H a = some (.ins C dx fs) ∧ sp [.ref a] H (fun v H' => (∃ z, v = .str z) ∧ Q v H') E
theorem call_strO (hm : Meth X.K C "__str__" f) (F : FnOk X.prog X.w X.K X.mg X.base CX k f fd ps sp) (hr : Room (k + 2) X.A) (hb : Binds X.K fd ps []) (hx : Passes CX X E) : CallR X (.type "str") (rStrO C sp E) := by
  intro pins s σ H xs us Q I r h
  obtain ⟨a, dx, fs, rfl, ha, q⟩ := h
  obtain ⟨u, rfl, ru⟩ := vals1 r
  obtain rfl : u = Value.ref a := ru
  obtain ⟨mA, J, _⟩ := ins_get I.hok ha
  obtain ⟨od, J, _⟩ := J.look
  refine PySem.W.kso_call hr.in1.in1.units0 I.kIn J hm.at_ hm.fn ?_
  refine wpAny_mono (run_A F hr.in1.in1 I.env0.in1.in1 hb hx I (show Vals [V.ref a] [Value.ref a] from .cons rfl .nil) q) (fun r s' z => ?_) fun _ _ e => e
  obtain ⟨v, H', I', rv, ⟨z, rfl⟩, q'⟩ := z
  obtain ⟨t, rfl⟩ := rv
  exact ⟨.str z, H', I', ⟨t, rfl⟩, q'⟩
end
end MH
/-! Own rules: the call of an own object, o(..) by its class's __call__; the truth of a whole number within a comprehension. -/
namespace MH
open PySem PySem.Spec PyProof.Rows L2
end MH
/-! Comprehensions over two walks, the second within the first. -/
namespace MH
open PySem PySem.Spec PyProof.Rows L2
end MH
/-! More own special methods: len, bool, repr, [], in, == and != with values of other kinds, f-strings, classmethods. -/
namespace MH
open PySem PySem.Spec PyProof.Rows L2
section
variable {X : Cx} {CX : CXT} {k : Nat} {C f : Addr} {fd : FuncData} {ps : List Str} {sp : Sp} {E : XK}
/-- c(..), c a local name that holds the class -/
def tMakeV (C : Addr) (sp : Sp) (E : XK) (tf : TE) (t : TA) : TE := fun σ H Q => tf σ H fun x H0 => x = .ref C ∧ tMake C sp [] E t σ H0 Q
theorem pe_makeV {x : Str} {p pos : Pos} {e : Expr} {es : List Expr} {tf : TE} {t : TA} (M : Mk X.K C f) (F : FnOk X.prog X.w X.K X.mg X.base CX k f fd ps sp) (hr : Room (k + 1) X.A) (hv : PE X (.Name x p) tf) (hb : Binds X.K fd ps []) (hx : Passes CX X E)
    (ha : PA X (e :: es) t) (he : starEach (e :: es) X.env = (false, eval e X.env) :: starEach es X.env := by rfl) (hpl : (backTo pos (starEach es X.env)).any (·.1) = false := by rfl) : PE X (.Call (.Name x p) (e :: es) [] pos) (tMakeV C sp E tf t) := by
  refine ⟨fun pins s σ H Q I h => ?_⟩
  refine wpAny_Call_Name_kw (thn (hv.run pins s σ H _ I h) fun f s0 ⟨v, H0, I0, r0, ev, q0⟩ => ?_)
  subst ev
  obtain rfl : f = Value.ref C := r0
  refine PySem.W.callWith_K (h₀ := X.base) I.ok.mod.kin M.kp (thn (ha.run pos pins s0 σ H0 _ I0 q0) fun us s1 ⟨vs, H1, I1, r, q⟩ => ⟨I1.kIn, ?_⟩) he hpl
  exact run_make M F hr hb .nil hx I1 r q
theorem FnOk.toR {P : Program} {w : World} {K : PySem.W.Frag} {mg : Str → Option Value} {base : Heap} (F : FnOk P w K mg base CX k f fd ps sp) (hB : Binds K fd ps []) : FnR P w K mg base CX k f sp := fun A outer s H us vs Q E hr e0 r hs => by
  have KX : K.In s.heap := e0.mod.kin.keeps fun b o e => (e0.bs b o e).1
  have hl : (us ++ []).length = ps.length := by rw [List.append_nil, ← r.length, F.len _ _ _ _ hs]
  have hb2 := hB s us KX hl
  rw [List.append_nil] at hb2
  exact F.run A outer s H ⟨us, []⟩ us vs Q E hr e0 hb2 r hs
end
end MH
/-! try .. except (A, B, C) as n: the clause's classes in a tuple. -/
namespace MH
open PySem PySem.Spec PyProof.Rows L2
/-- a flight stays one where only new objects come -/
theorem flying_more {B : Heap} {l : List Env} {a : Addr} {Z : Obj → Prop} {g g' : Heap} (k : ∀ b o, g.get? b = some o → g'.get? b = some o) (x : HandSPX.FlyingZ B l a Z g) : HandSPX.FlyingZ B l a Z g' := by
  obtain ⟨x1, x2, x3, oe, vs, T, oT, ts, y1, y2, y3, y4, y5, y6, y7, y8⟩ := x
  exact ⟨fun b o e => k _ _ (x1 b o e), x2, Heap.FunFrames.of_keeps (fun b o e _ => ⟨o, k _ _ e, rfl⟩) x3, oe, vs, T, oT, ts, k _ _ y1, y2, y3, y4, y5, y6, k _ _ y7, y8⟩
theorem slots_more {g g1 g2 : Heap} (u : g.UpToSlots g1) (k : ∀ b o, g1.get? b = some o → g2.get? b = some o) : g.UpToSlots g2 := fun b o e hd => by
  obtain ⟨sl, q⟩ := u b o e hd
  exact ⟨sl, k _ _ q⟩
end MH
/-! Caught exceptions as objects of the tracked heap; defs that are called within an except suite. -/
namespace MH
open PySem PySem.Spec PyProof.Rows L2
/-! ### a caught exception -/
def exk (a C d : Addr) : HO := .ext fun h => ∃ (o : Obj) (vs : Array Value), h.get? a = some o ∧ o.cls = .ref C ∧ o.dict = some d ∧ o.data = .fields vs
theorem exk_ok {P : Program} {w : World} {H : Hp} {h : Heap} {a C d : Addr} {o : Obj} {vs : Array Value} (h1 : h.get? a = some o) (h2 : o.cls = .ref C) (h3 : o.dict = some d) (h4 : o.data = .fields vs) : ObjOk P w H h a (exk a C d) :=
  ⟨⟨o, vs, h1, h2, h3, h4⟩, ⟨o, h1⟩, fun x y z k => by
    obtain ⟨o, vs, q, r⟩ := z
    exact ⟨o, vs, k _ q, r⟩⟩
theorem exk_at {P : Program} {w : World} {H : Hp} {h : Heap} {a C d : Addr} (hok : HOk P w H h) (he : H a = some (exk a C d)) : ∃ (o : Obj) (vs : Array Value), h.get? a = some o ∧ o.cls = .ref C ∧ o.dict = some d ∧ o.data = .fields vs := by
  have x : ObjOk P w H h a (.ext fun h => ∃ (o : Obj) (vs : Array Value), h.get? a = some o ∧ o.cls = .ref C ∧ o.dict = some d ∧ o.data = .fields vs) := hok a _ he
  exact x.1
section
variable {X : Cx} {pins : List (Addr × Obj)} {σ : L2.St} {H : Hp} {s : Shared}
/-- an object that stands, made since the entry, is told from now on -/
theorem _root_.L2.Inv.track {a : Addr} {o : HO} (I : Inv X pins σ H s) (n0 : X.s_0.heap.get? a = none) (na : H a = none) (nl : X.env.locals ≠ a) (nc : ∀ x c, X.env.cells.lookup x = some c → c ≠ a) (np : ∀ p ∈ X.pn ++ pins, p.1 ≠ a)
    (new : ObjOk X.prog X.w (upd H a o) s.heap a o) : Inv X pins σ (upd H a o) s := by
  have n0' : ∀ {b : Addr} {ob : Obj}, X.s_0.heap.get? b = some ob → b ≠ a := fun {b ob} e z => by
    rw [z, n0] at e
    cases e
  refine ⟨I.ok, I.os, I.bare, ⟨I.base.keep, I.base.slot, fun b ob e n hx => ?_, I.base.there, fun b xs e => ?_, fun b ob u e => ?_, fun b ps e => ?_⟩, I.loc, I.cell, ?_, fun x c e => ?_, fun p hp => ?_, fun b ob e => ?_, I.len⟩
  · rw [upd_ne (n0' e)]
    exact I.base.free b ob e n hx
  · have q := I.base.tups b xs e
    rw [upd_ne (ne_of_none q na)]
    exact q
  · have q := I.base.frzs b ob u e
    rw [upd_ne (ne_of_none q na)]
    exact q
  · obtain ⟨m, q⟩ := I.base.tbls b ps e
    exact ⟨m, by rw [upd_ne (ne_of_none q na)]; exact q⟩
  · rw [upd_ne nl]
    exact I.free
  · rw [upd_ne (nc x c e)]
    exact I.freeC x c e
  · obtain ⟨h1, h2, h3⟩ := I.pin p hp
    exact ⟨h1, by rw [upd_ne (np p hp)]; exact h2, h3⟩
  · by_cases hb : b = a
    · subst hb
      rw [upd_same] at e
      cases e
      exact new
    · rw [upd_ne hb] at e
      exact (I.hok b ob e).stay (fun c v _ z => z) (fun c hc => by rw [upd_ne (ne_of_none hc na)]; exact hc) fun c xs hc => by rw [upd_ne (ne_of_none hc na)]; exact hc
theorem _root_.L2.Inv.suiteK (I : Inv X pins σ H s) (a : Addr) : Inv (X.suite a (X.pn ++ pins)) [] σ H s :=
  ⟨I.ok.suite _ _, I.os, I.bare, I.base, I.loc, I.cell, I.free, I.freeC, fun p hp => by
    have hp' : p ∈ X.pn ++ pins := by
      rw [List.append_nil] at hp
      exact hp
    exact I.pin p hp', I.hok, I.len⟩
theorem _root_.L2.Inv.unsuiteK {a : Addr} {pn' : List (Addr × Obj)} (I : Inv (X.suite a (X.pn ++ pins)) pn' σ H s) (ok : X.Ok) : Inv X pins σ H s :=
  ⟨ok, I.os, I.bare, I.base, I.loc, I.cell, I.free, I.freeC, fun p hp => I.pin p (List.mem_append_left _ hp), I.hok, I.len⟩
end
/-! ### try: body, except (A, B, C) as n: suite -/
def wAsK (K : PySem.W.Frag) (cs : List Value) (n i : Nat) (ts : TS) (Wout : WX) (D : Ends) : WX := fun cls d σ H =>
  ∃ b, PySem.W.exmAny K cls cs = some b ∧
    (b = true → ∃ C dd, cls = .ref C ∧ d = some dd ∧ ∀ a, σ.length = n → H a = none → ts { nx := fun σ' H' => D.nx (σ'.set i none) H', rt := D.rt, bk := fun σ' H' => D.bk (σ'.set i none) H', ct := fun σ' H' => D.ct (σ'.set i none) H' } (σ.set i (some (.ref a))) (upd H a (exk a C dd))) ∧ (b = false → Wout cls d σ H)
section
variable {X : Cx} {x1 x2 x3 n : Str} {c1 c2 c3 : Value} {i kt : Nat} {body suite : List Stmt} {b₀ : Stmt} {p1 p2 p3 pt pos pos' : Pos} {tb : WX → TS} {ts : TS} {Wout : WX}
theorem ps_try_asK (stk : X.stack = X.env :: X.outer) (frm : X.env.frame = some X.env.locals) (hex : X.ex = []) (nd : X.N.Nodup) (slot : X.N[i]? = some n) (loc : X.env.kindOf n = some .local) (n1 : Names X x1 c1) (n2 : Names X x2 c2) (n3 : Names X x3 c3) (tk : Takes X Wout)
    (inBody : ∀ (W : WX) (pn : List (Addr × Obj)) (xe : Value → Shared → Prop), Takes (X.tr pn xe) W → PassesOwn (model X.prog X.w) X.A X.env xe → PSs (X.tr pn xe) body (tb W))
    (inSuite : ∀ (a : Addr) (pn : List (Addr × Obj)), PSs (X.suite a pn) (b₀ :: suite) ts) :
    PS X (.Try body [.ExceptHandler (some (.Tuple [.Name x1 p1, .Name x2 p2, .Name x3 p3] kt pt)) (some n) (b₀ :: suite) pos'] [] [] pos) (fun D σ H => tb (wAsK X.K [c1, c2, c3] X.N.length i ts Wout D) D σ H) := by
  refine ⟨fun pins s σ H D I h => ?_⟩
  have okI := I.ok
  have frs0 : X.A.frames = some (X.env :: X.outer) := by rw [okI.frames, stk]
  have vis : Loc X.env.scope n := .inl loc
  refine wpAny_Try_except ?_
  refine wpAny_mono ((inBody (wAsK X.K [c1, c2, c3] X.N.length i ts Wout D) (X.pn ++ pins)
    (fun e s₁ => wpAny (model X.prog X.w) X.A (noteFrame e X.env) (fun _ s₂ => wpAny (model X.prog X.w) X.A (setFlight e none)
      (fun _ s₃ => wpAny (model X.prog X.w) X.A (handleBy e X.env [.ExceptHandler (some (.Tuple [.Name x1 p1, .Name x2 p2, .Name x3 p3] kt pt)) (some n) (b₀ :: suite) pos']) (SP X pins D) X.xe s₃) X.xe s₂) X.xe s₁)
    (fun u s' air => ?_) PassesOwn.looking).run [] s σ H D (I.toTry _) h) (fun f s1 q => ?_) (fun _ _ z => z)
  · obtain ⟨a, B, sI, pins', σ', H', cls, d, rfl, Jt, nb, up, sky, fresh, os, ag, b, hb1, yes, no⟩ := air
    have J : Inv X pins σ' H' sI := Jt.ofTry okI
    have sky1 : Sky B (X.env :: X.outer) a (Zc cls d) X.env.locals s'.heap := by rw [← stk]; exact sky
    show wpAny (model X.prog X.w) X.A (noteFrame (.ref a) X.env) _ _ _
    refine Sky.land Zc.steady frs0 frm sky1 fun g3 fl3 up3 => ?_
    have J3 : Inv X pins σ' H' { s' with heap := g3 } := J.landed nb fl3.1 (up.trans up3) os ag
    obtain ⟨oe3, vs3, at3, z3, dat3⟩ := fl3.there
    have apart : ∀ {g : Heap} {o : Obj} {vs : Array Value}, g.FunFrames B (X.env :: X.outer) → g.get? a = some o → o.data = .fields vs → a ∉ frs (X.env :: X.outer) := fun {g o vs} ff e dd hm => by
      obtain ⟨_, o', e', notf⟩ := ff.mem hm
      rw [e] at e'
      cases e'
      exact notf _ dd
    have out3 := apart fl3.2.2.1 at3 dat3
    have nl : a ≠ X.env.locals := fun z => out3 (List.mem_filterMap.mpr ⟨X.env, List.mem_cons_self, by rw [frm, z]⟩)
    have nf : a ∉ X.fs := fun hm => by
      obtain ⟨e, he, q⟩ := List.mem_filterMap.mp hm
      exact out3 (List.mem_filterMap.mpr ⟨e, List.mem_cons_of_mem _ he, q⟩)
    have newI : sI.heap.get? a = none := by
      cases q : sI.heap.get? a with
      | none => rfl
      | some o =>
        have z := nb a o q (by rw [stk]; exact out3)
        rw [fl3.2.1] at z
        cases z
    have new0 : X.s_0.heap.get? a = none := by
      cases q : X.s_0.heap.get? a with
      | none => rfl
      | some o =>
        obtain ⟨o', z⟩ := J.base.there a o q (by rw [hex]; simp)
        rw [newI] at z
        cases z
    have S3 := J3.suite at3 dat3 fresh nl nf
    refine wpAny_handleBy_cons (codeAny_handlers_test ?_) (by intro q; cases q)
    have one : ∀ {x : Str} {c : Value} {p : Pos} {Q : Value → Shared → Prop} {E : Value → Shared → Prop}, Names X x c → Q c { s' with heap := g3 } → wpAny (model X.prog X.w) (X.A.mark (some (.ref a))) (eval (.Name x p) X.env) Q E { s' with heap := g3 } := fun {x c p Q E} nm q => by
      obtain ⟨hg, hd, hm | ⟨hm, hv, nn⟩⟩ := nm
      · exact ld_glob (X := X.suite a ((a, oe3) :: (X.pn ++ pins))) S3 hg hm q hd
      · exact ld_blt (X := X.suite a ((a, oe3) :: (X.pn ++ pins))) S3 hg hm hv q nn hd
    refine Tuple_ (Calls.spliced_cons (one n1 (Calls.spliced_cons (one n2 (Calls.spliced_cons (one n3 (Calls.spliced_nil ?_)))))))
    refine wpAny_newObj_type ?_ (by show 3 ≤ sizeLine; decide)
    have more : ∀ b o, g3.get? b = some o → (g3.push ({ cls := .type "tuple", data := .seq [c1, c2, c3].toArray } : Obj)).get? b = some o := fun b o e => Heap.get?_push_of_some _ e
    have tupAt : (g3.push ({ cls := .type "tuple", data := .seq [c1, c2, c3].toArray } : Obj)).get? g3.objs.size = some { cls := .type "tuple", data := .seq [c1, c2, c3].toArray } := Heap.get?_push_size _ rfl
    have fl5 := flying_more more fl3
    have up5 : s'.heap.UpToSlots (g3.push ({ cls := .type "tuple", data := .seq [c1, c2, c3].toArray } : Obj)) := slots_more up3 more
    have at5 := more _ _ at3
    generalize g3.push ({ cls := .type "tuple", data := .seq [c1, c2, c3].toArray } : Obj) = g5 at more tupAt fl5 up5 at5 ⊢
    have J5 : Inv X pins σ' H' { s' with heap := g5 } := J.landed nb fl5.1 (up.trans up5) os ag
    have S5 := J5.suite at5 dat3 fresh nl nf
    have typed : PySem.W.Looks (model X.prog X.w) g5 (typeOf (.ref a)) cls := fun A Q E s k q => wpAny_typeOf_ref (k _ _ at5) (by rw [z3.1]; exact q)
    refine (PySem.W.exm_tup3 (M := model X.prog X.w) J5.kIn typed tupAt hb1).here ?_
    cases b with
    | true =>
      obtain ⟨C, dd, ecls, ed, yes⟩ := yes rfl
      refine codeAny_handlers_suite_as ?_
      refine HandSPX.lands_againZ fl5 fun g4 fl4 up4 => ?_
      have J4 : Inv X pins σ' H' { s' with heap := g4 } := J.landed nb fl4.1 ((up.trans up5).trans up4) os ag
      obtain ⟨oe4, vs4, at4, z4, dat4⟩ := fl4.there
      have T4 : Inv X pins σ' (upd H' a (exk a C dd)) { s' with heap := g4 } := by
        refine J4.track new0 fresh nl.symm (fun x c e z => ?_) (fun p hp z => ?_) (exk_ok at4 (z4.1.trans ecls) (z4.2.trans ed) dat4)
        · obtain ⟨v, o, ho, hd⟩ := J4.cell x c e
          rw [z] at ho
          have z2 := ho.symm.trans at4
          cases z2
          rw [dat4] at hd
          cases hd
        · have q := (J.pin p hp).1
          rw [z, newI] at q
          cases q
      have S4 := T4.suiteK a
      refine store_ok (X := X.suite a (X.pn ++ pins)) (v := .ref a) S4 nd slot vis rfl (fun s5 S5 => ?_) (.inr loc)
      refine wpAny_mono ((inSuite a (X.pn ++ pins)).run [] s5 _ _ _ S5 (yes a J4.len fresh)) (fun f s6 fin => ?_) (fun _ _ z => False.elim z)
      have close : ∀ {σ6 : L2.St} {H6 : Hp} {Q : Shared → Prop}, Inv (X.suite a (X.pn ++ pins)) [] σ6 H6 s6 → (∀ s7, Inv X pins (σ6.set i none) H6 s7 → Q s7) →
          wpAny (model X.prog X.w) X.A (do bindName X.env n .none; unbindBehindTheSuite X.env n pos') (fun _ s7 => Q s7) X.xe s6 := fun {σ6 H6 Q} S6 hq => gone_ok (S6.unsuiteK okI) nd slot loc hq
      match f, fin with
      | .next, ⟨σ6, H6, S6, q6⟩ => exact close S6 fun s7 J7 => ⟨_, _, J7, q6⟩
      | .brk, ⟨σ6, H6, S6, q6⟩ => exact close S6 fun s7 J7 => ⟨_, _, J7, q6⟩
      | .cont, ⟨σ6, H6, S6, q6⟩ => exact close S6 fun s7 J7 => ⟨_, _, J7, q6⟩
      | .ret u, ⟨v6, σ6, H6, S6, r6, q6⟩ => exact close S6 fun s7 J7 => ⟨_, _, _, J7, r6, q6⟩
    | false =>
      show wpAny _ X.A (handleBy (.ref a) X.env []) _ _ _
      refine wpAny_handleBy_nil ?_
      obtain ⟨k1, k2, k3, oe, vs, T, oT, ts', he, hz, hd, h1, hr⟩ := id fl5
      unfold PySem.passOn
      refine wpAny_bind (wpAny_field he hd h1 ?_)
      rw [if_neg (by simp)]
      have leave : wpAny (model X.prog X.w) X.A (setFlight (.ref a) X.env.frame) (fun _ s4 => wpAny (model X.prog X.w) X.A (throw (.ref a) : Sem Flow) (SP X pins D) X.xe s4) X.xe { s' with heap := g5 } := by
        rw [frm]
        refine HandSPX.setFlight_upZ fl5 fun g4 held up4 => wpAny_throw (tk _ _ ?_)
        exact ⟨a, B, sI, pins, σ', H', cls, d, rfl, J, nb, (up.trans up5).trans up4, .inr (.inr (by rw [stk]; exact held)), fresh, os, ag, no rfl⟩
      first
        | exact wpAny_bind (wpAny_pure (wpAny_bind leave))
        | exact wpAny_bind leave
  · match f, q with
    | .next, ⟨σ', H', J', q⟩ => exact wpAny_execs_nil ⟨σ', H', J'.ofTry okI, q⟩
    | .brk, ⟨σ', H', J', q⟩ => exact ⟨σ', H', J'.ofTry okI, q⟩
    | .cont, ⟨σ', H', J', q⟩ => exact ⟨σ', H', J'.ofTry okI, q⟩
    | .ret u, ⟨v, σ', H', J', r, q⟩ => exact ⟨v, σ', H', J'.ofTry okI, r, q⟩
end
/-! ### promises of defs that are called within a suite (whatever is handled), while no repr is under way -/
def FnK (P : Program) (w : World) (K : PySem.W.Frag) (mg : Str → Option Value) (base : Heap) (k : Nat) (f : Addr) (sp : Sp) : Prop :=
  ∀ (A : Around) (fr : List Env) (st : Shared) (H : Hp) (us : List Value) (vs : List V) (Q : VK), A.guards = some [] → L2H.RoomH k A → Env0 P w K mg base A fr st H → Vals vs us →
    sp vs H Q E0 → codeAny (model P w) A (.call (.ref f) ⟨us, []⟩) (CR CX0 fr P w H st Q E0) st
/-- the context of such a def's body -/
def cxK (P : Program) (w : World) (K : PySem.W.Frag) (mg : Str → Option Value) (base : Heap) (N : List Str) (qual : Str) (scope : Scope) (f : Addr) (cd : Value) (A : Around) (outer : List Env) (s : Shared) (H : Hp) : Cx :=
  { cxOf CX0 P w K mg base N qual scope f cd A outer s H E0 with calm := false }
theorem inv_startK {P : Program} {w : World} {K : PySem.W.Frag} {mg : Str → Option Value} {base : Heap} {N ps : List Str} {qual : Str} {scope : Scope} {f : Addr} {cd : Value} {A : Around} {outer : List Env} {s s1 : Shared} {H : Hp} {us : List Value} {vs : List V}
    (S : FnScope N ps scope) (e0 : Env0 P w K mg base A outer s H) (hl : vs.length = ps.length) (r : Vals vs us)
    (x : InCallC s s.heap.objs.size (bindL (envOfC qual scope s.heap.objs.size f cd).kindOf (ps.zip us) fun _ => none) (cellsFrom (s.heap.objs.size + 1) scope.names []) (bindC (envOfC qual scope s.heap.objs.size f cd).kindOf (ps.zip us) fun _ => none) s1) :
    Inv (cxK P w K mg base N qual scope f cd A outer s H) [] (L2.start N vs) H s1 := by
  -- as if nothing were handled: of the surroundings the invariant knows the frames alone
  have calmer : Env0 P w K mg base { A with handled := none } outer s H := ⟨e0.frames, e0.mod, e0.bs, e0.bsz, e0.funs, e0.frf, e0.hok, e0.bare⟩
  have I := inv_start (CX := CX0) (E := E0) S (A := { A with handled := none }) rfl calmer hl r x
  exact ⟨⟨I.ok.mod, I.ok.kind, I.ok.glob, I.ok.blt, I.ok.above, I.ok.inj, I.ok.has, I.ok.cab, (fun z => (nomatch (show false = true from z))), I.ok.frames, I.ok.stk, I.ok.exf, I.ok.bs, I.ok.bsz, I.ok.noex, I.ok.exfs, I.ok.funs, I.ok.frf⟩,
    I.os, I.bare, I.base, I.loc, I.cell, I.free, I.freeC, I.pin, I.hok, I.len⟩
section
variable {P : Program} {w : World} {K : PySem.W.Frag} {mg : Str → Option Value} {base : Heap} {k : Nat} {f : Addr} {sp : Sp}
theorem FnK.mono {j : Nat} (F : FnK P w K mg base j f sp) (h : j ≤ k) : FnK P w K mg base k f sp := fun A fr st H us vs Q hg hr => F A fr st H us vs Q hg (hr.mono h)
theorem fk_of {name qual : Str} {pms : Arguments} {body : List Stmt} {sc : Scope} {dV kV doc pm cdv ct oc : Value} {an od : Option Addr} {osl : Array (Option Value)} {N ps : List Str}
    (lk : K.lookup f = some ⟨oc, od, .func (PySem.W.fnOf name qual pms body sc dV kV doc pm an cdv ct), osl⟩) (hc : PySem.W.codeIn K cdv qual = true) (S : FnScope N ps sc)
    (hB : Binds K (PySem.W.fnOf name qual pms body sc dV kV doc pm an cdv ct) ps []) (hlen : ∀ vs H Q E, sp vs H Q E → vs.length = ps.length)
    (hbd : ∀ (A : Around) (fr : List Env) (st : Shared) (H : Hp) (vs : List V) (Q : VK), A.guards = some [] → L2H.RoomH k (A.deeper (envOfC qual sc st.heap.objs.size f cdv)) → sp vs H Q E0 →
      ∃ t, PSs (cxK P w K mg base N qual sc f cdv A fr st H).nox body t ∧ t { nx := fun _ H' => Q .non H', rt := Q } (start N vs) H) :
    FnK P w K mg base (k + 1) f sp := by
  intro A fr st H us vs Q hg hr e0 r hs
  have hl := hlen _ _ _ _ hs
  have hul : (us ++ []).length = ps.length := by
    rw [List.append_nil, ← r.length, hl]
  have KX : K.In st.heap := e0.mod.kin.keeps fun b o e => (e0.bs b o e).1
  have nl : st.heap.NoLimit := e0.mod.nolimit.keeps fun b o e => (e0.bs b o e).1
  have hk : ∀ y ∈ ps.zip us, sc.names.lookup y.1 = some .local ∨ (sc.names.lookup y.1 = some .cell ∧ ((cellsFrom (st.heap.objs.size + 1) sc.names []).lookup y.1).isSome = true) := by
    intro y hy
    rcases S.par y.1 (List.of_mem_zip hy).1 with q | q
    · exact .inl q
    · exact .inr ⟨q, PySem.W.cellsFrom_some _ _ _ (.inl q)⟩
  have hb2 := hB st us KX hul
  rw [List.append_nil] at hb2
  refine codeAny_call_function hr.depth (KX _ _ lk) rfl S.co S.gen rfl (PySem.W.codeRec_of KX hc) (hb2 _ _ _ _ ?_)
  refine wpAny_newFunctionEnv_cells S.kind hk fun env he s1 x => ?_
  subst he
  refine ⟨nl.keeps x.toInCall.keep, codeAny_func ?_⟩
  obtain ⟨t, ht, hq⟩ := hbd A fr st H vs Q hg (hr.deeper _) hs
  have J : Inv (cxK P w K mg base N qual sc f cdv A fr st H) [] (start N vs) H s1 := inv_startK S e0 hl r x
  refine wpAny_mono (ht.nox.run [] s1 (start N vs) H _ J hq) (fun fl s' hz => ?_) fun e s' hz => hz
  cases fl with
  | ret u =>
    obtain ⟨v, σ', H', J', rv, q⟩ := hz
    exact ⟨v, H', J'.os, J'.bare, J'.base, J'.hok, rv, q⟩
  | next =>
    obtain ⟨σ', H', J', q⟩ := hz
    exact ⟨.non, H', J'.os, J'.bare, J'.base, J'.hok, rfl, q⟩
  | brk => exact (hz.choose_spec.choose_spec.2 : False).elim
  | cont => exact (hz.choose_spec.choose_spec.2 : False).elim
theorem fun_k {x qual : Str} {st : Stmt} {fd : FuncData} {N ps : List Str} (F : Fun K x qual st f fd) (S : FnScope N ps (defScope st)) (hB : Binds K fd ps []) (hlen : ∀ vs H Q E, sp vs H Q E → vs.length = ps.length)
    (hbd : ∀ (cdv : Value) (A : Around) (fr : List Env) (s : Shared) (H : Hp) (vs : List V) (Q : VK), A.guards = some [] → L2H.RoomH k (A.deeper (envOfC qual (defScope st) s.heap.objs.size f cdv)) → sp vs H Q E0 →
      ∃ t, PSs (cxK P w K mg base N qual (defScope st) f cdv A fr s H).nox (defBody st) t ∧ t { nx := fun _ H' => Q .non H', rt := Q } (start N vs) H) :
    FnK P w K mg base (k + 1) f sp := by
  obtain ⟨oc, od, kV, doc, pm, an, cdv, ct, osl, rfl, lk, hc⟩ := F.ex
  exact fk_of lk hc S hB hlen fun A fr s H vs Q hg hr hs => hbd cdv A fr s H vs Q hg hr hs
end
section
variable {X : Cx} {k : Nat} {f : Addr} {sp : Sp} {x : Str} {p pos : Pos} {e : Expr} {es : List Expr} {t : TA}
/-- f(e, ..) in a suite -/
theorem pe_callk (F : FnK X.prog X.w X.K X.mg X.base k f sp) (hg : X.A.guards = some []) (hr : L2H.RoomH k X.A) (gl : Gl X x) (hm : X.mg x = some (.ref f)) (hk : PySem.W.keepIn X.K (.ref f) = true)
    (ha : PA X (e :: es) t) (hdb : (x == ("__debug__" : Str)) = false := by decide) (he : starEach (e :: es) X.env = (false, eval e X.env) :: starEach es X.env := by rfl) (hpl : (backTo pos (starEach es X.env)).any (·.1) = false := by rfl) :
    PE X (.Call (.Name x p) (e :: es) [] pos) (tCall sp [] E0 t) := by
  refine ⟨fun pins s σ H Q I h => ?_⟩
  refine wpAny_Call_Name_kw (ld_glob I gl hm ?_ hdb)
  refine PySem.W.callWith_K (h₀ := X.base) I.ok.mod.kin hk (thn (ha.run pos pins s σ H _ I h) fun us s1 ⟨vs, H1, I1, r, q⟩ => ⟨I1.kIn, ?_⟩) he hpl
  have q1 : sp vs H1 Q E0 := by
    have z : sp (vs ++ []) H1 Q E0 := q
    rw [List.append_nil] at z
    exact z
  refine wpAny_call (codeAny_mono (F X.A X.stack s1 H1 us vs Q hg hr I1.env0 r q1) fun r s' hq => ?_)
  match r, hq with
  | .ok (.ret u), hq => exact I1.after hq
  | .ok .next, hq => exact False.elim hq
  | .ok .brk, hq => exact False.elim hq
  | .ok .cont, hq => exact False.elim hq
  | .error _, hq => exact False.elim hq
end
/-! ### isinstance and fields of a caught exception -/
/-- the exception at a: its class, its dict, its fields -/
def ExAt (H : Hp) (a C : Addr) (fs : List (Str × V)) : Prop := ∃ d, H a = some (exk a C d) ∧ H d = some (.xd fs)
/-- what its class says -/
structure ExcK (K : PySem.W.Frag) (D : Addr) : Prop where
  cl : (PySem.W.clsIn K D).isSome = true
  hg : PySem.W.findIn K (.ref D) "__getattribute__" = some (some (.builtin "BaseException.__getattribute__"))
  hk : PySem.W.findIn K (.ref D) "__getattr__" = some none
  hs : PySem.W.subIn K (.ref D) (.type "BaseException") = some true
  hd : PySem.W.hasDictIn K D = true
  ha : PySem.W.findIn K (.ref D) "__class__" = some (some (.builtin "object.__class__"))
  hn : PySem.W.specialIn K (.builtin "object.__class__") "__get__" = some (some (.builtin "getset_descriptor.__get__"))
  ht : PySem.W.takesIn K (.builtin "object.__class__") = some true
  hm : PySem.W.mroIn K D (.type "object") = some true
theorem ExAt.inst {X : Cx} {pins : List (Addr × Obj)} {σ : L2.St} {H : Hp} {s : Shared} {a C : Addr} {fs : List (Str × V)} (I : Inv X pins σ H s) (e : ExAt H a C fs) :
    ∃ (d : Addr) (o od : Obj), PySem.W.InstAt s.heap a o C (some od) ∧ H d = some (.xd fs) ∧ o.dict = some d ∧ s.heap.get? d = some od := by
  obtain ⟨d, e1, e2⟩ := e
  obtain ⟨o, vs, h1, h2, h3, h4⟩ := exk_at I.hok e1
  have hx : ObjOk X.prog X.w H s.heap d (.xd fs) := I.hok d _ e2
  obtain ⟨mA, hns, hr⟩ := hx
  obtain ⟨od, es, ep, ho, _⟩ := id hns
  exact ⟨d, o, od, ⟨h1, h2, by unfold PySem.W.notCls; rw [h4] <;> rfl, by rw [h3]; exact ho⟩, e2, h3, ho⟩
def rIsK (K : PySem.W.Frag) : List V → Hp → VK → Prop := fun xs H Q => ∃ (a C : Addr) (fs : List (Str × V)) (c : V) (cv : Value) (b : Bool), xs = [.ref a, c] ∧ ExAt H a C fs ∧ ExcK K C ∧ (∀ u, RelV c u → u = cv) ∧ PySem.W.kitOne K (.ref C) cv = some b ∧ Q (.bl b) H
theorem call_isK {X : Cx} : CallR X (.builtin "isinstance") (rIsK X.K) := by
  intro pins s σ H xs us Q I r h
  obtain ⟨a, C, fs, c, cv, b, rfl, e, T, hcv, ek, q⟩ := h
  cases r with
  | cons rx rr =>
    cases rr with
    | cons rt rr =>
      cases rr
      cases rx
      have ec := hcv _ rt
      subst ec
      obtain ⟨d, o, od, J, _⟩ := e.inst I
      exact PySem.W.kia_one (PySem.W.kitx_exc T.cl T.hg T.hk T.hs T.ha T.hn T.ht T.hm) I.kIn J ek (fun z => nomatch z) fun tk => ⟨.bl b, H, I.kept (t' := tk) fun _ _ z => z, rfl, q⟩
def tXk (K : PySem.W.Frag) (f : Str) (te : TE) : TE := fun σ H Q => te σ H fun x H1 => ∃ (a C : Addr) (fs : List (Str × V)) (v : V), x = .ref a ∧ ExAt H1 a C fs ∧ ExcK K C ∧ PySem.W.findIn K (.ref C) f = some none ∧ fs.lookup f = some v ∧ Q v H1
theorem pe_xk {X : Cx} {e : Expr} {te : TE} {pos : Pos} {n : Str} (he : PE X e te) (hb : attributeBase e n X.env (eval e X.env) = eval e X.env := by rfl) : PE X (.Attribute e n pos) (tXk X.K n te) := by
  refine ⟨fun pins s σ H Q I h => ?_⟩
  refine attr_of hb (thn (he.run pins s σ H _ I h) fun u s1 hh => ?_)
  obtain ⟨x, H1, I1, rx, a, C, fs, v, ex, ea, T, hno, l, q⟩ := hh
  subst ex
  obtain rfl : u = Value.ref a := rx
  obtain ⟨d, o, od, J, e2, ed, eo⟩ := ea.inst I1
  have hx : ObjOk X.prog X.w H1 s1.heap d (.xd fs) := I1.hok d _ e2
  obtain ⟨mA, hns, hr⟩ := hx
  obtain ⟨od', ho, hl⟩ := lookIn_ns hns
  obtain rfl : od' = od := Option.some.inj (ho.symm.trans eo)
  obtain ⟨u, hu, ru⟩ := RelO.some_of (v := v) (o := mA n) (by rw [← l]; exact hr n)
  exact HandSPX.exc_get I1.kIn J T.hg T.hk T.hs (PySem.W.findObj_own T.hd hno rfl (by rw [hl, hu])) (handed_of ru) ⟨v, H1, I1.tok _, ru, q⟩
end MH
/-! repr of values of many kinds; list.count of truths; the signs of what repr shows. -/
namespace MH
open PySem PySem.Spec PyProof.Rows L2
/-! ### signs -/
def SgOk (z : Str) : Prop := ∀ c ∈ z.cps.toList, c < 0x110000
theorem sg_iff {z : Str} : PyData.strOk z = true ↔ SgOk z := by
  unfold PyData.strOk SgOk
  rw [← Array.all_toList, List.all_eq_true]
  exact ⟨fun h c hc => of_decide_eq_true (h c hc), fun h c hc => decide_eq_true (h c hc)⟩
theorem sg_append {x y : Str} (a : SgOk x) (b : SgOk y) : SgOk (x ++ y) := by
  intro c hc
  have hc' : c ∈ (x.cps ++ y.cps).toList := hc
  rw [Array.toList_append, List.mem_append] at hc'
  exact hc'.elim (a c) (b c)
theorem char_lt (c : Char) : c.toNat < 0x110000 := by
  have h := c.valid
  have e : c.toNat = c.val.toNat := rfl
  rcases h with h | h
  · rw [e]
    have h' : c.val.toNat < 0xd800 := h
    omega
  · rw [e]
    exact h.2
theorem sg_ofString (s : String) : SgOk (Str.ofString s) := by
  intro c hc
  rw [Str.ofString_eq_toList] at hc
  have hc' : c ∈ s.toList.map Char.toNat := by simpa using hc
  obtain ⟨d, _, rfl⟩ := List.mem_map.mp hc'
  exact char_lt d
theorem sg_join {sep : Str} (h : SgOk sep) : ∀ {l : List Str}, (∀ z ∈ l, SgOk z) → SgOk (Str.join sep l)
  | [], _ => fun c hc => by simp [Str.join, Str.empty] at hc
  | [x], hl => hl x List.mem_cons_self
  | x :: y :: r, hl => by
    show SgOk (x ++ sep ++ Str.join sep (y :: r))
    exact sg_append (sg_append (hl x List.mem_cons_self) h) (sg_join h fun z hz => hl z (List.mem_cons_of_mem _ hz))
theorem sg_reprChar {q c : Nat} (hc : c < 0x110000) : ∀ y ∈ Builtin.Str.reprChar q c, y < 0x110000 := by
  have hx : ∀ w : Nat, ∀ y ∈ List.replicate (w - ((Nat.toDigits 16 c).map Char.toNat).length) 48 ++ (Nat.toDigits 16 c).map Char.toNat, y < 0x110000 := by
    intro w y hy
    rcases List.mem_append.mp hy with hy | hy
    · have := (List.mem_replicate.mp hy).2
      omega
    · obtain ⟨d, _, rfl⟩ := List.mem_map.mp hy
      exact char_lt d
  unfold Builtin.Str.reprChar
  dsimp only
  intro y hy
  have two : ∀ {a b : Nat} {w : Nat}, a < 0x110000 → b < 0x110000 → y ∈ [a, b] ++ (List.replicate (w - ((Nat.toDigits 16 c).map Char.toNat).length) 48 ++ (Nat.toDigits 16 c).map Char.toNat) → y < 0x110000 := by
    intro a b w ha hb hm
    rcases List.mem_append.mp hm with hm | hm
    · rcases List.mem_cons.mp hm with rfl | hm
      · exact ha
      · rw [List.mem_singleton.mp hm]
        exact hb
    · exact hx w y hm
  have lit : ∀ {a b : Nat}, a < 0x110000 → b < 0x110000 → y ∈ [a, b] → y < 0x110000 := by
    intro a b ha hb hm
    rcases List.mem_cons.mp hm with rfl | hm
    · exact ha
    · rw [List.mem_singleton.mp hm]
      exact hb
  split at hy
  · rcases List.mem_cons.mp hy with rfl | hm
    · decide
    · rw [List.mem_singleton.mp hm]
      exact hc
  · split at hy
    · exact lit (by decide) (by decide) hy
    · split at hy
      · exact lit (by decide) (by decide) hy
      · split at hy
        · exact lit (by decide) (by decide) hy
        · split at hy
          · rw [List.mem_singleton.mp hy]
            exact hc
          · split at hy
            · exact two (by decide) (by decide) hy
            · split at hy
              · exact two (by decide) (by decide) hy
              · exact two (by decide) (by decide) hy
theorem sg_foldl (q : Nat) : ∀ (l : List Nat) (acc : Array Nat), (∀ c ∈ l, c < 0x110000) → (∀ c ∈ acc.toList, c < 0x110000) → ∀ c ∈ (l.foldl (fun out c => out ++ (Builtin.Str.reprChar q c).toArray) acc).toList, c < 0x110000
  | [], acc, _, ha => ha
  | d :: l, acc, hl, ha => by
    rw [List.foldl_cons]
    refine sg_foldl q l _ (fun c hc => hl c (List.mem_cons_of_mem _ hc)) fun c hc => ?_
    rw [Array.toList_append, List.mem_append] at hc
    rcases hc with hc | hc
    · exact ha c hc
    · exact sg_reprChar (hl d List.mem_cons_self) c (by simpa using hc)
theorem sg_repr {x : Str} (h : SgOk x) : SgOk (reprText x) := by
  have hq : reprQuote x < 0x110000 := by
    unfold reprQuote
    split <;> decide
  intro c hc
  have hc' : c ∈ ((x.cps.foldl (fun out c => out ++ (Builtin.Str.reprChar (reprQuote x) c).toArray) #[reprQuote x]).push (reprQuote x)).toList := hc
  rw [Array.toList_push, List.mem_append] at hc'
  rcases hc' with hc' | hc'
  · rw [← Array.foldl_toList] at hc'
    exact sg_foldl _ _ _ h (fun d hd => by
      have e : d = reprQuote x := by simpa using hd
      rw [e]
      exact hq) c hc'
  · rw [List.mem_singleton.mp hc']
    exact hq
mutual
theorem sg_shown : ∀ d : PyData, okD d = true → SgOk d.shown
  | .none, _ => by
    rw [PyData.shown_none]
    exact sg_ofString _
  | .bool b, _ => by
    rw [PyData.shown_bool]
    cases b <;> exact sg_ofString _
  | .int i, _ => by
    rw [PyData.shown_int]
    exact sg_ofString _
  | .str x, h => by
    rw [PyData.shown_str]
    exact sg_repr (sg_iff.mp h)
  | .list xs, h => by
    rw [PyData.shown_list]
    exact sg_append (sg_append (sg_ofString _) (sg_join (sg_ofString _) (sg_shownAll xs h))) (sg_ofString _)
  | .tuple xs, h => by
    rw [PyData.shown_tuple]
    exact sg_append (sg_append (sg_ofString _) (sg_join (sg_ofString _) (sg_shownAll xs h))) (sg_ofString _)
  | .dict _, h => nomatch h
theorem sg_shownAll : ∀ xs : List PyData, okDs xs = true → ∀ z ∈ PyData.shownAll xs, SgOk z
  | [], _ => fun z hz => by
    rw [PyData.shownAll_nil] at hz
    cases hz
  | x :: xs, h => fun z hz => by
    have h' : (okD x && okDs xs) = true := h
    rw [Bool.and_eq_true] at h'
    rw [PyData.shownAll_cons] at hz
    rcases List.mem_cons.mp hz with rfl | hz
    · exact sg_shown x h'.1
    · exact sg_shownAll xs h'.2 z hz
end
/-! ### what repr shows of a value -/
/-- data, not deep, not long; or an empty dict -/
def Shw (K : PySem.W.Frag) (H : Hp) (v : V) (txt : Str) : Prop :=
  (∃ d, Dp K H v d ∧ okD d = true ∧ d.depth ≤ 60 ∧ cost d ≤ 100000 ∧ txt = d.shown) ∨ (∃ a, v = .ref a ∧ H a = some (.dK []) ∧ txt = "{}")
theorem Shw.sg {K : PySem.W.Frag} {H : Hp} {v : V} {txt : Str} (h : Shw K H v txt) : SgOk txt := by
  rcases h with ⟨d, _, ok, _, _, rfl⟩ | ⟨a, _, _, rfl⟩
  · exact sg_shown d ok
  · exact sg_ofString _
def rReprV (K : PySem.W.Frag) : List V → Hp → VK → Prop := fun xs H Q => ∃ (v : V) (txt : Str), xs = [v] ∧ Shw K H v txt ∧ Q (.str txt) H
section
variable {X : Cx}
theorem empty_reads {P : Program} {w : World} {H : Hp} {h : Heap} {a : Addr} (hok : HOk P w H h) (e : H a = some (.dK [])) : Reads h (.ref a) (.dict []) ([a] ++ []) ∧ sysModules ≠ a := by
  obtain ⟨_, hs, vs, hk, hd⟩ := dk_of hok e
  cases hk
  obtain ⟨o, es, ep, ho, hx, hdat, hk2, hp, _⟩ := hd
  refine ⟨?_, fun z => ?_⟩
  · have e0 : es.toList = [] := by
      generalize es.toList = l at hp
      cases hp
      rfl
    refine Reads.dict (as := []) (bs := []) ho ?_ hdat ?_ ?_
    · exact hx.1
    · rw [e0]
      exact .nil
    · rw [e0]
      exact .nil
  · rw [← z] at hs
    simp at hs
theorem call_reprV (hg : X.A.guards = some []) (hu : X.A.units + 64 < cLine) : CallR X (.builtin "repr") (rReprV X.K) := by
  intro pins s σ H xs us Q I r h
  obtain ⟨v, txt, rfl, hs, q⟩ := h
  obtain ⟨u, rfl, ru⟩ := vals1 r
  rcases hs with ⟨d, hd, ok, dep, cst, rfl⟩ | ⟨a, rfl, e, rfl⟩
  · have hlen : d.shown.length ≤ sizeLine := Nat.le_trans (shown_le d ok) (Nat.le_trans cst (by decide))
    have isRef : ∀ a, u = Value.ref a → wpAny (model X.prog X.w) X.A (call (.builtin "repr") [u]) (EP X pins σ Q) X.xe s := fun a eu => by
      obtain ⟨as, rd⟩ := Dp.reads I d _ _ hd ru
      subst eu
      exact repr_of_reads' rd (ok_show d ok) (PyData.noDict_hsm (PyData.hasDict_of_canLay d (ok_lay d ok))) hg (by omega) (fun _ _ e => e) (fun h' u tk hk => ⟨.str d.shown, H, I.kept hk, ⟨_, rfl⟩, q⟩) hlen
    cases hd with
    | non =>
      obtain rfl : u = Value.none := ru
      rw [PyData.shown_none] at q
      exact PySem.P.repr_of_none ⟨.str _, H, I.tok _, ⟨_, rfl⟩, q⟩
    | bl b =>
      obtain rfl : u = Value.bool b := ru
      rw [PyData.shown_bool] at q
      refine PySem.P.repr_of_bool ⟨.str _, H, I.tok _, ⟨_, rfl⟩, ?_⟩
      cases b <;> exact q
    | int i =>
      obtain ⟨t, rfl⟩ := ru
      rw [PyData.shown_int] at q
      have q2 := ok_show (.int i) ok
      rw [PyData.showable] at q2
      exact PySem.P.repr_of_int (of_decide_eq_true q2) ⟨.str _, H, I.tok _, ⟨_, rfl⟩, q⟩
    | str x =>
      obtain ⟨t, rfl⟩ := ru
      rw [PyData.shown_str] at q hlen
      exact PySem.P.repr_of_str ⟨.str _, H, I.tok _, ⟨_, rfl⟩, q⟩ hlen
    | lst h1 h2 => exact isRef _ ru
    | tup h1 h2 => exact isRef _ ru
  · obtain rfl : u = Value.ref a := ru
    obtain ⟨rd, ns⟩ := empty_reads I.hok e
    have es : (PyData.dict []).shown = ("{}" : Str) := by
      rw [PyData.shown_dict, PyData.shownKv_nil]
      rfl
    refine repr_of_reads' rd (by simp only [PyData.showable]; rfl) (fun _ z => ns (by simpa using z)) hg (by simp only [PyData.depth]; first | omega | (rw [PyData.depthKv]; omega)) (fun _ _ e => e) (fun h' u tk hk => ⟨.str (PyData.dict []).shown, H, I.kept hk, ⟨_, rfl⟩, ?_⟩) (by rw [es]; decide)
    rw [es]
    exact q
end
/-! ### list.count of truths -/
def eqb (b : Bool) : Value → Bool := fun v => v == Value.bool b
def rCntB (K : PySem.W.Frag) : V → List V → Hp → VK → Prop := fun x xs H Q => ∃ (p : Addr) (bs : List Bool) (b : Bool), x = .ref p ∧ xs = [.bl b] ∧ SqL K H p (bs.map V.bl) ∧ bs.length ≤ 1000 ∧ Q (.int (bs.count b : Nat)) H
section
variable {X : Cx}
theorem dp_bls {K : PySem.W.Frag} {H : Hp} : ∀ bs : List Bool, DpAll K H (bs.map V.bl) (bs.map PyData.bool)
  | [] => .nil
  | b :: r => .cons (.bl b) (dp_bls r)
theorem bools_plain : ∀ bs : List Bool, PyData.plainAll (bs.map PyData.bool) = true
  | [] => by simp only [List.map_nil, PyData.plainAll]
  | b :: r => by
    rw [List.map_cons, PyData.plainAll, bools_plain r]
    simp only [PyData.plain, Bool.and_true]
theorem bools_depth : ∀ bs : List Bool, PyData.depthAll (bs.map PyData.bool) = 0
  | [] => by simp only [List.map_nil, PyData.depthAll]
  | b :: r => by
    rw [List.map_cons, PyData.depthAll, bools_depth r, PyData.depth]
    rfl
theorem bools_count (b : Bool) : ∀ bs : List Bool, (bs.map PyData.bool).countP (fun y => PyData.eqv y (.bool b)) = bs.count b
  | [] => rfl
  | c :: r => by
    rw [List.map_cons, List.countP_cons, List.count_cons, bools_count b r]
    congr 1
theorem mt_bcount (hu : X.A.units + 64 < cLine) : MtR X "list.count" (rCntB X.K) := by
  intro pins s σ H x xs v us Q I rx rxs h
  obtain ⟨p, bs, b, rfl, rfl, hs, hz, q⟩ := h
  cases rx
  obtain ⟨u, rfl, ru⟩ := rxs.one
  obtain rfl : u = Value.bool b := ru
  obtain ⟨its, rv, pl, hlen⟩ := I.list hs
  obtain ⟨as, rd⟩ := Dp.readsAll I _ _ _ (dp_bls bs) rv
  have e : ((bs.map PyData.bool).countP fun y => PyData.eqv y (PyData.bool b)) = bs.count b := bools_count b bs
  refine PySem.SeqAt.count_list_data (vs := its.toArray) (xs := bs.map PyData.bool) (d := .bool b) pl.isList (by simpa using rd) (Reads.bool b) (bools_plain bs) (by simp only [PyData.plain]) (by rw [bools_depth]; simp only [PyData.depth]; omega) ?_
  rw [e]
  exact ⟨.int (bs.count b : Nat), H, I.tok _, ⟨_, rfl⟩, q⟩
end
end MH
/-! Small rules: what a callee lets out, defs that make lambdas, upper and replace side by side, frames in which tables of code grow, the end of such a law. -/
namespace MH
open PySem PySem.Spec PyProof.Rows L2
/-- what a callee lets out leaves this def -/
theorem passX {X : Cx} {E : XK} {E₁ : Value → Shared → Prop} (hs : X.stack = X.env :: X.outer) (hf : X.env.frame = some X.env.locals) (hex : X.ex = [])
    (hx : X.xe = fun e s' => wpAny (model X.prog X.w) X.A (leaving X.env e) (fun _ s'' => L2.CX X.prog X.w X.outer X.H_0 X.s_0 E e s'') E₁ s') : Passes (L2.CX X.prog X.w) X E := passes_call (takes_of hs hf hex hx) fun _ _ _ _ h => h
theorem roomH_units {k : Nat} {A : Around} (r : L2H.RoomH k A) : A.units + 64 < cLine := by
  have := r.un
  omega
theorem _root_.L2H.RoomH.units {k : Nat} {A : Around} (r : L2H.RoomH k A) : A.units + 64 < cLine := roomH_units r
/-! ### a def whose code object is told -/
def MkFn (K : PySem.W.Frag) (x : Str) (st : Stmt) (f c : Addr) (ps : List Str) : Prop :=
  ∃ (oc : Value) (od : Option Addr) (kV doc pm : Value) (an : Option Addr) (ct : Value) (osl : Array (Option Value)),
    K.lookup f = some ⟨oc, od, .func (PySem.W.fnOf x x (defArgs st) (defBody st) (defScope st) .none kV doc pm an (.ref c) ct), osl⟩ ∧ PySem.W.codeIn K (.ref c) x = true ∧ Binds K (PySem.W.fnOf x x (defArgs st) (defBody st) (defScope st) .none kV doc pm an (.ref c) ct) ps []
theorem _root_.L2.Fun.shape {K : PySem.W.Frag} {x : Str} {st : Stmt} {f : Addr} {fd : FuncData} {ps : List Str} (F : Fun K x x st f fd) (b : Binds K fd ps []) :
    ∃ (oc : Value) (od : Option Addr) (kV doc pm : Value) (an : Option Addr) (cdv ct : Value) (osl : Array (Option Value)),
      K.lookup f = some ⟨oc, od, .func (PySem.W.fnOf x x (defArgs st) (defBody st) (defScope st) .none kV doc pm an cdv ct), osl⟩ ∧ PySem.W.codeIn K cdv x = true ∧ Binds K (PySem.W.fnOf x x (defArgs st) (defBody st) (defScope st) .none kV doc pm an cdv ct) ps [] := by
  obtain ⟨oc, od, kV, doc, pm, an, cdv, ct, osl, e, lk, hc⟩ := F.ex
  subst e
  exact ⟨oc, od, kV, doc, pm, an, cdv, ct, osl, lk, hc, b⟩
section
variable {P : Program} {w : World} {K : PySem.W.Frag} {mg : Str → Option Value} {base : Heap} {k : Nat} {f c : Addr} {sp : Sp}
theorem fun_m {x : Str} {st : Stmt} {N ps : List Str} (M : MkFn K x st f c ps) (S : FnScope N ps (defScope st)) (hlen : ∀ vs H Q E, sp vs H Q E → vs.length = ps.length)
    (hbd : ∀ (A : Around) (fr : List Env) (s : Shared) (H : Hp) (vs : List V) (Q : VK), A.guards = some [] → Room k (A.deeper (envOfC x (defScope st) s.heap.objs.size f (.ref c))) → sp vs H Q E0 →
      ∃ t, PSs (cxOf CX0 P w K mg base N x (defScope st) f (.ref c) A fr s H E0).nox (defBody st) t ∧ t { nx := fun _ H' => Q .non H', rt := Q } (start N vs) H) :
    FnG P w K mg base (k + 1) f sp := by
  obtain ⟨oc, od, kV, doc, pm, an, ct, osl, lk, hc, hB⟩ := M
  exact fg_of lk hc S hB hlen hbd
end
/-- what a code object must have beside its table -/
def codeOk (vs : Array Value) (c P : Addr) : Bool := (match (vs[11]? : Option Value) with | some (.ref P') => P' == P | _ => false) &&
  (match vs.getD 18 .none with | .str _ _ => true | _ => false) && (match vs.getD 7 .none with | .int _ _ => true | _ => false) &&
  (match vs.getD 9 .none with | .bool _ => true | _ => false) && (match vs.getD 10 .none with | .int _ _ => true | _ => false) && c != P
theorem codeHd_of {K : PySem.W.Frag} {c P : Addr} {d : Option Addr} {vs : Array Value} {sl : Array (Option Value)} (h : K.lookup c = some ⟨.type "code", d, .fields vs, sl⟩) (h2 : codeOk vs c P = true) : PySem.W.codeHdIn K c P = true := by
  unfold PySem.W.codeHdIn
  rw [h]
  exact h2
/-! ### [x.upper(), y.replace(".", ".."), ..] -/
/-! ### frames in which the tables of code may grow -/
theorem extN_of {H H' : Hp} (s : Same H H') : LamX.ExtN H H' := fun b o e _ => s b o e
theorem extN_sqt {K : PySem.W.Frag} {H H' : Hp} {a : Addr} {xs : List V} (e : LamX.ExtN H H') (h : SqT K H a xs) : SqT K H' a xs := by
  rcases h with (h | ⟨o, h⟩) | h
  · exact .inl (.inl (e _ _ h fun _ z => nomatch z))
  · exact .inl (.inr ⟨o, e _ _ h fun _ z => nomatch z⟩)
  · exact .inr h
theorem extN_sql {K : PySem.W.Frag} {H H' : Hp} {a : Addr} {xs : List V} (e : LamX.ExtN H H') (h : SqL K H a xs) : SqL K H' a xs := by
  rcases h with (h | ⟨o, h⟩) | h
  · exact .inl (.inl (e _ _ h fun _ z => nomatch z))
  · exact .inl (.inr ⟨o, e _ _ h fun _ z => nomatch z⟩)
  · exact .inr h
mutual
theorem extN_dp {K : PySem.W.Frag} {H H' : Hp} (e : LamX.ExtN H H') : ∀ (d : PyData) (v : V), Dp K H v d → Dp K H' v d
  | .none, _, h => by cases h; exact .non
  | .bool b, _, h => by cases h; exact .bl b
  | .int i, _, h => by cases h; exact .int i
  | .str x, _, h => by cases h; exact .str x
  | .list ds, _, h => by
    cases h with
    | lst h1 h2 => exact .lst (extN_sql e h1) (extN_dps e ds _ h2)
  | .tuple ds, _, h => by
    cases h with
    | tup h1 h2 => exact .tup (extN_sqt e h1) (extN_dps e ds _ h2)
  | .dict _, _, h => by cases h
theorem extN_dps {K : PySem.W.Frag} {H H' : Hp} (e : LamX.ExtN H H') : ∀ (ds : List PyData) (vs : List V), DpAll K H vs ds → DpAll K H' vs ds
  | [], _, h => by cases h; exact .nil
  | d :: ds, _, h => by
    cases h with
    | cons h1 h2 => exact .cons (extN_dp e d _ h1) (extN_dps e ds _ h2)
end
theorem extN_shw {K : PySem.W.Frag} {H H' : Hp} {v : V} {txt : Str} (e : LamX.ExtN H H') (h : Shw K H v txt) : Shw K H' v txt := by
  rcases h with ⟨d, h1, h2⟩ | ⟨a, h1, h2, h3⟩
  · exact .inl ⟨d, extN_dp e d v h1, h2⟩
  · exact .inr ⟨a, h1, e _ _ h2 (fun _ z => nomatch z), h3⟩
theorem tabs_same {T : List (Addr × Str)} {H H' : Hp} (t : LamX.Tabs T H) (s : Same H H') : LamX.Tabs T H' := t.ext s
/-- the tables stand where only an object that is no part of them changed -/
theorem tabs_but {T : List (Addr × Str)} {H H' : Hp} {p : Addr} {u : HO} (t : LamX.Tabs T H) (hp : H p = some u) (n1 : ∀ ps, u ≠ .tbl ps) (n2 : ∀ c q, u ≠ LamX.CodeO c q) (s : ∀ b o, b ≠ p → H b = some o → H' b = some o) : LamX.Tabs T H' := fun x hx => by
  obtain ⟨ps, h1, h2, h3⟩ := t x hx
  refine ⟨ps, s _ _ (fun e => ?_) h1, h2, fun pos cv hc => ?_⟩
  · rw [e, hp] at h1
    exact n1 ps (Option.some.inj h1)
  · obtain ⟨c, e1, e2⟩ := h3 pos cv hc
    refine ⟨c, e1, s _ _ (fun e => ?_) e2⟩
    rw [e, hp] at e2
    exact n2 _ _ (Option.some.inj e2)
theorem extN_new {H : Hp} {p : Addr} {o : HO} (h : H p = none) : LamX.ExtN H (upd H p o) := fun b x e _ => by
  rw [upd_ne (ne_of_none e h)]
  exact e
/-! ### the end of a law whose defs make lambdas -/
theorem law_callt {P : Program} {w : World} {K : PySem.W.Frag} {mg mb : Str → Option Value} {k : Nat} {fa a c T : Addr} {sp : Sp} {st : Shared} {us : List Value} {ns : List Int}
    (KX : K.In st.heap) (hn : st.heap.Ns mainGlobals mg) (hb : st.heap.Ns builtinsNs mb) (hbb : ∀ x : Str, x ≠ "__name__" → mb x = bootBuiltins x) (nl : st.heap.NoLimit) (hgens : st.gens = #[])
    (hT : st.heap.get? T = some (PySem.W.tabObj #[])) (nT : K.lookup T = none) (hC : PySem.W.CodeHd st.heap c T)
    (hbm : ∃ (bm : Addr) (ob : Obj), mg "__builtins__" = some (.ref bm) ∧ bm ≠ builtinsNs ∧ st.heap.get? bm = some ob ∧ ob.cls = .type "module" ∧ ob.dict = some builtinsNs ∧ ob.data = .plain)
    (ha : st.heap.get? a = some { cls := .type "list", data := .seq us.toArray }) (hi : IntsAre us ns) (hz : ns.length ≤ sizeLine) (hr : Room k callerA)
    (F : ∀ base : Heap, K.In base → base.Ns mainGlobals mg → LamX.TabB base mg c T → FnG P w K mg base k fa sp)
    (hsp : ∀ H : Hp, H T = some (.tbl #[]) → SqL K H a (ns.map V.int) → sp [.ref a] H (fun v _ => v = .bl true) E0) :
    codeAny (model P w) callerA (.call (.ref fa) ⟨[.ref a], []⟩) (fun r s' => r = .ok (.ret (.bool true)) ∧ OldK st.heap s'.heap ∧ s'.os = st.os ∧ AllBare s'.gens) st := by
  have rv := vals_ints hi
  have hlen := hi.length
  have aT : a ≠ T := fun e => by
    rw [e, hT] at ha
    cases ha
  let S : HO := .frz { cls := .type "list", data := .seq us.toArray } (.lst (ns.map V.int))
  have key : ∀ H : Hp, (∀ b, H b = none ∨ (b = T ∧ H b = some (.tbl #[])) ∨ (b = a ∧ H b = some S)) → H T = some (.tbl #[]) → SqL K H a (ns.map V.int) → (H a ≠ none → K.lookup a = none) →
      codeAny (model P w) callerA (.call (.ref fa) ⟨[.ref a], []⟩) (fun r s' => r = .ok (.ret (.bool true)) ∧ OldK st.heap s'.heap ∧ s'.os = st.os ∧ AllBare s'.gens) st := by
    intro H hO hHT hS hK
    have hok : HOk P w H st.heap := fun b u z => by
      rcases hO b with n | ⟨e, n⟩ | ⟨e, n⟩
      · rw [z] at n
        cases n
      · rw [z] at n
        cases n
        rw [e]
        exact hT
      · rw [z] at n
        cases n
        rw [e]
        exact ⟨ha, by rw [List.length_map]; exact hz, us, _, rv, ha⟩
    -- what is no list of the script and no table is not told of
    have off : ∀ {b : Addr} {o : Obj}, st.heap.get? b = some o → (∀ vs n, o.data ≠ .seq vs n) → o.data ≠ .fields #[] → H b = none := fun {b o} e h1 h2 => by
      rcases hO b with n | ⟨e2, _⟩ | ⟨e2, _⟩
      · exact n
      · rw [e2, hT] at e
        cases e
        exact absurd rfl h2
      · rw [e2, ha] at e
        cases e
        exact absurd rfl (h1 _ _)
    have toNs : ∀ {b : Addr} {m : Str → Option Value}, st.heap.Ns b m → (hidT st.heap H).Ns b m := fun ⟨o, es, ep, e, d, r⟩ => ⟨o, es, ep, hidT_get e (off e (fun vs n z => by rw [d] at z; cases z) fun z => by rw [d] at z; cases z), d, r⟩
    have kb : K.In (hidT st.heap H) := fun b o e => hidT_get (KX b o e) (by
      rcases hO b with n | ⟨e2, _⟩ | ⟨e2, n⟩
      · exact n
      · rw [e2, nT] at e
        cases e
      · rw [e2, hK (by rw [← e2, n]; simp)] at e
        cases e)
    obtain ⟨mc, l1, l2⟩ := nl
    have M : Mod K mg (hidT st.heap H) := ⟨kb, toNs hn, ⟨mb, toNs hb, hbb⟩, ⟨mc, toNs l1, l2⟩⟩
    have TB : LamX.TabB (hidT st.heap H) mg c T := by
      refine ⟨?_, ?_, fun z => ?_⟩
      · obtain ⟨o, vs, file, tf, flags, tg, inF, text, tt, e1, r1, r2, r3, rest⟩ := hC
        refine ⟨o, vs, file, tf, flags, tg, inF, text, tt, hidT_get e1 (off e1 (fun vs n z => ?_) fun z => ?_), r1, r2, r3, rest⟩
        · rw [r2] at z
          cases z
        · rw [r2] at z
          cases z
          simp at r3
      · obtain ⟨bm, ob, b1, b2, b3, b4, b5, b6⟩ := hbm
        have g0 : bm ≠ mainGlobals := fun q => by
          obtain ⟨o, es, ep, e, d, _⟩ := hn
          rw [q, e] at b3
          cases b3
          rw [d] at b6
          cases b6
        have g1 : bm ≠ T := fun q => by
          rw [q, hT] at b3
          cases b3
          cases b6
        refine ⟨bm, ob, b1, b2, g0, g1, hidT_get b3 (off b3 (fun vs n z => ?_) fun z => ?_), b4, b5, b6⟩
        · rw [b6] at z
          cases z
        · rw [b6] at z
          cases z
      · obtain ⟨o, es, ep, e, d, _⟩ := hn
        rw [z, hT] at e
        cases e
        cases d
    have e0 : Env0 P w K mg (hidT st.heap H) callerA [] st H :=
      ⟨rfl, M, fun b o e => of_hidT e, Nat.le_of_eq (hidT_size _ _), trivial, fun b hb => absurd (show b ∈ ([] : List Addr) from hb) (by simp), hok, .of_eq hgens⟩
    refine codeAny_mono (F _ kb (toNs hn) TB callerA [] st H [.ref a] [.ref a] _ rfl hr e0 (.cons rfl .nil) (hsp H hHT hS)) fun r s' h => ?_
    match r, h with
    | .error e, h => exact h.elim
    | .ok .next, h => exact h.elim
    | .ok .brk, h => exact h.elim
    | .ok .cont, h => exact h.elim
    | .ok (.ret u), h =>
      obtain ⟨v, H', os, bare, un, hok', rr, q⟩ := h
      obtain rfl : v = .bl true := q
      obtain rfl : u = Value.bool true := rr
      obtain ⟨more, grown⟩ := un.tbls T #[] hHT
      have atT : s'.heap.get? T = some { cls := .none, data := .fields (#[] ++ more) } := hok' T _ grown
      have rest : ∀ b o, b ≠ T → st.heap.get? b = some o → s'.heap.get? b = some o := fun b o nb e => by
        rcases hO b with n | ⟨e2, _⟩ | ⟨e2, n⟩
        · exact un.keep b o e n (fun z => absurd (show b ∈ ([] : List Addr) from z) (by simp)) (by simp)
        · exact absurd e2 nb
        · obtain ⟨g1, _⟩ := hok b _ n
          obtain ⟨g2, _⟩ := hok' b _ (un.frzs b _ _ n)
          rw [e] at g1
          cases g1
          exact g2
      refine ⟨rfl, ⟨fun b o e => ?_, fun b o e => ?_⟩, os, bare⟩
      · by_cases hbT : b = T
        · subst hbT
          rw [hT] at e
          cases e
          exact .inr (.inl ⟨(hC.tab hT).isCodeTable, rfl, #[], more, rfl, by rw [Array.empty_append] at atT ⊢; exact atT⟩)
        · exact .inl (rest b o hbT e)
      · by_cases hbT : b = T
        · subst hbT
          exact ⟨_, atT⟩
        · exact ⟨o, rest b o hbT e⟩
  cases hk : K.lookup a with
  | some o =>
    have e := KX a o hk
    rw [ha] at e
    cases e
    refine key (fun b => if b = T then some (.tbl #[]) else none) (fun b => ?_) (if_pos rfl) (.inr ⟨_, us.toArray, _, hk, rfl, rfl, rfl, ?_, by simpa using rv⟩) fun z => absurd (if_neg aT) z
    · by_cases q : b = T
      · exact .inr (.inl ⟨q, if_pos q⟩)
      · exact .inl (if_neg q)
    · rw [List.size_toArray, hlen]
      exact hz
  | none =>
    refine key (fun b => if b = a then some S else if b = T then some (.tbl #[]) else none) (fun b => ?_) ((if_neg aT.symm).trans (if_pos rfl)) (.inl (.inr ⟨{ cls := .type "list", data := .seq us.toArray }, if_pos rfl⟩)) fun _ => hk
    by_cases q : b = a
    · exact .inr (.inr ⟨q, if_pos q⟩)
    · by_cases q2 : b = T
      · exact .inr (.inl ⟨q2, (if_neg q).trans (if_pos q2)⟩)
      · exact .inl ((if_neg q).trans (if_neg q2))
theorem walk_t {l : PySem.W.OpenLaw} {n k : Nat} {q : Program} {loose : List Str} {XP : (Str → Option Value) → Heap → Prop} {YP : World → Heap → Prop} {d : DefRec} {K : Params → PySem.W.Frag} {sp : Addr → PySem.W.Frag → Sp}
    (hn : l.most = some n) (hn2 : n ≤ sizeLine) (hdf : d.params.defaults = []) (hr : Room k callerA) (hY : ∀ (w : World) (h : Heap), YP w h → (K w.params).In h)
    (F : ∀ (w : World) (mg : Str → Option Value) (fa : Addr) (h : Heap), YP w h → (K w.params).In h → h.Ns mainGlobals mg → mg d.name = some (.ref fa) →
      ∃ c T : Addr, h.get? T = some (PySem.W.tabObj #[]) ∧ (K w.params).lookup T = none ∧ PySem.W.CodeHd h c T ∧
        ∀ base : Heap, (K w.params).In base → base.Ns mainGlobals mg → LamX.TabB base mg c T → FnG l.prog w (K w.params) mg base k fa (sp T (K w.params)))
    (hsp : ∀ (T : Addr) (K : PySem.W.Frag) (H : Hp) (a : Addr) (ns : List Int), ns.length ≤ n → H T = some (.tbl #[]) → SqL K H a (ns.map V.int) → sp T K [.ref a] H (fun v _ => v = .bl true) E0) :
    PySem.W.WalkO q loose XP YP l.row.toRowW d [] (fun f vs => PySem.call f vs) := by
  refine Att.attach_call hn hdf fun w s₀ s₁ mg mb fa o pm cd doc a vs ns G Y ho hd hcd hmg hobj hints hlen hg => ?_
  have KX := hY w _ Y
  obtain ⟨c, T, hT, nT, hC, hF⟩ := F w mg fa _ Y KX G.T.g hmg
  exact law_callt KX G.T.g G.T.b G.T.builtins G.T.nolimit hg hT nT hC G.T.bmain hobj hints (Nat.le_trans hlen hn2) hr hF fun H hH hS => hsp T _ H a ns hlen hH hS
end MH
/-! More small rules: t == (), star defs that raise, c.m() of a class, calls that may raise but do not, the end of a law with several tables of code. -/
namespace MH
open PySem PySem.Spec PyProof.Rows L2
/-! ### t == () -/
def rEqT0 (K : PySem.W.Frag) : R2 := fun x y H Q => ∃ (a b : Addr) (xs : List V), x = .ref a ∧ y = .ref b ∧ SqT K H a xs ∧ SqT K H b [] ∧ Q (.bl (decide (xs = []))) H
theorem op_eqT0 {X : Cx} (hu : X.A.units < cLine) : OpR X (compareOp .Eq) (rEqT0 X.K) := by
  intro pins s σ H x y v u Q I rx ry h
  obtain ⟨a, b, xs, rfl, rfl, ha, hb, q⟩ := h
  obtain rfl : v = Value.ref a := rx
  obtain rfl : u = Value.ref b := ry
  obtain ⟨its, rv, pl, hlen⟩ := I.tuple ha
  obtain ⟨its2, rv2, pl2, _⟩ := I.tuple hb
  cases rv2
  have e : ((List.range (min its.toArray.size ([] : List Value).toArray.size)).all (fun _ => true) && its.toArray.size == ([] : List Value).toArray.size) = decide (xs = []) := by
    have hl := rv.length
    cases xs with
    | nil =>
      have : its = [] := List.length_eq_zero_iff.mp hl.symm
      subst this
      rfl
    | cons x r =>
      cases its with
      | nil => cases hl
      | cons y t => simp
  have q2 : EP X pins σ Q (.bool (decide (xs = []))) s := ⟨.bl _, H, I, rfl, q⟩
  rw [← e] at q2
  exact SeqAt.RcAt.tuples (e := fun _ => true) pl pl2 hu (fun j h1 h2 => absurd h2 (by simp)) X.prog X.w _ _ q2
/-! ### calls that may raise and do not -/
/-! ### star defs that raise -/
/-! ### c.m(), m a classmethod -/
/-! ### the end of a law whose defs make lambdas: several tables -/
end MH
/-! sorted of a list of tuples of texts (of any lengths but none), any number of them. -/
namespace MH
open PySem PySem.Spec PyProof.Rows L2 Srt
/-! ### the order of rows -/
/-! ### such tuples in memory -/
/-- v: a tuple of these texts -/
def IsRow (h : Heap) (v : Value) (xs : List Str) : Prop := ∃ (a : Addr) (o : Obj) (its : List Value) (n : Nat), v = .ref a ∧ h.get? a = some o ∧ o.cls = .type "tuple" ∧ o.data = .seq its.toArray n ∧ Vals (xs.map V.str) its
theorem IsRow.keeps {h h' : Heap} {v : Value} {xs : List Str} (r : IsRow h v xs) (k : ∀ b o, h.get? b = some o → o.cls = .type "tuple" → h'.get? b = some o) : IsRow h' v xs := by
  obtain ⟨a, o, its, n, e, ho, hc, hd, hv⟩ := r
  exact ⟨a, o, its, n, e, k _ _ ho hc, hc, hd, hv⟩
end MH
/-! own rules: C(*y); dicts whose keys are tuples, made by a comprehension -/
namespace MH
open PySem PySem.Spec PyProof.Rows L2
/-! ### {k: v for t in it}, the keys tuples of ints and texts -/
/-! ### tuple(x) with nothing held back of it; list(d), the keys tuples -/
end MH
/-! own rule: t < u of tuples of texts -/
namespace MH
open PySem PySem.Spec PyProof.Rows L2
end MH
/-! own rules: zip of a list and a tuple -/
namespace MH
open PySem PySem.Spec PyProof.Rows L2
section
variable {prog : Program} {w : World} {A : Around} {E : Value → Shared → Prop} {s : Shared}
abbrev KeptBut (z TO i1 i2 : Addr) (h h' : Heap) : Prop := ∀ c o, c ≠ z → c ≠ TO → c ≠ i1 → c ≠ i2 → h.get? c = some o → h'.get? c = some o
end
end MH
/-! own rules: dicts whose keys are tuples that are known to the object (so that their methods may be called); such tuples made by displays, by + and by t[::-1] -/
namespace MH
open PySem PySem.Spec PyProof.Rows L2
abbrev EKs := List (List Key × Addr × Value)
/-- the tuples that are known to the object, as tuples -/
def dn (H : Hp) : Hp := fun b => match H b with
  | some (.frz o (.tup xs)) => (match o.dict with
    | Option.none => some (.tup xs)
    | _ => none)
  | _ => none
theorem dn_of {H : Hp} {b : Addr} {xs : List V} (h : TupO H b xs) : dn H b = some (.tup xs) := by
  obtain ⟨o, e, d⟩ := h
  unfold dn
  rw [e]
  simp only [d]
theorem of_dn {H : Hp} {b : Addr} {u : HO} (h : dn H b = some u) : ∃ xs, u = .tup xs ∧ TupO H b xs := by
  unfold dn at h
  split at h
  · rename_i o xs e
    split at h
    · rename_i d
      cases h
      exact ⟨xs, rfl, o, e, d⟩
    · cases h
  · cases h
theorem dn_tup {H : Hp} {b : Addr} {xs : List V} (h : dn H b = some (.tup xs)) : TupO H b xs := by
  obtain ⟨ys, e, t⟩ := of_dn h
  cases e
  exact t
/-- the dict at a has these entries -/
def DPhi (P : Program) (w : World) (a : Addr) (xs : EKs) (h : Heap) : Prop := xs.length ≤ sizeLine ∧ (a == sysModules) = false ∧ (xs.map (·.1)).Nodup ∧
  ∃ o es ep, h.get? a = some o ∧ o.ExactDict ∧ o.data = .dict es ep ∧ es.toList = xs.map (entryOfKey (tupleKind (mixKind P w)))
def DictE (P : Program) (w : World) (H : Hp) (a : Addr) (kvs : List (List Key × V)) : Prop := ∃ xs, H a = some (.ext (DPhi P w a xs)) ∧ KT (dn H) kvs xs
theorem kt_same {H H' : Hp} (s : ∀ b o u, H b = some (.frz o u) → H' b = some (.frz o u)) {kvs : List (List Key × V)} {xs : EKs} (k : KT (dn H) kvs xs) : KT (dn H') kvs xs := k.keeps fun b ys e => by
  obtain ⟨o, e, d⟩ := dn_tup e
  exact dn_of ⟨o, s _ _ _ e, d⟩
theorem DictE.same {P : Program} {w : World} {H H' : Hp} {a : Addr} {kvs : List (List Key × V)} (d : DictE P w H a kvs) (s : Same H H') : DictE P w H' a kvs :=
  let ⟨xs, e, k⟩ := d
  ⟨xs, s _ _ e, kt_same (fun b o u h => s _ _ h) k⟩
/-! ### tuples known to the object: displays, +, t[::-1] -/
end MH
/-! own rules: zip of a tuple and a text -/
namespace MH
open PySem PySem.Spec PyProof.Rows L2
section
variable {prog : Program} {w : World} {A : Around} {E : Value → Shared → Prop} {s : Shared}
theorem nextS_item {ty : String} {it : Addr} {x : Str} {t : Tok} {i c : Nat} {Q : Value → Shared → Prop} (hty : ty = "str_ascii_iterator" ∨ ty = "str_iterator") (hit : s.heap.IsStrIter it ty x t i) (hx : x.cps[i]? = some c)
    (hQ : ∀ h', h'.IsStrIter it ty x t (i + 1) → Heap.SameBut it s.heap h' → Q (.str ⟨#[c]⟩ s.toks) { s with heap := h', toks := s.toks + 1 }) : wpAny (model prog w) A (Builtin.SmallTypes.nextOf (.ref it)) Q E s := by
  rcases hty with rfl | rfl
  · exact wpAny_nextOf_ascii_item hit hx hQ
  · exact wpAny_nextOf_wide_item hit hx hQ
theorem nextS_end {ty : String} {it : Addr} {x : Str} {t : Tok} {i : Nat} {Q : Value → Shared → Prop} (hty : ty = "str_ascii_iterator" ∨ ty = "str_iterator") (hh : A.handled = none) (hit : s.heap.IsStrIter it ty x t i) (hx : x.cps[i]? = none)
    (hE : ∀ h' e, Heap.ExtBut it s.heap h' → (∃ o, h'.get? e = some o ∧ o.cls = .type "StopIteration") → E (.ref e) { s with heap := h' }) : wpAny (model prog w) A (Builtin.SmallTypes.nextOf (.ref it)) Q E s := by
  rcases hty with rfl | rfl
  · exact wpAny_nextOf_ascii_end hh hit hx hE
  · exact wpAny_nextOf_wide_end hh hit hx hE
/-- a zip at z that draws from a tuple at l1 (its place m) and a text x (its place n) -/
structure ZipTS (h : Heap) (z TI TO i1 i2 l1 : Addr) (ty : String) (x : Str) (t : Tok) (m n : Nat) (xs : Array Value) (a b : Value) : Prop where
  z : IsZip h z TI TO .none
  ti : IsPair h TI (.ref i1) (.ref i2)
  to : IsPair h TO a b
  i1 : h.IsTupleIter i1 l1 m
  i2 : h.IsStrIter i2 ty x t n
  l1 : h.IsTuple l1 xs
theorem zipTS_item {z TI TO i1 i2 l1 : Addr} {ty : String} {x : Str} {t : Tok} {m n c : Nat} {xs : Array Value} {y a b : Value} {Q : Value → Shared → Prop} (hty : ty = "str_ascii_iterator" ∨ ty = "str_iterator") (D : ZipApart z TI TO i1 i2 l1 l1) (Z : ZipTS s.heap z TI TO i1 i2 l1 ty x t m n xs a b) (hx : xs[m]? = some y) (hy : x.cps[n]? = some c)
    (hQ : ∀ h', IsZip h' z TI TO (rawInt s.heap.objs.size) → IsPair h' TO y (.str ⟨#[c]⟩ s.toks) → h'.IsTupleIter i1 l1 (m + 1) → h'.IsStrIter i2 ty x t (n + 1) → IsPair h' s.heap.objs.size y (.str ⟨#[c]⟩ s.toks) → h'.objs.size = s.heap.objs.size + 1 → KeptBut z TO i1 i2 s.heap h' → Q (.ref s.heap.objs.size) { s with heap := h', toks := s.toks + 1 }) :
    wpAny (model prog w) A (Builtin.«zip.__next__» ⟨[.ref z], []⟩) (fun fin s' => ∃ v, fin = .done (.ret v) ∧ Q v s') E s := by
  obtain ⟨zz, zi, zo, f1, f2, g1⟩ := Z
  (show wpAny _ _ (field (.ref z) 2 >>= _) _ _ _; refine wpAny_bind (wpAny_field zz rfl (x := .bool false) rfl ?_))
  (show wpAny _ _ (field (.ref z) 3 >>= _) _ _ _; refine wpAny_bind (wpAny_field zz rfl (x := .ref TI) rfl (wpAny_bind (wpAny_seqItems zi rfl ?_))))
  (show wpAny _ _ (Builtin.SmallTypes.ownedTupleIsFree (.ref z) >>= _) _ _ _; refine wpAny_bind ?_; unfold Builtin.SmallTypes.ownedTupleIsFree; refine wpAny_bind (wpAny_field zz rfl (x := .none) rfl (wpAny_pure ?_)); simp only [if_true])
  refine wpAny_bind (wpAny_rule (wpAny_bind (wpAny_field zz rfl (x := .ref TO) rfl (wpAny_bind (wpAny_setField_rec zz (by simp) fun u1 e1 t1 => ?_)))))
  replace e1 : IsZip u1 z TI TO .ellipsis := e1
  refine wpAny_bind ?_
  (simp only [List.zipIdx_cons, List.zipIdx_nil, List.forIn_cons, List.forIn_nil]; refine wpAny_bind (wpAny_bind (wpAny_onRaise ?_)))
  (show wpAny _ _ (Builtin.SmallTypes.nextOf (.ref i1) >>= _) _ _ _; refine wpAny_bind (RZ.nextOf_tuple_item (f1.extBut t1.extBut D.i1z) (g1.extBut t1.extBut D.l1z) hx fun u2 p2 t2 => wpAny_pure ?_))
  have o2 : IsPair u2 TO a b := t2.extBut _ _ D.TOi1 (t1.extBut _ _ D.TOz zo)
  refine wpAny_bind (wpAny_seqItems o2 rfl (wpAny_bind (wpAny_updateSeq_pair o2 fun u3 o3 t3 => ?_)))
  replace o3 : IsPair u3 TO y b := o3
  (refine wpAny_bind (wpAny_letGo (wpAny_pure ?_)); refine wpAny_bind (wpAny_bind (wpAny_onRaise ?_)))
  have q3 : u3.IsStrIter i2 ty x t n := ((f2.extBut t1.extBut D.i2z).extBut t2.extBut D.i12.symm).extBut t3.extBut D.TOi2.symm
  (show wpAny _ _ (Builtin.SmallTypes.nextOf (.ref i2) >>= _) _ _ _; refine wpAny_bind (nextS_item hty q3 hy fun u4 p4 t4 => wpAny_pure ?_))
  have o4 : IsPair u4 TO y b := t4.extBut _ _ D.TOi2 o3
  refine wpAny_bind (wpAny_seqItems o4 rfl (wpAny_bind (wpAny_updateSeq_pair o4 fun u5 o5 t5 => ?_)))
  replace o5 : IsPair u5 TO y (.str ⟨#[c]⟩ s.toks) := o5
  (refine wpAny_bind (wpAny_letGo (wpAny_pure (wpAny_pure ?_))); refine wpAny_bind (wpAny_seqItems o5 rfl (wpAny_bind (wpAny_newTuple ?_))))
  have sz : u5.objs.size = s.heap.objs.size := by rw [t5.1, t4.1, t3.1, t2.1, t1.1]
  have z5 : IsZip u5 z TI TO .ellipsis := t5.extBut _ _ D.TOz.symm (t4.extBut _ _ D.i2z.symm (t3.extBut _ _ D.TOz.symm (t2.extBut _ _ D.i1z.symm e1)))
  have k5 : KeptBut z TO i1 i2 s.heap u5 := fun c o c1 c2 c3 c4 e => t5.extBut _ _ c2 (t4.extBut _ _ c4 (t3.extBut _ _ c2 (t2.extBut _ _ c3 (t1.extBut _ _ c1 e))))
  have p5 : u5.IsTupleIter i1 l1 (m + 1) := ((p2.extBut t3.extBut D.TOi1.symm).extBut t4.extBut D.i12).extBut t5.extBut D.TOi1.symm
  have r5 : u5.IsStrIter i2 ty x t (n + 1) := p4.extBut t5.extBut D.TOi2.symm
  have zlt : z < u5.objs.size := Heap.lt_size z5
  (show wpAny _ _ (Builtin.SmallTypes.ownedTupleHandOut (.ref z) (.ref u5.objs.size) >>= _) _ _ _; refine wpAny_bind ?_; unfold Builtin.SmallTypes.ownedTupleHandOut)
  have z6 : IsZip (u5.push { cls := .type "tuple", data := .seq #[y, .str ⟨#[c]⟩ s.toks] }) z TI TO .ellipsis := Heap.get?_push_of_some _ z5
  refine wpAny_bind (wpAny_setField_rec z6 (by simp) fun u7 z7 t7 => ?_)
  replace z7 : IsZip u7 z TI TO (rawInt u5.objs.size) := z7
  refine wpAny_setField_rec z7 (by simp) fun u8 z8 t8 => ?_
  replace z8 : IsZip u8 z TI TO (rawInt u5.objs.size) := z8
  have up : ∀ c o, c ≠ z → u5.get? c = some o → u8.get? c = some o := fun c o c1 e => t8.extBut _ _ c1 (t7.extBut _ _ c1 (Heap.get?_push_of_some _ e))
  have T8 : IsPair u8 u5.objs.size y (.str ⟨#[c]⟩ s.toks) := t8.extBut _ _ (Nat.ne_of_gt zlt) (t7.extBut _ _ (Nat.ne_of_gt zlt) (Heap.get?_push_size _ rfl))
  have s8 : u8.objs.size = u5.objs.size + 1 := by rw [t8.1, t7.1, Heap.size_push]
  have at2 : u8.IsStrIter i2 ty x t (n + 1) := let ⟨o, e, r⟩ := r5; ⟨o, up _ o D.i2z e, r⟩
  rw [sz] at z8 T8 s8
  refine wpAny_pure ⟨_, rfl, ?_⟩
  (show Q (.ref u5.objs.size) _; rw [sz])
  exact hQ u8 z8 (up _ _ D.TOz o5) (p5.at fun o e => up _ o D.i1z e) at2 T8 s8 fun c o c1 c2 c3 c4 e => up c o c1 (k5 c o c1 c2 c3 c4 e)
theorem zipTS_end {z TI TO i1 i2 l1 : Addr} {ty : String} {x : Str} {t : Tok} {m n : Nat} {xs : Array Value} {a b : Value} {Q : Fin → Shared → Prop} (hty : ty = "str_ascii_iterator" ∨ ty = "str_iterator") (hh : A.handled = none) (D : ZipApart z TI TO i1 i2 l1 l1) (Z : ZipTS s.heap z TI TO i1 i2 l1 ty x t m n xs a b) (hend : xs[m]? = none ∨ x.cps[n]? = none)
    (hE : ∀ h' e, KeptBut z TO i1 i2 s.heap h' → (∃ o, h'.get? e = some o ∧ o.cls = .type "StopIteration") → E (.ref e) { s with heap := h' }) :
    wpAny (model prog w) A (Builtin.«zip.__next__» ⟨[.ref z], []⟩) Q E s := by
  obtain ⟨zz, zi, zo, f1, f2, g1⟩ := Z
  (show wpAny _ _ (field (.ref z) 2 >>= _) _ _ _; refine wpAny_bind (wpAny_field zz rfl (x := .bool false) rfl ?_))
  (show wpAny _ _ (field (.ref z) 3 >>= _) _ _ _; refine wpAny_bind (wpAny_field zz rfl (x := .ref TI) rfl (wpAny_bind (wpAny_seqItems zi rfl ?_))))
  (show wpAny _ _ (Builtin.SmallTypes.ownedTupleIsFree (.ref z) >>= _) _ _ _; refine wpAny_bind ?_; unfold Builtin.SmallTypes.ownedTupleIsFree; refine wpAny_bind (wpAny_field zz rfl (x := .none) rfl (wpAny_pure ?_)); simp only [if_true])
  refine wpAny_bind (wpAny_rule (wpAny_bind (wpAny_field zz rfl (x := .ref TO) rfl (wpAny_bind (wpAny_setField_rec zz (by simp) fun u1 e1 t1 => ?_)))))
  replace e1 : IsZip u1 z TI TO .ellipsis := e1
  refine wpAny_bind ?_
  (simp only [List.zipIdx_cons, List.zipIdx_nil, List.forIn_cons, List.forIn_nil]; refine wpAny_bind (wpAny_bind (wpAny_onRaise ?_)))
  (show wpAny _ _ (Builtin.SmallTypes.nextOf (.ref i1) >>= _) _ _ _; rcases hx : xs[m]? with _ | y)
  · refine wpAny_bind (RZ.nextOf_tuple_end hh (f1.extBut t1.extBut D.i1z) (g1.extBut t1.extBut D.l1z) hx fun u2 e t2 ⟨oe, hoe, hce⟩ => ?_)
    have z2 : IsZip u2 z TI TO .ellipsis := t2 _ _ D.i1z.symm e1
    have ne : e ≠ z := fun q => by
      rw [q, z2] at hoe
      cases hoe
      simp at hce
    exact wpAny_setField_rec z2 (by simp) fun u3 _ t3 => hE u3 e (fun c o c1 _ c3 _ q => t3.extBut _ _ c1 (t2 _ _ c3 (t1.extBut _ _ c1 q))) ⟨oe, t3.extBut _ _ ne hoe, hce⟩
  · have hy : x.cps[n]? = none := hend.resolve_left (by rw [hx]; simp)
    refine wpAny_bind (RZ.nextOf_tuple_item (f1.extBut t1.extBut D.i1z) (g1.extBut t1.extBut D.l1z) hx fun u2 p2 t2 => wpAny_pure ?_)
    have o2 : IsPair u2 TO a b := t2.extBut _ _ D.TOi1 (t1.extBut _ _ D.TOz zo)
    refine wpAny_bind (wpAny_seqItems o2 rfl (wpAny_bind (wpAny_updateSeq_pair o2 fun u3 o3 t3 => ?_)))
    (refine wpAny_bind (wpAny_letGo (wpAny_pure ?_)); refine wpAny_bind (wpAny_bind (wpAny_onRaise ?_)))
    have q3 : u3.IsStrIter i2 ty x t n := ((f2.extBut t1.extBut D.i2z).extBut t2.extBut D.i12.symm).extBut t3.extBut D.TOi2.symm
    (show wpAny _ _ (Builtin.SmallTypes.nextOf (.ref i2) >>= _) _ _ _; refine wpAny_bind (nextS_end hty hh q3 hy fun u4 e t4 ⟨oe, hoe, hce⟩ => ?_))
    have z4 : IsZip u4 z TI TO .ellipsis := t4 _ _ D.i2z.symm (t3.extBut _ _ D.TOz.symm (t2.extBut _ _ D.i1z.symm e1))
    have ne : e ≠ z := fun q => by
      rw [q, z4] at hoe
      cases hoe
      simp at hce
    exact wpAny_setField_rec z4 (by simp) fun u5 _ t5 => hE u5 e (fun c o c1 c2 c3 c4 q => t5.extBut _ _ c1 (t4 _ _ c4 (t3.extBut _ _ c2 (t2.extBut _ _ c3 (t1.extBut _ _ c1 q))))) ⟨oe, t5.extBut _ _ ne hoe, hce⟩
theorem pyNext_zipTS_item {z TI TO i1 i2 l1 : Addr} {ty : String} {x : Str} {t : Tok} {m n c : Nat} {xs : Array Value} {y a b : Value} {Q : Option Value → Shared → Prop} (hty : ty = "str_ascii_iterator" ∨ ty = "str_iterator") (D : ZipApart z TI TO i1 i2 l1 l1) (Z : ZipTS s.heap z TI TO i1 i2 l1 ty x t m n xs a b) (hx : xs[m]? = some y) (hy : x.cps[n]? = some c)
    (hQ : ∀ h', IsZip h' z TI TO (rawInt s.heap.objs.size) → IsPair h' TO y (.str ⟨#[c]⟩ s.toks) → h'.IsTupleIter i1 l1 (m + 1) → h'.IsStrIter i2 ty x t (n + 1) → IsPair h' s.heap.objs.size y (.str ⟨#[c]⟩ s.toks) → h'.objs.size = s.heap.objs.size + 1 → KeptBut z TO i1 i2 s.heap h' → Q (some (.ref s.heap.objs.size)) { s with heap := h', toks := s.toks + 1 }) :
    wpAny (model prog w) A (pyNext (.ref z)) Q E s := by
  unfold pyNext
  have tz : s.TypeIs (.ref z) "zip" := ⟨_, Z.z, rfl⟩
  exact wpAny_bind (wpAny_attempt (wpAny_callSpecial?_slot (name := Str.ofString "__next__") tz F.slot_zip_next (wpAny_call_entry F.slot_zip_next tz F.entry_zip_next (zipTS_item hty D Z hx hy fun h' b1 b2 b3 b4 b5 b6 b7 => wpAny_pure (hQ h' b1 b2 b3 b4 b5 b6 b7)) (F.args_zip_next_1 _))))
theorem pyNext_zipTS_end {z TI TO i1 i2 l1 : Addr} {ty : String} {x : Str} {t : Tok} {m n : Nat} {xs : Array Value} {a b : Value} {Q : Option Value → Shared → Prop} (hty : ty = "str_ascii_iterator" ∨ ty = "str_iterator") (hh : A.handled = none) (D : ZipApart z TI TO i1 i2 l1 l1) (Z : ZipTS s.heap z TI TO i1 i2 l1 ty x t m n xs a b) (hend : xs[m]? = none ∨ x.cps[n]? = none)
    (hQ : ∀ h', KeptBut z TO i1 i2 s.heap h' → Q none { s with heap := h' }) : wpAny (model prog w) A (pyNext (.ref z)) Q E s := by
  unfold pyNext
  have tz : s.TypeIs (.ref z) "zip" := ⟨_, Z.z, rfl⟩
  refine wpAny_bind (wpAny_attempt (wpAny_callSpecial?_slot (name := Str.ofString "__next__") tz F.slot_zip_next (wpAny_call_entry F.slot_zip_next tz F.entry_zip_next (zipTS_end hty hh D Z hend fun h' e hk ⟨o, ho, hc⟩ => ?_) (F.args_zip_next_1 _))))
  exact wpAny_bind (wpAny_isInstance (T := "StopIteration") (b := true) ⟨o, ho, hc⟩ isSubtype_stop (wpAny_pure (hQ _ hk)))
end
/-- the heap behind zip(tuple, text): two iterators, the two pairs, the zip -/
abbrev zts1 (h : Heap) (l1 : Addr) : Heap := h.push { cls := .type "tuple_iterator", data := .fields #[.ref l1, .int 0 0] }
abbrev zts2 (h : Heap) (l1 : Addr) (x : Str) (t : Tok) : Heap := (zts1 h l1).push { cls := .type (strIterType x), data := .fields #[.str x t, .int 0 0] }
abbrev zts3 (h : Heap) (l1 : Addr) (x : Str) (t : Tok) : Heap := (zts2 h l1 x t).push { cls := .type "tuple", data := .seq #[.ref h.objs.size, .ref (zts1 h l1).objs.size] }
abbrev zts4 (h : Heap) (l1 : Addr) (x : Str) (t : Tok) : Heap := (zts3 h l1 x t).push { cls := .type "tuple", data := .seq #[.none, .none] }
abbrev zts5 (h : Heap) (l1 : Addr) (x : Str) (t : Tok) : Heap := (zts4 h l1 x t).push { cls := .type "zip", data := .fields #[.none, .bool false, .bool false, .ref (zts2 h l1 x t).objs.size, .ref (zts3 h l1 x t).objs.size] }
theorem meets_zipTS (l1 : Addr) (xs : Array Value) (x : Str) (t : Tok) : Meets (Builtin.«zip.__new__» ⟨[.type "zip", .ref l1, .str x t], []⟩) (fun _ R s => s.heap.IsTuple l1 xs ∧ R (.ok (.ret (.ref (zts4 s.heap l1 x t).objs.size))) { s with heap := zts5 s.heap l1 x t }) :=
  .of_wp fun prog w A R s h => by
    obtain ⟨hp, g, d, tk, os⟩ := s
    obtain ⟨y1, h⟩ := h
    have hsub := sub_zip
    have L1 : Heap.IsTuple (Shared.heap ⟨hp, g, d, tk, os⟩) l1 xs := y1
    wp_walk using wpAny_pyIter_tuple L1, wpAny_pyIter_strU
    exact ⟨_, rfl, h⟩
section
variable {prog : Program} {w : World} {A : Around} {E : Value → Shared → Prop} {s : Shared}
theorem call_zipTS {l1 : Addr} {xs : Array Value} {x : Str} {t : Tok} {Q : Value → Shared → Prop} (y1 : s.heap.IsTuple l1 xs)
    (h : ∀ h', IsZip h' (s.heap.objs.size + 4) (s.heap.objs.size + 2) (s.heap.objs.size + 3) .none → IsPair h' (s.heap.objs.size + 2) (.ref s.heap.objs.size) (.ref (s.heap.objs.size + 1)) → IsPair h' (s.heap.objs.size + 3) .none .none →
      h'.IsTupleIter s.heap.objs.size l1 0 → h'.IsStrIter (s.heap.objs.size + 1) (strIterType x) x t 0 → (∀ c o, s.heap.get? c = some o → h'.get? c = some o) → Q (.ref (s.heap.objs.size + 4)) { s with heap := h' }) :
    wpAny (model prog w) A (call (.type "zip") [.ref l1, .str x t]) Q E s := by
  refine callType_new F.called_zip (by decide) (F.typeCall_zip_2 _ _) (F.newCall_zip_2 _ _) (fun obj => F.args_object_init_3 obj _ _) F.entry_zip_new (meets_zipTS l1 xs x t) ⟨y1, ?_⟩
  have z1 : (zts1 s.heap l1).objs.size = s.heap.objs.size + 1 := by rw [Heap.size_push]
  have z2 : (zts2 s.heap l1 x t).objs.size = s.heap.objs.size + 2 := by rw [Heap.size_push, z1]
  have z3 : (zts3 s.heap l1 x t).objs.size = s.heap.objs.size + 3 := by rw [Heap.size_push, z2]
  have z4 : (zts4 s.heap l1 x t).objs.size = s.heap.objs.size + 4 := by rw [Heap.size_push, z3]
  have up : ∀ {h : Heap} {o u : Obj} {a : Addr}, h.get? a = some u → (h.push o).get? a = some u := fun e => Heap.get?_push_of_some _ e
  have e5 : (zts5 s.heap l1 x t).get? (zts4 s.heap l1 x t).objs.size = some _ := Heap.get?_push_size _ rfl
  have e4 : (zts5 s.heap l1 x t).get? (zts3 s.heap l1 x t).objs.size = some _ := up (Heap.get?_push_size _ rfl)
  have e3 : (zts5 s.heap l1 x t).get? (zts2 s.heap l1 x t).objs.size = some _ := up (up (Heap.get?_push_size _ rfl))
  have e2 : (zts5 s.heap l1 x t).get? (zts1 s.heap l1).objs.size = some _ := up (up (up (Heap.get?_push_size _ rfl)))
  have e1 : (zts5 s.heap l1 x t).get? s.heap.objs.size = some _ := up (up (up (up (Heap.get?_push_size _ rfl))))
  show _ ∧ _
  rw [z4, z3, z2] at e5
  rw [z3] at e4
  rw [z2, z1] at e3
  rw [z1] at e2
  rw [z4]
  exact ⟨⟨_, e5, rfl⟩, h _ e5 e3 e4 ⟨_, e1, rfl, rfl⟩ ⟨_, e2, rfl, rfl⟩ fun c o q => up (up (up (up (up q))))⟩
end
/-- the tuple at a and the text x, the items in new pairs -/
def ItzTS (K : PySem.W.Frag) (a : Addr) (x : Str) : It :=
  ⟨fun i H => ∃ (xs : List V) (y : V) (c : Nat), SqT K H a xs ∧ xs[i]? = some y ∧ x.cps[i]? = some c,
    fun i H v H' => ∃ T y c, v = .ref T ∧ H T = none ∧ H' = upd H T (.tup [y, .str ⟨#[c]⟩]) ∧ (∀ xs, SqT K H a xs → xs[i]? = some y) ∧ x.cps[i]? = some c,
    fun i H => ∃ xs : List V, SqT K H a xs ∧ (xs.length ≤ i ∨ x.cps.size ≤ i)⟩
/-- how the five objects stand ahead of turn i -/
def ZTAt (z TI TO i1 i2 a : Addr) (ty : String) (x : Str) (t : Tok) (i : Nat) (h : Heap) : Prop := IsZip h z TI TO .none ∧ IsPair h TI (.ref i1) (.ref i2) ∧ (∃ x y, IsPair h TO x y) ∧ h.IsTupleIter i1 a i ∧ h.IsStrIter i2 ty x t i
theorem ztat_obj {z TI TO i1 i2 a : Addr} {ty : String} {x : Str} {t : Tok} {i : Nat} {h : Heap} (st : ZTAt z TI TO i1 i2 a ty x t i h) : ∀ c ∈ [z, TI, TO, i1, i2], ∃ o, h.get? c = some o ∧ ∀ v, o.data ≠ .cell v := by
  obtain ⟨e1, e2, ⟨x, y, e3⟩, ⟨o1, e4, _, d1⟩, ⟨o2, e5, _, d2⟩⟩ := st
  intro c hc
  simp only [List.mem_cons, List.not_mem_nil, or_false] at hc
  rcases hc with rfl | rfl | rfl | rfl | rfl
  · exact ⟨_, e1, fun v q => nomatch q⟩
  · exact ⟨_, e2, fun v q => nomatch q⟩
  · exact ⟨_, e3, fun v q => nomatch q⟩
  · exact ⟨o1, e4, fun v q => nomatch (d1.symm.trans q)⟩
  · exact ⟨o2, e5, fun v q => nomatch (d2.symm.trans q)⟩
theorem turn_zipTS {P : Program} {w : World} {K : PySem.W.Frag} {elts : List Expr} {kk : Nat} {tpos : Pos} {a z TI TO i1 i2 : Addr} {ty : String} {x : Str} {t : Tok} (hty : ty = "str_ascii_iterator" ∨ ty = "str_iterator") (D : ZipApart z TI TO i1 i2 a a) : Turn P w K (.Tuple elts kk tpos) (ItzTS K a x) [z, TI, TO, i1, i2] z (ZTAt z TI TO i1 i2 a ty x t) where
  mem := List.mem_cons_self
  obj := fun i h st => ztat_obj st
  keep := fun i h h' ⟨e1, e2, ⟨x, y, e3⟩, e4, ⟨o5, e5, r5⟩⟩ k => ⟨k z (by simp) _ e1, k TI (by simp) _ e2, ⟨x, y, k TO (by simp) _ e3⟩, e4.at fun o q => k i1 (by simp) o q, ⟨o5, k i2 (by simp) _ e5, r5⟩⟩
  item := by
    rintro X rfl rfl rfl hc i pins s σ H E I hf st ⟨xs, y, c, qx, hx, hy⟩
    have lo := ztat_obj st
    obtain ⟨e1, e2, ⟨x0, y0, e3⟩, e4, e5⟩ := st
    obtain ⟨us, rv, p, _⟩ := I.tuple qx
    obtain ⟨u, hu, ru⟩ := rv.get hx
    have zl : z < s.heap.objs.size := Heap.lt_size e1
    refine pyNext_zipTS_item hty D ⟨e1, e2, e3, e4, e5, p⟩ (y := u) (by simpa using hu) hy fun h' z' o' j1 j2 pT szT kT => ⟨_, rfl, ?_⟩
    refine wpAny_letOwnedTupleGo_zip (s := { s with heap := h', toks := s.toks + 1 }) z' fun h2 z2 sb => ?_
    have T2 : h2.get? s.heap.objs.size = some { cls := .type "tuple", data := .seq #[u, .str ⟨#[c]⟩ s.toks] } := (sb.2 _ (Nat.ne_of_gt zl)).trans pT
    have off : ∀ {c : Addr}, c ∉ [z, TI, TO, i1, i2] → c ≠ z ∧ c ≠ TO ∧ c ≠ i1 ∧ c ≠ i2 := fun {c} hb => by
      simp only [List.mem_cons, List.not_mem_nil, or_false, not_or] at hb
      exact ⟨hb.1, hb.2.2.1, hb.2.2.2.1, hb.2.2.2.2⟩
    have I1 : Inv X pins σ (upd H s.heap.objs.size (.tup [y, .str ⟨#[c]⟩])) { s with heap := h2, toks := s.toks + 1 } := I.turnedNew (t' := s.toks + 1) (ch := [z, TI, TO, i1, i2]) (fun c o hb q => (sb.2 c (off hb).1).trans (kT c o (off hb).1 (off hb).2.1 (off hb).2.2.1 (off hb).2.2.2 q)) hf (Nat.le_refl _)
      ⟨(by show 2 ≤ sizeLine; decide), [u, .str ⟨#[c]⟩ s.toks], .cons ru (.cons ⟨_, rfl⟩ .nil), ⟨_, T2, rfl, _, rfl⟩⟩
    refine ⟨.ref s.heap.objs.size, _, I1, rfl, ⟨_, y, c, rfl, I.hok.fresh (Nat.le_refl _), rfl, fun l hl => by rw [I.tuple_inj hl qx]; exact hx, hy⟩, ⟨z2, (sb.2 _ D.TIz).trans (kT _ _ D.TIz D.TITO D.TIi1 D.TIi2 e2), ⟨u, _, (sb.2 _ D.TOz).trans o'⟩, j1.at fun o q => (sb.2 _ D.i1z).trans q, let ⟨o, e, r⟩ := j2; ⟨o, (sb.2 _ D.i2z).trans e, r⟩⟩, fun c hcm => ?_⟩
    obtain ⟨o, eo, _⟩ := lo c hcm
    rw [upd_ne (Nat.ne_of_lt (Heap.lt_size eo))]
    exact (hf c hcm).1
  done := by
    rintro X rfl rfl rfl hc i pins s σ H E I hf ⟨e1, e2, ⟨x0, y0, e3⟩, e4, e5⟩ ⟨xs, qx, hend⟩
    obtain ⟨us, rv, p, _⟩ := I.tuple qx
    have n1 := rv.length
    refine pyNext_zipTS_end hty (I.ok.hd hc) D ⟨e1, e2, e3, e4, e5, p⟩ (hend.imp (fun q => by simp; omega) fun q => Array.getElem?_eq_none q) fun h' hk => ⟨rfl, I.turnedL (t' := s.toks) (ch := [z, TI, TO, i1, i2]) (fun c o hb q => ?_) hf⟩
    simp only [List.mem_cons, List.not_mem_nil, or_false, not_or] at hb
    exact hk c o hb.1 hb.2.2.1 hb.2.2.2.1 hb.2.2.2.2 q
  self := fun A i s Q E st h => wpAny_pyIter_zip st.1 h
def iZipTS (K : PySem.W.Frag) (ta : TA) : TI := fun σ H R => ta σ H fun vs H1 => ∃ a x xs, vs = [.ref a, .str x] ∧ SqT K H1 a xs ∧ R (ItzTS K a x) H1
theorem pi_zipTS {X : Cx} {e e2 : Expr} {ta : TA} {p pos tpos : Pos} {elts : List Expr} {kk : Nat} (hg : Gl X "zip") (hm : X.mg "zip" = none) (ha : PA X [e, e2] ta)
    (hs : starEach [e, e2] X.env = (false, eval e X.env) :: starEach [e2] X.env := by rfl) (hpl : (backTo pos (starEach [e2] X.env)).any (·.1) = false := by rfl) :
    PI X (.Tuple elts kk tpos) (.Call (.Name "zip" p) [e, e2] [] pos) (iZipTS X.K ta) := by
  refine ⟨fun pins s σ H R I h => ?_⟩
  refine Call_ (ld_blt I hg hm PyProof.Rows.boot_zip (PyProof.Rows.callWith_type1 (thn (ha.run pos pins s σ H _ I h) fun us s1 ⟨vs, H1, I1, r1, a, x, xs, ev, qx, q⟩ => ?_) hs hpl))
  subst ev
  obtain ⟨u, us', rfl, ru, r2⟩ : ∃ u us', us = u :: us' ∧ RelV (.ref a) u ∧ Vals [.str x] us' := by
    cases r1 with
    | cons r rr => exact ⟨_, _, rfl, r, rr⟩
  obtain ⟨u2, rfl, ru2⟩ := vals1 r2
  obtain rfl : u = Value.ref a := ru
  obtain ⟨t, rfl⟩ := ru2
  obtain ⟨us, rv, p1, _⟩ := I1.tuple qx
  obtain ⟨o1, ho1, _⟩ := id p1
  have hty : strIterType x = "str_ascii_iterator" ∨ strIterType x = "str_iterator" := by
    unfold strIterType
    split
    · exact .inl rfl
    · exact .inr rfl
  refine call_zipTS p1 fun h' hz hTI hTO h1 h2 hk => wpAny_pyIter_zip hz ?_
  have I2 : Inv X pins σ H1 { s1 with heap := h' } := I1.kept (t' := s1.toks) hk
  refine ⟨s1.heap.objs.size + 4, [s1.heap.objs.size + 4, s1.heap.objs.size + 2, s1.heap.objs.size + 3, s1.heap.objs.size, s1.heap.objs.size + 1], _, _, H1, rfl, I2, turn_zipTS hty (PySem.W.ktu_apart s1.heap.objs.size a a (Heap.lt_size ho1) (Heap.lt_size ho1)), ⟨hz, hTI, ⟨_, _, hTO⟩, h1, h2⟩, fun c hcm => ?_, q⟩
  have le : s1.heap.objs.size ≤ c := by
    simp only [List.mem_cons, List.not_mem_nil, or_false] at hcm
    rcases hcm with e | e | e | e | e <;> rw [e] <;> first | exact Nat.le_refl _ | exact Nat.le_add_right _ _
  exact I1.fpOk le (I1.hok.fresh le)
theorem walk_zipTS {K : PySem.W.Frag} {a : Addr} {x : Str} {xs : List V} {n : Nat} (hn : n = min xs.length x.cps.size) : Walk (ItzTS K a x) n (fun H => SqT K H a xs) (YPair (fun i => xs[i]?) (fun i => (x.cps[i]?).map fun c => V.str ⟨#[c]⟩)) where
  goes := fun i H hi qx => ⟨xs, xs[i]'(by omega), x.cps[i]'(by omega), qx, List.getElem?_eq_getElem _, Array.getElem?_eq_getElem _⟩
  stops := fun H qx => ⟨xs, qx, by omega⟩
  yields := fun i H v H' hi qx ⟨T, y, c, e1, e2, e3, f1, f2⟩ => ⟨T, y, _, e1, e2, e3, f1 xs qx, by show Option.map _ _ = _; rw [f2]; rfl⟩
end MH
/-! own rules: [x + ".", y.replace(".", ".."), ..] -/
namespace MH
open PySem PySem.Spec PyProof.Rows L2
end MH
/-! f(k = v, ..) without positional values; == of two tuples of the same objects. -/
namespace MH
open PySem PySem.Spec PyProof.Rows L2
/-! ### C.m(e, ..), m a staticmethod -/
/-! ### defs with defaults -/
structure FunV (K : PySem.W.Frag) (x qual : Str) (st : Stmt) (dvs : List V) (f : Addr) (fd : FuncData) : Prop where
  ex : ∃ (oc : Value) (od : Option Addr) (T : Addr) (kV doc pm : Value) (an : Option Addr) (cdv ct : Value) (osl : Array (Option Value)) (o : Obj) (its : List Value) (n : Nat),
    fd = PySem.W.fnOf x qual (defArgs st) (defBody st) (defScope st) (.ref T) kV doc pm an cdv ct ∧ K.lookup f = some ⟨oc, od, .func fd, osl⟩ ∧ PySem.W.codeIn K cdv qual = true ∧ K.lookup T = some o ∧ o.data = .seq its.toArray n ∧ Vals dvs its
  kp : PySem.W.keepIn K (.ref f) = true
section
variable {P : Program} {w : World} {K : PySem.W.Frag} {mg : Str → Option Value} {base : Heap} {x qual : Str} {st : Stmt} {dvs : List V} {f : Addr} {fd : FuncData}
theorem FunV.ok {N ps : List Str} {k : Nat} {sp : Sp} (F : FunV K x qual st dvs f fd) (S : FnScope N ps (defScope st)) (len : ∀ vs H Q E, sp vs H Q E → vs.length = ps.length)
    (hbody : ∀ (cdv : Value) (A : Around) (outer : List Env) (s : Shared) (H : Hp) (vs : List V) (Q : VK) (E : XK), Room k (A.deeper (envOfC qual (defScope st) s.heap.objs.size f cdv)) → sp vs H Q E →
      ∃ t, PSs (cxOf CX0 P w K mg base N qual (defScope st) f cdv A outer s H E).nox (defBody st) t ∧ t { nx := fun _ H' => Q .non H', rt := Q } (start N vs) H) : FnOk P w K mg base CX0 (k + 1) f fd ps sp := by
  obtain ⟨oc, od, T, kV, doc, pm, an, cdv, ct, osl, o, its, n, rfl, lk, hcd, _⟩ := F.ex
  refine fn_of lk hcd S len fun A outer s H vs Q E hr hsp => ?_
  obtain ⟨t, h, q⟩ := hbody cdv A outer s H vs Q E hr hsp
  exact ⟨t, h.nox, q⟩
theorem FunV.okX {N ps : List Str} {k : Nat} {sp : Sp} (F : FunV K x qual st dvs f fd) (S : FnScope N ps (defScope st)) (len : ∀ vs H Q E, sp vs H Q E → vs.length = ps.length)
    (hbody : ∀ (cdv : Value) (A : Around) (outer : List Env) (s : Shared) (H : Hp) (vs : List V) (Q : VK) (E : XK), Room k (A.deeper (envOfC qual (defScope st) s.heap.objs.size f cdv)) → sp vs H Q E →
      ∃ t, PSs (cxOf (L2.CX P w) P w K mg base N qual (defScope st) f cdv A outer s H E) (defBody st) t ∧ t { nx := fun _ H' => Q .non H', rt := Q } (start N vs) H) : FnOk P w K mg base (L2.CX P w) (k + 1) f fd ps sp := by
  obtain ⟨oc, od, T, kV, doc, pm, an, cdv, ct, osl, o, its, n, rfl, lk, hcd, _⟩ := F.ex
  exact fn_of lk hcd S len fun A outer s H vs Q E hr hsp => hbody cdv A outer s H vs Q E hr hsp
/-- n values are written; the defaults behind the first j fill up -/
theorem FunV.bindD {ps : List Str} (F : FunV K x qual st dvs f fd) (n j : Nat) (hn : n + (dvs.length - j) = ps.length)
    (h : ∀ (T : Addr) (kV doc pm : Value) (an : Option Addr) (cdv ct : Value) (us its : List Value), us.length = n → its.length = dvs.length →
      ∃ k, bindArgs (PySem.W.fnOf x qual (defArgs st) (defBody st) (defScope st) (.ref T) kV doc pm an cdv ct) ⟨us, []⟩ = seqItems? (.ref T) >>= k ∧ k (some its.toArray) = pure (ps.zip (us ++ its.drop j))) : ∃ ds, Vals (dvs.drop j) ds ∧ Binds K fd ps ds := by
  obtain ⟨oc, od, T, kV, doc, pm, an, cdv, ct, osl, o, its, m, rfl, lk, hcd, lT, oT, rT⟩ := F.ex
  refine ⟨its.drop j, rT.drop j, fun s us X hlen => ?_⟩
  have l1 : its.length = dvs.length := rT.length.symm
  have l2 : us.length = n := by
    rw [List.length_append, List.length_drop, l1] at hlen
    omega
  obtain ⟨k, e1, e2⟩ := h T kV doc pm an cdv ct us its l2 l1
  refine BindsTo.of_looks fun M => ?_
  rw [e1]
  exact looks_items X lT oT (.of_pure e2)
/-- all values are written -/
theorem FunV.bindA {ps : List Str} (F : FunV K x qual st dvs f fd)
    (h : ∀ (T : Addr) (kV doc pm : Value) (an : Option Addr) (cdv ct : Value) (us its : List Value), us.length = ps.length → its.length = dvs.length →
      ∃ k, bindArgs (PySem.W.fnOf x qual (defArgs st) (defBody st) (defScope st) (.ref T) kV doc pm an cdv ct) ⟨us, []⟩ = seqItems? (.ref T) >>= k ∧ k (some its.toArray) = pure (ps.zip us)) : Binds K fd ps [] := by
  obtain ⟨ds, rv, b⟩ := F.bindD (ps := ps) ps.length dvs.length (by omega) (fun T kV doc pm an cdv ct us its h1 h2 => by
    obtain ⟨k, e1, e2⟩ := h T kV doc pm an cdv ct us its h1 h2
    refine ⟨k, e1, ?_⟩
    rw [e2, List.drop_of_length_le (Nat.le_of_eq h2), List.append_nil])
  rw [List.drop_length] at rv
  cases rv
  exact b
end
theorem fun_mkV {K : PySem.W.Frag} {x qual : Str} {st : Stmt} {dvs : List V} {f T : Addr} {oc tc : Value} {od an td : Option Addr} {osl ts : Array (Option Value)} {kV doc pm cdv ct : Value} {its : List Value} {n : Nat}
    (l : K.lookup f = some ⟨oc, od, .func (PySem.W.fnOf x qual (defArgs st) (defBody st) (defScope st) (.ref T) kV doc pm an cdv ct), osl⟩)
    (c : PySem.W.codeIn K cdv qual = true) (k : PySem.W.keepIn K (.ref f) = true) (lT : K.lookup T = some ⟨tc, td, .seq its.toArray n, ts⟩) (hv : Vals dvs its) : FunV K x qual st dvs f (PySem.W.fnOf x qual (defArgs st) (defBody st) (defScope st) (.ref T) kV doc pm an cdv ct) :=
  ⟨⟨oc, od, T, kV, doc, pm, an, cdv, ct, osl, _, its, n, rfl, l, c, lT, rfl, hv⟩, k⟩
/-- f'..' within a comprehension -/
def tJoinF (ts : List TE) : TE := fun σ H Q => tJs ts Str.empty σ H fun out H1 => Q (.str out) H1
theorem pe_joinedF {X : Cx} {v1 v2 : Expr} {rest : List Expr} {ts : List TE} {pos : Pos} (h : PJ X (v1 :: v2 :: rest) ts) : PE X (.JoinedStr (v1 :: v2 :: rest) pos) (tJoinF ts) := pe_joined h
/-- a text so many times -/
def rMulS : R2 := fun x y H Q => ∃ (z : Str) (n : Int), x = .str z ∧ y = .int n ∧ MulOk z n ∧ Q (.str (Txt.mul z n)) H
theorem op_mulS {X : Cx} : OpR X (binaryOp .Mult) rMulS := by
  intro pins s σ H x y v u Q I rx ry h
  obtain ⟨z, n, rfl, rfl, ok, q⟩ := h
  obtain ⟨t, rfl⟩ := rx
  obtain ⟨t', rfl⟩ := ry
  exact SB.mul ok fun t' tk => ⟨.str (Txt.mul z n), H, I.tok _, ⟨_, rfl⟩, q⟩
theorem mul_ok1 {c n : Nat} (h : n ≤ 1000) : MulOk (⟨#[c]⟩ : Str) (n : Int) := by
  refine ⟨?_, fun h1 _ => ?_, fun _ _ => ?_⟩
  · rw [decide_eq_false (by omega), decide_eq_false (by omega)]
    rfl
  · have h1 : 1 ≤ n := by omega
    show ¬ ((1 : Int) > (2 ^ 63 - 1) / (n : Int))
    have : (1 : Int) ≤ (2 ^ 63 - 1) / (n : Int) := by
      rw [Int.le_ediv_iff_mul_le (by omega)]
      omega
    omega
  · show Builtin.Str.tooLong (1 * n) = false
    rw [Nat.one_mul]
    unfold Builtin.Str.tooLong
    refine decide_eq_false ?_
    have : 1000 ≤ sizeLine := by decide
    omega
theorem foldl_one (c : Nat) : ∀ (n : Nat) (acc : List Nat), (List.replicate n (#[c] : Array Nat)).foldl (· ++ ·) acc.toArray = (acc ++ List.replicate n c).toArray
  | 0, acc => by simp
  | n + 1, acc => by
    rw [List.replicate_succ, List.foldl_cons]
    have e : acc.toArray ++ #[c] = (acc ++ [c]).toArray := by simp
    rw [e, foldl_one c n, List.replicate_succ, List.append_assoc]
    rfl
theorem mul_one {c n : Nat} : Txt.mul (⟨#[c]⟩ : Str) (n : Int) = ⟨(List.replicate n c).toArray⟩ := by
  unfold Txt.mul
  by_cases h : (n : Int) < 1
  · rw [if_pos h]
    obtain rfl : n = 0 := by omega
    rfl
  · rw [if_neg h]
    by_cases h1 : n = 1
    · subst h1
      rfl
    · have e : (((n : Int) == 1) || ((⟨#[c]⟩ : Str).length == 0)) = false := by
        have : ((n : Int) == 1) = false := beq_eq_false_iff_ne.mpr (by omega)
        rw [this]
        rfl
      rw [if_neg (by rw [e]; exact Bool.false_ne_true), Int.toNat_natCast]
      have := foldl_one c n []
      rw [List.nil_append] at this
      exact congrArg Str.mk this
end MH
noncomputable section
/-! own work: the head of a law in cuts, each cut one kernel run between two states that are written out once -/
namespace MN
open PySem PySem.W PySem.Calls PyProof.Rows HandSHeadRun
section
variable (st : SharedT → Thread → Option (SharedT × Thread)) (n0 : Nat) (ann : Option Value)
/-- one step that the top may do -/
def one (s : SharedT) (t : Thread) : Option (SharedT × Thread) := match stepOk n0 ann t with
  | true => st s t
  | false => none
/-- statements of the top, to their end -/
def seg : Nat → SharedT → Thread → Option (Flow × SharedT × Code × Pos)
  | 0, _, _ => none
  | m + 1, s, t => match endAt 1 t with
    | some f => some (f, s, t.code, t.pos)
    | none => match one st n0 ann s t with
      | some r => frS r.1 fun s' => seg m s' r.2
      | none => none
/-- the first steps of the top -/
def fore : Nat → SharedT → Thread → Option (SharedT × Thread)
  | 0, s, t => some (s, t)
  | m + 1, s, t => match through t with
    | true => none
    | false => match one st n0 ann s t with
      | some r => frS r.1 fun s' => fore m s' r.2
      | none => none
end
section
variable {tb : String → Option Builtin} {p : Program} {w : World} {n0 : Nat} {ann : Option Value}
theorem one_ok {s s2 : SharedT} {t t2 : Thread} (h : one (stepT (denote tb) p w) n0 ann s t = some (s2, t2)) : stepOk n0 ann t = true ∧ step (denote tb) p w s.abs t = .go s2.abs t2 := by
  unfold one at h
  split at h
  · rename_i a
    exact ⟨a, stepT_spec h⟩
  · cases h
theorem seg_ok {f : Flow} {s2 : SharedT} {c : Code} {q : Pos} : ∀ {m : Nat} {s : SharedT} {t : Thread}, seg (stepT (denote tb) p w) n0 ann m s t = some (f, s2, c, q) → segRun tb p w n0 ann 1 m s.abs t = some (f, s2.abs, c, q)
  | 0, _, _, h => nomatch h
  | m + 1, s, t, h => by
    simp only [seg] at h
    unfold segRun
    split at h
    · rename_i a
      rw [a]
      cases h
      rfl
    · rename_i a
      rw [a]
      split at h
      · rename_i r b
        obtain ⟨u, v⟩ := r
        obtain ⟨d, e⟩ := one_ok b
        rw [frS_eq] at h
        simp only [d, e]
        exact seg_ok h
      · cases h
theorem fore_ok {s2 : SharedT} {t2 : Thread} : ∀ {m : Nat} {s : SharedT} {t : Thread}, fore (stepT (denote tb) p w) n0 ann m s t = some (s2, t2) → topGo tb p w n0 ann m s.abs t = some (s2.abs, t2)
  | 0, s, t, h => by
    cases h
    rfl
  | m + 1, s, t, h => by
    simp only [fore] at h
    unfold topGo
    split at h
    · cases h
    · rename_i a
      rw [a]
      split at h
      · rename_i r b
        obtain ⟨u, v⟩ := r
        obtain ⟨d, e⟩ := one_ok b
        rw [frS_eq] at h
        simp only [d, e]
        exact fore_ok h
      · cases h
end
/-- the state behind the boot, off the tree -/
def bootQ (w : World) (os : OsState) (k : SharedT → Option (SharedT × Thread)) : Option (SharedT × Thread) := match putAll (boot_heap w.params).objs.toList .nil 0 with
  | some (t, n) => frNat n fun n => k (bootT w os (t, n))
  | none => none
theorem bootQ_ok {w : World} {os : OsState} {k : SharedT → Option (SharedT × Thread)} {r : SharedT × Thread} (h : bootQ w os k = some r) : ∃ s : SharedT, s.abs = ⟨boot_heap w.params, #[], boot_drawn, boot_toks, os⟩ ∧ k s = some r := by
  unfold bootQ at h
  split at h
  · rename_i t n e
    rw [frNat_eq] at h
    refine ⟨_, ?_, h⟩
    show (⟨absHeap t n (boot_heap w.params).life, #[], boot_drawn, boot_toks, os⟩ : Shared) = _
    rw [putAll_heap e]
  · cases h
/-- the top runs from s, t to r in N steps at most -/
def Run (p : Program) (w : World) (n0 : Nat) (ann : Option Value) (N : Nat) (s : SharedT) (t : Thread) (r : SharedT) : Prop := topRun treeTable p w n0 ann N s.abs t = some r.abs
def exQ : List Stmt → Env → Sem Flow := PySem.W.Fast.tw12563942051412417395
theorem exQ_eq : @PySem.execs = exQ := PySem.W.Fast.te12563942051412417395
abbrev piecesQ (l : List Stmt) (env : Env) (c : Code) (p : Pos) (B : List Frame) : Thread := ⟨(exQ l env).wrap doneF deadEnd id id, c, p, B⟩
abbrev restQ (l : List Stmt) (env : Env) (c : Code) (p : Pos) (B : List Frame) : Thread := ⟨(exQ l env).wrap doneF (leaveH env) id id, c, p, B⟩
theorem piecesQ_eq (l : List Stmt) (env : Env) (c : Code) (p : Pos) (B : List Frame) : piecesOf l env c p B = piecesQ l env c p B := by
  show (⟨(execs l env).wrap doneF deadEnd id id, c, p, B⟩ : Thread) = ⟨(exQ l env).wrap doneF deadEnd id id, c, p, B⟩
  rw [exQ_eq]
theorem restQ_eq (l : List Stmt) (env : Env) (c : Code) (p : Pos) (B : List Frame) : restOf l env c p B = restQ l env c p B := by
  show (⟨(execs l env).wrap doneF (leaveH env) id id, c, p, B⟩ : Thread) = ⟨(exQ l env).wrap doneF (leaveH env) id id, c, p, B⟩
  rw [exQ_eq]
abbrev stQ (p : Program) (w : World) := stepQ (denQ tabQ) p w
theorem st_eq (p : Program) (w : World) : stepT (denote treeTable) p w = stQ p w := by
  rw [stepQ_eq, denQ_eq, tabQ_eq]
section
variable {p : Program} {w : World} {n0 : Nat} {ann : Option Value} {env : Env} {q : Pos}
theorem run_end {m : Nat} {b : List Stmt} {s r : SharedT} {c : Code} {u : Pos} (h : goF (stQ p w) n0 ann m s (restQ b env c u [topFrame q]) = some r) : Run p w n0 ann m s (restOf b env c u [topFrame q]) r := goF_ok (by rw [st_eq, restQ_eq]; exact h)
theorem run_cut {m N i j k : Nat} {b : List Stmt} {s s2 r : SharedT} {c : Code} {u v : Pos} (hk : i + k = j) (h : seg (stQ p w) n0 ann m s (piecesQ ((b.drop i).take k) env c u [topFrame q]) = some (.next, s2, c, v))
    (z : Run p w n0 ann N s2 (restOf (b.drop j) env c v [topFrame q]) r) : Run p w n0 ann (m + N) s (restOf (b.drop i) env c u [topFrame q]) r := by
  have e : b.drop i = (b.drop i).take k ++ b.drop j := by
    rw [← hk, ← List.drop_drop]
    exact (List.take_append_drop k _).symm
  rw [e]
  exact piece_app (seg_ok (by rw [st_eq, piecesQ_eq]; exact h)) z
theorem run_block {m N : Nat} {b : List Stmt} {s s2 r : SharedT} {c : Code} {u v : Pos} (h : seg (stQ p w) n0 ann m s (blockOf b env c u [topFrame q]) = some (.next, s2, c, v))
    (z : Run p w n0 ann N s2 (restOf b env c v [topFrame q]) r) : Run p w n0 ann (m + N) s ⟨denote treeTable (.body b env), c, u, [topFrame q]⟩ r := piece_block (seg_ok (by rw [st_eq]; exact h)) z
theorem run_fore {m N : Nat} {b : List Stmt} {s s2 r : SharedT} {t : Thread} {c : Code} {u : Pos} (h : fore (stQ p w) n0 ann m s t = some (s2, ⟨denQ tabQ (.body b env), c, u, [topFrame q]⟩))
    (z : Run p w n0 ann N s2 ⟨denote treeTable (.body b env), c, u, [topFrame q]⟩ r) : Run p w n0 ann (m + N) s t r := go_top (fore_ok (by rw [st_eq, denQ_eq, tabQ_eq]; exact h)) z
end
/-- what is looked at behind the top -/
abbrev Looks (p q : Program) (loose : List PySem.Str) (Xt : Shared → Bool) (as : List Addr) (w : World) (s : SharedT) := (looksF p (boot_heap w.params) s.abs, seenQ q loose (importedModules p.main.body) Xt s.abs, as.map (getT s))
end MN
end
/-! own: the head in cuts, with tables of code -/
noncomputable section
namespace MN
open PySem PySem.W PySem.Calls PyProof.Rows HandSHeadRun
abbrev LooksM (p q : Program) (loose : List PySem.Str) (Xt : Shared → Bool) (as ts : List Addr) (w : World) (s : SharedT) := (looksF p (boot_heap w.params) s.abs, seenQ q loose (importedModules p.main.body) Xt s.abs, as.map (getT s), ts.map (getT s))
abbrev GoodM (q : Program) (loose : List PySem.Str) (K : Params → Frag) (ts : List Addr) (w : World) := (true, openGood q loose, (K w.params).map (fun x => some x.2), ts.map fun _ => some (tabObj #[]))
theorem left_cutsM {p q : Program} {loose : List PySem.Str} {Xt : Shared → Bool} {K : Params → Frag} {as : List Addr} {ek : ∀ P, as = (K P).map (·.1)} {ts : List Addr} {N M : Nat}
    (e : opening p = plainProg p.main.scope.names) (hN : Nat.ble 600 N = true) (f : ∀ s, fenceModules? p s = some s) (le : Nat.ble M N = true)
    (run : ∀ (w : World) (os : OsState), ∃ s r : SharedT, s.abs = ⟨boot_heap w.params, #[], boot_drawn, boot_toks, os⟩ ∧ Run p w (boot_heap w.params).objs.size (bootAnn w) M s (topStub p) r ∧ LooksM p q loose Xt as ts w r = GoodM q loose K ts w) :
    LeftO p q loose Xt (Hook.obs (kmHook K as ek ts)) (Hook.val (kmHook K as ek ts)) N true := fun w => by
  obtain ⟨⟨h, gs, d, k, os⟩, a, a2⟩ := Option.map_eq_some_iff.mp (boot_open e hN f w)
  simp only [Prod.mk.injEq] at a2
  obtain ⟨rfl, rfl, rfl, rfl⟩ := a2
  obtain ⟨s, r, hs, hr, hl⟩ := run w os
  simp only [Prod.mk.injEq] at hl
  obtain ⟨l1, l2, l3, l5⟩ := hl
  have l4 : Hook.obs (kmHook K as ek ts) r.abs = ((K w.params).map (fun x => some x.2), ts.map fun _ => some (tabObj #[])) := by
    rw [← l3, ← l5]
    exact Prod.ext (List.map_congr_left fun a _ => getT_eq r a).symm (List.map_congr_left fun a _ => getT_eq r a).symm
  have g : topRun treeTable p w (boot_heap w.params).objs.size (bootAnn w) N s.abs (topStub p) = some r.abs := by
    have g1 := topRun_mono (N - M) _ _ _ _ hr
    rwa [Nat.add_sub_cancel' (Nat.le_of_ble_eq_true le)] at g1
  rw [hs] at g
  have t : topFrom treeTable p w N ⟨boot_heap w.params, Array.mk [], boot_drawn, boot_toks, os⟩ = some r.abs := by
    simp only [topFrom]
    rw [boot_ns]
    show Option.bind (topRun treeTable p w (boot_heap w.params).objs.size (bootAnn w) N ⟨boot_heap w.params, #[], boot_drawn, boot_toks, os⟩ (topStub p)) _ = _
    rw [g]
    have l1b : (staticsOk (importedModules p.main.body) (boot_heap w.params) r.abs.heap && namesBound p r.abs.heap && gensDone r.abs && laidKept (boot_heap w.params) r.abs.heap) = true := l1
    show (match staticsOk (importedModules p.main.body) (boot_heap w.params) r.abs.heap && namesBound p r.abs.heap && gensDone r.abs && laidKept (boot_heap w.params) r.abs.heap with | true => some r.abs | false => none) = _
    rw [l1b]
  simp only [openEnds, a]
  show Option.map _ (topFrom treeTable p w N _) = _
  rw [t]
  refine congrArg some (Prod.ext ?_ l4)
  rw [← l2]
  exact seenQ_eq _ _ _ _ _
end MN
end
namespace MH
open PySem PySem.Spec PyProof.Rows L2
def topS (i : Nat) : Stmt := PySem.Challenge.pw_menuhouses_k47_look_texts_bent.main.body.getD i (.Pass ⟨0, 0, 0, 0⟩)
abbrev st_is_name : Stmt := topS 33
abbrev names_is_name : List Str := ["value", "sign"]
theorem sc_is_name : FnScope names_is_name ["value"] (defScope st_is_name) := ⟨rfl, rfl, rfl, by decide +kernel, rfl, by decide +kernel, by decide +kernel⟩
abbrev st_is_filled_tuple : Stmt := topS 34
abbrev names_is_filled_tuple : List Str := ["value"]
theorem sc_is_filled_tuple : FnScope names_is_filled_tuple ["value"] (defScope st_is_filled_tuple) := ⟨rfl, rfl, rfl, by decide +kernel, rfl, by decide +kernel, by decide +kernel⟩
abbrev st_first_wrong_of_names : Stmt := topS 36
abbrev names_first_wrong_of_names : List Str := ["names", "most", "at", "name"]
theorem sc_first_wrong_of_names : FnScope names_first_wrong_of_names ["names", "most"] (defScope st_first_wrong_of_names) := ⟨rfl, rfl, rfl, by decide +kernel, rfl, by decide +kernel, by decide +kernel⟩
abbrev st_check_names_of_menu : Stmt := topS 37
abbrev names_check_names_of_menu : List Str := ["menu", "wrong"]
theorem sc_check_names_of_menu : FnScope names_check_names_of_menu ["menu"] (defScope st_check_names_of_menu) := ⟨rfl, rfl, rfl, by decide +kernel, rfl, by decide +kernel, by decide +kernel⟩
abbrev st_are_marks : Stmt := topS 43
abbrev names_are_marks : List Str := ["marks", "many", "mark"]
theorem sc_are_marks : FnScope names_are_marks ["marks", "many"] (defScope st_are_marks) := ⟨rfl, rfl, rfl, by decide +kernel, rfl, by decide +kernel, by decide +kernel⟩
abbrev st_LookD_initD : Stmt := inClass (topS 44) 0
abbrev names_LookD_initD : List Str := ["self", "menu", "marks"]
theorem sc_LookD_initD : FnScope names_LookD_initD ["self", "menu", "marks"] (defScope st_LookD_initD) := ⟨rfl, rfl, rfl, by decide +kernel, rfl, by decide +kernel, by decide +kernel⟩
abbrev st_Look_read : Stmt := inClass (topS 44) 1
abbrev names_Look_read : List Str := ["cls", "text", "parts", "menu", "marks", "part"]
theorem sc_Look_read : FnScope names_Look_read ["cls", "text"] (defScope st_Look_read) := ⟨rfl, rfl, rfl, by decide +kernel, rfl, by decide +kernel, by decide +kernel⟩
abbrev st_Look_marks : Stmt := inClass (topS 44) 3
abbrev names_Look_marks : List Str := ["self"]
theorem sc_Look_marks : FnScope names_Look_marks ["self"] (defScope st_Look_marks) := ⟨rfl, rfl, rfl, by decide +kernel, rfl, by decide +kernel, by decide +kernel⟩
abbrev st_LookD_strD : Stmt := inClass (topS 44) 10
abbrev names_LookD_strD : List Str := ["self", "thing", "mark"]
theorem sc_LookD_strD : FnScope names_LookD_strD ["self"] (defScope st_LookD_strD) := ⟨rfl, rfl, rfl, by decide +kernel, rfl, by decide +kernel, by decide +kernel⟩
abbrev st_InvalidTextD_initD : Stmt := inClass (topS 3) 0
abbrev names_InvalidTextD_initD : List Str := ["self", "given"]
theorem sc_InvalidTextD_initD : FnScope names_InvalidTextD_initD ["self", "given"] (defScope st_InvalidTextD_initD) := ⟨rfl, rfl, rfl, by decide +kernel, rfl, by decide +kernel, by decide +kernel⟩
abbrev st_l_urn : Stmt := topS 46
abbrev names_l_urn : List Str := ["_law_cells", "_law_k", "_law_seed", "_law_some", "_law_cell", "_law_great"]
theorem sc_l_urn : FnScope names_l_urn ["_law_cells", "_law_k"] (defScope st_l_urn) := ⟨rfl, rfl, rfl, by decide +kernel, rfl, by decide +kernel, by decide +kernel⟩
abbrev st_l_draw : Stmt := topS 47
abbrev names_l_draw : List Str := ["_law_urn_here", "_law_many", "_law_mixed", "_law_digit"]
theorem sc_l_draw : FnScope names_l_draw ["_law_urn_here", "_law_many"] (defScope st_l_draw) := ⟨rfl, rfl, rfl, by decide +kernel, rfl, by decide +kernel, by decide +kernel⟩
abbrev st_l_name : Stmt := topS 48
abbrev names_l_name : List Str := ["_law_urn_here", "_law_signs", "_law_found", "_law_turn"]
theorem sc_l_name : FnScope names_l_name ["_law_urn_here"] (defScope st_l_name) := ⟨rfl, rfl, rfl, by decide +kernel, rfl, by decide +kernel, by decide +kernel⟩
abbrev st_l_names : Stmt := topS 49
abbrev names_l_names : List Str := ["_law_urn_here", "_law_many", "_law_found", "_law_k", "_law_name_here", "_law_spare", "_law_sign_here"]
theorem sc_l_names : FnScope names_l_names ["_law_urn_here", "_law_many"] (defScope st_l_names) := ⟨rfl, rfl, rfl, by decide +kernel, rfl, by decide +kernel, by decide +kernel⟩
abbrev st_l_marks : Stmt := topS 50
abbrev names_l_marks : List Str := ["_law_urn_here", "_law_many", "_law_signs", "_law_k"]
theorem sc_l_marks : FnScope names_l_marks ["_law_urn_here", "_law_many"] (defScope st_l_marks) := ⟨rfl, rfl, rfl, by decide +kernel, rfl, by decide +kernel, by decide +kernel⟩
abbrev st_l_text : Stmt := topS 51
abbrev names_l_text : List Str := ["_law_pair", "_law_k"]
theorem sc_l_text : FnScope names_l_text ["_law_pair"] (defScope st_l_text) := ⟨rfl, rfl, rfl, by decide +kernel, rfl, by decide +kernel, by decide +kernel⟩
abbrev st_l_sort : Stmt := topS 52
abbrev names_l_sort : List Str := ["_law_e", "_law_fits", "_law_at", "_law_bases", "_law_own", "_law_words"]
theorem sc_l_sort : FnScope names_l_sort ["_law_e"] (defScope st_l_sort) := ⟨rfl, rfl, rfl, by decide +kernel, rfl, by decide +kernel, by decide +kernel⟩
abbrev st_l_field : Stmt := topS 53
abbrev names_l_field : List Str := ["_law_word", "_law_e", "_law_indexed"]
theorem sc_l_field : FnScope names_l_field ["_law_word", "_law_e"] (defScope st_l_field) := ⟨rfl, rfl, rfl, by decide +kernel, rfl, by decide +kernel, by decide +kernel⟩
abbrev st_l_caught : Stmt := topS 54
abbrev names_l_caught : List Str := ["_law_act", "_law_told", "_law_e", "_law_word"]
theorem sc_l_caught : FnScope names_l_caught ["_law_act"] (defScope st_l_caught) := ⟨rfl, rfl, rfl, by decide +kernel, rfl, by decide +kernel, by decide +kernel⟩
abbrev st_l_is_name : Stmt := topS 55
abbrev names_l_is_name : List Str := ["_law_thing", "_law_letters", "_law_sign_here"]
theorem sc_l_is_name : FnScope names_l_is_name ["_law_thing"] (defScope st_l_is_name) := ⟨rfl, rfl, rfl, by decide +kernel, rfl, by decide +kernel, by decide +kernel⟩
abbrev st_l_wrong_names : Stmt := topS 56
abbrev names_l_wrong_names : List Str := ["_law_menu", "_law_k"]
theorem sc_l_wrong_names : FnScope names_l_wrong_names ["_law_menu"] (defScope st_l_wrong_names) := ⟨rfl, rfl, rfl, by decide +kernel, rfl, by decide +kernel, by decide +kernel⟩
abbrev st_l_read : Stmt := topS 57
abbrev names_l_read : List Str := ["_law_said", "_law_words", "_law_menu", "_law_signs", "_law_word"]
theorem sc_l_read : FnScope names_l_read ["_law_said"] (defScope st_l_read) := ⟨rfl, rfl, rfl, by decide +kernel, rfl, by decide +kernel, by decide +kernel⟩
abbrev st_l_sign : Stmt := topS 58
abbrev names_l_sign : List Str := ["_law_urn_here", "_law_signs"]
theorem sc_l_sign : FnScope names_l_sign ["_law_urn_here"] (defScope st_l_sign) := ⟨rfl, rfl, rfl, by decide +kernel, rfl, by decide +kernel, by decide +kernel⟩
abbrev st_l_turned : Stmt := topS 59
abbrev names_l_turned : List Str := ["_law_urn_here", "_law_said", "_law_way", "_law_at", "_law_sign_here", "_law_words", "_law_spot", "_law_pair", "_law_last"]
theorem sc_l_turned : FnScope names_l_turned ["_law_urn_here", "_law_said"] (defScope st_l_turned) := ⟨rfl, rfl, rfl, by decide +kernel, rfl, by decide +kernel, by decide +kernel⟩
abbrev st_l_read_right : Stmt := topS 60
abbrev names_l_read_right : List Str := ["_law_said", "_law_due", "_law_shown"]
theorem sc_l_read_right : FnScope names_l_read_right ["_law_said"] (defScope st_l_read_right) := ⟨rfl, rfl, rfl, by decide +kernel, rfl, by decide +kernel, by decide +kernel⟩
abbrev st_l_right : Stmt := topS 61
abbrev names_l_right : List Str := ["_law_urn_here", "_law_many", "_law_menu", "_law_whole", "_law_said", "_law_texts", "_law_turn", "_law_text_here"]
theorem sc_l_right : FnScope names_l_right ["_law_urn_here"] (defScope st_l_right) := ⟨rfl, rfl, rfl, by decide +kernel, rfl, by decide +kernel, by decide +kernel⟩
abbrev st_law : Stmt := topS 62
abbrev names_law : List Str := ["_law_cells", "_law_k"]
theorem sc_law : FnScope names_law ["_law_cells"] (defScope st_law) := ⟨rfl, rfl, rfl, by decide +kernel, rfl, by decide +kernel, by decide +kernel⟩
structure Tx (K : PySem.W.Frag) (mg : Str → Option Value) where
  E_WrongValue : Addr
  g_WrongValue : mg "WrongValue" = some (.ref E_WrongValue)
  E_InvalidText : Addr
  g_InvalidText : mg "InvalidText" = some (.ref E_InvalidText)
  E_InvalidMarks : Addr
  g_InvalidMarks : mg "InvalidMarks" = some (.ref E_InvalidMarks)
  E_InvalidIndex : Addr
  g_InvalidIndex : mg "InvalidIndex" = some (.ref E_InvalidIndex)
  E_InvalidWord : Addr
  g_InvalidWord : mg "InvalidWord" = some (.ref E_InvalidWord)
  E_NotARanking : Addr
  g_NotARanking : mg "NotARanking" = some (.ref E_NotARanking)
  E_NotAHouse : Addr
  g_NotAHouse : mg "NotAHouse" = some (.ref E_NotAHouse)
  E_NotALook : Addr
  g_NotALook : mg "NotALook" = some (.ref E_NotALook)
  E_NotLooks : Addr
  g_NotLooks : mg "NotLooks" = some (.ref E_NotLooks)
  E_OtherThings : Addr
  g_OtherThings : mg "OtherThings" = some (.ref E_OtherThings)
  E_InvalidRow : Addr
  g_InvalidRow : mg "InvalidRow" = some (.ref E_InvalidRow)
  E_InvalidMenu : Addr
  g_InvalidMenu : mg "InvalidMenu" = some (.ref E_InvalidMenu)
  E_InvalidThings : Addr
  g_InvalidThings : mg "InvalidThings" = some (.ref E_InvalidThings)
  E_InvalidTaken : Addr
  g_InvalidTaken : mg "InvalidTaken" = some (.ref E_InvalidTaken)
  E_InvalidRankings : Addr
  g_InvalidRankings : mg "InvalidRankings" = some (.ref E_InvalidRankings)
  E_InvalidLooks : Addr
  g_InvalidLooks : mg "InvalidLooks" = some (.ref E_InvalidLooks)
  E_InvalidTable : Addr
  g_InvalidTable : mg "InvalidTable" = some (.ref E_InvalidTable)
  E_WrongName : Addr
  g_WrongName : mg "WrongName" = some (.ref E_WrongName)
  E_UnknownThing : Addr
  g_UnknownThing : mg "UnknownThing" = some (.ref E_UnknownThing)
  E_NoAnswer : Addr
  g_NoAnswer : mg "NoAnswer" = some (.ref E_NoAnswer)
  E_TooMany : Addr
  g_TooMany : mg "TooMany" = some (.ref E_TooMany)
  E_NoHouse : Addr
  g_NoHouse : mg "NoHouse" = some (.ref E_NoHouse)
  E_NoTable : Addr
  g_NoTable : mg "NoTable" = some (.ref E_NoTable)
  E_Clash : Addr
  g_Clash : mg "Clash" = some (.ref E_Clash)
  E_Broken : Addr
  g_Broken : mg "Broken" = some (.ref E_Broken)
  E_NothingToUndo : Addr
  g_NothingToUndo : mg "NothingToUndo" = some (.ref E_NothingToUndo)
  ox_InvalidText : OexC K E_InvalidText
  ek_InvalidText : ExcK K E_InvalidText
  no_InvalidText_given : PySem.W.findIn K (.ref E_InvalidText) "given" = some none
  em_InvalidText : PySem.W.exmAny K (.ref E_InvalidText) [.ref E_WrongValue, .ref E_WrongName, .ref E_NoAnswer] = some true
  kf_InvalidText_WrongValue : PySem.W.kitOne K (.ref E_InvalidText) (.ref E_WrongValue) = some true
  kf_InvalidText_InvalidText : PySem.W.kitOne K (.ref E_InvalidText) (.ref E_InvalidText) = some true
  kf_InvalidText_InvalidMarks : PySem.W.kitOne K (.ref E_InvalidText) (.ref E_InvalidMarks) = some false
  kf_InvalidText_InvalidIndex : PySem.W.kitOne K (.ref E_InvalidText) (.ref E_InvalidIndex) = some false
  kf_InvalidText_InvalidWord : PySem.W.kitOne K (.ref E_InvalidText) (.ref E_InvalidWord) = some false
  kf_InvalidText_NotARanking : PySem.W.kitOne K (.ref E_InvalidText) (.ref E_NotARanking) = some false
  kf_InvalidText_NotAHouse : PySem.W.kitOne K (.ref E_InvalidText) (.ref E_NotAHouse) = some false
  kf_InvalidText_NotALook : PySem.W.kitOne K (.ref E_InvalidText) (.ref E_NotALook) = some false
  kf_InvalidText_NotLooks : PySem.W.kitOne K (.ref E_InvalidText) (.ref E_NotLooks) = some false
  kf_InvalidText_OtherThings : PySem.W.kitOne K (.ref E_InvalidText) (.ref E_OtherThings) = some false
  kf_InvalidText_InvalidRow : PySem.W.kitOne K (.ref E_InvalidText) (.ref E_InvalidRow) = some false
  kf_InvalidText_InvalidMenu : PySem.W.kitOne K (.ref E_InvalidText) (.ref E_InvalidMenu) = some false
  kf_InvalidText_InvalidThings : PySem.W.kitOne K (.ref E_InvalidText) (.ref E_InvalidThings) = some false
  kf_InvalidText_InvalidTaken : PySem.W.kitOne K (.ref E_InvalidText) (.ref E_InvalidTaken) = some false
  kf_InvalidText_InvalidRankings : PySem.W.kitOne K (.ref E_InvalidText) (.ref E_InvalidRankings) = some false
  kf_InvalidText_InvalidLooks : PySem.W.kitOne K (.ref E_InvalidText) (.ref E_InvalidLooks) = some false
  kf_InvalidText_InvalidTable : PySem.W.kitOne K (.ref E_InvalidText) (.ref E_InvalidTable) = some false
  kf_InvalidText_WrongName : PySem.W.kitOne K (.ref E_InvalidText) (.ref E_WrongName) = some false
  kf_InvalidText_UnknownThing : PySem.W.kitOne K (.ref E_InvalidText) (.ref E_UnknownThing) = some false
  kf_InvalidText_NoAnswer : PySem.W.kitOne K (.ref E_InvalidText) (.ref E_NoAnswer) = some false
  kf_InvalidText_TooMany : PySem.W.kitOne K (.ref E_InvalidText) (.ref E_TooMany) = some false
  kf_InvalidText_NoHouse : PySem.W.kitOne K (.ref E_InvalidText) (.ref E_NoHouse) = some false
  kf_InvalidText_NoTable : PySem.W.kitOne K (.ref E_InvalidText) (.ref E_NoTable) = some false
  kf_InvalidText_Clash : PySem.W.kitOne K (.ref E_InvalidText) (.ref E_Clash) = some false
  kf_InvalidText_Broken : PySem.W.kitOne K (.ref E_InvalidText) (.ref E_Broken) = some false
  kf_InvalidText_NothingToUndo : PySem.W.kitOne K (.ref E_InvalidText) (.ref E_NothingToUndo) = some false
  kf_InvalidText_ValueError : PySem.W.kitOne K (.ref E_InvalidText) (.type "ValueError") = some true
  kf_InvalidText_LookupError : PySem.W.kitOne K (.ref E_InvalidText) (.type "LookupError") = some false
  kf_InvalidText_ArithmeticError : PySem.W.kitOne K (.ref E_InvalidText) (.type "ArithmeticError") = some false
  C : Addr
  cl : Cls K C
  g_Look : mg "Look" = some (.ref C)
  ne : PySem.W.findIn K (.ref C) "__ne__" = some (some (.builtin "object.__ne__"))
  ob : PySem.W.mroIn K C (.type "object") = some true
  ty : ∀ {H : Hp} {a dx : Addr} {fs : List (Str × V)}, H a = some (.ins C dx fs) → TyX K H (.ref a) (.ref C)
  nobool : PySem.W.findIn K (.ref C) "__bool__" = some none
  fm : PySem.W.findIn K (.ref C) "__format__" = some (some (.builtin "object.__format__"))
  crd : ClX.CRead K C (.type "type")
  cty : PySem.W.typeIn K (.ref C) = some (.type "type")
  no_menu : NoAttr K C "menu"
  no__marks : NoAttr K C "_marks"
  a_is_name : Addr
  fd_is_name : FuncData
  F_is_name : Fun K "is_name" "is_name" st_is_name a_is_name fd_is_name
  b_is_name : Binds K fd_is_name ["value"] []
  g_is_name : mg "is_name" = some (.ref a_is_name)
  a_is_filled_tuple : Addr
  fd_is_filled_tuple : FuncData
  F_is_filled_tuple : Fun K "is_filled_tuple" "is_filled_tuple" st_is_filled_tuple a_is_filled_tuple fd_is_filled_tuple
  b_is_filled_tuple : Binds K fd_is_filled_tuple ["value"] []
  g_is_filled_tuple : mg "is_filled_tuple" = some (.ref a_is_filled_tuple)
  a_first_wrong_of_names : Addr
  fd_first_wrong_of_names : FuncData
  F_first_wrong_of_names : FunV K "first_wrong_of_names" "first_wrong_of_names" st_first_wrong_of_names [V.int 10] a_first_wrong_of_names fd_first_wrong_of_names
  b_first_wrong_of_names : Binds K fd_first_wrong_of_names ["names", "most"] []
  bd_first_wrong_of_names : ∃ ds, Vals [V.int 10] ds ∧ Binds K fd_first_wrong_of_names ["names", "most"] ds
  g_first_wrong_of_names : mg "first_wrong_of_names" = some (.ref a_first_wrong_of_names)
  a_check_names_of_menu : Addr
  fd_check_names_of_menu : FuncData
  F_check_names_of_menu : Fun K "check_names_of_menu" "check_names_of_menu" st_check_names_of_menu a_check_names_of_menu fd_check_names_of_menu
  b_check_names_of_menu : Binds K fd_check_names_of_menu ["menu"] []
  g_check_names_of_menu : mg "check_names_of_menu" = some (.ref a_check_names_of_menu)
  a_are_marks : Addr
  fd_are_marks : FuncData
  F_are_marks : Fun K "are_marks" "are_marks" st_are_marks a_are_marks fd_are_marks
  b_are_marks : Binds K fd_are_marks ["marks", "many"] []
  g_are_marks : mg "are_marks" = some (.ref a_are_marks)
  a_LookD_initD : Addr
  fd_LookD_initD : FuncData
  F_LookD_initD : Fun K "__init__" "Look.__init__" st_LookD_initD a_LookD_initD fd_LookD_initD
  b_LookD_initD : Binds K fd_LookD_initD ["self", "menu", "marks"] []
  mkc : Mk K C a_LookD_initD
  q_Look_read : Addr
  a_Look_read : Addr
  fd_Look_read : FuncData
  F_Look_read : Fun K "read" "Look.read" st_Look_read a_Look_read fd_Look_read
  b_Look_read : Binds K fd_Look_read ["cls", "text"] []
  cm_Look_read : ClX.CMet K C (.type "type") "read" q_Look_read a_Look_read
  q_Look_marks : Addr
  a_Look_marks : Addr
  fd_Look_marks : FuncData
  F_Look_marks : Fun K "marks" "Look.marks" st_Look_marks a_Look_marks fd_Look_marks
  b_Look_marks : Binds K fd_Look_marks ["self"] []
  p_marks : PropOf K C "marks" q_Look_marks a_Look_marks
  a_LookD_strD : Addr
  fd_LookD_strD : FuncData
  F_LookD_strD : Fun K "__str__" "Look.__str__" st_LookD_strD a_LookD_strD fd_LookD_strD
  b_LookD_strD : Binds K fd_LookD_strD ["self"] []
  m_LookD_strD : Meth K C "__str__" a_LookD_strD
  a_InvalidTextD_initD : Addr
  fd_InvalidTextD_initD : FuncData
  F_InvalidTextD_initD : Fun K "__init__" "InvalidText.__init__" st_InvalidTextD_initD a_InvalidTextD_initD fd_InvalidTextD_initD
  b_InvalidTextD_initD : Binds K fd_InvalidTextD_initD ["self", "given"] []
  ic_InvalidText : PySem.W.findIn K (.ref E_InvalidText) "__init__" = some (some (.ref a_InvalidTextD_initD))
  ti_InvalidText : PySem.W.typeIn K (.ref a_InvalidTextD_initD) = some (.type "function")
  a_l_urn : Addr
  fd_l_urn : FuncData
  F_l_urn : Fun K "_law_urn" "_law_urn" st_l_urn a_l_urn fd_l_urn
  b_l_urn : Binds K fd_l_urn ["_law_cells", "_law_k"] []
  g_l_urn : mg "_law_urn" = some (.ref a_l_urn)
  a_l_draw : Addr
  fd_l_draw : FuncData
  F_l_draw : Fun K "_law_draw" "_law_draw" st_l_draw a_l_draw fd_l_draw
  b_l_draw : Binds K fd_l_draw ["_law_urn_here", "_law_many"] []
  g_l_draw : mg "_law_draw" = some (.ref a_l_draw)
  a_l_name : Addr
  fd_l_name : FuncData
  F_l_name : Fun K "_law_name" "_law_name" st_l_name a_l_name fd_l_name
  b_l_name : Binds K fd_l_name ["_law_urn_here"] []
  g_l_name : mg "_law_name" = some (.ref a_l_name)
  a_l_names : Addr
  fd_l_names : FuncData
  F_l_names : Fun K "_law_names" "_law_names" st_l_names a_l_names fd_l_names
  b_l_names : Binds K fd_l_names ["_law_urn_here", "_law_many"] []
  g_l_names : mg "_law_names" = some (.ref a_l_names)
  a_l_marks : Addr
  fd_l_marks : FuncData
  F_l_marks : Fun K "_law_marks" "_law_marks" st_l_marks a_l_marks fd_l_marks
  b_l_marks : Binds K fd_l_marks ["_law_urn_here", "_law_many"] []
  g_l_marks : mg "_law_marks" = some (.ref a_l_marks)
  a_l_text : Addr
  fd_l_text : FuncData
  F_l_text : Fun K "_law_text" "_law_text" st_l_text a_l_text fd_l_text
  b_l_text : Binds K fd_l_text ["_law_pair"] []
  g_l_text : mg "_law_text" = some (.ref a_l_text)
  a_l_sort : Addr
  fd_l_sort : FuncData
  F_l_sort : Fun K "_law_sort" "_law_sort" st_l_sort a_l_sort fd_l_sort
  b_l_sort : Binds K fd_l_sort ["_law_e"] []
  g_l_sort : mg "_law_sort" = some (.ref a_l_sort)
  a_l_field : Addr
  fd_l_field : FuncData
  F_l_field : Fun K "_law_field" "_law_field" st_l_field a_l_field fd_l_field
  b_l_field : Binds K fd_l_field ["_law_word", "_law_e"] []
  g_l_field : mg "_law_field" = some (.ref a_l_field)
  a_l_caught : Addr
  fd_l_caught : FuncData
  F_l_caught : Fun K "_law_caught" "_law_caught" st_l_caught a_l_caught fd_l_caught
  b_l_caught : Binds K fd_l_caught ["_law_act"] []
  g_l_caught : mg "_law_caught" = some (.ref a_l_caught)
  a_l_is_name : Addr
  fd_l_is_name : FuncData
  F_l_is_name : Fun K "_law_is_name" "_law_is_name" st_l_is_name a_l_is_name fd_l_is_name
  b_l_is_name : Binds K fd_l_is_name ["_law_thing"] []
  g_l_is_name : mg "_law_is_name" = some (.ref a_l_is_name)
  a_l_wrong_names : Addr
  fd_l_wrong_names : FuncData
  F_l_wrong_names : Fun K "_law_wrong_names" "_law_wrong_names" st_l_wrong_names a_l_wrong_names fd_l_wrong_names
  b_l_wrong_names : Binds K fd_l_wrong_names ["_law_menu"] []
  g_l_wrong_names : mg "_law_wrong_names" = some (.ref a_l_wrong_names)
  a_l_read : Addr
  fd_l_read : FuncData
  F_l_read : Fun K "_law_read" "_law_read" st_l_read a_l_read fd_l_read
  b_l_read : Binds K fd_l_read ["_law_said"] []
  g_l_read : mg "_law_read" = some (.ref a_l_read)
  a_l_sign : Addr
  fd_l_sign : FuncData
  F_l_sign : Fun K "_law_sign" "_law_sign" st_l_sign a_l_sign fd_l_sign
  b_l_sign : Binds K fd_l_sign ["_law_urn_here"] []
  g_l_sign : mg "_law_sign" = some (.ref a_l_sign)
  a_l_turned : Addr
  fd_l_turned : FuncData
  F_l_turned : Fun K "_law_turned" "_law_turned" st_l_turned a_l_turned fd_l_turned
  b_l_turned : Binds K fd_l_turned ["_law_urn_here", "_law_said"] []
  g_l_turned : mg "_law_turned" = some (.ref a_l_turned)
  a_l_read_right : Addr
  fd_l_read_right : FuncData
  F_l_read_right : Fun K "_law_read_right" "_law_read_right" st_l_read_right a_l_read_right fd_l_read_right
  b_l_read_right : Binds K fd_l_read_right ["_law_said"] []
  c_l_read_right : Addr
  P_l_read_right : Addr
  M_l_read_right : MkFn K "_law_read_right" st_l_read_right a_l_read_right c_l_read_right ["_law_said"]
  th_l_read_right : PySem.W.codeHdIn K c_l_read_right P_l_read_right = true
  tn_l_read_right : K.lookup P_l_read_right = none
  g_l_read_right : mg "_law_read_right" = some (.ref a_l_read_right)
  a_l_right : Addr
  fd_l_right : FuncData
  F_l_right : Fun K "_law_right" "_law_right" st_l_right a_l_right fd_l_right
  b_l_right : Binds K fd_l_right ["_law_urn_here"] []
  g_l_right : mg "_law_right" = some (.ref a_l_right)
  a_law : Addr
  fd_law : FuncData
  F_law : Fun K "law" "law" st_law a_law fd_law
  b_law : Binds K fd_law ["_law_cells"] []
  g_law : mg "law" = some (.ref a_law)
  g_MOST_THINGS : ∃ t : Tok, mg "MOST_THINGS" = some (.int 10 t)
  g_LETTERS : ∃ t : Tok, mg "LETTERS" = some (.str "abcdefghijklmnopqrstuvwxyz" t)
  g_DIGITS : ∃ t : Tok, mg "DIGITS" = some (.str "0123456789" t)
  g_LONGEST_NAME : ∃ t : Tok, mg "LONGEST_NAME" = some (.int 8 t)
  g_MARKS : ∃ t : Tok, mg "MARKS" = some (.str "+-?" t)
  n_ValueError : mg "ValueError" = none
  n_LookupError : mg "LookupError" = none
  n_ArithmeticError : mg "ArithmeticError" = none
  n_len : mg "len" = none
  n_isinstance : mg "isinstance" = none
  n_all : mg "all" = none
  n_any : mg "any" = none
  n_enumerate : mg "enumerate" = none
  n_tuple : mg "tuple" = none
  n_sorted : mg "sorted" = none
  n_abs : mg "abs" = none
  n_int : mg "int" = none
  n_divmod : mg "divmod" = none
  n_range : mg "range" = none
  n_list : mg "list" = none
  n_repr : mg "repr" = none
  n_max : mg "max" = none
  n_min : mg "min" = none
  n_str : mg "str" = none
  n_bool : mg "bool" = none
  n_zip : mg "zip" = none
theorem tx_of {K : PySem.W.Frag} {h : Heap} {mg : Str → Option Value} {fa : Addr} (X : K.In h) (G : h.Ns mainGlobals mg) (hfa : mg "law" = some (.ref fa))
    {E_WrongValue : Addr}
    {E_InvalidText : Addr}
    {E_InvalidMarks : Addr}
    {E_InvalidIndex : Addr}
    {E_InvalidWord : Addr}
    {E_NotARanking : Addr}
    {E_NotAHouse : Addr}
    {E_NotALook : Addr}
    {E_NotLooks : Addr}
    {E_OtherThings : Addr}
    {E_InvalidRow : Addr}
    {E_InvalidMenu : Addr}
    {E_InvalidThings : Addr}
    {E_InvalidTaken : Addr}
    {E_InvalidRankings : Addr}
    {E_InvalidLooks : Addr}
    {E_InvalidTable : Addr}
    {E_WrongName : Addr}
    {E_UnknownThing : Addr}
    {E_NoAnswer : Addr}
    {E_TooMany : Addr}
    {E_NoHouse : Addr}
    {E_NoTable : Addr}
    {E_Clash : Addr}
    {E_Broken : Addr}
    {E_NothingToUndo : Addr}
    {N_InvalidText : Addr} {nm_InvalidText q_InvalidText : Str} {bs_InvalidText bm_InvalidText sub_InvalidText : List Value} {sn_InvalidText : List Str} {ab_InvalidText : Bool} {col_InvalidText : Option Bool} {dd_InvalidText : Option Addr} {k0_InvalidText k1_InvalidText k2_InvalidText k3_InvalidText k5_InvalidText : Option Value}
    {C_Look : Addr}
    {f_is_name : Addr} {od_is_name an_is_name : Option Addr} {sl_is_name : Array (Option Value)} {oc_is_name kV_is_name dc_is_name pm_is_name cd_is_name ct_is_name : Value}
    {f_is_filled_tuple : Addr} {od_is_filled_tuple an_is_filled_tuple : Option Addr} {sl_is_filled_tuple : Array (Option Value)} {oc_is_filled_tuple kV_is_filled_tuple dc_is_filled_tuple pm_is_filled_tuple cd_is_filled_tuple ct_is_filled_tuple : Value}
    {f_first_wrong_of_names : Addr} {od_first_wrong_of_names an_first_wrong_of_names : Option Addr} {sl_first_wrong_of_names : Array (Option Value)} {oc_first_wrong_of_names kV_first_wrong_of_names dc_first_wrong_of_names pm_first_wrong_of_names cd_first_wrong_of_names ct_first_wrong_of_names : Value}
    {dT_first_wrong_of_names : Addr} {dtc_first_wrong_of_names : Value} {dtd_first_wrong_of_names : Option Addr} {dts_first_wrong_of_names : Array (Option Value)} {dtn_first_wrong_of_names : Nat} {dk0_first_wrong_of_names : Tok}
    {f_check_names_of_menu : Addr} {od_check_names_of_menu an_check_names_of_menu : Option Addr} {sl_check_names_of_menu : Array (Option Value)} {oc_check_names_of_menu kV_check_names_of_menu dc_check_names_of_menu pm_check_names_of_menu cd_check_names_of_menu ct_check_names_of_menu : Value}
    {f_are_marks : Addr} {od_are_marks an_are_marks : Option Addr} {sl_are_marks : Array (Option Value)} {oc_are_marks kV_are_marks dc_are_marks pm_are_marks cd_are_marks ct_are_marks : Value}
    {f_LookD_initD : Addr} {od_LookD_initD an_LookD_initD : Option Addr} {sl_LookD_initD : Array (Option Value)} {oc_LookD_initD kV_LookD_initD dc_LookD_initD pm_LookD_initD cd_LookD_initD ct_LookD_initD : Value}
    {f_Look_read : Addr} {od_Look_read an_Look_read : Option Addr} {sl_Look_read : Array (Option Value)} {oc_Look_read kV_Look_read dc_Look_read pm_Look_read cd_Look_read ct_Look_read : Value}
    {q_Look_read : Addr} {rest_Look_read : List Value}
    {f_Look_marks : Addr} {od_Look_marks an_Look_marks : Option Addr} {sl_Look_marks : Array (Option Value)} {oc_Look_marks kV_Look_marks dc_Look_marks pm_Look_marks cd_Look_marks ct_Look_marks : Value}
    {q_Look_marks : Addr} {rest_Look_marks : List Value}
    {f_LookD_strD : Addr} {od_LookD_strD an_LookD_strD : Option Addr} {sl_LookD_strD : Array (Option Value)} {oc_LookD_strD kV_LookD_strD dc_LookD_strD pm_LookD_strD cd_LookD_strD ct_LookD_strD : Value}
    {f_InvalidTextD_initD : Addr} {od_InvalidTextD_initD an_InvalidTextD_initD : Option Addr} {sl_InvalidTextD_initD : Array (Option Value)} {oc_InvalidTextD_initD kV_InvalidTextD_initD dc_InvalidTextD_initD pm_InvalidTextD_initD cd_InvalidTextD_initD ct_InvalidTextD_initD : Value}
    {f_l_urn : Addr} {od_l_urn an_l_urn : Option Addr} {sl_l_urn : Array (Option Value)} {oc_l_urn kV_l_urn dc_l_urn pm_l_urn cd_l_urn ct_l_urn : Value}
    {f_l_draw : Addr} {od_l_draw an_l_draw : Option Addr} {sl_l_draw : Array (Option Value)} {oc_l_draw kV_l_draw dc_l_draw pm_l_draw cd_l_draw ct_l_draw : Value}
    {f_l_name : Addr} {od_l_name an_l_name : Option Addr} {sl_l_name : Array (Option Value)} {oc_l_name kV_l_name dc_l_name pm_l_name cd_l_name ct_l_name : Value}
    {f_l_names : Addr} {od_l_names an_l_names : Option Addr} {sl_l_names : Array (Option Value)} {oc_l_names kV_l_names dc_l_names pm_l_names cd_l_names ct_l_names : Value}
    {f_l_marks : Addr} {od_l_marks an_l_marks : Option Addr} {sl_l_marks : Array (Option Value)} {oc_l_marks kV_l_marks dc_l_marks pm_l_marks cd_l_marks ct_l_marks : Value}
    {f_l_text : Addr} {od_l_text an_l_text : Option Addr} {sl_l_text : Array (Option Value)} {oc_l_text kV_l_text dc_l_text pm_l_text cd_l_text ct_l_text : Value}
    {f_l_sort : Addr} {od_l_sort an_l_sort : Option Addr} {sl_l_sort : Array (Option Value)} {oc_l_sort kV_l_sort dc_l_sort pm_l_sort cd_l_sort ct_l_sort : Value}
    {f_l_field : Addr} {od_l_field an_l_field : Option Addr} {sl_l_field : Array (Option Value)} {oc_l_field kV_l_field dc_l_field pm_l_field cd_l_field ct_l_field : Value}
    {f_l_caught : Addr} {od_l_caught an_l_caught : Option Addr} {sl_l_caught : Array (Option Value)} {oc_l_caught kV_l_caught dc_l_caught pm_l_caught cd_l_caught ct_l_caught : Value}
    {f_l_is_name : Addr} {od_l_is_name an_l_is_name : Option Addr} {sl_l_is_name : Array (Option Value)} {oc_l_is_name kV_l_is_name dc_l_is_name pm_l_is_name cd_l_is_name ct_l_is_name : Value}
    {f_l_wrong_names : Addr} {od_l_wrong_names an_l_wrong_names : Option Addr} {sl_l_wrong_names : Array (Option Value)} {oc_l_wrong_names kV_l_wrong_names dc_l_wrong_names pm_l_wrong_names cd_l_wrong_names ct_l_wrong_names : Value}
    {f_l_read : Addr} {od_l_read an_l_read : Option Addr} {sl_l_read : Array (Option Value)} {oc_l_read kV_l_read dc_l_read pm_l_read cd_l_read ct_l_read : Value}
    {f_l_sign : Addr} {od_l_sign an_l_sign : Option Addr} {sl_l_sign : Array (Option Value)} {oc_l_sign kV_l_sign dc_l_sign pm_l_sign cd_l_sign ct_l_sign : Value}
    {f_l_turned : Addr} {od_l_turned an_l_turned : Option Addr} {sl_l_turned : Array (Option Value)} {oc_l_turned kV_l_turned dc_l_turned pm_l_turned cd_l_turned ct_l_turned : Value}
    {f_l_read_right : Addr} {od_l_read_right an_l_read_right : Option Addr} {sl_l_read_right : Array (Option Value)} {oc_l_read_right kV_l_read_right dc_l_read_right pm_l_read_right ct_l_read_right : Value}
    {cc_l_read_right pp_l_read_right : Addr} {cod_l_read_right : Option Addr} {cvs_l_read_right : Array Value} {csl_l_read_right : Array (Option Value)}
    {f_l_right : Addr} {od_l_right an_l_right : Option Addr} {sl_l_right : Array (Option Value)} {oc_l_right kV_l_right dc_l_right pm_l_right cd_l_right ct_l_right : Value}
    {f_law : Addr} {od_law an_law : Option Addr} {sl_law : Array (Option Value)} {oc_law kV_law dc_law pm_law cd_law ct_law : Value}
    {ts : List Addr}
    {t_MOST_THINGS : Tok}
    {t_LETTERS : Tok}
    {t_DIGITS : Tok}
    {t_LONGEST_NAME : Tok}
    {t_MARKS : Tok}
    (eg_WrongValue : PySem.W.nsIn K mainGlobals "WrongValue" = some (some (.ref E_WrongValue)))
    (eg_InvalidText : PySem.W.nsIn K mainGlobals "InvalidText" = some (some (.ref E_InvalidText)))
    (eg_InvalidMarks : PySem.W.nsIn K mainGlobals "InvalidMarks" = some (some (.ref E_InvalidMarks)))
    (eg_InvalidIndex : PySem.W.nsIn K mainGlobals "InvalidIndex" = some (some (.ref E_InvalidIndex)))
    (eg_InvalidWord : PySem.W.nsIn K mainGlobals "InvalidWord" = some (some (.ref E_InvalidWord)))
    (eg_NotARanking : PySem.W.nsIn K mainGlobals "NotARanking" = some (some (.ref E_NotARanking)))
    (eg_NotAHouse : PySem.W.nsIn K mainGlobals "NotAHouse" = some (some (.ref E_NotAHouse)))
    (eg_NotALook : PySem.W.nsIn K mainGlobals "NotALook" = some (some (.ref E_NotALook)))
    (eg_NotLooks : PySem.W.nsIn K mainGlobals "NotLooks" = some (some (.ref E_NotLooks)))
    (eg_OtherThings : PySem.W.nsIn K mainGlobals "OtherThings" = some (some (.ref E_OtherThings)))
    (eg_InvalidRow : PySem.W.nsIn K mainGlobals "InvalidRow" = some (some (.ref E_InvalidRow)))
    (eg_InvalidMenu : PySem.W.nsIn K mainGlobals "InvalidMenu" = some (some (.ref E_InvalidMenu)))
    (eg_InvalidThings : PySem.W.nsIn K mainGlobals "InvalidThings" = some (some (.ref E_InvalidThings)))
    (eg_InvalidTaken : PySem.W.nsIn K mainGlobals "InvalidTaken" = some (some (.ref E_InvalidTaken)))
    (eg_InvalidRankings : PySem.W.nsIn K mainGlobals "InvalidRankings" = some (some (.ref E_InvalidRankings)))
    (eg_InvalidLooks : PySem.W.nsIn K mainGlobals "InvalidLooks" = some (some (.ref E_InvalidLooks)))
    (eg_InvalidTable : PySem.W.nsIn K mainGlobals "InvalidTable" = some (some (.ref E_InvalidTable)))
    (eg_WrongName : PySem.W.nsIn K mainGlobals "WrongName" = some (some (.ref E_WrongName)))
    (eg_UnknownThing : PySem.W.nsIn K mainGlobals "UnknownThing" = some (some (.ref E_UnknownThing)))
    (eg_NoAnswer : PySem.W.nsIn K mainGlobals "NoAnswer" = some (some (.ref E_NoAnswer)))
    (eg_TooMany : PySem.W.nsIn K mainGlobals "TooMany" = some (some (.ref E_TooMany)))
    (eg_NoHouse : PySem.W.nsIn K mainGlobals "NoHouse" = some (some (.ref E_NoHouse)))
    (eg_NoTable : PySem.W.nsIn K mainGlobals "NoTable" = some (some (.ref E_NoTable)))
    (eg_Clash : PySem.W.nsIn K mainGlobals "Clash" = some (some (.ref E_Clash)))
    (eg_Broken : PySem.W.nsIn K mainGlobals "Broken" = some (some (.ref E_Broken)))
    (eg_NothingToUndo : PySem.W.nsIn K mainGlobals "NothingToUndo" = some (some (.ref E_NothingToUndo)))
    (xl_InvalidText : K.lookup E_InvalidText = some (excClassObj nm_InvalidText q_InvalidText E_InvalidText N_InvalidText bs_InvalidText bm_InvalidText true sn_InvalidText sub_InvalidText ab_InvalidText col_InvalidText dd_InvalidText k0_InvalidText k1_InvalidText k2_InvalidText k3_InvalidText k5_InvalidText "ValueError.__new__"))
    (xr_InvalidText : PySem.HandSPX.refsVE bm_InvalidText = true)
    (xs_InvalidText : PySem.W.findIn K (.ref E_InvalidText) "__setattr__" = some (some (.builtin "object.__setattr__")))
    (xx_InvalidText : PySem.W.subIn K (.ref E_InvalidText) (.type "BaseException") = some true)
    (xt_InvalidText : PySem.W.typeIn K (.ref E_InvalidText) = some (.type "type"))
    (xk_InvalidText : PySem.W.keepIn K (.ref E_InvalidText) = true)
    (xn_InvalidText : PySem.W.findIn K (.ref E_InvalidText) "given" = some none)
    (xga_InvalidText : PySem.W.findIn K (.ref E_InvalidText) "__getattribute__" = some (some (.builtin "BaseException.__getattribute__")))
    (xgg_InvalidText : PySem.W.findIn K (.ref E_InvalidText) "__getattr__" = some none)
    (xhd_InvalidText : PySem.W.hasDictIn K E_InvalidText = true)
    (xcl_InvalidText : (PySem.W.clsIn K E_InvalidText).isSome = true)
    (xca_InvalidText : PySem.W.findIn K (.ref E_InvalidText) "__class__" = some (some (.builtin "object.__class__")))
    (xcb_InvalidText : PySem.W.specialIn K (.builtin "object.__class__") "__get__" = some (some (.builtin "getset_descriptor.__get__")))
    (xcc_InvalidText : PySem.W.takesIn K (.builtin "object.__class__") = some true)
    (xob_InvalidText : PySem.W.mroIn K E_InvalidText (.type "object") = some true)
    (xem_InvalidText : PySem.W.exmAny K (.ref E_InvalidText) [.ref E_WrongValue, .ref E_WrongName, .ref E_NoAnswer] = some true)
    (kf_InvalidText_WrongValue : PySem.W.kitOne K (.ref E_InvalidText) (.ref E_WrongValue) = some true)
    (kf_InvalidText_InvalidText : PySem.W.kitOne K (.ref E_InvalidText) (.ref E_InvalidText) = some true)
    (kf_InvalidText_InvalidMarks : PySem.W.kitOne K (.ref E_InvalidText) (.ref E_InvalidMarks) = some false)
    (kf_InvalidText_InvalidIndex : PySem.W.kitOne K (.ref E_InvalidText) (.ref E_InvalidIndex) = some false)
    (kf_InvalidText_InvalidWord : PySem.W.kitOne K (.ref E_InvalidText) (.ref E_InvalidWord) = some false)
    (kf_InvalidText_NotARanking : PySem.W.kitOne K (.ref E_InvalidText) (.ref E_NotARanking) = some false)
    (kf_InvalidText_NotAHouse : PySem.W.kitOne K (.ref E_InvalidText) (.ref E_NotAHouse) = some false)
    (kf_InvalidText_NotALook : PySem.W.kitOne K (.ref E_InvalidText) (.ref E_NotALook) = some false)
    (kf_InvalidText_NotLooks : PySem.W.kitOne K (.ref E_InvalidText) (.ref E_NotLooks) = some false)
    (kf_InvalidText_OtherThings : PySem.W.kitOne K (.ref E_InvalidText) (.ref E_OtherThings) = some false)
    (kf_InvalidText_InvalidRow : PySem.W.kitOne K (.ref E_InvalidText) (.ref E_InvalidRow) = some false)
    (kf_InvalidText_InvalidMenu : PySem.W.kitOne K (.ref E_InvalidText) (.ref E_InvalidMenu) = some false)
    (kf_InvalidText_InvalidThings : PySem.W.kitOne K (.ref E_InvalidText) (.ref E_InvalidThings) = some false)
    (kf_InvalidText_InvalidTaken : PySem.W.kitOne K (.ref E_InvalidText) (.ref E_InvalidTaken) = some false)
    (kf_InvalidText_InvalidRankings : PySem.W.kitOne K (.ref E_InvalidText) (.ref E_InvalidRankings) = some false)
    (kf_InvalidText_InvalidLooks : PySem.W.kitOne K (.ref E_InvalidText) (.ref E_InvalidLooks) = some false)
    (kf_InvalidText_InvalidTable : PySem.W.kitOne K (.ref E_InvalidText) (.ref E_InvalidTable) = some false)
    (kf_InvalidText_WrongName : PySem.W.kitOne K (.ref E_InvalidText) (.ref E_WrongName) = some false)
    (kf_InvalidText_UnknownThing : PySem.W.kitOne K (.ref E_InvalidText) (.ref E_UnknownThing) = some false)
    (kf_InvalidText_NoAnswer : PySem.W.kitOne K (.ref E_InvalidText) (.ref E_NoAnswer) = some false)
    (kf_InvalidText_TooMany : PySem.W.kitOne K (.ref E_InvalidText) (.ref E_TooMany) = some false)
    (kf_InvalidText_NoHouse : PySem.W.kitOne K (.ref E_InvalidText) (.ref E_NoHouse) = some false)
    (kf_InvalidText_NoTable : PySem.W.kitOne K (.ref E_InvalidText) (.ref E_NoTable) = some false)
    (kf_InvalidText_Clash : PySem.W.kitOne K (.ref E_InvalidText) (.ref E_Clash) = some false)
    (kf_InvalidText_Broken : PySem.W.kitOne K (.ref E_InvalidText) (.ref E_Broken) = some false)
    (kf_InvalidText_NothingToUndo : PySem.W.kitOne K (.ref E_InvalidText) (.ref E_NothingToUndo) = some false)
    (kf_InvalidText_ValueError : PySem.W.kitOne K (.ref E_InvalidText) (.type "ValueError") = some true)
    (kf_InvalidText_LookupError : PySem.W.kitOne K (.ref E_InvalidText) (.type "LookupError") = some false)
    (kf_InvalidText_ArithmeticError : PySem.W.kitOne K (.ref E_InvalidText) (.type "ArithmeticError") = some false)
    (cg_Look : PySem.W.nsIn K mainGlobals "Look" = some (some (.ref C_Look)))
    (cp_Look : PySem.W.plainGet K C_Look Str.empty = true)
    (ch_Look : PySem.W.hasDictIn K C_Look = true)
    (co_Look : PySem.W.plainOver K C_Look = true)
    (cs_Look : PySem.W.findIn K (.ref C_Look) "__setattr__" = some (some (.builtin "object.__setattr__")))
    (cm_Look : PySem.W.makesIn K C_Look = true)
    (ck_Look : PySem.W.keepIn K (.ref C_Look) = true)
    (cne_Look : PySem.W.findIn K (.ref C_Look) "__ne__" = some (some (.builtin "object.__ne__")))
    (cob_Look : PySem.W.mroIn K C_Look (.type "object") = some true)
    (cca_Look : PySem.W.findIn K (.ref C_Look) "__class__" = some (some (.builtin "object.__class__")))
    (ccb_Look : PySem.W.specialIn K (.builtin "object.__class__") "__get__" = some (some (.builtin "getset_descriptor.__get__")))
    (ccc_Look : PySem.W.takesIn K (.builtin "object.__class__") = some true)
    (cbo_Look : PySem.W.findIn K (.ref C_Look) "__bool__" = some none)
    (cfm_Look : PySem.W.findIn K (.ref C_Look) "__format__" = some (some (.builtin "object.__format__")))
    (crd_Look : PySem.W.readsIn K C_Look (.type "type") = true)
    (cty_Look : PySem.W.typeIn K (.ref C_Look) = some (.type "type"))
    (cga_Look : PySem.W.specialIn K (.ref C_Look) "__getattribute__" = some (some (.builtin "type.__getattribute__")))
    (cn_Look_menu : PySem.W.findIn K (.ref C_Look) "menu" = some none)
    (cn_Look__marks : PySem.W.findIn K (.ref C_Look) "_marks" = some none)
    (a_is_name : PySem.W.nsIn K mainGlobals "is_name" = some (some (.ref f_is_name)))
    (l_is_name : K.lookup f_is_name = some ⟨oc_is_name, od_is_name, .func (PySem.W.fnOf "is_name" "is_name" (defArgs st_is_name) (defBody st_is_name) (defScope st_is_name) .none kV_is_name dc_is_name pm_is_name an_is_name cd_is_name ct_is_name), sl_is_name⟩)
    (c_is_name : PySem.W.codeIn K cd_is_name "is_name" = true)
    (k_is_name : PySem.W.keepIn K (.ref f_is_name) = true)
    (a_is_filled_tuple : PySem.W.nsIn K mainGlobals "is_filled_tuple" = some (some (.ref f_is_filled_tuple)))
    (l_is_filled_tuple : K.lookup f_is_filled_tuple = some ⟨oc_is_filled_tuple, od_is_filled_tuple, .func (PySem.W.fnOf "is_filled_tuple" "is_filled_tuple" (defArgs st_is_filled_tuple) (defBody st_is_filled_tuple) (defScope st_is_filled_tuple) .none kV_is_filled_tuple dc_is_filled_tuple pm_is_filled_tuple an_is_filled_tuple cd_is_filled_tuple ct_is_filled_tuple), sl_is_filled_tuple⟩)
    (c_is_filled_tuple : PySem.W.codeIn K cd_is_filled_tuple "is_filled_tuple" = true)
    (k_is_filled_tuple : PySem.W.keepIn K (.ref f_is_filled_tuple) = true)
    (a_first_wrong_of_names : PySem.W.nsIn K mainGlobals "first_wrong_of_names" = some (some (.ref f_first_wrong_of_names)))
    (l_first_wrong_of_names : K.lookup f_first_wrong_of_names = some ⟨oc_first_wrong_of_names, od_first_wrong_of_names, .func (PySem.W.fnOf "first_wrong_of_names" "first_wrong_of_names" (defArgs st_first_wrong_of_names) (defBody st_first_wrong_of_names) (defScope st_first_wrong_of_names) (.ref dT_first_wrong_of_names) kV_first_wrong_of_names dc_first_wrong_of_names pm_first_wrong_of_names an_first_wrong_of_names cd_first_wrong_of_names ct_first_wrong_of_names), sl_first_wrong_of_names⟩)
    (tb_d_first_wrong_of_names : K.lookup dT_first_wrong_of_names = some ⟨dtc_first_wrong_of_names, dtd_first_wrong_of_names, .seq #[.int 10 dk0_first_wrong_of_names] dtn_first_wrong_of_names, dts_first_wrong_of_names⟩)
    (c_first_wrong_of_names : PySem.W.codeIn K cd_first_wrong_of_names "first_wrong_of_names" = true)
    (k_first_wrong_of_names : PySem.W.keepIn K (.ref f_first_wrong_of_names) = true)
    (a_check_names_of_menu : PySem.W.nsIn K mainGlobals "check_names_of_menu" = some (some (.ref f_check_names_of_menu)))
    (l_check_names_of_menu : K.lookup f_check_names_of_menu = some ⟨oc_check_names_of_menu, od_check_names_of_menu, .func (PySem.W.fnOf "check_names_of_menu" "check_names_of_menu" (defArgs st_check_names_of_menu) (defBody st_check_names_of_menu) (defScope st_check_names_of_menu) .none kV_check_names_of_menu dc_check_names_of_menu pm_check_names_of_menu an_check_names_of_menu cd_check_names_of_menu ct_check_names_of_menu), sl_check_names_of_menu⟩)
    (c_check_names_of_menu : PySem.W.codeIn K cd_check_names_of_menu "check_names_of_menu" = true)
    (k_check_names_of_menu : PySem.W.keepIn K (.ref f_check_names_of_menu) = true)
    (a_are_marks : PySem.W.nsIn K mainGlobals "are_marks" = some (some (.ref f_are_marks)))
    (l_are_marks : K.lookup f_are_marks = some ⟨oc_are_marks, od_are_marks, .func (PySem.W.fnOf "are_marks" "are_marks" (defArgs st_are_marks) (defBody st_are_marks) (defScope st_are_marks) .none kV_are_marks dc_are_marks pm_are_marks an_are_marks cd_are_marks ct_are_marks), sl_are_marks⟩)
    (c_are_marks : PySem.W.codeIn K cd_are_marks "are_marks" = true)
    (k_are_marks : PySem.W.keepIn K (.ref f_are_marks) = true)
    (a_LookD_initD : PySem.W.findIn K (.ref C_Look) "__init__" = some (some (.ref f_LookD_initD)))
    (i_LookD_initD : PySem.W.isFn K (.ref f_LookD_initD) = true)
    (l_LookD_initD : K.lookup f_LookD_initD = some ⟨oc_LookD_initD, od_LookD_initD, .func (PySem.W.fnOf "__init__" "Look.__init__" (defArgs st_LookD_initD) (defBody st_LookD_initD) (defScope st_LookD_initD) .none kV_LookD_initD dc_LookD_initD pm_LookD_initD an_LookD_initD cd_LookD_initD ct_LookD_initD), sl_LookD_initD⟩)
    (c_LookD_initD : PySem.W.codeIn K cd_LookD_initD "Look.__init__" = true)
    (k_LookD_initD : PySem.W.keepIn K (.ref f_LookD_initD) = true)
    (a_Look_read : PySem.W.findCls K (.ref C_Look) (.type "type") "read" = some (.get (.builtin "classmethod.__get__") (.ref q_Look_read) .none (.ref C_Look)))
    (pr_Look_read : PySem.W.recIn K q_Look_read "classmethod" = some (.ref f_Look_read :: rest_Look_read))
    (fi_Look_read : PySem.W.fnIn K f_Look_read = true)
    (l_Look_read : K.lookup f_Look_read = some ⟨oc_Look_read, od_Look_read, .func (PySem.W.fnOf "read" "Look.read" (defArgs st_Look_read) (defBody st_Look_read) (defScope st_Look_read) .none kV_Look_read dc_Look_read pm_Look_read an_Look_read cd_Look_read ct_Look_read), sl_Look_read⟩)
    (c_Look_read : PySem.W.codeIn K cd_Look_read "Look.read" = true)
    (k_Look_read : PySem.W.keepIn K (.ref f_Look_read) = true)
    (a_Look_marks : PySem.W.findIn K (.ref C_Look) "marks" = some (some (.ref q_Look_marks)))
    (pg_Look_marks : PySem.W.specialIn K (.ref q_Look_marks) "__get__" = some (some (.builtin "property.__get__")))
    (pt_Look_marks : PySem.W.takesIn K (.ref q_Look_marks) = some true)
    (pr_Look_marks : PySem.W.recIn K q_Look_marks "property" = some (.ref f_Look_marks :: rest_Look_marks))
    (l_Look_marks : K.lookup f_Look_marks = some ⟨oc_Look_marks, od_Look_marks, .func (PySem.W.fnOf "marks" "Look.marks" (defArgs st_Look_marks) (defBody st_Look_marks) (defScope st_Look_marks) .none kV_Look_marks dc_Look_marks pm_Look_marks an_Look_marks cd_Look_marks ct_Look_marks), sl_Look_marks⟩)
    (c_Look_marks : PySem.W.codeIn K cd_Look_marks "Look.marks" = true)
    (k_Look_marks : PySem.W.keepIn K (.ref f_Look_marks) = true)
    (a_LookD_strD : PySem.W.findIn K (.ref C_Look) "__str__" = some (some (.ref f_LookD_strD)))
    (i_LookD_strD : PySem.W.isFn K (.ref f_LookD_strD) = true)
    (l_LookD_strD : K.lookup f_LookD_strD = some ⟨oc_LookD_strD, od_LookD_strD, .func (PySem.W.fnOf "__str__" "Look.__str__" (defArgs st_LookD_strD) (defBody st_LookD_strD) (defScope st_LookD_strD) .none kV_LookD_strD dc_LookD_strD pm_LookD_strD an_LookD_strD cd_LookD_strD ct_LookD_strD), sl_LookD_strD⟩)
    (c_LookD_strD : PySem.W.codeIn K cd_LookD_strD "Look.__str__" = true)
    (k_LookD_strD : PySem.W.keepIn K (.ref f_LookD_strD) = true)
    (a_InvalidTextD_initD : PySem.W.findIn K (.ref E_InvalidText) "__init__" = some (some (.ref f_InvalidTextD_initD)))
    (ti_InvalidTextD_initD : PySem.W.typeIn K (.ref f_InvalidTextD_initD) = some (.type "function"))
    (l_InvalidTextD_initD : K.lookup f_InvalidTextD_initD = some ⟨oc_InvalidTextD_initD, od_InvalidTextD_initD, .func (PySem.W.fnOf "__init__" "InvalidText.__init__" (defArgs st_InvalidTextD_initD) (defBody st_InvalidTextD_initD) (defScope st_InvalidTextD_initD) .none kV_InvalidTextD_initD dc_InvalidTextD_initD pm_InvalidTextD_initD an_InvalidTextD_initD cd_InvalidTextD_initD ct_InvalidTextD_initD), sl_InvalidTextD_initD⟩)
    (c_InvalidTextD_initD : PySem.W.codeIn K cd_InvalidTextD_initD "InvalidText.__init__" = true)
    (k_InvalidTextD_initD : PySem.W.keepIn K (.ref f_InvalidTextD_initD) = true)
    (a_l_urn : PySem.W.nsIn K mainGlobals "_law_urn" = some (some (.ref f_l_urn)))
    (l_l_urn : K.lookup f_l_urn = some ⟨oc_l_urn, od_l_urn, .func (PySem.W.fnOf "_law_urn" "_law_urn" (defArgs st_l_urn) (defBody st_l_urn) (defScope st_l_urn) .none kV_l_urn dc_l_urn pm_l_urn an_l_urn cd_l_urn ct_l_urn), sl_l_urn⟩)
    (c_l_urn : PySem.W.codeIn K cd_l_urn "_law_urn" = true)
    (k_l_urn : PySem.W.keepIn K (.ref f_l_urn) = true)
    (a_l_draw : PySem.W.nsIn K mainGlobals "_law_draw" = some (some (.ref f_l_draw)))
    (l_l_draw : K.lookup f_l_draw = some ⟨oc_l_draw, od_l_draw, .func (PySem.W.fnOf "_law_draw" "_law_draw" (defArgs st_l_draw) (defBody st_l_draw) (defScope st_l_draw) .none kV_l_draw dc_l_draw pm_l_draw an_l_draw cd_l_draw ct_l_draw), sl_l_draw⟩)
    (c_l_draw : PySem.W.codeIn K cd_l_draw "_law_draw" = true)
    (k_l_draw : PySem.W.keepIn K (.ref f_l_draw) = true)
    (a_l_name : PySem.W.nsIn K mainGlobals "_law_name" = some (some (.ref f_l_name)))
    (l_l_name : K.lookup f_l_name = some ⟨oc_l_name, od_l_name, .func (PySem.W.fnOf "_law_name" "_law_name" (defArgs st_l_name) (defBody st_l_name) (defScope st_l_name) .none kV_l_name dc_l_name pm_l_name an_l_name cd_l_name ct_l_name), sl_l_name⟩)
    (c_l_name : PySem.W.codeIn K cd_l_name "_law_name" = true)
    (k_l_name : PySem.W.keepIn K (.ref f_l_name) = true)
    (a_l_names : PySem.W.nsIn K mainGlobals "_law_names" = some (some (.ref f_l_names)))
    (l_l_names : K.lookup f_l_names = some ⟨oc_l_names, od_l_names, .func (PySem.W.fnOf "_law_names" "_law_names" (defArgs st_l_names) (defBody st_l_names) (defScope st_l_names) .none kV_l_names dc_l_names pm_l_names an_l_names cd_l_names ct_l_names), sl_l_names⟩)
    (c_l_names : PySem.W.codeIn K cd_l_names "_law_names" = true)
    (k_l_names : PySem.W.keepIn K (.ref f_l_names) = true)
    (a_l_marks : PySem.W.nsIn K mainGlobals "_law_marks" = some (some (.ref f_l_marks)))
    (l_l_marks : K.lookup f_l_marks = some ⟨oc_l_marks, od_l_marks, .func (PySem.W.fnOf "_law_marks" "_law_marks" (defArgs st_l_marks) (defBody st_l_marks) (defScope st_l_marks) .none kV_l_marks dc_l_marks pm_l_marks an_l_marks cd_l_marks ct_l_marks), sl_l_marks⟩)
    (c_l_marks : PySem.W.codeIn K cd_l_marks "_law_marks" = true)
    (k_l_marks : PySem.W.keepIn K (.ref f_l_marks) = true)
    (a_l_text : PySem.W.nsIn K mainGlobals "_law_text" = some (some (.ref f_l_text)))
    (l_l_text : K.lookup f_l_text = some ⟨oc_l_text, od_l_text, .func (PySem.W.fnOf "_law_text" "_law_text" (defArgs st_l_text) (defBody st_l_text) (defScope st_l_text) .none kV_l_text dc_l_text pm_l_text an_l_text cd_l_text ct_l_text), sl_l_text⟩)
    (c_l_text : PySem.W.codeIn K cd_l_text "_law_text" = true)
    (k_l_text : PySem.W.keepIn K (.ref f_l_text) = true)
    (a_l_sort : PySem.W.nsIn K mainGlobals "_law_sort" = some (some (.ref f_l_sort)))
    (l_l_sort : K.lookup f_l_sort = some ⟨oc_l_sort, od_l_sort, .func (PySem.W.fnOf "_law_sort" "_law_sort" (defArgs st_l_sort) (defBody st_l_sort) (defScope st_l_sort) .none kV_l_sort dc_l_sort pm_l_sort an_l_sort cd_l_sort ct_l_sort), sl_l_sort⟩)
    (c_l_sort : PySem.W.codeIn K cd_l_sort "_law_sort" = true)
    (k_l_sort : PySem.W.keepIn K (.ref f_l_sort) = true)
    (a_l_field : PySem.W.nsIn K mainGlobals "_law_field" = some (some (.ref f_l_field)))
    (l_l_field : K.lookup f_l_field = some ⟨oc_l_field, od_l_field, .func (PySem.W.fnOf "_law_field" "_law_field" (defArgs st_l_field) (defBody st_l_field) (defScope st_l_field) .none kV_l_field dc_l_field pm_l_field an_l_field cd_l_field ct_l_field), sl_l_field⟩)
    (c_l_field : PySem.W.codeIn K cd_l_field "_law_field" = true)
    (k_l_field : PySem.W.keepIn K (.ref f_l_field) = true)
    (a_l_caught : PySem.W.nsIn K mainGlobals "_law_caught" = some (some (.ref f_l_caught)))
    (l_l_caught : K.lookup f_l_caught = some ⟨oc_l_caught, od_l_caught, .func (PySem.W.fnOf "_law_caught" "_law_caught" (defArgs st_l_caught) (defBody st_l_caught) (defScope st_l_caught) .none kV_l_caught dc_l_caught pm_l_caught an_l_caught cd_l_caught ct_l_caught), sl_l_caught⟩)
    (c_l_caught : PySem.W.codeIn K cd_l_caught "_law_caught" = true)
    (k_l_caught : PySem.W.keepIn K (.ref f_l_caught) = true)
    (a_l_is_name : PySem.W.nsIn K mainGlobals "_law_is_name" = some (some (.ref f_l_is_name)))
    (l_l_is_name : K.lookup f_l_is_name = some ⟨oc_l_is_name, od_l_is_name, .func (PySem.W.fnOf "_law_is_name" "_law_is_name" (defArgs st_l_is_name) (defBody st_l_is_name) (defScope st_l_is_name) .none kV_l_is_name dc_l_is_name pm_l_is_name an_l_is_name cd_l_is_name ct_l_is_name), sl_l_is_name⟩)
    (c_l_is_name : PySem.W.codeIn K cd_l_is_name "_law_is_name" = true)
    (k_l_is_name : PySem.W.keepIn K (.ref f_l_is_name) = true)
    (a_l_wrong_names : PySem.W.nsIn K mainGlobals "_law_wrong_names" = some (some (.ref f_l_wrong_names)))
    (l_l_wrong_names : K.lookup f_l_wrong_names = some ⟨oc_l_wrong_names, od_l_wrong_names, .func (PySem.W.fnOf "_law_wrong_names" "_law_wrong_names" (defArgs st_l_wrong_names) (defBody st_l_wrong_names) (defScope st_l_wrong_names) .none kV_l_wrong_names dc_l_wrong_names pm_l_wrong_names an_l_wrong_names cd_l_wrong_names ct_l_wrong_names), sl_l_wrong_names⟩)
    (c_l_wrong_names : PySem.W.codeIn K cd_l_wrong_names "_law_wrong_names" = true)
    (k_l_wrong_names : PySem.W.keepIn K (.ref f_l_wrong_names) = true)
    (a_l_read : PySem.W.nsIn K mainGlobals "_law_read" = some (some (.ref f_l_read)))
    (l_l_read : K.lookup f_l_read = some ⟨oc_l_read, od_l_read, .func (PySem.W.fnOf "_law_read" "_law_read" (defArgs st_l_read) (defBody st_l_read) (defScope st_l_read) .none kV_l_read dc_l_read pm_l_read an_l_read cd_l_read ct_l_read), sl_l_read⟩)
    (c_l_read : PySem.W.codeIn K cd_l_read "_law_read" = true)
    (k_l_read : PySem.W.keepIn K (.ref f_l_read) = true)
    (a_l_sign : PySem.W.nsIn K mainGlobals "_law_sign" = some (some (.ref f_l_sign)))
    (l_l_sign : K.lookup f_l_sign = some ⟨oc_l_sign, od_l_sign, .func (PySem.W.fnOf "_law_sign" "_law_sign" (defArgs st_l_sign) (defBody st_l_sign) (defScope st_l_sign) .none kV_l_sign dc_l_sign pm_l_sign an_l_sign cd_l_sign ct_l_sign), sl_l_sign⟩)
    (c_l_sign : PySem.W.codeIn K cd_l_sign "_law_sign" = true)
    (k_l_sign : PySem.W.keepIn K (.ref f_l_sign) = true)
    (a_l_turned : PySem.W.nsIn K mainGlobals "_law_turned" = some (some (.ref f_l_turned)))
    (l_l_turned : K.lookup f_l_turned = some ⟨oc_l_turned, od_l_turned, .func (PySem.W.fnOf "_law_turned" "_law_turned" (defArgs st_l_turned) (defBody st_l_turned) (defScope st_l_turned) .none kV_l_turned dc_l_turned pm_l_turned an_l_turned cd_l_turned ct_l_turned), sl_l_turned⟩)
    (c_l_turned : PySem.W.codeIn K cd_l_turned "_law_turned" = true)
    (k_l_turned : PySem.W.keepIn K (.ref f_l_turned) = true)
    (a_l_read_right : PySem.W.nsIn K mainGlobals "_law_read_right" = some (some (.ref f_l_read_right)))
    (l_l_read_right : K.lookup f_l_read_right = some ⟨oc_l_read_right, od_l_read_right, .func (PySem.W.fnOf "_law_read_right" "_law_read_right" (defArgs st_l_read_right) (defBody st_l_read_right) (defScope st_l_read_right) .none kV_l_read_right dc_l_read_right pm_l_read_right an_l_read_right (.ref cc_l_read_right) ct_l_read_right), sl_l_read_right⟩)
    (c_l_read_right : PySem.W.codeIn K (.ref cc_l_read_right) "_law_read_right" = true)
    (tb_l_read_right : K.lookup cc_l_read_right = some ⟨.type "code", cod_l_read_right, .fields cvs_l_read_right, csl_l_read_right⟩)
    (tp_l_read_right : cvs_l_read_right[11]? = some (.ref pp_l_read_right))
    (tn_l_read_right : K.lookup pp_l_read_right = none)
    (th_l_read_right : codeOk cvs_l_read_right cc_l_read_right pp_l_read_right = true)
    (k_l_read_right : PySem.W.keepIn K (.ref f_l_read_right) = true)
    (a_l_right : PySem.W.nsIn K mainGlobals "_law_right" = some (some (.ref f_l_right)))
    (l_l_right : K.lookup f_l_right = some ⟨oc_l_right, od_l_right, .func (PySem.W.fnOf "_law_right" "_law_right" (defArgs st_l_right) (defBody st_l_right) (defScope st_l_right) .none kV_l_right dc_l_right pm_l_right an_l_right cd_l_right ct_l_right), sl_l_right⟩)
    (c_l_right : PySem.W.codeIn K cd_l_right "_law_right" = true)
    (k_l_right : PySem.W.keepIn K (.ref f_l_right) = true)
    (a_law : PySem.W.nsIn K mainGlobals "law" = some (some (.ref f_law)))
    (l_law : K.lookup f_law = some ⟨oc_law, od_law, .func (PySem.W.fnOf "law" "law" (defArgs st_law) (defBody st_law) (defScope st_law) .none kV_law dc_law pm_law an_law cd_law ct_law), sl_law⟩)
    (c_law : PySem.W.codeIn K cd_law "law" = true)
    (k_law : PySem.W.keepIn K (.ref f_law) = true)
    (pin_l_read_right : pp_l_read_right ∈ ts)
    (v_MOST_THINGS : PySem.W.nsIn K mainGlobals "MOST_THINGS" = some (some (.int 10 t_MOST_THINGS)))
    (v_LETTERS : PySem.W.nsIn K mainGlobals "LETTERS" = some (some (.str "abcdefghijklmnopqrstuvwxyz" t_LETTERS)))
    (v_DIGITS : PySem.W.nsIn K mainGlobals "DIGITS" = some (some (.str "0123456789" t_DIGITS)))
    (v_LONGEST_NAME : PySem.W.nsIn K mainGlobals "LONGEST_NAME" = some (some (.int 8 t_LONGEST_NAME)))
    (v_MARKS : PySem.W.nsIn K mainGlobals "MARKS" = some (some (.str "+-?" t_MARKS)))
    (z_ValueError : PySem.W.nsIn K mainGlobals "ValueError" = some none)
    (z_LookupError : PySem.W.nsIn K mainGlobals "LookupError" = some none)
    (z_ArithmeticError : PySem.W.nsIn K mainGlobals "ArithmeticError" = some none)
    (z_len : PySem.W.nsIn K mainGlobals "len" = some none)
    (z_isinstance : PySem.W.nsIn K mainGlobals "isinstance" = some none)
    (z_all : PySem.W.nsIn K mainGlobals "all" = some none)
    (z_any : PySem.W.nsIn K mainGlobals "any" = some none)
    (z_enumerate : PySem.W.nsIn K mainGlobals "enumerate" = some none)
    (z_tuple : PySem.W.nsIn K mainGlobals "tuple" = some none)
    (z_sorted : PySem.W.nsIn K mainGlobals "sorted" = some none)
    (z_abs : PySem.W.nsIn K mainGlobals "abs" = some none)
    (z_int : PySem.W.nsIn K mainGlobals "int" = some none)
    (z_divmod : PySem.W.nsIn K mainGlobals "divmod" = some none)
    (z_range : PySem.W.nsIn K mainGlobals "range" = some none)
    (z_list : PySem.W.nsIn K mainGlobals "list" = some none)
    (z_repr : PySem.W.nsIn K mainGlobals "repr" = some none)
    (z_max : PySem.W.nsIn K mainGlobals "max" = some none)
    (z_min : PySem.W.nsIn K mainGlobals "min" = some none)
    (z_str : PySem.W.nsIn K mainGlobals "str" = some none)
    (z_bool : PySem.W.nsIn K mainGlobals "bool" = some none)
    (z_zip : PySem.W.nsIn K mainGlobals "zip" = some none) : ∃ T : Tx K mg, T.a_law = fa ∧ T.P_l_read_right ∈ ts := by
  have e := hfa.symm.trans (PySem.W.mg_of X G a_law)
  cases e
  exact ⟨{
    E_WrongValue := E_WrongValue
    g_WrongValue := PySem.W.mg_of X G eg_WrongValue
    E_InvalidText := E_InvalidText
    g_InvalidText := PySem.W.mg_of X G eg_InvalidText
    E_InvalidMarks := E_InvalidMarks
    g_InvalidMarks := PySem.W.mg_of X G eg_InvalidMarks
    E_InvalidIndex := E_InvalidIndex
    g_InvalidIndex := PySem.W.mg_of X G eg_InvalidIndex
    E_InvalidWord := E_InvalidWord
    g_InvalidWord := PySem.W.mg_of X G eg_InvalidWord
    E_NotARanking := E_NotARanking
    g_NotARanking := PySem.W.mg_of X G eg_NotARanking
    E_NotAHouse := E_NotAHouse
    g_NotAHouse := PySem.W.mg_of X G eg_NotAHouse
    E_NotALook := E_NotALook
    g_NotALook := PySem.W.mg_of X G eg_NotALook
    E_NotLooks := E_NotLooks
    g_NotLooks := PySem.W.mg_of X G eg_NotLooks
    E_OtherThings := E_OtherThings
    g_OtherThings := PySem.W.mg_of X G eg_OtherThings
    E_InvalidRow := E_InvalidRow
    g_InvalidRow := PySem.W.mg_of X G eg_InvalidRow
    E_InvalidMenu := E_InvalidMenu
    g_InvalidMenu := PySem.W.mg_of X G eg_InvalidMenu
    E_InvalidThings := E_InvalidThings
    g_InvalidThings := PySem.W.mg_of X G eg_InvalidThings
    E_InvalidTaken := E_InvalidTaken
    g_InvalidTaken := PySem.W.mg_of X G eg_InvalidTaken
    E_InvalidRankings := E_InvalidRankings
    g_InvalidRankings := PySem.W.mg_of X G eg_InvalidRankings
    E_InvalidLooks := E_InvalidLooks
    g_InvalidLooks := PySem.W.mg_of X G eg_InvalidLooks
    E_InvalidTable := E_InvalidTable
    g_InvalidTable := PySem.W.mg_of X G eg_InvalidTable
    E_WrongName := E_WrongName
    g_WrongName := PySem.W.mg_of X G eg_WrongName
    E_UnknownThing := E_UnknownThing
    g_UnknownThing := PySem.W.mg_of X G eg_UnknownThing
    E_NoAnswer := E_NoAnswer
    g_NoAnswer := PySem.W.mg_of X G eg_NoAnswer
    E_TooMany := E_TooMany
    g_TooMany := PySem.W.mg_of X G eg_TooMany
    E_NoHouse := E_NoHouse
    g_NoHouse := PySem.W.mg_of X G eg_NoHouse
    E_NoTable := E_NoTable
    g_NoTable := PySem.W.mg_of X G eg_NoTable
    E_Clash := E_Clash
    g_Clash := PySem.W.mg_of X G eg_Clash
    E_Broken := E_Broken
    g_Broken := PySem.W.mg_of X G eg_Broken
    E_NothingToUndo := E_NothingToUndo
    g_NothingToUndo := PySem.W.mg_of X G eg_NothingToUndo
    ox_InvalidText := ⟨⟨_, _, _, _, _, _, _, _, _, _, _, _, _, _, _, xl_InvalidText, xr_InvalidText⟩, xs_InvalidText, xx_InvalidText, xt_InvalidText, xk_InvalidText⟩
    ek_InvalidText := ⟨xcl_InvalidText, xga_InvalidText, xgg_InvalidText, xx_InvalidText, xhd_InvalidText, xca_InvalidText, xcb_InvalidText, xcc_InvalidText, xob_InvalidText⟩
    no_InvalidText_given := xn_InvalidText
    em_InvalidText := xem_InvalidText
    kf_InvalidText_WrongValue := kf_InvalidText_WrongValue
    kf_InvalidText_InvalidText := kf_InvalidText_InvalidText
    kf_InvalidText_InvalidMarks := kf_InvalidText_InvalidMarks
    kf_InvalidText_InvalidIndex := kf_InvalidText_InvalidIndex
    kf_InvalidText_InvalidWord := kf_InvalidText_InvalidWord
    kf_InvalidText_NotARanking := kf_InvalidText_NotARanking
    kf_InvalidText_NotAHouse := kf_InvalidText_NotAHouse
    kf_InvalidText_NotALook := kf_InvalidText_NotALook
    kf_InvalidText_NotLooks := kf_InvalidText_NotLooks
    kf_InvalidText_OtherThings := kf_InvalidText_OtherThings
    kf_InvalidText_InvalidRow := kf_InvalidText_InvalidRow
    kf_InvalidText_InvalidMenu := kf_InvalidText_InvalidMenu
    kf_InvalidText_InvalidThings := kf_InvalidText_InvalidThings
    kf_InvalidText_InvalidTaken := kf_InvalidText_InvalidTaken
    kf_InvalidText_InvalidRankings := kf_InvalidText_InvalidRankings
    kf_InvalidText_InvalidLooks := kf_InvalidText_InvalidLooks
    kf_InvalidText_InvalidTable := kf_InvalidText_InvalidTable
    kf_InvalidText_WrongName := kf_InvalidText_WrongName
    kf_InvalidText_UnknownThing := kf_InvalidText_UnknownThing
    kf_InvalidText_NoAnswer := kf_InvalidText_NoAnswer
    kf_InvalidText_TooMany := kf_InvalidText_TooMany
    kf_InvalidText_NoHouse := kf_InvalidText_NoHouse
    kf_InvalidText_NoTable := kf_InvalidText_NoTable
    kf_InvalidText_Clash := kf_InvalidText_Clash
    kf_InvalidText_Broken := kf_InvalidText_Broken
    kf_InvalidText_NothingToUndo := kf_InvalidText_NothingToUndo
    kf_InvalidText_ValueError := kf_InvalidText_ValueError
    kf_InvalidText_LookupError := kf_InvalidText_LookupError
    kf_InvalidText_ArithmeticError := kf_InvalidText_ArithmeticError
    C := C_Look
    cl := ⟨cp_Look, ch_Look, co_Look, cs_Look⟩
    g_Look := PySem.W.mg_of X G cg_Look
    ne := cne_Look
    ob := cob_Look
    ty := fun e => .base (.ins e ⟨cp_Look, ch_Look, co_Look, cs_Look⟩ cca_Look ccb_Look ccc_Look cob_Look)
    nobool := cbo_Look
    fm := cfm_Look
    crd := ⟨crd_Look, cga_Look⟩
    cty := cty_Look
    no_menu := cn_Look_menu
    no__marks := cn_Look__marks
    a_is_name := f_is_name
    fd_is_name := _
    F_is_name := fun_mk (st := st_is_name) l_is_name c_is_name k_is_name
    b_is_name := (fun_mk (st := st_is_name) l_is_name c_is_name k_is_name).binds (ps := ["value"]) fun _ _ _ _ _ _ us hl => match us, hl with | [_], _ => rfl
    g_is_name := PySem.W.mg_of X G a_is_name
    a_is_filled_tuple := f_is_filled_tuple
    fd_is_filled_tuple := _
    F_is_filled_tuple := fun_mk (st := st_is_filled_tuple) l_is_filled_tuple c_is_filled_tuple k_is_filled_tuple
    b_is_filled_tuple := (fun_mk (st := st_is_filled_tuple) l_is_filled_tuple c_is_filled_tuple k_is_filled_tuple).binds (ps := ["value"]) fun _ _ _ _ _ _ us hl => match us, hl with | [_], _ => rfl
    g_is_filled_tuple := PySem.W.mg_of X G a_is_filled_tuple
    a_first_wrong_of_names := f_first_wrong_of_names
    fd_first_wrong_of_names := _
    F_first_wrong_of_names := (fun_mkV (st := st_first_wrong_of_names) (dvs := [V.int 10]) (its := [.int 10 dk0_first_wrong_of_names]) l_first_wrong_of_names c_first_wrong_of_names k_first_wrong_of_names tb_d_first_wrong_of_names (.cons ⟨_, rfl⟩ .nil))
    b_first_wrong_of_names := (fun_mkV (st := st_first_wrong_of_names) (dvs := [V.int 10]) (its := [.int 10 dk0_first_wrong_of_names]) l_first_wrong_of_names c_first_wrong_of_names k_first_wrong_of_names tb_d_first_wrong_of_names (.cons ⟨_, rfl⟩ .nil)).bindA (ps := ["names", "most"]) fun _ _ _ _ _ _ _ us its h1 h2 => match us, its, h1, h2 with | [_, _], [_], _, _ => ⟨_, rfl, rfl⟩
    bd_first_wrong_of_names := (fun_mkV (st := st_first_wrong_of_names) (dvs := [V.int 10]) (its := [.int 10 dk0_first_wrong_of_names]) l_first_wrong_of_names c_first_wrong_of_names k_first_wrong_of_names tb_d_first_wrong_of_names (.cons ⟨_, rfl⟩ .nil)).bindD (ps := ["names", "most"]) 1 0 rfl fun _ _ _ _ _ _ _ us its h1 h2 => match us, its, h1, h2 with | [_], [_], _, _ => ⟨_, rfl, rfl⟩
    g_first_wrong_of_names := PySem.W.mg_of X G a_first_wrong_of_names
    a_check_names_of_menu := f_check_names_of_menu
    fd_check_names_of_menu := _
    F_check_names_of_menu := fun_mk (st := st_check_names_of_menu) l_check_names_of_menu c_check_names_of_menu k_check_names_of_menu
    b_check_names_of_menu := (fun_mk (st := st_check_names_of_menu) l_check_names_of_menu c_check_names_of_menu k_check_names_of_menu).binds (ps := ["menu"]) fun _ _ _ _ _ _ us hl => match us, hl with | [_], _ => rfl
    g_check_names_of_menu := PySem.W.mg_of X G a_check_names_of_menu
    a_are_marks := f_are_marks
    fd_are_marks := _
    F_are_marks := fun_mk (st := st_are_marks) l_are_marks c_are_marks k_are_marks
    b_are_marks := (fun_mk (st := st_are_marks) l_are_marks c_are_marks k_are_marks).binds (ps := ["marks", "many"]) fun _ _ _ _ _ _ us hl => match us, hl with | [_, _], _ => rfl
    g_are_marks := PySem.W.mg_of X G a_are_marks
    a_LookD_initD := f_LookD_initD
    fd_LookD_initD := _
    F_LookD_initD := fun_mk (st := st_LookD_initD) l_LookD_initD c_LookD_initD k_LookD_initD
    b_LookD_initD := (fun_mk (st := st_LookD_initD) l_LookD_initD c_LookD_initD k_LookD_initD).binds (ps := ["self", "menu", "marks"]) fun _ _ _ _ _ _ us hl => match us, hl with | [_, _, _], _ => rfl
    mkc := ⟨cm_Look, a_LookD_initD, i_LookD_initD, ck_Look⟩
    a_Look_read := f_Look_read
    fd_Look_read := _
    F_Look_read := fun_mk (st := st_Look_read) l_Look_read c_Look_read k_Look_read
    b_Look_read := (fun_mk (st := st_Look_read) l_Look_read c_Look_read k_Look_read).binds (ps := ["cls", "text"]) fun _ _ _ _ _ _ us hl => match us, hl with | [_, _], _ => rfl
    q_Look_read := q_Look_read
    cm_Look_read := ⟨a_Look_read, ⟨_, pr_Look_read⟩, fi_Look_read⟩
    a_Look_marks := f_Look_marks
    fd_Look_marks := _
    F_Look_marks := fun_mk (st := st_Look_marks) l_Look_marks c_Look_marks k_Look_marks
    b_Look_marks := (fun_mk (st := st_Look_marks) l_Look_marks c_Look_marks k_Look_marks).binds (ps := ["self"]) fun _ _ _ _ _ _ us hl => match us, hl with | [_], _ => rfl
    q_Look_marks := q_Look_marks
    p_marks := ⟨a_Look_marks, pg_Look_marks, pt_Look_marks, ⟨_, pr_Look_marks⟩⟩
    a_LookD_strD := f_LookD_strD
    fd_LookD_strD := _
    F_LookD_strD := fun_mk (st := st_LookD_strD) l_LookD_strD c_LookD_strD k_LookD_strD
    b_LookD_strD := (fun_mk (st := st_LookD_strD) l_LookD_strD c_LookD_strD k_LookD_strD).binds (ps := ["self"]) fun _ _ _ _ _ _ us hl => match us, hl with | [_], _ => rfl
    m_LookD_strD := ⟨a_LookD_strD, i_LookD_strD, k_LookD_strD⟩
    a_InvalidTextD_initD := f_InvalidTextD_initD
    fd_InvalidTextD_initD := _
    F_InvalidTextD_initD := fun_mk (st := st_InvalidTextD_initD) l_InvalidTextD_initD c_InvalidTextD_initD k_InvalidTextD_initD
    b_InvalidTextD_initD := (fun_mk (st := st_InvalidTextD_initD) l_InvalidTextD_initD c_InvalidTextD_initD k_InvalidTextD_initD).binds (ps := ["self", "given"]) fun _ _ _ _ _ _ us hl => match us, hl with | [_, _], _ => rfl
    ic_InvalidText := a_InvalidTextD_initD
    ti_InvalidText := ti_InvalidTextD_initD
    a_l_urn := f_l_urn
    fd_l_urn := _
    F_l_urn := fun_mk (st := st_l_urn) l_l_urn c_l_urn k_l_urn
    b_l_urn := (fun_mk (st := st_l_urn) l_l_urn c_l_urn k_l_urn).binds (ps := ["_law_cells", "_law_k"]) fun _ _ _ _ _ _ us hl => match us, hl with | [_, _], _ => rfl
    g_l_urn := PySem.W.mg_of X G a_l_urn
    a_l_draw := f_l_draw
    fd_l_draw := _
    F_l_draw := fun_mk (st := st_l_draw) l_l_draw c_l_draw k_l_draw
    b_l_draw := (fun_mk (st := st_l_draw) l_l_draw c_l_draw k_l_draw).binds (ps := ["_law_urn_here", "_law_many"]) fun _ _ _ _ _ _ us hl => match us, hl with | [_, _], _ => rfl
    g_l_draw := PySem.W.mg_of X G a_l_draw
    a_l_name := f_l_name
    fd_l_name := _
    F_l_name := fun_mk (st := st_l_name) l_l_name c_l_name k_l_name
    b_l_name := (fun_mk (st := st_l_name) l_l_name c_l_name k_l_name).binds (ps := ["_law_urn_here"]) fun _ _ _ _ _ _ us hl => match us, hl with | [_], _ => rfl
    g_l_name := PySem.W.mg_of X G a_l_name
    a_l_names := f_l_names
    fd_l_names := _
    F_l_names := fun_mk (st := st_l_names) l_l_names c_l_names k_l_names
    b_l_names := (fun_mk (st := st_l_names) l_l_names c_l_names k_l_names).binds (ps := ["_law_urn_here", "_law_many"]) fun _ _ _ _ _ _ us hl => match us, hl with | [_, _], _ => rfl
    g_l_names := PySem.W.mg_of X G a_l_names
    a_l_marks := f_l_marks
    fd_l_marks := _
    F_l_marks := fun_mk (st := st_l_marks) l_l_marks c_l_marks k_l_marks
    b_l_marks := (fun_mk (st := st_l_marks) l_l_marks c_l_marks k_l_marks).binds (ps := ["_law_urn_here", "_law_many"]) fun _ _ _ _ _ _ us hl => match us, hl with | [_, _], _ => rfl
    g_l_marks := PySem.W.mg_of X G a_l_marks
    a_l_text := f_l_text
    fd_l_text := _
    F_l_text := fun_mk (st := st_l_text) l_l_text c_l_text k_l_text
    b_l_text := (fun_mk (st := st_l_text) l_l_text c_l_text k_l_text).binds (ps := ["_law_pair"]) fun _ _ _ _ _ _ us hl => match us, hl with | [_], _ => rfl
    g_l_text := PySem.W.mg_of X G a_l_text
    a_l_sort := f_l_sort
    fd_l_sort := _
    F_l_sort := fun_mk (st := st_l_sort) l_l_sort c_l_sort k_l_sort
    b_l_sort := (fun_mk (st := st_l_sort) l_l_sort c_l_sort k_l_sort).binds (ps := ["_law_e"]) fun _ _ _ _ _ _ us hl => match us, hl with | [_], _ => rfl
    g_l_sort := PySem.W.mg_of X G a_l_sort
    a_l_field := f_l_field
    fd_l_field := _
    F_l_field := fun_mk (st := st_l_field) l_l_field c_l_field k_l_field
    b_l_field := (fun_mk (st := st_l_field) l_l_field c_l_field k_l_field).binds (ps := ["_law_word", "_law_e"]) fun _ _ _ _ _ _ us hl => match us, hl with | [_, _], _ => rfl
    g_l_field := PySem.W.mg_of X G a_l_field
    a_l_caught := f_l_caught
    fd_l_caught := _
    F_l_caught := fun_mk (st := st_l_caught) l_l_caught c_l_caught k_l_caught
    b_l_caught := (fun_mk (st := st_l_caught) l_l_caught c_l_caught k_l_caught).binds (ps := ["_law_act"]) fun _ _ _ _ _ _ us hl => match us, hl with | [_], _ => rfl
    g_l_caught := PySem.W.mg_of X G a_l_caught
    a_l_is_name := f_l_is_name
    fd_l_is_name := _
    F_l_is_name := fun_mk (st := st_l_is_name) l_l_is_name c_l_is_name k_l_is_name
    b_l_is_name := (fun_mk (st := st_l_is_name) l_l_is_name c_l_is_name k_l_is_name).binds (ps := ["_law_thing"]) fun _ _ _ _ _ _ us hl => match us, hl with | [_], _ => rfl
    g_l_is_name := PySem.W.mg_of X G a_l_is_name
    a_l_wrong_names := f_l_wrong_names
    fd_l_wrong_names := _
    F_l_wrong_names := fun_mk (st := st_l_wrong_names) l_l_wrong_names c_l_wrong_names k_l_wrong_names
    b_l_wrong_names := (fun_mk (st := st_l_wrong_names) l_l_wrong_names c_l_wrong_names k_l_wrong_names).binds (ps := ["_law_menu"]) fun _ _ _ _ _ _ us hl => match us, hl with | [_], _ => rfl
    g_l_wrong_names := PySem.W.mg_of X G a_l_wrong_names
    a_l_read := f_l_read
    fd_l_read := _
    F_l_read := fun_mk (st := st_l_read) l_l_read c_l_read k_l_read
    b_l_read := (fun_mk (st := st_l_read) l_l_read c_l_read k_l_read).binds (ps := ["_law_said"]) fun _ _ _ _ _ _ us hl => match us, hl with | [_], _ => rfl
    g_l_read := PySem.W.mg_of X G a_l_read
    a_l_sign := f_l_sign
    fd_l_sign := _
    F_l_sign := fun_mk (st := st_l_sign) l_l_sign c_l_sign k_l_sign
    b_l_sign := (fun_mk (st := st_l_sign) l_l_sign c_l_sign k_l_sign).binds (ps := ["_law_urn_here"]) fun _ _ _ _ _ _ us hl => match us, hl with | [_], _ => rfl
    g_l_sign := PySem.W.mg_of X G a_l_sign
    a_l_turned := f_l_turned
    fd_l_turned := _
    F_l_turned := fun_mk (st := st_l_turned) l_l_turned c_l_turned k_l_turned
    b_l_turned := (fun_mk (st := st_l_turned) l_l_turned c_l_turned k_l_turned).binds (ps := ["_law_urn_here", "_law_said"]) fun _ _ _ _ _ _ us hl => match us, hl with | [_, _], _ => rfl
    g_l_turned := PySem.W.mg_of X G a_l_turned
    a_l_read_right := f_l_read_right
    fd_l_read_right := _
    F_l_read_right := fun_mk (st := st_l_read_right) l_l_read_right c_l_read_right k_l_read_right
    b_l_read_right := (fun_mk (st := st_l_read_right) l_l_read_right c_l_read_right k_l_read_right).binds (ps := ["_law_said"]) fun _ _ _ _ _ _ us hl => match us, hl with | [_], _ => rfl
    c_l_read_right := cc_l_read_right
    P_l_read_right := pp_l_read_right
    M_l_read_right := ⟨_, _, _, _, _, _, _, _, l_l_read_right, c_l_read_right, (fun_mk (st := st_l_read_right) l_l_read_right c_l_read_right k_l_read_right).binds (ps := ["_law_said"]) fun _ _ _ _ _ _ us hl => match us, hl with | [_], _ => rfl⟩
    th_l_read_right := codeHd_of tb_l_read_right th_l_read_right
    tn_l_read_right := tn_l_read_right
    g_l_read_right := PySem.W.mg_of X G a_l_read_right
    a_l_right := f_l_right
    fd_l_right := _
    F_l_right := fun_mk (st := st_l_right) l_l_right c_l_right k_l_right
    b_l_right := (fun_mk (st := st_l_right) l_l_right c_l_right k_l_right).binds (ps := ["_law_urn_here"]) fun _ _ _ _ _ _ us hl => match us, hl with | [_], _ => rfl
    g_l_right := PySem.W.mg_of X G a_l_right
    a_law := fa
    fd_law := _
    F_law := fun_mk (st := st_law) l_law c_law k_law
    b_law := (fun_mk (st := st_law) l_law c_law k_law).binds (ps := ["_law_cells"]) fun _ _ _ _ _ _ us hl => match us, hl with | [_], _ => rfl
    g_law := PySem.W.mg_of X G a_law
    g_MOST_THINGS := ⟨_, PySem.W.mg_of X G v_MOST_THINGS⟩
    g_LETTERS := ⟨_, PySem.W.mg_of X G v_LETTERS⟩
    g_DIGITS := ⟨_, PySem.W.mg_of X G v_DIGITS⟩
    g_LONGEST_NAME := ⟨_, PySem.W.mg_of X G v_LONGEST_NAME⟩
    g_MARKS := ⟨_, PySem.W.mg_of X G v_MARKS⟩
    n_ValueError := PySem.W.mg_none_of X G z_ValueError
    n_LookupError := PySem.W.mg_none_of X G z_LookupError
    n_ArithmeticError := PySem.W.mg_none_of X G z_ArithmeticError
    n_len := PySem.W.mg_none_of X G z_len
    n_isinstance := PySem.W.mg_none_of X G z_isinstance
    n_all := PySem.W.mg_none_of X G z_all
    n_any := PySem.W.mg_none_of X G z_any
    n_enumerate := PySem.W.mg_none_of X G z_enumerate
    n_tuple := PySem.W.mg_none_of X G z_tuple
    n_sorted := PySem.W.mg_none_of X G z_sorted
    n_abs := PySem.W.mg_none_of X G z_abs
    n_int := PySem.W.mg_none_of X G z_int
    n_divmod := PySem.W.mg_none_of X G z_divmod
    n_range := PySem.W.mg_none_of X G z_range
    n_list := PySem.W.mg_none_of X G z_list
    n_repr := PySem.W.mg_none_of X G z_repr
    n_max := PySem.W.mg_none_of X G z_max
    n_min := PySem.W.mg_none_of X G z_min
    n_str := PySem.W.mg_none_of X G z_str
    n_bool := PySem.W.mg_none_of X G z_bool
    n_zip := PySem.W.mg_none_of X G z_zip }, rfl, pin_l_read_right⟩
end MH
noncomputable section
namespace MHead
open PySem PySem.W PySem.Calls PyProof.Rows HandSHeadRun MN MH
open L2 (defArgs defBody defScope inClass)
abbrev P0 : Program := PySem.Challenge.pw_menuhouses_k47_look_texts_bent
abbrev R0 : OpenRow := OpenLaw.row PySem.Challenge.rw_menuhouses_k47_look_texts_bent
def b0 : List Stmt := behindTheImports P0
def env0 : Env := { scope := P0.main.scope, locals := mainNs, globals := mainNs, cells := [], code := (@Value.ref (nat_lit 13)), frame := some (nat_lit 14) }
abbrev c0 : Code := .body b0 env0
abbrev q0 : Pos := (@Pos.mk (nat_lit 0) (nat_lit 0) (nat_lit 0) (nat_lit 0))
def o11 (P : Params) : Obj := (@Obj.mk (@Value.type "tuple") none (@Data.seq (.mk []) (nat_lit 0)) (.mk []))
def o12 (P : Params) : Obj := (@Obj.mk Value.none none (@Data.fields (.mk [])) (.mk []))
def o13 (P : Params) : Obj := (@Obj.mk (@Value.type "code") none (@Data.fields (.mk [(@Value.str (@Str.ofString "<module>") (nat_lit 182)), (@Value.str (@Str.ofString "<module>") (nat_lit 183)), (@Value.str (@Str.ofString "/claim/cut.py") (nat_lit 184)), (@Value.int (.ofNat (nat_lit 1)) (nat_lit 0)), (@Value.int (.ofNat (nat_lit 0)) (nat_lit 0)), (@Value.int (.ofNat (nat_lit 0)) (nat_lit 0)), (@Value.int (.ofNat (nat_lit 0)) (nat_lit 0)), (@Value.int (.ofNat (nat_lit 0)) (nat_lit 0)), (@Value.ref (nat_lit 11)), (@Value.bool false), (@Value.int (.ofNat (nat_lit 181)) (nat_lit 0)), (@Value.ref (nat_lit 12)), Value.none, Value.none, Value.none, Value.none, (@Value.int (.ofNat (nat_lit 185)) (nat_lit 0)), (@Value.int (.ofNat (nat_lit 1)) (nat_lit 0)), (@Value.str (@Str.ofString "/claim/cut.py") (nat_lit 186))])) (.mk []))
def o14 (P : Params) : Obj := (@Obj.mk (@Value.type "frame") none Data.plain (.mk [(some (@Value.ref (nat_lit 13))), (some (@Value.ref (nat_lit 3))), (some (@Value.ref (nat_lit 3))), none, (some (@Value.str (@Str.ofString "__main__") (nat_lit 164))), none, (some (@Value.ref (nat_lit 0)))]))
def o3 (P : Params) : Obj := (@Obj.mk (@Value.type "dict") none (@Data.dict (.mk [(@DictEntry.mk (@PyData.keyHash P (@Str.ofString "__name__")) (@Value.str (@Str.ofString "__name__") (nat_lit 165)) (@Value.str (@Str.ofString "menuhouses.errors") (nat_lit 194))), (@DictEntry.mk (@PyData.keyHash P (@Str.ofString "__doc__")) (@Value.str (@Str.ofString "__doc__") (nat_lit 166)) Value.none), (@DictEntry.mk (@PyData.keyHash P (@Str.ofString "__package__")) (@Value.str (@Str.ofString "__package__") (nat_lit 167)) Value.none), (@DictEntry.mk (@PyData.keyHash P (@Str.ofString "__loader__")) (@Value.str (@Str.ofString "__loader__") (nat_lit 168)) (@Value.builtin "__main__.__loader__#opaque")), (@DictEntry.mk (@PyData.keyHash P (@Str.ofString "__spec__")) (@Value.str (@Str.ofString "__spec__") (nat_lit 169)) Value.none), (@DictEntry.mk (@PyData.keyHash P (@Str.ofString "__annotations__")) (@Value.str (@Str.ofString "__annotations__") (nat_lit 170)) (@Value.ref (nat_lit 6))), (@DictEntry.mk (@PyData.keyHash P (@Str.ofString "__builtins__")) (@Value.str (@Str.ofString "__builtins__") (nat_lit 171)) (@Value.ref (nat_lit 4))), (@DictEntry.mk (@PyData.keyHash P (@Str.ofString "__file__")) (@Value.str (@Str.ofString "__file__") (nat_lit 173)) (@Value.str (@Str.ofString "/claim/cut.py") (nat_lit 172))), (@DictEntry.mk (@PyData.keyHash P (@Str.ofString "__cached__")) (@Value.str (@Str.ofString "__cached__") (nat_lit 174)) Value.none), (@DictEntry.mk (@PyData.keyHash P (@Str.ofString "_wall")) (@Value.str (@Str.ofString "_wall") (nat_lit 193)) (@Value.ref (nat_lit 21))), (@DictEntry.mk (@PyData.keyHash P (@Str.ofString "WrongValue")) (@Value.str (@Str.ofString "WrongValue") (nat_lit 213)) (@Value.ref (nat_lit 31))), (@DictEntry.mk (@PyData.keyHash P (@Str.ofString "InvalidText")) (@Value.str (@Str.ofString "InvalidText") (nat_lit 238)) (@Value.ref (nat_lit 51))), (@DictEntry.mk (@PyData.keyHash P (@Str.ofString "InvalidMarks")) (@Value.str (@Str.ofString "InvalidMarks") (nat_lit 263)) (@Value.ref (nat_lit 70))), (@DictEntry.mk (@PyData.keyHash P (@Str.ofString "InvalidIndex")) (@Value.str (@Str.ofString "InvalidIndex") (nat_lit 288)) (@Value.ref (nat_lit 89))), (@DictEntry.mk (@PyData.keyHash P (@Str.ofString "InvalidWord")) (@Value.str (@Str.ofString "InvalidWord") (nat_lit 313)) (@Value.ref (nat_lit 108)))]) (nat_lit 15)) (.mk []))
def o12v1 (P : Params) : Obj := (@Obj.mk Value.none none (@Data.fields (.mk [(@Value.int (.ofNat (nat_lit 1)) (nat_lit 0)), (@Value.int (.ofNat (nat_lit 0)) (nat_lit 0)), (@Value.ref (nat_lit 20)), (@Value.int (.ofNat (nat_lit 5)) (nat_lit 0)), (@Value.int (.ofNat (nat_lit 0)) (nat_lit 0)), (@Value.ref (nat_lit 27)), (@Value.int (.ofNat (nat_lit 7)) (nat_lit 0)), (@Value.int (.ofNat (nat_lit 0)) (nat_lit 0)), (@Value.ref (nat_lit 40)), (@Value.int (.ofNat (nat_lit 11)) (nat_lit 0)), (@Value.int (.ofNat (nat_lit 0)) (nat_lit 0)), (@Value.ref (nat_lit 59)), (@Value.int (.ofNat (nat_lit 15)) (nat_lit 0)), (@Value.int (.ofNat (nat_lit 0)) (nat_lit 0)), (@Value.ref (nat_lit 78)), (@Value.int (.ofNat (nat_lit 19)) (nat_lit 0)), (@Value.int (.ofNat (nat_lit 0)) (nat_lit 0)), (@Value.ref (nat_lit 97))])) (.mk []))
def o15 (P : Params) : Obj := (@Obj.mk (@Value.type "tuple") none (@Data.seq (.mk []) (nat_lit 0)) (.mk []))
def o16 (P : Params) : Obj := (@Obj.mk Value.none none (@Data.fields (.mk [])) (.mk []))
def o17 (P : Params) : Obj := (@Obj.mk (@Value.type "tuple") none (@Data.seq (.mk [(@Value.str (@Str.ofString "k") (nat_lit 190))]) (nat_lit 0)) (.mk []))
def o18 (P : Params) : Obj := (@Obj.mk (@Value.type "tuple") none (@Data.seq (.mk []) (nat_lit 0)) (.mk []))
def o19 (P : Params) : Obj := (@Obj.mk Value.none none (@Data.func (@FuncData.mk (@Str.ofString "_wall") (@Str.ofString "_wall") (defArgs (topS 0)) (@FuncBody.stmts (defBody (topS 0))) (defScope (topS 0)) (nat_lit 0) [] Value.none Value.none Value.none Value.none none Value.none Value.none (nat_lit 0))) (.mk []))
def o20 (P : Params) : Obj := (@Obj.mk (@Value.type "code") none (@Data.fields (.mk [(@Value.str (@Str.ofString "_wall") (nat_lit 187)), (@Value.str (@Str.ofString "_wall") (nat_lit 188)), (@Value.str (@Str.ofString "/claim/cut.py") (nat_lit 189)), (@Value.int (.ofNat (nat_lit 1)) (nat_lit 0)), (@Value.int (.ofNat (nat_lit 1)) (nat_lit 0)), (@Value.int (.ofNat (nat_lit 0)) (nat_lit 0)), (@Value.int (.ofNat (nat_lit 0)) (nat_lit 0)), (@Value.int (.ofNat (nat_lit 3)) (nat_lit 0)), (@Value.ref (nat_lit 15)), (@Value.bool true), (@Value.int (.ofNat (nat_lit 181)) (nat_lit 0)), (@Value.ref (nat_lit 16)), Value.none, (@Value.ref (nat_lit 17)), (@Value.ref (nat_lit 18)), (@Value.ref (nat_lit 19)), (@Value.int (.ofNat (nat_lit 191)) (nat_lit 0)), (@Value.int (.ofNat (nat_lit 1)) (nat_lit 0)), (@Value.str (@Str.ofString "/claim/cut.py") (nat_lit 192))])) (.mk []))
def o21 (P : Params) : Obj := (@Obj.mk (@Value.type "function") none (@Data.func (@FuncData.mk (@Str.ofString "_wall") (@Str.ofString "_wall") (defArgs (topS 0)) (@FuncBody.stmts (defBody (topS 0))) (defScope (topS 0)) (nat_lit 3) [] Value.none Value.none Value.none (@Value.str (@Str.ofString "__main__") (nat_lit 164)) none (@Value.ref (nat_lit 20)) Value.none (nat_lit 0))) (.mk []))
def o22 (P : Params) : Obj := (@Obj.mk (@Value.type "tuple") none (@Data.seq (.mk [(@Value.type "ValueError")]) (nat_lit 0)) (.mk []))
def o23 (P : Params) : Obj := (@Obj.mk (@Value.type "builtin_function_or_method") none (@Data.fields (.mk [(@Value.builtin "type.__prepare__"), (@Value.type "type")])) (.mk []))
def o24 (P : Params) : Obj := (@Obj.mk (@Value.type "dict") none (@Data.dict (.mk [(@DictEntry.mk (@PyData.keyHash P (@Str.ofString "__module__")) (@Value.str (@Str.ofString "__module__") (nat_lit 203)) (@Value.str (@Str.ofString "menuhouses.errors") (nat_lit 194))), (@DictEntry.mk (@PyData.keyHash P (@Str.ofString "__qualname__")) (@Value.str (@Str.ofString "__qualname__") (nat_lit 205)) (@Value.str (@Str.ofString "WrongValue") (nat_lit 204))), (@DictEntry.mk (@PyData.keyHash P (@Str.ofString "__firstlineno__")) (@Value.str (@Str.ofString "__firstlineno__") (nat_lit 207)) (@Value.int (.ofNat (nat_lit 5)) (nat_lit 206))), (@DictEntry.mk (@PyData.keyHash P (@Str.ofString "__static_attributes__")) (@Value.str (@Str.ofString "__static_attributes__") (nat_lit 208)) (@Value.ref (nat_lit 29)))]) (nat_lit 4)) (.mk []))
def o25 (P : Params) : Obj := (@Obj.mk (@Value.type "tuple") none (@Data.seq (.mk []) (nat_lit 0)) (.mk []))
def o26 (P : Params) : Obj := (@Obj.mk Value.none none (@Data.fields (.mk [])) (.mk []))
def o27 (P : Params) : Obj := (@Obj.mk (@Value.type "code") none (@Data.fields (.mk [(@Value.str (@Str.ofString "WrongValue") (nat_lit 198)), (@Value.str (@Str.ofString "WrongValue") (nat_lit 199)), (@Value.str (@Str.ofString "/claim/cut.py") (nat_lit 200)), (@Value.int (.ofNat (nat_lit 5)) (nat_lit 0)), (@Value.int (.ofNat (nat_lit 0)) (nat_lit 0)), (@Value.int (.ofNat (nat_lit 0)) (nat_lit 0)), (@Value.int (.ofNat (nat_lit 0)) (nat_lit 0)), (@Value.int (.ofNat (nat_lit 0)) (nat_lit 0)), (@Value.ref (nat_lit 25)), (@Value.bool false), (@Value.int (.ofNat (nat_lit 181)) (nat_lit 0)), (@Value.ref (nat_lit 26)), Value.none, Value.none, Value.none, Value.none, (@Value.int (.ofNat (nat_lit 201)) (nat_lit 0)), (@Value.int (.ofNat (nat_lit 5)) (nat_lit 0)), (@Value.str (@Str.ofString "/claim/cut.py") (nat_lit 202))])) (.mk []))
def o28 (P : Params) : Obj := (@Obj.mk (@Value.type "frame") none Data.plain (.mk [(some (@Value.ref (nat_lit 27))), (some (@Value.ref (nat_lit 3))), (some (@Value.ref (nat_lit 24))), none, (some (@Value.str (@Str.ofString "menuhouses.errors") (nat_lit 194))), none, (some (@Value.ref (nat_lit 0)))]))
def o29 (P : Params) : Obj := (@Obj.mk (@Value.type "tuple") none (@Data.seq (.mk []) (nat_lit 0)) (.mk []))
def o30 (P : Params) : Obj := (@Obj.mk (@Value.type "dict") none (@Data.dict (.mk [(@DictEntry.mk (@PyData.keyHash P (@Str.ofString "__module__")) (@Value.str (@Str.ofString "__module__") (nat_lit 203)) (@Value.str (@Str.ofString "menuhouses.errors") (nat_lit 194))), (@DictEntry.mk (@PyData.keyHash P (@Str.ofString "__firstlineno__")) (@Value.str (@Str.ofString "__firstlineno__") (nat_lit 207)) (@Value.int (.ofNat (nat_lit 5)) (nat_lit 206))), (@DictEntry.mk (@PyData.keyHash P (@Str.ofString "__static_attributes__")) (@Value.str (@Str.ofString "__static_attributes__") (nat_lit 208)) (@Value.ref (nat_lit 29))), (@DictEntry.mk (@PyData.keyHash P (@Str.ofString "__weakref__")) (@Value.str (@Str.ofString "__weakref__") (nat_lit 210)) (@Value.ref (nat_lit 32))), (@DictEntry.mk (@PyData.keyHash P (@Str.ofString "__doc__")) (@Value.str (@Str.ofString "__doc__") (nat_lit 211)) Value.none)]) (nat_lit 3)) (.mk []))
def o31 (P : Params) : Obj := (@Obj.mk (@Value.type "type") none (@Data.cls (@ClassData.mk (@Str.ofString "WrongValue") [(@Value.type "ValueError")] [(@Value.ref (nat_lit 31)), (@Value.type "ValueError"), (@Value.type "Exception"), (@Value.type "BaseException"), (@Value.type "object")] (nat_lit 30) (@Str.ofString "WrongValue") true [] [(@Value.ref (nat_lit 51)), (@Value.ref (nat_lit 70)), (@Value.ref (nat_lit 89)), (@Value.ref (nat_lit 108))] false none false)) (.mk [(some (@Value.ref (nat_lit 22))), none, (some (@Value.str (@Str.ofString "WrongValue") (nat_lit 196))), (some (@Value.str (@Str.ofString "WrongValue") (nat_lit 204))), (some (@Value.builtin "ValueError.__new__")), (some (@Value.bool true))]))
def o32 (P : Params) : Obj := (@Obj.mk (@Value.type "getset_descriptor") none (@Data.fields (.mk [(@Value.str (@Str.ofString "__weakref__") (nat_lit 209)), (@Value.ref (nat_lit 31)), (@Value.builtin "ExceptionGroup.__weakref__"), Value.none])) (.mk []))
def o33 (P : Params) : Obj := (@Obj.mk (@Value.type "super") none (@Data.fields (.mk [(@Value.ref (nat_lit 31)), (@Value.ref (nat_lit 31)), (@Value.ref (nat_lit 31))])) (.mk []))
def o34 (P : Params) : Obj := (@Obj.mk (@Value.type "builtin_function_or_method") none (@Data.fields (.mk [(@Value.builtin "object.__init_subclass__"), (@Value.ref (nat_lit 31))])) (.mk []))
def o35 (P : Params) : Obj := (@Obj.mk (@Value.type "tuple") none (@Data.seq (.mk [(@Value.ref (nat_lit 31))]) (nat_lit 0)) (.mk []))
def o36 (P : Params) : Obj := (@Obj.mk (@Value.type "builtin_function_or_method") none (@Data.fields (.mk [(@Value.builtin "type.__prepare__"), (@Value.type "type")])) (.mk []))
def o37 (P : Params) : Obj := (@Obj.mk (@Value.type "dict") none (@Data.dict (.mk [(@DictEntry.mk (@PyData.keyHash P (@Str.ofString "__module__")) (@Value.str (@Str.ofString "__module__") (nat_lit 221)) (@Value.str (@Str.ofString "menuhouses.errors") (nat_lit 194))), (@DictEntry.mk (@PyData.keyHash P (@Str.ofString "__qualname__")) (@Value.str (@Str.ofString "__qualname__") (nat_lit 223)) (@Value.str (@Str.ofString "InvalidText") (nat_lit 222))), (@DictEntry.mk (@PyData.keyHash P (@Str.ofString "__firstlineno__")) (@Value.str (@Str.ofString "__firstlineno__") (nat_lit 225)) (@Value.int (.ofNat (nat_lit 7)) (nat_lit 224))), (@DictEntry.mk (@PyData.keyHash P (@Str.ofString "__init__")) (@Value.str (@Str.ofString "__init__") (nat_lit 233)) (@Value.ref (nat_lit 48))), (@DictEntry.mk (@PyData.keyHash P (@Str.ofString "__static_attributes__")) (@Value.str (@Str.ofString "__static_attributes__") (nat_lit 235)) (@Value.ref (nat_lit 49)))]) (nat_lit 5)) (.mk []))
def o38 (P : Params) : Obj := (@Obj.mk (@Value.type "tuple") none (@Data.seq (.mk []) (nat_lit 0)) (.mk []))
def o39 (P : Params) : Obj := (@Obj.mk Value.none none (@Data.fields (.mk [(@Value.int (.ofNat (nat_lit 9)) (nat_lit 0)), (@Value.int (.ofNat (nat_lit 4)) (nat_lit 0)), (@Value.ref (nat_lit 47))])) (.mk []))
def o40 (P : Params) : Obj := (@Obj.mk (@Value.type "code") none (@Data.fields (.mk [(@Value.str (@Str.ofString "InvalidText") (nat_lit 216)), (@Value.str (@Str.ofString "InvalidText") (nat_lit 217)), (@Value.str (@Str.ofString "/claim/cut.py") (nat_lit 218)), (@Value.int (.ofNat (nat_lit 7)) (nat_lit 0)), (@Value.int (.ofNat (nat_lit 0)) (nat_lit 0)), (@Value.int (.ofNat (nat_lit 0)) (nat_lit 0)), (@Value.int (.ofNat (nat_lit 0)) (nat_lit 0)), (@Value.int (.ofNat (nat_lit 0)) (nat_lit 0)), (@Value.ref (nat_lit 38)), (@Value.bool false), (@Value.int (.ofNat (nat_lit 181)) (nat_lit 0)), (@Value.ref (nat_lit 39)), Value.none, Value.none, Value.none, Value.none, (@Value.int (.ofNat (nat_lit 219)) (nat_lit 0)), (@Value.int (.ofNat (nat_lit 7)) (nat_lit 0)), (@Value.str (@Str.ofString "/claim/cut.py") (nat_lit 220))])) (.mk []))
def o41 (P : Params) : Obj := (@Obj.mk (@Value.type "frame") none Data.plain (.mk [(some (@Value.ref (nat_lit 40))), (some (@Value.ref (nat_lit 3))), (some (@Value.ref (nat_lit 37))), none, (some (@Value.str (@Str.ofString "menuhouses.errors") (nat_lit 194))), none, (some (@Value.ref (nat_lit 0)))]))
def o42 (P : Params) : Obj := (@Obj.mk (@Value.type "tuple") none (@Data.seq (.mk []) (nat_lit 0)) (.mk []))
def o43 (P : Params) : Obj := (@Obj.mk Value.none none (@Data.fields (.mk [])) (.mk []))
def o44 (P : Params) : Obj := (@Obj.mk (@Value.type "tuple") none (@Data.seq (.mk [(@Value.str (@Str.ofString "self") (nat_lit 229)), (@Value.str (@Str.ofString "given") (nat_lit 230))]) (nat_lit 0)) (.mk []))
def o45 (P : Params) : Obj := (@Obj.mk (@Value.type "tuple") none (@Data.seq (.mk []) (nat_lit 0)) (.mk []))
def o46 (P : Params) : Obj := (@Obj.mk Value.none none (@Data.func (@FuncData.mk (@Str.ofString "__init__") (@Str.ofString "InvalidText.__init__") (defArgs (inClass (topS 3) 0)) (@FuncBody.stmts (defBody (inClass (topS 3) 0))) (defScope (inClass (topS 20) 0)) (nat_lit 0) [] Value.none Value.none Value.none Value.none none Value.none Value.none (nat_lit 0))) (.mk []))
def o47 (P : Params) : Obj := (@Obj.mk (@Value.type "code") none (@Data.fields (.mk [(@Value.str (@Str.ofString "__init__") (nat_lit 226)), (@Value.str (@Str.ofString "InvalidText.__init__") (nat_lit 227)), (@Value.str (@Str.ofString "/claim/cut.py") (nat_lit 228)), (@Value.int (.ofNat (nat_lit 9)) (nat_lit 0)), (@Value.int (.ofNat (nat_lit 2)) (nat_lit 0)), (@Value.int (.ofNat (nat_lit 0)) (nat_lit 0)), (@Value.int (.ofNat (nat_lit 0)) (nat_lit 0)), (@Value.int (.ofNat (nat_lit 3)) (nat_lit 0)), (@Value.ref (nat_lit 42)), (@Value.bool true), (@Value.int (.ofNat (nat_lit 181)) (nat_lit 0)), (@Value.ref (nat_lit 43)), Value.none, (@Value.ref (nat_lit 44)), (@Value.ref (nat_lit 45)), (@Value.ref (nat_lit 46)), (@Value.int (.ofNat (nat_lit 231)) (nat_lit 0)), (@Value.int (.ofNat (nat_lit 9)) (nat_lit 0)), (@Value.str (@Str.ofString "/claim/cut.py") (nat_lit 232))])) (.mk []))
def o48 (P : Params) : Obj := (@Obj.mk (@Value.type "function") none (@Data.func (@FuncData.mk (@Str.ofString "__init__") (@Str.ofString "InvalidText.__init__") (defArgs (inClass (topS 3) 0)) (@FuncBody.stmts (defBody (inClass (topS 3) 0))) (defScope (inClass (topS 20) 0)) (nat_lit 3) [] Value.none Value.none Value.none (@Value.str (@Str.ofString "menuhouses.errors") (nat_lit 194)) none (@Value.ref (nat_lit 47)) Value.none (nat_lit 0))) (.mk []))
def o49 (P : Params) : Obj := (@Obj.mk (@Value.type "tuple") none (@Data.seq (.mk [(@Value.str (@Str.ofString "given") (nat_lit 234))]) (nat_lit 0)) (.mk []))
def o50 (P : Params) : Obj := (@Obj.mk (@Value.type "dict") none (@Data.dict (.mk [(@DictEntry.mk (@PyData.keyHash P (@Str.ofString "__module__")) (@Value.str (@Str.ofString "__module__") (nat_lit 221)) (@Value.str (@Str.ofString "menuhouses.errors") (nat_lit 194))), (@DictEntry.mk (@PyData.keyHash P (@Str.ofString "__firstlineno__")) (@Value.str (@Str.ofString "__firstlineno__") (nat_lit 225)) (@Value.int (.ofNat (nat_lit 7)) (nat_lit 224))), (@DictEntry.mk (@PyData.keyHash P (@Str.ofString "__init__")) (@Value.str (@Str.ofString "__init__") (nat_lit 233)) (@Value.ref (nat_lit 48))), (@DictEntry.mk (@PyData.keyHash P (@Str.ofString "__static_attributes__")) (@Value.str (@Str.ofString "__static_attributes__") (nat_lit 235)) (@Value.ref (nat_lit 49))), (@DictEntry.mk (@PyData.keyHash P (@Str.ofString "__doc__")) (@Value.str (@Str.ofString "__doc__") (nat_lit 236)) Value.none)]) (nat_lit 2)) (.mk []))
def o51 (P : Params) : Obj := (@Obj.mk (@Value.type "type") none (@Data.cls (@ClassData.mk (@Str.ofString "InvalidText") [(@Value.ref (nat_lit 31))] [(@Value.ref (nat_lit 51)), (@Value.ref (nat_lit 31)), (@Value.type "ValueError"), (@Value.type "Exception"), (@Value.type "BaseException"), (@Value.type "object")] (nat_lit 50) (@Str.ofString "InvalidText") true [] [] false none false)) (.mk [(some (@Value.ref (nat_lit 35))), none, (some (@Value.str (@Str.ofString "InvalidText") (nat_lit 214))), (some (@Value.str (@Str.ofString "InvalidText") (nat_lit 222))), (some (@Value.builtin "ValueError.__new__")), (some (@Value.bool true))]))
def o52 (P : Params) : Obj := (@Obj.mk (@Value.type "super") none (@Data.fields (.mk [(@Value.ref (nat_lit 51)), (@Value.ref (nat_lit 51)), (@Value.ref (nat_lit 51))])) (.mk []))
def o53 (P : Params) : Obj := (@Obj.mk (@Value.type "builtin_function_or_method") none (@Data.fields (.mk [(@Value.builtin "object.__init_subclass__"), (@Value.ref (nat_lit 51))])) (.mk []))
def o54 (P : Params) : Obj := (@Obj.mk (@Value.type "tuple") none (@Data.seq (.mk [(@Value.ref (nat_lit 31))]) (nat_lit 0)) (.mk []))
def o55 (P : Params) : Obj := (@Obj.mk (@Value.type "builtin_function_or_method") none (@Data.fields (.mk [(@Value.builtin "type.__prepare__"), (@Value.type "type")])) (.mk []))
def o56 (P : Params) : Obj := (@Obj.mk (@Value.type "dict") none (@Data.dict (.mk [(@DictEntry.mk (@PyData.keyHash P (@Str.ofString "__module__")) (@Value.str (@Str.ofString "__module__") (nat_lit 246)) (@Value.str (@Str.ofString "menuhouses.errors") (nat_lit 194))), (@DictEntry.mk (@PyData.keyHash P (@Str.ofString "__qualname__")) (@Value.str (@Str.ofString "__qualname__") (nat_lit 248)) (@Value.str (@Str.ofString "InvalidMarks") (nat_lit 247))), (@DictEntry.mk (@PyData.keyHash P (@Str.ofString "__firstlineno__")) (@Value.str (@Str.ofString "__firstlineno__") (nat_lit 250)) (@Value.int (.ofNat (nat_lit 11)) (nat_lit 249))), (@DictEntry.mk (@PyData.keyHash P (@Str.ofString "__init__")) (@Value.str (@Str.ofString "__init__") (nat_lit 258)) (@Value.ref (nat_lit 67))), (@DictEntry.mk (@PyData.keyHash P (@Str.ofString "__static_attributes__")) (@Value.str (@Str.ofString "__static_attributes__") (nat_lit 260)) (@Value.ref (nat_lit 68)))]) (nat_lit 5)) (.mk []))
def o57 (P : Params) : Obj := (@Obj.mk (@Value.type "tuple") none (@Data.seq (.mk []) (nat_lit 0)) (.mk []))
def o58 (P : Params) : Obj := (@Obj.mk Value.none none (@Data.fields (.mk [(@Value.int (.ofNat (nat_lit 13)) (nat_lit 0)), (@Value.int (.ofNat (nat_lit 4)) (nat_lit 0)), (@Value.ref (nat_lit 66))])) (.mk []))
def o59 (P : Params) : Obj := (@Obj.mk (@Value.type "code") none (@Data.fields (.mk [(@Value.str (@Str.ofString "InvalidMarks") (nat_lit 241)), (@Value.str (@Str.ofString "InvalidMarks") (nat_lit 242)), (@Value.str (@Str.ofString "/claim/cut.py") (nat_lit 243)), (@Value.int (.ofNat (nat_lit 11)) (nat_lit 0)), (@Value.int (.ofNat (nat_lit 0)) (nat_lit 0)), (@Value.int (.ofNat (nat_lit 0)) (nat_lit 0)), (@Value.int (.ofNat (nat_lit 0)) (nat_lit 0)), (@Value.int (.ofNat (nat_lit 0)) (nat_lit 0)), (@Value.ref (nat_lit 57)), (@Value.bool false), (@Value.int (.ofNat (nat_lit 181)) (nat_lit 0)), (@Value.ref (nat_lit 58)), Value.none, Value.none, Value.none, Value.none, (@Value.int (.ofNat (nat_lit 244)) (nat_lit 0)), (@Value.int (.ofNat (nat_lit 11)) (nat_lit 0)), (@Value.str (@Str.ofString "/claim/cut.py") (nat_lit 245))])) (.mk []))
def o60 (P : Params) : Obj := (@Obj.mk (@Value.type "frame") none Data.plain (.mk [(some (@Value.ref (nat_lit 59))), (some (@Value.ref (nat_lit 3))), (some (@Value.ref (nat_lit 56))), none, (some (@Value.str (@Str.ofString "menuhouses.errors") (nat_lit 194))), none, (some (@Value.ref (nat_lit 0)))]))
def o61 (P : Params) : Obj := (@Obj.mk (@Value.type "tuple") none (@Data.seq (.mk []) (nat_lit 0)) (.mk []))
def o62 (P : Params) : Obj := (@Obj.mk Value.none none (@Data.fields (.mk [])) (.mk []))
def o63 (P : Params) : Obj := (@Obj.mk (@Value.type "tuple") none (@Data.seq (.mk [(@Value.str (@Str.ofString "self") (nat_lit 254)), (@Value.str (@Str.ofString "given") (nat_lit 255))]) (nat_lit 0)) (.mk []))
def o64 (P : Params) : Obj := (@Obj.mk (@Value.type "tuple") none (@Data.seq (.mk []) (nat_lit 0)) (.mk []))
def o65 (P : Params) : Obj := (@Obj.mk Value.none none (@Data.func (@FuncData.mk (@Str.ofString "__init__") (@Str.ofString "InvalidMarks.__init__") (defArgs (inClass (topS 4) 0)) (@FuncBody.stmts (defBody (inClass (topS 4) 0))) (defScope (inClass (topS 20) 0)) (nat_lit 0) [] Value.none Value.none Value.none Value.none none Value.none Value.none (nat_lit 0))) (.mk []))
def o66 (P : Params) : Obj := (@Obj.mk (@Value.type "code") none (@Data.fields (.mk [(@Value.str (@Str.ofString "__init__") (nat_lit 251)), (@Value.str (@Str.ofString "InvalidMarks.__init__") (nat_lit 252)), (@Value.str (@Str.ofString "/claim/cut.py") (nat_lit 253)), (@Value.int (.ofNat (nat_lit 13)) (nat_lit 0)), (@Value.int (.ofNat (nat_lit 2)) (nat_lit 0)), (@Value.int (.ofNat (nat_lit 0)) (nat_lit 0)), (@Value.int (.ofNat (nat_lit 0)) (nat_lit 0)), (@Value.int (.ofNat (nat_lit 3)) (nat_lit 0)), (@Value.ref (nat_lit 61)), (@Value.bool true), (@Value.int (.ofNat (nat_lit 181)) (nat_lit 0)), (@Value.ref (nat_lit 62)), Value.none, (@Value.ref (nat_lit 63)), (@Value.ref (nat_lit 64)), (@Value.ref (nat_lit 65)), (@Value.int (.ofNat (nat_lit 256)) (nat_lit 0)), (@Value.int (.ofNat (nat_lit 13)) (nat_lit 0)), (@Value.str (@Str.ofString "/claim/cut.py") (nat_lit 257))])) (.mk []))
def o67 (P : Params) : Obj := (@Obj.mk (@Value.type "function") none (@Data.func (@FuncData.mk (@Str.ofString "__init__") (@Str.ofString "InvalidMarks.__init__") (defArgs (inClass (topS 4) 0)) (@FuncBody.stmts (defBody (inClass (topS 4) 0))) (defScope (inClass (topS 20) 0)) (nat_lit 3) [] Value.none Value.none Value.none (@Value.str (@Str.ofString "menuhouses.errors") (nat_lit 194)) none (@Value.ref (nat_lit 66)) Value.none (nat_lit 0))) (.mk []))
def o68 (P : Params) : Obj := (@Obj.mk (@Value.type "tuple") none (@Data.seq (.mk [(@Value.str (@Str.ofString "given") (nat_lit 259))]) (nat_lit 0)) (.mk []))
def o69 (P : Params) : Obj := (@Obj.mk (@Value.type "dict") none (@Data.dict (.mk [(@DictEntry.mk (@PyData.keyHash P (@Str.ofString "__module__")) (@Value.str (@Str.ofString "__module__") (nat_lit 246)) (@Value.str (@Str.ofString "menuhouses.errors") (nat_lit 194))), (@DictEntry.mk (@PyData.keyHash P (@Str.ofString "__firstlineno__")) (@Value.str (@Str.ofString "__firstlineno__") (nat_lit 250)) (@Value.int (.ofNat (nat_lit 11)) (nat_lit 249))), (@DictEntry.mk (@PyData.keyHash P (@Str.ofString "__init__")) (@Value.str (@Str.ofString "__init__") (nat_lit 258)) (@Value.ref (nat_lit 67))), (@DictEntry.mk (@PyData.keyHash P (@Str.ofString "__static_attributes__")) (@Value.str (@Str.ofString "__static_attributes__") (nat_lit 260)) (@Value.ref (nat_lit 68))), (@DictEntry.mk (@PyData.keyHash P (@Str.ofString "__doc__")) (@Value.str (@Str.ofString "__doc__") (nat_lit 261)) Value.none)]) (nat_lit 2)) (.mk []))
def o70 (P : Params) : Obj := (@Obj.mk (@Value.type "type") none (@Data.cls (@ClassData.mk (@Str.ofString "InvalidMarks") [(@Value.ref (nat_lit 31))] [(@Value.ref (nat_lit 70)), (@Value.ref (nat_lit 31)), (@Value.type "ValueError"), (@Value.type "Exception"), (@Value.type "BaseException"), (@Value.type "object")] (nat_lit 69) (@Str.ofString "InvalidMarks") true [] [] false none false)) (.mk [(some (@Value.ref (nat_lit 54))), none, (some (@Value.str (@Str.ofString "InvalidMarks") (nat_lit 239))), (some (@Value.str (@Str.ofString "InvalidMarks") (nat_lit 247))), (some (@Value.builtin "ValueError.__new__")), (some (@Value.bool true))]))
def o71 (P : Params) : Obj := (@Obj.mk (@Value.type "super") none (@Data.fields (.mk [(@Value.ref (nat_lit 70)), (@Value.ref (nat_lit 70)), (@Value.ref (nat_lit 70))])) (.mk []))
def o72 (P : Params) : Obj := (@Obj.mk (@Value.type "builtin_function_or_method") none (@Data.fields (.mk [(@Value.builtin "object.__init_subclass__"), (@Value.ref (nat_lit 70))])) (.mk []))
def o73 (P : Params) : Obj := (@Obj.mk (@Value.type "tuple") none (@Data.seq (.mk [(@Value.ref (nat_lit 31))]) (nat_lit 0)) (.mk []))
def o74 (P : Params) : Obj := (@Obj.mk (@Value.type "builtin_function_or_method") none (@Data.fields (.mk [(@Value.builtin "type.__prepare__"), (@Value.type "type")])) (.mk []))
def o75 (P : Params) : Obj := (@Obj.mk (@Value.type "dict") none (@Data.dict (.mk [(@DictEntry.mk (@PyData.keyHash P (@Str.ofString "__module__")) (@Value.str (@Str.ofString "__module__") (nat_lit 271)) (@Value.str (@Str.ofString "menuhouses.errors") (nat_lit 194))), (@DictEntry.mk (@PyData.keyHash P (@Str.ofString "__qualname__")) (@Value.str (@Str.ofString "__qualname__") (nat_lit 273)) (@Value.str (@Str.ofString "InvalidIndex") (nat_lit 272))), (@DictEntry.mk (@PyData.keyHash P (@Str.ofString "__firstlineno__")) (@Value.str (@Str.ofString "__firstlineno__") (nat_lit 275)) (@Value.int (.ofNat (nat_lit 15)) (nat_lit 274))), (@DictEntry.mk (@PyData.keyHash P (@Str.ofString "__init__")) (@Value.str (@Str.ofString "__init__") (nat_lit 283)) (@Value.ref (nat_lit 86))), (@DictEntry.mk (@PyData.keyHash P (@Str.ofString "__static_attributes__")) (@Value.str (@Str.ofString "__static_attributes__") (nat_lit 285)) (@Value.ref (nat_lit 87)))]) (nat_lit 5)) (.mk []))
def o76 (P : Params) : Obj := (@Obj.mk (@Value.type "tuple") none (@Data.seq (.mk []) (nat_lit 0)) (.mk []))
def o77 (P : Params) : Obj := (@Obj.mk Value.none none (@Data.fields (.mk [(@Value.int (.ofNat (nat_lit 17)) (nat_lit 0)), (@Value.int (.ofNat (nat_lit 4)) (nat_lit 0)), (@Value.ref (nat_lit 85))])) (.mk []))
def o78 (P : Params) : Obj := (@Obj.mk (@Value.type "code") none (@Data.fields (.mk [(@Value.str (@Str.ofString "InvalidIndex") (nat_lit 266)), (@Value.str (@Str.ofString "InvalidIndex") (nat_lit 267)), (@Value.str (@Str.ofString "/claim/cut.py") (nat_lit 268)), (@Value.int (.ofNat (nat_lit 15)) (nat_lit 0)), (@Value.int (.ofNat (nat_lit 0)) (nat_lit 0)), (@Value.int (.ofNat (nat_lit 0)) (nat_lit 0)), (@Value.int (.ofNat (nat_lit 0)) (nat_lit 0)), (@Value.int (.ofNat (nat_lit 0)) (nat_lit 0)), (@Value.ref (nat_lit 76)), (@Value.bool false), (@Value.int (.ofNat (nat_lit 181)) (nat_lit 0)), (@Value.ref (nat_lit 77)), Value.none, Value.none, Value.none, Value.none, (@Value.int (.ofNat (nat_lit 269)) (nat_lit 0)), (@Value.int (.ofNat (nat_lit 15)) (nat_lit 0)), (@Value.str (@Str.ofString "/claim/cut.py") (nat_lit 270))])) (.mk []))
def o79 (P : Params) : Obj := (@Obj.mk (@Value.type "frame") none Data.plain (.mk [(some (@Value.ref (nat_lit 78))), (some (@Value.ref (nat_lit 3))), (some (@Value.ref (nat_lit 75))), none, (some (@Value.str (@Str.ofString "menuhouses.errors") (nat_lit 194))), none, (some (@Value.ref (nat_lit 0)))]))
def o80 (P : Params) : Obj := (@Obj.mk (@Value.type "tuple") none (@Data.seq (.mk []) (nat_lit 0)) (.mk []))
def o81 (P : Params) : Obj := (@Obj.mk Value.none none (@Data.fields (.mk [])) (.mk []))
def o82 (P : Params) : Obj := (@Obj.mk (@Value.type "tuple") none (@Data.seq (.mk [(@Value.str (@Str.ofString "self") (nat_lit 279)), (@Value.str (@Str.ofString "given") (nat_lit 280))]) (nat_lit 0)) (.mk []))
def o83 (P : Params) : Obj := (@Obj.mk (@Value.type "tuple") none (@Data.seq (.mk []) (nat_lit 0)) (.mk []))
def o84 (P : Params) : Obj := (@Obj.mk Value.none none (@Data.func (@FuncData.mk (@Str.ofString "__init__") (@Str.ofString "InvalidIndex.__init__") (defArgs (inClass (topS 5) 0)) (@FuncBody.stmts (defBody (inClass (topS 5) 0))) (defScope (inClass (topS 20) 0)) (nat_lit 0) [] Value.none Value.none Value.none Value.none none Value.none Value.none (nat_lit 0))) (.mk []))
def o85 (P : Params) : Obj := (@Obj.mk (@Value.type "code") none (@Data.fields (.mk [(@Value.str (@Str.ofString "__init__") (nat_lit 276)), (@Value.str (@Str.ofString "InvalidIndex.__init__") (nat_lit 277)), (@Value.str (@Str.ofString "/claim/cut.py") (nat_lit 278)), (@Value.int (.ofNat (nat_lit 17)) (nat_lit 0)), (@Value.int (.ofNat (nat_lit 2)) (nat_lit 0)), (@Value.int (.ofNat (nat_lit 0)) (nat_lit 0)), (@Value.int (.ofNat (nat_lit 0)) (nat_lit 0)), (@Value.int (.ofNat (nat_lit 3)) (nat_lit 0)), (@Value.ref (nat_lit 80)), (@Value.bool true), (@Value.int (.ofNat (nat_lit 181)) (nat_lit 0)), (@Value.ref (nat_lit 81)), Value.none, (@Value.ref (nat_lit 82)), (@Value.ref (nat_lit 83)), (@Value.ref (nat_lit 84)), (@Value.int (.ofNat (nat_lit 281)) (nat_lit 0)), (@Value.int (.ofNat (nat_lit 17)) (nat_lit 0)), (@Value.str (@Str.ofString "/claim/cut.py") (nat_lit 282))])) (.mk []))
def o86 (P : Params) : Obj := (@Obj.mk (@Value.type "function") none (@Data.func (@FuncData.mk (@Str.ofString "__init__") (@Str.ofString "InvalidIndex.__init__") (defArgs (inClass (topS 5) 0)) (@FuncBody.stmts (defBody (inClass (topS 5) 0))) (defScope (inClass (topS 20) 0)) (nat_lit 3) [] Value.none Value.none Value.none (@Value.str (@Str.ofString "menuhouses.errors") (nat_lit 194)) none (@Value.ref (nat_lit 85)) Value.none (nat_lit 0))) (.mk []))
def o87 (P : Params) : Obj := (@Obj.mk (@Value.type "tuple") none (@Data.seq (.mk [(@Value.str (@Str.ofString "given") (nat_lit 284))]) (nat_lit 0)) (.mk []))
def o88 (P : Params) : Obj := (@Obj.mk (@Value.type "dict") none (@Data.dict (.mk [(@DictEntry.mk (@PyData.keyHash P (@Str.ofString "__module__")) (@Value.str (@Str.ofString "__module__") (nat_lit 271)) (@Value.str (@Str.ofString "menuhouses.errors") (nat_lit 194))), (@DictEntry.mk (@PyData.keyHash P (@Str.ofString "__firstlineno__")) (@Value.str (@Str.ofString "__firstlineno__") (nat_lit 275)) (@Value.int (.ofNat (nat_lit 15)) (nat_lit 274))), (@DictEntry.mk (@PyData.keyHash P (@Str.ofString "__init__")) (@Value.str (@Str.ofString "__init__") (nat_lit 283)) (@Value.ref (nat_lit 86))), (@DictEntry.mk (@PyData.keyHash P (@Str.ofString "__static_attributes__")) (@Value.str (@Str.ofString "__static_attributes__") (nat_lit 285)) (@Value.ref (nat_lit 87))), (@DictEntry.mk (@PyData.keyHash P (@Str.ofString "__doc__")) (@Value.str (@Str.ofString "__doc__") (nat_lit 286)) Value.none)]) (nat_lit 2)) (.mk []))
def o89 (P : Params) : Obj := (@Obj.mk (@Value.type "type") none (@Data.cls (@ClassData.mk (@Str.ofString "InvalidIndex") [(@Value.ref (nat_lit 31))] [(@Value.ref (nat_lit 89)), (@Value.ref (nat_lit 31)), (@Value.type "ValueError"), (@Value.type "Exception"), (@Value.type "BaseException"), (@Value.type "object")] (nat_lit 88) (@Str.ofString "InvalidIndex") true [] [] false none false)) (.mk [(some (@Value.ref (nat_lit 73))), none, (some (@Value.str (@Str.ofString "InvalidIndex") (nat_lit 264))), (some (@Value.str (@Str.ofString "InvalidIndex") (nat_lit 272))), (some (@Value.builtin "ValueError.__new__")), (some (@Value.bool true))]))
def o90 (P : Params) : Obj := (@Obj.mk (@Value.type "super") none (@Data.fields (.mk [(@Value.ref (nat_lit 89)), (@Value.ref (nat_lit 89)), (@Value.ref (nat_lit 89))])) (.mk []))
def o91 (P : Params) : Obj := (@Obj.mk (@Value.type "builtin_function_or_method") none (@Data.fields (.mk [(@Value.builtin "object.__init_subclass__"), (@Value.ref (nat_lit 89))])) (.mk []))
def o92 (P : Params) : Obj := (@Obj.mk (@Value.type "tuple") none (@Data.seq (.mk [(@Value.ref (nat_lit 31))]) (nat_lit 0)) (.mk []))
def o93 (P : Params) : Obj := (@Obj.mk (@Value.type "builtin_function_or_method") none (@Data.fields (.mk [(@Value.builtin "type.__prepare__"), (@Value.type "type")])) (.mk []))
def o94 (P : Params) : Obj := (@Obj.mk (@Value.type "dict") none (@Data.dict (.mk [(@DictEntry.mk (@PyData.keyHash P (@Str.ofString "__module__")) (@Value.str (@Str.ofString "__module__") (nat_lit 296)) (@Value.str (@Str.ofString "menuhouses.errors") (nat_lit 194))), (@DictEntry.mk (@PyData.keyHash P (@Str.ofString "__qualname__")) (@Value.str (@Str.ofString "__qualname__") (nat_lit 298)) (@Value.str (@Str.ofString "InvalidWord") (nat_lit 297))), (@DictEntry.mk (@PyData.keyHash P (@Str.ofString "__firstlineno__")) (@Value.str (@Str.ofString "__firstlineno__") (nat_lit 300)) (@Value.int (.ofNat (nat_lit 19)) (nat_lit 299))), (@DictEntry.mk (@PyData.keyHash P (@Str.ofString "__init__")) (@Value.str (@Str.ofString "__init__") (nat_lit 308)) (@Value.ref (nat_lit 105))), (@DictEntry.mk (@PyData.keyHash P (@Str.ofString "__static_attributes__")) (@Value.str (@Str.ofString "__static_attributes__") (nat_lit 310)) (@Value.ref (nat_lit 106)))]) (nat_lit 5)) (.mk []))
def o95 (P : Params) : Obj := (@Obj.mk (@Value.type "tuple") none (@Data.seq (.mk []) (nat_lit 0)) (.mk []))
def o96 (P : Params) : Obj := (@Obj.mk Value.none none (@Data.fields (.mk [(@Value.int (.ofNat (nat_lit 21)) (nat_lit 0)), (@Value.int (.ofNat (nat_lit 4)) (nat_lit 0)), (@Value.ref (nat_lit 104))])) (.mk []))
def o97 (P : Params) : Obj := (@Obj.mk (@Value.type "code") none (@Data.fields (.mk [(@Value.str (@Str.ofString "InvalidWord") (nat_lit 291)), (@Value.str (@Str.ofString "InvalidWord") (nat_lit 292)), (@Value.str (@Str.ofString "/claim/cut.py") (nat_lit 293)), (@Value.int (.ofNat (nat_lit 19)) (nat_lit 0)), (@Value.int (.ofNat (nat_lit 0)) (nat_lit 0)), (@Value.int (.ofNat (nat_lit 0)) (nat_lit 0)), (@Value.int (.ofNat (nat_lit 0)) (nat_lit 0)), (@Value.int (.ofNat (nat_lit 0)) (nat_lit 0)), (@Value.ref (nat_lit 95)), (@Value.bool false), (@Value.int (.ofNat (nat_lit 181)) (nat_lit 0)), (@Value.ref (nat_lit 96)), Value.none, Value.none, Value.none, Value.none, (@Value.int (.ofNat (nat_lit 294)) (nat_lit 0)), (@Value.int (.ofNat (nat_lit 19)) (nat_lit 0)), (@Value.str (@Str.ofString "/claim/cut.py") (nat_lit 295))])) (.mk []))
def o98 (P : Params) : Obj := (@Obj.mk (@Value.type "frame") none Data.plain (.mk [(some (@Value.ref (nat_lit 97))), (some (@Value.ref (nat_lit 3))), (some (@Value.ref (nat_lit 94))), none, (some (@Value.str (@Str.ofString "menuhouses.errors") (nat_lit 194))), none, (some (@Value.ref (nat_lit 0)))]))
def o99 (P : Params) : Obj := (@Obj.mk (@Value.type "tuple") none (@Data.seq (.mk []) (nat_lit 0)) (.mk []))
def o100 (P : Params) : Obj := (@Obj.mk Value.none none (@Data.fields (.mk [])) (.mk []))
def o101 (P : Params) : Obj := (@Obj.mk (@Value.type "tuple") none (@Data.seq (.mk [(@Value.str (@Str.ofString "self") (nat_lit 304)), (@Value.str (@Str.ofString "given") (nat_lit 305))]) (nat_lit 0)) (.mk []))
def o102 (P : Params) : Obj := (@Obj.mk (@Value.type "tuple") none (@Data.seq (.mk []) (nat_lit 0)) (.mk []))
def o103 (P : Params) : Obj := (@Obj.mk Value.none none (@Data.func (@FuncData.mk (@Str.ofString "__init__") (@Str.ofString "InvalidWord.__init__") (defArgs (inClass (topS 6) 0)) (@FuncBody.stmts (defBody (inClass (topS 6) 0))) (defScope (inClass (topS 20) 0)) (nat_lit 0) [] Value.none Value.none Value.none Value.none none Value.none Value.none (nat_lit 0))) (.mk []))
def o104 (P : Params) : Obj := (@Obj.mk (@Value.type "code") none (@Data.fields (.mk [(@Value.str (@Str.ofString "__init__") (nat_lit 301)), (@Value.str (@Str.ofString "InvalidWord.__init__") (nat_lit 302)), (@Value.str (@Str.ofString "/claim/cut.py") (nat_lit 303)), (@Value.int (.ofNat (nat_lit 21)) (nat_lit 0)), (@Value.int (.ofNat (nat_lit 2)) (nat_lit 0)), (@Value.int (.ofNat (nat_lit 0)) (nat_lit 0)), (@Value.int (.ofNat (nat_lit 0)) (nat_lit 0)), (@Value.int (.ofNat (nat_lit 3)) (nat_lit 0)), (@Value.ref (nat_lit 99)), (@Value.bool true), (@Value.int (.ofNat (nat_lit 181)) (nat_lit 0)), (@Value.ref (nat_lit 100)), Value.none, (@Value.ref (nat_lit 101)), (@Value.ref (nat_lit 102)), (@Value.ref (nat_lit 103)), (@Value.int (.ofNat (nat_lit 306)) (nat_lit 0)), (@Value.int (.ofNat (nat_lit 21)) (nat_lit 0)), (@Value.str (@Str.ofString "/claim/cut.py") (nat_lit 307))])) (.mk []))
def o105 (P : Params) : Obj := (@Obj.mk (@Value.type "function") none (@Data.func (@FuncData.mk (@Str.ofString "__init__") (@Str.ofString "InvalidWord.__init__") (defArgs (inClass (topS 6) 0)) (@FuncBody.stmts (defBody (inClass (topS 6) 0))) (defScope (inClass (topS 20) 0)) (nat_lit 3) [] Value.none Value.none Value.none (@Value.str (@Str.ofString "menuhouses.errors") (nat_lit 194)) none (@Value.ref (nat_lit 104)) Value.none (nat_lit 0))) (.mk []))
def o106 (P : Params) : Obj := (@Obj.mk (@Value.type "tuple") none (@Data.seq (.mk [(@Value.str (@Str.ofString "given") (nat_lit 309))]) (nat_lit 0)) (.mk []))
def o107 (P : Params) : Obj := (@Obj.mk (@Value.type "dict") none (@Data.dict (.mk [(@DictEntry.mk (@PyData.keyHash P (@Str.ofString "__module__")) (@Value.str (@Str.ofString "__module__") (nat_lit 296)) (@Value.str (@Str.ofString "menuhouses.errors") (nat_lit 194))), (@DictEntry.mk (@PyData.keyHash P (@Str.ofString "__firstlineno__")) (@Value.str (@Str.ofString "__firstlineno__") (nat_lit 300)) (@Value.int (.ofNat (nat_lit 19)) (nat_lit 299))), (@DictEntry.mk (@PyData.keyHash P (@Str.ofString "__init__")) (@Value.str (@Str.ofString "__init__") (nat_lit 308)) (@Value.ref (nat_lit 105))), (@DictEntry.mk (@PyData.keyHash P (@Str.ofString "__static_attributes__")) (@Value.str (@Str.ofString "__static_attributes__") (nat_lit 310)) (@Value.ref (nat_lit 106))), (@DictEntry.mk (@PyData.keyHash P (@Str.ofString "__doc__")) (@Value.str (@Str.ofString "__doc__") (nat_lit 311)) Value.none)]) (nat_lit 2)) (.mk []))
def o108 (P : Params) : Obj := (@Obj.mk (@Value.type "type") none (@Data.cls (@ClassData.mk (@Str.ofString "InvalidWord") [(@Value.ref (nat_lit 31))] [(@Value.ref (nat_lit 108)), (@Value.ref (nat_lit 31)), (@Value.type "ValueError"), (@Value.type "Exception"), (@Value.type "BaseException"), (@Value.type "object")] (nat_lit 107) (@Str.ofString "InvalidWord") true [] [] false none false)) (.mk [(some (@Value.ref (nat_lit 92))), none, (some (@Value.str (@Str.ofString "InvalidWord") (nat_lit 289))), (some (@Value.str (@Str.ofString "InvalidWord") (nat_lit 297))), (some (@Value.builtin "ValueError.__new__")), (some (@Value.bool true))]))
def o109 (P : Params) : Obj := (@Obj.mk (@Value.type "super") none (@Data.fields (.mk [(@Value.ref (nat_lit 108)), (@Value.ref (nat_lit 108)), (@Value.ref (nat_lit 108))])) (.mk []))
def o110 (P : Params) : Obj := (@Obj.mk (@Value.type "builtin_function_or_method") none (@Data.fields (.mk [(@Value.builtin "object.__init_subclass__"), (@Value.ref (nat_lit 108))])) (.mk []))
def o3v1 (P : Params) : Obj := (@Obj.mk (@Value.type "dict") none (@Data.dict (.mk [(@DictEntry.mk (@PyData.keyHash P (@Str.ofString "__name__")) (@Value.str (@Str.ofString "__name__") (nat_lit 165)) (@Value.str (@Str.ofString "menuhouses.errors") (nat_lit 194))), (@DictEntry.mk (@PyData.keyHash P (@Str.ofString "__doc__")) (@Value.str (@Str.ofString "__doc__") (nat_lit 166)) Value.none), (@DictEntry.mk (@PyData.keyHash P (@Str.ofString "__package__")) (@Value.str (@Str.ofString "__package__") (nat_lit 167)) Value.none), (@DictEntry.mk (@PyData.keyHash P (@Str.ofString "__loader__")) (@Value.str (@Str.ofString "__loader__") (nat_lit 168)) (@Value.builtin "__main__.__loader__#opaque")), (@DictEntry.mk (@PyData.keyHash P (@Str.ofString "__spec__")) (@Value.str (@Str.ofString "__spec__") (nat_lit 169)) Value.none), (@DictEntry.mk (@PyData.keyHash P (@Str.ofString "__annotations__")) (@Value.str (@Str.ofString "__annotations__") (nat_lit 170)) (@Value.ref (nat_lit 6))), (@DictEntry.mk (@PyData.keyHash P (@Str.ofString "__builtins__")) (@Value.str (@Str.ofString "__builtins__") (nat_lit 171)) (@Value.ref (nat_lit 4))), (@DictEntry.mk (@PyData.keyHash P (@Str.ofString "__file__")) (@Value.str (@Str.ofString "__file__") (nat_lit 173)) (@Value.str (@Str.ofString "/claim/cut.py") (nat_lit 172))), (@DictEntry.mk (@PyData.keyHash P (@Str.ofString "__cached__")) (@Value.str (@Str.ofString "__cached__") (nat_lit 174)) Value.none), (@DictEntry.mk (@PyData.keyHash P (@Str.ofString "_wall")) (@Value.str (@Str.ofString "_wall") (nat_lit 193)) (@Value.ref (nat_lit 21))), (@DictEntry.mk (@PyData.keyHash P (@Str.ofString "WrongValue")) (@Value.str (@Str.ofString "WrongValue") (nat_lit 213)) (@Value.ref (nat_lit 31))), (@DictEntry.mk (@PyData.keyHash P (@Str.ofString "InvalidText")) (@Value.str (@Str.ofString "InvalidText") (nat_lit 238)) (@Value.ref (nat_lit 51))), (@DictEntry.mk (@PyData.keyHash P (@Str.ofString "InvalidMarks")) (@Value.str (@Str.ofString "InvalidMarks") (nat_lit 263)) (@Value.ref (nat_lit 70))), (@DictEntry.mk (@PyData.keyHash P (@Str.ofString "InvalidIndex")) (@Value.str (@Str.ofString "InvalidIndex") (nat_lit 288)) (@Value.ref (nat_lit 89))), (@DictEntry.mk (@PyData.keyHash P (@Str.ofString "InvalidWord")) (@Value.str (@Str.ofString "InvalidWord") (nat_lit 313)) (@Value.ref (nat_lit 108))), (@DictEntry.mk (@PyData.keyHash P (@Str.ofString "NotARanking")) (@Value.str (@Str.ofString "NotARanking") (nat_lit 338)) (@Value.ref (nat_lit 127))), (@DictEntry.mk (@PyData.keyHash P (@Str.ofString "NotAHouse")) (@Value.str (@Str.ofString "NotAHouse") (nat_lit 363)) (@Value.ref (nat_lit 146))), (@DictEntry.mk (@PyData.keyHash P (@Str.ofString "NotALook")) (@Value.str (@Str.ofString "NotALook") (nat_lit 388)) (@Value.ref (nat_lit 165))), (@DictEntry.mk (@PyData.keyHash P (@Str.ofString "NotLooks")) (@Value.str (@Str.ofString "NotLooks") (nat_lit 413)) (@Value.ref (nat_lit 184))), (@DictEntry.mk (@PyData.keyHash P (@Str.ofString "OtherThings")) (@Value.str (@Str.ofString "OtherThings") (nat_lit 438)) (@Value.ref (nat_lit 203)))]) (nat_lit 20)) (.mk []))
def o12v2 (P : Params) : Obj := (@Obj.mk Value.none none (@Data.fields (.mk [(@Value.int (.ofNat (nat_lit 1)) (nat_lit 0)), (@Value.int (.ofNat (nat_lit 0)) (nat_lit 0)), (@Value.ref (nat_lit 20)), (@Value.int (.ofNat (nat_lit 5)) (nat_lit 0)), (@Value.int (.ofNat (nat_lit 0)) (nat_lit 0)), (@Value.ref (nat_lit 27)), (@Value.int (.ofNat (nat_lit 7)) (nat_lit 0)), (@Value.int (.ofNat (nat_lit 0)) (nat_lit 0)), (@Value.ref (nat_lit 40)), (@Value.int (.ofNat (nat_lit 11)) (nat_lit 0)), (@Value.int (.ofNat (nat_lit 0)) (nat_lit 0)), (@Value.ref (nat_lit 59)), (@Value.int (.ofNat (nat_lit 15)) (nat_lit 0)), (@Value.int (.ofNat (nat_lit 0)) (nat_lit 0)), (@Value.ref (nat_lit 78)), (@Value.int (.ofNat (nat_lit 19)) (nat_lit 0)), (@Value.int (.ofNat (nat_lit 0)) (nat_lit 0)), (@Value.ref (nat_lit 97)), (@Value.int (.ofNat (nat_lit 23)) (nat_lit 0)), (@Value.int (.ofNat (nat_lit 0)) (nat_lit 0)), (@Value.ref (nat_lit 116)), (@Value.int (.ofNat (nat_lit 27)) (nat_lit 0)), (@Value.int (.ofNat (nat_lit 0)) (nat_lit 0)), (@Value.ref (nat_lit 135)), (@Value.int (.ofNat (nat_lit 31)) (nat_lit 0)), (@Value.int (.ofNat (nat_lit 0)) (nat_lit 0)), (@Value.ref (nat_lit 154)), (@Value.int (.ofNat (nat_lit 35)) (nat_lit 0)), (@Value.int (.ofNat (nat_lit 0)) (nat_lit 0)), (@Value.ref (nat_lit 173)), (@Value.int (.ofNat (nat_lit 39)) (nat_lit 0)), (@Value.int (.ofNat (nat_lit 0)) (nat_lit 0)), (@Value.ref (nat_lit 192))])) (.mk []))
def o31v1 (P : Params) : Obj := (@Obj.mk (@Value.type "type") none (@Data.cls (@ClassData.mk (@Str.ofString "WrongValue") [(@Value.type "ValueError")] [(@Value.ref (nat_lit 31)), (@Value.type "ValueError"), (@Value.type "Exception"), (@Value.type "BaseException"), (@Value.type "object")] (nat_lit 30) (@Str.ofString "WrongValue") true [] [(@Value.ref (nat_lit 51)), (@Value.ref (nat_lit 70)), (@Value.ref (nat_lit 89)), (@Value.ref (nat_lit 108)), (@Value.ref (nat_lit 127)), (@Value.ref (nat_lit 146)), (@Value.ref (nat_lit 165)), (@Value.ref (nat_lit 184)), (@Value.ref (nat_lit 203))] false none false)) (.mk [(some (@Value.ref (nat_lit 22))), none, (some (@Value.str (@Str.ofString "WrongValue") (nat_lit 196))), (some (@Value.str (@Str.ofString "WrongValue") (nat_lit 204))), (some (@Value.builtin "ValueError.__new__")), (some (@Value.bool true))]))
def o111 (P : Params) : Obj := (@Obj.mk (@Value.type "tuple") none (@Data.seq (.mk [(@Value.ref (nat_lit 31))]) (nat_lit 0)) (.mk []))
def o112 (P : Params) : Obj := (@Obj.mk (@Value.type "builtin_function_or_method") none (@Data.fields (.mk [(@Value.builtin "type.__prepare__"), (@Value.type "type")])) (.mk []))
def o113 (P : Params) : Obj := (@Obj.mk (@Value.type "dict") none (@Data.dict (.mk [(@DictEntry.mk (@PyData.keyHash P (@Str.ofString "__module__")) (@Value.str (@Str.ofString "__module__") (nat_lit 321)) (@Value.str (@Str.ofString "menuhouses.errors") (nat_lit 194))), (@DictEntry.mk (@PyData.keyHash P (@Str.ofString "__qualname__")) (@Value.str (@Str.ofString "__qualname__") (nat_lit 323)) (@Value.str (@Str.ofString "NotARanking") (nat_lit 322))), (@DictEntry.mk (@PyData.keyHash P (@Str.ofString "__firstlineno__")) (@Value.str (@Str.ofString "__firstlineno__") (nat_lit 325)) (@Value.int (.ofNat (nat_lit 23)) (nat_lit 324))), (@DictEntry.mk (@PyData.keyHash P (@Str.ofString "__init__")) (@Value.str (@Str.ofString "__init__") (nat_lit 333)) (@Value.ref (nat_lit 124))), (@DictEntry.mk (@PyData.keyHash P (@Str.ofString "__static_attributes__")) (@Value.str (@Str.ofString "__static_attributes__") (nat_lit 335)) (@Value.ref (nat_lit 125)))]) (nat_lit 5)) (.mk []))
def o114 (P : Params) : Obj := (@Obj.mk (@Value.type "tuple") none (@Data.seq (.mk []) (nat_lit 0)) (.mk []))
def o115 (P : Params) : Obj := (@Obj.mk Value.none none (@Data.fields (.mk [(@Value.int (.ofNat (nat_lit 25)) (nat_lit 0)), (@Value.int (.ofNat (nat_lit 4)) (nat_lit 0)), (@Value.ref (nat_lit 123))])) (.mk []))
def o116 (P : Params) : Obj := (@Obj.mk (@Value.type "code") none (@Data.fields (.mk [(@Value.str (@Str.ofString "NotARanking") (nat_lit 316)), (@Value.str (@Str.ofString "NotARanking") (nat_lit 317)), (@Value.str (@Str.ofString "/claim/cut.py") (nat_lit 318)), (@Value.int (.ofNat (nat_lit 23)) (nat_lit 0)), (@Value.int (.ofNat (nat_lit 0)) (nat_lit 0)), (@Value.int (.ofNat (nat_lit 0)) (nat_lit 0)), (@Value.int (.ofNat (nat_lit 0)) (nat_lit 0)), (@Value.int (.ofNat (nat_lit 0)) (nat_lit 0)), (@Value.ref (nat_lit 114)), (@Value.bool false), (@Value.int (.ofNat (nat_lit 181)) (nat_lit 0)), (@Value.ref (nat_lit 115)), Value.none, Value.none, Value.none, Value.none, (@Value.int (.ofNat (nat_lit 319)) (nat_lit 0)), (@Value.int (.ofNat (nat_lit 23)) (nat_lit 0)), (@Value.str (@Str.ofString "/claim/cut.py") (nat_lit 320))])) (.mk []))
def o117 (P : Params) : Obj := (@Obj.mk (@Value.type "frame") none Data.plain (.mk [(some (@Value.ref (nat_lit 116))), (some (@Value.ref (nat_lit 3))), (some (@Value.ref (nat_lit 113))), none, (some (@Value.str (@Str.ofString "menuhouses.errors") (nat_lit 194))), none, (some (@Value.ref (nat_lit 0)))]))
def o118 (P : Params) : Obj := (@Obj.mk (@Value.type "tuple") none (@Data.seq (.mk []) (nat_lit 0)) (.mk []))
def o119 (P : Params) : Obj := (@Obj.mk Value.none none (@Data.fields (.mk [])) (.mk []))
def o120 (P : Params) : Obj := (@Obj.mk (@Value.type "tuple") none (@Data.seq (.mk [(@Value.str (@Str.ofString "self") (nat_lit 329)), (@Value.str (@Str.ofString "given") (nat_lit 330))]) (nat_lit 0)) (.mk []))
def o121 (P : Params) : Obj := (@Obj.mk (@Value.type "tuple") none (@Data.seq (.mk []) (nat_lit 0)) (.mk []))
def o122 (P : Params) : Obj := (@Obj.mk Value.none none (@Data.func (@FuncData.mk (@Str.ofString "__init__") (@Str.ofString "NotARanking.__init__") (defArgs (inClass (topS 7) 0)) (@FuncBody.stmts (defBody (inClass (topS 7) 0))) (defScope (inClass (topS 20) 0)) (nat_lit 0) [] Value.none Value.none Value.none Value.none none Value.none Value.none (nat_lit 0))) (.mk []))
def o123 (P : Params) : Obj := (@Obj.mk (@Value.type "code") none (@Data.fields (.mk [(@Value.str (@Str.ofString "__init__") (nat_lit 326)), (@Value.str (@Str.ofString "NotARanking.__init__") (nat_lit 327)), (@Value.str (@Str.ofString "/claim/cut.py") (nat_lit 328)), (@Value.int (.ofNat (nat_lit 25)) (nat_lit 0)), (@Value.int (.ofNat (nat_lit 2)) (nat_lit 0)), (@Value.int (.ofNat (nat_lit 0)) (nat_lit 0)), (@Value.int (.ofNat (nat_lit 0)) (nat_lit 0)), (@Value.int (.ofNat (nat_lit 3)) (nat_lit 0)), (@Value.ref (nat_lit 118)), (@Value.bool true), (@Value.int (.ofNat (nat_lit 181)) (nat_lit 0)), (@Value.ref (nat_lit 119)), Value.none, (@Value.ref (nat_lit 120)), (@Value.ref (nat_lit 121)), (@Value.ref (nat_lit 122)), (@Value.int (.ofNat (nat_lit 331)) (nat_lit 0)), (@Value.int (.ofNat (nat_lit 25)) (nat_lit 0)), (@Value.str (@Str.ofString "/claim/cut.py") (nat_lit 332))])) (.mk []))
def o124 (P : Params) : Obj := (@Obj.mk (@Value.type "function") none (@Data.func (@FuncData.mk (@Str.ofString "__init__") (@Str.ofString "NotARanking.__init__") (defArgs (inClass (topS 7) 0)) (@FuncBody.stmts (defBody (inClass (topS 7) 0))) (defScope (inClass (topS 20) 0)) (nat_lit 3) [] Value.none Value.none Value.none (@Value.str (@Str.ofString "menuhouses.errors") (nat_lit 194)) none (@Value.ref (nat_lit 123)) Value.none (nat_lit 0))) (.mk []))
def o125 (P : Params) : Obj := (@Obj.mk (@Value.type "tuple") none (@Data.seq (.mk [(@Value.str (@Str.ofString "given") (nat_lit 334))]) (nat_lit 0)) (.mk []))
def o126 (P : Params) : Obj := (@Obj.mk (@Value.type "dict") none (@Data.dict (.mk [(@DictEntry.mk (@PyData.keyHash P (@Str.ofString "__module__")) (@Value.str (@Str.ofString "__module__") (nat_lit 321)) (@Value.str (@Str.ofString "menuhouses.errors") (nat_lit 194))), (@DictEntry.mk (@PyData.keyHash P (@Str.ofString "__firstlineno__")) (@Value.str (@Str.ofString "__firstlineno__") (nat_lit 325)) (@Value.int (.ofNat (nat_lit 23)) (nat_lit 324))), (@DictEntry.mk (@PyData.keyHash P (@Str.ofString "__init__")) (@Value.str (@Str.ofString "__init__") (nat_lit 333)) (@Value.ref (nat_lit 124))), (@DictEntry.mk (@PyData.keyHash P (@Str.ofString "__static_attributes__")) (@Value.str (@Str.ofString "__static_attributes__") (nat_lit 335)) (@Value.ref (nat_lit 125))), (@DictEntry.mk (@PyData.keyHash P (@Str.ofString "__doc__")) (@Value.str (@Str.ofString "__doc__") (nat_lit 336)) Value.none)]) (nat_lit 2)) (.mk []))
def o127 (P : Params) : Obj := (@Obj.mk (@Value.type "type") none (@Data.cls (@ClassData.mk (@Str.ofString "NotARanking") [(@Value.ref (nat_lit 31))] [(@Value.ref (nat_lit 127)), (@Value.ref (nat_lit 31)), (@Value.type "ValueError"), (@Value.type "Exception"), (@Value.type "BaseException"), (@Value.type "object")] (nat_lit 126) (@Str.ofString "NotARanking") true [] [] false none false)) (.mk [(some (@Value.ref (nat_lit 111))), none, (some (@Value.str (@Str.ofString "NotARanking") (nat_lit 314))), (some (@Value.str (@Str.ofString "NotARanking") (nat_lit 322))), (some (@Value.builtin "ValueError.__new__")), (some (@Value.bool true))]))
def o128 (P : Params) : Obj := (@Obj.mk (@Value.type "super") none (@Data.fields (.mk [(@Value.ref (nat_lit 127)), (@Value.ref (nat_lit 127)), (@Value.ref (nat_lit 127))])) (.mk []))
def o129 (P : Params) : Obj := (@Obj.mk (@Value.type "builtin_function_or_method") none (@Data.fields (.mk [(@Value.builtin "object.__init_subclass__"), (@Value.ref (nat_lit 127))])) (.mk []))
def o130 (P : Params) : Obj := (@Obj.mk (@Value.type "tuple") none (@Data.seq (.mk [(@Value.ref (nat_lit 31))]) (nat_lit 0)) (.mk []))
def o131 (P : Params) : Obj := (@Obj.mk (@Value.type "builtin_function_or_method") none (@Data.fields (.mk [(@Value.builtin "type.__prepare__"), (@Value.type "type")])) (.mk []))
def o132 (P : Params) : Obj := (@Obj.mk (@Value.type "dict") none (@Data.dict (.mk [(@DictEntry.mk (@PyData.keyHash P (@Str.ofString "__module__")) (@Value.str (@Str.ofString "__module__") (nat_lit 346)) (@Value.str (@Str.ofString "menuhouses.errors") (nat_lit 194))), (@DictEntry.mk (@PyData.keyHash P (@Str.ofString "__qualname__")) (@Value.str (@Str.ofString "__qualname__") (nat_lit 348)) (@Value.str (@Str.ofString "NotAHouse") (nat_lit 347))), (@DictEntry.mk (@PyData.keyHash P (@Str.ofString "__firstlineno__")) (@Value.str (@Str.ofString "__firstlineno__") (nat_lit 350)) (@Value.int (.ofNat (nat_lit 27)) (nat_lit 349))), (@DictEntry.mk (@PyData.keyHash P (@Str.ofString "__init__")) (@Value.str (@Str.ofString "__init__") (nat_lit 358)) (@Value.ref (nat_lit 143))), (@DictEntry.mk (@PyData.keyHash P (@Str.ofString "__static_attributes__")) (@Value.str (@Str.ofString "__static_attributes__") (nat_lit 360)) (@Value.ref (nat_lit 144)))]) (nat_lit 5)) (.mk []))
def o133 (P : Params) : Obj := (@Obj.mk (@Value.type "tuple") none (@Data.seq (.mk []) (nat_lit 0)) (.mk []))
def o134 (P : Params) : Obj := (@Obj.mk Value.none none (@Data.fields (.mk [(@Value.int (.ofNat (nat_lit 29)) (nat_lit 0)), (@Value.int (.ofNat (nat_lit 4)) (nat_lit 0)), (@Value.ref (nat_lit 142))])) (.mk []))
def o135 (P : Params) : Obj := (@Obj.mk (@Value.type "code") none (@Data.fields (.mk [(@Value.str (@Str.ofString "NotAHouse") (nat_lit 341)), (@Value.str (@Str.ofString "NotAHouse") (nat_lit 342)), (@Value.str (@Str.ofString "/claim/cut.py") (nat_lit 343)), (@Value.int (.ofNat (nat_lit 27)) (nat_lit 0)), (@Value.int (.ofNat (nat_lit 0)) (nat_lit 0)), (@Value.int (.ofNat (nat_lit 0)) (nat_lit 0)), (@Value.int (.ofNat (nat_lit 0)) (nat_lit 0)), (@Value.int (.ofNat (nat_lit 0)) (nat_lit 0)), (@Value.ref (nat_lit 133)), (@Value.bool false), (@Value.int (.ofNat (nat_lit 181)) (nat_lit 0)), (@Value.ref (nat_lit 134)), Value.none, Value.none, Value.none, Value.none, (@Value.int (.ofNat (nat_lit 344)) (nat_lit 0)), (@Value.int (.ofNat (nat_lit 27)) (nat_lit 0)), (@Value.str (@Str.ofString "/claim/cut.py") (nat_lit 345))])) (.mk []))
def o136 (P : Params) : Obj := (@Obj.mk (@Value.type "frame") none Data.plain (.mk [(some (@Value.ref (nat_lit 135))), (some (@Value.ref (nat_lit 3))), (some (@Value.ref (nat_lit 132))), none, (some (@Value.str (@Str.ofString "menuhouses.errors") (nat_lit 194))), none, (some (@Value.ref (nat_lit 0)))]))
def o137 (P : Params) : Obj := (@Obj.mk (@Value.type "tuple") none (@Data.seq (.mk []) (nat_lit 0)) (.mk []))
def o138 (P : Params) : Obj := (@Obj.mk Value.none none (@Data.fields (.mk [])) (.mk []))
def o139 (P : Params) : Obj := (@Obj.mk (@Value.type "tuple") none (@Data.seq (.mk [(@Value.str (@Str.ofString "self") (nat_lit 354)), (@Value.str (@Str.ofString "given") (nat_lit 355))]) (nat_lit 0)) (.mk []))
def o140 (P : Params) : Obj := (@Obj.mk (@Value.type "tuple") none (@Data.seq (.mk []) (nat_lit 0)) (.mk []))
def o141 (P : Params) : Obj := (@Obj.mk Value.none none (@Data.func (@FuncData.mk (@Str.ofString "__init__") (@Str.ofString "NotAHouse.__init__") (defArgs (inClass (topS 8) 0)) (@FuncBody.stmts (defBody (inClass (topS 8) 0))) (defScope (inClass (topS 20) 0)) (nat_lit 0) [] Value.none Value.none Value.none Value.none none Value.none Value.none (nat_lit 0))) (.mk []))
def o142 (P : Params) : Obj := (@Obj.mk (@Value.type "code") none (@Data.fields (.mk [(@Value.str (@Str.ofString "__init__") (nat_lit 351)), (@Value.str (@Str.ofString "NotAHouse.__init__") (nat_lit 352)), (@Value.str (@Str.ofString "/claim/cut.py") (nat_lit 353)), (@Value.int (.ofNat (nat_lit 29)) (nat_lit 0)), (@Value.int (.ofNat (nat_lit 2)) (nat_lit 0)), (@Value.int (.ofNat (nat_lit 0)) (nat_lit 0)), (@Value.int (.ofNat (nat_lit 0)) (nat_lit 0)), (@Value.int (.ofNat (nat_lit 3)) (nat_lit 0)), (@Value.ref (nat_lit 137)), (@Value.bool true), (@Value.int (.ofNat (nat_lit 181)) (nat_lit 0)), (@Value.ref (nat_lit 138)), Value.none, (@Value.ref (nat_lit 139)), (@Value.ref (nat_lit 140)), (@Value.ref (nat_lit 141)), (@Value.int (.ofNat (nat_lit 356)) (nat_lit 0)), (@Value.int (.ofNat (nat_lit 29)) (nat_lit 0)), (@Value.str (@Str.ofString "/claim/cut.py") (nat_lit 357))])) (.mk []))
def o143 (P : Params) : Obj := (@Obj.mk (@Value.type "function") none (@Data.func (@FuncData.mk (@Str.ofString "__init__") (@Str.ofString "NotAHouse.__init__") (defArgs (inClass (topS 8) 0)) (@FuncBody.stmts (defBody (inClass (topS 8) 0))) (defScope (inClass (topS 20) 0)) (nat_lit 3) [] Value.none Value.none Value.none (@Value.str (@Str.ofString "menuhouses.errors") (nat_lit 194)) none (@Value.ref (nat_lit 142)) Value.none (nat_lit 0))) (.mk []))
def o144 (P : Params) : Obj := (@Obj.mk (@Value.type "tuple") none (@Data.seq (.mk [(@Value.str (@Str.ofString "given") (nat_lit 359))]) (nat_lit 0)) (.mk []))
def o145 (P : Params) : Obj := (@Obj.mk (@Value.type "dict") none (@Data.dict (.mk [(@DictEntry.mk (@PyData.keyHash P (@Str.ofString "__module__")) (@Value.str (@Str.ofString "__module__") (nat_lit 346)) (@Value.str (@Str.ofString "menuhouses.errors") (nat_lit 194))), (@DictEntry.mk (@PyData.keyHash P (@Str.ofString "__firstlineno__")) (@Value.str (@Str.ofString "__firstlineno__") (nat_lit 350)) (@Value.int (.ofNat (nat_lit 27)) (nat_lit 349))), (@DictEntry.mk (@PyData.keyHash P (@Str.ofString "__init__")) (@Value.str (@Str.ofString "__init__") (nat_lit 358)) (@Value.ref (nat_lit 143))), (@DictEntry.mk (@PyData.keyHash P (@Str.ofString "__static_attributes__")) (@Value.str (@Str.ofString "__static_attributes__") (nat_lit 360)) (@Value.ref (nat_lit 144))), (@DictEntry.mk (@PyData.keyHash P (@Str.ofString "__doc__")) (@Value.str (@Str.ofString "__doc__") (nat_lit 361)) Value.none)]) (nat_lit 2)) (.mk []))
def o146 (P : Params) : Obj := (@Obj.mk (@Value.type "type") none (@Data.cls (@ClassData.mk (@Str.ofString "NotAHouse") [(@Value.ref (nat_lit 31))] [(@Value.ref (nat_lit 146)), (@Value.ref (nat_lit 31)), (@Value.type "ValueError"), (@Value.type "Exception"), (@Value.type "BaseException"), (@Value.type "object")] (nat_lit 145) (@Str.ofString "NotAHouse") true [] [] false none false)) (.mk [(some (@Value.ref (nat_lit 130))), none, (some (@Value.str (@Str.ofString "NotAHouse") (nat_lit 339))), (some (@Value.str (@Str.ofString "NotAHouse") (nat_lit 347))), (some (@Value.builtin "ValueError.__new__")), (some (@Value.bool true))]))
def o147 (P : Params) : Obj := (@Obj.mk (@Value.type "super") none (@Data.fields (.mk [(@Value.ref (nat_lit 146)), (@Value.ref (nat_lit 146)), (@Value.ref (nat_lit 146))])) (.mk []))
def o148 (P : Params) : Obj := (@Obj.mk (@Value.type "builtin_function_or_method") none (@Data.fields (.mk [(@Value.builtin "object.__init_subclass__"), (@Value.ref (nat_lit 146))])) (.mk []))
def o149 (P : Params) : Obj := (@Obj.mk (@Value.type "tuple") none (@Data.seq (.mk [(@Value.ref (nat_lit 31))]) (nat_lit 0)) (.mk []))
def o150 (P : Params) : Obj := (@Obj.mk (@Value.type "builtin_function_or_method") none (@Data.fields (.mk [(@Value.builtin "type.__prepare__"), (@Value.type "type")])) (.mk []))
def o151 (P : Params) : Obj := (@Obj.mk (@Value.type "dict") none (@Data.dict (.mk [(@DictEntry.mk (@PyData.keyHash P (@Str.ofString "__module__")) (@Value.str (@Str.ofString "__module__") (nat_lit 371)) (@Value.str (@Str.ofString "menuhouses.errors") (nat_lit 194))), (@DictEntry.mk (@PyData.keyHash P (@Str.ofString "__qualname__")) (@Value.str (@Str.ofString "__qualname__") (nat_lit 373)) (@Value.str (@Str.ofString "NotALook") (nat_lit 372))), (@DictEntry.mk (@PyData.keyHash P (@Str.ofString "__firstlineno__")) (@Value.str (@Str.ofString "__firstlineno__") (nat_lit 375)) (@Value.int (.ofNat (nat_lit 31)) (nat_lit 374))), (@DictEntry.mk (@PyData.keyHash P (@Str.ofString "__init__")) (@Value.str (@Str.ofString "__init__") (nat_lit 383)) (@Value.ref (nat_lit 162))), (@DictEntry.mk (@PyData.keyHash P (@Str.ofString "__static_attributes__")) (@Value.str (@Str.ofString "__static_attributes__") (nat_lit 385)) (@Value.ref (nat_lit 163)))]) (nat_lit 5)) (.mk []))
def o152 (P : Params) : Obj := (@Obj.mk (@Value.type "tuple") none (@Data.seq (.mk []) (nat_lit 0)) (.mk []))
def o153 (P : Params) : Obj := (@Obj.mk Value.none none (@Data.fields (.mk [(@Value.int (.ofNat (nat_lit 33)) (nat_lit 0)), (@Value.int (.ofNat (nat_lit 4)) (nat_lit 0)), (@Value.ref (nat_lit 161))])) (.mk []))
def o154 (P : Params) : Obj := (@Obj.mk (@Value.type "code") none (@Data.fields (.mk [(@Value.str (@Str.ofString "NotALook") (nat_lit 366)), (@Value.str (@Str.ofString "NotALook") (nat_lit 367)), (@Value.str (@Str.ofString "/claim/cut.py") (nat_lit 368)), (@Value.int (.ofNat (nat_lit 31)) (nat_lit 0)), (@Value.int (.ofNat (nat_lit 0)) (nat_lit 0)), (@Value.int (.ofNat (nat_lit 0)) (nat_lit 0)), (@Value.int (.ofNat (nat_lit 0)) (nat_lit 0)), (@Value.int (.ofNat (nat_lit 0)) (nat_lit 0)), (@Value.ref (nat_lit 152)), (@Value.bool false), (@Value.int (.ofNat (nat_lit 181)) (nat_lit 0)), (@Value.ref (nat_lit 153)), Value.none, Value.none, Value.none, Value.none, (@Value.int (.ofNat (nat_lit 369)) (nat_lit 0)), (@Value.int (.ofNat (nat_lit 31)) (nat_lit 0)), (@Value.str (@Str.ofString "/claim/cut.py") (nat_lit 370))])) (.mk []))
def o155 (P : Params) : Obj := (@Obj.mk (@Value.type "frame") none Data.plain (.mk [(some (@Value.ref (nat_lit 154))), (some (@Value.ref (nat_lit 3))), (some (@Value.ref (nat_lit 151))), none, (some (@Value.str (@Str.ofString "menuhouses.errors") (nat_lit 194))), none, (some (@Value.ref (nat_lit 0)))]))
def o156 (P : Params) : Obj := (@Obj.mk (@Value.type "tuple") none (@Data.seq (.mk []) (nat_lit 0)) (.mk []))
def o157 (P : Params) : Obj := (@Obj.mk Value.none none (@Data.fields (.mk [])) (.mk []))
def o158 (P : Params) : Obj := (@Obj.mk (@Value.type "tuple") none (@Data.seq (.mk [(@Value.str (@Str.ofString "self") (nat_lit 379)), (@Value.str (@Str.ofString "given") (nat_lit 380))]) (nat_lit 0)) (.mk []))
def o159 (P : Params) : Obj := (@Obj.mk (@Value.type "tuple") none (@Data.seq (.mk []) (nat_lit 0)) (.mk []))
def o160 (P : Params) : Obj := (@Obj.mk Value.none none (@Data.func (@FuncData.mk (@Str.ofString "__init__") (@Str.ofString "NotALook.__init__") (defArgs (inClass (topS 9) 0)) (@FuncBody.stmts (defBody (inClass (topS 9) 0))) (defScope (inClass (topS 20) 0)) (nat_lit 0) [] Value.none Value.none Value.none Value.none none Value.none Value.none (nat_lit 0))) (.mk []))
def o161 (P : Params) : Obj := (@Obj.mk (@Value.type "code") none (@Data.fields (.mk [(@Value.str (@Str.ofString "__init__") (nat_lit 376)), (@Value.str (@Str.ofString "NotALook.__init__") (nat_lit 377)), (@Value.str (@Str.ofString "/claim/cut.py") (nat_lit 378)), (@Value.int (.ofNat (nat_lit 33)) (nat_lit 0)), (@Value.int (.ofNat (nat_lit 2)) (nat_lit 0)), (@Value.int (.ofNat (nat_lit 0)) (nat_lit 0)), (@Value.int (.ofNat (nat_lit 0)) (nat_lit 0)), (@Value.int (.ofNat (nat_lit 3)) (nat_lit 0)), (@Value.ref (nat_lit 156)), (@Value.bool true), (@Value.int (.ofNat (nat_lit 181)) (nat_lit 0)), (@Value.ref (nat_lit 157)), Value.none, (@Value.ref (nat_lit 158)), (@Value.ref (nat_lit 159)), (@Value.ref (nat_lit 160)), (@Value.int (.ofNat (nat_lit 381)) (nat_lit 0)), (@Value.int (.ofNat (nat_lit 33)) (nat_lit 0)), (@Value.str (@Str.ofString "/claim/cut.py") (nat_lit 382))])) (.mk []))
def o162 (P : Params) : Obj := (@Obj.mk (@Value.type "function") none (@Data.func (@FuncData.mk (@Str.ofString "__init__") (@Str.ofString "NotALook.__init__") (defArgs (inClass (topS 9) 0)) (@FuncBody.stmts (defBody (inClass (topS 9) 0))) (defScope (inClass (topS 20) 0)) (nat_lit 3) [] Value.none Value.none Value.none (@Value.str (@Str.ofString "menuhouses.errors") (nat_lit 194)) none (@Value.ref (nat_lit 161)) Value.none (nat_lit 0))) (.mk []))
def o163 (P : Params) : Obj := (@Obj.mk (@Value.type "tuple") none (@Data.seq (.mk [(@Value.str (@Str.ofString "given") (nat_lit 384))]) (nat_lit 0)) (.mk []))
def o164 (P : Params) : Obj := (@Obj.mk (@Value.type "dict") none (@Data.dict (.mk [(@DictEntry.mk (@PyData.keyHash P (@Str.ofString "__module__")) (@Value.str (@Str.ofString "__module__") (nat_lit 371)) (@Value.str (@Str.ofString "menuhouses.errors") (nat_lit 194))), (@DictEntry.mk (@PyData.keyHash P (@Str.ofString "__firstlineno__")) (@Value.str (@Str.ofString "__firstlineno__") (nat_lit 375)) (@Value.int (.ofNat (nat_lit 31)) (nat_lit 374))), (@DictEntry.mk (@PyData.keyHash P (@Str.ofString "__init__")) (@Value.str (@Str.ofString "__init__") (nat_lit 383)) (@Value.ref (nat_lit 162))), (@DictEntry.mk (@PyData.keyHash P (@Str.ofString "__static_attributes__")) (@Value.str (@Str.ofString "__static_attributes__") (nat_lit 385)) (@Value.ref (nat_lit 163))), (@DictEntry.mk (@PyData.keyHash P (@Str.ofString "__doc__")) (@Value.str (@Str.ofString "__doc__") (nat_lit 386)) Value.none)]) (nat_lit 2)) (.mk []))
def o165 (P : Params) : Obj := (@Obj.mk (@Value.type "type") none (@Data.cls (@ClassData.mk (@Str.ofString "NotALook") [(@Value.ref (nat_lit 31))] [(@Value.ref (nat_lit 165)), (@Value.ref (nat_lit 31)), (@Value.type "ValueError"), (@Value.type "Exception"), (@Value.type "BaseException"), (@Value.type "object")] (nat_lit 164) (@Str.ofString "NotALook") true [] [] false none false)) (.mk [(some (@Value.ref (nat_lit 149))), none, (some (@Value.str (@Str.ofString "NotALook") (nat_lit 364))), (some (@Value.str (@Str.ofString "NotALook") (nat_lit 372))), (some (@Value.builtin "ValueError.__new__")), (some (@Value.bool true))]))
def o166 (P : Params) : Obj := (@Obj.mk (@Value.type "super") none (@Data.fields (.mk [(@Value.ref (nat_lit 165)), (@Value.ref (nat_lit 165)), (@Value.ref (nat_lit 165))])) (.mk []))
def o167 (P : Params) : Obj := (@Obj.mk (@Value.type "builtin_function_or_method") none (@Data.fields (.mk [(@Value.builtin "object.__init_subclass__"), (@Value.ref (nat_lit 165))])) (.mk []))
def o168 (P : Params) : Obj := (@Obj.mk (@Value.type "tuple") none (@Data.seq (.mk [(@Value.ref (nat_lit 31))]) (nat_lit 0)) (.mk []))
def o169 (P : Params) : Obj := (@Obj.mk (@Value.type "builtin_function_or_method") none (@Data.fields (.mk [(@Value.builtin "type.__prepare__"), (@Value.type "type")])) (.mk []))
def o170 (P : Params) : Obj := (@Obj.mk (@Value.type "dict") none (@Data.dict (.mk [(@DictEntry.mk (@PyData.keyHash P (@Str.ofString "__module__")) (@Value.str (@Str.ofString "__module__") (nat_lit 396)) (@Value.str (@Str.ofString "menuhouses.errors") (nat_lit 194))), (@DictEntry.mk (@PyData.keyHash P (@Str.ofString "__qualname__")) (@Value.str (@Str.ofString "__qualname__") (nat_lit 398)) (@Value.str (@Str.ofString "NotLooks") (nat_lit 397))), (@DictEntry.mk (@PyData.keyHash P (@Str.ofString "__firstlineno__")) (@Value.str (@Str.ofString "__firstlineno__") (nat_lit 400)) (@Value.int (.ofNat (nat_lit 35)) (nat_lit 399))), (@DictEntry.mk (@PyData.keyHash P (@Str.ofString "__init__")) (@Value.str (@Str.ofString "__init__") (nat_lit 408)) (@Value.ref (nat_lit 181))), (@DictEntry.mk (@PyData.keyHash P (@Str.ofString "__static_attributes__")) (@Value.str (@Str.ofString "__static_attributes__") (nat_lit 410)) (@Value.ref (nat_lit 182)))]) (nat_lit 5)) (.mk []))
def o171 (P : Params) : Obj := (@Obj.mk (@Value.type "tuple") none (@Data.seq (.mk []) (nat_lit 0)) (.mk []))
def o172 (P : Params) : Obj := (@Obj.mk Value.none none (@Data.fields (.mk [(@Value.int (.ofNat (nat_lit 37)) (nat_lit 0)), (@Value.int (.ofNat (nat_lit 4)) (nat_lit 0)), (@Value.ref (nat_lit 180))])) (.mk []))
def o173 (P : Params) : Obj := (@Obj.mk (@Value.type "code") none (@Data.fields (.mk [(@Value.str (@Str.ofString "NotLooks") (nat_lit 391)), (@Value.str (@Str.ofString "NotLooks") (nat_lit 392)), (@Value.str (@Str.ofString "/claim/cut.py") (nat_lit 393)), (@Value.int (.ofNat (nat_lit 35)) (nat_lit 0)), (@Value.int (.ofNat (nat_lit 0)) (nat_lit 0)), (@Value.int (.ofNat (nat_lit 0)) (nat_lit 0)), (@Value.int (.ofNat (nat_lit 0)) (nat_lit 0)), (@Value.int (.ofNat (nat_lit 0)) (nat_lit 0)), (@Value.ref (nat_lit 171)), (@Value.bool false), (@Value.int (.ofNat (nat_lit 181)) (nat_lit 0)), (@Value.ref (nat_lit 172)), Value.none, Value.none, Value.none, Value.none, (@Value.int (.ofNat (nat_lit 394)) (nat_lit 0)), (@Value.int (.ofNat (nat_lit 35)) (nat_lit 0)), (@Value.str (@Str.ofString "/claim/cut.py") (nat_lit 395))])) (.mk []))
def o174 (P : Params) : Obj := (@Obj.mk (@Value.type "frame") none Data.plain (.mk [(some (@Value.ref (nat_lit 173))), (some (@Value.ref (nat_lit 3))), (some (@Value.ref (nat_lit 170))), none, (some (@Value.str (@Str.ofString "menuhouses.errors") (nat_lit 194))), none, (some (@Value.ref (nat_lit 0)))]))
def o175 (P : Params) : Obj := (@Obj.mk (@Value.type "tuple") none (@Data.seq (.mk []) (nat_lit 0)) (.mk []))
def o176 (P : Params) : Obj := (@Obj.mk Value.none none (@Data.fields (.mk [])) (.mk []))
def o177 (P : Params) : Obj := (@Obj.mk (@Value.type "tuple") none (@Data.seq (.mk [(@Value.str (@Str.ofString "self") (nat_lit 404)), (@Value.str (@Str.ofString "given") (nat_lit 405))]) (nat_lit 0)) (.mk []))
def o178 (P : Params) : Obj := (@Obj.mk (@Value.type "tuple") none (@Data.seq (.mk []) (nat_lit 0)) (.mk []))
def o179 (P : Params) : Obj := (@Obj.mk Value.none none (@Data.func (@FuncData.mk (@Str.ofString "__init__") (@Str.ofString "NotLooks.__init__") (defArgs (inClass (topS 10) 0)) (@FuncBody.stmts (defBody (inClass (topS 10) 0))) (defScope (inClass (topS 20) 0)) (nat_lit 0) [] Value.none Value.none Value.none Value.none none Value.none Value.none (nat_lit 0))) (.mk []))
def o180 (P : Params) : Obj := (@Obj.mk (@Value.type "code") none (@Data.fields (.mk [(@Value.str (@Str.ofString "__init__") (nat_lit 401)), (@Value.str (@Str.ofString "NotLooks.__init__") (nat_lit 402)), (@Value.str (@Str.ofString "/claim/cut.py") (nat_lit 403)), (@Value.int (.ofNat (nat_lit 37)) (nat_lit 0)), (@Value.int (.ofNat (nat_lit 2)) (nat_lit 0)), (@Value.int (.ofNat (nat_lit 0)) (nat_lit 0)), (@Value.int (.ofNat (nat_lit 0)) (nat_lit 0)), (@Value.int (.ofNat (nat_lit 3)) (nat_lit 0)), (@Value.ref (nat_lit 175)), (@Value.bool true), (@Value.int (.ofNat (nat_lit 181)) (nat_lit 0)), (@Value.ref (nat_lit 176)), Value.none, (@Value.ref (nat_lit 177)), (@Value.ref (nat_lit 178)), (@Value.ref (nat_lit 179)), (@Value.int (.ofNat (nat_lit 406)) (nat_lit 0)), (@Value.int (.ofNat (nat_lit 37)) (nat_lit 0)), (@Value.str (@Str.ofString "/claim/cut.py") (nat_lit 407))])) (.mk []))
def o181 (P : Params) : Obj := (@Obj.mk (@Value.type "function") none (@Data.func (@FuncData.mk (@Str.ofString "__init__") (@Str.ofString "NotLooks.__init__") (defArgs (inClass (topS 10) 0)) (@FuncBody.stmts (defBody (inClass (topS 10) 0))) (defScope (inClass (topS 20) 0)) (nat_lit 3) [] Value.none Value.none Value.none (@Value.str (@Str.ofString "menuhouses.errors") (nat_lit 194)) none (@Value.ref (nat_lit 180)) Value.none (nat_lit 0))) (.mk []))
def o182 (P : Params) : Obj := (@Obj.mk (@Value.type "tuple") none (@Data.seq (.mk [(@Value.str (@Str.ofString "given") (nat_lit 409))]) (nat_lit 0)) (.mk []))
def o183 (P : Params) : Obj := (@Obj.mk (@Value.type "dict") none (@Data.dict (.mk [(@DictEntry.mk (@PyData.keyHash P (@Str.ofString "__module__")) (@Value.str (@Str.ofString "__module__") (nat_lit 396)) (@Value.str (@Str.ofString "menuhouses.errors") (nat_lit 194))), (@DictEntry.mk (@PyData.keyHash P (@Str.ofString "__firstlineno__")) (@Value.str (@Str.ofString "__firstlineno__") (nat_lit 400)) (@Value.int (.ofNat (nat_lit 35)) (nat_lit 399))), (@DictEntry.mk (@PyData.keyHash P (@Str.ofString "__init__")) (@Value.str (@Str.ofString "__init__") (nat_lit 408)) (@Value.ref (nat_lit 181))), (@DictEntry.mk (@PyData.keyHash P (@Str.ofString "__static_attributes__")) (@Value.str (@Str.ofString "__static_attributes__") (nat_lit 410)) (@Value.ref (nat_lit 182))), (@DictEntry.mk (@PyData.keyHash P (@Str.ofString "__doc__")) (@Value.str (@Str.ofString "__doc__") (nat_lit 411)) Value.none)]) (nat_lit 2)) (.mk []))
def o184 (P : Params) : Obj := (@Obj.mk (@Value.type "type") none (@Data.cls (@ClassData.mk (@Str.ofString "NotLooks") [(@Value.ref (nat_lit 31))] [(@Value.ref (nat_lit 184)), (@Value.ref (nat_lit 31)), (@Value.type "ValueError"), (@Value.type "Exception"), (@Value.type "BaseException"), (@Value.type "object")] (nat_lit 183) (@Str.ofString "NotLooks") true [] [] false none false)) (.mk [(some (@Value.ref (nat_lit 168))), none, (some (@Value.str (@Str.ofString "NotLooks") (nat_lit 389))), (some (@Value.str (@Str.ofString "NotLooks") (nat_lit 397))), (some (@Value.builtin "ValueError.__new__")), (some (@Value.bool true))]))
def o185 (P : Params) : Obj := (@Obj.mk (@Value.type "super") none (@Data.fields (.mk [(@Value.ref (nat_lit 184)), (@Value.ref (nat_lit 184)), (@Value.ref (nat_lit 184))])) (.mk []))
def o186 (P : Params) : Obj := (@Obj.mk (@Value.type "builtin_function_or_method") none (@Data.fields (.mk [(@Value.builtin "object.__init_subclass__"), (@Value.ref (nat_lit 184))])) (.mk []))
def o187 (P : Params) : Obj := (@Obj.mk (@Value.type "tuple") none (@Data.seq (.mk [(@Value.ref (nat_lit 31))]) (nat_lit 0)) (.mk []))
def o188 (P : Params) : Obj := (@Obj.mk (@Value.type "builtin_function_or_method") none (@Data.fields (.mk [(@Value.builtin "type.__prepare__"), (@Value.type "type")])) (.mk []))
def o189 (P : Params) : Obj := (@Obj.mk (@Value.type "dict") none (@Data.dict (.mk [(@DictEntry.mk (@PyData.keyHash P (@Str.ofString "__module__")) (@Value.str (@Str.ofString "__module__") (nat_lit 421)) (@Value.str (@Str.ofString "menuhouses.errors") (nat_lit 194))), (@DictEntry.mk (@PyData.keyHash P (@Str.ofString "__qualname__")) (@Value.str (@Str.ofString "__qualname__") (nat_lit 423)) (@Value.str (@Str.ofString "OtherThings") (nat_lit 422))), (@DictEntry.mk (@PyData.keyHash P (@Str.ofString "__firstlineno__")) (@Value.str (@Str.ofString "__firstlineno__") (nat_lit 425)) (@Value.int (.ofNat (nat_lit 39)) (nat_lit 424))), (@DictEntry.mk (@PyData.keyHash P (@Str.ofString "__init__")) (@Value.str (@Str.ofString "__init__") (nat_lit 433)) (@Value.ref (nat_lit 200))), (@DictEntry.mk (@PyData.keyHash P (@Str.ofString "__static_attributes__")) (@Value.str (@Str.ofString "__static_attributes__") (nat_lit 435)) (@Value.ref (nat_lit 201)))]) (nat_lit 5)) (.mk []))
def o190 (P : Params) : Obj := (@Obj.mk (@Value.type "tuple") none (@Data.seq (.mk []) (nat_lit 0)) (.mk []))
def o191 (P : Params) : Obj := (@Obj.mk Value.none none (@Data.fields (.mk [(@Value.int (.ofNat (nat_lit 41)) (nat_lit 0)), (@Value.int (.ofNat (nat_lit 4)) (nat_lit 0)), (@Value.ref (nat_lit 199))])) (.mk []))
def o192 (P : Params) : Obj := (@Obj.mk (@Value.type "code") none (@Data.fields (.mk [(@Value.str (@Str.ofString "OtherThings") (nat_lit 416)), (@Value.str (@Str.ofString "OtherThings") (nat_lit 417)), (@Value.str (@Str.ofString "/claim/cut.py") (nat_lit 418)), (@Value.int (.ofNat (nat_lit 39)) (nat_lit 0)), (@Value.int (.ofNat (nat_lit 0)) (nat_lit 0)), (@Value.int (.ofNat (nat_lit 0)) (nat_lit 0)), (@Value.int (.ofNat (nat_lit 0)) (nat_lit 0)), (@Value.int (.ofNat (nat_lit 0)) (nat_lit 0)), (@Value.ref (nat_lit 190)), (@Value.bool false), (@Value.int (.ofNat (nat_lit 181)) (nat_lit 0)), (@Value.ref (nat_lit 191)), Value.none, Value.none, Value.none, Value.none, (@Value.int (.ofNat (nat_lit 419)) (nat_lit 0)), (@Value.int (.ofNat (nat_lit 39)) (nat_lit 0)), (@Value.str (@Str.ofString "/claim/cut.py") (nat_lit 420))])) (.mk []))
def o193 (P : Params) : Obj := (@Obj.mk (@Value.type "frame") none Data.plain (.mk [(some (@Value.ref (nat_lit 192))), (some (@Value.ref (nat_lit 3))), (some (@Value.ref (nat_lit 189))), none, (some (@Value.str (@Str.ofString "menuhouses.errors") (nat_lit 194))), none, (some (@Value.ref (nat_lit 0)))]))
def o194 (P : Params) : Obj := (@Obj.mk (@Value.type "tuple") none (@Data.seq (.mk []) (nat_lit 0)) (.mk []))
def o195 (P : Params) : Obj := (@Obj.mk Value.none none (@Data.fields (.mk [])) (.mk []))
def o196 (P : Params) : Obj := (@Obj.mk (@Value.type "tuple") none (@Data.seq (.mk [(@Value.str (@Str.ofString "self") (nat_lit 429)), (@Value.str (@Str.ofString "given") (nat_lit 430))]) (nat_lit 0)) (.mk []))
def o197 (P : Params) : Obj := (@Obj.mk (@Value.type "tuple") none (@Data.seq (.mk []) (nat_lit 0)) (.mk []))
def o198 (P : Params) : Obj := (@Obj.mk Value.none none (@Data.func (@FuncData.mk (@Str.ofString "__init__") (@Str.ofString "OtherThings.__init__") (defArgs (inClass (topS 11) 0)) (@FuncBody.stmts (defBody (inClass (topS 11) 0))) (defScope (inClass (topS 20) 0)) (nat_lit 0) [] Value.none Value.none Value.none Value.none none Value.none Value.none (nat_lit 0))) (.mk []))
def o199 (P : Params) : Obj := (@Obj.mk (@Value.type "code") none (@Data.fields (.mk [(@Value.str (@Str.ofString "__init__") (nat_lit 426)), (@Value.str (@Str.ofString "OtherThings.__init__") (nat_lit 427)), (@Value.str (@Str.ofString "/claim/cut.py") (nat_lit 428)), (@Value.int (.ofNat (nat_lit 41)) (nat_lit 0)), (@Value.int (.ofNat (nat_lit 2)) (nat_lit 0)), (@Value.int (.ofNat (nat_lit 0)) (nat_lit 0)), (@Value.int (.ofNat (nat_lit 0)) (nat_lit 0)), (@Value.int (.ofNat (nat_lit 3)) (nat_lit 0)), (@Value.ref (nat_lit 194)), (@Value.bool true), (@Value.int (.ofNat (nat_lit 181)) (nat_lit 0)), (@Value.ref (nat_lit 195)), Value.none, (@Value.ref (nat_lit 196)), (@Value.ref (nat_lit 197)), (@Value.ref (nat_lit 198)), (@Value.int (.ofNat (nat_lit 431)) (nat_lit 0)), (@Value.int (.ofNat (nat_lit 41)) (nat_lit 0)), (@Value.str (@Str.ofString "/claim/cut.py") (nat_lit 432))])) (.mk []))
def o200 (P : Params) : Obj := (@Obj.mk (@Value.type "function") none (@Data.func (@FuncData.mk (@Str.ofString "__init__") (@Str.ofString "OtherThings.__init__") (defArgs (inClass (topS 11) 0)) (@FuncBody.stmts (defBody (inClass (topS 11) 0))) (defScope (inClass (topS 20) 0)) (nat_lit 3) [] Value.none Value.none Value.none (@Value.str (@Str.ofString "menuhouses.errors") (nat_lit 194)) none (@Value.ref (nat_lit 199)) Value.none (nat_lit 0))) (.mk []))
def o201 (P : Params) : Obj := (@Obj.mk (@Value.type "tuple") none (@Data.seq (.mk [(@Value.str (@Str.ofString "given") (nat_lit 434))]) (nat_lit 0)) (.mk []))
def o202 (P : Params) : Obj := (@Obj.mk (@Value.type "dict") none (@Data.dict (.mk [(@DictEntry.mk (@PyData.keyHash P (@Str.ofString "__module__")) (@Value.str (@Str.ofString "__module__") (nat_lit 421)) (@Value.str (@Str.ofString "menuhouses.errors") (nat_lit 194))), (@DictEntry.mk (@PyData.keyHash P (@Str.ofString "__firstlineno__")) (@Value.str (@Str.ofString "__firstlineno__") (nat_lit 425)) (@Value.int (.ofNat (nat_lit 39)) (nat_lit 424))), (@DictEntry.mk (@PyData.keyHash P (@Str.ofString "__init__")) (@Value.str (@Str.ofString "__init__") (nat_lit 433)) (@Value.ref (nat_lit 200))), (@DictEntry.mk (@PyData.keyHash P (@Str.ofString "__static_attributes__")) (@Value.str (@Str.ofString "__static_attributes__") (nat_lit 435)) (@Value.ref (nat_lit 201))), (@DictEntry.mk (@PyData.keyHash P (@Str.ofString "__doc__")) (@Value.str (@Str.ofString "__doc__") (nat_lit 436)) Value.none)]) (nat_lit 2)) (.mk []))
def o203 (P : Params) : Obj := (@Obj.mk (@Value.type "type") none (@Data.cls (@ClassData.mk (@Str.ofString "OtherThings") [(@Value.ref (nat_lit 31))] [(@Value.ref (nat_lit 203)), (@Value.ref (nat_lit 31)), (@Value.type "ValueError"), (@Value.type "Exception"), (@Value.type "BaseException"), (@Value.type "object")] (nat_lit 202) (@Str.ofString "OtherThings") true [] [] false none false)) (.mk [(some (@Value.ref (nat_lit 187))), none, (some (@Value.str (@Str.ofString "OtherThings") (nat_lit 414))), (some (@Value.str (@Str.ofString "OtherThings") (nat_lit 422))), (some (@Value.builtin "ValueError.__new__")), (some (@Value.bool true))]))
def o204 (P : Params) : Obj := (@Obj.mk (@Value.type "super") none (@Data.fields (.mk [(@Value.ref (nat_lit 203)), (@Value.ref (nat_lit 203)), (@Value.ref (nat_lit 203))])) (.mk []))
def o205 (P : Params) : Obj := (@Obj.mk (@Value.type "builtin_function_or_method") none (@Data.fields (.mk [(@Value.builtin "object.__init_subclass__"), (@Value.ref (nat_lit 203))])) (.mk []))
def o3v2 (P : Params) : Obj := (@Obj.mk (@Value.type "dict") none (@Data.dict (.mk [(@DictEntry.mk (@PyData.keyHash P (@Str.ofString "__name__")) (@Value.str (@Str.ofString "__name__") (nat_lit 165)) (@Value.str (@Str.ofString "menuhouses.errors") (nat_lit 194))), (@DictEntry.mk (@PyData.keyHash P (@Str.ofString "__doc__")) (@Value.str (@Str.ofString "__doc__") (nat_lit 166)) Value.none), (@DictEntry.mk (@PyData.keyHash P (@Str.ofString "__package__")) (@Value.str (@Str.ofString "__package__") (nat_lit 167)) Value.none), (@DictEntry.mk (@PyData.keyHash P (@Str.ofString "__loader__")) (@Value.str (@Str.ofString "__loader__") (nat_lit 168)) (@Value.builtin "__main__.__loader__#opaque")), (@DictEntry.mk (@PyData.keyHash P (@Str.ofString "__spec__")) (@Value.str (@Str.ofString "__spec__") (nat_lit 169)) Value.none), (@DictEntry.mk (@PyData.keyHash P (@Str.ofString "__annotations__")) (@Value.str (@Str.ofString "__annotations__") (nat_lit 170)) (@Value.ref (nat_lit 6))), (@DictEntry.mk (@PyData.keyHash P (@Str.ofString "__builtins__")) (@Value.str (@Str.ofString "__builtins__") (nat_lit 171)) (@Value.ref (nat_lit 4))), (@DictEntry.mk (@PyData.keyHash P (@Str.ofString "__file__")) (@Value.str (@Str.ofString "__file__") (nat_lit 173)) (@Value.str (@Str.ofString "/claim/cut.py") (nat_lit 172))), (@DictEntry.mk (@PyData.keyHash P (@Str.ofString "__cached__")) (@Value.str (@Str.ofString "__cached__") (nat_lit 174)) Value.none), (@DictEntry.mk (@PyData.keyHash P (@Str.ofString "_wall")) (@Value.str (@Str.ofString "_wall") (nat_lit 193)) (@Value.ref (nat_lit 21))), (@DictEntry.mk (@PyData.keyHash P (@Str.ofString "WrongValue")) (@Value.str (@Str.ofString "WrongValue") (nat_lit 213)) (@Value.ref (nat_lit 31))), (@DictEntry.mk (@PyData.keyHash P (@Str.ofString "InvalidText")) (@Value.str (@Str.ofString "InvalidText") (nat_lit 238)) (@Value.ref (nat_lit 51))), (@DictEntry.mk (@PyData.keyHash P (@Str.ofString "InvalidMarks")) (@Value.str (@Str.ofString "InvalidMarks") (nat_lit 263)) (@Value.ref (nat_lit 70))), (@DictEntry.mk (@PyData.keyHash P (@Str.ofString "InvalidIndex")) (@Value.str (@Str.ofString "InvalidIndex") (nat_lit 288)) (@Value.ref (nat_lit 89))), (@DictEntry.mk (@PyData.keyHash P (@Str.ofString "InvalidWord")) (@Value.str (@Str.ofString "InvalidWord") (nat_lit 313)) (@Value.ref (nat_lit 108))), (@DictEntry.mk (@PyData.keyHash P (@Str.ofString "NotARanking")) (@Value.str (@Str.ofString "NotARanking") (nat_lit 338)) (@Value.ref (nat_lit 127))), (@DictEntry.mk (@PyData.keyHash P (@Str.ofString "NotAHouse")) (@Value.str (@Str.ofString "NotAHouse") (nat_lit 363)) (@Value.ref (nat_lit 146))), (@DictEntry.mk (@PyData.keyHash P (@Str.ofString "NotALook")) (@Value.str (@Str.ofString "NotALook") (nat_lit 388)) (@Value.ref (nat_lit 165))), (@DictEntry.mk (@PyData.keyHash P (@Str.ofString "NotLooks")) (@Value.str (@Str.ofString "NotLooks") (nat_lit 413)) (@Value.ref (nat_lit 184))), (@DictEntry.mk (@PyData.keyHash P (@Str.ofString "OtherThings")) (@Value.str (@Str.ofString "OtherThings") (nat_lit 438)) (@Value.ref (nat_lit 203))), (@DictEntry.mk (@PyData.keyHash P (@Str.ofString "InvalidRow")) (@Value.str (@Str.ofString "InvalidRow") (nat_lit 463)) (@Value.ref (nat_lit 222))), (@DictEntry.mk (@PyData.keyHash P (@Str.ofString "InvalidMenu")) (@Value.str (@Str.ofString "InvalidMenu") (nat_lit 488)) (@Value.ref (nat_lit 241))), (@DictEntry.mk (@PyData.keyHash P (@Str.ofString "InvalidThings")) (@Value.str (@Str.ofString "InvalidThings") (nat_lit 513)) (@Value.ref (nat_lit 260))), (@DictEntry.mk (@PyData.keyHash P (@Str.ofString "InvalidTaken")) (@Value.str (@Str.ofString "InvalidTaken") (nat_lit 538)) (@Value.ref (nat_lit 279))), (@DictEntry.mk (@PyData.keyHash P (@Str.ofString "InvalidRankings")) (@Value.str (@Str.ofString "InvalidRankings") (nat_lit 563)) (@Value.ref (nat_lit 298)))]) (nat_lit 25)) (.mk []))
def o12v3 (P : Params) : Obj := (@Obj.mk Value.none none (@Data.fields (.mk [(@Value.int (.ofNat (nat_lit 1)) (nat_lit 0)), (@Value.int (.ofNat (nat_lit 0)) (nat_lit 0)), (@Value.ref (nat_lit 20)), (@Value.int (.ofNat (nat_lit 5)) (nat_lit 0)), (@Value.int (.ofNat (nat_lit 0)) (nat_lit 0)), (@Value.ref (nat_lit 27)), (@Value.int (.ofNat (nat_lit 7)) (nat_lit 0)), (@Value.int (.ofNat (nat_lit 0)) (nat_lit 0)), (@Value.ref (nat_lit 40)), (@Value.int (.ofNat (nat_lit 11)) (nat_lit 0)), (@Value.int (.ofNat (nat_lit 0)) (nat_lit 0)), (@Value.ref (nat_lit 59)), (@Value.int (.ofNat (nat_lit 15)) (nat_lit 0)), (@Value.int (.ofNat (nat_lit 0)) (nat_lit 0)), (@Value.ref (nat_lit 78)), (@Value.int (.ofNat (nat_lit 19)) (nat_lit 0)), (@Value.int (.ofNat (nat_lit 0)) (nat_lit 0)), (@Value.ref (nat_lit 97)), (@Value.int (.ofNat (nat_lit 23)) (nat_lit 0)), (@Value.int (.ofNat (nat_lit 0)) (nat_lit 0)), (@Value.ref (nat_lit 116)), (@Value.int (.ofNat (nat_lit 27)) (nat_lit 0)), (@Value.int (.ofNat (nat_lit 0)) (nat_lit 0)), (@Value.ref (nat_lit 135)), (@Value.int (.ofNat (nat_lit 31)) (nat_lit 0)), (@Value.int (.ofNat (nat_lit 0)) (nat_lit 0)), (@Value.ref (nat_lit 154)), (@Value.int (.ofNat (nat_lit 35)) (nat_lit 0)), (@Value.int (.ofNat (nat_lit 0)) (nat_lit 0)), (@Value.ref (nat_lit 173)), (@Value.int (.ofNat (nat_lit 39)) (nat_lit 0)), (@Value.int (.ofNat (nat_lit 0)) (nat_lit 0)), (@Value.ref (nat_lit 192)), (@Value.int (.ofNat (nat_lit 43)) (nat_lit 0)), (@Value.int (.ofNat (nat_lit 0)) (nat_lit 0)), (@Value.ref (nat_lit 211)), (@Value.int (.ofNat (nat_lit 47)) (nat_lit 0)), (@Value.int (.ofNat (nat_lit 0)) (nat_lit 0)), (@Value.ref (nat_lit 230)), (@Value.int (.ofNat (nat_lit 51)) (nat_lit 0)), (@Value.int (.ofNat (nat_lit 0)) (nat_lit 0)), (@Value.ref (nat_lit 249)), (@Value.int (.ofNat (nat_lit 55)) (nat_lit 0)), (@Value.int (.ofNat (nat_lit 0)) (nat_lit 0)), (@Value.ref (nat_lit 268)), (@Value.int (.ofNat (nat_lit 59)) (nat_lit 0)), (@Value.int (.ofNat (nat_lit 0)) (nat_lit 0)), (@Value.ref (nat_lit 287))])) (.mk []))
def o31v2 (P : Params) : Obj := (@Obj.mk (@Value.type "type") none (@Data.cls (@ClassData.mk (@Str.ofString "WrongValue") [(@Value.type "ValueError")] [(@Value.ref (nat_lit 31)), (@Value.type "ValueError"), (@Value.type "Exception"), (@Value.type "BaseException"), (@Value.type "object")] (nat_lit 30) (@Str.ofString "WrongValue") true [] [(@Value.ref (nat_lit 51)), (@Value.ref (nat_lit 70)), (@Value.ref (nat_lit 89)), (@Value.ref (nat_lit 108)), (@Value.ref (nat_lit 127)), (@Value.ref (nat_lit 146)), (@Value.ref (nat_lit 165)), (@Value.ref (nat_lit 184)), (@Value.ref (nat_lit 203)), (@Value.ref (nat_lit 222)), (@Value.ref (nat_lit 241)), (@Value.ref (nat_lit 260)), (@Value.ref (nat_lit 279)), (@Value.ref (nat_lit 298))] false none false)) (.mk [(some (@Value.ref (nat_lit 22))), none, (some (@Value.str (@Str.ofString "WrongValue") (nat_lit 196))), (some (@Value.str (@Str.ofString "WrongValue") (nat_lit 204))), (some (@Value.builtin "ValueError.__new__")), (some (@Value.bool true))]))
def o206 (P : Params) : Obj := (@Obj.mk (@Value.type "tuple") none (@Data.seq (.mk [(@Value.ref (nat_lit 31))]) (nat_lit 0)) (.mk []))
def o207 (P : Params) : Obj := (@Obj.mk (@Value.type "builtin_function_or_method") none (@Data.fields (.mk [(@Value.builtin "type.__prepare__"), (@Value.type "type")])) (.mk []))
def o208 (P : Params) : Obj := (@Obj.mk (@Value.type "dict") none (@Data.dict (.mk [(@DictEntry.mk (@PyData.keyHash P (@Str.ofString "__module__")) (@Value.str (@Str.ofString "__module__") (nat_lit 446)) (@Value.str (@Str.ofString "menuhouses.errors") (nat_lit 194))), (@DictEntry.mk (@PyData.keyHash P (@Str.ofString "__qualname__")) (@Value.str (@Str.ofString "__qualname__") (nat_lit 448)) (@Value.str (@Str.ofString "InvalidRow") (nat_lit 447))), (@DictEntry.mk (@PyData.keyHash P (@Str.ofString "__firstlineno__")) (@Value.str (@Str.ofString "__firstlineno__") (nat_lit 450)) (@Value.int (.ofNat (nat_lit 43)) (nat_lit 449))), (@DictEntry.mk (@PyData.keyHash P (@Str.ofString "__init__")) (@Value.str (@Str.ofString "__init__") (nat_lit 458)) (@Value.ref (nat_lit 219))), (@DictEntry.mk (@PyData.keyHash P (@Str.ofString "__static_attributes__")) (@Value.str (@Str.ofString "__static_attributes__") (nat_lit 460)) (@Value.ref (nat_lit 220)))]) (nat_lit 5)) (.mk []))
def o209 (P : Params) : Obj := (@Obj.mk (@Value.type "tuple") none (@Data.seq (.mk []) (nat_lit 0)) (.mk []))
def o210 (P : Params) : Obj := (@Obj.mk Value.none none (@Data.fields (.mk [(@Value.int (.ofNat (nat_lit 45)) (nat_lit 0)), (@Value.int (.ofNat (nat_lit 4)) (nat_lit 0)), (@Value.ref (nat_lit 218))])) (.mk []))
def o211 (P : Params) : Obj := (@Obj.mk (@Value.type "code") none (@Data.fields (.mk [(@Value.str (@Str.ofString "InvalidRow") (nat_lit 441)), (@Value.str (@Str.ofString "InvalidRow") (nat_lit 442)), (@Value.str (@Str.ofString "/claim/cut.py") (nat_lit 443)), (@Value.int (.ofNat (nat_lit 43)) (nat_lit 0)), (@Value.int (.ofNat (nat_lit 0)) (nat_lit 0)), (@Value.int (.ofNat (nat_lit 0)) (nat_lit 0)), (@Value.int (.ofNat (nat_lit 0)) (nat_lit 0)), (@Value.int (.ofNat (nat_lit 0)) (nat_lit 0)), (@Value.ref (nat_lit 209)), (@Value.bool false), (@Value.int (.ofNat (nat_lit 181)) (nat_lit 0)), (@Value.ref (nat_lit 210)), Value.none, Value.none, Value.none, Value.none, (@Value.int (.ofNat (nat_lit 444)) (nat_lit 0)), (@Value.int (.ofNat (nat_lit 43)) (nat_lit 0)), (@Value.str (@Str.ofString "/claim/cut.py") (nat_lit 445))])) (.mk []))
def o212 (P : Params) : Obj := (@Obj.mk (@Value.type "frame") none Data.plain (.mk [(some (@Value.ref (nat_lit 211))), (some (@Value.ref (nat_lit 3))), (some (@Value.ref (nat_lit 208))), none, (some (@Value.str (@Str.ofString "menuhouses.errors") (nat_lit 194))), none, (some (@Value.ref (nat_lit 0)))]))
def o213 (P : Params) : Obj := (@Obj.mk (@Value.type "tuple") none (@Data.seq (.mk []) (nat_lit 0)) (.mk []))
def o214 (P : Params) : Obj := (@Obj.mk Value.none none (@Data.fields (.mk [])) (.mk []))
def o215 (P : Params) : Obj := (@Obj.mk (@Value.type "tuple") none (@Data.seq (.mk [(@Value.str (@Str.ofString "self") (nat_lit 454)), (@Value.str (@Str.ofString "index") (nat_lit 455))]) (nat_lit 0)) (.mk []))
def o216 (P : Params) : Obj := (@Obj.mk (@Value.type "tuple") none (@Data.seq (.mk []) (nat_lit 0)) (.mk []))
def o217 (P : Params) : Obj := (@Obj.mk Value.none none (@Data.func (@FuncData.mk (@Str.ofString "__init__") (@Str.ofString "InvalidRow.__init__") (defArgs (inClass (topS 12) 0)) (@FuncBody.stmts (defBody (inClass (topS 12) 0))) (defScope (inClass (topS 26) 0)) (nat_lit 0) [] Value.none Value.none Value.none Value.none none Value.none Value.none (nat_lit 0))) (.mk []))
def o218 (P : Params) : Obj := (@Obj.mk (@Value.type "code") none (@Data.fields (.mk [(@Value.str (@Str.ofString "__init__") (nat_lit 451)), (@Value.str (@Str.ofString "InvalidRow.__init__") (nat_lit 452)), (@Value.str (@Str.ofString "/claim/cut.py") (nat_lit 453)), (@Value.int (.ofNat (nat_lit 45)) (nat_lit 0)), (@Value.int (.ofNat (nat_lit 2)) (nat_lit 0)), (@Value.int (.ofNat (nat_lit 0)) (nat_lit 0)), (@Value.int (.ofNat (nat_lit 0)) (nat_lit 0)), (@Value.int (.ofNat (nat_lit 3)) (nat_lit 0)), (@Value.ref (nat_lit 213)), (@Value.bool true), (@Value.int (.ofNat (nat_lit 181)) (nat_lit 0)), (@Value.ref (nat_lit 214)), Value.none, (@Value.ref (nat_lit 215)), (@Value.ref (nat_lit 216)), (@Value.ref (nat_lit 217)), (@Value.int (.ofNat (nat_lit 456)) (nat_lit 0)), (@Value.int (.ofNat (nat_lit 45)) (nat_lit 0)), (@Value.str (@Str.ofString "/claim/cut.py") (nat_lit 457))])) (.mk []))
def o219 (P : Params) : Obj := (@Obj.mk (@Value.type "function") none (@Data.func (@FuncData.mk (@Str.ofString "__init__") (@Str.ofString "InvalidRow.__init__") (defArgs (inClass (topS 12) 0)) (@FuncBody.stmts (defBody (inClass (topS 12) 0))) (defScope (inClass (topS 26) 0)) (nat_lit 3) [] Value.none Value.none Value.none (@Value.str (@Str.ofString "menuhouses.errors") (nat_lit 194)) none (@Value.ref (nat_lit 218)) Value.none (nat_lit 0))) (.mk []))
def o220 (P : Params) : Obj := (@Obj.mk (@Value.type "tuple") none (@Data.seq (.mk [(@Value.str (@Str.ofString "index") (nat_lit 459))]) (nat_lit 0)) (.mk []))
def o221 (P : Params) : Obj := (@Obj.mk (@Value.type "dict") none (@Data.dict (.mk [(@DictEntry.mk (@PyData.keyHash P (@Str.ofString "__module__")) (@Value.str (@Str.ofString "__module__") (nat_lit 446)) (@Value.str (@Str.ofString "menuhouses.errors") (nat_lit 194))), (@DictEntry.mk (@PyData.keyHash P (@Str.ofString "__firstlineno__")) (@Value.str (@Str.ofString "__firstlineno__") (nat_lit 450)) (@Value.int (.ofNat (nat_lit 43)) (nat_lit 449))), (@DictEntry.mk (@PyData.keyHash P (@Str.ofString "__init__")) (@Value.str (@Str.ofString "__init__") (nat_lit 458)) (@Value.ref (nat_lit 219))), (@DictEntry.mk (@PyData.keyHash P (@Str.ofString "__static_attributes__")) (@Value.str (@Str.ofString "__static_attributes__") (nat_lit 460)) (@Value.ref (nat_lit 220))), (@DictEntry.mk (@PyData.keyHash P (@Str.ofString "__doc__")) (@Value.str (@Str.ofString "__doc__") (nat_lit 461)) Value.none)]) (nat_lit 2)) (.mk []))
def o222 (P : Params) : Obj := (@Obj.mk (@Value.type "type") none (@Data.cls (@ClassData.mk (@Str.ofString "InvalidRow") [(@Value.ref (nat_lit 31))] [(@Value.ref (nat_lit 222)), (@Value.ref (nat_lit 31)), (@Value.type "ValueError"), (@Value.type "Exception"), (@Value.type "BaseException"), (@Value.type "object")] (nat_lit 221) (@Str.ofString "InvalidRow") true [] [] false none false)) (.mk [(some (@Value.ref (nat_lit 206))), none, (some (@Value.str (@Str.ofString "InvalidRow") (nat_lit 439))), (some (@Value.str (@Str.ofString "InvalidRow") (nat_lit 447))), (some (@Value.builtin "ValueError.__new__")), (some (@Value.bool true))]))
def o223 (P : Params) : Obj := (@Obj.mk (@Value.type "super") none (@Data.fields (.mk [(@Value.ref (nat_lit 222)), (@Value.ref (nat_lit 222)), (@Value.ref (nat_lit 222))])) (.mk []))
def o224 (P : Params) : Obj := (@Obj.mk (@Value.type "builtin_function_or_method") none (@Data.fields (.mk [(@Value.builtin "object.__init_subclass__"), (@Value.ref (nat_lit 222))])) (.mk []))
def o225 (P : Params) : Obj := (@Obj.mk (@Value.type "tuple") none (@Data.seq (.mk [(@Value.ref (nat_lit 31))]) (nat_lit 0)) (.mk []))
def o226 (P : Params) : Obj := (@Obj.mk (@Value.type "builtin_function_or_method") none (@Data.fields (.mk [(@Value.builtin "type.__prepare__"), (@Value.type "type")])) (.mk []))
def o227 (P : Params) : Obj := (@Obj.mk (@Value.type "dict") none (@Data.dict (.mk [(@DictEntry.mk (@PyData.keyHash P (@Str.ofString "__module__")) (@Value.str (@Str.ofString "__module__") (nat_lit 471)) (@Value.str (@Str.ofString "menuhouses.errors") (nat_lit 194))), (@DictEntry.mk (@PyData.keyHash P (@Str.ofString "__qualname__")) (@Value.str (@Str.ofString "__qualname__") (nat_lit 473)) (@Value.str (@Str.ofString "InvalidMenu") (nat_lit 472))), (@DictEntry.mk (@PyData.keyHash P (@Str.ofString "__firstlineno__")) (@Value.str (@Str.ofString "__firstlineno__") (nat_lit 475)) (@Value.int (.ofNat (nat_lit 47)) (nat_lit 474))), (@DictEntry.mk (@PyData.keyHash P (@Str.ofString "__init__")) (@Value.str (@Str.ofString "__init__") (nat_lit 483)) (@Value.ref (nat_lit 238))), (@DictEntry.mk (@PyData.keyHash P (@Str.ofString "__static_attributes__")) (@Value.str (@Str.ofString "__static_attributes__") (nat_lit 485)) (@Value.ref (nat_lit 239)))]) (nat_lit 5)) (.mk []))
def o228 (P : Params) : Obj := (@Obj.mk (@Value.type "tuple") none (@Data.seq (.mk []) (nat_lit 0)) (.mk []))
def o229 (P : Params) : Obj := (@Obj.mk Value.none none (@Data.fields (.mk [(@Value.int (.ofNat (nat_lit 49)) (nat_lit 0)), (@Value.int (.ofNat (nat_lit 4)) (nat_lit 0)), (@Value.ref (nat_lit 237))])) (.mk []))
def o230 (P : Params) : Obj := (@Obj.mk (@Value.type "code") none (@Data.fields (.mk [(@Value.str (@Str.ofString "InvalidMenu") (nat_lit 466)), (@Value.str (@Str.ofString "InvalidMenu") (nat_lit 467)), (@Value.str (@Str.ofString "/claim/cut.py") (nat_lit 468)), (@Value.int (.ofNat (nat_lit 47)) (nat_lit 0)), (@Value.int (.ofNat (nat_lit 0)) (nat_lit 0)), (@Value.int (.ofNat (nat_lit 0)) (nat_lit 0)), (@Value.int (.ofNat (nat_lit 0)) (nat_lit 0)), (@Value.int (.ofNat (nat_lit 0)) (nat_lit 0)), (@Value.ref (nat_lit 228)), (@Value.bool false), (@Value.int (.ofNat (nat_lit 181)) (nat_lit 0)), (@Value.ref (nat_lit 229)), Value.none, Value.none, Value.none, Value.none, (@Value.int (.ofNat (nat_lit 469)) (nat_lit 0)), (@Value.int (.ofNat (nat_lit 47)) (nat_lit 0)), (@Value.str (@Str.ofString "/claim/cut.py") (nat_lit 470))])) (.mk []))
def o231 (P : Params) : Obj := (@Obj.mk (@Value.type "frame") none Data.plain (.mk [(some (@Value.ref (nat_lit 230))), (some (@Value.ref (nat_lit 3))), (some (@Value.ref (nat_lit 227))), none, (some (@Value.str (@Str.ofString "menuhouses.errors") (nat_lit 194))), none, (some (@Value.ref (nat_lit 0)))]))
def o232 (P : Params) : Obj := (@Obj.mk (@Value.type "tuple") none (@Data.seq (.mk []) (nat_lit 0)) (.mk []))
def o233 (P : Params) : Obj := (@Obj.mk Value.none none (@Data.fields (.mk [])) (.mk []))
def o234 (P : Params) : Obj := (@Obj.mk (@Value.type "tuple") none (@Data.seq (.mk [(@Value.str (@Str.ofString "self") (nat_lit 479)), (@Value.str (@Str.ofString "index") (nat_lit 480))]) (nat_lit 0)) (.mk []))
def o235 (P : Params) : Obj := (@Obj.mk (@Value.type "tuple") none (@Data.seq (.mk []) (nat_lit 0)) (.mk []))
def o236 (P : Params) : Obj := (@Obj.mk Value.none none (@Data.func (@FuncData.mk (@Str.ofString "__init__") (@Str.ofString "InvalidMenu.__init__") (defArgs (inClass (topS 13) 0)) (@FuncBody.stmts (defBody (inClass (topS 13) 0))) (defScope (inClass (topS 26) 0)) (nat_lit 0) [] Value.none Value.none Value.none Value.none none Value.none Value.none (nat_lit 0))) (.mk []))
def o237 (P : Params) : Obj := (@Obj.mk (@Value.type "code") none (@Data.fields (.mk [(@Value.str (@Str.ofString "__init__") (nat_lit 476)), (@Value.str (@Str.ofString "InvalidMenu.__init__") (nat_lit 477)), (@Value.str (@Str.ofString "/claim/cut.py") (nat_lit 478)), (@Value.int (.ofNat (nat_lit 49)) (nat_lit 0)), (@Value.int (.ofNat (nat_lit 2)) (nat_lit 0)), (@Value.int (.ofNat (nat_lit 0)) (nat_lit 0)), (@Value.int (.ofNat (nat_lit 0)) (nat_lit 0)), (@Value.int (.ofNat (nat_lit 3)) (nat_lit 0)), (@Value.ref (nat_lit 232)), (@Value.bool true), (@Value.int (.ofNat (nat_lit 181)) (nat_lit 0)), (@Value.ref (nat_lit 233)), Value.none, (@Value.ref (nat_lit 234)), (@Value.ref (nat_lit 235)), (@Value.ref (nat_lit 236)), (@Value.int (.ofNat (nat_lit 481)) (nat_lit 0)), (@Value.int (.ofNat (nat_lit 49)) (nat_lit 0)), (@Value.str (@Str.ofString "/claim/cut.py") (nat_lit 482))])) (.mk []))
def o238 (P : Params) : Obj := (@Obj.mk (@Value.type "function") none (@Data.func (@FuncData.mk (@Str.ofString "__init__") (@Str.ofString "InvalidMenu.__init__") (defArgs (inClass (topS 13) 0)) (@FuncBody.stmts (defBody (inClass (topS 13) 0))) (defScope (inClass (topS 26) 0)) (nat_lit 3) [] Value.none Value.none Value.none (@Value.str (@Str.ofString "menuhouses.errors") (nat_lit 194)) none (@Value.ref (nat_lit 237)) Value.none (nat_lit 0))) (.mk []))
def o239 (P : Params) : Obj := (@Obj.mk (@Value.type "tuple") none (@Data.seq (.mk [(@Value.str (@Str.ofString "index") (nat_lit 484))]) (nat_lit 0)) (.mk []))
def o240 (P : Params) : Obj := (@Obj.mk (@Value.type "dict") none (@Data.dict (.mk [(@DictEntry.mk (@PyData.keyHash P (@Str.ofString "__module__")) (@Value.str (@Str.ofString "__module__") (nat_lit 471)) (@Value.str (@Str.ofString "menuhouses.errors") (nat_lit 194))), (@DictEntry.mk (@PyData.keyHash P (@Str.ofString "__firstlineno__")) (@Value.str (@Str.ofString "__firstlineno__") (nat_lit 475)) (@Value.int (.ofNat (nat_lit 47)) (nat_lit 474))), (@DictEntry.mk (@PyData.keyHash P (@Str.ofString "__init__")) (@Value.str (@Str.ofString "__init__") (nat_lit 483)) (@Value.ref (nat_lit 238))), (@DictEntry.mk (@PyData.keyHash P (@Str.ofString "__static_attributes__")) (@Value.str (@Str.ofString "__static_attributes__") (nat_lit 485)) (@Value.ref (nat_lit 239))), (@DictEntry.mk (@PyData.keyHash P (@Str.ofString "__doc__")) (@Value.str (@Str.ofString "__doc__") (nat_lit 486)) Value.none)]) (nat_lit 2)) (.mk []))
def o241 (P : Params) : Obj := (@Obj.mk (@Value.type "type") none (@Data.cls (@ClassData.mk (@Str.ofString "InvalidMenu") [(@Value.ref (nat_lit 31))] [(@Value.ref (nat_lit 241)), (@Value.ref (nat_lit 31)), (@Value.type "ValueError"), (@Value.type "Exception"), (@Value.type "BaseException"), (@Value.type "object")] (nat_lit 240) (@Str.ofString "InvalidMenu") true [] [] false none false)) (.mk [(some (@Value.ref (nat_lit 225))), none, (some (@Value.str (@Str.ofString "InvalidMenu") (nat_lit 464))), (some (@Value.str (@Str.ofString "InvalidMenu") (nat_lit 472))), (some (@Value.builtin "ValueError.__new__")), (some (@Value.bool true))]))
def o242 (P : Params) : Obj := (@Obj.mk (@Value.type "super") none (@Data.fields (.mk [(@Value.ref (nat_lit 241)), (@Value.ref (nat_lit 241)), (@Value.ref (nat_lit 241))])) (.mk []))
def o243 (P : Params) : Obj := (@Obj.mk (@Value.type "builtin_function_or_method") none (@Data.fields (.mk [(@Value.builtin "object.__init_subclass__"), (@Value.ref (nat_lit 241))])) (.mk []))
def o244 (P : Params) : Obj := (@Obj.mk (@Value.type "tuple") none (@Data.seq (.mk [(@Value.ref (nat_lit 31))]) (nat_lit 0)) (.mk []))
def o245 (P : Params) : Obj := (@Obj.mk (@Value.type "builtin_function_or_method") none (@Data.fields (.mk [(@Value.builtin "type.__prepare__"), (@Value.type "type")])) (.mk []))
def o246 (P : Params) : Obj := (@Obj.mk (@Value.type "dict") none (@Data.dict (.mk [(@DictEntry.mk (@PyData.keyHash P (@Str.ofString "__module__")) (@Value.str (@Str.ofString "__module__") (nat_lit 496)) (@Value.str (@Str.ofString "menuhouses.errors") (nat_lit 194))), (@DictEntry.mk (@PyData.keyHash P (@Str.ofString "__qualname__")) (@Value.str (@Str.ofString "__qualname__") (nat_lit 498)) (@Value.str (@Str.ofString "InvalidThings") (nat_lit 497))), (@DictEntry.mk (@PyData.keyHash P (@Str.ofString "__firstlineno__")) (@Value.str (@Str.ofString "__firstlineno__") (nat_lit 500)) (@Value.int (.ofNat (nat_lit 51)) (nat_lit 499))), (@DictEntry.mk (@PyData.keyHash P (@Str.ofString "__init__")) (@Value.str (@Str.ofString "__init__") (nat_lit 508)) (@Value.ref (nat_lit 257))), (@DictEntry.mk (@PyData.keyHash P (@Str.ofString "__static_attributes__")) (@Value.str (@Str.ofString "__static_attributes__") (nat_lit 510)) (@Value.ref (nat_lit 258)))]) (nat_lit 5)) (.mk []))
def o247 (P : Params) : Obj := (@Obj.mk (@Value.type "tuple") none (@Data.seq (.mk []) (nat_lit 0)) (.mk []))
def o248 (P : Params) : Obj := (@Obj.mk Value.none none (@Data.fields (.mk [(@Value.int (.ofNat (nat_lit 53)) (nat_lit 0)), (@Value.int (.ofNat (nat_lit 4)) (nat_lit 0)), (@Value.ref (nat_lit 256))])) (.mk []))
def o249 (P : Params) : Obj := (@Obj.mk (@Value.type "code") none (@Data.fields (.mk [(@Value.str (@Str.ofString "InvalidThings") (nat_lit 491)), (@Value.str (@Str.ofString "InvalidThings") (nat_lit 492)), (@Value.str (@Str.ofString "/claim/cut.py") (nat_lit 493)), (@Value.int (.ofNat (nat_lit 51)) (nat_lit 0)), (@Value.int (.ofNat (nat_lit 0)) (nat_lit 0)), (@Value.int (.ofNat (nat_lit 0)) (nat_lit 0)), (@Value.int (.ofNat (nat_lit 0)) (nat_lit 0)), (@Value.int (.ofNat (nat_lit 0)) (nat_lit 0)), (@Value.ref (nat_lit 247)), (@Value.bool false), (@Value.int (.ofNat (nat_lit 181)) (nat_lit 0)), (@Value.ref (nat_lit 248)), Value.none, Value.none, Value.none, Value.none, (@Value.int (.ofNat (nat_lit 494)) (nat_lit 0)), (@Value.int (.ofNat (nat_lit 51)) (nat_lit 0)), (@Value.str (@Str.ofString "/claim/cut.py") (nat_lit 495))])) (.mk []))
def o250 (P : Params) : Obj := (@Obj.mk (@Value.type "frame") none Data.plain (.mk [(some (@Value.ref (nat_lit 249))), (some (@Value.ref (nat_lit 3))), (some (@Value.ref (nat_lit 246))), none, (some (@Value.str (@Str.ofString "menuhouses.errors") (nat_lit 194))), none, (some (@Value.ref (nat_lit 0)))]))
def o251 (P : Params) : Obj := (@Obj.mk (@Value.type "tuple") none (@Data.seq (.mk []) (nat_lit 0)) (.mk []))
def o252 (P : Params) : Obj := (@Obj.mk Value.none none (@Data.fields (.mk [])) (.mk []))
def o253 (P : Params) : Obj := (@Obj.mk (@Value.type "tuple") none (@Data.seq (.mk [(@Value.str (@Str.ofString "self") (nat_lit 504)), (@Value.str (@Str.ofString "index") (nat_lit 505))]) (nat_lit 0)) (.mk []))
def o254 (P : Params) : Obj := (@Obj.mk (@Value.type "tuple") none (@Data.seq (.mk []) (nat_lit 0)) (.mk []))
def o255 (P : Params) : Obj := (@Obj.mk Value.none none (@Data.func (@FuncData.mk (@Str.ofString "__init__") (@Str.ofString "InvalidThings.__init__") (defArgs (inClass (topS 14) 0)) (@FuncBody.stmts (defBody (inClass (topS 14) 0))) (defScope (inClass (topS 26) 0)) (nat_lit 0) [] Value.none Value.none Value.none Value.none none Value.none Value.none (nat_lit 0))) (.mk []))
def o256 (P : Params) : Obj := (@Obj.mk (@Value.type "code") none (@Data.fields (.mk [(@Value.str (@Str.ofString "__init__") (nat_lit 501)), (@Value.str (@Str.ofString "InvalidThings.__init__") (nat_lit 502)), (@Value.str (@Str.ofString "/claim/cut.py") (nat_lit 503)), (@Value.int (.ofNat (nat_lit 53)) (nat_lit 0)), (@Value.int (.ofNat (nat_lit 2)) (nat_lit 0)), (@Value.int (.ofNat (nat_lit 0)) (nat_lit 0)), (@Value.int (.ofNat (nat_lit 0)) (nat_lit 0)), (@Value.int (.ofNat (nat_lit 3)) (nat_lit 0)), (@Value.ref (nat_lit 251)), (@Value.bool true), (@Value.int (.ofNat (nat_lit 181)) (nat_lit 0)), (@Value.ref (nat_lit 252)), Value.none, (@Value.ref (nat_lit 253)), (@Value.ref (nat_lit 254)), (@Value.ref (nat_lit 255)), (@Value.int (.ofNat (nat_lit 506)) (nat_lit 0)), (@Value.int (.ofNat (nat_lit 53)) (nat_lit 0)), (@Value.str (@Str.ofString "/claim/cut.py") (nat_lit 507))])) (.mk []))
def o257 (P : Params) : Obj := (@Obj.mk (@Value.type "function") none (@Data.func (@FuncData.mk (@Str.ofString "__init__") (@Str.ofString "InvalidThings.__init__") (defArgs (inClass (topS 14) 0)) (@FuncBody.stmts (defBody (inClass (topS 14) 0))) (defScope (inClass (topS 26) 0)) (nat_lit 3) [] Value.none Value.none Value.none (@Value.str (@Str.ofString "menuhouses.errors") (nat_lit 194)) none (@Value.ref (nat_lit 256)) Value.none (nat_lit 0))) (.mk []))
def o258 (P : Params) : Obj := (@Obj.mk (@Value.type "tuple") none (@Data.seq (.mk [(@Value.str (@Str.ofString "index") (nat_lit 509))]) (nat_lit 0)) (.mk []))
def o259 (P : Params) : Obj := (@Obj.mk (@Value.type "dict") none (@Data.dict (.mk [(@DictEntry.mk (@PyData.keyHash P (@Str.ofString "__module__")) (@Value.str (@Str.ofString "__module__") (nat_lit 496)) (@Value.str (@Str.ofString "menuhouses.errors") (nat_lit 194))), (@DictEntry.mk (@PyData.keyHash P (@Str.ofString "__firstlineno__")) (@Value.str (@Str.ofString "__firstlineno__") (nat_lit 500)) (@Value.int (.ofNat (nat_lit 51)) (nat_lit 499))), (@DictEntry.mk (@PyData.keyHash P (@Str.ofString "__init__")) (@Value.str (@Str.ofString "__init__") (nat_lit 508)) (@Value.ref (nat_lit 257))), (@DictEntry.mk (@PyData.keyHash P (@Str.ofString "__static_attributes__")) (@Value.str (@Str.ofString "__static_attributes__") (nat_lit 510)) (@Value.ref (nat_lit 258))), (@DictEntry.mk (@PyData.keyHash P (@Str.ofString "__doc__")) (@Value.str (@Str.ofString "__doc__") (nat_lit 511)) Value.none)]) (nat_lit 2)) (.mk []))
def o260 (P : Params) : Obj := (@Obj.mk (@Value.type "type") none (@Data.cls (@ClassData.mk (@Str.ofString "InvalidThings") [(@Value.ref (nat_lit 31))] [(@Value.ref (nat_lit 260)), (@Value.ref (nat_lit 31)), (@Value.type "ValueError"), (@Value.type "Exception"), (@Value.type "BaseException"), (@Value.type "object")] (nat_lit 259) (@Str.ofString "InvalidThings") true [] [] false none false)) (.mk [(some (@Value.ref (nat_lit 244))), none, (some (@Value.str (@Str.ofString "InvalidThings") (nat_lit 489))), (some (@Value.str (@Str.ofString "InvalidThings") (nat_lit 497))), (some (@Value.builtin "ValueError.__new__")), (some (@Value.bool true))]))
def o261 (P : Params) : Obj := (@Obj.mk (@Value.type "super") none (@Data.fields (.mk [(@Value.ref (nat_lit 260)), (@Value.ref (nat_lit 260)), (@Value.ref (nat_lit 260))])) (.mk []))
def o262 (P : Params) : Obj := (@Obj.mk (@Value.type "builtin_function_or_method") none (@Data.fields (.mk [(@Value.builtin "object.__init_subclass__"), (@Value.ref (nat_lit 260))])) (.mk []))
def o263 (P : Params) : Obj := (@Obj.mk (@Value.type "tuple") none (@Data.seq (.mk [(@Value.ref (nat_lit 31))]) (nat_lit 0)) (.mk []))
def o264 (P : Params) : Obj := (@Obj.mk (@Value.type "builtin_function_or_method") none (@Data.fields (.mk [(@Value.builtin "type.__prepare__"), (@Value.type "type")])) (.mk []))
def o265 (P : Params) : Obj := (@Obj.mk (@Value.type "dict") none (@Data.dict (.mk [(@DictEntry.mk (@PyData.keyHash P (@Str.ofString "__module__")) (@Value.str (@Str.ofString "__module__") (nat_lit 521)) (@Value.str (@Str.ofString "menuhouses.errors") (nat_lit 194))), (@DictEntry.mk (@PyData.keyHash P (@Str.ofString "__qualname__")) (@Value.str (@Str.ofString "__qualname__") (nat_lit 523)) (@Value.str (@Str.ofString "InvalidTaken") (nat_lit 522))), (@DictEntry.mk (@PyData.keyHash P (@Str.ofString "__firstlineno__")) (@Value.str (@Str.ofString "__firstlineno__") (nat_lit 525)) (@Value.int (.ofNat (nat_lit 55)) (nat_lit 524))), (@DictEntry.mk (@PyData.keyHash P (@Str.ofString "__init__")) (@Value.str (@Str.ofString "__init__") (nat_lit 533)) (@Value.ref (nat_lit 276))), (@DictEntry.mk (@PyData.keyHash P (@Str.ofString "__static_attributes__")) (@Value.str (@Str.ofString "__static_attributes__") (nat_lit 535)) (@Value.ref (nat_lit 277)))]) (nat_lit 5)) (.mk []))
def o266 (P : Params) : Obj := (@Obj.mk (@Value.type "tuple") none (@Data.seq (.mk []) (nat_lit 0)) (.mk []))
def o267 (P : Params) : Obj := (@Obj.mk Value.none none (@Data.fields (.mk [(@Value.int (.ofNat (nat_lit 57)) (nat_lit 0)), (@Value.int (.ofNat (nat_lit 4)) (nat_lit 0)), (@Value.ref (nat_lit 275))])) (.mk []))
def o268 (P : Params) : Obj := (@Obj.mk (@Value.type "code") none (@Data.fields (.mk [(@Value.str (@Str.ofString "InvalidTaken") (nat_lit 516)), (@Value.str (@Str.ofString "InvalidTaken") (nat_lit 517)), (@Value.str (@Str.ofString "/claim/cut.py") (nat_lit 518)), (@Value.int (.ofNat (nat_lit 55)) (nat_lit 0)), (@Value.int (.ofNat (nat_lit 0)) (nat_lit 0)), (@Value.int (.ofNat (nat_lit 0)) (nat_lit 0)), (@Value.int (.ofNat (nat_lit 0)) (nat_lit 0)), (@Value.int (.ofNat (nat_lit 0)) (nat_lit 0)), (@Value.ref (nat_lit 266)), (@Value.bool false), (@Value.int (.ofNat (nat_lit 181)) (nat_lit 0)), (@Value.ref (nat_lit 267)), Value.none, Value.none, Value.none, Value.none, (@Value.int (.ofNat (nat_lit 519)) (nat_lit 0)), (@Value.int (.ofNat (nat_lit 55)) (nat_lit 0)), (@Value.str (@Str.ofString "/claim/cut.py") (nat_lit 520))])) (.mk []))
def o269 (P : Params) : Obj := (@Obj.mk (@Value.type "frame") none Data.plain (.mk [(some (@Value.ref (nat_lit 268))), (some (@Value.ref (nat_lit 3))), (some (@Value.ref (nat_lit 265))), none, (some (@Value.str (@Str.ofString "menuhouses.errors") (nat_lit 194))), none, (some (@Value.ref (nat_lit 0)))]))
def o270 (P : Params) : Obj := (@Obj.mk (@Value.type "tuple") none (@Data.seq (.mk []) (nat_lit 0)) (.mk []))
def o271 (P : Params) : Obj := (@Obj.mk Value.none none (@Data.fields (.mk [])) (.mk []))
def o272 (P : Params) : Obj := (@Obj.mk (@Value.type "tuple") none (@Data.seq (.mk [(@Value.str (@Str.ofString "self") (nat_lit 529)), (@Value.str (@Str.ofString "index") (nat_lit 530))]) (nat_lit 0)) (.mk []))
def o273 (P : Params) : Obj := (@Obj.mk (@Value.type "tuple") none (@Data.seq (.mk []) (nat_lit 0)) (.mk []))
def o274 (P : Params) : Obj := (@Obj.mk Value.none none (@Data.func (@FuncData.mk (@Str.ofString "__init__") (@Str.ofString "InvalidTaken.__init__") (defArgs (inClass (topS 15) 0)) (@FuncBody.stmts (defBody (inClass (topS 15) 0))) (defScope (inClass (topS 26) 0)) (nat_lit 0) [] Value.none Value.none Value.none Value.none none Value.none Value.none (nat_lit 0))) (.mk []))
def o275 (P : Params) : Obj := (@Obj.mk (@Value.type "code") none (@Data.fields (.mk [(@Value.str (@Str.ofString "__init__") (nat_lit 526)), (@Value.str (@Str.ofString "InvalidTaken.__init__") (nat_lit 527)), (@Value.str (@Str.ofString "/claim/cut.py") (nat_lit 528)), (@Value.int (.ofNat (nat_lit 57)) (nat_lit 0)), (@Value.int (.ofNat (nat_lit 2)) (nat_lit 0)), (@Value.int (.ofNat (nat_lit 0)) (nat_lit 0)), (@Value.int (.ofNat (nat_lit 0)) (nat_lit 0)), (@Value.int (.ofNat (nat_lit 3)) (nat_lit 0)), (@Value.ref (nat_lit 270)), (@Value.bool true), (@Value.int (.ofNat (nat_lit 181)) (nat_lit 0)), (@Value.ref (nat_lit 271)), Value.none, (@Value.ref (nat_lit 272)), (@Value.ref (nat_lit 273)), (@Value.ref (nat_lit 274)), (@Value.int (.ofNat (nat_lit 531)) (nat_lit 0)), (@Value.int (.ofNat (nat_lit 57)) (nat_lit 0)), (@Value.str (@Str.ofString "/claim/cut.py") (nat_lit 532))])) (.mk []))
def o276 (P : Params) : Obj := (@Obj.mk (@Value.type "function") none (@Data.func (@FuncData.mk (@Str.ofString "__init__") (@Str.ofString "InvalidTaken.__init__") (defArgs (inClass (topS 15) 0)) (@FuncBody.stmts (defBody (inClass (topS 15) 0))) (defScope (inClass (topS 26) 0)) (nat_lit 3) [] Value.none Value.none Value.none (@Value.str (@Str.ofString "menuhouses.errors") (nat_lit 194)) none (@Value.ref (nat_lit 275)) Value.none (nat_lit 0))) (.mk []))
def o277 (P : Params) : Obj := (@Obj.mk (@Value.type "tuple") none (@Data.seq (.mk [(@Value.str (@Str.ofString "index") (nat_lit 534))]) (nat_lit 0)) (.mk []))
def o278 (P : Params) : Obj := (@Obj.mk (@Value.type "dict") none (@Data.dict (.mk [(@DictEntry.mk (@PyData.keyHash P (@Str.ofString "__module__")) (@Value.str (@Str.ofString "__module__") (nat_lit 521)) (@Value.str (@Str.ofString "menuhouses.errors") (nat_lit 194))), (@DictEntry.mk (@PyData.keyHash P (@Str.ofString "__firstlineno__")) (@Value.str (@Str.ofString "__firstlineno__") (nat_lit 525)) (@Value.int (.ofNat (nat_lit 55)) (nat_lit 524))), (@DictEntry.mk (@PyData.keyHash P (@Str.ofString "__init__")) (@Value.str (@Str.ofString "__init__") (nat_lit 533)) (@Value.ref (nat_lit 276))), (@DictEntry.mk (@PyData.keyHash P (@Str.ofString "__static_attributes__")) (@Value.str (@Str.ofString "__static_attributes__") (nat_lit 535)) (@Value.ref (nat_lit 277))), (@DictEntry.mk (@PyData.keyHash P (@Str.ofString "__doc__")) (@Value.str (@Str.ofString "__doc__") (nat_lit 536)) Value.none)]) (nat_lit 2)) (.mk []))
def o279 (P : Params) : Obj := (@Obj.mk (@Value.type "type") none (@Data.cls (@ClassData.mk (@Str.ofString "InvalidTaken") [(@Value.ref (nat_lit 31))] [(@Value.ref (nat_lit 279)), (@Value.ref (nat_lit 31)), (@Value.type "ValueError"), (@Value.type "Exception"), (@Value.type "BaseException"), (@Value.type "object")] (nat_lit 278) (@Str.ofString "InvalidTaken") true [] [] false none false)) (.mk [(some (@Value.ref (nat_lit 263))), none, (some (@Value.str (@Str.ofString "InvalidTaken") (nat_lit 514))), (some (@Value.str (@Str.ofString "InvalidTaken") (nat_lit 522))), (some (@Value.builtin "ValueError.__new__")), (some (@Value.bool true))]))
def o280 (P : Params) : Obj := (@Obj.mk (@Value.type "super") none (@Data.fields (.mk [(@Value.ref (nat_lit 279)), (@Value.ref (nat_lit 279)), (@Value.ref (nat_lit 279))])) (.mk []))
def o281 (P : Params) : Obj := (@Obj.mk (@Value.type "builtin_function_or_method") none (@Data.fields (.mk [(@Value.builtin "object.__init_subclass__"), (@Value.ref (nat_lit 279))])) (.mk []))
def o282 (P : Params) : Obj := (@Obj.mk (@Value.type "tuple") none (@Data.seq (.mk [(@Value.ref (nat_lit 31))]) (nat_lit 0)) (.mk []))
def o283 (P : Params) : Obj := (@Obj.mk (@Value.type "builtin_function_or_method") none (@Data.fields (.mk [(@Value.builtin "type.__prepare__"), (@Value.type "type")])) (.mk []))
def o284 (P : Params) : Obj := (@Obj.mk (@Value.type "dict") none (@Data.dict (.mk [(@DictEntry.mk (@PyData.keyHash P (@Str.ofString "__module__")) (@Value.str (@Str.ofString "__module__") (nat_lit 546)) (@Value.str (@Str.ofString "menuhouses.errors") (nat_lit 194))), (@DictEntry.mk (@PyData.keyHash P (@Str.ofString "__qualname__")) (@Value.str (@Str.ofString "__qualname__") (nat_lit 548)) (@Value.str (@Str.ofString "InvalidRankings") (nat_lit 547))), (@DictEntry.mk (@PyData.keyHash P (@Str.ofString "__firstlineno__")) (@Value.str (@Str.ofString "__firstlineno__") (nat_lit 550)) (@Value.int (.ofNat (nat_lit 59)) (nat_lit 549))), (@DictEntry.mk (@PyData.keyHash P (@Str.ofString "__init__")) (@Value.str (@Str.ofString "__init__") (nat_lit 558)) (@Value.ref (nat_lit 295))), (@DictEntry.mk (@PyData.keyHash P (@Str.ofString "__static_attributes__")) (@Value.str (@Str.ofString "__static_attributes__") (nat_lit 560)) (@Value.ref (nat_lit 296)))]) (nat_lit 5)) (.mk []))
def o285 (P : Params) : Obj := (@Obj.mk (@Value.type "tuple") none (@Data.seq (.mk []) (nat_lit 0)) (.mk []))
def o286 (P : Params) : Obj := (@Obj.mk Value.none none (@Data.fields (.mk [(@Value.int (.ofNat (nat_lit 61)) (nat_lit 0)), (@Value.int (.ofNat (nat_lit 4)) (nat_lit 0)), (@Value.ref (nat_lit 294))])) (.mk []))
def o287 (P : Params) : Obj := (@Obj.mk (@Value.type "code") none (@Data.fields (.mk [(@Value.str (@Str.ofString "InvalidRankings") (nat_lit 541)), (@Value.str (@Str.ofString "InvalidRankings") (nat_lit 542)), (@Value.str (@Str.ofString "/claim/cut.py") (nat_lit 543)), (@Value.int (.ofNat (nat_lit 59)) (nat_lit 0)), (@Value.int (.ofNat (nat_lit 0)) (nat_lit 0)), (@Value.int (.ofNat (nat_lit 0)) (nat_lit 0)), (@Value.int (.ofNat (nat_lit 0)) (nat_lit 0)), (@Value.int (.ofNat (nat_lit 0)) (nat_lit 0)), (@Value.ref (nat_lit 285)), (@Value.bool false), (@Value.int (.ofNat (nat_lit 181)) (nat_lit 0)), (@Value.ref (nat_lit 286)), Value.none, Value.none, Value.none, Value.none, (@Value.int (.ofNat (nat_lit 544)) (nat_lit 0)), (@Value.int (.ofNat (nat_lit 59)) (nat_lit 0)), (@Value.str (@Str.ofString "/claim/cut.py") (nat_lit 545))])) (.mk []))
def o288 (P : Params) : Obj := (@Obj.mk (@Value.type "frame") none Data.plain (.mk [(some (@Value.ref (nat_lit 287))), (some (@Value.ref (nat_lit 3))), (some (@Value.ref (nat_lit 284))), none, (some (@Value.str (@Str.ofString "menuhouses.errors") (nat_lit 194))), none, (some (@Value.ref (nat_lit 0)))]))
def o289 (P : Params) : Obj := (@Obj.mk (@Value.type "tuple") none (@Data.seq (.mk []) (nat_lit 0)) (.mk []))
def o290 (P : Params) : Obj := (@Obj.mk Value.none none (@Data.fields (.mk [])) (.mk []))
def o291 (P : Params) : Obj := (@Obj.mk (@Value.type "tuple") none (@Data.seq (.mk [(@Value.str (@Str.ofString "self") (nat_lit 554)), (@Value.str (@Str.ofString "index") (nat_lit 555))]) (nat_lit 0)) (.mk []))
def o292 (P : Params) : Obj := (@Obj.mk (@Value.type "tuple") none (@Data.seq (.mk []) (nat_lit 0)) (.mk []))
def o293 (P : Params) : Obj := (@Obj.mk Value.none none (@Data.func (@FuncData.mk (@Str.ofString "__init__") (@Str.ofString "InvalidRankings.__init__") (defArgs (inClass (topS 16) 0)) (@FuncBody.stmts (defBody (inClass (topS 16) 0))) (defScope (inClass (topS 26) 0)) (nat_lit 0) [] Value.none Value.none Value.none Value.none none Value.none Value.none (nat_lit 0))) (.mk []))
def o294 (P : Params) : Obj := (@Obj.mk (@Value.type "code") none (@Data.fields (.mk [(@Value.str (@Str.ofString "__init__") (nat_lit 551)), (@Value.str (@Str.ofString "InvalidRankings.__init__") (nat_lit 552)), (@Value.str (@Str.ofString "/claim/cut.py") (nat_lit 553)), (@Value.int (.ofNat (nat_lit 61)) (nat_lit 0)), (@Value.int (.ofNat (nat_lit 2)) (nat_lit 0)), (@Value.int (.ofNat (nat_lit 0)) (nat_lit 0)), (@Value.int (.ofNat (nat_lit 0)) (nat_lit 0)), (@Value.int (.ofNat (nat_lit 3)) (nat_lit 0)), (@Value.ref (nat_lit 289)), (@Value.bool true), (@Value.int (.ofNat (nat_lit 181)) (nat_lit 0)), (@Value.ref (nat_lit 290)), Value.none, (@Value.ref (nat_lit 291)), (@Value.ref (nat_lit 292)), (@Value.ref (nat_lit 293)), (@Value.int (.ofNat (nat_lit 556)) (nat_lit 0)), (@Value.int (.ofNat (nat_lit 61)) (nat_lit 0)), (@Value.str (@Str.ofString "/claim/cut.py") (nat_lit 557))])) (.mk []))
def o295 (P : Params) : Obj := (@Obj.mk (@Value.type "function") none (@Data.func (@FuncData.mk (@Str.ofString "__init__") (@Str.ofString "InvalidRankings.__init__") (defArgs (inClass (topS 16) 0)) (@FuncBody.stmts (defBody (inClass (topS 16) 0))) (defScope (inClass (topS 26) 0)) (nat_lit 3) [] Value.none Value.none Value.none (@Value.str (@Str.ofString "menuhouses.errors") (nat_lit 194)) none (@Value.ref (nat_lit 294)) Value.none (nat_lit 0))) (.mk []))
def o296 (P : Params) : Obj := (@Obj.mk (@Value.type "tuple") none (@Data.seq (.mk [(@Value.str (@Str.ofString "index") (nat_lit 559))]) (nat_lit 0)) (.mk []))
def o297 (P : Params) : Obj := (@Obj.mk (@Value.type "dict") none (@Data.dict (.mk [(@DictEntry.mk (@PyData.keyHash P (@Str.ofString "__module__")) (@Value.str (@Str.ofString "__module__") (nat_lit 546)) (@Value.str (@Str.ofString "menuhouses.errors") (nat_lit 194))), (@DictEntry.mk (@PyData.keyHash P (@Str.ofString "__firstlineno__")) (@Value.str (@Str.ofString "__firstlineno__") (nat_lit 550)) (@Value.int (.ofNat (nat_lit 59)) (nat_lit 549))), (@DictEntry.mk (@PyData.keyHash P (@Str.ofString "__init__")) (@Value.str (@Str.ofString "__init__") (nat_lit 558)) (@Value.ref (nat_lit 295))), (@DictEntry.mk (@PyData.keyHash P (@Str.ofString "__static_attributes__")) (@Value.str (@Str.ofString "__static_attributes__") (nat_lit 560)) (@Value.ref (nat_lit 296))), (@DictEntry.mk (@PyData.keyHash P (@Str.ofString "__doc__")) (@Value.str (@Str.ofString "__doc__") (nat_lit 561)) Value.none)]) (nat_lit 2)) (.mk []))
def o298 (P : Params) : Obj := (@Obj.mk (@Value.type "type") none (@Data.cls (@ClassData.mk (@Str.ofString "InvalidRankings") [(@Value.ref (nat_lit 31))] [(@Value.ref (nat_lit 298)), (@Value.ref (nat_lit 31)), (@Value.type "ValueError"), (@Value.type "Exception"), (@Value.type "BaseException"), (@Value.type "object")] (nat_lit 297) (@Str.ofString "InvalidRankings") true [] [] false none false)) (.mk [(some (@Value.ref (nat_lit 282))), none, (some (@Value.str (@Str.ofString "InvalidRankings") (nat_lit 539))), (some (@Value.str (@Str.ofString "InvalidRankings") (nat_lit 547))), (some (@Value.builtin "ValueError.__new__")), (some (@Value.bool true))]))
def o299 (P : Params) : Obj := (@Obj.mk (@Value.type "super") none (@Data.fields (.mk [(@Value.ref (nat_lit 298)), (@Value.ref (nat_lit 298)), (@Value.ref (nat_lit 298))])) (.mk []))
def o300 (P : Params) : Obj := (@Obj.mk (@Value.type "builtin_function_or_method") none (@Data.fields (.mk [(@Value.builtin "object.__init_subclass__"), (@Value.ref (nat_lit 298))])) (.mk []))
def o2 (P : Params) : Obj := (@Obj.mk Value.none none (@Data.dict (.mk [(@DictEntry.mk (@PyData.keyHash P (@Str.ofString "type.__subclasses__.ArithmeticError.0")) (@Value.str (@Str.ofString "type.__subclasses__.ArithmeticError.0") (nat_lit 673)) (@Value.int (.ofNat (nat_lit 380)) (nat_lit 0))), (@DictEntry.mk (@PyData.keyHash P (@Str.ofString "type.__subclasses__.ArithmeticError.n")) (@Value.str (@Str.ofString "type.__subclasses__.ArithmeticError.n") (nat_lit 674)) (@Value.int (.ofNat (nat_lit 1)) (nat_lit 0)))]) (nat_lit 2)) (.mk []))
def o3v3 (P : Params) : Obj := (@Obj.mk (@Value.type "dict") none (@Data.dict (.mk [(@DictEntry.mk (@PyData.keyHash P (@Str.ofString "__name__")) (@Value.str (@Str.ofString "__name__") (nat_lit 165)) (@Value.str (@Str.ofString "menuhouses.errors") (nat_lit 194))), (@DictEntry.mk (@PyData.keyHash P (@Str.ofString "__doc__")) (@Value.str (@Str.ofString "__doc__") (nat_lit 166)) Value.none), (@DictEntry.mk (@PyData.keyHash P (@Str.ofString "__package__")) (@Value.str (@Str.ofString "__package__") (nat_lit 167)) Value.none), (@DictEntry.mk (@PyData.keyHash P (@Str.ofString "__loader__")) (@Value.str (@Str.ofString "__loader__") (nat_lit 168)) (@Value.builtin "__main__.__loader__#opaque")), (@DictEntry.mk (@PyData.keyHash P (@Str.ofString "__spec__")) (@Value.str (@Str.ofString "__spec__") (nat_lit 169)) Value.none), (@DictEntry.mk (@PyData.keyHash P (@Str.ofString "__annotations__")) (@Value.str (@Str.ofString "__annotations__") (nat_lit 170)) (@Value.ref (nat_lit 6))), (@DictEntry.mk (@PyData.keyHash P (@Str.ofString "__builtins__")) (@Value.str (@Str.ofString "__builtins__") (nat_lit 171)) (@Value.ref (nat_lit 4))), (@DictEntry.mk (@PyData.keyHash P (@Str.ofString "__file__")) (@Value.str (@Str.ofString "__file__") (nat_lit 173)) (@Value.str (@Str.ofString "/claim/cut.py") (nat_lit 172))), (@DictEntry.mk (@PyData.keyHash P (@Str.ofString "__cached__")) (@Value.str (@Str.ofString "__cached__") (nat_lit 174)) Value.none), (@DictEntry.mk (@PyData.keyHash P (@Str.ofString "_wall")) (@Value.str (@Str.ofString "_wall") (nat_lit 193)) (@Value.ref (nat_lit 21))), (@DictEntry.mk (@PyData.keyHash P (@Str.ofString "WrongValue")) (@Value.str (@Str.ofString "WrongValue") (nat_lit 213)) (@Value.ref (nat_lit 31))), (@DictEntry.mk (@PyData.keyHash P (@Str.ofString "InvalidText")) (@Value.str (@Str.ofString "InvalidText") (nat_lit 238)) (@Value.ref (nat_lit 51))), (@DictEntry.mk (@PyData.keyHash P (@Str.ofString "InvalidMarks")) (@Value.str (@Str.ofString "InvalidMarks") (nat_lit 263)) (@Value.ref (nat_lit 70))), (@DictEntry.mk (@PyData.keyHash P (@Str.ofString "InvalidIndex")) (@Value.str (@Str.ofString "InvalidIndex") (nat_lit 288)) (@Value.ref (nat_lit 89))), (@DictEntry.mk (@PyData.keyHash P (@Str.ofString "InvalidWord")) (@Value.str (@Str.ofString "InvalidWord") (nat_lit 313)) (@Value.ref (nat_lit 108))), (@DictEntry.mk (@PyData.keyHash P (@Str.ofString "NotARanking")) (@Value.str (@Str.ofString "NotARanking") (nat_lit 338)) (@Value.ref (nat_lit 127))), (@DictEntry.mk (@PyData.keyHash P (@Str.ofString "NotAHouse")) (@Value.str (@Str.ofString "NotAHouse") (nat_lit 363)) (@Value.ref (nat_lit 146))), (@DictEntry.mk (@PyData.keyHash P (@Str.ofString "NotALook")) (@Value.str (@Str.ofString "NotALook") (nat_lit 388)) (@Value.ref (nat_lit 165))), (@DictEntry.mk (@PyData.keyHash P (@Str.ofString "NotLooks")) (@Value.str (@Str.ofString "NotLooks") (nat_lit 413)) (@Value.ref (nat_lit 184))), (@DictEntry.mk (@PyData.keyHash P (@Str.ofString "OtherThings")) (@Value.str (@Str.ofString "OtherThings") (nat_lit 438)) (@Value.ref (nat_lit 203))), (@DictEntry.mk (@PyData.keyHash P (@Str.ofString "InvalidRow")) (@Value.str (@Str.ofString "InvalidRow") (nat_lit 463)) (@Value.ref (nat_lit 222))), (@DictEntry.mk (@PyData.keyHash P (@Str.ofString "InvalidMenu")) (@Value.str (@Str.ofString "InvalidMenu") (nat_lit 488)) (@Value.ref (nat_lit 241))), (@DictEntry.mk (@PyData.keyHash P (@Str.ofString "InvalidThings")) (@Value.str (@Str.ofString "InvalidThings") (nat_lit 513)) (@Value.ref (nat_lit 260))), (@DictEntry.mk (@PyData.keyHash P (@Str.ofString "InvalidTaken")) (@Value.str (@Str.ofString "InvalidTaken") (nat_lit 538)) (@Value.ref (nat_lit 279))), (@DictEntry.mk (@PyData.keyHash P (@Str.ofString "InvalidRankings")) (@Value.str (@Str.ofString "InvalidRankings") (nat_lit 563)) (@Value.ref (nat_lit 298))), (@DictEntry.mk (@PyData.keyHash P (@Str.ofString "InvalidLooks")) (@Value.str (@Str.ofString "InvalidLooks") (nat_lit 588)) (@Value.ref (nat_lit 317))), (@DictEntry.mk (@PyData.keyHash P (@Str.ofString "InvalidTable")) (@Value.str (@Str.ofString "InvalidTable") (nat_lit 613)) (@Value.ref (nat_lit 336))), (@DictEntry.mk (@PyData.keyHash P (@Str.ofString "WrongName")) (@Value.str (@Str.ofString "WrongName") (nat_lit 631)) (@Value.ref (nat_lit 348))), (@DictEntry.mk (@PyData.keyHash P (@Str.ofString "UnknownThing")) (@Value.str (@Str.ofString "UnknownThing") (nat_lit 656)) (@Value.ref (nat_lit 368))), (@DictEntry.mk (@PyData.keyHash P (@Str.ofString "NoAnswer")) (@Value.str (@Str.ofString "NoAnswer") (nat_lit 676)) (@Value.ref (nat_lit 380)))]) (nat_lit 30)) (.mk []))
def o12v4 (P : Params) : Obj := (@Obj.mk Value.none none (@Data.fields (.mk [(@Value.int (.ofNat (nat_lit 1)) (nat_lit 0)), (@Value.int (.ofNat (nat_lit 0)) (nat_lit 0)), (@Value.ref (nat_lit 20)), (@Value.int (.ofNat (nat_lit 5)) (nat_lit 0)), (@Value.int (.ofNat (nat_lit 0)) (nat_lit 0)), (@Value.ref (nat_lit 27)), (@Value.int (.ofNat (nat_lit 7)) (nat_lit 0)), (@Value.int (.ofNat (nat_lit 0)) (nat_lit 0)), (@Value.ref (nat_lit 40)), (@Value.int (.ofNat (nat_lit 11)) (nat_lit 0)), (@Value.int (.ofNat (nat_lit 0)) (nat_lit 0)), (@Value.ref (nat_lit 59)), (@Value.int (.ofNat (nat_lit 15)) (nat_lit 0)), (@Value.int (.ofNat (nat_lit 0)) (nat_lit 0)), (@Value.ref (nat_lit 78)), (@Value.int (.ofNat (nat_lit 19)) (nat_lit 0)), (@Value.int (.ofNat (nat_lit 0)) (nat_lit 0)), (@Value.ref (nat_lit 97)), (@Value.int (.ofNat (nat_lit 23)) (nat_lit 0)), (@Value.int (.ofNat (nat_lit 0)) (nat_lit 0)), (@Value.ref (nat_lit 116)), (@Value.int (.ofNat (nat_lit 27)) (nat_lit 0)), (@Value.int (.ofNat (nat_lit 0)) (nat_lit 0)), (@Value.ref (nat_lit 135)), (@Value.int (.ofNat (nat_lit 31)) (nat_lit 0)), (@Value.int (.ofNat (nat_lit 0)) (nat_lit 0)), (@Value.ref (nat_lit 154)), (@Value.int (.ofNat (nat_lit 35)) (nat_lit 0)), (@Value.int (.ofNat (nat_lit 0)) (nat_lit 0)), (@Value.ref (nat_lit 173)), (@Value.int (.ofNat (nat_lit 39)) (nat_lit 0)), (@Value.int (.ofNat (nat_lit 0)) (nat_lit 0)), (@Value.ref (nat_lit 192)), (@Value.int (.ofNat (nat_lit 43)) (nat_lit 0)), (@Value.int (.ofNat (nat_lit 0)) (nat_lit 0)), (@Value.ref (nat_lit 211)), (@Value.int (.ofNat (nat_lit 47)) (nat_lit 0)), (@Value.int (.ofNat (nat_lit 0)) (nat_lit 0)), (@Value.ref (nat_lit 230)), (@Value.int (.ofNat (nat_lit 51)) (nat_lit 0)), (@Value.int (.ofNat (nat_lit 0)) (nat_lit 0)), (@Value.ref (nat_lit 249)), (@Value.int (.ofNat (nat_lit 55)) (nat_lit 0)), (@Value.int (.ofNat (nat_lit 0)) (nat_lit 0)), (@Value.ref (nat_lit 268)), (@Value.int (.ofNat (nat_lit 59)) (nat_lit 0)), (@Value.int (.ofNat (nat_lit 0)) (nat_lit 0)), (@Value.ref (nat_lit 287)), (@Value.int (.ofNat (nat_lit 63)) (nat_lit 0)), (@Value.int (.ofNat (nat_lit 0)) (nat_lit 0)), (@Value.ref (nat_lit 306)), (@Value.int (.ofNat (nat_lit 67)) (nat_lit 0)), (@Value.int (.ofNat (nat_lit 0)) (nat_lit 0)), (@Value.ref (nat_lit 325)), (@Value.int (.ofNat (nat_lit 71)) (nat_lit 0)), (@Value.int (.ofNat (nat_lit 0)) (nat_lit 0)), (@Value.ref (nat_lit 344)), (@Value.int (.ofNat (nat_lit 73)) (nat_lit 0)), (@Value.int (.ofNat (nat_lit 0)) (nat_lit 0)), (@Value.ref (nat_lit 357)), (@Value.int (.ofNat (nat_lit 77)) (nat_lit 0)), (@Value.int (.ofNat (nat_lit 0)) (nat_lit 0)), (@Value.ref (nat_lit 376))])) (.mk []))
def o31v3 (P : Params) : Obj := (@Obj.mk (@Value.type "type") none (@Data.cls (@ClassData.mk (@Str.ofString "WrongValue") [(@Value.type "ValueError")] [(@Value.ref (nat_lit 31)), (@Value.type "ValueError"), (@Value.type "Exception"), (@Value.type "BaseException"), (@Value.type "object")] (nat_lit 30) (@Str.ofString "WrongValue") true [] [(@Value.ref (nat_lit 51)), (@Value.ref (nat_lit 70)), (@Value.ref (nat_lit 89)), (@Value.ref (nat_lit 108)), (@Value.ref (nat_lit 127)), (@Value.ref (nat_lit 146)), (@Value.ref (nat_lit 165)), (@Value.ref (nat_lit 184)), (@Value.ref (nat_lit 203)), (@Value.ref (nat_lit 222)), (@Value.ref (nat_lit 241)), (@Value.ref (nat_lit 260)), (@Value.ref (nat_lit 279)), (@Value.ref (nat_lit 298)), (@Value.ref (nat_lit 317)), (@Value.ref (nat_lit 336))] false none false)) (.mk [(some (@Value.ref (nat_lit 22))), none, (some (@Value.str (@Str.ofString "WrongValue") (nat_lit 196))), (some (@Value.str (@Str.ofString "WrongValue") (nat_lit 204))), (some (@Value.builtin "ValueError.__new__")), (some (@Value.bool true))]))
def o301 (P : Params) : Obj := (@Obj.mk (@Value.type "tuple") none (@Data.seq (.mk [(@Value.ref (nat_lit 31))]) (nat_lit 0)) (.mk []))
def o302 (P : Params) : Obj := (@Obj.mk (@Value.type "builtin_function_or_method") none (@Data.fields (.mk [(@Value.builtin "type.__prepare__"), (@Value.type "type")])) (.mk []))
def o303 (P : Params) : Obj := (@Obj.mk (@Value.type "dict") none (@Data.dict (.mk [(@DictEntry.mk (@PyData.keyHash P (@Str.ofString "__module__")) (@Value.str (@Str.ofString "__module__") (nat_lit 571)) (@Value.str (@Str.ofString "menuhouses.errors") (nat_lit 194))), (@DictEntry.mk (@PyData.keyHash P (@Str.ofString "__qualname__")) (@Value.str (@Str.ofString "__qualname__") (nat_lit 573)) (@Value.str (@Str.ofString "InvalidLooks") (nat_lit 572))), (@DictEntry.mk (@PyData.keyHash P (@Str.ofString "__firstlineno__")) (@Value.str (@Str.ofString "__firstlineno__") (nat_lit 575)) (@Value.int (.ofNat (nat_lit 63)) (nat_lit 574))), (@DictEntry.mk (@PyData.keyHash P (@Str.ofString "__init__")) (@Value.str (@Str.ofString "__init__") (nat_lit 583)) (@Value.ref (nat_lit 314))), (@DictEntry.mk (@PyData.keyHash P (@Str.ofString "__static_attributes__")) (@Value.str (@Str.ofString "__static_attributes__") (nat_lit 585)) (@Value.ref (nat_lit 315)))]) (nat_lit 5)) (.mk []))
def o304 (P : Params) : Obj := (@Obj.mk (@Value.type "tuple") none (@Data.seq (.mk []) (nat_lit 0)) (.mk []))
def o305 (P : Params) : Obj := (@Obj.mk Value.none none (@Data.fields (.mk [(@Value.int (.ofNat (nat_lit 65)) (nat_lit 0)), (@Value.int (.ofNat (nat_lit 4)) (nat_lit 0)), (@Value.ref (nat_lit 313))])) (.mk []))
def o306 (P : Params) : Obj := (@Obj.mk (@Value.type "code") none (@Data.fields (.mk [(@Value.str (@Str.ofString "InvalidLooks") (nat_lit 566)), (@Value.str (@Str.ofString "InvalidLooks") (nat_lit 567)), (@Value.str (@Str.ofString "/claim/cut.py") (nat_lit 568)), (@Value.int (.ofNat (nat_lit 63)) (nat_lit 0)), (@Value.int (.ofNat (nat_lit 0)) (nat_lit 0)), (@Value.int (.ofNat (nat_lit 0)) (nat_lit 0)), (@Value.int (.ofNat (nat_lit 0)) (nat_lit 0)), (@Value.int (.ofNat (nat_lit 0)) (nat_lit 0)), (@Value.ref (nat_lit 304)), (@Value.bool false), (@Value.int (.ofNat (nat_lit 181)) (nat_lit 0)), (@Value.ref (nat_lit 305)), Value.none, Value.none, Value.none, Value.none, (@Value.int (.ofNat (nat_lit 569)) (nat_lit 0)), (@Value.int (.ofNat (nat_lit 63)) (nat_lit 0)), (@Value.str (@Str.ofString "/claim/cut.py") (nat_lit 570))])) (.mk []))
def o307 (P : Params) : Obj := (@Obj.mk (@Value.type "frame") none Data.plain (.mk [(some (@Value.ref (nat_lit 306))), (some (@Value.ref (nat_lit 3))), (some (@Value.ref (nat_lit 303))), none, (some (@Value.str (@Str.ofString "menuhouses.errors") (nat_lit 194))), none, (some (@Value.ref (nat_lit 0)))]))
def o308 (P : Params) : Obj := (@Obj.mk (@Value.type "tuple") none (@Data.seq (.mk []) (nat_lit 0)) (.mk []))
def o309 (P : Params) : Obj := (@Obj.mk Value.none none (@Data.fields (.mk [])) (.mk []))
def o310 (P : Params) : Obj := (@Obj.mk (@Value.type "tuple") none (@Data.seq (.mk [(@Value.str (@Str.ofString "self") (nat_lit 579)), (@Value.str (@Str.ofString "index") (nat_lit 580))]) (nat_lit 0)) (.mk []))
def o311 (P : Params) : Obj := (@Obj.mk (@Value.type "tuple") none (@Data.seq (.mk []) (nat_lit 0)) (.mk []))
def o312 (P : Params) : Obj := (@Obj.mk Value.none none (@Data.func (@FuncData.mk (@Str.ofString "__init__") (@Str.ofString "InvalidLooks.__init__") (defArgs (inClass (topS 17) 0)) (@FuncBody.stmts (defBody (inClass (topS 17) 0))) (defScope (inClass (topS 26) 0)) (nat_lit 0) [] Value.none Value.none Value.none Value.none none Value.none Value.none (nat_lit 0))) (.mk []))
def o313 (P : Params) : Obj := (@Obj.mk (@Value.type "code") none (@Data.fields (.mk [(@Value.str (@Str.ofString "__init__") (nat_lit 576)), (@Value.str (@Str.ofString "InvalidLooks.__init__") (nat_lit 577)), (@Value.str (@Str.ofString "/claim/cut.py") (nat_lit 578)), (@Value.int (.ofNat (nat_lit 65)) (nat_lit 0)), (@Value.int (.ofNat (nat_lit 2)) (nat_lit 0)), (@Value.int (.ofNat (nat_lit 0)) (nat_lit 0)), (@Value.int (.ofNat (nat_lit 0)) (nat_lit 0)), (@Value.int (.ofNat (nat_lit 3)) (nat_lit 0)), (@Value.ref (nat_lit 308)), (@Value.bool true), (@Value.int (.ofNat (nat_lit 181)) (nat_lit 0)), (@Value.ref (nat_lit 309)), Value.none, (@Value.ref (nat_lit 310)), (@Value.ref (nat_lit 311)), (@Value.ref (nat_lit 312)), (@Value.int (.ofNat (nat_lit 581)) (nat_lit 0)), (@Value.int (.ofNat (nat_lit 65)) (nat_lit 0)), (@Value.str (@Str.ofString "/claim/cut.py") (nat_lit 582))])) (.mk []))
def o314 (P : Params) : Obj := (@Obj.mk (@Value.type "function") none (@Data.func (@FuncData.mk (@Str.ofString "__init__") (@Str.ofString "InvalidLooks.__init__") (defArgs (inClass (topS 17) 0)) (@FuncBody.stmts (defBody (inClass (topS 17) 0))) (defScope (inClass (topS 26) 0)) (nat_lit 3) [] Value.none Value.none Value.none (@Value.str (@Str.ofString "menuhouses.errors") (nat_lit 194)) none (@Value.ref (nat_lit 313)) Value.none (nat_lit 0))) (.mk []))
def o315 (P : Params) : Obj := (@Obj.mk (@Value.type "tuple") none (@Data.seq (.mk [(@Value.str (@Str.ofString "index") (nat_lit 584))]) (nat_lit 0)) (.mk []))
def o316 (P : Params) : Obj := (@Obj.mk (@Value.type "dict") none (@Data.dict (.mk [(@DictEntry.mk (@PyData.keyHash P (@Str.ofString "__module__")) (@Value.str (@Str.ofString "__module__") (nat_lit 571)) (@Value.str (@Str.ofString "menuhouses.errors") (nat_lit 194))), (@DictEntry.mk (@PyData.keyHash P (@Str.ofString "__firstlineno__")) (@Value.str (@Str.ofString "__firstlineno__") (nat_lit 575)) (@Value.int (.ofNat (nat_lit 63)) (nat_lit 574))), (@DictEntry.mk (@PyData.keyHash P (@Str.ofString "__init__")) (@Value.str (@Str.ofString "__init__") (nat_lit 583)) (@Value.ref (nat_lit 314))), (@DictEntry.mk (@PyData.keyHash P (@Str.ofString "__static_attributes__")) (@Value.str (@Str.ofString "__static_attributes__") (nat_lit 585)) (@Value.ref (nat_lit 315))), (@DictEntry.mk (@PyData.keyHash P (@Str.ofString "__doc__")) (@Value.str (@Str.ofString "__doc__") (nat_lit 586)) Value.none)]) (nat_lit 2)) (.mk []))
def o317 (P : Params) : Obj := (@Obj.mk (@Value.type "type") none (@Data.cls (@ClassData.mk (@Str.ofString "InvalidLooks") [(@Value.ref (nat_lit 31))] [(@Value.ref (nat_lit 317)), (@Value.ref (nat_lit 31)), (@Value.type "ValueError"), (@Value.type "Exception"), (@Value.type "BaseException"), (@Value.type "object")] (nat_lit 316) (@Str.ofString "InvalidLooks") true [] [] false none false)) (.mk [(some (@Value.ref (nat_lit 301))), none, (some (@Value.str (@Str.ofString "InvalidLooks") (nat_lit 564))), (some (@Value.str (@Str.ofString "InvalidLooks") (nat_lit 572))), (some (@Value.builtin "ValueError.__new__")), (some (@Value.bool true))]))
def o318 (P : Params) : Obj := (@Obj.mk (@Value.type "super") none (@Data.fields (.mk [(@Value.ref (nat_lit 317)), (@Value.ref (nat_lit 317)), (@Value.ref (nat_lit 317))])) (.mk []))
def o319 (P : Params) : Obj := (@Obj.mk (@Value.type "builtin_function_or_method") none (@Data.fields (.mk [(@Value.builtin "object.__init_subclass__"), (@Value.ref (nat_lit 317))])) (.mk []))
def o320 (P : Params) : Obj := (@Obj.mk (@Value.type "tuple") none (@Data.seq (.mk [(@Value.ref (nat_lit 31))]) (nat_lit 0)) (.mk []))
def o321 (P : Params) : Obj := (@Obj.mk (@Value.type "builtin_function_or_method") none (@Data.fields (.mk [(@Value.builtin "type.__prepare__"), (@Value.type "type")])) (.mk []))
def o322 (P : Params) : Obj := (@Obj.mk (@Value.type "dict") none (@Data.dict (.mk [(@DictEntry.mk (@PyData.keyHash P (@Str.ofString "__module__")) (@Value.str (@Str.ofString "__module__") (nat_lit 596)) (@Value.str (@Str.ofString "menuhouses.errors") (nat_lit 194))), (@DictEntry.mk (@PyData.keyHash P (@Str.ofString "__qualname__")) (@Value.str (@Str.ofString "__qualname__") (nat_lit 598)) (@Value.str (@Str.ofString "InvalidTable") (nat_lit 597))), (@DictEntry.mk (@PyData.keyHash P (@Str.ofString "__firstlineno__")) (@Value.str (@Str.ofString "__firstlineno__") (nat_lit 600)) (@Value.int (.ofNat (nat_lit 67)) (nat_lit 599))), (@DictEntry.mk (@PyData.keyHash P (@Str.ofString "__init__")) (@Value.str (@Str.ofString "__init__") (nat_lit 608)) (@Value.ref (nat_lit 333))), (@DictEntry.mk (@PyData.keyHash P (@Str.ofString "__static_attributes__")) (@Value.str (@Str.ofString "__static_attributes__") (nat_lit 610)) (@Value.ref (nat_lit 334)))]) (nat_lit 5)) (.mk []))
def o323 (P : Params) : Obj := (@Obj.mk (@Value.type "tuple") none (@Data.seq (.mk []) (nat_lit 0)) (.mk []))
def o324 (P : Params) : Obj := (@Obj.mk Value.none none (@Data.fields (.mk [(@Value.int (.ofNat (nat_lit 69)) (nat_lit 0)), (@Value.int (.ofNat (nat_lit 4)) (nat_lit 0)), (@Value.ref (nat_lit 332))])) (.mk []))
def o325 (P : Params) : Obj := (@Obj.mk (@Value.type "code") none (@Data.fields (.mk [(@Value.str (@Str.ofString "InvalidTable") (nat_lit 591)), (@Value.str (@Str.ofString "InvalidTable") (nat_lit 592)), (@Value.str (@Str.ofString "/claim/cut.py") (nat_lit 593)), (@Value.int (.ofNat (nat_lit 67)) (nat_lit 0)), (@Value.int (.ofNat (nat_lit 0)) (nat_lit 0)), (@Value.int (.ofNat (nat_lit 0)) (nat_lit 0)), (@Value.int (.ofNat (nat_lit 0)) (nat_lit 0)), (@Value.int (.ofNat (nat_lit 0)) (nat_lit 0)), (@Value.ref (nat_lit 323)), (@Value.bool false), (@Value.int (.ofNat (nat_lit 181)) (nat_lit 0)), (@Value.ref (nat_lit 324)), Value.none, Value.none, Value.none, Value.none, (@Value.int (.ofNat (nat_lit 594)) (nat_lit 0)), (@Value.int (.ofNat (nat_lit 67)) (nat_lit 0)), (@Value.str (@Str.ofString "/claim/cut.py") (nat_lit 595))])) (.mk []))
def o326 (P : Params) : Obj := (@Obj.mk (@Value.type "frame") none Data.plain (.mk [(some (@Value.ref (nat_lit 325))), (some (@Value.ref (nat_lit 3))), (some (@Value.ref (nat_lit 322))), none, (some (@Value.str (@Str.ofString "menuhouses.errors") (nat_lit 194))), none, (some (@Value.ref (nat_lit 0)))]))
def o327 (P : Params) : Obj := (@Obj.mk (@Value.type "tuple") none (@Data.seq (.mk []) (nat_lit 0)) (.mk []))
def o328 (P : Params) : Obj := (@Obj.mk Value.none none (@Data.fields (.mk [])) (.mk []))
def o329 (P : Params) : Obj := (@Obj.mk (@Value.type "tuple") none (@Data.seq (.mk [(@Value.str (@Str.ofString "self") (nat_lit 604)), (@Value.str (@Str.ofString "index") (nat_lit 605))]) (nat_lit 0)) (.mk []))
def o330 (P : Params) : Obj := (@Obj.mk (@Value.type "tuple") none (@Data.seq (.mk []) (nat_lit 0)) (.mk []))
def o331 (P : Params) : Obj := (@Obj.mk Value.none none (@Data.func (@FuncData.mk (@Str.ofString "__init__") (@Str.ofString "InvalidTable.__init__") (defArgs (inClass (topS 18) 0)) (@FuncBody.stmts (defBody (inClass (topS 18) 0))) (defScope (inClass (topS 26) 0)) (nat_lit 0) [] Value.none Value.none Value.none Value.none none Value.none Value.none (nat_lit 0))) (.mk []))
def o332 (P : Params) : Obj := (@Obj.mk (@Value.type "code") none (@Data.fields (.mk [(@Value.str (@Str.ofString "__init__") (nat_lit 601)), (@Value.str (@Str.ofString "InvalidTable.__init__") (nat_lit 602)), (@Value.str (@Str.ofString "/claim/cut.py") (nat_lit 603)), (@Value.int (.ofNat (nat_lit 69)) (nat_lit 0)), (@Value.int (.ofNat (nat_lit 2)) (nat_lit 0)), (@Value.int (.ofNat (nat_lit 0)) (nat_lit 0)), (@Value.int (.ofNat (nat_lit 0)) (nat_lit 0)), (@Value.int (.ofNat (nat_lit 3)) (nat_lit 0)), (@Value.ref (nat_lit 327)), (@Value.bool true), (@Value.int (.ofNat (nat_lit 181)) (nat_lit 0)), (@Value.ref (nat_lit 328)), Value.none, (@Value.ref (nat_lit 329)), (@Value.ref (nat_lit 330)), (@Value.ref (nat_lit 331)), (@Value.int (.ofNat (nat_lit 606)) (nat_lit 0)), (@Value.int (.ofNat (nat_lit 69)) (nat_lit 0)), (@Value.str (@Str.ofString "/claim/cut.py") (nat_lit 607))])) (.mk []))
def o333 (P : Params) : Obj := (@Obj.mk (@Value.type "function") none (@Data.func (@FuncData.mk (@Str.ofString "__init__") (@Str.ofString "InvalidTable.__init__") (defArgs (inClass (topS 18) 0)) (@FuncBody.stmts (defBody (inClass (topS 18) 0))) (defScope (inClass (topS 26) 0)) (nat_lit 3) [] Value.none Value.none Value.none (@Value.str (@Str.ofString "menuhouses.errors") (nat_lit 194)) none (@Value.ref (nat_lit 332)) Value.none (nat_lit 0))) (.mk []))
def o334 (P : Params) : Obj := (@Obj.mk (@Value.type "tuple") none (@Data.seq (.mk [(@Value.str (@Str.ofString "index") (nat_lit 609))]) (nat_lit 0)) (.mk []))
def o335 (P : Params) : Obj := (@Obj.mk (@Value.type "dict") none (@Data.dict (.mk [(@DictEntry.mk (@PyData.keyHash P (@Str.ofString "__module__")) (@Value.str (@Str.ofString "__module__") (nat_lit 596)) (@Value.str (@Str.ofString "menuhouses.errors") (nat_lit 194))), (@DictEntry.mk (@PyData.keyHash P (@Str.ofString "__firstlineno__")) (@Value.str (@Str.ofString "__firstlineno__") (nat_lit 600)) (@Value.int (.ofNat (nat_lit 67)) (nat_lit 599))), (@DictEntry.mk (@PyData.keyHash P (@Str.ofString "__init__")) (@Value.str (@Str.ofString "__init__") (nat_lit 608)) (@Value.ref (nat_lit 333))), (@DictEntry.mk (@PyData.keyHash P (@Str.ofString "__static_attributes__")) (@Value.str (@Str.ofString "__static_attributes__") (nat_lit 610)) (@Value.ref (nat_lit 334))), (@DictEntry.mk (@PyData.keyHash P (@Str.ofString "__doc__")) (@Value.str (@Str.ofString "__doc__") (nat_lit 611)) Value.none)]) (nat_lit 2)) (.mk []))
def o336 (P : Params) : Obj := (@Obj.mk (@Value.type "type") none (@Data.cls (@ClassData.mk (@Str.ofString "InvalidTable") [(@Value.ref (nat_lit 31))] [(@Value.ref (nat_lit 336)), (@Value.ref (nat_lit 31)), (@Value.type "ValueError"), (@Value.type "Exception"), (@Value.type "BaseException"), (@Value.type "object")] (nat_lit 335) (@Str.ofString "InvalidTable") true [] [] false none false)) (.mk [(some (@Value.ref (nat_lit 320))), none, (some (@Value.str (@Str.ofString "InvalidTable") (nat_lit 589))), (some (@Value.str (@Str.ofString "InvalidTable") (nat_lit 597))), (some (@Value.builtin "ValueError.__new__")), (some (@Value.bool true))]))
def o337 (P : Params) : Obj := (@Obj.mk (@Value.type "super") none (@Data.fields (.mk [(@Value.ref (nat_lit 336)), (@Value.ref (nat_lit 336)), (@Value.ref (nat_lit 336))])) (.mk []))
def o338 (P : Params) : Obj := (@Obj.mk (@Value.type "builtin_function_or_method") none (@Data.fields (.mk [(@Value.builtin "object.__init_subclass__"), (@Value.ref (nat_lit 336))])) (.mk []))
def o339 (P : Params) : Obj := (@Obj.mk (@Value.type "tuple") none (@Data.seq (.mk [(@Value.type "LookupError")]) (nat_lit 0)) (.mk []))
def o340 (P : Params) : Obj := (@Obj.mk (@Value.type "builtin_function_or_method") none (@Data.fields (.mk [(@Value.builtin "type.__prepare__"), (@Value.type "type")])) (.mk []))
def o341 (P : Params) : Obj := (@Obj.mk (@Value.type "dict") none (@Data.dict (.mk [(@DictEntry.mk (@PyData.keyHash P (@Str.ofString "__module__")) (@Value.str (@Str.ofString "__module__") (nat_lit 621)) (@Value.str (@Str.ofString "menuhouses.errors") (nat_lit 194))), (@DictEntry.mk (@PyData.keyHash P (@Str.ofString "__qualname__")) (@Value.str (@Str.ofString "__qualname__") (nat_lit 623)) (@Value.str (@Str.ofString "WrongName") (nat_lit 622))), (@DictEntry.mk (@PyData.keyHash P (@Str.ofString "__firstlineno__")) (@Value.str (@Str.ofString "__firstlineno__") (nat_lit 625)) (@Value.int (.ofNat (nat_lit 71)) (nat_lit 624))), (@DictEntry.mk (@PyData.keyHash P (@Str.ofString "__static_attributes__")) (@Value.str (@Str.ofString "__static_attributes__") (nat_lit 626)) (@Value.ref (nat_lit 346)))]) (nat_lit 4)) (.mk []))
def o342 (P : Params) : Obj := (@Obj.mk (@Value.type "tuple") none (@Data.seq (.mk []) (nat_lit 0)) (.mk []))
def o343 (P : Params) : Obj := (@Obj.mk Value.none none (@Data.fields (.mk [])) (.mk []))
def o344 (P : Params) : Obj := (@Obj.mk (@Value.type "code") none (@Data.fields (.mk [(@Value.str (@Str.ofString "WrongName") (nat_lit 616)), (@Value.str (@Str.ofString "WrongName") (nat_lit 617)), (@Value.str (@Str.ofString "/claim/cut.py") (nat_lit 618)), (@Value.int (.ofNat (nat_lit 71)) (nat_lit 0)), (@Value.int (.ofNat (nat_lit 0)) (nat_lit 0)), (@Value.int (.ofNat (nat_lit 0)) (nat_lit 0)), (@Value.int (.ofNat (nat_lit 0)) (nat_lit 0)), (@Value.int (.ofNat (nat_lit 0)) (nat_lit 0)), (@Value.ref (nat_lit 342)), (@Value.bool false), (@Value.int (.ofNat (nat_lit 181)) (nat_lit 0)), (@Value.ref (nat_lit 343)), Value.none, Value.none, Value.none, Value.none, (@Value.int (.ofNat (nat_lit 619)) (nat_lit 0)), (@Value.int (.ofNat (nat_lit 71)) (nat_lit 0)), (@Value.str (@Str.ofString "/claim/cut.py") (nat_lit 620))])) (.mk []))
def o345 (P : Params) : Obj := (@Obj.mk (@Value.type "frame") none Data.plain (.mk [(some (@Value.ref (nat_lit 344))), (some (@Value.ref (nat_lit 3))), (some (@Value.ref (nat_lit 341))), none, (some (@Value.str (@Str.ofString "menuhouses.errors") (nat_lit 194))), none, (some (@Value.ref (nat_lit 0)))]))
def o346 (P : Params) : Obj := (@Obj.mk (@Value.type "tuple") none (@Data.seq (.mk []) (nat_lit 0)) (.mk []))
def o347 (P : Params) : Obj := (@Obj.mk (@Value.type "dict") none (@Data.dict (.mk [(@DictEntry.mk (@PyData.keyHash P (@Str.ofString "__module__")) (@Value.str (@Str.ofString "__module__") (nat_lit 621)) (@Value.str (@Str.ofString "menuhouses.errors") (nat_lit 194))), (@DictEntry.mk (@PyData.keyHash P (@Str.ofString "__firstlineno__")) (@Value.str (@Str.ofString "__firstlineno__") (nat_lit 625)) (@Value.int (.ofNat (nat_lit 71)) (nat_lit 624))), (@DictEntry.mk (@PyData.keyHash P (@Str.ofString "__static_attributes__")) (@Value.str (@Str.ofString "__static_attributes__") (nat_lit 626)) (@Value.ref (nat_lit 346))), (@DictEntry.mk (@PyData.keyHash P (@Str.ofString "__weakref__")) (@Value.str (@Str.ofString "__weakref__") (nat_lit 628)) (@Value.ref (nat_lit 349))), (@DictEntry.mk (@PyData.keyHash P (@Str.ofString "__doc__")) (@Value.str (@Str.ofString "__doc__") (nat_lit 629)) Value.none)]) (nat_lit 3)) (.mk []))
def o348 (P : Params) : Obj := (@Obj.mk (@Value.type "type") none (@Data.cls (@ClassData.mk (@Str.ofString "WrongName") [(@Value.type "LookupError")] [(@Value.ref (nat_lit 348)), (@Value.type "LookupError"), (@Value.type "Exception"), (@Value.type "BaseException"), (@Value.type "object")] (nat_lit 347) (@Str.ofString "WrongName") true [] [(@Value.ref (nat_lit 368))] false none false)) (.mk [(some (@Value.ref (nat_lit 339))), none, (some (@Value.str (@Str.ofString "WrongName") (nat_lit 614))), (some (@Value.str (@Str.ofString "WrongName") (nat_lit 622))), (some (@Value.builtin "LookupError.__new__")), (some (@Value.bool true))]))
def o349 (P : Params) : Obj := (@Obj.mk (@Value.type "getset_descriptor") none (@Data.fields (.mk [(@Value.str (@Str.ofString "__weakref__") (nat_lit 627)), (@Value.ref (nat_lit 348)), (@Value.builtin "ExceptionGroup.__weakref__"), Value.none])) (.mk []))
def o350 (P : Params) : Obj := (@Obj.mk (@Value.type "super") none (@Data.fields (.mk [(@Value.ref (nat_lit 348)), (@Value.ref (nat_lit 348)), (@Value.ref (nat_lit 348))])) (.mk []))
def o351 (P : Params) : Obj := (@Obj.mk (@Value.type "builtin_function_or_method") none (@Data.fields (.mk [(@Value.builtin "object.__init_subclass__"), (@Value.ref (nat_lit 348))])) (.mk []))
def o352 (P : Params) : Obj := (@Obj.mk (@Value.type "tuple") none (@Data.seq (.mk [(@Value.ref (nat_lit 348))]) (nat_lit 0)) (.mk []))
def o353 (P : Params) : Obj := (@Obj.mk (@Value.type "builtin_function_or_method") none (@Data.fields (.mk [(@Value.builtin "type.__prepare__"), (@Value.type "type")])) (.mk []))
def o354 (P : Params) : Obj := (@Obj.mk (@Value.type "dict") none (@Data.dict (.mk [(@DictEntry.mk (@PyData.keyHash P (@Str.ofString "__module__")) (@Value.str (@Str.ofString "__module__") (nat_lit 639)) (@Value.str (@Str.ofString "menuhouses.errors") (nat_lit 194))), (@DictEntry.mk (@PyData.keyHash P (@Str.ofString "__qualname__")) (@Value.str (@Str.ofString "__qualname__") (nat_lit 641)) (@Value.str (@Str.ofString "UnknownThing") (nat_lit 640))), (@DictEntry.mk (@PyData.keyHash P (@Str.ofString "__firstlineno__")) (@Value.str (@Str.ofString "__firstlineno__") (nat_lit 643)) (@Value.int (.ofNat (nat_lit 73)) (nat_lit 642))), (@DictEntry.mk (@PyData.keyHash P (@Str.ofString "__init__")) (@Value.str (@Str.ofString "__init__") (nat_lit 651)) (@Value.ref (nat_lit 365))), (@DictEntry.mk (@PyData.keyHash P (@Str.ofString "__static_attributes__")) (@Value.str (@Str.ofString "__static_attributes__") (nat_lit 653)) (@Value.ref (nat_lit 366)))]) (nat_lit 5)) (.mk []))
def o355 (P : Params) : Obj := (@Obj.mk (@Value.type "tuple") none (@Data.seq (.mk []) (nat_lit 0)) (.mk []))
def o356 (P : Params) : Obj := (@Obj.mk Value.none none (@Data.fields (.mk [(@Value.int (.ofNat (nat_lit 75)) (nat_lit 0)), (@Value.int (.ofNat (nat_lit 4)) (nat_lit 0)), (@Value.ref (nat_lit 364))])) (.mk []))
def o357 (P : Params) : Obj := (@Obj.mk (@Value.type "code") none (@Data.fields (.mk [(@Value.str (@Str.ofString "UnknownThing") (nat_lit 634)), (@Value.str (@Str.ofString "UnknownThing") (nat_lit 635)), (@Value.str (@Str.ofString "/claim/cut.py") (nat_lit 636)), (@Value.int (.ofNat (nat_lit 73)) (nat_lit 0)), (@Value.int (.ofNat (nat_lit 0)) (nat_lit 0)), (@Value.int (.ofNat (nat_lit 0)) (nat_lit 0)), (@Value.int (.ofNat (nat_lit 0)) (nat_lit 0)), (@Value.int (.ofNat (nat_lit 0)) (nat_lit 0)), (@Value.ref (nat_lit 355)), (@Value.bool false), (@Value.int (.ofNat (nat_lit 181)) (nat_lit 0)), (@Value.ref (nat_lit 356)), Value.none, Value.none, Value.none, Value.none, (@Value.int (.ofNat (nat_lit 637)) (nat_lit 0)), (@Value.int (.ofNat (nat_lit 73)) (nat_lit 0)), (@Value.str (@Str.ofString "/claim/cut.py") (nat_lit 638))])) (.mk []))
def o358 (P : Params) : Obj := (@Obj.mk (@Value.type "frame") none Data.plain (.mk [(some (@Value.ref (nat_lit 357))), (some (@Value.ref (nat_lit 3))), (some (@Value.ref (nat_lit 354))), none, (some (@Value.str (@Str.ofString "menuhouses.errors") (nat_lit 194))), none, (some (@Value.ref (nat_lit 0)))]))
def o359 (P : Params) : Obj := (@Obj.mk (@Value.type "tuple") none (@Data.seq (.mk []) (nat_lit 0)) (.mk []))
def o360 (P : Params) : Obj := (@Obj.mk Value.none none (@Data.fields (.mk [])) (.mk []))
def o361 (P : Params) : Obj := (@Obj.mk (@Value.type "tuple") none (@Data.seq (.mk [(@Value.str (@Str.ofString "self") (nat_lit 647)), (@Value.str (@Str.ofString "given") (nat_lit 648))]) (nat_lit 0)) (.mk []))
def o362 (P : Params) : Obj := (@Obj.mk (@Value.type "tuple") none (@Data.seq (.mk []) (nat_lit 0)) (.mk []))
def o363 (P : Params) : Obj := (@Obj.mk Value.none none (@Data.func (@FuncData.mk (@Str.ofString "__init__") (@Str.ofString "UnknownThing.__init__") (defArgs (inClass (topS 20) 0)) (@FuncBody.stmts (defBody (inClass (topS 20) 0))) (defScope (inClass (topS 20) 0)) (nat_lit 0) [] Value.none Value.none Value.none Value.none none Value.none Value.none (nat_lit 0))) (.mk []))
def o364 (P : Params) : Obj := (@Obj.mk (@Value.type "code") none (@Data.fields (.mk [(@Value.str (@Str.ofString "__init__") (nat_lit 644)), (@Value.str (@Str.ofString "UnknownThing.__init__") (nat_lit 645)), (@Value.str (@Str.ofString "/claim/cut.py") (nat_lit 646)), (@Value.int (.ofNat (nat_lit 75)) (nat_lit 0)), (@Value.int (.ofNat (nat_lit 2)) (nat_lit 0)), (@Value.int (.ofNat (nat_lit 0)) (nat_lit 0)), (@Value.int (.ofNat (nat_lit 0)) (nat_lit 0)), (@Value.int (.ofNat (nat_lit 3)) (nat_lit 0)), (@Value.ref (nat_lit 359)), (@Value.bool true), (@Value.int (.ofNat (nat_lit 181)) (nat_lit 0)), (@Value.ref (nat_lit 360)), Value.none, (@Value.ref (nat_lit 361)), (@Value.ref (nat_lit 362)), (@Value.ref (nat_lit 363)), (@Value.int (.ofNat (nat_lit 649)) (nat_lit 0)), (@Value.int (.ofNat (nat_lit 75)) (nat_lit 0)), (@Value.str (@Str.ofString "/claim/cut.py") (nat_lit 650))])) (.mk []))
def o365 (P : Params) : Obj := (@Obj.mk (@Value.type "function") none (@Data.func (@FuncData.mk (@Str.ofString "__init__") (@Str.ofString "UnknownThing.__init__") (defArgs (inClass (topS 20) 0)) (@FuncBody.stmts (defBody (inClass (topS 20) 0))) (defScope (inClass (topS 20) 0)) (nat_lit 3) [] Value.none Value.none Value.none (@Value.str (@Str.ofString "menuhouses.errors") (nat_lit 194)) none (@Value.ref (nat_lit 364)) Value.none (nat_lit 0))) (.mk []))
def o366 (P : Params) : Obj := (@Obj.mk (@Value.type "tuple") none (@Data.seq (.mk [(@Value.str (@Str.ofString "given") (nat_lit 652))]) (nat_lit 0)) (.mk []))
def o367 (P : Params) : Obj := (@Obj.mk (@Value.type "dict") none (@Data.dict (.mk [(@DictEntry.mk (@PyData.keyHash P (@Str.ofString "__module__")) (@Value.str (@Str.ofString "__module__") (nat_lit 639)) (@Value.str (@Str.ofString "menuhouses.errors") (nat_lit 194))), (@DictEntry.mk (@PyData.keyHash P (@Str.ofString "__firstlineno__")) (@Value.str (@Str.ofString "__firstlineno__") (nat_lit 643)) (@Value.int (.ofNat (nat_lit 73)) (nat_lit 642))), (@DictEntry.mk (@PyData.keyHash P (@Str.ofString "__init__")) (@Value.str (@Str.ofString "__init__") (nat_lit 651)) (@Value.ref (nat_lit 365))), (@DictEntry.mk (@PyData.keyHash P (@Str.ofString "__static_attributes__")) (@Value.str (@Str.ofString "__static_attributes__") (nat_lit 653)) (@Value.ref (nat_lit 366))), (@DictEntry.mk (@PyData.keyHash P (@Str.ofString "__doc__")) (@Value.str (@Str.ofString "__doc__") (nat_lit 654)) Value.none)]) (nat_lit 2)) (.mk []))
def o368 (P : Params) : Obj := (@Obj.mk (@Value.type "type") none (@Data.cls (@ClassData.mk (@Str.ofString "UnknownThing") [(@Value.ref (nat_lit 348))] [(@Value.ref (nat_lit 368)), (@Value.ref (nat_lit 348)), (@Value.type "LookupError"), (@Value.type "Exception"), (@Value.type "BaseException"), (@Value.type "object")] (nat_lit 367) (@Str.ofString "UnknownThing") true [] [] false none false)) (.mk [(some (@Value.ref (nat_lit 352))), none, (some (@Value.str (@Str.ofString "UnknownThing") (nat_lit 632))), (some (@Value.str (@Str.ofString "UnknownThing") (nat_lit 640))), (some (@Value.builtin "LookupError.__new__")), (some (@Value.bool true))]))
def o369 (P : Params) : Obj := (@Obj.mk (@Value.type "super") none (@Data.fields (.mk [(@Value.ref (nat_lit 368)), (@Value.ref (nat_lit 368)), (@Value.ref (nat_lit 368))])) (.mk []))
def o370 (P : Params) : Obj := (@Obj.mk (@Value.type "builtin_function_or_method") none (@Data.fields (.mk [(@Value.builtin "object.__init_subclass__"), (@Value.ref (nat_lit 368))])) (.mk []))
def o371 (P : Params) : Obj := (@Obj.mk (@Value.type "tuple") none (@Data.seq (.mk [(@Value.type "ArithmeticError")]) (nat_lit 0)) (.mk []))
def o372 (P : Params) : Obj := (@Obj.mk (@Value.type "builtin_function_or_method") none (@Data.fields (.mk [(@Value.builtin "type.__prepare__"), (@Value.type "type")])) (.mk []))
def o373 (P : Params) : Obj := (@Obj.mk (@Value.type "dict") none (@Data.dict (.mk [(@DictEntry.mk (@PyData.keyHash P (@Str.ofString "__module__")) (@Value.str (@Str.ofString "__module__") (nat_lit 664)) (@Value.str (@Str.ofString "menuhouses.errors") (nat_lit 194))), (@DictEntry.mk (@PyData.keyHash P (@Str.ofString "__qualname__")) (@Value.str (@Str.ofString "__qualname__") (nat_lit 666)) (@Value.str (@Str.ofString "NoAnswer") (nat_lit 665))), (@DictEntry.mk (@PyData.keyHash P (@Str.ofString "__firstlineno__")) (@Value.str (@Str.ofString "__firstlineno__") (nat_lit 668)) (@Value.int (.ofNat (nat_lit 77)) (nat_lit 667))), (@DictEntry.mk (@PyData.keyHash P (@Str.ofString "__static_attributes__")) (@Value.str (@Str.ofString "__static_attributes__") (nat_lit 669)) (@Value.ref (nat_lit 378)))]) (nat_lit 4)) (.mk []))
def o374 (P : Params) : Obj := (@Obj.mk (@Value.type "tuple") none (@Data.seq (.mk []) (nat_lit 0)) (.mk []))
def o375 (P : Params) : Obj := (@Obj.mk Value.none none (@Data.fields (.mk [])) (.mk []))
def o376 (P : Params) : Obj := (@Obj.mk (@Value.type "code") none (@Data.fields (.mk [(@Value.str (@Str.ofString "NoAnswer") (nat_lit 659)), (@Value.str (@Str.ofString "NoAnswer") (nat_lit 660)), (@Value.str (@Str.ofString "/claim/cut.py") (nat_lit 661)), (@Value.int (.ofNat (nat_lit 77)) (nat_lit 0)), (@Value.int (.ofNat (nat_lit 0)) (nat_lit 0)), (@Value.int (.ofNat (nat_lit 0)) (nat_lit 0)), (@Value.int (.ofNat (nat_lit 0)) (nat_lit 0)), (@Value.int (.ofNat (nat_lit 0)) (nat_lit 0)), (@Value.ref (nat_lit 374)), (@Value.bool false), (@Value.int (.ofNat (nat_lit 181)) (nat_lit 0)), (@Value.ref (nat_lit 375)), Value.none, Value.none, Value.none, Value.none, (@Value.int (.ofNat (nat_lit 662)) (nat_lit 0)), (@Value.int (.ofNat (nat_lit 77)) (nat_lit 0)), (@Value.str (@Str.ofString "/claim/cut.py") (nat_lit 663))])) (.mk []))
def o377 (P : Params) : Obj := (@Obj.mk (@Value.type "frame") none Data.plain (.mk [(some (@Value.ref (nat_lit 376))), (some (@Value.ref (nat_lit 3))), (some (@Value.ref (nat_lit 373))), none, (some (@Value.str (@Str.ofString "menuhouses.errors") (nat_lit 194))), none, (some (@Value.ref (nat_lit 0)))]))
def o378 (P : Params) : Obj := (@Obj.mk (@Value.type "tuple") none (@Data.seq (.mk []) (nat_lit 0)) (.mk []))
def o379 (P : Params) : Obj := (@Obj.mk (@Value.type "dict") none (@Data.dict (.mk [(@DictEntry.mk (@PyData.keyHash P (@Str.ofString "__module__")) (@Value.str (@Str.ofString "__module__") (nat_lit 664)) (@Value.str (@Str.ofString "menuhouses.errors") (nat_lit 194))), (@DictEntry.mk (@PyData.keyHash P (@Str.ofString "__firstlineno__")) (@Value.str (@Str.ofString "__firstlineno__") (nat_lit 668)) (@Value.int (.ofNat (nat_lit 77)) (nat_lit 667))), (@DictEntry.mk (@PyData.keyHash P (@Str.ofString "__static_attributes__")) (@Value.str (@Str.ofString "__static_attributes__") (nat_lit 669)) (@Value.ref (nat_lit 378))), (@DictEntry.mk (@PyData.keyHash P (@Str.ofString "__weakref__")) (@Value.str (@Str.ofString "__weakref__") (nat_lit 671)) (@Value.ref (nat_lit 381))), (@DictEntry.mk (@PyData.keyHash P (@Str.ofString "__doc__")) (@Value.str (@Str.ofString "__doc__") (nat_lit 672)) Value.none)]) (nat_lit 3)) (.mk []))
def o380 (P : Params) : Obj := (@Obj.mk (@Value.type "type") none (@Data.cls (@ClassData.mk (@Str.ofString "NoAnswer") [(@Value.type "ArithmeticError")] [(@Value.ref (nat_lit 380)), (@Value.type "ArithmeticError"), (@Value.type "Exception"), (@Value.type "BaseException"), (@Value.type "object")] (nat_lit 379) (@Str.ofString "NoAnswer") true [] [] false none false)) (.mk [(some (@Value.ref (nat_lit 371))), none, (some (@Value.str (@Str.ofString "NoAnswer") (nat_lit 657))), (some (@Value.str (@Str.ofString "NoAnswer") (nat_lit 665))), (some (@Value.builtin "ArithmeticError.__new__")), (some (@Value.bool true))]))
def o381 (P : Params) : Obj := (@Obj.mk (@Value.type "getset_descriptor") none (@Data.fields (.mk [(@Value.str (@Str.ofString "__weakref__") (nat_lit 670)), (@Value.ref (nat_lit 380)), (@Value.builtin "ExceptionGroup.__weakref__"), Value.none])) (.mk []))
def o382 (P : Params) : Obj := (@Obj.mk (@Value.type "super") none (@Data.fields (.mk [(@Value.ref (nat_lit 380)), (@Value.ref (nat_lit 380)), (@Value.ref (nat_lit 380))])) (.mk []))
def o383 (P : Params) : Obj := (@Obj.mk (@Value.type "builtin_function_or_method") none (@Data.fields (.mk [(@Value.builtin "object.__init_subclass__"), (@Value.ref (nat_lit 380))])) (.mk []))
def o3v4 (P : Params) : Obj := (@Obj.mk (@Value.type "dict") none (@Data.dict (.mk [(@DictEntry.mk (@PyData.keyHash P (@Str.ofString "__name__")) (@Value.str (@Str.ofString "__name__") (nat_lit 165)) (@Value.str (@Str.ofString "menuhouses.errors") (nat_lit 194))), (@DictEntry.mk (@PyData.keyHash P (@Str.ofString "__doc__")) (@Value.str (@Str.ofString "__doc__") (nat_lit 166)) Value.none), (@DictEntry.mk (@PyData.keyHash P (@Str.ofString "__package__")) (@Value.str (@Str.ofString "__package__") (nat_lit 167)) Value.none), (@DictEntry.mk (@PyData.keyHash P (@Str.ofString "__loader__")) (@Value.str (@Str.ofString "__loader__") (nat_lit 168)) (@Value.builtin "__main__.__loader__#opaque")), (@DictEntry.mk (@PyData.keyHash P (@Str.ofString "__spec__")) (@Value.str (@Str.ofString "__spec__") (nat_lit 169)) Value.none), (@DictEntry.mk (@PyData.keyHash P (@Str.ofString "__annotations__")) (@Value.str (@Str.ofString "__annotations__") (nat_lit 170)) (@Value.ref (nat_lit 6))), (@DictEntry.mk (@PyData.keyHash P (@Str.ofString "__builtins__")) (@Value.str (@Str.ofString "__builtins__") (nat_lit 171)) (@Value.ref (nat_lit 4))), (@DictEntry.mk (@PyData.keyHash P (@Str.ofString "__file__")) (@Value.str (@Str.ofString "__file__") (nat_lit 173)) (@Value.str (@Str.ofString "/claim/cut.py") (nat_lit 172))), (@DictEntry.mk (@PyData.keyHash P (@Str.ofString "__cached__")) (@Value.str (@Str.ofString "__cached__") (nat_lit 174)) Value.none), (@DictEntry.mk (@PyData.keyHash P (@Str.ofString "_wall")) (@Value.str (@Str.ofString "_wall") (nat_lit 193)) (@Value.ref (nat_lit 21))), (@DictEntry.mk (@PyData.keyHash P (@Str.ofString "WrongValue")) (@Value.str (@Str.ofString "WrongValue") (nat_lit 213)) (@Value.ref (nat_lit 31))), (@DictEntry.mk (@PyData.keyHash P (@Str.ofString "InvalidText")) (@Value.str (@Str.ofString "InvalidText") (nat_lit 238)) (@Value.ref (nat_lit 51))), (@DictEntry.mk (@PyData.keyHash P (@Str.ofString "InvalidMarks")) (@Value.str (@Str.ofString "InvalidMarks") (nat_lit 263)) (@Value.ref (nat_lit 70))), (@DictEntry.mk (@PyData.keyHash P (@Str.ofString "InvalidIndex")) (@Value.str (@Str.ofString "InvalidIndex") (nat_lit 288)) (@Value.ref (nat_lit 89))), (@DictEntry.mk (@PyData.keyHash P (@Str.ofString "InvalidWord")) (@Value.str (@Str.ofString "InvalidWord") (nat_lit 313)) (@Value.ref (nat_lit 108))), (@DictEntry.mk (@PyData.keyHash P (@Str.ofString "NotARanking")) (@Value.str (@Str.ofString "NotARanking") (nat_lit 338)) (@Value.ref (nat_lit 127))), (@DictEntry.mk (@PyData.keyHash P (@Str.ofString "NotAHouse")) (@Value.str (@Str.ofString "NotAHouse") (nat_lit 363)) (@Value.ref (nat_lit 146))), (@DictEntry.mk (@PyData.keyHash P (@Str.ofString "NotALook")) (@Value.str (@Str.ofString "NotALook") (nat_lit 388)) (@Value.ref (nat_lit 165))), (@DictEntry.mk (@PyData.keyHash P (@Str.ofString "NotLooks")) (@Value.str (@Str.ofString "NotLooks") (nat_lit 413)) (@Value.ref (nat_lit 184))), (@DictEntry.mk (@PyData.keyHash P (@Str.ofString "OtherThings")) (@Value.str (@Str.ofString "OtherThings") (nat_lit 438)) (@Value.ref (nat_lit 203))), (@DictEntry.mk (@PyData.keyHash P (@Str.ofString "InvalidRow")) (@Value.str (@Str.ofString "InvalidRow") (nat_lit 463)) (@Value.ref (nat_lit 222))), (@DictEntry.mk (@PyData.keyHash P (@Str.ofString "InvalidMenu")) (@Value.str (@Str.ofString "InvalidMenu") (nat_lit 488)) (@Value.ref (nat_lit 241))), (@DictEntry.mk (@PyData.keyHash P (@Str.ofString "InvalidThings")) (@Value.str (@Str.ofString "InvalidThings") (nat_lit 513)) (@Value.ref (nat_lit 260))), (@DictEntry.mk (@PyData.keyHash P (@Str.ofString "InvalidTaken")) (@Value.str (@Str.ofString "InvalidTaken") (nat_lit 538)) (@Value.ref (nat_lit 279))), (@DictEntry.mk (@PyData.keyHash P (@Str.ofString "InvalidRankings")) (@Value.str (@Str.ofString "InvalidRankings") (nat_lit 563)) (@Value.ref (nat_lit 298))), (@DictEntry.mk (@PyData.keyHash P (@Str.ofString "InvalidLooks")) (@Value.str (@Str.ofString "InvalidLooks") (nat_lit 588)) (@Value.ref (nat_lit 317))), (@DictEntry.mk (@PyData.keyHash P (@Str.ofString "InvalidTable")) (@Value.str (@Str.ofString "InvalidTable") (nat_lit 613)) (@Value.ref (nat_lit 336))), (@DictEntry.mk (@PyData.keyHash P (@Str.ofString "WrongName")) (@Value.str (@Str.ofString "WrongName") (nat_lit 631)) (@Value.ref (nat_lit 348))), (@DictEntry.mk (@PyData.keyHash P (@Str.ofString "UnknownThing")) (@Value.str (@Str.ofString "UnknownThing") (nat_lit 656)) (@Value.ref (nat_lit 368))), (@DictEntry.mk (@PyData.keyHash P (@Str.ofString "NoAnswer")) (@Value.str (@Str.ofString "NoAnswer") (nat_lit 676)) (@Value.ref (nat_lit 380))), (@DictEntry.mk (@PyData.keyHash P (@Str.ofString "TooMany")) (@Value.str (@Str.ofString "TooMany") (nat_lit 701)) (@Value.ref (nat_lit 400))), (@DictEntry.mk (@PyData.keyHash P (@Str.ofString "NoHouse")) (@Value.str (@Str.ofString "NoHouse") (nat_lit 726)) (@Value.ref (nat_lit 419))), (@DictEntry.mk (@PyData.keyHash P (@Str.ofString "NoTable")) (@Value.str (@Str.ofString "NoTable") (nat_lit 753)) (@Value.ref (nat_lit 438))), (@DictEntry.mk (@PyData.keyHash P (@Str.ofString "Clash")) (@Value.str (@Str.ofString "Clash") (nat_lit 778)) (@Value.ref (nat_lit 457))), (@DictEntry.mk (@PyData.keyHash P (@Str.ofString "Broken")) (@Value.str (@Str.ofString "Broken") (nat_lit 803)) (@Value.ref (nat_lit 476)))]) (nat_lit 35)) (.mk []))
def o12v5 (P : Params) : Obj := (@Obj.mk Value.none none (@Data.fields (.mk [(@Value.int (.ofNat (nat_lit 1)) (nat_lit 0)), (@Value.int (.ofNat (nat_lit 0)) (nat_lit 0)), (@Value.ref (nat_lit 20)), (@Value.int (.ofNat (nat_lit 5)) (nat_lit 0)), (@Value.int (.ofNat (nat_lit 0)) (nat_lit 0)), (@Value.ref (nat_lit 27)), (@Value.int (.ofNat (nat_lit 7)) (nat_lit 0)), (@Value.int (.ofNat (nat_lit 0)) (nat_lit 0)), (@Value.ref (nat_lit 40)), (@Value.int (.ofNat (nat_lit 11)) (nat_lit 0)), (@Value.int (.ofNat (nat_lit 0)) (nat_lit 0)), (@Value.ref (nat_lit 59)), (@Value.int (.ofNat (nat_lit 15)) (nat_lit 0)), (@Value.int (.ofNat (nat_lit 0)) (nat_lit 0)), (@Value.ref (nat_lit 78)), (@Value.int (.ofNat (nat_lit 19)) (nat_lit 0)), (@Value.int (.ofNat (nat_lit 0)) (nat_lit 0)), (@Value.ref (nat_lit 97)), (@Value.int (.ofNat (nat_lit 23)) (nat_lit 0)), (@Value.int (.ofNat (nat_lit 0)) (nat_lit 0)), (@Value.ref (nat_lit 116)), (@Value.int (.ofNat (nat_lit 27)) (nat_lit 0)), (@Value.int (.ofNat (nat_lit 0)) (nat_lit 0)), (@Value.ref (nat_lit 135)), (@Value.int (.ofNat (nat_lit 31)) (nat_lit 0)), (@Value.int (.ofNat (nat_lit 0)) (nat_lit 0)), (@Value.ref (nat_lit 154)), (@Value.int (.ofNat (nat_lit 35)) (nat_lit 0)), (@Value.int (.ofNat (nat_lit 0)) (nat_lit 0)), (@Value.ref (nat_lit 173)), (@Value.int (.ofNat (nat_lit 39)) (nat_lit 0)), (@Value.int (.ofNat (nat_lit 0)) (nat_lit 0)), (@Value.ref (nat_lit 192)), (@Value.int (.ofNat (nat_lit 43)) (nat_lit 0)), (@Value.int (.ofNat (nat_lit 0)) (nat_lit 0)), (@Value.ref (nat_lit 211)), (@Value.int (.ofNat (nat_lit 47)) (nat_lit 0)), (@Value.int (.ofNat (nat_lit 0)) (nat_lit 0)), (@Value.ref (nat_lit 230)), (@Value.int (.ofNat (nat_lit 51)) (nat_lit 0)), (@Value.int (.ofNat (nat_lit 0)) (nat_lit 0)), (@Value.ref (nat_lit 249)), (@Value.int (.ofNat (nat_lit 55)) (nat_lit 0)), (@Value.int (.ofNat (nat_lit 0)) (nat_lit 0)), (@Value.ref (nat_lit 268)), (@Value.int (.ofNat (nat_lit 59)) (nat_lit 0)), (@Value.int (.ofNat (nat_lit 0)) (nat_lit 0)), (@Value.ref (nat_lit 287)), (@Value.int (.ofNat (nat_lit 63)) (nat_lit 0)), (@Value.int (.ofNat (nat_lit 0)) (nat_lit 0)), (@Value.ref (nat_lit 306)), (@Value.int (.ofNat (nat_lit 67)) (nat_lit 0)), (@Value.int (.ofNat (nat_lit 0)) (nat_lit 0)), (@Value.ref (nat_lit 325)), (@Value.int (.ofNat (nat_lit 71)) (nat_lit 0)), (@Value.int (.ofNat (nat_lit 0)) (nat_lit 0)), (@Value.ref (nat_lit 344)), (@Value.int (.ofNat (nat_lit 73)) (nat_lit 0)), (@Value.int (.ofNat (nat_lit 0)) (nat_lit 0)), (@Value.ref (nat_lit 357)), (@Value.int (.ofNat (nat_lit 77)) (nat_lit 0)), (@Value.int (.ofNat (nat_lit 0)) (nat_lit 0)), (@Value.ref (nat_lit 376)), (@Value.int (.ofNat (nat_lit 79)) (nat_lit 0)), (@Value.int (.ofNat (nat_lit 0)) (nat_lit 0)), (@Value.ref (nat_lit 389)), (@Value.int (.ofNat (nat_lit 83)) (nat_lit 0)), (@Value.int (.ofNat (nat_lit 0)) (nat_lit 0)), (@Value.ref (nat_lit 408)), (@Value.int (.ofNat (nat_lit 87)) (nat_lit 0)), (@Value.int (.ofNat (nat_lit 0)) (nat_lit 0)), (@Value.ref (nat_lit 427)), (@Value.int (.ofNat (nat_lit 92)) (nat_lit 0)), (@Value.int (.ofNat (nat_lit 0)) (nat_lit 0)), (@Value.ref (nat_lit 446)), (@Value.int (.ofNat (nat_lit 96)) (nat_lit 0)), (@Value.int (.ofNat (nat_lit 0)) (nat_lit 0)), (@Value.ref (nat_lit 465))])) (.mk []))
def o380v1 (P : Params) : Obj := (@Obj.mk (@Value.type "type") none (@Data.cls (@ClassData.mk (@Str.ofString "NoAnswer") [(@Value.type "ArithmeticError")] [(@Value.ref (nat_lit 380)), (@Value.type "ArithmeticError"), (@Value.type "Exception"), (@Value.type "BaseException"), (@Value.type "object")] (nat_lit 379) (@Str.ofString "NoAnswer") true [] [(@Value.ref (nat_lit 400)), (@Value.ref (nat_lit 419)), (@Value.ref (nat_lit 438)), (@Value.ref (nat_lit 457)), (@Value.ref (nat_lit 476))] false none false)) (.mk [(some (@Value.ref (nat_lit 371))), none, (some (@Value.str (@Str.ofString "NoAnswer") (nat_lit 657))), (some (@Value.str (@Str.ofString "NoAnswer") (nat_lit 665))), (some (@Value.builtin "ArithmeticError.__new__")), (some (@Value.bool true))]))
def o384 (P : Params) : Obj := (@Obj.mk (@Value.type "tuple") none (@Data.seq (.mk [(@Value.ref (nat_lit 380))]) (nat_lit 0)) (.mk []))
def o385 (P : Params) : Obj := (@Obj.mk (@Value.type "builtin_function_or_method") none (@Data.fields (.mk [(@Value.builtin "type.__prepare__"), (@Value.type "type")])) (.mk []))
def o386 (P : Params) : Obj := (@Obj.mk (@Value.type "dict") none (@Data.dict (.mk [(@DictEntry.mk (@PyData.keyHash P (@Str.ofString "__module__")) (@Value.str (@Str.ofString "__module__") (nat_lit 684)) (@Value.str (@Str.ofString "menuhouses.errors") (nat_lit 194))), (@DictEntry.mk (@PyData.keyHash P (@Str.ofString "__qualname__")) (@Value.str (@Str.ofString "__qualname__") (nat_lit 686)) (@Value.str (@Str.ofString "TooMany") (nat_lit 685))), (@DictEntry.mk (@PyData.keyHash P (@Str.ofString "__firstlineno__")) (@Value.str (@Str.ofString "__firstlineno__") (nat_lit 688)) (@Value.int (.ofNat (nat_lit 79)) (nat_lit 687))), (@DictEntry.mk (@PyData.keyHash P (@Str.ofString "__init__")) (@Value.str (@Str.ofString "__init__") (nat_lit 696)) (@Value.ref (nat_lit 397))), (@DictEntry.mk (@PyData.keyHash P (@Str.ofString "__static_attributes__")) (@Value.str (@Str.ofString "__static_attributes__") (nat_lit 698)) (@Value.ref (nat_lit 398)))]) (nat_lit 5)) (.mk []))
def o387 (P : Params) : Obj := (@Obj.mk (@Value.type "tuple") none (@Data.seq (.mk []) (nat_lit 0)) (.mk []))
def o388 (P : Params) : Obj := (@Obj.mk Value.none none (@Data.fields (.mk [(@Value.int (.ofNat (nat_lit 81)) (nat_lit 0)), (@Value.int (.ofNat (nat_lit 4)) (nat_lit 0)), (@Value.ref (nat_lit 396))])) (.mk []))
def o389 (P : Params) : Obj := (@Obj.mk (@Value.type "code") none (@Data.fields (.mk [(@Value.str (@Str.ofString "TooMany") (nat_lit 679)), (@Value.str (@Str.ofString "TooMany") (nat_lit 680)), (@Value.str (@Str.ofString "/claim/cut.py") (nat_lit 681)), (@Value.int (.ofNat (nat_lit 79)) (nat_lit 0)), (@Value.int (.ofNat (nat_lit 0)) (nat_lit 0)), (@Value.int (.ofNat (nat_lit 0)) (nat_lit 0)), (@Value.int (.ofNat (nat_lit 0)) (nat_lit 0)), (@Value.int (.ofNat (nat_lit 0)) (nat_lit 0)), (@Value.ref (nat_lit 387)), (@Value.bool false), (@Value.int (.ofNat (nat_lit 181)) (nat_lit 0)), (@Value.ref (nat_lit 388)), Value.none, Value.none, Value.none, Value.none, (@Value.int (.ofNat (nat_lit 682)) (nat_lit 0)), (@Value.int (.ofNat (nat_lit 79)) (nat_lit 0)), (@Value.str (@Str.ofString "/claim/cut.py") (nat_lit 683))])) (.mk []))
def o390 (P : Params) : Obj := (@Obj.mk (@Value.type "frame") none Data.plain (.mk [(some (@Value.ref (nat_lit 389))), (some (@Value.ref (nat_lit 3))), (some (@Value.ref (nat_lit 386))), none, (some (@Value.str (@Str.ofString "menuhouses.errors") (nat_lit 194))), none, (some (@Value.ref (nat_lit 0)))]))
def o391 (P : Params) : Obj := (@Obj.mk (@Value.type "tuple") none (@Data.seq (.mk []) (nat_lit 0)) (.mk []))
def o392 (P : Params) : Obj := (@Obj.mk Value.none none (@Data.fields (.mk [])) (.mk []))
def o393 (P : Params) : Obj := (@Obj.mk (@Value.type "tuple") none (@Data.seq (.mk [(@Value.str (@Str.ofString "self") (nat_lit 692)), (@Value.str (@Str.ofString "number") (nat_lit 693))]) (nat_lit 0)) (.mk []))
def o394 (P : Params) : Obj := (@Obj.mk (@Value.type "tuple") none (@Data.seq (.mk []) (nat_lit 0)) (.mk []))
def o395 (P : Params) : Obj := (@Obj.mk Value.none none (@Data.func (@FuncData.mk (@Str.ofString "__init__") (@Str.ofString "TooMany.__init__") (defArgs (inClass (topS 22) 0)) (@FuncBody.stmts (defBody (inClass (topS 22) 0))) (defScope (inClass (topS 22) 0)) (nat_lit 0) [] Value.none Value.none Value.none Value.none none Value.none Value.none (nat_lit 0))) (.mk []))
def o396 (P : Params) : Obj := (@Obj.mk (@Value.type "code") none (@Data.fields (.mk [(@Value.str (@Str.ofString "__init__") (nat_lit 689)), (@Value.str (@Str.ofString "TooMany.__init__") (nat_lit 690)), (@Value.str (@Str.ofString "/claim/cut.py") (nat_lit 691)), (@Value.int (.ofNat (nat_lit 81)) (nat_lit 0)), (@Value.int (.ofNat (nat_lit 2)) (nat_lit 0)), (@Value.int (.ofNat (nat_lit 0)) (nat_lit 0)), (@Value.int (.ofNat (nat_lit 0)) (nat_lit 0)), (@Value.int (.ofNat (nat_lit 3)) (nat_lit 0)), (@Value.ref (nat_lit 391)), (@Value.bool true), (@Value.int (.ofNat (nat_lit 181)) (nat_lit 0)), (@Value.ref (nat_lit 392)), Value.none, (@Value.ref (nat_lit 393)), (@Value.ref (nat_lit 394)), (@Value.ref (nat_lit 395)), (@Value.int (.ofNat (nat_lit 694)) (nat_lit 0)), (@Value.int (.ofNat (nat_lit 81)) (nat_lit 0)), (@Value.str (@Str.ofString "/claim/cut.py") (nat_lit 695))])) (.mk []))
def o397 (P : Params) : Obj := (@Obj.mk (@Value.type "function") none (@Data.func (@FuncData.mk (@Str.ofString "__init__") (@Str.ofString "TooMany.__init__") (defArgs (inClass (topS 22) 0)) (@FuncBody.stmts (defBody (inClass (topS 22) 0))) (defScope (inClass (topS 22) 0)) (nat_lit 3) [] Value.none Value.none Value.none (@Value.str (@Str.ofString "menuhouses.errors") (nat_lit 194)) none (@Value.ref (nat_lit 396)) Value.none (nat_lit 0))) (.mk []))
def o398 (P : Params) : Obj := (@Obj.mk (@Value.type "tuple") none (@Data.seq (.mk [(@Value.str (@Str.ofString "number") (nat_lit 697))]) (nat_lit 0)) (.mk []))
def o399 (P : Params) : Obj := (@Obj.mk (@Value.type "dict") none (@Data.dict (.mk [(@DictEntry.mk (@PyData.keyHash P (@Str.ofString "__module__")) (@Value.str (@Str.ofString "__module__") (nat_lit 684)) (@Value.str (@Str.ofString "menuhouses.errors") (nat_lit 194))), (@DictEntry.mk (@PyData.keyHash P (@Str.ofString "__firstlineno__")) (@Value.str (@Str.ofString "__firstlineno__") (nat_lit 688)) (@Value.int (.ofNat (nat_lit 79)) (nat_lit 687))), (@DictEntry.mk (@PyData.keyHash P (@Str.ofString "__init__")) (@Value.str (@Str.ofString "__init__") (nat_lit 696)) (@Value.ref (nat_lit 397))), (@DictEntry.mk (@PyData.keyHash P (@Str.ofString "__static_attributes__")) (@Value.str (@Str.ofString "__static_attributes__") (nat_lit 698)) (@Value.ref (nat_lit 398))), (@DictEntry.mk (@PyData.keyHash P (@Str.ofString "__doc__")) (@Value.str (@Str.ofString "__doc__") (nat_lit 699)) Value.none)]) (nat_lit 2)) (.mk []))
def o400 (P : Params) : Obj := (@Obj.mk (@Value.type "type") none (@Data.cls (@ClassData.mk (@Str.ofString "TooMany") [(@Value.ref (nat_lit 380))] [(@Value.ref (nat_lit 400)), (@Value.ref (nat_lit 380)), (@Value.type "ArithmeticError"), (@Value.type "Exception"), (@Value.type "BaseException"), (@Value.type "object")] (nat_lit 399) (@Str.ofString "TooMany") true [] [] false none false)) (.mk [(some (@Value.ref (nat_lit 384))), none, (some (@Value.str (@Str.ofString "TooMany") (nat_lit 677))), (some (@Value.str (@Str.ofString "TooMany") (nat_lit 685))), (some (@Value.builtin "ArithmeticError.__new__")), (some (@Value.bool true))]))
def o401 (P : Params) : Obj := (@Obj.mk (@Value.type "super") none (@Data.fields (.mk [(@Value.ref (nat_lit 400)), (@Value.ref (nat_lit 400)), (@Value.ref (nat_lit 400))])) (.mk []))
def o402 (P : Params) : Obj := (@Obj.mk (@Value.type "builtin_function_or_method") none (@Data.fields (.mk [(@Value.builtin "object.__init_subclass__"), (@Value.ref (nat_lit 400))])) (.mk []))
def o403 (P : Params) : Obj := (@Obj.mk (@Value.type "tuple") none (@Data.seq (.mk [(@Value.ref (nat_lit 380))]) (nat_lit 0)) (.mk []))
def o404 (P : Params) : Obj := (@Obj.mk (@Value.type "builtin_function_or_method") none (@Data.fields (.mk [(@Value.builtin "type.__prepare__"), (@Value.type "type")])) (.mk []))
def o405 (P : Params) : Obj := (@Obj.mk (@Value.type "dict") none (@Data.dict (.mk [(@DictEntry.mk (@PyData.keyHash P (@Str.ofString "__module__")) (@Value.str (@Str.ofString "__module__") (nat_lit 709)) (@Value.str (@Str.ofString "menuhouses.errors") (nat_lit 194))), (@DictEntry.mk (@PyData.keyHash P (@Str.ofString "__qualname__")) (@Value.str (@Str.ofString "__qualname__") (nat_lit 711)) (@Value.str (@Str.ofString "NoHouse") (nat_lit 710))), (@DictEntry.mk (@PyData.keyHash P (@Str.ofString "__firstlineno__")) (@Value.str (@Str.ofString "__firstlineno__") (nat_lit 713)) (@Value.int (.ofNat (nat_lit 83)) (nat_lit 712))), (@DictEntry.mk (@PyData.keyHash P (@Str.ofString "__init__")) (@Value.str (@Str.ofString "__init__") (nat_lit 721)) (@Value.ref (nat_lit 416))), (@DictEntry.mk (@PyData.keyHash P (@Str.ofString "__static_attributes__")) (@Value.str (@Str.ofString "__static_attributes__") (nat_lit 723)) (@Value.ref (nat_lit 417)))]) (nat_lit 5)) (.mk []))
def o406 (P : Params) : Obj := (@Obj.mk (@Value.type "tuple") none (@Data.seq (.mk []) (nat_lit 0)) (.mk []))
def o407 (P : Params) : Obj := (@Obj.mk Value.none none (@Data.fields (.mk [(@Value.int (.ofNat (nat_lit 85)) (nat_lit 0)), (@Value.int (.ofNat (nat_lit 4)) (nat_lit 0)), (@Value.ref (nat_lit 415))])) (.mk []))
def o408 (P : Params) : Obj := (@Obj.mk (@Value.type "code") none (@Data.fields (.mk [(@Value.str (@Str.ofString "NoHouse") (nat_lit 704)), (@Value.str (@Str.ofString "NoHouse") (nat_lit 705)), (@Value.str (@Str.ofString "/claim/cut.py") (nat_lit 706)), (@Value.int (.ofNat (nat_lit 83)) (nat_lit 0)), (@Value.int (.ofNat (nat_lit 0)) (nat_lit 0)), (@Value.int (.ofNat (nat_lit 0)) (nat_lit 0)), (@Value.int (.ofNat (nat_lit 0)) (nat_lit 0)), (@Value.int (.ofNat (nat_lit 0)) (nat_lit 0)), (@Value.ref (nat_lit 406)), (@Value.bool false), (@Value.int (.ofNat (nat_lit 181)) (nat_lit 0)), (@Value.ref (nat_lit 407)), Value.none, Value.none, Value.none, Value.none, (@Value.int (.ofNat (nat_lit 707)) (nat_lit 0)), (@Value.int (.ofNat (nat_lit 83)) (nat_lit 0)), (@Value.str (@Str.ofString "/claim/cut.py") (nat_lit 708))])) (.mk []))
def o409 (P : Params) : Obj := (@Obj.mk (@Value.type "frame") none Data.plain (.mk [(some (@Value.ref (nat_lit 408))), (some (@Value.ref (nat_lit 3))), (some (@Value.ref (nat_lit 405))), none, (some (@Value.str (@Str.ofString "menuhouses.errors") (nat_lit 194))), none, (some (@Value.ref (nat_lit 0)))]))
def o410 (P : Params) : Obj := (@Obj.mk (@Value.type "tuple") none (@Data.seq (.mk []) (nat_lit 0)) (.mk []))
def o411 (P : Params) : Obj := (@Obj.mk Value.none none (@Data.fields (.mk [])) (.mk []))
def o412 (P : Params) : Obj := (@Obj.mk (@Value.type "tuple") none (@Data.seq (.mk [(@Value.str (@Str.ofString "self") (nat_lit 717)), (@Value.str (@Str.ofString "menu") (nat_lit 718))]) (nat_lit 0)) (.mk []))
def o413 (P : Params) : Obj := (@Obj.mk (@Value.type "tuple") none (@Data.seq (.mk []) (nat_lit 0)) (.mk []))
def o414 (P : Params) : Obj := (@Obj.mk Value.none none (@Data.func (@FuncData.mk (@Str.ofString "__init__") (@Str.ofString "NoHouse.__init__") (defArgs (inClass (topS 23) 0)) (@FuncBody.stmts (defBody (inClass (topS 23) 0))) (defScope (inClass (topS 23) 0)) (nat_lit 0) [] Value.none Value.none Value.none Value.none none Value.none Value.none (nat_lit 0))) (.mk []))
def o415 (P : Params) : Obj := (@Obj.mk (@Value.type "code") none (@Data.fields (.mk [(@Value.str (@Str.ofString "__init__") (nat_lit 714)), (@Value.str (@Str.ofString "NoHouse.__init__") (nat_lit 715)), (@Value.str (@Str.ofString "/claim/cut.py") (nat_lit 716)), (@Value.int (.ofNat (nat_lit 85)) (nat_lit 0)), (@Value.int (.ofNat (nat_lit 2)) (nat_lit 0)), (@Value.int (.ofNat (nat_lit 0)) (nat_lit 0)), (@Value.int (.ofNat (nat_lit 0)) (nat_lit 0)), (@Value.int (.ofNat (nat_lit 3)) (nat_lit 0)), (@Value.ref (nat_lit 410)), (@Value.bool true), (@Value.int (.ofNat (nat_lit 181)) (nat_lit 0)), (@Value.ref (nat_lit 411)), Value.none, (@Value.ref (nat_lit 412)), (@Value.ref (nat_lit 413)), (@Value.ref (nat_lit 414)), (@Value.int (.ofNat (nat_lit 719)) (nat_lit 0)), (@Value.int (.ofNat (nat_lit 85)) (nat_lit 0)), (@Value.str (@Str.ofString "/claim/cut.py") (nat_lit 720))])) (.mk []))
def o416 (P : Params) : Obj := (@Obj.mk (@Value.type "function") none (@Data.func (@FuncData.mk (@Str.ofString "__init__") (@Str.ofString "NoHouse.__init__") (defArgs (inClass (topS 23) 0)) (@FuncBody.stmts (defBody (inClass (topS 23) 0))) (defScope (inClass (topS 23) 0)) (nat_lit 3) [] Value.none Value.none Value.none (@Value.str (@Str.ofString "menuhouses.errors") (nat_lit 194)) none (@Value.ref (nat_lit 415)) Value.none (nat_lit 0))) (.mk []))
def o417 (P : Params) : Obj := (@Obj.mk (@Value.type "tuple") none (@Data.seq (.mk [(@Value.str (@Str.ofString "menu") (nat_lit 722))]) (nat_lit 0)) (.mk []))
def o418 (P : Params) : Obj := (@Obj.mk (@Value.type "dict") none (@Data.dict (.mk [(@DictEntry.mk (@PyData.keyHash P (@Str.ofString "__module__")) (@Value.str (@Str.ofString "__module__") (nat_lit 709)) (@Value.str (@Str.ofString "menuhouses.errors") (nat_lit 194))), (@DictEntry.mk (@PyData.keyHash P (@Str.ofString "__firstlineno__")) (@Value.str (@Str.ofString "__firstlineno__") (nat_lit 713)) (@Value.int (.ofNat (nat_lit 83)) (nat_lit 712))), (@DictEntry.mk (@PyData.keyHash P (@Str.ofString "__init__")) (@Value.str (@Str.ofString "__init__") (nat_lit 721)) (@Value.ref (nat_lit 416))), (@DictEntry.mk (@PyData.keyHash P (@Str.ofString "__static_attributes__")) (@Value.str (@Str.ofString "__static_attributes__") (nat_lit 723)) (@Value.ref (nat_lit 417))), (@DictEntry.mk (@PyData.keyHash P (@Str.ofString "__doc__")) (@Value.str (@Str.ofString "__doc__") (nat_lit 724)) Value.none)]) (nat_lit 2)) (.mk []))
def o419 (P : Params) : Obj := (@Obj.mk (@Value.type "type") none (@Data.cls (@ClassData.mk (@Str.ofString "NoHouse") [(@Value.ref (nat_lit 380))] [(@Value.ref (nat_lit 419)), (@Value.ref (nat_lit 380)), (@Value.type "ArithmeticError"), (@Value.type "Exception"), (@Value.type "BaseException"), (@Value.type "object")] (nat_lit 418) (@Str.ofString "NoHouse") true [] [] false none false)) (.mk [(some (@Value.ref (nat_lit 403))), none, (some (@Value.str (@Str.ofString "NoHouse") (nat_lit 702))), (some (@Value.str (@Str.ofString "NoHouse") (nat_lit 710))), (some (@Value.builtin "ArithmeticError.__new__")), (some (@Value.bool true))]))
def o420 (P : Params) : Obj := (@Obj.mk (@Value.type "super") none (@Data.fields (.mk [(@Value.ref (nat_lit 419)), (@Value.ref (nat_lit 419)), (@Value.ref (nat_lit 419))])) (.mk []))
def o421 (P : Params) : Obj := (@Obj.mk (@Value.type "builtin_function_or_method") none (@Data.fields (.mk [(@Value.builtin "object.__init_subclass__"), (@Value.ref (nat_lit 419))])) (.mk []))
def o422 (P : Params) : Obj := (@Obj.mk (@Value.type "tuple") none (@Data.seq (.mk [(@Value.ref (nat_lit 380))]) (nat_lit 0)) (.mk []))
def o423 (P : Params) : Obj := (@Obj.mk (@Value.type "builtin_function_or_method") none (@Data.fields (.mk [(@Value.builtin "type.__prepare__"), (@Value.type "type")])) (.mk []))
def o424 (P : Params) : Obj := (@Obj.mk (@Value.type "dict") none (@Data.dict (.mk [(@DictEntry.mk (@PyData.keyHash P (@Str.ofString "__module__")) (@Value.str (@Str.ofString "__module__") (nat_lit 734)) (@Value.str (@Str.ofString "menuhouses.errors") (nat_lit 194))), (@DictEntry.mk (@PyData.keyHash P (@Str.ofString "__qualname__")) (@Value.str (@Str.ofString "__qualname__") (nat_lit 736)) (@Value.str (@Str.ofString "NoTable") (nat_lit 735))), (@DictEntry.mk (@PyData.keyHash P (@Str.ofString "__firstlineno__")) (@Value.str (@Str.ofString "__firstlineno__") (nat_lit 738)) (@Value.int (.ofNat (nat_lit 87)) (nat_lit 737))), (@DictEntry.mk (@PyData.keyHash P (@Str.ofString "__init__")) (@Value.str (@Str.ofString "__init__") (nat_lit 747)) (@Value.ref (nat_lit 435))), (@DictEntry.mk (@PyData.keyHash P (@Str.ofString "__static_attributes__")) (@Value.str (@Str.ofString "__static_attributes__") (nat_lit 750)) (@Value.ref (nat_lit 436)))]) (nat_lit 5)) (.mk []))
def o425 (P : Params) : Obj := (@Obj.mk (@Value.type "tuple") none (@Data.seq (.mk []) (nat_lit 0)) (.mk []))
def o426 (P : Params) : Obj := (@Obj.mk Value.none none (@Data.fields (.mk [(@Value.int (.ofNat (nat_lit 89)) (nat_lit 0)), (@Value.int (.ofNat (nat_lit 4)) (nat_lit 0)), (@Value.ref (nat_lit 434))])) (.mk []))
def o427 (P : Params) : Obj := (@Obj.mk (@Value.type "code") none (@Data.fields (.mk [(@Value.str (@Str.ofString "NoTable") (nat_lit 729)), (@Value.str (@Str.ofString "NoTable") (nat_lit 730)), (@Value.str (@Str.ofString "/claim/cut.py") (nat_lit 731)), (@Value.int (.ofNat (nat_lit 87)) (nat_lit 0)), (@Value.int (.ofNat (nat_lit 0)) (nat_lit 0)), (@Value.int (.ofNat (nat_lit 0)) (nat_lit 0)), (@Value.int (.ofNat (nat_lit 0)) (nat_lit 0)), (@Value.int (.ofNat (nat_lit 0)) (nat_lit 0)), (@Value.ref (nat_lit 425)), (@Value.bool false), (@Value.int (.ofNat (nat_lit 181)) (nat_lit 0)), (@Value.ref (nat_lit 426)), Value.none, Value.none, Value.none, Value.none, (@Value.int (.ofNat (nat_lit 732)) (nat_lit 0)), (@Value.int (.ofNat (nat_lit 87)) (nat_lit 0)), (@Value.str (@Str.ofString "/claim/cut.py") (nat_lit 733))])) (.mk []))
def o428 (P : Params) : Obj := (@Obj.mk (@Value.type "frame") none Data.plain (.mk [(some (@Value.ref (nat_lit 427))), (some (@Value.ref (nat_lit 3))), (some (@Value.ref (nat_lit 424))), none, (some (@Value.str (@Str.ofString "menuhouses.errors") (nat_lit 194))), none, (some (@Value.ref (nat_lit 0)))]))
def o429 (P : Params) : Obj := (@Obj.mk (@Value.type "tuple") none (@Data.seq (.mk []) (nat_lit 0)) (.mk []))
def o430 (P : Params) : Obj := (@Obj.mk Value.none none (@Data.fields (.mk [])) (.mk []))
def o431 (P : Params) : Obj := (@Obj.mk (@Value.type "tuple") none (@Data.seq (.mk [(@Value.str (@Str.ofString "self") (nat_lit 742)), (@Value.str (@Str.ofString "first") (nat_lit 743)), (@Value.str (@Str.ofString "second") (nat_lit 744))]) (nat_lit 0)) (.mk []))
def o432 (P : Params) : Obj := (@Obj.mk (@Value.type "tuple") none (@Data.seq (.mk []) (nat_lit 0)) (.mk []))
def o433 (P : Params) : Obj := (@Obj.mk Value.none none (@Data.func (@FuncData.mk (@Str.ofString "__init__") (@Str.ofString "NoTable.__init__") (defArgs (inClass (topS 24) 0)) (@FuncBody.stmts (defBody (inClass (topS 24) 0))) (defScope (inClass (topS 24) 0)) (nat_lit 0) [] Value.none Value.none Value.none Value.none none Value.none Value.none (nat_lit 0))) (.mk []))
def o434 (P : Params) : Obj := (@Obj.mk (@Value.type "code") none (@Data.fields (.mk [(@Value.str (@Str.ofString "__init__") (nat_lit 739)), (@Value.str (@Str.ofString "NoTable.__init__") (nat_lit 740)), (@Value.str (@Str.ofString "/claim/cut.py") (nat_lit 741)), (@Value.int (.ofNat (nat_lit 89)) (nat_lit 0)), (@Value.int (.ofNat (nat_lit 3)) (nat_lit 0)), (@Value.int (.ofNat (nat_lit 0)) (nat_lit 0)), (@Value.int (.ofNat (nat_lit 0)) (nat_lit 0)), (@Value.int (.ofNat (nat_lit 3)) (nat_lit 0)), (@Value.ref (nat_lit 429)), (@Value.bool true), (@Value.int (.ofNat (nat_lit 181)) (nat_lit 0)), (@Value.ref (nat_lit 430)), Value.none, (@Value.ref (nat_lit 431)), (@Value.ref (nat_lit 432)), (@Value.ref (nat_lit 433)), (@Value.int (.ofNat (nat_lit 745)) (nat_lit 0)), (@Value.int (.ofNat (nat_lit 89)) (nat_lit 0)), (@Value.str (@Str.ofString "/claim/cut.py") (nat_lit 746))])) (.mk []))
def o435 (P : Params) : Obj := (@Obj.mk (@Value.type "function") none (@Data.func (@FuncData.mk (@Str.ofString "__init__") (@Str.ofString "NoTable.__init__") (defArgs (inClass (topS 24) 0)) (@FuncBody.stmts (defBody (inClass (topS 24) 0))) (defScope (inClass (topS 24) 0)) (nat_lit 3) [] Value.none Value.none Value.none (@Value.str (@Str.ofString "menuhouses.errors") (nat_lit 194)) none (@Value.ref (nat_lit 434)) Value.none (nat_lit 0))) (.mk []))
def o436 (P : Params) : Obj := (@Obj.mk (@Value.type "tuple") none (@Data.seq (.mk [(@Value.str (@Str.ofString "first") (nat_lit 748)), (@Value.str (@Str.ofString "second") (nat_lit 749))]) (nat_lit 0)) (.mk []))
def o437 (P : Params) : Obj := (@Obj.mk (@Value.type "dict") none (@Data.dict (.mk [(@DictEntry.mk (@PyData.keyHash P (@Str.ofString "__module__")) (@Value.str (@Str.ofString "__module__") (nat_lit 734)) (@Value.str (@Str.ofString "menuhouses.errors") (nat_lit 194))), (@DictEntry.mk (@PyData.keyHash P (@Str.ofString "__firstlineno__")) (@Value.str (@Str.ofString "__firstlineno__") (nat_lit 738)) (@Value.int (.ofNat (nat_lit 87)) (nat_lit 737))), (@DictEntry.mk (@PyData.keyHash P (@Str.ofString "__init__")) (@Value.str (@Str.ofString "__init__") (nat_lit 747)) (@Value.ref (nat_lit 435))), (@DictEntry.mk (@PyData.keyHash P (@Str.ofString "__static_attributes__")) (@Value.str (@Str.ofString "__static_attributes__") (nat_lit 750)) (@Value.ref (nat_lit 436))), (@DictEntry.mk (@PyData.keyHash P (@Str.ofString "__doc__")) (@Value.str (@Str.ofString "__doc__") (nat_lit 751)) Value.none)]) (nat_lit 2)) (.mk []))
def o438 (P : Params) : Obj := (@Obj.mk (@Value.type "type") none (@Data.cls (@ClassData.mk (@Str.ofString "NoTable") [(@Value.ref (nat_lit 380))] [(@Value.ref (nat_lit 438)), (@Value.ref (nat_lit 380)), (@Value.type "ArithmeticError"), (@Value.type "Exception"), (@Value.type "BaseException"), (@Value.type "object")] (nat_lit 437) (@Str.ofString "NoTable") true [] [] false none false)) (.mk [(some (@Value.ref (nat_lit 422))), none, (some (@Value.str (@Str.ofString "NoTable") (nat_lit 727))), (some (@Value.str (@Str.ofString "NoTable") (nat_lit 735))), (some (@Value.builtin "ArithmeticError.__new__")), (some (@Value.bool true))]))
def o439 (P : Params) : Obj := (@Obj.mk (@Value.type "super") none (@Data.fields (.mk [(@Value.ref (nat_lit 438)), (@Value.ref (nat_lit 438)), (@Value.ref (nat_lit 438))])) (.mk []))
def o440 (P : Params) : Obj := (@Obj.mk (@Value.type "builtin_function_or_method") none (@Data.fields (.mk [(@Value.builtin "object.__init_subclass__"), (@Value.ref (nat_lit 438))])) (.mk []))
def o441 (P : Params) : Obj := (@Obj.mk (@Value.type "tuple") none (@Data.seq (.mk [(@Value.ref (nat_lit 380))]) (nat_lit 0)) (.mk []))
def o442 (P : Params) : Obj := (@Obj.mk (@Value.type "builtin_function_or_method") none (@Data.fields (.mk [(@Value.builtin "type.__prepare__"), (@Value.type "type")])) (.mk []))
def o443 (P : Params) : Obj := (@Obj.mk (@Value.type "dict") none (@Data.dict (.mk [(@DictEntry.mk (@PyData.keyHash P (@Str.ofString "__module__")) (@Value.str (@Str.ofString "__module__") (nat_lit 761)) (@Value.str (@Str.ofString "menuhouses.errors") (nat_lit 194))), (@DictEntry.mk (@PyData.keyHash P (@Str.ofString "__qualname__")) (@Value.str (@Str.ofString "__qualname__") (nat_lit 763)) (@Value.str (@Str.ofString "Clash") (nat_lit 762))), (@DictEntry.mk (@PyData.keyHash P (@Str.ofString "__firstlineno__")) (@Value.str (@Str.ofString "__firstlineno__") (nat_lit 765)) (@Value.int (.ofNat (nat_lit 92)) (nat_lit 764))), (@DictEntry.mk (@PyData.keyHash P (@Str.ofString "__init__")) (@Value.str (@Str.ofString "__init__") (nat_lit 773)) (@Value.ref (nat_lit 454))), (@DictEntry.mk (@PyData.keyHash P (@Str.ofString "__static_attributes__")) (@Value.str (@Str.ofString "__static_attributes__") (nat_lit 775)) (@Value.ref (nat_lit 455)))]) (nat_lit 5)) (.mk []))
def o444 (P : Params) : Obj := (@Obj.mk (@Value.type "tuple") none (@Data.seq (.mk []) (nat_lit 0)) (.mk []))
def o445 (P : Params) : Obj := (@Obj.mk Value.none none (@Data.fields (.mk [(@Value.int (.ofNat (nat_lit 94)) (nat_lit 0)), (@Value.int (.ofNat (nat_lit 4)) (nat_lit 0)), (@Value.ref (nat_lit 453))])) (.mk []))
def o446 (P : Params) : Obj := (@Obj.mk (@Value.type "code") none (@Data.fields (.mk [(@Value.str (@Str.ofString "Clash") (nat_lit 756)), (@Value.str (@Str.ofString "Clash") (nat_lit 757)), (@Value.str (@Str.ofString "/claim/cut.py") (nat_lit 758)), (@Value.int (.ofNat (nat_lit 92)) (nat_lit 0)), (@Value.int (.ofNat (nat_lit 0)) (nat_lit 0)), (@Value.int (.ofNat (nat_lit 0)) (nat_lit 0)), (@Value.int (.ofNat (nat_lit 0)) (nat_lit 0)), (@Value.int (.ofNat (nat_lit 0)) (nat_lit 0)), (@Value.ref (nat_lit 444)), (@Value.bool false), (@Value.int (.ofNat (nat_lit 181)) (nat_lit 0)), (@Value.ref (nat_lit 445)), Value.none, Value.none, Value.none, Value.none, (@Value.int (.ofNat (nat_lit 759)) (nat_lit 0)), (@Value.int (.ofNat (nat_lit 92)) (nat_lit 0)), (@Value.str (@Str.ofString "/claim/cut.py") (nat_lit 760))])) (.mk []))
def o447 (P : Params) : Obj := (@Obj.mk (@Value.type "frame") none Data.plain (.mk [(some (@Value.ref (nat_lit 446))), (some (@Value.ref (nat_lit 3))), (some (@Value.ref (nat_lit 443))), none, (some (@Value.str (@Str.ofString "menuhouses.errors") (nat_lit 194))), none, (some (@Value.ref (nat_lit 0)))]))
def o448 (P : Params) : Obj := (@Obj.mk (@Value.type "tuple") none (@Data.seq (.mk []) (nat_lit 0)) (.mk []))
def o449 (P : Params) : Obj := (@Obj.mk Value.none none (@Data.fields (.mk [])) (.mk []))
def o450 (P : Params) : Obj := (@Obj.mk (@Value.type "tuple") none (@Data.seq (.mk [(@Value.str (@Str.ofString "self") (nat_lit 769)), (@Value.str (@Str.ofString "index") (nat_lit 770))]) (nat_lit 0)) (.mk []))
def o451 (P : Params) : Obj := (@Obj.mk (@Value.type "tuple") none (@Data.seq (.mk []) (nat_lit 0)) (.mk []))
def o452 (P : Params) : Obj := (@Obj.mk Value.none none (@Data.func (@FuncData.mk (@Str.ofString "__init__") (@Str.ofString "Clash.__init__") (defArgs (inClass (topS 25) 0)) (@FuncBody.stmts (defBody (inClass (topS 25) 0))) (defScope (inClass (topS 26) 0)) (nat_lit 0) [] Value.none Value.none Value.none Value.none none Value.none Value.none (nat_lit 0))) (.mk []))
def o453 (P : Params) : Obj := (@Obj.mk (@Value.type "code") none (@Data.fields (.mk [(@Value.str (@Str.ofString "__init__") (nat_lit 766)), (@Value.str (@Str.ofString "Clash.__init__") (nat_lit 767)), (@Value.str (@Str.ofString "/claim/cut.py") (nat_lit 768)), (@Value.int (.ofNat (nat_lit 94)) (nat_lit 0)), (@Value.int (.ofNat (nat_lit 2)) (nat_lit 0)), (@Value.int (.ofNat (nat_lit 0)) (nat_lit 0)), (@Value.int (.ofNat (nat_lit 0)) (nat_lit 0)), (@Value.int (.ofNat (nat_lit 3)) (nat_lit 0)), (@Value.ref (nat_lit 448)), (@Value.bool true), (@Value.int (.ofNat (nat_lit 181)) (nat_lit 0)), (@Value.ref (nat_lit 449)), Value.none, (@Value.ref (nat_lit 450)), (@Value.ref (nat_lit 451)), (@Value.ref (nat_lit 452)), (@Value.int (.ofNat (nat_lit 771)) (nat_lit 0)), (@Value.int (.ofNat (nat_lit 94)) (nat_lit 0)), (@Value.str (@Str.ofString "/claim/cut.py") (nat_lit 772))])) (.mk []))
def o454 (P : Params) : Obj := (@Obj.mk (@Value.type "function") none (@Data.func (@FuncData.mk (@Str.ofString "__init__") (@Str.ofString "Clash.__init__") (defArgs (inClass (topS 25) 0)) (@FuncBody.stmts (defBody (inClass (topS 25) 0))) (defScope (inClass (topS 26) 0)) (nat_lit 3) [] Value.none Value.none Value.none (@Value.str (@Str.ofString "menuhouses.errors") (nat_lit 194)) none (@Value.ref (nat_lit 453)) Value.none (nat_lit 0))) (.mk []))
def o455 (P : Params) : Obj := (@Obj.mk (@Value.type "tuple") none (@Data.seq (.mk [(@Value.str (@Str.ofString "index") (nat_lit 774))]) (nat_lit 0)) (.mk []))
def o456 (P : Params) : Obj := (@Obj.mk (@Value.type "dict") none (@Data.dict (.mk [(@DictEntry.mk (@PyData.keyHash P (@Str.ofString "__module__")) (@Value.str (@Str.ofString "__module__") (nat_lit 761)) (@Value.str (@Str.ofString "menuhouses.errors") (nat_lit 194))), (@DictEntry.mk (@PyData.keyHash P (@Str.ofString "__firstlineno__")) (@Value.str (@Str.ofString "__firstlineno__") (nat_lit 765)) (@Value.int (.ofNat (nat_lit 92)) (nat_lit 764))), (@DictEntry.mk (@PyData.keyHash P (@Str.ofString "__init__")) (@Value.str (@Str.ofString "__init__") (nat_lit 773)) (@Value.ref (nat_lit 454))), (@DictEntry.mk (@PyData.keyHash P (@Str.ofString "__static_attributes__")) (@Value.str (@Str.ofString "__static_attributes__") (nat_lit 775)) (@Value.ref (nat_lit 455))), (@DictEntry.mk (@PyData.keyHash P (@Str.ofString "__doc__")) (@Value.str (@Str.ofString "__doc__") (nat_lit 776)) Value.none)]) (nat_lit 2)) (.mk []))
def o457 (P : Params) : Obj := (@Obj.mk (@Value.type "type") none (@Data.cls (@ClassData.mk (@Str.ofString "Clash") [(@Value.ref (nat_lit 380))] [(@Value.ref (nat_lit 457)), (@Value.ref (nat_lit 380)), (@Value.type "ArithmeticError"), (@Value.type "Exception"), (@Value.type "BaseException"), (@Value.type "object")] (nat_lit 456) (@Str.ofString "Clash") true [] [] false none false)) (.mk [(some (@Value.ref (nat_lit 441))), none, (some (@Value.str (@Str.ofString "Clash") (nat_lit 754))), (some (@Value.str (@Str.ofString "Clash") (nat_lit 762))), (some (@Value.builtin "ArithmeticError.__new__")), (some (@Value.bool true))]))
def o458 (P : Params) : Obj := (@Obj.mk (@Value.type "super") none (@Data.fields (.mk [(@Value.ref (nat_lit 457)), (@Value.ref (nat_lit 457)), (@Value.ref (nat_lit 457))])) (.mk []))
def o459 (P : Params) : Obj := (@Obj.mk (@Value.type "builtin_function_or_method") none (@Data.fields (.mk [(@Value.builtin "object.__init_subclass__"), (@Value.ref (nat_lit 457))])) (.mk []))
def o460 (P : Params) : Obj := (@Obj.mk (@Value.type "tuple") none (@Data.seq (.mk [(@Value.ref (nat_lit 380))]) (nat_lit 0)) (.mk []))
def o461 (P : Params) : Obj := (@Obj.mk (@Value.type "builtin_function_or_method") none (@Data.fields (.mk [(@Value.builtin "type.__prepare__"), (@Value.type "type")])) (.mk []))
def o462 (P : Params) : Obj := (@Obj.mk (@Value.type "dict") none (@Data.dict (.mk [(@DictEntry.mk (@PyData.keyHash P (@Str.ofString "__module__")) (@Value.str (@Str.ofString "__module__") (nat_lit 786)) (@Value.str (@Str.ofString "menuhouses.errors") (nat_lit 194))), (@DictEntry.mk (@PyData.keyHash P (@Str.ofString "__qualname__")) (@Value.str (@Str.ofString "__qualname__") (nat_lit 788)) (@Value.str (@Str.ofString "Broken") (nat_lit 787))), (@DictEntry.mk (@PyData.keyHash P (@Str.ofString "__firstlineno__")) (@Value.str (@Str.ofString "__firstlineno__") (nat_lit 790)) (@Value.int (.ofNat (nat_lit 96)) (nat_lit 789))), (@DictEntry.mk (@PyData.keyHash P (@Str.ofString "__init__")) (@Value.str (@Str.ofString "__init__") (nat_lit 798)) (@Value.ref (nat_lit 473))), (@DictEntry.mk (@PyData.keyHash P (@Str.ofString "__static_attributes__")) (@Value.str (@Str.ofString "__static_attributes__") (nat_lit 800)) (@Value.ref (nat_lit 474)))]) (nat_lit 5)) (.mk []))
def o463 (P : Params) : Obj := (@Obj.mk (@Value.type "tuple") none (@Data.seq (.mk []) (nat_lit 0)) (.mk []))
def o464 (P : Params) : Obj := (@Obj.mk Value.none none (@Data.fields (.mk [(@Value.int (.ofNat (nat_lit 98)) (nat_lit 0)), (@Value.int (.ofNat (nat_lit 4)) (nat_lit 0)), (@Value.ref (nat_lit 472))])) (.mk []))
def o465 (P : Params) : Obj := (@Obj.mk (@Value.type "code") none (@Data.fields (.mk [(@Value.str (@Str.ofString "Broken") (nat_lit 781)), (@Value.str (@Str.ofString "Broken") (nat_lit 782)), (@Value.str (@Str.ofString "/claim/cut.py") (nat_lit 783)), (@Value.int (.ofNat (nat_lit 96)) (nat_lit 0)), (@Value.int (.ofNat (nat_lit 0)) (nat_lit 0)), (@Value.int (.ofNat (nat_lit 0)) (nat_lit 0)), (@Value.int (.ofNat (nat_lit 0)) (nat_lit 0)), (@Value.int (.ofNat (nat_lit 0)) (nat_lit 0)), (@Value.ref (nat_lit 463)), (@Value.bool false), (@Value.int (.ofNat (nat_lit 181)) (nat_lit 0)), (@Value.ref (nat_lit 464)), Value.none, Value.none, Value.none, Value.none, (@Value.int (.ofNat (nat_lit 784)) (nat_lit 0)), (@Value.int (.ofNat (nat_lit 96)) (nat_lit 0)), (@Value.str (@Str.ofString "/claim/cut.py") (nat_lit 785))])) (.mk []))
def o466 (P : Params) : Obj := (@Obj.mk (@Value.type "frame") none Data.plain (.mk [(some (@Value.ref (nat_lit 465))), (some (@Value.ref (nat_lit 3))), (some (@Value.ref (nat_lit 462))), none, (some (@Value.str (@Str.ofString "menuhouses.errors") (nat_lit 194))), none, (some (@Value.ref (nat_lit 0)))]))
def o467 (P : Params) : Obj := (@Obj.mk (@Value.type "tuple") none (@Data.seq (.mk []) (nat_lit 0)) (.mk []))
def o468 (P : Params) : Obj := (@Obj.mk Value.none none (@Data.fields (.mk [])) (.mk []))
def o469 (P : Params) : Obj := (@Obj.mk (@Value.type "tuple") none (@Data.seq (.mk [(@Value.str (@Str.ofString "self") (nat_lit 794)), (@Value.str (@Str.ofString "index") (nat_lit 795))]) (nat_lit 0)) (.mk []))
def o470 (P : Params) : Obj := (@Obj.mk (@Value.type "tuple") none (@Data.seq (.mk []) (nat_lit 0)) (.mk []))
def o471 (P : Params) : Obj := (@Obj.mk Value.none none (@Data.func (@FuncData.mk (@Str.ofString "__init__") (@Str.ofString "Broken.__init__") (defArgs (inClass (topS 26) 0)) (@FuncBody.stmts (defBody (inClass (topS 26) 0))) (defScope (inClass (topS 26) 0)) (nat_lit 0) [] Value.none Value.none Value.none Value.none none Value.none Value.none (nat_lit 0))) (.mk []))
def o472 (P : Params) : Obj := (@Obj.mk (@Value.type "code") none (@Data.fields (.mk [(@Value.str (@Str.ofString "__init__") (nat_lit 791)), (@Value.str (@Str.ofString "Broken.__init__") (nat_lit 792)), (@Value.str (@Str.ofString "/claim/cut.py") (nat_lit 793)), (@Value.int (.ofNat (nat_lit 98)) (nat_lit 0)), (@Value.int (.ofNat (nat_lit 2)) (nat_lit 0)), (@Value.int (.ofNat (nat_lit 0)) (nat_lit 0)), (@Value.int (.ofNat (nat_lit 0)) (nat_lit 0)), (@Value.int (.ofNat (nat_lit 3)) (nat_lit 0)), (@Value.ref (nat_lit 467)), (@Value.bool true), (@Value.int (.ofNat (nat_lit 181)) (nat_lit 0)), (@Value.ref (nat_lit 468)), Value.none, (@Value.ref (nat_lit 469)), (@Value.ref (nat_lit 470)), (@Value.ref (nat_lit 471)), (@Value.int (.ofNat (nat_lit 796)) (nat_lit 0)), (@Value.int (.ofNat (nat_lit 98)) (nat_lit 0)), (@Value.str (@Str.ofString "/claim/cut.py") (nat_lit 797))])) (.mk []))
def o473 (P : Params) : Obj := (@Obj.mk (@Value.type "function") none (@Data.func (@FuncData.mk (@Str.ofString "__init__") (@Str.ofString "Broken.__init__") (defArgs (inClass (topS 26) 0)) (@FuncBody.stmts (defBody (inClass (topS 26) 0))) (defScope (inClass (topS 26) 0)) (nat_lit 3) [] Value.none Value.none Value.none (@Value.str (@Str.ofString "menuhouses.errors") (nat_lit 194)) none (@Value.ref (nat_lit 472)) Value.none (nat_lit 0))) (.mk []))
def o474 (P : Params) : Obj := (@Obj.mk (@Value.type "tuple") none (@Data.seq (.mk [(@Value.str (@Str.ofString "index") (nat_lit 799))]) (nat_lit 0)) (.mk []))
def o475 (P : Params) : Obj := (@Obj.mk (@Value.type "dict") none (@Data.dict (.mk [(@DictEntry.mk (@PyData.keyHash P (@Str.ofString "__module__")) (@Value.str (@Str.ofString "__module__") (nat_lit 786)) (@Value.str (@Str.ofString "menuhouses.errors") (nat_lit 194))), (@DictEntry.mk (@PyData.keyHash P (@Str.ofString "__firstlineno__")) (@Value.str (@Str.ofString "__firstlineno__") (nat_lit 790)) (@Value.int (.ofNat (nat_lit 96)) (nat_lit 789))), (@DictEntry.mk (@PyData.keyHash P (@Str.ofString "__init__")) (@Value.str (@Str.ofString "__init__") (nat_lit 798)) (@Value.ref (nat_lit 473))), (@DictEntry.mk (@PyData.keyHash P (@Str.ofString "__static_attributes__")) (@Value.str (@Str.ofString "__static_attributes__") (nat_lit 800)) (@Value.ref (nat_lit 474))), (@DictEntry.mk (@PyData.keyHash P (@Str.ofString "__doc__")) (@Value.str (@Str.ofString "__doc__") (nat_lit 801)) Value.none)]) (nat_lit 2)) (.mk []))
def o476 (P : Params) : Obj := (@Obj.mk (@Value.type "type") none (@Data.cls (@ClassData.mk (@Str.ofString "Broken") [(@Value.ref (nat_lit 380))] [(@Value.ref (nat_lit 476)), (@Value.ref (nat_lit 380)), (@Value.type "ArithmeticError"), (@Value.type "Exception"), (@Value.type "BaseException"), (@Value.type "object")] (nat_lit 475) (@Str.ofString "Broken") true [] [] false none false)) (.mk [(some (@Value.ref (nat_lit 460))), none, (some (@Value.str (@Str.ofString "Broken") (nat_lit 779))), (some (@Value.str (@Str.ofString "Broken") (nat_lit 787))), (some (@Value.builtin "ArithmeticError.__new__")), (some (@Value.bool true))]))
def o477 (P : Params) : Obj := (@Obj.mk (@Value.type "super") none (@Data.fields (.mk [(@Value.ref (nat_lit 476)), (@Value.ref (nat_lit 476)), (@Value.ref (nat_lit 476))])) (.mk []))
def o478 (P : Params) : Obj := (@Obj.mk (@Value.type "builtin_function_or_method") none (@Data.fields (.mk [(@Value.builtin "object.__init_subclass__"), (@Value.ref (nat_lit 476))])) (.mk []))
def o3v5 (P : Params) : Obj := (@Obj.mk (@Value.type "dict") none (@Data.dict (.mk [(@DictEntry.mk (@PyData.keyHash P (@Str.ofString "__name__")) (@Value.str (@Str.ofString "__name__") (nat_lit 165)) (@Value.str (@Str.ofString "menuhouses.looks") (nat_lit 885))), (@DictEntry.mk (@PyData.keyHash P (@Str.ofString "__doc__")) (@Value.str (@Str.ofString "__doc__") (nat_lit 166)) Value.none), (@DictEntry.mk (@PyData.keyHash P (@Str.ofString "__package__")) (@Value.str (@Str.ofString "__package__") (nat_lit 167)) Value.none), (@DictEntry.mk (@PyData.keyHash P (@Str.ofString "__loader__")) (@Value.str (@Str.ofString "__loader__") (nat_lit 168)) (@Value.builtin "__main__.__loader__#opaque")), (@DictEntry.mk (@PyData.keyHash P (@Str.ofString "__spec__")) (@Value.str (@Str.ofString "__spec__") (nat_lit 169)) Value.none), (@DictEntry.mk (@PyData.keyHash P (@Str.ofString "__annotations__")) (@Value.str (@Str.ofString "__annotations__") (nat_lit 170)) (@Value.ref (nat_lit 6))), (@DictEntry.mk (@PyData.keyHash P (@Str.ofString "__builtins__")) (@Value.str (@Str.ofString "__builtins__") (nat_lit 171)) (@Value.ref (nat_lit 4))), (@DictEntry.mk (@PyData.keyHash P (@Str.ofString "__file__")) (@Value.str (@Str.ofString "__file__") (nat_lit 173)) (@Value.str (@Str.ofString "/claim/cut.py") (nat_lit 172))), (@DictEntry.mk (@PyData.keyHash P (@Str.ofString "__cached__")) (@Value.str (@Str.ofString "__cached__") (nat_lit 174)) Value.none), (@DictEntry.mk (@PyData.keyHash P (@Str.ofString "_wall")) (@Value.str (@Str.ofString "_wall") (nat_lit 193)) (@Value.ref (nat_lit 21))), (@DictEntry.mk (@PyData.keyHash P (@Str.ofString "WrongValue")) (@Value.str (@Str.ofString "WrongValue") (nat_lit 213)) (@Value.ref (nat_lit 31))), (@DictEntry.mk (@PyData.keyHash P (@Str.ofString "InvalidText")) (@Value.str (@Str.ofString "InvalidText") (nat_lit 238)) (@Value.ref (nat_lit 51))), (@DictEntry.mk (@PyData.keyHash P (@Str.ofString "InvalidMarks")) (@Value.str (@Str.ofString "InvalidMarks") (nat_lit 263)) (@Value.ref (nat_lit 70))), (@DictEntry.mk (@PyData.keyHash P (@Str.ofString "InvalidIndex")) (@Value.str (@Str.ofString "InvalidIndex") (nat_lit 288)) (@Value.ref (nat_lit 89))), (@DictEntry.mk (@PyData.keyHash P (@Str.ofString "InvalidWord")) (@Value.str (@Str.ofString "InvalidWord") (nat_lit 313)) (@Value.ref (nat_lit 108))), (@DictEntry.mk (@PyData.keyHash P (@Str.ofString "NotARanking")) (@Value.str (@Str.ofString "NotARanking") (nat_lit 338)) (@Value.ref (nat_lit 127))), (@DictEntry.mk (@PyData.keyHash P (@Str.ofString "NotAHouse")) (@Value.str (@Str.ofString "NotAHouse") (nat_lit 363)) (@Value.ref (nat_lit 146))), (@DictEntry.mk (@PyData.keyHash P (@Str.ofString "NotALook")) (@Value.str (@Str.ofString "NotALook") (nat_lit 388)) (@Value.ref (nat_lit 165))), (@DictEntry.mk (@PyData.keyHash P (@Str.ofString "NotLooks")) (@Value.str (@Str.ofString "NotLooks") (nat_lit 413)) (@Value.ref (nat_lit 184))), (@DictEntry.mk (@PyData.keyHash P (@Str.ofString "OtherThings")) (@Value.str (@Str.ofString "OtherThings") (nat_lit 438)) (@Value.ref (nat_lit 203))), (@DictEntry.mk (@PyData.keyHash P (@Str.ofString "InvalidRow")) (@Value.str (@Str.ofString "InvalidRow") (nat_lit 463)) (@Value.ref (nat_lit 222))), (@DictEntry.mk (@PyData.keyHash P (@Str.ofString "InvalidMenu")) (@Value.str (@Str.ofString "InvalidMenu") (nat_lit 488)) (@Value.ref (nat_lit 241))), (@DictEntry.mk (@PyData.keyHash P (@Str.ofString "InvalidThings")) (@Value.str (@Str.ofString "InvalidThings") (nat_lit 513)) (@Value.ref (nat_lit 260))), (@DictEntry.mk (@PyData.keyHash P (@Str.ofString "InvalidTaken")) (@Value.str (@Str.ofString "InvalidTaken") (nat_lit 538)) (@Value.ref (nat_lit 279))), (@DictEntry.mk (@PyData.keyHash P (@Str.ofString "InvalidRankings")) (@Value.str (@Str.ofString "InvalidRankings") (nat_lit 563)) (@Value.ref (nat_lit 298))), (@DictEntry.mk (@PyData.keyHash P (@Str.ofString "InvalidLooks")) (@Value.str (@Str.ofString "InvalidLooks") (nat_lit 588)) (@Value.ref (nat_lit 317))), (@DictEntry.mk (@PyData.keyHash P (@Str.ofString "InvalidTable")) (@Value.str (@Str.ofString "InvalidTable") (nat_lit 613)) (@Value.ref (nat_lit 336))), (@DictEntry.mk (@PyData.keyHash P (@Str.ofString "WrongName")) (@Value.str (@Str.ofString "WrongName") (nat_lit 631)) (@Value.ref (nat_lit 348))), (@DictEntry.mk (@PyData.keyHash P (@Str.ofString "UnknownThing")) (@Value.str (@Str.ofString "UnknownThing") (nat_lit 656)) (@Value.ref (nat_lit 368))), (@DictEntry.mk (@PyData.keyHash P (@Str.ofString "NoAnswer")) (@Value.str (@Str.ofString "NoAnswer") (nat_lit 676)) (@Value.ref (nat_lit 380))), (@DictEntry.mk (@PyData.keyHash P (@Str.ofString "TooMany")) (@Value.str (@Str.ofString "TooMany") (nat_lit 701)) (@Value.ref (nat_lit 400))), (@DictEntry.mk (@PyData.keyHash P (@Str.ofString "NoHouse")) (@Value.str (@Str.ofString "NoHouse") (nat_lit 726)) (@Value.ref (nat_lit 419))), (@DictEntry.mk (@PyData.keyHash P (@Str.ofString "NoTable")) (@Value.str (@Str.ofString "NoTable") (nat_lit 753)) (@Value.ref (nat_lit 438))), (@DictEntry.mk (@PyData.keyHash P (@Str.ofString "Clash")) (@Value.str (@Str.ofString "Clash") (nat_lit 778)) (@Value.ref (nat_lit 457))), (@DictEntry.mk (@PyData.keyHash P (@Str.ofString "Broken")) (@Value.str (@Str.ofString "Broken") (nat_lit 803)) (@Value.ref (nat_lit 476))), (@DictEntry.mk (@PyData.keyHash P (@Str.ofString "NothingToUndo")) (@Value.str (@Str.ofString "NothingToUndo") (nat_lit 819)) (@Value.ref (nat_lit 488))), (@DictEntry.mk (@PyData.keyHash P (@Str.ofString "MOST_THINGS")) (@Value.str (@Str.ofString "MOST_THINGS") (nat_lit 821)) (@Value.int (.ofNat (nat_lit 10)) (nat_lit 820))), (@DictEntry.mk (@PyData.keyHash P (@Str.ofString "LETTERS")) (@Value.str (@Str.ofString "LETTERS") (nat_lit 825)) (@Value.str (@Str.ofString "abcdefghijklmnopqrstuvwxyz") (nat_lit 824))), (@DictEntry.mk (@PyData.keyHash P (@Str.ofString "DIGITS")) (@Value.str (@Str.ofString "DIGITS") (nat_lit 827)) (@Value.str (@Str.ofString "0123456789") (nat_lit 826))), (@DictEntry.mk (@PyData.keyHash P (@Str.ofString "LONGEST_NAME")) (@Value.str (@Str.ofString "LONGEST_NAME") (nat_lit 829)) (@Value.int (.ofNat (nat_lit 8)) (nat_lit 828))), (@DictEntry.mk (@PyData.keyHash P (@Str.ofString "is_name")) (@Value.str (@Str.ofString "is_name") (nat_lit 835)) (@Value.ref (nat_lit 495))), (@DictEntry.mk (@PyData.keyHash P (@Str.ofString "is_filled_tuple")) (@Value.str (@Str.ofString "is_filled_tuple") (nat_lit 842)) (@Value.ref (nat_lit 502))), (@DictEntry.mk (@PyData.keyHash P (@Str.ofString "is_one_of")) (@Value.str (@Str.ofString "is_one_of") (nat_lit 850)) (@Value.ref (nat_lit 509))), (@DictEntry.mk (@PyData.keyHash P (@Str.ofString "first_wrong_of_names")) (@Value.str (@Str.ofString "first_wrong_of_names") (nat_lit 860)) (@Value.ref (nat_lit 517))), (@DictEntry.mk (@PyData.keyHash P (@Str.ofString "check_names_of_menu")) (@Value.str (@Str.ofString "check_names_of_menu") (nat_lit 868)) (@Value.ref (nat_lit 524))), (@DictEntry.mk (@PyData.keyHash P (@Str.ofString "check_thing")) (@Value.str (@Str.ofString "check_thing") (nat_lit 876)) (@Value.ref (nat_lit 531))), (@DictEntry.mk (@PyData.keyHash P (@Str.ofString "index_of")) (@Value.str (@Str.ofString "index_of") (nat_lit 884)) (@Value.ref (nat_lit 536))), (@DictEntry.mk (@PyData.keyHash P (@Str.ofString "MARKS")) (@Value.str (@Str.ofString "MARKS") (nat_lit 888)) (@Value.str (@Str.ofString "+-?") (nat_lit 887))), (@DictEntry.mk (@PyData.keyHash P (@Str.ofString "are_marks")) (@Value.str (@Str.ofString "are_marks") (nat_lit 894)) (@Value.ref (nat_lit 541)))]) (nat_lit 49)) (.mk []))
def o12v6 (P : Params) : Obj := (@Obj.mk Value.none none (@Data.fields (.mk [(@Value.int (.ofNat (nat_lit 1)) (nat_lit 0)), (@Value.int (.ofNat (nat_lit 0)) (nat_lit 0)), (@Value.ref (nat_lit 20)), (@Value.int (.ofNat (nat_lit 5)) (nat_lit 0)), (@Value.int (.ofNat (nat_lit 0)) (nat_lit 0)), (@Value.ref (nat_lit 27)), (@Value.int (.ofNat (nat_lit 7)) (nat_lit 0)), (@Value.int (.ofNat (nat_lit 0)) (nat_lit 0)), (@Value.ref (nat_lit 40)), (@Value.int (.ofNat (nat_lit 11)) (nat_lit 0)), (@Value.int (.ofNat (nat_lit 0)) (nat_lit 0)), (@Value.ref (nat_lit 59)), (@Value.int (.ofNat (nat_lit 15)) (nat_lit 0)), (@Value.int (.ofNat (nat_lit 0)) (nat_lit 0)), (@Value.ref (nat_lit 78)), (@Value.int (.ofNat (nat_lit 19)) (nat_lit 0)), (@Value.int (.ofNat (nat_lit 0)) (nat_lit 0)), (@Value.ref (nat_lit 97)), (@Value.int (.ofNat (nat_lit 23)) (nat_lit 0)), (@Value.int (.ofNat (nat_lit 0)) (nat_lit 0)), (@Value.ref (nat_lit 116)), (@Value.int (.ofNat (nat_lit 27)) (nat_lit 0)), (@Value.int (.ofNat (nat_lit 0)) (nat_lit 0)), (@Value.ref (nat_lit 135)), (@Value.int (.ofNat (nat_lit 31)) (nat_lit 0)), (@Value.int (.ofNat (nat_lit 0)) (nat_lit 0)), (@Value.ref (nat_lit 154)), (@Value.int (.ofNat (nat_lit 35)) (nat_lit 0)), (@Value.int (.ofNat (nat_lit 0)) (nat_lit 0)), (@Value.ref (nat_lit 173)), (@Value.int (.ofNat (nat_lit 39)) (nat_lit 0)), (@Value.int (.ofNat (nat_lit 0)) (nat_lit 0)), (@Value.ref (nat_lit 192)), (@Value.int (.ofNat (nat_lit 43)) (nat_lit 0)), (@Value.int (.ofNat (nat_lit 0)) (nat_lit 0)), (@Value.ref (nat_lit 211)), (@Value.int (.ofNat (nat_lit 47)) (nat_lit 0)), (@Value.int (.ofNat (nat_lit 0)) (nat_lit 0)), (@Value.ref (nat_lit 230)), (@Value.int (.ofNat (nat_lit 51)) (nat_lit 0)), (@Value.int (.ofNat (nat_lit 0)) (nat_lit 0)), (@Value.ref (nat_lit 249)), (@Value.int (.ofNat (nat_lit 55)) (nat_lit 0)), (@Value.int (.ofNat (nat_lit 0)) (nat_lit 0)), (@Value.ref (nat_lit 268)), (@Value.int (.ofNat (nat_lit 59)) (nat_lit 0)), (@Value.int (.ofNat (nat_lit 0)) (nat_lit 0)), (@Value.ref (nat_lit 287)), (@Value.int (.ofNat (nat_lit 63)) (nat_lit 0)), (@Value.int (.ofNat (nat_lit 0)) (nat_lit 0)), (@Value.ref (nat_lit 306)), (@Value.int (.ofNat (nat_lit 67)) (nat_lit 0)), (@Value.int (.ofNat (nat_lit 0)) (nat_lit 0)), (@Value.ref (nat_lit 325)), (@Value.int (.ofNat (nat_lit 71)) (nat_lit 0)), (@Value.int (.ofNat (nat_lit 0)) (nat_lit 0)), (@Value.ref (nat_lit 344)), (@Value.int (.ofNat (nat_lit 73)) (nat_lit 0)), (@Value.int (.ofNat (nat_lit 0)) (nat_lit 0)), (@Value.ref (nat_lit 357)), (@Value.int (.ofNat (nat_lit 77)) (nat_lit 0)), (@Value.int (.ofNat (nat_lit 0)) (nat_lit 0)), (@Value.ref (nat_lit 376)), (@Value.int (.ofNat (nat_lit 79)) (nat_lit 0)), (@Value.int (.ofNat (nat_lit 0)) (nat_lit 0)), (@Value.ref (nat_lit 389)), (@Value.int (.ofNat (nat_lit 83)) (nat_lit 0)), (@Value.int (.ofNat (nat_lit 0)) (nat_lit 0)), (@Value.ref (nat_lit 408)), (@Value.int (.ofNat (nat_lit 87)) (nat_lit 0)), (@Value.int (.ofNat (nat_lit 0)) (nat_lit 0)), (@Value.ref (nat_lit 427)), (@Value.int (.ofNat (nat_lit 92)) (nat_lit 0)), (@Value.int (.ofNat (nat_lit 0)) (nat_lit 0)), (@Value.ref (nat_lit 446)), (@Value.int (.ofNat (nat_lit 96)) (nat_lit 0)), (@Value.int (.ofNat (nat_lit 0)) (nat_lit 0)), (@Value.ref (nat_lit 465)), (@Value.int (.ofNat (nat_lit 100)) (nat_lit 0)), (@Value.int (.ofNat (nat_lit 0)) (nat_lit 0)), (@Value.ref (nat_lit 484)), (@Value.int (.ofNat (nat_lit 107)) (nat_lit 0)), (@Value.int (.ofNat (nat_lit 0)) (nat_lit 0)), (@Value.ref (nat_lit 494)), (@Value.int (.ofNat (nat_lit 111)) (nat_lit 0)), (@Value.int (.ofNat (nat_lit 0)) (nat_lit 0)), (@Value.ref (nat_lit 501)), (@Value.int (.ofNat (nat_lit 113)) (nat_lit 0)), (@Value.int (.ofNat (nat_lit 0)) (nat_lit 0)), (@Value.ref (nat_lit 508)), (@Value.int (.ofNat (nat_lit 115)) (nat_lit 0)), (@Value.int (.ofNat (nat_lit 0)) (nat_lit 0)), (@Value.ref (nat_lit 516)), (@Value.int (.ofNat (nat_lit 122)) (nat_lit 0)), (@Value.int (.ofNat (nat_lit 0)) (nat_lit 0)), (@Value.ref (nat_lit 523)), (@Value.int (.ofNat (nat_lit 128)) (nat_lit 0)), (@Value.int (.ofNat (nat_lit 0)) (nat_lit 0)), (@Value.ref (nat_lit 530)), (@Value.int (.ofNat (nat_lit 132)) (nat_lit 0)), (@Value.int (.ofNat (nat_lit 0)) (nat_lit 0)), (@Value.ref (nat_lit 535)), (@Value.int (.ofNat (nat_lit 136)) (nat_lit 0)), (@Value.int (.ofNat (nat_lit 0)) (nat_lit 0)), (@Value.ref (nat_lit 540))])) (.mk []))
def o380v2 (P : Params) : Obj := (@Obj.mk (@Value.type "type") none (@Data.cls (@ClassData.mk (@Str.ofString "NoAnswer") [(@Value.type "ArithmeticError")] [(@Value.ref (nat_lit 380)), (@Value.type "ArithmeticError"), (@Value.type "Exception"), (@Value.type "BaseException"), (@Value.type "object")] (nat_lit 379) (@Str.ofString "NoAnswer") true [] [(@Value.ref (nat_lit 400)), (@Value.ref (nat_lit 419)), (@Value.ref (nat_lit 438)), (@Value.ref (nat_lit 457)), (@Value.ref (nat_lit 476)), (@Value.ref (nat_lit 488))] false none false)) (.mk [(some (@Value.ref (nat_lit 371))), none, (some (@Value.str (@Str.ofString "NoAnswer") (nat_lit 657))), (some (@Value.str (@Str.ofString "NoAnswer") (nat_lit 665))), (some (@Value.builtin "ArithmeticError.__new__")), (some (@Value.bool true))]))
def o479 (P : Params) : Obj := (@Obj.mk (@Value.type "tuple") none (@Data.seq (.mk [(@Value.ref (nat_lit 380))]) (nat_lit 0)) (.mk []))
def o480 (P : Params) : Obj := (@Obj.mk (@Value.type "builtin_function_or_method") none (@Data.fields (.mk [(@Value.builtin "type.__prepare__"), (@Value.type "type")])) (.mk []))
def o481 (P : Params) : Obj := (@Obj.mk (@Value.type "dict") none (@Data.dict (.mk [(@DictEntry.mk (@PyData.keyHash P (@Str.ofString "__module__")) (@Value.str (@Str.ofString "__module__") (nat_lit 811)) (@Value.str (@Str.ofString "menuhouses.errors") (nat_lit 194))), (@DictEntry.mk (@PyData.keyHash P (@Str.ofString "__qualname__")) (@Value.str (@Str.ofString "__qualname__") (nat_lit 813)) (@Value.str (@Str.ofString "NothingToUndo") (nat_lit 812))), (@DictEntry.mk (@PyData.keyHash P (@Str.ofString "__firstlineno__")) (@Value.str (@Str.ofString "__firstlineno__") (nat_lit 815)) (@Value.int (.ofNat (nat_lit 100)) (nat_lit 814))), (@DictEntry.mk (@PyData.keyHash P (@Str.ofString "__static_attributes__")) (@Value.str (@Str.ofString "__static_attributes__") (nat_lit 816)) (@Value.ref (nat_lit 486)))]) (nat_lit 4)) (.mk []))
def o482 (P : Params) : Obj := (@Obj.mk (@Value.type "tuple") none (@Data.seq (.mk []) (nat_lit 0)) (.mk []))
def o483 (P : Params) : Obj := (@Obj.mk Value.none none (@Data.fields (.mk [])) (.mk []))
def o484 (P : Params) : Obj := (@Obj.mk (@Value.type "code") none (@Data.fields (.mk [(@Value.str (@Str.ofString "NothingToUndo") (nat_lit 806)), (@Value.str (@Str.ofString "NothingToUndo") (nat_lit 807)), (@Value.str (@Str.ofString "/claim/cut.py") (nat_lit 808)), (@Value.int (.ofNat (nat_lit 100)) (nat_lit 0)), (@Value.int (.ofNat (nat_lit 0)) (nat_lit 0)), (@Value.int (.ofNat (nat_lit 0)) (nat_lit 0)), (@Value.int (.ofNat (nat_lit 0)) (nat_lit 0)), (@Value.int (.ofNat (nat_lit 0)) (nat_lit 0)), (@Value.ref (nat_lit 482)), (@Value.bool false), (@Value.int (.ofNat (nat_lit 181)) (nat_lit 0)), (@Value.ref (nat_lit 483)), Value.none, Value.none, Value.none, Value.none, (@Value.int (.ofNat (nat_lit 809)) (nat_lit 0)), (@Value.int (.ofNat (nat_lit 100)) (nat_lit 0)), (@Value.str (@Str.ofString "/claim/cut.py") (nat_lit 810))])) (.mk []))
def o485 (P : Params) : Obj := (@Obj.mk (@Value.type "frame") none Data.plain (.mk [(some (@Value.ref (nat_lit 484))), (some (@Value.ref (nat_lit 3))), (some (@Value.ref (nat_lit 481))), none, (some (@Value.str (@Str.ofString "menuhouses.errors") (nat_lit 194))), none, (some (@Value.ref (nat_lit 0)))]))
def o486 (P : Params) : Obj := (@Obj.mk (@Value.type "tuple") none (@Data.seq (.mk []) (nat_lit 0)) (.mk []))
def o487 (P : Params) : Obj := (@Obj.mk (@Value.type "dict") none (@Data.dict (.mk [(@DictEntry.mk (@PyData.keyHash P (@Str.ofString "__module__")) (@Value.str (@Str.ofString "__module__") (nat_lit 811)) (@Value.str (@Str.ofString "menuhouses.errors") (nat_lit 194))), (@DictEntry.mk (@PyData.keyHash P (@Str.ofString "__firstlineno__")) (@Value.str (@Str.ofString "__firstlineno__") (nat_lit 815)) (@Value.int (.ofNat (nat_lit 100)) (nat_lit 814))), (@DictEntry.mk (@PyData.keyHash P (@Str.ofString "__static_attributes__")) (@Value.str (@Str.ofString "__static_attributes__") (nat_lit 816)) (@Value.ref (nat_lit 486))), (@DictEntry.mk (@PyData.keyHash P (@Str.ofString "__doc__")) (@Value.str (@Str.ofString "__doc__") (nat_lit 817)) Value.none)]) (nat_lit 2)) (.mk []))
def o488 (P : Params) : Obj := (@Obj.mk (@Value.type "type") none (@Data.cls (@ClassData.mk (@Str.ofString "NothingToUndo") [(@Value.ref (nat_lit 380))] [(@Value.ref (nat_lit 488)), (@Value.ref (nat_lit 380)), (@Value.type "ArithmeticError"), (@Value.type "Exception"), (@Value.type "BaseException"), (@Value.type "object")] (nat_lit 487) (@Str.ofString "NothingToUndo") true [] [] false none false)) (.mk [(some (@Value.ref (nat_lit 479))), none, (some (@Value.str (@Str.ofString "NothingToUndo") (nat_lit 804))), (some (@Value.str (@Str.ofString "NothingToUndo") (nat_lit 812))), (some (@Value.builtin "ArithmeticError.__new__")), (some (@Value.bool true))]))
def o489 (P : Params) : Obj := (@Obj.mk (@Value.type "super") none (@Data.fields (.mk [(@Value.ref (nat_lit 488)), (@Value.ref (nat_lit 488)), (@Value.ref (nat_lit 488))])) (.mk []))
def o490 (P : Params) : Obj := (@Obj.mk (@Value.type "builtin_function_or_method") none (@Data.fields (.mk [(@Value.builtin "object.__init_subclass__"), (@Value.ref (nat_lit 488))])) (.mk []))
def o491 (P : Params) : Obj := (@Obj.mk (@Value.type "tuple") none (@Data.seq (.mk []) (nat_lit 0)) (.mk []))
def o492 (P : Params) : Obj := (@Obj.mk Value.none none (@Data.fields (.mk [])) (.mk []))
def o493 (P : Params) : Obj := (@Obj.mk Value.none none (@Data.func (@FuncData.mk (@Str.ofString "is_name") (@Str.ofString "is_name") (defArgs (topS 33)) (@FuncBody.stmts (defBody (topS 33))) (defScope (topS 33)) (nat_lit 0) [] Value.none Value.none Value.none Value.none none Value.none Value.none (nat_lit 0))) (.mk []))
def o494 (P : Params) : Obj := (@Obj.mk (@Value.type "code") none (@Data.fields (.mk [(@Value.str (@Str.ofString "is_name") (nat_lit 830)), (@Value.str (@Str.ofString "is_name") (nat_lit 831)), (@Value.str (@Str.ofString "/claim/cut.py") (nat_lit 832)), (@Value.int (.ofNat (nat_lit 107)) (nat_lit 0)), (@Value.int (.ofNat (nat_lit 1)) (nat_lit 0)), (@Value.int (.ofNat (nat_lit 0)) (nat_lit 0)), (@Value.int (.ofNat (nat_lit 0)) (nat_lit 0)), (@Value.int (.ofNat (nat_lit 3)) (nat_lit 0)), (@Value.ref (nat_lit 491)), (@Value.bool true), (@Value.int (.ofNat (nat_lit 181)) (nat_lit 0)), (@Value.ref (nat_lit 492)), Value.none, Value.none, Value.none, (@Value.ref (nat_lit 493)), (@Value.int (.ofNat (nat_lit 833)) (nat_lit 0)), (@Value.int (.ofNat (nat_lit 107)) (nat_lit 0)), (@Value.str (@Str.ofString "/claim/cut.py") (nat_lit 834))])) (.mk []))
def o495 (P : Params) : Obj := (@Obj.mk (@Value.type "function") none (@Data.func (@FuncData.mk (@Str.ofString "is_name") (@Str.ofString "is_name") (defArgs (topS 33)) (@FuncBody.stmts (defBody (topS 33))) (defScope (topS 33)) (nat_lit 3) [] Value.none Value.none Value.none (@Value.str (@Str.ofString "menuhouses.checks") (nat_lit 822)) none (@Value.ref (nat_lit 494)) Value.none (nat_lit 0))) (.mk []))
def o496 (P : Params) : Obj := (@Obj.mk (@Value.type "tuple") none (@Data.seq (.mk []) (nat_lit 0)) (.mk []))
def o497 (P : Params) : Obj := (@Obj.mk Value.none none (@Data.fields (.mk [])) (.mk []))
def o498 (P : Params) : Obj := (@Obj.mk (@Value.type "tuple") none (@Data.seq (.mk [(@Value.str (@Str.ofString "value") (nat_lit 839))]) (nat_lit 0)) (.mk []))
def o499 (P : Params) : Obj := (@Obj.mk (@Value.type "tuple") none (@Data.seq (.mk []) (nat_lit 0)) (.mk []))
def o500 (P : Params) : Obj := (@Obj.mk Value.none none (@Data.func (@FuncData.mk (@Str.ofString "is_filled_tuple") (@Str.ofString "is_filled_tuple") (defArgs (topS 34)) (@FuncBody.stmts (defBody (topS 34))) (defScope (topS 34)) (nat_lit 0) [] Value.none Value.none Value.none Value.none none Value.none Value.none (nat_lit 0))) (.mk []))
def o501 (P : Params) : Obj := (@Obj.mk (@Value.type "code") none (@Data.fields (.mk [(@Value.str (@Str.ofString "is_filled_tuple") (nat_lit 836)), (@Value.str (@Str.ofString "is_filled_tuple") (nat_lit 837)), (@Value.str (@Str.ofString "/claim/cut.py") (nat_lit 838)), (@Value.int (.ofNat (nat_lit 111)) (nat_lit 0)), (@Value.int (.ofNat (nat_lit 1)) (nat_lit 0)), (@Value.int (.ofNat (nat_lit 0)) (nat_lit 0)), (@Value.int (.ofNat (nat_lit 0)) (nat_lit 0)), (@Value.int (.ofNat (nat_lit 3)) (nat_lit 0)), (@Value.ref (nat_lit 496)), (@Value.bool true), (@Value.int (.ofNat (nat_lit 181)) (nat_lit 0)), (@Value.ref (nat_lit 497)), Value.none, (@Value.ref (nat_lit 498)), (@Value.ref (nat_lit 499)), (@Value.ref (nat_lit 500)), (@Value.int (.ofNat (nat_lit 840)) (nat_lit 0)), (@Value.int (.ofNat (nat_lit 111)) (nat_lit 0)), (@Value.str (@Str.ofString "/claim/cut.py") (nat_lit 841))])) (.mk []))
def o502 (P : Params) : Obj := (@Obj.mk (@Value.type "function") none (@Data.func (@FuncData.mk (@Str.ofString "is_filled_tuple") (@Str.ofString "is_filled_tuple") (defArgs (topS 34)) (@FuncBody.stmts (defBody (topS 34))) (defScope (topS 34)) (nat_lit 3) [] Value.none Value.none Value.none (@Value.str (@Str.ofString "menuhouses.checks") (nat_lit 822)) none (@Value.ref (nat_lit 501)) Value.none (nat_lit 0))) (.mk []))
def o503 (P : Params) : Obj := (@Obj.mk (@Value.type "tuple") none (@Data.seq (.mk []) (nat_lit 0)) (.mk []))
def o504 (P : Params) : Obj := (@Obj.mk Value.none none (@Data.fields (.mk [])) (.mk []))
def o505 (P : Params) : Obj := (@Obj.mk (@Value.type "tuple") none (@Data.seq (.mk [(@Value.str (@Str.ofString "value") (nat_lit 846)), (@Value.str (@Str.ofString "things") (nat_lit 847))]) (nat_lit 0)) (.mk []))
def o506 (P : Params) : Obj := (@Obj.mk (@Value.type "tuple") none (@Data.seq (.mk []) (nat_lit 0)) (.mk []))
def o507 (P : Params) : Obj := (@Obj.mk Value.none none (@Data.func (@FuncData.mk (@Str.ofString "is_one_of") (@Str.ofString "is_one_of") (defArgs (topS 35)) (@FuncBody.stmts (defBody (topS 35))) (defScope (topS 35)) (nat_lit 0) [] Value.none Value.none Value.none Value.none none Value.none Value.none (nat_lit 0))) (.mk []))
def o508 (P : Params) : Obj := (@Obj.mk (@Value.type "code") none (@Data.fields (.mk [(@Value.str (@Str.ofString "is_one_of") (nat_lit 843)), (@Value.str (@Str.ofString "is_one_of") (nat_lit 844)), (@Value.str (@Str.ofString "/claim/cut.py") (nat_lit 845)), (@Value.int (.ofNat (nat_lit 113)) (nat_lit 0)), (@Value.int (.ofNat (nat_lit 2)) (nat_lit 0)), (@Value.int (.ofNat (nat_lit 0)) (nat_lit 0)), (@Value.int (.ofNat (nat_lit 0)) (nat_lit 0)), (@Value.int (.ofNat (nat_lit 3)) (nat_lit 0)), (@Value.ref (nat_lit 503)), (@Value.bool true), (@Value.int (.ofNat (nat_lit 181)) (nat_lit 0)), (@Value.ref (nat_lit 504)), Value.none, (@Value.ref (nat_lit 505)), (@Value.ref (nat_lit 506)), (@Value.ref (nat_lit 507)), (@Value.int (.ofNat (nat_lit 848)) (nat_lit 0)), (@Value.int (.ofNat (nat_lit 113)) (nat_lit 0)), (@Value.str (@Str.ofString "/claim/cut.py") (nat_lit 849))])) (.mk []))
def o509 (P : Params) : Obj := (@Obj.mk (@Value.type "function") none (@Data.func (@FuncData.mk (@Str.ofString "is_one_of") (@Str.ofString "is_one_of") (defArgs (topS 35)) (@FuncBody.stmts (defBody (topS 35))) (defScope (topS 35)) (nat_lit 3) [] Value.none Value.none Value.none (@Value.str (@Str.ofString "menuhouses.checks") (nat_lit 822)) none (@Value.ref (nat_lit 508)) Value.none (nat_lit 0))) (.mk []))
def o510 (P : Params) : Obj := (@Obj.mk (@Value.type "tuple") none (@Data.seq (.mk [(@Value.int (.ofNat (nat_lit 10)) (nat_lit 820))]) (nat_lit 0)) (.mk []))
def o511 (P : Params) : Obj := (@Obj.mk (@Value.type "tuple") none (@Data.seq (.mk []) (nat_lit 0)) (.mk []))
def o512 (P : Params) : Obj := (@Obj.mk Value.none none (@Data.fields (.mk [])) (.mk []))
def o513 (P : Params) : Obj := (@Obj.mk (@Value.type "tuple") none (@Data.seq (.mk [(@Value.str (@Str.ofString "names") (nat_lit 854)), (@Value.str (@Str.ofString "most") (nat_lit 855)), (@Value.str (@Str.ofString "at") (nat_lit 856)), (@Value.str (@Str.ofString "name") (nat_lit 857))]) (nat_lit 0)) (.mk []))
def o514 (P : Params) : Obj := (@Obj.mk (@Value.type "tuple") none (@Data.seq (.mk []) (nat_lit 0)) (.mk []))
def o515 (P : Params) : Obj := (@Obj.mk Value.none none (@Data.func (@FuncData.mk (@Str.ofString "first_wrong_of_names") (@Str.ofString "first_wrong_of_names") (defArgs (topS 36)) (@FuncBody.stmts (defBody (topS 36))) (defScope (topS 36)) (nat_lit 0) [] Value.none Value.none Value.none Value.none none Value.none Value.none (nat_lit 0))) (.mk []))
def o516 (P : Params) : Obj := (@Obj.mk (@Value.type "code") none (@Data.fields (.mk [(@Value.str (@Str.ofString "first_wrong_of_names") (nat_lit 851)), (@Value.str (@Str.ofString "first_wrong_of_names") (nat_lit 852)), (@Value.str (@Str.ofString "/claim/cut.py") (nat_lit 853)), (@Value.int (.ofNat (nat_lit 115)) (nat_lit 0)), (@Value.int (.ofNat (nat_lit 2)) (nat_lit 0)), (@Value.int (.ofNat (nat_lit 0)) (nat_lit 0)), (@Value.int (.ofNat (nat_lit 0)) (nat_lit 0)), (@Value.int (.ofNat (nat_lit 3)) (nat_lit 0)), (@Value.ref (nat_lit 511)), (@Value.bool true), (@Value.int (.ofNat (nat_lit 181)) (nat_lit 0)), (@Value.ref (nat_lit 512)), Value.none, (@Value.ref (nat_lit 513)), (@Value.ref (nat_lit 514)), (@Value.ref (nat_lit 515)), (@Value.int (.ofNat (nat_lit 858)) (nat_lit 0)), (@Value.int (.ofNat (nat_lit 115)) (nat_lit 0)), (@Value.str (@Str.ofString "/claim/cut.py") (nat_lit 859))])) (.mk []))
def o517 (P : Params) : Obj := (@Obj.mk (@Value.type "function") none (@Data.func (@FuncData.mk (@Str.ofString "first_wrong_of_names") (@Str.ofString "first_wrong_of_names") (defArgs (topS 36)) (@FuncBody.stmts (defBody (topS 36))) (defScope (topS 36)) (nat_lit 3) [] (@Value.ref (nat_lit 510)) Value.none Value.none (@Value.str (@Str.ofString "menuhouses.checks") (nat_lit 822)) none (@Value.ref (nat_lit 516)) Value.none (nat_lit 0))) (.mk []))
def o518 (P : Params) : Obj := (@Obj.mk (@Value.type "tuple") none (@Data.seq (.mk []) (nat_lit 0)) (.mk []))
def o519 (P : Params) : Obj := (@Obj.mk Value.none none (@Data.fields (.mk [])) (.mk []))
def o520 (P : Params) : Obj := (@Obj.mk (@Value.type "tuple") none (@Data.seq (.mk [(@Value.str (@Str.ofString "menu") (nat_lit 864)), (@Value.str (@Str.ofString "wrong") (nat_lit 865))]) (nat_lit 0)) (.mk []))
def o521 (P : Params) : Obj := (@Obj.mk (@Value.type "tuple") none (@Data.seq (.mk []) (nat_lit 0)) (.mk []))
def o522 (P : Params) : Obj := (@Obj.mk Value.none none (@Data.func (@FuncData.mk (@Str.ofString "check_names_of_menu") (@Str.ofString "check_names_of_menu") (defArgs (topS 37)) (@FuncBody.stmts (defBody (topS 37))) (defScope (topS 37)) (nat_lit 0) [] Value.none Value.none Value.none Value.none none Value.none Value.none (nat_lit 0))) (.mk []))
def o523 (P : Params) : Obj := (@Obj.mk (@Value.type "code") none (@Data.fields (.mk [(@Value.str (@Str.ofString "check_names_of_menu") (nat_lit 861)), (@Value.str (@Str.ofString "check_names_of_menu") (nat_lit 862)), (@Value.str (@Str.ofString "/claim/cut.py") (nat_lit 863)), (@Value.int (.ofNat (nat_lit 122)) (nat_lit 0)), (@Value.int (.ofNat (nat_lit 1)) (nat_lit 0)), (@Value.int (.ofNat (nat_lit 0)) (nat_lit 0)), (@Value.int (.ofNat (nat_lit 0)) (nat_lit 0)), (@Value.int (.ofNat (nat_lit 3)) (nat_lit 0)), (@Value.ref (nat_lit 518)), (@Value.bool true), (@Value.int (.ofNat (nat_lit 181)) (nat_lit 0)), (@Value.ref (nat_lit 519)), Value.none, (@Value.ref (nat_lit 520)), (@Value.ref (nat_lit 521)), (@Value.ref (nat_lit 522)), (@Value.int (.ofNat (nat_lit 866)) (nat_lit 0)), (@Value.int (.ofNat (nat_lit 122)) (nat_lit 0)), (@Value.str (@Str.ofString "/claim/cut.py") (nat_lit 867))])) (.mk []))
def o524 (P : Params) : Obj := (@Obj.mk (@Value.type "function") none (@Data.func (@FuncData.mk (@Str.ofString "check_names_of_menu") (@Str.ofString "check_names_of_menu") (defArgs (topS 37)) (@FuncBody.stmts (defBody (topS 37))) (defScope (topS 37)) (nat_lit 3) [] Value.none Value.none Value.none (@Value.str (@Str.ofString "menuhouses.checks") (nat_lit 822)) none (@Value.ref (nat_lit 523)) Value.none (nat_lit 0))) (.mk []))
def o525 (P : Params) : Obj := (@Obj.mk (@Value.type "tuple") none (@Data.seq (.mk []) (nat_lit 0)) (.mk []))
def o526 (P : Params) : Obj := (@Obj.mk Value.none none (@Data.fields (.mk [])) (.mk []))
def o527 (P : Params) : Obj := (@Obj.mk (@Value.type "tuple") none (@Data.seq (.mk [(@Value.str (@Str.ofString "thing") (nat_lit 872)), (@Value.str (@Str.ofString "things") (nat_lit 873))]) (nat_lit 0)) (.mk []))
def o528 (P : Params) : Obj := (@Obj.mk (@Value.type "tuple") none (@Data.seq (.mk []) (nat_lit 0)) (.mk []))
def o529 (P : Params) : Obj := (@Obj.mk Value.none none (@Data.func (@FuncData.mk (@Str.ofString "check_thing") (@Str.ofString "check_thing") (defArgs (topS 38)) (@FuncBody.stmts (defBody (topS 38))) (defScope (topS 38)) (nat_lit 0) [] Value.none Value.none Value.none Value.none none Value.none Value.none (nat_lit 0))) (.mk []))
def o530 (P : Params) : Obj := (@Obj.mk (@Value.type "code") none (@Data.fields (.mk [(@Value.str (@Str.ofString "check_thing") (nat_lit 869)), (@Value.str (@Str.ofString "check_thing") (nat_lit 870)), (@Value.str (@Str.ofString "/claim/cut.py") (nat_lit 871)), (@Value.int (.ofNat (nat_lit 128)) (nat_lit 0)), (@Value.int (.ofNat (nat_lit 2)) (nat_lit 0)), (@Value.int (.ofNat (nat_lit 0)) (nat_lit 0)), (@Value.int (.ofNat (nat_lit 0)) (nat_lit 0)), (@Value.int (.ofNat (nat_lit 3)) (nat_lit 0)), (@Value.ref (nat_lit 525)), (@Value.bool true), (@Value.int (.ofNat (nat_lit 181)) (nat_lit 0)), (@Value.ref (nat_lit 526)), Value.none, (@Value.ref (nat_lit 527)), (@Value.ref (nat_lit 528)), (@Value.ref (nat_lit 529)), (@Value.int (.ofNat (nat_lit 874)) (nat_lit 0)), (@Value.int (.ofNat (nat_lit 128)) (nat_lit 0)), (@Value.str (@Str.ofString "/claim/cut.py") (nat_lit 875))])) (.mk []))
def o531 (P : Params) : Obj := (@Obj.mk (@Value.type "function") none (@Data.func (@FuncData.mk (@Str.ofString "check_thing") (@Str.ofString "check_thing") (defArgs (topS 38)) (@FuncBody.stmts (defBody (topS 38))) (defScope (topS 38)) (nat_lit 3) [] Value.none Value.none Value.none (@Value.str (@Str.ofString "menuhouses.checks") (nat_lit 822)) none (@Value.ref (nat_lit 530)) Value.none (nat_lit 0))) (.mk []))
def o532 (P : Params) : Obj := (@Obj.mk (@Value.type "tuple") none (@Data.seq (.mk []) (nat_lit 0)) (.mk []))
def o533 (P : Params) : Obj := (@Obj.mk Value.none none (@Data.fields (.mk [])) (.mk []))
def o534 (P : Params) : Obj := (@Obj.mk Value.none none (@Data.func (@FuncData.mk (@Str.ofString "index_of") (@Str.ofString "index_of") (defArgs (topS 40)) (@FuncBody.stmts (defBody (topS 40))) (defScope (topS 40)) (nat_lit 0) [] Value.none Value.none Value.none Value.none none Value.none Value.none (nat_lit 0))) (.mk []))
def o535 (P : Params) : Obj := (@Obj.mk (@Value.type "code") none (@Data.fields (.mk [(@Value.str (@Str.ofString "index_of") (nat_lit 879)), (@Value.str (@Str.ofString "index_of") (nat_lit 880)), (@Value.str (@Str.ofString "/claim/cut.py") (nat_lit 881)), (@Value.int (.ofNat (nat_lit 132)) (nat_lit 0)), (@Value.int (.ofNat (nat_lit 2)) (nat_lit 0)), (@Value.int (.ofNat (nat_lit 0)) (nat_lit 0)), (@Value.int (.ofNat (nat_lit 0)) (nat_lit 0)), (@Value.int (.ofNat (nat_lit 3)) (nat_lit 0)), (@Value.ref (nat_lit 532)), (@Value.bool true), (@Value.int (.ofNat (nat_lit 181)) (nat_lit 0)), (@Value.ref (nat_lit 533)), Value.none, Value.none, Value.none, (@Value.ref (nat_lit 534)), (@Value.int (.ofNat (nat_lit 882)) (nat_lit 0)), (@Value.int (.ofNat (nat_lit 132)) (nat_lit 0)), (@Value.str (@Str.ofString "/claim/cut.py") (nat_lit 883))])) (.mk []))
def o536 (P : Params) : Obj := (@Obj.mk (@Value.type "function") none (@Data.func (@FuncData.mk (@Str.ofString "index_of") (@Str.ofString "index_of") (defArgs (topS 40)) (@FuncBody.stmts (defBody (topS 40))) (defScope (topS 40)) (nat_lit 3) [] Value.none Value.none Value.none (@Value.str (@Str.ofString "menuhouses.masks") (nat_lit 877)) none (@Value.ref (nat_lit 535)) Value.none (nat_lit 0))) (.mk []))
def o537 (P : Params) : Obj := (@Obj.mk (@Value.type "tuple") none (@Data.seq (.mk []) (nat_lit 0)) (.mk []))
def o538 (P : Params) : Obj := (@Obj.mk Value.none none (@Data.fields (.mk [])) (.mk []))
def o539 (P : Params) : Obj := (@Obj.mk Value.none none (@Data.func (@FuncData.mk (@Str.ofString "are_marks") (@Str.ofString "are_marks") (defArgs (topS 43)) (@FuncBody.stmts (defBody (topS 43))) (defScope (topS 43)) (nat_lit 0) [] Value.none Value.none Value.none Value.none none Value.none Value.none (nat_lit 0))) (.mk []))
def o540 (P : Params) : Obj := (@Obj.mk (@Value.type "code") none (@Data.fields (.mk [(@Value.str (@Str.ofString "are_marks") (nat_lit 889)), (@Value.str (@Str.ofString "are_marks") (nat_lit 890)), (@Value.str (@Str.ofString "/claim/cut.py") (nat_lit 891)), (@Value.int (.ofNat (nat_lit 136)) (nat_lit 0)), (@Value.int (.ofNat (nat_lit 2)) (nat_lit 0)), (@Value.int (.ofNat (nat_lit 0)) (nat_lit 0)), (@Value.int (.ofNat (nat_lit 0)) (nat_lit 0)), (@Value.int (.ofNat (nat_lit 3)) (nat_lit 0)), (@Value.ref (nat_lit 537)), (@Value.bool true), (@Value.int (.ofNat (nat_lit 181)) (nat_lit 0)), (@Value.ref (nat_lit 538)), Value.none, Value.none, Value.none, (@Value.ref (nat_lit 539)), (@Value.int (.ofNat (nat_lit 892)) (nat_lit 0)), (@Value.int (.ofNat (nat_lit 136)) (nat_lit 0)), (@Value.str (@Str.ofString "/claim/cut.py") (nat_lit 893))])) (.mk []))
def o541 (P : Params) : Obj := (@Obj.mk (@Value.type "function") none (@Data.func (@FuncData.mk (@Str.ofString "are_marks") (@Str.ofString "are_marks") (defArgs (topS 43)) (@FuncBody.stmts (defBody (topS 43))) (defScope (topS 43)) (nat_lit 3) [] Value.none Value.none Value.none (@Value.str (@Str.ofString "menuhouses.looks") (nat_lit 885)) none (@Value.ref (nat_lit 540)) Value.none (nat_lit 0))) (.mk []))
def o3v6 (P : Params) : Obj := (@Obj.mk (@Value.type "dict") none (@Data.dict (.mk [(@DictEntry.mk (@PyData.keyHash P (@Str.ofString "__name__")) (@Value.str (@Str.ofString "__name__") (nat_lit 165)) (@Value.str (@Str.ofString "law_menuhouses_k47_look_texts_bent") (nat_lit 1038))), (@DictEntry.mk (@PyData.keyHash P (@Str.ofString "__doc__")) (@Value.str (@Str.ofString "__doc__") (nat_lit 166)) Value.none), (@DictEntry.mk (@PyData.keyHash P (@Str.ofString "__package__")) (@Value.str (@Str.ofString "__package__") (nat_lit 167)) Value.none), (@DictEntry.mk (@PyData.keyHash P (@Str.ofString "__loader__")) (@Value.str (@Str.ofString "__loader__") (nat_lit 168)) (@Value.builtin "__main__.__loader__#opaque")), (@DictEntry.mk (@PyData.keyHash P (@Str.ofString "__spec__")) (@Value.str (@Str.ofString "__spec__") (nat_lit 169)) Value.none), (@DictEntry.mk (@PyData.keyHash P (@Str.ofString "__annotations__")) (@Value.str (@Str.ofString "__annotations__") (nat_lit 170)) (@Value.ref (nat_lit 6))), (@DictEntry.mk (@PyData.keyHash P (@Str.ofString "__builtins__")) (@Value.str (@Str.ofString "__builtins__") (nat_lit 171)) (@Value.ref (nat_lit 4))), (@DictEntry.mk (@PyData.keyHash P (@Str.ofString "__file__")) (@Value.str (@Str.ofString "__file__") (nat_lit 173)) (@Value.str (@Str.ofString "/claim/cut.py") (nat_lit 172))), (@DictEntry.mk (@PyData.keyHash P (@Str.ofString "__cached__")) (@Value.str (@Str.ofString "__cached__") (nat_lit 174)) Value.none), (@DictEntry.mk (@PyData.keyHash P (@Str.ofString "_wall")) (@Value.str (@Str.ofString "_wall") (nat_lit 193)) (@Value.ref (nat_lit 21))), (@DictEntry.mk (@PyData.keyHash P (@Str.ofString "WrongValue")) (@Value.str (@Str.ofString "WrongValue") (nat_lit 213)) (@Value.ref (nat_lit 31))), (@DictEntry.mk (@PyData.keyHash P (@Str.ofString "InvalidText")) (@Value.str (@Str.ofString "InvalidText") (nat_lit 238)) (@Value.ref (nat_lit 51))), (@DictEntry.mk (@PyData.keyHash P (@Str.ofString "InvalidMarks")) (@Value.str (@Str.ofString "InvalidMarks") (nat_lit 263)) (@Value.ref (nat_lit 70))), (@DictEntry.mk (@PyData.keyHash P (@Str.ofString "InvalidIndex")) (@Value.str (@Str.ofString "InvalidIndex") (nat_lit 288)) (@Value.ref (nat_lit 89))), (@DictEntry.mk (@PyData.keyHash P (@Str.ofString "InvalidWord")) (@Value.str (@Str.ofString "InvalidWord") (nat_lit 313)) (@Value.ref (nat_lit 108))), (@DictEntry.mk (@PyData.keyHash P (@Str.ofString "NotARanking")) (@Value.str (@Str.ofString "NotARanking") (nat_lit 338)) (@Value.ref (nat_lit 127))), (@DictEntry.mk (@PyData.keyHash P (@Str.ofString "NotAHouse")) (@Value.str (@Str.ofString "NotAHouse") (nat_lit 363)) (@Value.ref (nat_lit 146))), (@DictEntry.mk (@PyData.keyHash P (@Str.ofString "NotALook")) (@Value.str (@Str.ofString "NotALook") (nat_lit 388)) (@Value.ref (nat_lit 165))), (@DictEntry.mk (@PyData.keyHash P (@Str.ofString "NotLooks")) (@Value.str (@Str.ofString "NotLooks") (nat_lit 413)) (@Value.ref (nat_lit 184))), (@DictEntry.mk (@PyData.keyHash P (@Str.ofString "OtherThings")) (@Value.str (@Str.ofString "OtherThings") (nat_lit 438)) (@Value.ref (nat_lit 203))), (@DictEntry.mk (@PyData.keyHash P (@Str.ofString "InvalidRow")) (@Value.str (@Str.ofString "InvalidRow") (nat_lit 463)) (@Value.ref (nat_lit 222))), (@DictEntry.mk (@PyData.keyHash P (@Str.ofString "InvalidMenu")) (@Value.str (@Str.ofString "InvalidMenu") (nat_lit 488)) (@Value.ref (nat_lit 241))), (@DictEntry.mk (@PyData.keyHash P (@Str.ofString "InvalidThings")) (@Value.str (@Str.ofString "InvalidThings") (nat_lit 513)) (@Value.ref (nat_lit 260))), (@DictEntry.mk (@PyData.keyHash P (@Str.ofString "InvalidTaken")) (@Value.str (@Str.ofString "InvalidTaken") (nat_lit 538)) (@Value.ref (nat_lit 279))), (@DictEntry.mk (@PyData.keyHash P (@Str.ofString "InvalidRankings")) (@Value.str (@Str.ofString "InvalidRankings") (nat_lit 563)) (@Value.ref (nat_lit 298))), (@DictEntry.mk (@PyData.keyHash P (@Str.ofString "InvalidLooks")) (@Value.str (@Str.ofString "InvalidLooks") (nat_lit 588)) (@Value.ref (nat_lit 317))), (@DictEntry.mk (@PyData.keyHash P (@Str.ofString "InvalidTable")) (@Value.str (@Str.ofString "InvalidTable") (nat_lit 613)) (@Value.ref (nat_lit 336))), (@DictEntry.mk (@PyData.keyHash P (@Str.ofString "WrongName")) (@Value.str (@Str.ofString "WrongName") (nat_lit 631)) (@Value.ref (nat_lit 348))), (@DictEntry.mk (@PyData.keyHash P (@Str.ofString "UnknownThing")) (@Value.str (@Str.ofString "UnknownThing") (nat_lit 656)) (@Value.ref (nat_lit 368))), (@DictEntry.mk (@PyData.keyHash P (@Str.ofString "NoAnswer")) (@Value.str (@Str.ofString "NoAnswer") (nat_lit 676)) (@Value.ref (nat_lit 380))), (@DictEntry.mk (@PyData.keyHash P (@Str.ofString "TooMany")) (@Value.str (@Str.ofString "TooMany") (nat_lit 701)) (@Value.ref (nat_lit 400))), (@DictEntry.mk (@PyData.keyHash P (@Str.ofString "NoHouse")) (@Value.str (@Str.ofString "NoHouse") (nat_lit 726)) (@Value.ref (nat_lit 419))), (@DictEntry.mk (@PyData.keyHash P (@Str.ofString "NoTable")) (@Value.str (@Str.ofString "NoTable") (nat_lit 753)) (@Value.ref (nat_lit 438))), (@DictEntry.mk (@PyData.keyHash P (@Str.ofString "Clash")) (@Value.str (@Str.ofString "Clash") (nat_lit 778)) (@Value.ref (nat_lit 457))), (@DictEntry.mk (@PyData.keyHash P (@Str.ofString "Broken")) (@Value.str (@Str.ofString "Broken") (nat_lit 803)) (@Value.ref (nat_lit 476))), (@DictEntry.mk (@PyData.keyHash P (@Str.ofString "NothingToUndo")) (@Value.str (@Str.ofString "NothingToUndo") (nat_lit 819)) (@Value.ref (nat_lit 488))), (@DictEntry.mk (@PyData.keyHash P (@Str.ofString "MOST_THINGS")) (@Value.str (@Str.ofString "MOST_THINGS") (nat_lit 821)) (@Value.int (.ofNat (nat_lit 10)) (nat_lit 820))), (@DictEntry.mk (@PyData.keyHash P (@Str.ofString "LETTERS")) (@Value.str (@Str.ofString "LETTERS") (nat_lit 825)) (@Value.str (@Str.ofString "abcdefghijklmnopqrstuvwxyz") (nat_lit 824))), (@DictEntry.mk (@PyData.keyHash P (@Str.ofString "DIGITS")) (@Value.str (@Str.ofString "DIGITS") (nat_lit 827)) (@Value.str (@Str.ofString "0123456789") (nat_lit 826))), (@DictEntry.mk (@PyData.keyHash P (@Str.ofString "LONGEST_NAME")) (@Value.str (@Str.ofString "LONGEST_NAME") (nat_lit 829)) (@Value.int (.ofNat (nat_lit 8)) (nat_lit 828))), (@DictEntry.mk (@PyData.keyHash P (@Str.ofString "is_name")) (@Value.str (@Str.ofString "is_name") (nat_lit 835)) (@Value.ref (nat_lit 495))), (@DictEntry.mk (@PyData.keyHash P (@Str.ofString "is_filled_tuple")) (@Value.str (@Str.ofString "is_filled_tuple") (nat_lit 842)) (@Value.ref (nat_lit 502))), (@DictEntry.mk (@PyData.keyHash P (@Str.ofString "is_one_of")) (@Value.str (@Str.ofString "is_one_of") (nat_lit 850)) (@Value.ref (nat_lit 509))), (@DictEntry.mk (@PyData.keyHash P (@Str.ofString "first_wrong_of_names")) (@Value.str (@Str.ofString "first_wrong_of_names") (nat_lit 860)) (@Value.ref (nat_lit 517))), (@DictEntry.mk (@PyData.keyHash P (@Str.ofString "check_names_of_menu")) (@Value.str (@Str.ofString "check_names_of_menu") (nat_lit 868)) (@Value.ref (nat_lit 524))), (@DictEntry.mk (@PyData.keyHash P (@Str.ofString "check_thing")) (@Value.str (@Str.ofString "check_thing") (nat_lit 876)) (@Value.ref (nat_lit 531))), (@DictEntry.mk (@PyData.keyHash P (@Str.ofString "index_of")) (@Value.str (@Str.ofString "index_of") (nat_lit 884)) (@Value.ref (nat_lit 536))), (@DictEntry.mk (@PyData.keyHash P (@Str.ofString "MARKS")) (@Value.str (@Str.ofString "MARKS") (nat_lit 888)) (@Value.str (@Str.ofString "+-?") (nat_lit 887))), (@DictEntry.mk (@PyData.keyHash P (@Str.ofString "are_marks")) (@Value.str (@Str.ofString "are_marks") (nat_lit 894)) (@Value.ref (nat_lit 541))), (@DictEntry.mk (@PyData.keyHash P (@Str.ofString "Look")) (@Value.str (@Str.ofString "Look") (nat_lit 1037)) (@Value.ref (nat_lit 643))), (@DictEntry.mk (@PyData.keyHash P (@Str.ofString "_law_urn")) (@Value.str (@Str.ofString "_law_urn") (nat_lit 1051)) (@Value.ref (nat_lit 654))), (@DictEntry.mk (@PyData.keyHash P (@Str.ofString "_law_draw")) (@Value.str (@Str.ofString "_law_draw") (nat_lit 1061)) (@Value.ref (nat_lit 661))), (@DictEntry.mk (@PyData.keyHash P (@Str.ofString "_law_name")) (@Value.str (@Str.ofString "_law_name") (nat_lit 1071)) (@Value.ref (nat_lit 668))), (@DictEntry.mk (@PyData.keyHash P (@Str.ofString "_law_names")) (@Value.str (@Str.ofString "_law_names") (nat_lit 1077)) (@Value.ref (nat_lit 673))), (@DictEntry.mk (@PyData.keyHash P (@Str.ofString "_law_marks")) (@Value.str (@Str.ofString "_law_marks") (nat_lit 1083)) (@Value.ref (nat_lit 678))), (@DictEntry.mk (@PyData.keyHash P (@Str.ofString "_law_text")) (@Value.str (@Str.ofString "_law_text") (nat_lit 1089)) (@Value.ref (nat_lit 683))), (@DictEntry.mk (@PyData.keyHash P (@Str.ofString "_law_sort")) (@Value.str (@Str.ofString "_law_sort") (nat_lit 1101)) (@Value.ref (nat_lit 690))), (@DictEntry.mk (@PyData.keyHash P (@Str.ofString "_law_field")) (@Value.str (@Str.ofString "_law_field") (nat_lit 1110)) (@Value.ref (nat_lit 697)))]) (nat_lit 58)) (.mk []))
def o12v7 (P : Params) : Obj := (@Obj.mk Value.none none (@Data.fields (.mk [(@Value.int (.ofNat (nat_lit 1)) (nat_lit 0)), (@Value.int (.ofNat (nat_lit 0)) (nat_lit 0)), (@Value.ref (nat_lit 20)), (@Value.int (.ofNat (nat_lit 5)) (nat_lit 0)), (@Value.int (.ofNat (nat_lit 0)) (nat_lit 0)), (@Value.ref (nat_lit 27)), (@Value.int (.ofNat (nat_lit 7)) (nat_lit 0)), (@Value.int (.ofNat (nat_lit 0)) (nat_lit 0)), (@Value.ref (nat_lit 40)), (@Value.int (.ofNat (nat_lit 11)) (nat_lit 0)), (@Value.int (.ofNat (nat_lit 0)) (nat_lit 0)), (@Value.ref (nat_lit 59)), (@Value.int (.ofNat (nat_lit 15)) (nat_lit 0)), (@Value.int (.ofNat (nat_lit 0)) (nat_lit 0)), (@Value.ref (nat_lit 78)), (@Value.int (.ofNat (nat_lit 19)) (nat_lit 0)), (@Value.int (.ofNat (nat_lit 0)) (nat_lit 0)), (@Value.ref (nat_lit 97)), (@Value.int (.ofNat (nat_lit 23)) (nat_lit 0)), (@Value.int (.ofNat (nat_lit 0)) (nat_lit 0)), (@Value.ref (nat_lit 116)), (@Value.int (.ofNat (nat_lit 27)) (nat_lit 0)), (@Value.int (.ofNat (nat_lit 0)) (nat_lit 0)), (@Value.ref (nat_lit 135)), (@Value.int (.ofNat (nat_lit 31)) (nat_lit 0)), (@Value.int (.ofNat (nat_lit 0)) (nat_lit 0)), (@Value.ref (nat_lit 154)), (@Value.int (.ofNat (nat_lit 35)) (nat_lit 0)), (@Value.int (.ofNat (nat_lit 0)) (nat_lit 0)), (@Value.ref (nat_lit 173)), (@Value.int (.ofNat (nat_lit 39)) (nat_lit 0)), (@Value.int (.ofNat (nat_lit 0)) (nat_lit 0)), (@Value.ref (nat_lit 192)), (@Value.int (.ofNat (nat_lit 43)) (nat_lit 0)), (@Value.int (.ofNat (nat_lit 0)) (nat_lit 0)), (@Value.ref (nat_lit 211)), (@Value.int (.ofNat (nat_lit 47)) (nat_lit 0)), (@Value.int (.ofNat (nat_lit 0)) (nat_lit 0)), (@Value.ref (nat_lit 230)), (@Value.int (.ofNat (nat_lit 51)) (nat_lit 0)), (@Value.int (.ofNat (nat_lit 0)) (nat_lit 0)), (@Value.ref (nat_lit 249)), (@Value.int (.ofNat (nat_lit 55)) (nat_lit 0)), (@Value.int (.ofNat (nat_lit 0)) (nat_lit 0)), (@Value.ref (nat_lit 268)), (@Value.int (.ofNat (nat_lit 59)) (nat_lit 0)), (@Value.int (.ofNat (nat_lit 0)) (nat_lit 0)), (@Value.ref (nat_lit 287)), (@Value.int (.ofNat (nat_lit 63)) (nat_lit 0)), (@Value.int (.ofNat (nat_lit 0)) (nat_lit 0)), (@Value.ref (nat_lit 306)), (@Value.int (.ofNat (nat_lit 67)) (nat_lit 0)), (@Value.int (.ofNat (nat_lit 0)) (nat_lit 0)), (@Value.ref (nat_lit 325)), (@Value.int (.ofNat (nat_lit 71)) (nat_lit 0)), (@Value.int (.ofNat (nat_lit 0)) (nat_lit 0)), (@Value.ref (nat_lit 344)), (@Value.int (.ofNat (nat_lit 73)) (nat_lit 0)), (@Value.int (.ofNat (nat_lit 0)) (nat_lit 0)), (@Value.ref (nat_lit 357)), (@Value.int (.ofNat (nat_lit 77)) (nat_lit 0)), (@Value.int (.ofNat (nat_lit 0)) (nat_lit 0)), (@Value.ref (nat_lit 376)), (@Value.int (.ofNat (nat_lit 79)) (nat_lit 0)), (@Value.int (.ofNat (nat_lit 0)) (nat_lit 0)), (@Value.ref (nat_lit 389)), (@Value.int (.ofNat (nat_lit 83)) (nat_lit 0)), (@Value.int (.ofNat (nat_lit 0)) (nat_lit 0)), (@Value.ref (nat_lit 408)), (@Value.int (.ofNat (nat_lit 87)) (nat_lit 0)), (@Value.int (.ofNat (nat_lit 0)) (nat_lit 0)), (@Value.ref (nat_lit 427)), (@Value.int (.ofNat (nat_lit 92)) (nat_lit 0)), (@Value.int (.ofNat (nat_lit 0)) (nat_lit 0)), (@Value.ref (nat_lit 446)), (@Value.int (.ofNat (nat_lit 96)) (nat_lit 0)), (@Value.int (.ofNat (nat_lit 0)) (nat_lit 0)), (@Value.ref (nat_lit 465)), (@Value.int (.ofNat (nat_lit 100)) (nat_lit 0)), (@Value.int (.ofNat (nat_lit 0)) (nat_lit 0)), (@Value.ref (nat_lit 484)), (@Value.int (.ofNat (nat_lit 107)) (nat_lit 0)), (@Value.int (.ofNat (nat_lit 0)) (nat_lit 0)), (@Value.ref (nat_lit 494)), (@Value.int (.ofNat (nat_lit 111)) (nat_lit 0)), (@Value.int (.ofNat (nat_lit 0)) (nat_lit 0)), (@Value.ref (nat_lit 501)), (@Value.int (.ofNat (nat_lit 113)) (nat_lit 0)), (@Value.int (.ofNat (nat_lit 0)) (nat_lit 0)), (@Value.ref (nat_lit 508)), (@Value.int (.ofNat (nat_lit 115)) (nat_lit 0)), (@Value.int (.ofNat (nat_lit 0)) (nat_lit 0)), (@Value.ref (nat_lit 516)), (@Value.int (.ofNat (nat_lit 122)) (nat_lit 0)), (@Value.int (.ofNat (nat_lit 0)) (nat_lit 0)), (@Value.ref (nat_lit 523)), (@Value.int (.ofNat (nat_lit 128)) (nat_lit 0)), (@Value.int (.ofNat (nat_lit 0)) (nat_lit 0)), (@Value.ref (nat_lit 530)), (@Value.int (.ofNat (nat_lit 132)) (nat_lit 0)), (@Value.int (.ofNat (nat_lit 0)) (nat_lit 0)), (@Value.ref (nat_lit 535)), (@Value.int (.ofNat (nat_lit 136)) (nat_lit 0)), (@Value.int (.ofNat (nat_lit 0)) (nat_lit 0)), (@Value.ref (nat_lit 540)), (@Value.int (.ofNat (nat_lit 140)) (nat_lit 0)), (@Value.int (.ofNat (nat_lit 0)) (nat_lit 0)), (@Value.ref (nat_lit 547)), (@Value.int (.ofNat (nat_lit 198)) (nat_lit 0)), (@Value.int (.ofNat (nat_lit 0)) (nat_lit 0)), (@Value.ref (nat_lit 653)), (@Value.int (.ofNat (nat_lit 205)) (nat_lit 0)), (@Value.int (.ofNat (nat_lit 0)) (nat_lit 0)), (@Value.ref (nat_lit 660)), (@Value.int (.ofNat (nat_lit 214)) (nat_lit 0)), (@Value.int (.ofNat (nat_lit 0)) (nat_lit 0)), (@Value.ref (nat_lit 667)), (@Value.int (.ofNat (nat_lit 220)) (nat_lit 0)), (@Value.int (.ofNat (nat_lit 0)) (nat_lit 0)), (@Value.ref (nat_lit 672)), (@Value.int (.ofNat (nat_lit 229)) (nat_lit 0)), (@Value.int (.ofNat (nat_lit 0)) (nat_lit 0)), (@Value.ref (nat_lit 677)), (@Value.int (.ofNat (nat_lit 234)) (nat_lit 0)), (@Value.int (.ofNat (nat_lit 0)) (nat_lit 0)), (@Value.ref (nat_lit 682)), (@Value.int (.ofNat (nat_lit 236)) (nat_lit 0)), (@Value.int (.ofNat (nat_lit 0)) (nat_lit 0)), (@Value.ref (nat_lit 689)), (@Value.int (.ofNat (nat_lit 256)) (nat_lit 0)), (@Value.int (.ofNat (nat_lit 0)) (nat_lit 0)), (@Value.ref (nat_lit 696))])) (.mk []))
def o542 (P : Params) : Obj := (@Obj.mk (@Value.type "tuple") none (@Data.seq (.mk []) (nat_lit 0)) (.mk []))
def o543 (P : Params) : Obj := (@Obj.mk (@Value.type "builtin_function_or_method") none (@Data.fields (.mk [(@Value.builtin "type.__prepare__"), (@Value.type "type")])) (.mk []))
def o544 (P : Params) : Obj := (@Obj.mk (@Value.type "dict") none (@Data.dict (.mk [(@DictEntry.mk (@PyData.keyHash P (@Str.ofString "__module__")) (@Value.str (@Str.ofString "__module__") (nat_lit 902)) (@Value.str (@Str.ofString "menuhouses.looks") (nat_lit 885))), (@DictEntry.mk (@PyData.keyHash P (@Str.ofString "__qualname__")) (@Value.str (@Str.ofString "__qualname__") (nat_lit 904)) (@Value.str (@Str.ofString "Look") (nat_lit 903))), (@DictEntry.mk (@PyData.keyHash P (@Str.ofString "__firstlineno__")) (@Value.str (@Str.ofString "__firstlineno__") (nat_lit 906)) (@Value.int (.ofNat (nat_lit 140)) (nat_lit 905))), (@DictEntry.mk (@PyData.keyHash P (@Str.ofString "__init__")) (@Value.str (@Str.ofString "__init__") (nat_lit 915)) (@Value.ref (nat_lit 555))), (@DictEntry.mk (@PyData.keyHash P (@Str.ofString "read")) (@Value.str (@Str.ofString "read") (nat_lit 933)) (@Value.ref (nat_lit 562))), (@DictEntry.mk (@PyData.keyHash P (@Str.ofString "just")) (@Value.str (@Str.ofString "just") (nat_lit 953)) (@Value.ref (nat_lit 572))), (@DictEntry.mk (@PyData.keyHash P (@Str.ofString "marks")) (@Value.str (@Str.ofString "marks") (nat_lit 961)) (@Value.ref (nat_lit 581))), (@DictEntry.mk (@PyData.keyHash P (@Str.ofString "taken")) (@Value.str (@Str.ofString "taken") (nat_lit 968)) (@Value.ref (nat_lit 587))), (@DictEntry.mk (@PyData.keyHash P (@Str.ofString "passed")) (@Value.str (@Str.ofString "passed") (nat_lit 975)) (@Value.ref (nat_lit 593))), (@DictEntry.mk (@PyData.keyHash P (@Str.ofString "holds")) (@Value.str (@Str.ofString "holds") (nat_lit 983)) (@Value.ref (nat_lit 600))), (@DictEntry.mk (@PyData.keyHash P (@Str.ofString "__getitem__")) (@Value.str (@Str.ofString "__getitem__") (nat_lit 991)) (@Value.ref (nat_lit 607))), (@DictEntry.mk (@PyData.keyHash P (@Str.ofString "__iter__")) (@Value.str (@Str.ofString "__iter__") (nat_lit 998)) (@Value.ref (nat_lit 614))), (@DictEntry.mk (@PyData.keyHash P (@Str.ofString "__len__")) (@Value.str (@Str.ofString "__len__") (nat_lit 1005)) (@Value.ref (nat_lit 621))), (@DictEntry.mk (@PyData.keyHash P (@Str.ofString "__str__")) (@Value.str (@Str.ofString "__str__") (nat_lit 1011)) (@Value.ref (nat_lit 626))), (@DictEntry.mk (@PyData.keyHash P (@Str.ofString "__repr__")) (@Value.str (@Str.ofString "__repr__") (nat_lit 1018)) (@Value.ref (nat_lit 633))), (@DictEntry.mk (@PyData.keyHash P (@Str.ofString "__eq__")) (@Value.str (@Str.ofString "__eq__") (nat_lit 1026)) (@Value.ref (nat_lit 640))), (@DictEntry.mk (@PyData.keyHash P (@Str.ofString "__static_attributes__")) (@Value.str (@Str.ofString "__static_attributes__") (nat_lit 1029)) (@Value.ref (nat_lit 641)))]) (nat_lit 17)) (.mk []))
def o545 (P : Params) : Obj := (@Obj.mk (@Value.type "tuple") none (@Data.seq (.mk []) (nat_lit 0)) (.mk []))
def o546 (P : Params) : Obj := (@Obj.mk Value.none none (@Data.fields (.mk [(@Value.int (.ofNat (nat_lit 142)) (nat_lit 0)), (@Value.int (.ofNat (nat_lit 4)) (nat_lit 0)), (@Value.ref (nat_lit 554)), (@Value.int (.ofNat (nat_lit 150)) (nat_lit 0)), (@Value.int (.ofNat (nat_lit 4)) (nat_lit 0)), (@Value.ref (nat_lit 559)), (@Value.int (.ofNat (nat_lit 161)) (nat_lit 0)), (@Value.int (.ofNat (nat_lit 4)) (nat_lit 0)), (@Value.ref (nat_lit 569)), (@Value.int (.ofNat (nat_lit 165)) (nat_lit 0)), (@Value.int (.ofNat (nat_lit 4)) (nat_lit 0)), (@Value.ref (nat_lit 579)), (@Value.int (.ofNat (nat_lit 169)) (nat_lit 0)), (@Value.int (.ofNat (nat_lit 4)) (nat_lit 0)), (@Value.ref (nat_lit 585)), (@Value.int (.ofNat (nat_lit 173)) (nat_lit 0)), (@Value.int (.ofNat (nat_lit 4)) (nat_lit 0)), (@Value.ref (nat_lit 591)), (@Value.int (.ofNat (nat_lit 176)) (nat_lit 0)), (@Value.int (.ofNat (nat_lit 4)) (nat_lit 0)), (@Value.ref (nat_lit 599)), (@Value.int (.ofNat (nat_lit 179)) (nat_lit 0)), (@Value.int (.ofNat (nat_lit 4)) (nat_lit 0)), (@Value.ref (nat_lit 606)), (@Value.int (.ofNat (nat_lit 183)) (nat_lit 0)), (@Value.int (.ofNat (nat_lit 4)) (nat_lit 0)), (@Value.ref (nat_lit 613)), (@Value.int (.ofNat (nat_lit 186)) (nat_lit 0)), (@Value.int (.ofNat (nat_lit 4)) (nat_lit 0)), (@Value.ref (nat_lit 620)), (@Value.int (.ofNat (nat_lit 189)) (nat_lit 0)), (@Value.int (.ofNat (nat_lit 4)) (nat_lit 0)), (@Value.ref (nat_lit 625)), (@Value.int (.ofNat (nat_lit 192)) (nat_lit 0)), (@Value.int (.ofNat (nat_lit 4)) (nat_lit 0)), (@Value.ref (nat_lit 632)), (@Value.int (.ofNat (nat_lit 195)) (nat_lit 0)), (@Value.int (.ofNat (nat_lit 4)) (nat_lit 0)), (@Value.ref (nat_lit 639))])) (.mk []))
def o547 (P : Params) : Obj := (@Obj.mk (@Value.type "code") none (@Data.fields (.mk [(@Value.str (@Str.ofString "Look") (nat_lit 897)), (@Value.str (@Str.ofString "Look") (nat_lit 898)), (@Value.str (@Str.ofString "/claim/cut.py") (nat_lit 899)), (@Value.int (.ofNat (nat_lit 140)) (nat_lit 0)), (@Value.int (.ofNat (nat_lit 0)) (nat_lit 0)), (@Value.int (.ofNat (nat_lit 0)) (nat_lit 0)), (@Value.int (.ofNat (nat_lit 0)) (nat_lit 0)), (@Value.int (.ofNat (nat_lit 0)) (nat_lit 0)), (@Value.ref (nat_lit 545)), (@Value.bool false), (@Value.int (.ofNat (nat_lit 181)) (nat_lit 0)), (@Value.ref (nat_lit 546)), Value.none, Value.none, Value.none, Value.none, (@Value.int (.ofNat (nat_lit 900)) (nat_lit 0)), (@Value.int (.ofNat (nat_lit 140)) (nat_lit 0)), (@Value.str (@Str.ofString "/claim/cut.py") (nat_lit 901))])) (.mk []))
def o548 (P : Params) : Obj := (@Obj.mk (@Value.type "frame") none Data.plain (.mk [(some (@Value.ref (nat_lit 547))), (some (@Value.ref (nat_lit 3))), (some (@Value.ref (nat_lit 544))), none, (some (@Value.str (@Str.ofString "menuhouses.looks") (nat_lit 885))), none, (some (@Value.ref (nat_lit 0)))]))
def o549 (P : Params) : Obj := (@Obj.mk (@Value.type "tuple") none (@Data.seq (.mk []) (nat_lit 0)) (.mk []))
def o550 (P : Params) : Obj := (@Obj.mk Value.none none (@Data.fields (.mk [])) (.mk []))
def o551 (P : Params) : Obj := (@Obj.mk (@Value.type "tuple") none (@Data.seq (.mk [(@Value.str (@Str.ofString "self") (nat_lit 910)), (@Value.str (@Str.ofString "menu") (nat_lit 911)), (@Value.str (@Str.ofString "marks") (nat_lit 912))]) (nat_lit 0)) (.mk []))
def o552 (P : Params) : Obj := (@Obj.mk (@Value.type "tuple") none (@Data.seq (.mk []) (nat_lit 0)) (.mk []))
def o553 (P : Params) : Obj := (@Obj.mk Value.none none (@Data.func (@FuncData.mk (@Str.ofString "__init__") (@Str.ofString "Look.__init__") (defArgs (inClass (topS 44) 0)) (@FuncBody.stmts (defBody (inClass (topS 44) 0))) (defScope (inClass (topS 44) 0)) (nat_lit 0) [] Value.none Value.none Value.none Value.none none Value.none Value.none (nat_lit 0))) (.mk []))
def o554 (P : Params) : Obj := (@Obj.mk (@Value.type "code") none (@Data.fields (.mk [(@Value.str (@Str.ofString "__init__") (nat_lit 907)), (@Value.str (@Str.ofString "Look.__init__") (nat_lit 908)), (@Value.str (@Str.ofString "/claim/cut.py") (nat_lit 909)), (@Value.int (.ofNat (nat_lit 142)) (nat_lit 0)), (@Value.int (.ofNat (nat_lit 3)) (nat_lit 0)), (@Value.int (.ofNat (nat_lit 0)) (nat_lit 0)), (@Value.int (.ofNat (nat_lit 0)) (nat_lit 0)), (@Value.int (.ofNat (nat_lit 3)) (nat_lit 0)), (@Value.ref (nat_lit 549)), (@Value.bool true), (@Value.int (.ofNat (nat_lit 181)) (nat_lit 0)), (@Value.ref (nat_lit 550)), Value.none, (@Value.ref (nat_lit 551)), (@Value.ref (nat_lit 552)), (@Value.ref (nat_lit 553)), (@Value.int (.ofNat (nat_lit 913)) (nat_lit 0)), (@Value.int (.ofNat (nat_lit 142)) (nat_lit 0)), (@Value.str (@Str.ofString "/claim/cut.py") (nat_lit 914))])) (.mk []))
def o555 (P : Params) : Obj := (@Obj.mk (@Value.type "function") none (@Data.func (@FuncData.mk (@Str.ofString "__init__") (@Str.ofString "Look.__init__") (defArgs (inClass (topS 44) 0)) (@FuncBody.stmts (defBody (inClass (topS 44) 0))) (defScope (inClass (topS 44) 0)) (nat_lit 3) [] Value.none Value.none Value.none (@Value.str (@Str.ofString "menuhouses.looks") (nat_lit 885)) none (@Value.ref (nat_lit 554)) Value.none (nat_lit 0))) (.mk []))
def o556 (P : Params) : Obj := (@Obj.mk (@Value.type "tuple") none (@Data.seq (.mk []) (nat_lit 0)) (.mk []))
def o557 (P : Params) : Obj := (@Obj.mk Value.none none (@Data.fields (.mk [])) (.mk []))
def o558 (P : Params) : Obj := (@Obj.mk Value.none none (@Data.func (@FuncData.mk (@Str.ofString "read") (@Str.ofString "Look.read") (defArgs (inClass (topS 44) 1)) (@FuncBody.stmts (defBody (inClass (topS 44) 1))) (defScope (inClass (topS 44) 1)) (nat_lit 0) [] Value.none Value.none Value.none Value.none none Value.none Value.none (nat_lit 0))) (.mk []))
def o559 (P : Params) : Obj := (@Obj.mk (@Value.type "code") none (@Data.fields (.mk [(@Value.str (@Str.ofString "read") (nat_lit 916)), (@Value.str (@Str.ofString "Look.read") (nat_lit 917)), (@Value.str (@Str.ofString "/claim/cut.py") (nat_lit 918)), (@Value.int (.ofNat (nat_lit 149)) (nat_lit 0)), (@Value.int (.ofNat (nat_lit 2)) (nat_lit 0)), (@Value.int (.ofNat (nat_lit 0)) (nat_lit 0)), (@Value.int (.ofNat (nat_lit 0)) (nat_lit 0)), (@Value.int (.ofNat (nat_lit 3)) (nat_lit 0)), (@Value.ref (nat_lit 556)), (@Value.bool true), (@Value.int (.ofNat (nat_lit 181)) (nat_lit 0)), (@Value.ref (nat_lit 557)), Value.none, Value.none, Value.none, (@Value.ref (nat_lit 558)), (@Value.int (.ofNat (nat_lit 919)) (nat_lit 0)), (@Value.int (.ofNat (nat_lit 149)) (nat_lit 0)), (@Value.str (@Str.ofString "/claim/cut.py") (nat_lit 920))])) (.mk []))
def o560 (P : Params) : Obj := (@Obj.mk (@Value.type "function") none (@Data.func (@FuncData.mk (@Str.ofString "read") (@Str.ofString "Look.read") (defArgs (inClass (topS 44) 1)) (@FuncBody.stmts (defBody (inClass (topS 44) 1))) (defScope (inClass (topS 44) 1)) (nat_lit 3) [] Value.none Value.none Value.none (@Value.str (@Str.ofString "menuhouses.looks") (nat_lit 885)) (some (nat_lit 563)) (@Value.ref (nat_lit 559)) Value.none (nat_lit 0))) (.mk []))
def o561 (P : Params) : Obj := (@Obj.mk (@Value.type "dict") none (@Data.dict (.mk [(@DictEntry.mk (@PyData.keyHash P (@Str.ofString "__module__")) (@Value.str (@Str.ofString "__module__") (nat_lit 922)) (@Value.str (@Str.ofString "menuhouses.looks") (nat_lit 885))), (@DictEntry.mk (@PyData.keyHash P (@Str.ofString "__name__")) (@Value.str (@Str.ofString "__name__") (nat_lit 925)) (@Value.str (@Str.ofString "read") (nat_lit 924))), (@DictEntry.mk (@PyData.keyHash P (@Str.ofString "__qualname__")) (@Value.str (@Str.ofString "__qualname__") (nat_lit 928)) (@Value.str (@Str.ofString "Look.read") (nat_lit 927))), (@DictEntry.mk (@PyData.keyHash P (@Str.ofString "__doc__")) (@Value.str (@Str.ofString "__doc__") (nat_lit 930)) Value.none), (@DictEntry.mk (@PyData.keyHash P (@Str.ofString "__annotations__")) (@Value.str (@Str.ofString "__annotations__") (nat_lit 932)) (@Value.ref (nat_lit 563)))]) (nat_lit 5)) (.mk []))
def o562 (P : Params) : Obj := (@Obj.mk (@Value.type "classmethod") (some (nat_lit 561)) (@Data.fields (.mk [(@Value.ref (nat_lit 560)), (@Value.bool false)])) (.mk []))
def o563 (P : Params) : Obj := (@Obj.mk (@Value.type "dict") none (@Data.dict (.mk []) (nat_lit 0)) (.mk []))
def o564 (P : Params) : Obj := (@Obj.mk (@Value.type "tuple") none (@Data.seq (.mk []) (nat_lit 0)) (.mk []))
def o565 (P : Params) : Obj := (@Obj.mk Value.none none (@Data.fields (.mk [])) (.mk []))
def o566 (P : Params) : Obj := (@Obj.mk (@Value.type "tuple") none (@Data.seq (.mk [(@Value.str (@Str.ofString "menu") (nat_lit 937)), (@Value.str (@Str.ofString "taken") (nat_lit 938))]) (nat_lit 0)) (.mk []))
def o567 (P : Params) : Obj := (@Obj.mk (@Value.type "tuple") none (@Data.seq (.mk []) (nat_lit 0)) (.mk []))
def o568 (P : Params) : Obj := (@Obj.mk Value.none none (@Data.func (@FuncData.mk (@Str.ofString "just") (@Str.ofString "Look.just") (defArgs (inClass (topS 44) 2)) (@FuncBody.stmts (defBody (inClass (topS 44) 2))) (defScope (inClass (topS 44) 2)) (nat_lit 0) [] Value.none Value.none Value.none Value.none none Value.none Value.none (nat_lit 0))) (.mk []))
def o569 (P : Params) : Obj := (@Obj.mk (@Value.type "code") none (@Data.fields (.mk [(@Value.str (@Str.ofString "just") (nat_lit 934)), (@Value.str (@Str.ofString "Look.just") (nat_lit 935)), (@Value.str (@Str.ofString "/claim/cut.py") (nat_lit 936)), (@Value.int (.ofNat (nat_lit 160)) (nat_lit 0)), (@Value.int (.ofNat (nat_lit 2)) (nat_lit 0)), (@Value.int (.ofNat (nat_lit 0)) (nat_lit 0)), (@Value.int (.ofNat (nat_lit 0)) (nat_lit 0)), (@Value.int (.ofNat (nat_lit 3)) (nat_lit 0)), (@Value.ref (nat_lit 564)), (@Value.bool true), (@Value.int (.ofNat (nat_lit 181)) (nat_lit 0)), (@Value.ref (nat_lit 565)), Value.none, (@Value.ref (nat_lit 566)), (@Value.ref (nat_lit 567)), (@Value.ref (nat_lit 568)), (@Value.int (.ofNat (nat_lit 939)) (nat_lit 0)), (@Value.int (.ofNat (nat_lit 160)) (nat_lit 0)), (@Value.str (@Str.ofString "/claim/cut.py") (nat_lit 940))])) (.mk []))
def o570 (P : Params) : Obj := (@Obj.mk (@Value.type "function") none (@Data.func (@FuncData.mk (@Str.ofString "just") (@Str.ofString "Look.just") (defArgs (inClass (topS 44) 2)) (@FuncBody.stmts (defBody (inClass (topS 44) 2))) (defScope (inClass (topS 44) 2)) (nat_lit 3) [] Value.none Value.none Value.none (@Value.str (@Str.ofString "menuhouses.looks") (nat_lit 885)) (some (nat_lit 573)) (@Value.ref (nat_lit 569)) Value.none (nat_lit 0))) (.mk []))
def o571 (P : Params) : Obj := (@Obj.mk (@Value.type "dict") none (@Data.dict (.mk [(@DictEntry.mk (@PyData.keyHash P (@Str.ofString "__module__")) (@Value.str (@Str.ofString "__module__") (nat_lit 942)) (@Value.str (@Str.ofString "menuhouses.looks") (nat_lit 885))), (@DictEntry.mk (@PyData.keyHash P (@Str.ofString "__name__")) (@Value.str (@Str.ofString "__name__") (nat_lit 945)) (@Value.str (@Str.ofString "just") (nat_lit 944))), (@DictEntry.mk (@PyData.keyHash P (@Str.ofString "__qualname__")) (@Value.str (@Str.ofString "__qualname__") (nat_lit 948)) (@Value.str (@Str.ofString "Look.just") (nat_lit 947))), (@DictEntry.mk (@PyData.keyHash P (@Str.ofString "__doc__")) (@Value.str (@Str.ofString "__doc__") (nat_lit 950)) Value.none), (@DictEntry.mk (@PyData.keyHash P (@Str.ofString "__annotations__")) (@Value.str (@Str.ofString "__annotations__") (nat_lit 952)) (@Value.ref (nat_lit 573)))]) (nat_lit 5)) (.mk []))
def o572 (P : Params) : Obj := (@Obj.mk (@Value.type "staticmethod") (some (nat_lit 571)) (@Data.fields (.mk [(@Value.ref (nat_lit 570)), (@Value.bool false)])) (.mk []))
def o573 (P : Params) : Obj := (@Obj.mk (@Value.type "dict") none (@Data.dict (.mk []) (nat_lit 0)) (.mk []))
def o574 (P : Params) : Obj := (@Obj.mk (@Value.type "tuple") none (@Data.seq (.mk []) (nat_lit 0)) (.mk []))
def o575 (P : Params) : Obj := (@Obj.mk Value.none none (@Data.fields (.mk [])) (.mk []))
def o576 (P : Params) : Obj := (@Obj.mk (@Value.type "tuple") none (@Data.seq (.mk [(@Value.str (@Str.ofString "self") (nat_lit 957))]) (nat_lit 0)) (.mk []))
def o577 (P : Params) : Obj := (@Obj.mk (@Value.type "tuple") none (@Data.seq (.mk []) (nat_lit 0)) (.mk []))
def o578 (P : Params) : Obj := (@Obj.mk Value.none none (@Data.func (@FuncData.mk (@Str.ofString "marks") (@Str.ofString "Look.marks") (defArgs (inClass (topS 44) 3)) (@FuncBody.stmts (defBody (inClass (topS 44) 3))) (defScope (inClass (topS 44) 11)) (nat_lit 0) [] Value.none Value.none Value.none Value.none none Value.none Value.none (nat_lit 0))) (.mk []))
def o579 (P : Params) : Obj := (@Obj.mk (@Value.type "code") none (@Data.fields (.mk [(@Value.str (@Str.ofString "marks") (nat_lit 954)), (@Value.str (@Str.ofString "Look.marks") (nat_lit 955)), (@Value.str (@Str.ofString "/claim/cut.py") (nat_lit 956)), (@Value.int (.ofNat (nat_lit 164)) (nat_lit 0)), (@Value.int (.ofNat (nat_lit 1)) (nat_lit 0)), (@Value.int (.ofNat (nat_lit 0)) (nat_lit 0)), (@Value.int (.ofNat (nat_lit 0)) (nat_lit 0)), (@Value.int (.ofNat (nat_lit 3)) (nat_lit 0)), (@Value.ref (nat_lit 574)), (@Value.bool true), (@Value.int (.ofNat (nat_lit 181)) (nat_lit 0)), (@Value.ref (nat_lit 575)), Value.none, (@Value.ref (nat_lit 576)), (@Value.ref (nat_lit 577)), (@Value.ref (nat_lit 578)), (@Value.int (.ofNat (nat_lit 958)) (nat_lit 0)), (@Value.int (.ofNat (nat_lit 164)) (nat_lit 0)), (@Value.str (@Str.ofString "/claim/cut.py") (nat_lit 959))])) (.mk []))
def o580 (P : Params) : Obj := (@Obj.mk (@Value.type "function") none (@Data.func (@FuncData.mk (@Str.ofString "marks") (@Str.ofString "Look.marks") (defArgs (inClass (topS 44) 3)) (@FuncBody.stmts (defBody (inClass (topS 44) 3))) (defScope (inClass (topS 44) 11)) (nat_lit 3) [] Value.none Value.none Value.none (@Value.str (@Str.ofString "menuhouses.looks") (nat_lit 885)) none (@Value.ref (nat_lit 579)) Value.none (nat_lit 0))) (.mk []))
def o581 (P : Params) : Obj := (@Obj.mk (@Value.type "property") none (@Data.fields (.mk [(@Value.ref (nat_lit 580)), Value.none, Value.none, Value.none, (@Value.str (@Str.ofString "marks") (nat_lit 961)), (@Value.bool false)])) (.mk []))
def o582 (P : Params) : Obj := (@Obj.mk (@Value.type "tuple") none (@Data.seq (.mk []) (nat_lit 0)) (.mk []))
def o583 (P : Params) : Obj := (@Obj.mk Value.none none (@Data.fields (.mk [])) (.mk []))
def o584 (P : Params) : Obj := (@Obj.mk Value.none none (@Data.func (@FuncData.mk (@Str.ofString "taken") (@Str.ofString "Look.taken") (defArgs (inClass (topS 44) 4)) (@FuncBody.stmts (defBody (inClass (topS 44) 4))) (defScope (inClass (topS 44) 5)) (nat_lit 0) [] Value.none Value.none Value.none Value.none none Value.none Value.none (nat_lit 0))) (.mk []))
def o585 (P : Params) : Obj := (@Obj.mk (@Value.type "code") none (@Data.fields (.mk [(@Value.str (@Str.ofString "taken") (nat_lit 962)), (@Value.str (@Str.ofString "Look.taken") (nat_lit 963)), (@Value.str (@Str.ofString "/claim/cut.py") (nat_lit 964)), (@Value.int (.ofNat (nat_lit 168)) (nat_lit 0)), (@Value.int (.ofNat (nat_lit 1)) (nat_lit 0)), (@Value.int (.ofNat (nat_lit 0)) (nat_lit 0)), (@Value.int (.ofNat (nat_lit 0)) (nat_lit 0)), (@Value.int (.ofNat (nat_lit 3)) (nat_lit 0)), (@Value.ref (nat_lit 582)), (@Value.bool true), (@Value.int (.ofNat (nat_lit 181)) (nat_lit 0)), (@Value.ref (nat_lit 583)), Value.none, Value.none, Value.none, (@Value.ref (nat_lit 584)), (@Value.int (.ofNat (nat_lit 965)) (nat_lit 0)), (@Value.int (.ofNat (nat_lit 168)) (nat_lit 0)), (@Value.str (@Str.ofString "/claim/cut.py") (nat_lit 966))])) (.mk []))
def o586 (P : Params) : Obj := (@Obj.mk (@Value.type "function") none (@Data.func (@FuncData.mk (@Str.ofString "taken") (@Str.ofString "Look.taken") (defArgs (inClass (topS 44) 4)) (@FuncBody.stmts (defBody (inClass (topS 44) 4))) (defScope (inClass (topS 44) 5)) (nat_lit 3) [] Value.none Value.none Value.none (@Value.str (@Str.ofString "menuhouses.looks") (nat_lit 885)) none (@Value.ref (nat_lit 585)) Value.none (nat_lit 0))) (.mk []))
def o587 (P : Params) : Obj := (@Obj.mk (@Value.type "property") none (@Data.fields (.mk [(@Value.ref (nat_lit 586)), Value.none, Value.none, Value.none, (@Value.str (@Str.ofString "taken") (nat_lit 968)), (@Value.bool false)])) (.mk []))
def o588 (P : Params) : Obj := (@Obj.mk (@Value.type "tuple") none (@Data.seq (.mk []) (nat_lit 0)) (.mk []))
def o589 (P : Params) : Obj := (@Obj.mk Value.none none (@Data.fields (.mk [])) (.mk []))
def o590 (P : Params) : Obj := (@Obj.mk Value.none none (@Data.func (@FuncData.mk (@Str.ofString "passed") (@Str.ofString "Look.passed") (defArgs (inClass (topS 44) 5)) (@FuncBody.stmts (defBody (inClass (topS 44) 5))) (defScope (inClass (topS 44) 5)) (nat_lit 0) [] Value.none Value.none Value.none Value.none none Value.none Value.none (nat_lit 0))) (.mk []))
def o591 (P : Params) : Obj := (@Obj.mk (@Value.type "code") none (@Data.fields (.mk [(@Value.str (@Str.ofString "passed") (nat_lit 969)), (@Value.str (@Str.ofString "Look.passed") (nat_lit 970)), (@Value.str (@Str.ofString "/claim/cut.py") (nat_lit 971)), (@Value.int (.ofNat (nat_lit 172)) (nat_lit 0)), (@Value.int (.ofNat (nat_lit 1)) (nat_lit 0)), (@Value.int (.ofNat (nat_lit 0)) (nat_lit 0)), (@Value.int (.ofNat (nat_lit 0)) (nat_lit 0)), (@Value.int (.ofNat (nat_lit 3)) (nat_lit 0)), (@Value.ref (nat_lit 588)), (@Value.bool true), (@Value.int (.ofNat (nat_lit 181)) (nat_lit 0)), (@Value.ref (nat_lit 589)), Value.none, Value.none, Value.none, (@Value.ref (nat_lit 590)), (@Value.int (.ofNat (nat_lit 972)) (nat_lit 0)), (@Value.int (.ofNat (nat_lit 172)) (nat_lit 0)), (@Value.str (@Str.ofString "/claim/cut.py") (nat_lit 973))])) (.mk []))
def o592 (P : Params) : Obj := (@Obj.mk (@Value.type "function") none (@Data.func (@FuncData.mk (@Str.ofString "passed") (@Str.ofString "Look.passed") (defArgs (inClass (topS 44) 5)) (@FuncBody.stmts (defBody (inClass (topS 44) 5))) (defScope (inClass (topS 44) 5)) (nat_lit 3) [] Value.none Value.none Value.none (@Value.str (@Str.ofString "menuhouses.looks") (nat_lit 885)) none (@Value.ref (nat_lit 591)) Value.none (nat_lit 0))) (.mk []))
def o593 (P : Params) : Obj := (@Obj.mk (@Value.type "property") none (@Data.fields (.mk [(@Value.ref (nat_lit 592)), Value.none, Value.none, Value.none, (@Value.str (@Str.ofString "passed") (nat_lit 975)), (@Value.bool false)])) (.mk []))
def o594 (P : Params) : Obj := (@Obj.mk (@Value.type "tuple") none (@Data.seq (.mk []) (nat_lit 0)) (.mk []))
def o595 (P : Params) : Obj := (@Obj.mk Value.none none (@Data.fields (.mk [])) (.mk []))
def o596 (P : Params) : Obj := (@Obj.mk (@Value.type "tuple") none (@Data.seq (.mk [(@Value.str (@Str.ofString "self") (nat_lit 979)), (@Value.str (@Str.ofString "house") (nat_lit 980))]) (nat_lit 0)) (.mk []))
def o597 (P : Params) : Obj := (@Obj.mk (@Value.type "tuple") none (@Data.seq (.mk []) (nat_lit 0)) (.mk []))
def o598 (P : Params) : Obj := (@Obj.mk Value.none none (@Data.func (@FuncData.mk (@Str.ofString "holds") (@Str.ofString "Look.holds") (defArgs (inClass (topS 44) 6)) (@FuncBody.stmts (defBody (inClass (topS 44) 6))) (defScope (inClass (topS 44) 6)) (nat_lit 0) [] Value.none Value.none Value.none Value.none none Value.none Value.none (nat_lit 0))) (.mk []))
def o599 (P : Params) : Obj := (@Obj.mk (@Value.type "code") none (@Data.fields (.mk [(@Value.str (@Str.ofString "holds") (nat_lit 976)), (@Value.str (@Str.ofString "Look.holds") (nat_lit 977)), (@Value.str (@Str.ofString "/claim/cut.py") (nat_lit 978)), (@Value.int (.ofNat (nat_lit 176)) (nat_lit 0)), (@Value.int (.ofNat (nat_lit 2)) (nat_lit 0)), (@Value.int (.ofNat (nat_lit 0)) (nat_lit 0)), (@Value.int (.ofNat (nat_lit 0)) (nat_lit 0)), (@Value.int (.ofNat (nat_lit 3)) (nat_lit 0)), (@Value.ref (nat_lit 594)), (@Value.bool true), (@Value.int (.ofNat (nat_lit 181)) (nat_lit 0)), (@Value.ref (nat_lit 595)), Value.none, (@Value.ref (nat_lit 596)), (@Value.ref (nat_lit 597)), (@Value.ref (nat_lit 598)), (@Value.int (.ofNat (nat_lit 981)) (nat_lit 0)), (@Value.int (.ofNat (nat_lit 176)) (nat_lit 0)), (@Value.str (@Str.ofString "/claim/cut.py") (nat_lit 982))])) (.mk []))
def o600 (P : Params) : Obj := (@Obj.mk (@Value.type "function") none (@Data.func (@FuncData.mk (@Str.ofString "holds") (@Str.ofString "Look.holds") (defArgs (inClass (topS 44) 6)) (@FuncBody.stmts (defBody (inClass (topS 44) 6))) (defScope (inClass (topS 44) 6)) (nat_lit 3) [] Value.none Value.none Value.none (@Value.str (@Str.ofString "menuhouses.looks") (nat_lit 885)) none (@Value.ref (nat_lit 599)) Value.none (nat_lit 0))) (.mk []))
def o601 (P : Params) : Obj := (@Obj.mk (@Value.type "tuple") none (@Data.seq (.mk []) (nat_lit 0)) (.mk []))
def o602 (P : Params) : Obj := (@Obj.mk Value.none none (@Data.fields (.mk [])) (.mk []))
def o603 (P : Params) : Obj := (@Obj.mk (@Value.type "tuple") none (@Data.seq (.mk [(@Value.str (@Str.ofString "self") (nat_lit 987)), (@Value.str (@Str.ofString "at") (nat_lit 988))]) (nat_lit 0)) (.mk []))
def o604 (P : Params) : Obj := (@Obj.mk (@Value.type "tuple") none (@Data.seq (.mk []) (nat_lit 0)) (.mk []))
def o605 (P : Params) : Obj := (@Obj.mk Value.none none (@Data.func (@FuncData.mk (@Str.ofString "__getitem__") (@Str.ofString "Look.__getitem__") (defArgs (inClass (topS 44) 7)) (@FuncBody.stmts (defBody (inClass (topS 44) 7))) (defScope (inClass (topS 44) 7)) (nat_lit 0) [] Value.none Value.none Value.none Value.none none Value.none Value.none (nat_lit 0))) (.mk []))
def o606 (P : Params) : Obj := (@Obj.mk (@Value.type "code") none (@Data.fields (.mk [(@Value.str (@Str.ofString "__getitem__") (nat_lit 984)), (@Value.str (@Str.ofString "Look.__getitem__") (nat_lit 985)), (@Value.str (@Str.ofString "/claim/cut.py") (nat_lit 986)), (@Value.int (.ofNat (nat_lit 179)) (nat_lit 0)), (@Value.int (.ofNat (nat_lit 2)) (nat_lit 0)), (@Value.int (.ofNat (nat_lit 0)) (nat_lit 0)), (@Value.int (.ofNat (nat_lit 0)) (nat_lit 0)), (@Value.int (.ofNat (nat_lit 3)) (nat_lit 0)), (@Value.ref (nat_lit 601)), (@Value.bool true), (@Value.int (.ofNat (nat_lit 181)) (nat_lit 0)), (@Value.ref (nat_lit 602)), Value.none, (@Value.ref (nat_lit 603)), (@Value.ref (nat_lit 604)), (@Value.ref (nat_lit 605)), (@Value.int (.ofNat (nat_lit 989)) (nat_lit 0)), (@Value.int (.ofNat (nat_lit 179)) (nat_lit 0)), (@Value.str (@Str.ofString "/claim/cut.py") (nat_lit 990))])) (.mk []))
def o607 (P : Params) : Obj := (@Obj.mk (@Value.type "function") none (@Data.func (@FuncData.mk (@Str.ofString "__getitem__") (@Str.ofString "Look.__getitem__") (defArgs (inClass (topS 44) 7)) (@FuncBody.stmts (defBody (inClass (topS 44) 7))) (defScope (inClass (topS 44) 7)) (nat_lit 3) [] Value.none Value.none Value.none (@Value.str (@Str.ofString "menuhouses.looks") (nat_lit 885)) none (@Value.ref (nat_lit 606)) Value.none (nat_lit 0))) (.mk []))
def o608 (P : Params) : Obj := (@Obj.mk (@Value.type "tuple") none (@Data.seq (.mk []) (nat_lit 0)) (.mk []))
def o609 (P : Params) : Obj := (@Obj.mk Value.none none (@Data.fields (.mk [])) (.mk []))
def o610 (P : Params) : Obj := (@Obj.mk (@Value.type "tuple") none (@Data.seq (.mk [(@Value.str (@Str.ofString "self") (nat_lit 995))]) (nat_lit 0)) (.mk []))
def o611 (P : Params) : Obj := (@Obj.mk (@Value.type "tuple") none (@Data.seq (.mk []) (nat_lit 0)) (.mk []))
def o612 (P : Params) : Obj := (@Obj.mk Value.none none (@Data.func (@FuncData.mk (@Str.ofString "__iter__") (@Str.ofString "Look.__iter__") (defArgs (inClass (topS 44) 8)) (@FuncBody.stmts (defBody (inClass (topS 44) 8))) (defScope (inClass (topS 44) 8)) (nat_lit 0) [] Value.none Value.none Value.none Value.none none Value.none Value.none (nat_lit 0))) (.mk []))
def o613 (P : Params) : Obj := (@Obj.mk (@Value.type "code") none (@Data.fields (.mk [(@Value.str (@Str.ofString "__iter__") (nat_lit 992)), (@Value.str (@Str.ofString "Look.__iter__") (nat_lit 993)), (@Value.str (@Str.ofString "/claim/cut.py") (nat_lit 994)), (@Value.int (.ofNat (nat_lit 183)) (nat_lit 0)), (@Value.int (.ofNat (nat_lit 1)) (nat_lit 0)), (@Value.int (.ofNat (nat_lit 0)) (nat_lit 0)), (@Value.int (.ofNat (nat_lit 0)) (nat_lit 0)), (@Value.int (.ofNat (nat_lit 3)) (nat_lit 0)), (@Value.ref (nat_lit 608)), (@Value.bool true), (@Value.int (.ofNat (nat_lit 181)) (nat_lit 0)), (@Value.ref (nat_lit 609)), Value.none, (@Value.ref (nat_lit 610)), (@Value.ref (nat_lit 611)), (@Value.ref (nat_lit 612)), (@Value.int (.ofNat (nat_lit 996)) (nat_lit 0)), (@Value.int (.ofNat (nat_lit 183)) (nat_lit 0)), (@Value.str (@Str.ofString "/claim/cut.py") (nat_lit 997))])) (.mk []))
def o614 (P : Params) : Obj := (@Obj.mk (@Value.type "function") none (@Data.func (@FuncData.mk (@Str.ofString "__iter__") (@Str.ofString "Look.__iter__") (defArgs (inClass (topS 44) 8)) (@FuncBody.stmts (defBody (inClass (topS 44) 8))) (defScope (inClass (topS 44) 8)) (nat_lit 3) [] Value.none Value.none Value.none (@Value.str (@Str.ofString "menuhouses.looks") (nat_lit 885)) none (@Value.ref (nat_lit 613)) Value.none (nat_lit 0))) (.mk []))
def o615 (P : Params) : Obj := (@Obj.mk (@Value.type "tuple") none (@Data.seq (.mk []) (nat_lit 0)) (.mk []))
def o616 (P : Params) : Obj := (@Obj.mk Value.none none (@Data.fields (.mk [])) (.mk []))
def o617 (P : Params) : Obj := (@Obj.mk (@Value.type "tuple") none (@Data.seq (.mk [(@Value.str (@Str.ofString "self") (nat_lit 1002))]) (nat_lit 0)) (.mk []))
def o618 (P : Params) : Obj := (@Obj.mk (@Value.type "tuple") none (@Data.seq (.mk []) (nat_lit 0)) (.mk []))
def o619 (P : Params) : Obj := (@Obj.mk Value.none none (@Data.func (@FuncData.mk (@Str.ofString "__len__") (@Str.ofString "Look.__len__") (defArgs (inClass (topS 44) 9)) (@FuncBody.stmts (defBody (inClass (topS 44) 9))) (defScope (inClass (topS 44) 9)) (nat_lit 0) [] Value.none Value.none Value.none Value.none none Value.none Value.none (nat_lit 0))) (.mk []))
def o620 (P : Params) : Obj := (@Obj.mk (@Value.type "code") none (@Data.fields (.mk [(@Value.str (@Str.ofString "__len__") (nat_lit 999)), (@Value.str (@Str.ofString "Look.__len__") (nat_lit 1000)), (@Value.str (@Str.ofString "/claim/cut.py") (nat_lit 1001)), (@Value.int (.ofNat (nat_lit 186)) (nat_lit 0)), (@Value.int (.ofNat (nat_lit 1)) (nat_lit 0)), (@Value.int (.ofNat (nat_lit 0)) (nat_lit 0)), (@Value.int (.ofNat (nat_lit 0)) (nat_lit 0)), (@Value.int (.ofNat (nat_lit 3)) (nat_lit 0)), (@Value.ref (nat_lit 615)), (@Value.bool true), (@Value.int (.ofNat (nat_lit 181)) (nat_lit 0)), (@Value.ref (nat_lit 616)), Value.none, (@Value.ref (nat_lit 617)), (@Value.ref (nat_lit 618)), (@Value.ref (nat_lit 619)), (@Value.int (.ofNat (nat_lit 1003)) (nat_lit 0)), (@Value.int (.ofNat (nat_lit 186)) (nat_lit 0)), (@Value.str (@Str.ofString "/claim/cut.py") (nat_lit 1004))])) (.mk []))
def o621 (P : Params) : Obj := (@Obj.mk (@Value.type "function") none (@Data.func (@FuncData.mk (@Str.ofString "__len__") (@Str.ofString "Look.__len__") (defArgs (inClass (topS 44) 9)) (@FuncBody.stmts (defBody (inClass (topS 44) 9))) (defScope (inClass (topS 44) 9)) (nat_lit 3) [] Value.none Value.none Value.none (@Value.str (@Str.ofString "menuhouses.looks") (nat_lit 885)) none (@Value.ref (nat_lit 620)) Value.none (nat_lit 0))) (.mk []))
def o622 (P : Params) : Obj := (@Obj.mk (@Value.type "tuple") none (@Data.seq (.mk []) (nat_lit 0)) (.mk []))
def o623 (P : Params) : Obj := (@Obj.mk Value.none none (@Data.fields (.mk [])) (.mk []))
def o624 (P : Params) : Obj := (@Obj.mk Value.none none (@Data.func (@FuncData.mk (@Str.ofString "__str__") (@Str.ofString "Look.__str__") (defArgs (inClass (topS 44) 10)) (@FuncBody.stmts (defBody (inClass (topS 44) 10))) (defScope (inClass (topS 44) 10)) (nat_lit 0) [] Value.none Value.none Value.none Value.none none Value.none Value.none (nat_lit 0))) (.mk []))
def o625 (P : Params) : Obj := (@Obj.mk (@Value.type "code") none (@Data.fields (.mk [(@Value.str (@Str.ofString "__str__") (nat_lit 1006)), (@Value.str (@Str.ofString "Look.__str__") (nat_lit 1007)), (@Value.str (@Str.ofString "/claim/cut.py") (nat_lit 1008)), (@Value.int (.ofNat (nat_lit 189)) (nat_lit 0)), (@Value.int (.ofNat (nat_lit 1)) (nat_lit 0)), (@Value.int (.ofNat (nat_lit 0)) (nat_lit 0)), (@Value.int (.ofNat (nat_lit 0)) (nat_lit 0)), (@Value.int (.ofNat (nat_lit 3)) (nat_lit 0)), (@Value.ref (nat_lit 622)), (@Value.bool true), (@Value.int (.ofNat (nat_lit 181)) (nat_lit 0)), (@Value.ref (nat_lit 623)), Value.none, Value.none, Value.none, (@Value.ref (nat_lit 624)), (@Value.int (.ofNat (nat_lit 1009)) (nat_lit 0)), (@Value.int (.ofNat (nat_lit 189)) (nat_lit 0)), (@Value.str (@Str.ofString "/claim/cut.py") (nat_lit 1010))])) (.mk []))
def o626 (P : Params) : Obj := (@Obj.mk (@Value.type "function") none (@Data.func (@FuncData.mk (@Str.ofString "__str__") (@Str.ofString "Look.__str__") (defArgs (inClass (topS 44) 10)) (@FuncBody.stmts (defBody (inClass (topS 44) 10))) (defScope (inClass (topS 44) 10)) (nat_lit 3) [] Value.none Value.none Value.none (@Value.str (@Str.ofString "menuhouses.looks") (nat_lit 885)) none (@Value.ref (nat_lit 625)) Value.none (nat_lit 0))) (.mk []))
def o627 (P : Params) : Obj := (@Obj.mk (@Value.type "tuple") none (@Data.seq (.mk []) (nat_lit 0)) (.mk []))
def o628 (P : Params) : Obj := (@Obj.mk Value.none none (@Data.fields (.mk [])) (.mk []))
def o629 (P : Params) : Obj := (@Obj.mk (@Value.type "tuple") none (@Data.seq (.mk [(@Value.str (@Str.ofString "self") (nat_lit 1015))]) (nat_lit 0)) (.mk []))
def o630 (P : Params) : Obj := (@Obj.mk (@Value.type "tuple") none (@Data.seq (.mk []) (nat_lit 0)) (.mk []))
def o631 (P : Params) : Obj := (@Obj.mk Value.none none (@Data.func (@FuncData.mk (@Str.ofString "__repr__") (@Str.ofString "Look.__repr__") (defArgs (inClass (topS 44) 11)) (@FuncBody.stmts (defBody (inClass (topS 44) 11))) (defScope (inClass (topS 44) 11)) (nat_lit 0) [] Value.none Value.none Value.none Value.none none Value.none Value.none (nat_lit 0))) (.mk []))
def o632 (P : Params) : Obj := (@Obj.mk (@Value.type "code") none (@Data.fields (.mk [(@Value.str (@Str.ofString "__repr__") (nat_lit 1012)), (@Value.str (@Str.ofString "Look.__repr__") (nat_lit 1013)), (@Value.str (@Str.ofString "/claim/cut.py") (nat_lit 1014)), (@Value.int (.ofNat (nat_lit 192)) (nat_lit 0)), (@Value.int (.ofNat (nat_lit 1)) (nat_lit 0)), (@Value.int (.ofNat (nat_lit 0)) (nat_lit 0)), (@Value.int (.ofNat (nat_lit 0)) (nat_lit 0)), (@Value.int (.ofNat (nat_lit 3)) (nat_lit 0)), (@Value.ref (nat_lit 627)), (@Value.bool true), (@Value.int (.ofNat (nat_lit 181)) (nat_lit 0)), (@Value.ref (nat_lit 628)), Value.none, (@Value.ref (nat_lit 629)), (@Value.ref (nat_lit 630)), (@Value.ref (nat_lit 631)), (@Value.int (.ofNat (nat_lit 1016)) (nat_lit 0)), (@Value.int (.ofNat (nat_lit 192)) (nat_lit 0)), (@Value.str (@Str.ofString "/claim/cut.py") (nat_lit 1017))])) (.mk []))
def o633 (P : Params) : Obj := (@Obj.mk (@Value.type "function") none (@Data.func (@FuncData.mk (@Str.ofString "__repr__") (@Str.ofString "Look.__repr__") (defArgs (inClass (topS 44) 11)) (@FuncBody.stmts (defBody (inClass (topS 44) 11))) (defScope (inClass (topS 44) 11)) (nat_lit 3) [] Value.none Value.none Value.none (@Value.str (@Str.ofString "menuhouses.looks") (nat_lit 885)) none (@Value.ref (nat_lit 632)) Value.none (nat_lit 0))) (.mk []))
def o634 (P : Params) : Obj := (@Obj.mk (@Value.type "tuple") none (@Data.seq (.mk []) (nat_lit 0)) (.mk []))
def o635 (P : Params) : Obj := (@Obj.mk Value.none none (@Data.fields (.mk [])) (.mk []))
def o636 (P : Params) : Obj := (@Obj.mk (@Value.type "tuple") none (@Data.seq (.mk [(@Value.str (@Str.ofString "self") (nat_lit 1022)), (@Value.str (@Str.ofString "other") (nat_lit 1023))]) (nat_lit 0)) (.mk []))
def o637 (P : Params) : Obj := (@Obj.mk (@Value.type "tuple") none (@Data.seq (.mk []) (nat_lit 0)) (.mk []))
def o638 (P : Params) : Obj := (@Obj.mk Value.none none (@Data.func (@FuncData.mk (@Str.ofString "__eq__") (@Str.ofString "Look.__eq__") (defArgs (inClass (topS 44) 12)) (@FuncBody.stmts (defBody (inClass (topS 44) 12))) (defScope (inClass (topS 44) 12)) (nat_lit 0) [] Value.none Value.none Value.none Value.none none Value.none Value.none (nat_lit 0))) (.mk []))
def o639 (P : Params) : Obj := (@Obj.mk (@Value.type "code") none (@Data.fields (.mk [(@Value.str (@Str.ofString "__eq__") (nat_lit 1019)), (@Value.str (@Str.ofString "Look.__eq__") (nat_lit 1020)), (@Value.str (@Str.ofString "/claim/cut.py") (nat_lit 1021)), (@Value.int (.ofNat (nat_lit 195)) (nat_lit 0)), (@Value.int (.ofNat (nat_lit 2)) (nat_lit 0)), (@Value.int (.ofNat (nat_lit 0)) (nat_lit 0)), (@Value.int (.ofNat (nat_lit 0)) (nat_lit 0)), (@Value.int (.ofNat (nat_lit 3)) (nat_lit 0)), (@Value.ref (nat_lit 634)), (@Value.bool true), (@Value.int (.ofNat (nat_lit 181)) (nat_lit 0)), (@Value.ref (nat_lit 635)), Value.none, (@Value.ref (nat_lit 636)), (@Value.ref (nat_lit 637)), (@Value.ref (nat_lit 638)), (@Value.int (.ofNat (nat_lit 1024)) (nat_lit 0)), (@Value.int (.ofNat (nat_lit 195)) (nat_lit 0)), (@Value.str (@Str.ofString "/claim/cut.py") (nat_lit 1025))])) (.mk []))
def o640 (P : Params) : Obj := (@Obj.mk (@Value.type "function") none (@Data.func (@FuncData.mk (@Str.ofString "__eq__") (@Str.ofString "Look.__eq__") (defArgs (inClass (topS 44) 12)) (@FuncBody.stmts (defBody (inClass (topS 44) 12))) (defScope (inClass (topS 44) 12)) (nat_lit 3) [] Value.none Value.none Value.none (@Value.str (@Str.ofString "menuhouses.looks") (nat_lit 885)) none (@Value.ref (nat_lit 639)) Value.none (nat_lit 0))) (.mk []))
def o641 (P : Params) : Obj := (@Obj.mk (@Value.type "tuple") none (@Data.seq (.mk [(@Value.str (@Str.ofString "_marks") (nat_lit 1027)), (@Value.str (@Str.ofString "menu") (nat_lit 1028))]) (nat_lit 0)) (.mk []))
def o642 (P : Params) : Obj := (@Obj.mk (@Value.type "dict") none (@Data.dict (.mk [(@DictEntry.mk (@PyData.keyHash P (@Str.ofString "__module__")) (@Value.str (@Str.ofString "__module__") (nat_lit 902)) (@Value.str (@Str.ofString "menuhouses.looks") (nat_lit 885))), (@DictEntry.mk (@PyData.keyHash P (@Str.ofString "__firstlineno__")) (@Value.str (@Str.ofString "__firstlineno__") (nat_lit 906)) (@Value.int (.ofNat (nat_lit 140)) (nat_lit 905))), (@DictEntry.mk (@PyData.keyHash P (@Str.ofString "__init__")) (@Value.str (@Str.ofString "__init__") (nat_lit 915)) (@Value.ref (nat_lit 555))), (@DictEntry.mk (@PyData.keyHash P (@Str.ofString "read")) (@Value.str (@Str.ofString "read") (nat_lit 933)) (@Value.ref (nat_lit 562))), (@DictEntry.mk (@PyData.keyHash P (@Str.ofString "just")) (@Value.str (@Str.ofString "just") (nat_lit 953)) (@Value.ref (nat_lit 572))), (@DictEntry.mk (@PyData.keyHash P (@Str.ofString "marks")) (@Value.str (@Str.ofString "marks") (nat_lit 961)) (@Value.ref (nat_lit 581))), (@DictEntry.mk (@PyData.keyHash P (@Str.ofString "taken")) (@Value.str (@Str.ofString "taken") (nat_lit 968)) (@Value.ref (nat_lit 587))), (@DictEntry.mk (@PyData.keyHash P (@Str.ofString "passed")) (@Value.str (@Str.ofString "passed") (nat_lit 975)) (@Value.ref (nat_lit 593))), (@DictEntry.mk (@PyData.keyHash P (@Str.ofString "holds")) (@Value.str (@Str.ofString "holds") (nat_lit 983)) (@Value.ref (nat_lit 600))), (@DictEntry.mk (@PyData.keyHash P (@Str.ofString "__getitem__")) (@Value.str (@Str.ofString "__getitem__") (nat_lit 991)) (@Value.ref (nat_lit 607))), (@DictEntry.mk (@PyData.keyHash P (@Str.ofString "__iter__")) (@Value.str (@Str.ofString "__iter__") (nat_lit 998)) (@Value.ref (nat_lit 614))), (@DictEntry.mk (@PyData.keyHash P (@Str.ofString "__len__")) (@Value.str (@Str.ofString "__len__") (nat_lit 1005)) (@Value.ref (nat_lit 621))), (@DictEntry.mk (@PyData.keyHash P (@Str.ofString "__str__")) (@Value.str (@Str.ofString "__str__") (nat_lit 1011)) (@Value.ref (nat_lit 626))), (@DictEntry.mk (@PyData.keyHash P (@Str.ofString "__repr__")) (@Value.str (@Str.ofString "__repr__") (nat_lit 1018)) (@Value.ref (nat_lit 633))), (@DictEntry.mk (@PyData.keyHash P (@Str.ofString "__eq__")) (@Value.str (@Str.ofString "__eq__") (nat_lit 1026)) (@Value.ref (nat_lit 640))), (@DictEntry.mk (@PyData.keyHash P (@Str.ofString "__static_attributes__")) (@Value.str (@Str.ofString "__static_attributes__") (nat_lit 1029)) (@Value.ref (nat_lit 641))), (@DictEntry.mk (@PyData.keyHash P (@Str.ofString "__dict__")) (@Value.str (@Str.ofString "__dict__") (nat_lit 1031)) (@Value.ref (nat_lit 644))), (@DictEntry.mk (@PyData.keyHash P (@Str.ofString "__weakref__")) (@Value.str (@Str.ofString "__weakref__") (nat_lit 1033)) (@Value.ref (nat_lit 645))), (@DictEntry.mk (@PyData.keyHash P (@Str.ofString "__doc__")) (@Value.str (@Str.ofString "__doc__") (nat_lit 1034)) Value.none), (@DictEntry.mk (@PyData.keyHash P (@Str.ofString "__hash__")) (@Value.str (@Str.ofString "__hash__") (nat_lit 1035)) Value.none)]) (nat_lit 5)) (.mk []))
def o643 (P : Params) : Obj := (@Obj.mk (@Value.type "type") none (@Data.cls (@ClassData.mk (@Str.ofString "Look") [(@Value.type "object")] [(@Value.ref (nat_lit 643)), (@Value.type "object")] (nat_lit 642) (@Str.ofString "Look") true [] [] false none false)) (.mk [none, none, (some (@Value.str (@Str.ofString "Look") (nat_lit 895))), (some (@Value.str (@Str.ofString "Look") (nat_lit 903))), (some (@Value.builtin "object.__new__")), (some (@Value.bool true))]))
def o644 (P : Params) : Obj := (@Obj.mk (@Value.type "getset_descriptor") none (@Data.fields (.mk [(@Value.str (@Str.ofString "__dict__") (nat_lit 1030)), (@Value.ref (nat_lit 643)), (@Value.builtin "function.__dict__"), (@Value.builtin "function.__dict__#set")])) (.mk []))
def o645 (P : Params) : Obj := (@Obj.mk (@Value.type "getset_descriptor") none (@Data.fields (.mk [(@Value.str (@Str.ofString "__weakref__") (nat_lit 1032)), (@Value.ref (nat_lit 643)), (@Value.builtin "ExceptionGroup.__weakref__"), Value.none])) (.mk []))
def o646 (P : Params) : Obj := (@Obj.mk (@Value.type "super") none (@Data.fields (.mk [(@Value.ref (nat_lit 643)), (@Value.ref (nat_lit 643)), (@Value.ref (nat_lit 643))])) (.mk []))
def o647 (P : Params) : Obj := (@Obj.mk (@Value.type "builtin_function_or_method") none (@Data.fields (.mk [(@Value.builtin "object.__init_subclass__"), (@Value.ref (nat_lit 643))])) (.mk []))
def o648 (P : Params) : Obj := (@Obj.mk (@Value.type "tuple") none (@Data.seq (.mk []) (nat_lit 0)) (.mk []))
def o649 (P : Params) : Obj := (@Obj.mk Value.none none (@Data.fields (.mk [])) (.mk []))
def o650 (P : Params) : Obj := (@Obj.mk (@Value.type "tuple") none (@Data.seq (.mk [(@Value.str (@Str.ofString "_law_cells") (nat_lit 1043)), (@Value.str (@Str.ofString "_law_k") (nat_lit 1044)), (@Value.str (@Str.ofString "_law_seed") (nat_lit 1045)), (@Value.str (@Str.ofString "_law_some") (nat_lit 1046)), (@Value.str (@Str.ofString "_law_cell") (nat_lit 1047)), (@Value.str (@Str.ofString "_law_great") (nat_lit 1048))]) (nat_lit 0)) (.mk []))
def o651 (P : Params) : Obj := (@Obj.mk (@Value.type "tuple") none (@Data.seq (.mk []) (nat_lit 0)) (.mk []))
def o652 (P : Params) : Obj := (@Obj.mk Value.none none (@Data.func (@FuncData.mk (@Str.ofString "_law_urn") (@Str.ofString "_law_urn") (defArgs (topS 46)) (@FuncBody.stmts (defBody (topS 46))) (defScope (topS 46)) (nat_lit 0) [] Value.none Value.none Value.none Value.none none Value.none Value.none (nat_lit 0))) (.mk []))
def o653 (P : Params) : Obj := (@Obj.mk (@Value.type "code") none (@Data.fields (.mk [(@Value.str (@Str.ofString "_law_urn") (nat_lit 1040)), (@Value.str (@Str.ofString "_law_urn") (nat_lit 1041)), (@Value.str (@Str.ofString "/claim/cut.py") (nat_lit 1042)), (@Value.int (.ofNat (nat_lit 198)) (nat_lit 0)), (@Value.int (.ofNat (nat_lit 2)) (nat_lit 0)), (@Value.int (.ofNat (nat_lit 0)) (nat_lit 0)), (@Value.int (.ofNat (nat_lit 0)) (nat_lit 0)), (@Value.int (.ofNat (nat_lit 3)) (nat_lit 0)), (@Value.ref (nat_lit 648)), (@Value.bool true), (@Value.int (.ofNat (nat_lit 181)) (nat_lit 0)), (@Value.ref (nat_lit 649)), Value.none, (@Value.ref (nat_lit 650)), (@Value.ref (nat_lit 651)), (@Value.ref (nat_lit 652)), (@Value.int (.ofNat (nat_lit 1049)) (nat_lit 0)), (@Value.int (.ofNat (nat_lit 198)) (nat_lit 0)), (@Value.str (@Str.ofString "/claim/cut.py") (nat_lit 1050))])) (.mk []))
def o654 (P : Params) : Obj := (@Obj.mk (@Value.type "function") none (@Data.func (@FuncData.mk (@Str.ofString "_law_urn") (@Str.ofString "_law_urn") (defArgs (topS 46)) (@FuncBody.stmts (defBody (topS 46))) (defScope (topS 46)) (nat_lit 3) [] Value.none Value.none Value.none (@Value.str (@Str.ofString "law_menuhouses_k47_look_texts_bent") (nat_lit 1038)) none (@Value.ref (nat_lit 653)) Value.none (nat_lit 0))) (.mk []))
def o655 (P : Params) : Obj := (@Obj.mk (@Value.type "tuple") none (@Data.seq (.mk []) (nat_lit 0)) (.mk []))
def o656 (P : Params) : Obj := (@Obj.mk Value.none none (@Data.fields (.mk [])) (.mk []))
def o657 (P : Params) : Obj := (@Obj.mk (@Value.type "tuple") none (@Data.seq (.mk [(@Value.str (@Str.ofString "_law_urn_here") (nat_lit 1055)), (@Value.str (@Str.ofString "_law_many") (nat_lit 1056)), (@Value.str (@Str.ofString "_law_mixed") (nat_lit 1057)), (@Value.str (@Str.ofString "_law_digit") (nat_lit 1058))]) (nat_lit 0)) (.mk []))
def o658 (P : Params) : Obj := (@Obj.mk (@Value.type "tuple") none (@Data.seq (.mk []) (nat_lit 0)) (.mk []))
def o659 (P : Params) : Obj := (@Obj.mk Value.none none (@Data.func (@FuncData.mk (@Str.ofString "_law_draw") (@Str.ofString "_law_draw") (defArgs (topS 47)) (@FuncBody.stmts (defBody (topS 47))) (defScope (topS 47)) (nat_lit 0) [] Value.none Value.none Value.none Value.none none Value.none Value.none (nat_lit 0))) (.mk []))
def o660 (P : Params) : Obj := (@Obj.mk (@Value.type "code") none (@Data.fields (.mk [(@Value.str (@Str.ofString "_law_draw") (nat_lit 1052)), (@Value.str (@Str.ofString "_law_draw") (nat_lit 1053)), (@Value.str (@Str.ofString "/claim/cut.py") (nat_lit 1054)), (@Value.int (.ofNat (nat_lit 205)) (nat_lit 0)), (@Value.int (.ofNat (nat_lit 2)) (nat_lit 0)), (@Value.int (.ofNat (nat_lit 0)) (nat_lit 0)), (@Value.int (.ofNat (nat_lit 0)) (nat_lit 0)), (@Value.int (.ofNat (nat_lit 3)) (nat_lit 0)), (@Value.ref (nat_lit 655)), (@Value.bool true), (@Value.int (.ofNat (nat_lit 181)) (nat_lit 0)), (@Value.ref (nat_lit 656)), Value.none, (@Value.ref (nat_lit 657)), (@Value.ref (nat_lit 658)), (@Value.ref (nat_lit 659)), (@Value.int (.ofNat (nat_lit 1059)) (nat_lit 0)), (@Value.int (.ofNat (nat_lit 205)) (nat_lit 0)), (@Value.str (@Str.ofString "/claim/cut.py") (nat_lit 1060))])) (.mk []))
def o661 (P : Params) : Obj := (@Obj.mk (@Value.type "function") none (@Data.func (@FuncData.mk (@Str.ofString "_law_draw") (@Str.ofString "_law_draw") (defArgs (topS 47)) (@FuncBody.stmts (defBody (topS 47))) (defScope (topS 47)) (nat_lit 3) [] Value.none Value.none Value.none (@Value.str (@Str.ofString "law_menuhouses_k47_look_texts_bent") (nat_lit 1038)) none (@Value.ref (nat_lit 660)) Value.none (nat_lit 0))) (.mk []))
def o662 (P : Params) : Obj := (@Obj.mk (@Value.type "tuple") none (@Data.seq (.mk []) (nat_lit 0)) (.mk []))
def o663 (P : Params) : Obj := (@Obj.mk Value.none none (@Data.fields (.mk [])) (.mk []))
def o664 (P : Params) : Obj := (@Obj.mk (@Value.type "tuple") none (@Data.seq (.mk [(@Value.str (@Str.ofString "_law_urn_here") (nat_lit 1065)), (@Value.str (@Str.ofString "_law_signs") (nat_lit 1066)), (@Value.str (@Str.ofString "_law_found") (nat_lit 1067)), (@Value.str (@Str.ofString "_law_turn") (nat_lit 1068))]) (nat_lit 0)) (.mk []))
def o665 (P : Params) : Obj := (@Obj.mk (@Value.type "tuple") none (@Data.seq (.mk []) (nat_lit 0)) (.mk []))
def o666 (P : Params) : Obj := (@Obj.mk Value.none none (@Data.func (@FuncData.mk (@Str.ofString "_law_name") (@Str.ofString "_law_name") (defArgs (topS 48)) (@FuncBody.stmts (defBody (topS 48))) (defScope (topS 48)) (nat_lit 0) [] Value.none Value.none Value.none Value.none none Value.none Value.none (nat_lit 0))) (.mk []))
def o667 (P : Params) : Obj := (@Obj.mk (@Value.type "code") none (@Data.fields (.mk [(@Value.str (@Str.ofString "_law_name") (nat_lit 1062)), (@Value.str (@Str.ofString "_law_name") (nat_lit 1063)), (@Value.str (@Str.ofString "/claim/cut.py") (nat_lit 1064)), (@Value.int (.ofNat (nat_lit 214)) (nat_lit 0)), (@Value.int (.ofNat (nat_lit 1)) (nat_lit 0)), (@Value.int (.ofNat (nat_lit 0)) (nat_lit 0)), (@Value.int (.ofNat (nat_lit 0)) (nat_lit 0)), (@Value.int (.ofNat (nat_lit 3)) (nat_lit 0)), (@Value.ref (nat_lit 662)), (@Value.bool true), (@Value.int (.ofNat (nat_lit 181)) (nat_lit 0)), (@Value.ref (nat_lit 663)), Value.none, (@Value.ref (nat_lit 664)), (@Value.ref (nat_lit 665)), (@Value.ref (nat_lit 666)), (@Value.int (.ofNat (nat_lit 1069)) (nat_lit 0)), (@Value.int (.ofNat (nat_lit 214)) (nat_lit 0)), (@Value.str (@Str.ofString "/claim/cut.py") (nat_lit 1070))])) (.mk []))
def o668 (P : Params) : Obj := (@Obj.mk (@Value.type "function") none (@Data.func (@FuncData.mk (@Str.ofString "_law_name") (@Str.ofString "_law_name") (defArgs (topS 48)) (@FuncBody.stmts (defBody (topS 48))) (defScope (topS 48)) (nat_lit 3) [] Value.none Value.none Value.none (@Value.str (@Str.ofString "law_menuhouses_k47_look_texts_bent") (nat_lit 1038)) none (@Value.ref (nat_lit 667)) Value.none (nat_lit 0))) (.mk []))
def o669 (P : Params) : Obj := (@Obj.mk (@Value.type "tuple") none (@Data.seq (.mk []) (nat_lit 0)) (.mk []))
def o670 (P : Params) : Obj := (@Obj.mk Value.none none (@Data.fields (.mk [])) (.mk []))
def o671 (P : Params) : Obj := (@Obj.mk Value.none none (@Data.func (@FuncData.mk (@Str.ofString "_law_names") (@Str.ofString "_law_names") (defArgs (topS 49)) (@FuncBody.stmts (defBody (topS 49))) (defScope (topS 49)) (nat_lit 0) [] Value.none Value.none Value.none Value.none none Value.none Value.none (nat_lit 0))) (.mk []))
def o672 (P : Params) : Obj := (@Obj.mk (@Value.type "code") none (@Data.fields (.mk [(@Value.str (@Str.ofString "_law_names") (nat_lit 1072)), (@Value.str (@Str.ofString "_law_names") (nat_lit 1073)), (@Value.str (@Str.ofString "/claim/cut.py") (nat_lit 1074)), (@Value.int (.ofNat (nat_lit 220)) (nat_lit 0)), (@Value.int (.ofNat (nat_lit 2)) (nat_lit 0)), (@Value.int (.ofNat (nat_lit 0)) (nat_lit 0)), (@Value.int (.ofNat (nat_lit 0)) (nat_lit 0)), (@Value.int (.ofNat (nat_lit 3)) (nat_lit 0)), (@Value.ref (nat_lit 669)), (@Value.bool true), (@Value.int (.ofNat (nat_lit 181)) (nat_lit 0)), (@Value.ref (nat_lit 670)), Value.none, Value.none, Value.none, (@Value.ref (nat_lit 671)), (@Value.int (.ofNat (nat_lit 1075)) (nat_lit 0)), (@Value.int (.ofNat (nat_lit 220)) (nat_lit 0)), (@Value.str (@Str.ofString "/claim/cut.py") (nat_lit 1076))])) (.mk []))
def o673 (P : Params) : Obj := (@Obj.mk (@Value.type "function") none (@Data.func (@FuncData.mk (@Str.ofString "_law_names") (@Str.ofString "_law_names") (defArgs (topS 49)) (@FuncBody.stmts (defBody (topS 49))) (defScope (topS 49)) (nat_lit 3) [] Value.none Value.none Value.none (@Value.str (@Str.ofString "law_menuhouses_k47_look_texts_bent") (nat_lit 1038)) none (@Value.ref (nat_lit 672)) Value.none (nat_lit 0))) (.mk []))
def o674 (P : Params) : Obj := (@Obj.mk (@Value.type "tuple") none (@Data.seq (.mk []) (nat_lit 0)) (.mk []))
def o675 (P : Params) : Obj := (@Obj.mk Value.none none (@Data.fields (.mk [])) (.mk []))
def o676 (P : Params) : Obj := (@Obj.mk Value.none none (@Data.func (@FuncData.mk (@Str.ofString "_law_marks") (@Str.ofString "_law_marks") (defArgs (topS 50)) (@FuncBody.stmts (defBody (topS 50))) (defScope (topS 50)) (nat_lit 0) [] Value.none Value.none Value.none Value.none none Value.none Value.none (nat_lit 0))) (.mk []))
def o677 (P : Params) : Obj := (@Obj.mk (@Value.type "code") none (@Data.fields (.mk [(@Value.str (@Str.ofString "_law_marks") (nat_lit 1078)), (@Value.str (@Str.ofString "_law_marks") (nat_lit 1079)), (@Value.str (@Str.ofString "/claim/cut.py") (nat_lit 1080)), (@Value.int (.ofNat (nat_lit 229)) (nat_lit 0)), (@Value.int (.ofNat (nat_lit 2)) (nat_lit 0)), (@Value.int (.ofNat (nat_lit 0)) (nat_lit 0)), (@Value.int (.ofNat (nat_lit 0)) (nat_lit 0)), (@Value.int (.ofNat (nat_lit 3)) (nat_lit 0)), (@Value.ref (nat_lit 674)), (@Value.bool true), (@Value.int (.ofNat (nat_lit 181)) (nat_lit 0)), (@Value.ref (nat_lit 675)), Value.none, Value.none, Value.none, (@Value.ref (nat_lit 676)), (@Value.int (.ofNat (nat_lit 1081)) (nat_lit 0)), (@Value.int (.ofNat (nat_lit 229)) (nat_lit 0)), (@Value.str (@Str.ofString "/claim/cut.py") (nat_lit 1082))])) (.mk []))
def o678 (P : Params) : Obj := (@Obj.mk (@Value.type "function") none (@Data.func (@FuncData.mk (@Str.ofString "_law_marks") (@Str.ofString "_law_marks") (defArgs (topS 50)) (@FuncBody.stmts (defBody (topS 50))) (defScope (topS 50)) (nat_lit 3) [] Value.none Value.none Value.none (@Value.str (@Str.ofString "law_menuhouses_k47_look_texts_bent") (nat_lit 1038)) none (@Value.ref (nat_lit 677)) Value.none (nat_lit 0))) (.mk []))
def o679 (P : Params) : Obj := (@Obj.mk (@Value.type "tuple") none (@Data.seq (.mk []) (nat_lit 0)) (.mk []))
def o680 (P : Params) : Obj := (@Obj.mk Value.none none (@Data.fields (.mk [])) (.mk []))
def o681 (P : Params) : Obj := (@Obj.mk Value.none none (@Data.func (@FuncData.mk (@Str.ofString "_law_text") (@Str.ofString "_law_text") (defArgs (topS 51)) (@FuncBody.stmts (defBody (topS 51))) (defScope (topS 51)) (nat_lit 0) [] Value.none Value.none Value.none Value.none none Value.none Value.none (nat_lit 0))) (.mk []))
def o682 (P : Params) : Obj := (@Obj.mk (@Value.type "code") none (@Data.fields (.mk [(@Value.str (@Str.ofString "_law_text") (nat_lit 1084)), (@Value.str (@Str.ofString "_law_text") (nat_lit 1085)), (@Value.str (@Str.ofString "/claim/cut.py") (nat_lit 1086)), (@Value.int (.ofNat (nat_lit 234)) (nat_lit 0)), (@Value.int (.ofNat (nat_lit 1)) (nat_lit 0)), (@Value.int (.ofNat (nat_lit 0)) (nat_lit 0)), (@Value.int (.ofNat (nat_lit 0)) (nat_lit 0)), (@Value.int (.ofNat (nat_lit 3)) (nat_lit 0)), (@Value.ref (nat_lit 679)), (@Value.bool true), (@Value.int (.ofNat (nat_lit 181)) (nat_lit 0)), (@Value.ref (nat_lit 680)), Value.none, Value.none, Value.none, (@Value.ref (nat_lit 681)), (@Value.int (.ofNat (nat_lit 1087)) (nat_lit 0)), (@Value.int (.ofNat (nat_lit 234)) (nat_lit 0)), (@Value.str (@Str.ofString "/claim/cut.py") (nat_lit 1088))])) (.mk []))
def o683 (P : Params) : Obj := (@Obj.mk (@Value.type "function") none (@Data.func (@FuncData.mk (@Str.ofString "_law_text") (@Str.ofString "_law_text") (defArgs (topS 51)) (@FuncBody.stmts (defBody (topS 51))) (defScope (topS 51)) (nat_lit 3) [] Value.none Value.none Value.none (@Value.str (@Str.ofString "law_menuhouses_k47_look_texts_bent") (nat_lit 1038)) none (@Value.ref (nat_lit 682)) Value.none (nat_lit 0))) (.mk []))
def o684 (P : Params) : Obj := (@Obj.mk (@Value.type "tuple") none (@Data.seq (.mk []) (nat_lit 0)) (.mk []))
def o685 (P : Params) : Obj := (@Obj.mk Value.none none (@Data.fields (.mk [])) (.mk []))
def o686 (P : Params) : Obj := (@Obj.mk (@Value.type "tuple") none (@Data.seq (.mk [(@Value.str (@Str.ofString "_law_e") (nat_lit 1093)), (@Value.str (@Str.ofString "_law_fits") (nat_lit 1094)), (@Value.str (@Str.ofString "_law_at") (nat_lit 1095)), (@Value.str (@Str.ofString "_law_bases") (nat_lit 1096)), (@Value.str (@Str.ofString "_law_own") (nat_lit 1097)), (@Value.str (@Str.ofString "_law_words") (nat_lit 1098))]) (nat_lit 0)) (.mk []))
def o687 (P : Params) : Obj := (@Obj.mk (@Value.type "tuple") none (@Data.seq (.mk []) (nat_lit 0)) (.mk []))
def o688 (P : Params) : Obj := (@Obj.mk Value.none none (@Data.func (@FuncData.mk (@Str.ofString "_law_sort") (@Str.ofString "_law_sort") (defArgs (topS 52)) (@FuncBody.stmts (defBody (topS 52))) (defScope (topS 52)) (nat_lit 0) [] Value.none Value.none Value.none Value.none none Value.none Value.none (nat_lit 0))) (.mk []))
def o689 (P : Params) : Obj := (@Obj.mk (@Value.type "code") none (@Data.fields (.mk [(@Value.str (@Str.ofString "_law_sort") (nat_lit 1090)), (@Value.str (@Str.ofString "_law_sort") (nat_lit 1091)), (@Value.str (@Str.ofString "/claim/cut.py") (nat_lit 1092)), (@Value.int (.ofNat (nat_lit 236)) (nat_lit 0)), (@Value.int (.ofNat (nat_lit 1)) (nat_lit 0)), (@Value.int (.ofNat (nat_lit 0)) (nat_lit 0)), (@Value.int (.ofNat (nat_lit 0)) (nat_lit 0)), (@Value.int (.ofNat (nat_lit 3)) (nat_lit 0)), (@Value.ref (nat_lit 684)), (@Value.bool true), (@Value.int (.ofNat (nat_lit 181)) (nat_lit 0)), (@Value.ref (nat_lit 685)), Value.none, (@Value.ref (nat_lit 686)), (@Value.ref (nat_lit 687)), (@Value.ref (nat_lit 688)), (@Value.int (.ofNat (nat_lit 1099)) (nat_lit 0)), (@Value.int (.ofNat (nat_lit 236)) (nat_lit 0)), (@Value.str (@Str.ofString "/claim/cut.py") (nat_lit 1100))])) (.mk []))
def o690 (P : Params) : Obj := (@Obj.mk (@Value.type "function") none (@Data.func (@FuncData.mk (@Str.ofString "_law_sort") (@Str.ofString "_law_sort") (defArgs (topS 52)) (@FuncBody.stmts (defBody (topS 52))) (defScope (topS 52)) (nat_lit 3) [] Value.none Value.none Value.none (@Value.str (@Str.ofString "law_menuhouses_k47_look_texts_bent") (nat_lit 1038)) none (@Value.ref (nat_lit 689)) Value.none (nat_lit 0))) (.mk []))
def o691 (P : Params) : Obj := (@Obj.mk (@Value.type "tuple") none (@Data.seq (.mk []) (nat_lit 0)) (.mk []))
def o692 (P : Params) : Obj := (@Obj.mk Value.none none (@Data.fields (.mk [])) (.mk []))
def o693 (P : Params) : Obj := (@Obj.mk (@Value.type "tuple") none (@Data.seq (.mk [(@Value.str (@Str.ofString "_law_word") (nat_lit 1105)), (@Value.str (@Str.ofString "_law_e") (nat_lit 1106)), (@Value.str (@Str.ofString "_law_indexed") (nat_lit 1107))]) (nat_lit 0)) (.mk []))
def o694 (P : Params) : Obj := (@Obj.mk (@Value.type "tuple") none (@Data.seq (.mk []) (nat_lit 0)) (.mk []))
def o695 (P : Params) : Obj := (@Obj.mk Value.none none (@Data.func (@FuncData.mk (@Str.ofString "_law_field") (@Str.ofString "_law_field") (defArgs (topS 53)) (@FuncBody.stmts (defBody (topS 53))) (defScope (topS 53)) (nat_lit 0) [] Value.none Value.none Value.none Value.none none Value.none Value.none (nat_lit 0))) (.mk []))
def o696 (P : Params) : Obj := (@Obj.mk (@Value.type "code") none (@Data.fields (.mk [(@Value.str (@Str.ofString "_law_field") (nat_lit 1102)), (@Value.str (@Str.ofString "_law_field") (nat_lit 1103)), (@Value.str (@Str.ofString "/claim/cut.py") (nat_lit 1104)), (@Value.int (.ofNat (nat_lit 256)) (nat_lit 0)), (@Value.int (.ofNat (nat_lit 2)) (nat_lit 0)), (@Value.int (.ofNat (nat_lit 0)) (nat_lit 0)), (@Value.int (.ofNat (nat_lit 0)) (nat_lit 0)), (@Value.int (.ofNat (nat_lit 3)) (nat_lit 0)), (@Value.ref (nat_lit 691)), (@Value.bool true), (@Value.int (.ofNat (nat_lit 181)) (nat_lit 0)), (@Value.ref (nat_lit 692)), Value.none, (@Value.ref (nat_lit 693)), (@Value.ref (nat_lit 694)), (@Value.ref (nat_lit 695)), (@Value.int (.ofNat (nat_lit 1108)) (nat_lit 0)), (@Value.int (.ofNat (nat_lit 256)) (nat_lit 0)), (@Value.str (@Str.ofString "/claim/cut.py") (nat_lit 1109))])) (.mk []))
def o697 (P : Params) : Obj := (@Obj.mk (@Value.type "function") none (@Data.func (@FuncData.mk (@Str.ofString "_law_field") (@Str.ofString "_law_field") (defArgs (topS 53)) (@FuncBody.stmts (defBody (topS 53))) (defScope (topS 53)) (nat_lit 3) [] Value.none Value.none Value.none (@Value.str (@Str.ofString "law_menuhouses_k47_look_texts_bent") (nat_lit 1038)) none (@Value.ref (nat_lit 696)) Value.none (nat_lit 0))) (.mk []))
def o3v7 (P : Params) : Obj := (@Obj.mk (@Value.type "dict") none (@Data.dict (.mk [(@DictEntry.mk (@PyData.keyHash P (@Str.ofString "__name__")) (@Value.str (@Str.ofString "__name__") (nat_lit 165)) (@Value.str (@Str.ofString "law_menuhouses_k47_look_texts_bent") (nat_lit 1038))), (@DictEntry.mk (@PyData.keyHash P (@Str.ofString "__doc__")) (@Value.str (@Str.ofString "__doc__") (nat_lit 166)) Value.none), (@DictEntry.mk (@PyData.keyHash P (@Str.ofString "__package__")) (@Value.str (@Str.ofString "__package__") (nat_lit 167)) Value.none), (@DictEntry.mk (@PyData.keyHash P (@Str.ofString "__loader__")) (@Value.str (@Str.ofString "__loader__") (nat_lit 168)) (@Value.builtin "__main__.__loader__#opaque")), (@DictEntry.mk (@PyData.keyHash P (@Str.ofString "__spec__")) (@Value.str (@Str.ofString "__spec__") (nat_lit 169)) Value.none), (@DictEntry.mk (@PyData.keyHash P (@Str.ofString "__annotations__")) (@Value.str (@Str.ofString "__annotations__") (nat_lit 170)) (@Value.ref (nat_lit 6))), (@DictEntry.mk (@PyData.keyHash P (@Str.ofString "__builtins__")) (@Value.str (@Str.ofString "__builtins__") (nat_lit 171)) (@Value.ref (nat_lit 4))), (@DictEntry.mk (@PyData.keyHash P (@Str.ofString "__file__")) (@Value.str (@Str.ofString "__file__") (nat_lit 173)) (@Value.str (@Str.ofString "/claim/cut.py") (nat_lit 172))), (@DictEntry.mk (@PyData.keyHash P (@Str.ofString "__cached__")) (@Value.str (@Str.ofString "__cached__") (nat_lit 174)) Value.none), (@DictEntry.mk (@PyData.keyHash P (@Str.ofString "_wall")) (@Value.str (@Str.ofString "_wall") (nat_lit 193)) (@Value.ref (nat_lit 21))), (@DictEntry.mk (@PyData.keyHash P (@Str.ofString "WrongValue")) (@Value.str (@Str.ofString "WrongValue") (nat_lit 213)) (@Value.ref (nat_lit 31))), (@DictEntry.mk (@PyData.keyHash P (@Str.ofString "InvalidText")) (@Value.str (@Str.ofString "InvalidText") (nat_lit 238)) (@Value.ref (nat_lit 51))), (@DictEntry.mk (@PyData.keyHash P (@Str.ofString "InvalidMarks")) (@Value.str (@Str.ofString "InvalidMarks") (nat_lit 263)) (@Value.ref (nat_lit 70))), (@DictEntry.mk (@PyData.keyHash P (@Str.ofString "InvalidIndex")) (@Value.str (@Str.ofString "InvalidIndex") (nat_lit 288)) (@Value.ref (nat_lit 89))), (@DictEntry.mk (@PyData.keyHash P (@Str.ofString "InvalidWord")) (@Value.str (@Str.ofString "InvalidWord") (nat_lit 313)) (@Value.ref (nat_lit 108))), (@DictEntry.mk (@PyData.keyHash P (@Str.ofString "NotARanking")) (@Value.str (@Str.ofString "NotARanking") (nat_lit 338)) (@Value.ref (nat_lit 127))), (@DictEntry.mk (@PyData.keyHash P (@Str.ofString "NotAHouse")) (@Value.str (@Str.ofString "NotAHouse") (nat_lit 363)) (@Value.ref (nat_lit 146))), (@DictEntry.mk (@PyData.keyHash P (@Str.ofString "NotALook")) (@Value.str (@Str.ofString "NotALook") (nat_lit 388)) (@Value.ref (nat_lit 165))), (@DictEntry.mk (@PyData.keyHash P (@Str.ofString "NotLooks")) (@Value.str (@Str.ofString "NotLooks") (nat_lit 413)) (@Value.ref (nat_lit 184))), (@DictEntry.mk (@PyData.keyHash P (@Str.ofString "OtherThings")) (@Value.str (@Str.ofString "OtherThings") (nat_lit 438)) (@Value.ref (nat_lit 203))), (@DictEntry.mk (@PyData.keyHash P (@Str.ofString "InvalidRow")) (@Value.str (@Str.ofString "InvalidRow") (nat_lit 463)) (@Value.ref (nat_lit 222))), (@DictEntry.mk (@PyData.keyHash P (@Str.ofString "InvalidMenu")) (@Value.str (@Str.ofString "InvalidMenu") (nat_lit 488)) (@Value.ref (nat_lit 241))), (@DictEntry.mk (@PyData.keyHash P (@Str.ofString "InvalidThings")) (@Value.str (@Str.ofString "InvalidThings") (nat_lit 513)) (@Value.ref (nat_lit 260))), (@DictEntry.mk (@PyData.keyHash P (@Str.ofString "InvalidTaken")) (@Value.str (@Str.ofString "InvalidTaken") (nat_lit 538)) (@Value.ref (nat_lit 279))), (@DictEntry.mk (@PyData.keyHash P (@Str.ofString "InvalidRankings")) (@Value.str (@Str.ofString "InvalidRankings") (nat_lit 563)) (@Value.ref (nat_lit 298))), (@DictEntry.mk (@PyData.keyHash P (@Str.ofString "InvalidLooks")) (@Value.str (@Str.ofString "InvalidLooks") (nat_lit 588)) (@Value.ref (nat_lit 317))), (@DictEntry.mk (@PyData.keyHash P (@Str.ofString "InvalidTable")) (@Value.str (@Str.ofString "InvalidTable") (nat_lit 613)) (@Value.ref (nat_lit 336))), (@DictEntry.mk (@PyData.keyHash P (@Str.ofString "WrongName")) (@Value.str (@Str.ofString "WrongName") (nat_lit 631)) (@Value.ref (nat_lit 348))), (@DictEntry.mk (@PyData.keyHash P (@Str.ofString "UnknownThing")) (@Value.str (@Str.ofString "UnknownThing") (nat_lit 656)) (@Value.ref (nat_lit 368))), (@DictEntry.mk (@PyData.keyHash P (@Str.ofString "NoAnswer")) (@Value.str (@Str.ofString "NoAnswer") (nat_lit 676)) (@Value.ref (nat_lit 380))), (@DictEntry.mk (@PyData.keyHash P (@Str.ofString "TooMany")) (@Value.str (@Str.ofString "TooMany") (nat_lit 701)) (@Value.ref (nat_lit 400))), (@DictEntry.mk (@PyData.keyHash P (@Str.ofString "NoHouse")) (@Value.str (@Str.ofString "NoHouse") (nat_lit 726)) (@Value.ref (nat_lit 419))), (@DictEntry.mk (@PyData.keyHash P (@Str.ofString "NoTable")) (@Value.str (@Str.ofString "NoTable") (nat_lit 753)) (@Value.ref (nat_lit 438))), (@DictEntry.mk (@PyData.keyHash P (@Str.ofString "Clash")) (@Value.str (@Str.ofString "Clash") (nat_lit 778)) (@Value.ref (nat_lit 457))), (@DictEntry.mk (@PyData.keyHash P (@Str.ofString "Broken")) (@Value.str (@Str.ofString "Broken") (nat_lit 803)) (@Value.ref (nat_lit 476))), (@DictEntry.mk (@PyData.keyHash P (@Str.ofString "NothingToUndo")) (@Value.str (@Str.ofString "NothingToUndo") (nat_lit 819)) (@Value.ref (nat_lit 488))), (@DictEntry.mk (@PyData.keyHash P (@Str.ofString "MOST_THINGS")) (@Value.str (@Str.ofString "MOST_THINGS") (nat_lit 821)) (@Value.int (.ofNat (nat_lit 10)) (nat_lit 820))), (@DictEntry.mk (@PyData.keyHash P (@Str.ofString "LETTERS")) (@Value.str (@Str.ofString "LETTERS") (nat_lit 825)) (@Value.str (@Str.ofString "abcdefghijklmnopqrstuvwxyz") (nat_lit 824))), (@DictEntry.mk (@PyData.keyHash P (@Str.ofString "DIGITS")) (@Value.str (@Str.ofString "DIGITS") (nat_lit 827)) (@Value.str (@Str.ofString "0123456789") (nat_lit 826))), (@DictEntry.mk (@PyData.keyHash P (@Str.ofString "LONGEST_NAME")) (@Value.str (@Str.ofString "LONGEST_NAME") (nat_lit 829)) (@Value.int (.ofNat (nat_lit 8)) (nat_lit 828))), (@DictEntry.mk (@PyData.keyHash P (@Str.ofString "is_name")) (@Value.str (@Str.ofString "is_name") (nat_lit 835)) (@Value.ref (nat_lit 495))), (@DictEntry.mk (@PyData.keyHash P (@Str.ofString "is_filled_tuple")) (@Value.str (@Str.ofString "is_filled_tuple") (nat_lit 842)) (@Value.ref (nat_lit 502))), (@DictEntry.mk (@PyData.keyHash P (@Str.ofString "is_one_of")) (@Value.str (@Str.ofString "is_one_of") (nat_lit 850)) (@Value.ref (nat_lit 509))), (@DictEntry.mk (@PyData.keyHash P (@Str.ofString "first_wrong_of_names")) (@Value.str (@Str.ofString "first_wrong_of_names") (nat_lit 860)) (@Value.ref (nat_lit 517))), (@DictEntry.mk (@PyData.keyHash P (@Str.ofString "check_names_of_menu")) (@Value.str (@Str.ofString "check_names_of_menu") (nat_lit 868)) (@Value.ref (nat_lit 524))), (@DictEntry.mk (@PyData.keyHash P (@Str.ofString "check_thing")) (@Value.str (@Str.ofString "check_thing") (nat_lit 876)) (@Value.ref (nat_lit 531))), (@DictEntry.mk (@PyData.keyHash P (@Str.ofString "index_of")) (@Value.str (@Str.ofString "index_of") (nat_lit 884)) (@Value.ref (nat_lit 536))), (@DictEntry.mk (@PyData.keyHash P (@Str.ofString "MARKS")) (@Value.str (@Str.ofString "MARKS") (nat_lit 888)) (@Value.str (@Str.ofString "+-?") (nat_lit 887))), (@DictEntry.mk (@PyData.keyHash P (@Str.ofString "are_marks")) (@Value.str (@Str.ofString "are_marks") (nat_lit 894)) (@Value.ref (nat_lit 541))), (@DictEntry.mk (@PyData.keyHash P (@Str.ofString "Look")) (@Value.str (@Str.ofString "Look") (nat_lit 1037)) (@Value.ref (nat_lit 643))), (@DictEntry.mk (@PyData.keyHash P (@Str.ofString "_law_urn")) (@Value.str (@Str.ofString "_law_urn") (nat_lit 1051)) (@Value.ref (nat_lit 654))), (@DictEntry.mk (@PyData.keyHash P (@Str.ofString "_law_draw")) (@Value.str (@Str.ofString "_law_draw") (nat_lit 1061)) (@Value.ref (nat_lit 661))), (@DictEntry.mk (@PyData.keyHash P (@Str.ofString "_law_name")) (@Value.str (@Str.ofString "_law_name") (nat_lit 1071)) (@Value.ref (nat_lit 668))), (@DictEntry.mk (@PyData.keyHash P (@Str.ofString "_law_names")) (@Value.str (@Str.ofString "_law_names") (nat_lit 1077)) (@Value.ref (nat_lit 673))), (@DictEntry.mk (@PyData.keyHash P (@Str.ofString "_law_marks")) (@Value.str (@Str.ofString "_law_marks") (nat_lit 1083)) (@Value.ref (nat_lit 678))), (@DictEntry.mk (@PyData.keyHash P (@Str.ofString "_law_text")) (@Value.str (@Str.ofString "_law_text") (nat_lit 1089)) (@Value.ref (nat_lit 683))), (@DictEntry.mk (@PyData.keyHash P (@Str.ofString "_law_sort")) (@Value.str (@Str.ofString "_law_sort") (nat_lit 1101)) (@Value.ref (nat_lit 690))), (@DictEntry.mk (@PyData.keyHash P (@Str.ofString "_law_field")) (@Value.str (@Str.ofString "_law_field") (nat_lit 1110)) (@Value.ref (nat_lit 697))), (@DictEntry.mk (@PyData.keyHash P (@Str.ofString "_law_caught")) (@Value.str (@Str.ofString "_law_caught") (nat_lit 1120)) (@Value.ref (nat_lit 704))), (@DictEntry.mk (@PyData.keyHash P (@Str.ofString "_law_is_name")) (@Value.str (@Str.ofString "_law_is_name") (nat_lit 1126)) (@Value.ref (nat_lit 709))), (@DictEntry.mk (@PyData.keyHash P (@Str.ofString "_law_wrong_names")) (@Value.str (@Str.ofString "_law_wrong_names") (nat_lit 1134)) (@Value.ref (nat_lit 716))), (@DictEntry.mk (@PyData.keyHash P (@Str.ofString "_law_read")) (@Value.str (@Str.ofString "_law_read") (nat_lit 1140)) (@Value.ref (nat_lit 721))), (@DictEntry.mk (@PyData.keyHash P (@Str.ofString "_law_sign")) (@Value.str (@Str.ofString "_law_sign") (nat_lit 1148)) (@Value.ref (nat_lit 728))), (@DictEntry.mk (@PyData.keyHash P (@Str.ofString "_law_turned")) (@Value.str (@Str.ofString "_law_turned") (nat_lit 1163)) (@Value.ref (nat_lit 735))), (@DictEntry.mk (@PyData.keyHash P (@Str.ofString "_law_read_right")) (@Value.str (@Str.ofString "_law_read_right") (nat_lit 1173)) (@Value.ref (nat_lit 742))), (@DictEntry.mk (@PyData.keyHash P (@Str.ofString "_law_right")) (@Value.str (@Str.ofString "_law_right") (nat_lit 1179)) (@Value.ref (nat_lit 747))), (@DictEntry.mk (@PyData.keyHash P (@Str.ofString "law")) (@Value.str (@Str.ofString "law") (nat_lit 1185)) (@Value.ref (nat_lit 752)))]) (nat_lit 67)) (.mk []))
def o698 (P : Params) : Obj := (@Obj.mk (@Value.type "tuple") none (@Data.seq (.mk []) (nat_lit 0)) (.mk []))
def o700 (P : Params) : Obj := (@Obj.mk (@Value.type "tuple") none (@Data.seq (.mk [(@Value.str (@Str.ofString "_law_act") (nat_lit 1114)), (@Value.str (@Str.ofString "_law_told") (nat_lit 1115)), (@Value.str (@Str.ofString "_law_e") (nat_lit 1116)), (@Value.str (@Str.ofString "_law_word") (nat_lit 1117))]) (nat_lit 0)) (.mk []))
def o701 (P : Params) : Obj := (@Obj.mk (@Value.type "tuple") none (@Data.seq (.mk []) (nat_lit 0)) (.mk []))
def o703 (P : Params) : Obj := (@Obj.mk (@Value.type "code") none (@Data.fields (.mk [(@Value.str (@Str.ofString "_law_caught") (nat_lit 1111)), (@Value.str (@Str.ofString "_law_caught") (nat_lit 1112)), (@Value.str (@Str.ofString "/claim/cut.py") (nat_lit 1113)), (@Value.int (.ofNat (nat_lit 265)) (nat_lit 0)), (@Value.int (.ofNat (nat_lit 1)) (nat_lit 0)), (@Value.int (.ofNat (nat_lit 0)) (nat_lit 0)), (@Value.int (.ofNat (nat_lit 0)) (nat_lit 0)), (@Value.int (.ofNat (nat_lit 3)) (nat_lit 0)), (@Value.ref (nat_lit 698)), (@Value.bool true), (@Value.int (.ofNat (nat_lit 181)) (nat_lit 0)), (@Value.ref (nat_lit 699)), Value.none, (@Value.ref (nat_lit 700)), (@Value.ref (nat_lit 701)), (@Value.ref (nat_lit 702)), (@Value.int (.ofNat (nat_lit 1118)) (nat_lit 0)), (@Value.int (.ofNat (nat_lit 265)) (nat_lit 0)), (@Value.str (@Str.ofString "/claim/cut.py") (nat_lit 1119))])) (.mk []))
def o704 (P : Params) : Obj := (@Obj.mk (@Value.type "function") none (@Data.func (@FuncData.mk (@Str.ofString "_law_caught") (@Str.ofString "_law_caught") (defArgs (topS 54)) (@FuncBody.stmts (defBody (topS 54))) (defScope (topS 54)) (nat_lit 3) [] Value.none Value.none Value.none (@Value.str (@Str.ofString "law_menuhouses_k47_look_texts_bent") (nat_lit 1038)) none (@Value.ref (nat_lit 703)) Value.none (nat_lit 0))) (.mk []))
def o705 (P : Params) : Obj := (@Obj.mk (@Value.type "tuple") none (@Data.seq (.mk []) (nat_lit 0)) (.mk []))
def o708 (P : Params) : Obj := (@Obj.mk (@Value.type "code") none (@Data.fields (.mk [(@Value.str (@Str.ofString "_law_is_name") (nat_lit 1121)), (@Value.str (@Str.ofString "_law_is_name") (nat_lit 1122)), (@Value.str (@Str.ofString "/claim/cut.py") (nat_lit 1123)), (@Value.int (.ofNat (nat_lit 272)) (nat_lit 0)), (@Value.int (.ofNat (nat_lit 1)) (nat_lit 0)), (@Value.int (.ofNat (nat_lit 0)) (nat_lit 0)), (@Value.int (.ofNat (nat_lit 0)) (nat_lit 0)), (@Value.int (.ofNat (nat_lit 3)) (nat_lit 0)), (@Value.ref (nat_lit 705)), (@Value.bool true), (@Value.int (.ofNat (nat_lit 181)) (nat_lit 0)), (@Value.ref (nat_lit 706)), Value.none, Value.none, Value.none, (@Value.ref (nat_lit 707)), (@Value.int (.ofNat (nat_lit 1124)) (nat_lit 0)), (@Value.int (.ofNat (nat_lit 272)) (nat_lit 0)), (@Value.str (@Str.ofString "/claim/cut.py") (nat_lit 1125))])) (.mk []))
def o709 (P : Params) : Obj := (@Obj.mk (@Value.type "function") none (@Data.func (@FuncData.mk (@Str.ofString "_law_is_name") (@Str.ofString "_law_is_name") (defArgs (topS 55)) (@FuncBody.stmts (defBody (topS 55))) (defScope (topS 55)) (nat_lit 3) [] Value.none Value.none Value.none (@Value.str (@Str.ofString "law_menuhouses_k47_look_texts_bent") (nat_lit 1038)) none (@Value.ref (nat_lit 708)) Value.none (nat_lit 0))) (.mk []))
def o710 (P : Params) : Obj := (@Obj.mk (@Value.type "tuple") none (@Data.seq (.mk []) (nat_lit 0)) (.mk []))
def o712 (P : Params) : Obj := (@Obj.mk (@Value.type "tuple") none (@Data.seq (.mk [(@Value.str (@Str.ofString "_law_menu") (nat_lit 1130)), (@Value.str (@Str.ofString "_law_k") (nat_lit 1131))]) (nat_lit 0)) (.mk []))
def o713 (P : Params) : Obj := (@Obj.mk (@Value.type "tuple") none (@Data.seq (.mk []) (nat_lit 0)) (.mk []))
def o715 (P : Params) : Obj := (@Obj.mk (@Value.type "code") none (@Data.fields (.mk [(@Value.str (@Str.ofString "_law_wrong_names") (nat_lit 1127)), (@Value.str (@Str.ofString "_law_wrong_names") (nat_lit 1128)), (@Value.str (@Str.ofString "/claim/cut.py") (nat_lit 1129)), (@Value.int (.ofNat (nat_lit 277)) (nat_lit 0)), (@Value.int (.ofNat (nat_lit 1)) (nat_lit 0)), (@Value.int (.ofNat (nat_lit 0)) (nat_lit 0)), (@Value.int (.ofNat (nat_lit 0)) (nat_lit 0)), (@Value.int (.ofNat (nat_lit 3)) (nat_lit 0)), (@Value.ref (nat_lit 710)), (@Value.bool true), (@Value.int (.ofNat (nat_lit 181)) (nat_lit 0)), (@Value.ref (nat_lit 711)), Value.none, (@Value.ref (nat_lit 712)), (@Value.ref (nat_lit 713)), (@Value.ref (nat_lit 714)), (@Value.int (.ofNat (nat_lit 1132)) (nat_lit 0)), (@Value.int (.ofNat (nat_lit 277)) (nat_lit 0)), (@Value.str (@Str.ofString "/claim/cut.py") (nat_lit 1133))])) (.mk []))
def o716 (P : Params) : Obj := (@Obj.mk (@Value.type "function") none (@Data.func (@FuncData.mk (@Str.ofString "_law_wrong_names") (@Str.ofString "_law_wrong_names") (defArgs (topS 56)) (@FuncBody.stmts (defBody (topS 56))) (defScope (topS 56)) (nat_lit 3) [] Value.none Value.none Value.none (@Value.str (@Str.ofString "law_menuhouses_k47_look_texts_bent") (nat_lit 1038)) none (@Value.ref (nat_lit 715)) Value.none (nat_lit 0))) (.mk []))
def o717 (P : Params) : Obj := (@Obj.mk (@Value.type "tuple") none (@Data.seq (.mk []) (nat_lit 0)) (.mk []))
def o720 (P : Params) : Obj := (@Obj.mk (@Value.type "code") none (@Data.fields (.mk [(@Value.str (@Str.ofString "_law_read") (nat_lit 1135)), (@Value.str (@Str.ofString "_law_read") (nat_lit 1136)), (@Value.str (@Str.ofString "/claim/cut.py") (nat_lit 1137)), (@Value.int (.ofNat (nat_lit 286)) (nat_lit 0)), (@Value.int (.ofNat (nat_lit 1)) (nat_lit 0)), (@Value.int (.ofNat (nat_lit 0)) (nat_lit 0)), (@Value.int (.ofNat (nat_lit 0)) (nat_lit 0)), (@Value.int (.ofNat (nat_lit 3)) (nat_lit 0)), (@Value.ref (nat_lit 717)), (@Value.bool true), (@Value.int (.ofNat (nat_lit 181)) (nat_lit 0)), (@Value.ref (nat_lit 718)), Value.none, Value.none, Value.none, (@Value.ref (nat_lit 719)), (@Value.int (.ofNat (nat_lit 1138)) (nat_lit 0)), (@Value.int (.ofNat (nat_lit 286)) (nat_lit 0)), (@Value.str (@Str.ofString "/claim/cut.py") (nat_lit 1139))])) (.mk []))
def o721 (P : Params) : Obj := (@Obj.mk (@Value.type "function") none (@Data.func (@FuncData.mk (@Str.ofString "_law_read") (@Str.ofString "_law_read") (defArgs (topS 57)) (@FuncBody.stmts (defBody (topS 57))) (defScope (topS 57)) (nat_lit 3) [] Value.none Value.none Value.none (@Value.str (@Str.ofString "law_menuhouses_k47_look_texts_bent") (nat_lit 1038)) none (@Value.ref (nat_lit 720)) Value.none (nat_lit 0))) (.mk []))
def o722 (P : Params) : Obj := (@Obj.mk (@Value.type "tuple") none (@Data.seq (.mk []) (nat_lit 0)) (.mk []))
def o724 (P : Params) : Obj := (@Obj.mk (@Value.type "tuple") none (@Data.seq (.mk [(@Value.str (@Str.ofString "_law_urn_here") (nat_lit 1144)), (@Value.str (@Str.ofString "_law_signs") (nat_lit 1145))]) (nat_lit 0)) (.mk []))
def o725 (P : Params) : Obj := (@Obj.mk (@Value.type "tuple") none (@Data.seq (.mk []) (nat_lit 0)) (.mk []))
def o727 (P : Params) : Obj := (@Obj.mk (@Value.type "code") none (@Data.fields (.mk [(@Value.str (@Str.ofString "_law_sign") (nat_lit 1141)), (@Value.str (@Str.ofString "_law_sign") (nat_lit 1142)), (@Value.str (@Str.ofString "/claim/cut.py") (nat_lit 1143)), (@Value.int (.ofNat (nat_lit 294)) (nat_lit 0)), (@Value.int (.ofNat (nat_lit 1)) (nat_lit 0)), (@Value.int (.ofNat (nat_lit 0)) (nat_lit 0)), (@Value.int (.ofNat (nat_lit 0)) (nat_lit 0)), (@Value.int (.ofNat (nat_lit 3)) (nat_lit 0)), (@Value.ref (nat_lit 722)), (@Value.bool true), (@Value.int (.ofNat (nat_lit 181)) (nat_lit 0)), (@Value.ref (nat_lit 723)), Value.none, (@Value.ref (nat_lit 724)), (@Value.ref (nat_lit 725)), (@Value.ref (nat_lit 726)), (@Value.int (.ofNat (nat_lit 1146)) (nat_lit 0)), (@Value.int (.ofNat (nat_lit 294)) (nat_lit 0)), (@Value.str (@Str.ofString "/claim/cut.py") (nat_lit 1147))])) (.mk []))
def o728 (P : Params) : Obj := (@Obj.mk (@Value.type "function") none (@Data.func (@FuncData.mk (@Str.ofString "_law_sign") (@Str.ofString "_law_sign") (defArgs (topS 58)) (@FuncBody.stmts (defBody (topS 58))) (defScope (topS 58)) (nat_lit 3) [] Value.none Value.none Value.none (@Value.str (@Str.ofString "law_menuhouses_k47_look_texts_bent") (nat_lit 1038)) none (@Value.ref (nat_lit 727)) Value.none (nat_lit 0))) (.mk []))
def o729 (P : Params) : Obj := (@Obj.mk (@Value.type "tuple") none (@Data.seq (.mk []) (nat_lit 0)) (.mk []))
def o731 (P : Params) : Obj := (@Obj.mk (@Value.type "tuple") none (@Data.seq (.mk [(@Value.str (@Str.ofString "_law_urn_here") (nat_lit 1152)), (@Value.str (@Str.ofString "_law_said") (nat_lit 1153)), (@Value.str (@Str.ofString "_law_way") (nat_lit 1154)), (@Value.str (@Str.ofString "_law_at") (nat_lit 1155)), (@Value.str (@Str.ofString "_law_sign_here") (nat_lit 1156)), (@Value.str (@Str.ofString "_law_words") (nat_lit 1157)), (@Value.str (@Str.ofString "_law_spot") (nat_lit 1158)), (@Value.str (@Str.ofString "_law_pair") (nat_lit 1159)), (@Value.str (@Str.ofString "_law_last") (nat_lit 1160))]) (nat_lit 0)) (.mk []))
def o732 (P : Params) : Obj := (@Obj.mk (@Value.type "tuple") none (@Data.seq (.mk []) (nat_lit 0)) (.mk []))
def o734 (P : Params) : Obj := (@Obj.mk (@Value.type "code") none (@Data.fields (.mk [(@Value.str (@Str.ofString "_law_turned") (nat_lit 1149)), (@Value.str (@Str.ofString "_law_turned") (nat_lit 1150)), (@Value.str (@Str.ofString "/claim/cut.py") (nat_lit 1151)), (@Value.int (.ofNat (nat_lit 299)) (nat_lit 0)), (@Value.int (.ofNat (nat_lit 2)) (nat_lit 0)), (@Value.int (.ofNat (nat_lit 0)) (nat_lit 0)), (@Value.int (.ofNat (nat_lit 0)) (nat_lit 0)), (@Value.int (.ofNat (nat_lit 3)) (nat_lit 0)), (@Value.ref (nat_lit 729)), (@Value.bool true), (@Value.int (.ofNat (nat_lit 181)) (nat_lit 0)), (@Value.ref (nat_lit 730)), Value.none, (@Value.ref (nat_lit 731)), (@Value.ref (nat_lit 732)), (@Value.ref (nat_lit 733)), (@Value.int (.ofNat (nat_lit 1161)) (nat_lit 0)), (@Value.int (.ofNat (nat_lit 299)) (nat_lit 0)), (@Value.str (@Str.ofString "/claim/cut.py") (nat_lit 1162))])) (.mk []))
def o735 (P : Params) : Obj := (@Obj.mk (@Value.type "function") none (@Data.func (@FuncData.mk (@Str.ofString "_law_turned") (@Str.ofString "_law_turned") (defArgs (topS 59)) (@FuncBody.stmts (defBody (topS 59))) (defScope (topS 59)) (nat_lit 3) [] Value.none Value.none Value.none (@Value.str (@Str.ofString "law_menuhouses_k47_look_texts_bent") (nat_lit 1038)) none (@Value.ref (nat_lit 734)) Value.none (nat_lit 0))) (.mk []))
def o736 (P : Params) : Obj := (@Obj.mk (@Value.type "tuple") none (@Data.seq (.mk []) (nat_lit 0)) (.mk []))
def o738 (P : Params) : Obj := (@Obj.mk (@Value.type "tuple") none (@Data.seq (.mk [(@Value.str (@Str.ofString "_law_said") (nat_lit 1167)), (@Value.str (@Str.ofString "_law_due") (nat_lit 1168)), (@Value.str (@Str.ofString "_law_shown") (nat_lit 1169))]) (nat_lit 0)) (.mk []))
def o739 (P : Params) : Obj := (@Obj.mk (@Value.type "tuple") none (@Data.seq (.mk [(@Value.str (@Str.ofString "_law_said") (nat_lit 1170))]) (nat_lit 0)) (.mk []))
def o741 (P : Params) : Obj := (@Obj.mk (@Value.type "code") none (@Data.fields (.mk [(@Value.str (@Str.ofString "_law_read_right") (nat_lit 1164)), (@Value.str (@Str.ofString "_law_read_right") (nat_lit 1165)), (@Value.str (@Str.ofString "/claim/cut.py") (nat_lit 1166)), (@Value.int (.ofNat (nat_lit 318)) (nat_lit 0)), (@Value.int (.ofNat (nat_lit 1)) (nat_lit 0)), (@Value.int (.ofNat (nat_lit 0)) (nat_lit 0)), (@Value.int (.ofNat (nat_lit 0)) (nat_lit 0)), (@Value.int (.ofNat (nat_lit 3)) (nat_lit 0)), (@Value.ref (nat_lit 736)), (@Value.bool true), (@Value.int (.ofNat (nat_lit 181)) (nat_lit 0)), (@Value.ref (nat_lit 737)), Value.none, (@Value.ref (nat_lit 738)), (@Value.ref (nat_lit 739)), (@Value.ref (nat_lit 740)), (@Value.int (.ofNat (nat_lit 1171)) (nat_lit 0)), (@Value.int (.ofNat (nat_lit 318)) (nat_lit 0)), (@Value.str (@Str.ofString "/claim/cut.py") (nat_lit 1172))])) (.mk []))
def o742 (P : Params) : Obj := (@Obj.mk (@Value.type "function") none (@Data.func (@FuncData.mk (@Str.ofString "_law_read_right") (@Str.ofString "_law_read_right") (defArgs (topS 60)) (@FuncBody.stmts (defBody (topS 60))) (defScope (topS 60)) (nat_lit 3) [] Value.none Value.none Value.none (@Value.str (@Str.ofString "law_menuhouses_k47_look_texts_bent") (nat_lit 1038)) none (@Value.ref (nat_lit 741)) Value.none (nat_lit 0))) (.mk []))
def o743 (P : Params) : Obj := (@Obj.mk (@Value.type "tuple") none (@Data.seq (.mk []) (nat_lit 0)) (.mk []))
def o746 (P : Params) : Obj := (@Obj.mk (@Value.type "code") none (@Data.fields (.mk [(@Value.str (@Str.ofString "_law_right") (nat_lit 1174)), (@Value.str (@Str.ofString "_law_right") (nat_lit 1175)), (@Value.str (@Str.ofString "/claim/cut.py") (nat_lit 1176)), (@Value.int (.ofNat (nat_lit 325)) (nat_lit 0)), (@Value.int (.ofNat (nat_lit 1)) (nat_lit 0)), (@Value.int (.ofNat (nat_lit 0)) (nat_lit 0)), (@Value.int (.ofNat (nat_lit 0)) (nat_lit 0)), (@Value.int (.ofNat (nat_lit 3)) (nat_lit 0)), (@Value.ref (nat_lit 743)), (@Value.bool true), (@Value.int (.ofNat (nat_lit 181)) (nat_lit 0)), (@Value.ref (nat_lit 744)), Value.none, Value.none, Value.none, (@Value.ref (nat_lit 745)), (@Value.int (.ofNat (nat_lit 1177)) (nat_lit 0)), (@Value.int (.ofNat (nat_lit 325)) (nat_lit 0)), (@Value.str (@Str.ofString "/claim/cut.py") (nat_lit 1178))])) (.mk []))
def o747 (P : Params) : Obj := (@Obj.mk (@Value.type "function") none (@Data.func (@FuncData.mk (@Str.ofString "_law_right") (@Str.ofString "_law_right") (defArgs (topS 61)) (@FuncBody.stmts (defBody (topS 61))) (defScope (topS 61)) (nat_lit 3) [] Value.none Value.none Value.none (@Value.str (@Str.ofString "law_menuhouses_k47_look_texts_bent") (nat_lit 1038)) none (@Value.ref (nat_lit 746)) Value.none (nat_lit 0))) (.mk []))
def o748 (P : Params) : Obj := (@Obj.mk (@Value.type "tuple") none (@Data.seq (.mk []) (nat_lit 0)) (.mk []))
def o751 (P : Params) : Obj := (@Obj.mk (@Value.type "code") none (@Data.fields (.mk [(@Value.str (@Str.ofString "law") (nat_lit 1180)), (@Value.str (@Str.ofString "law") (nat_lit 1181)), (@Value.str (@Str.ofString "/claim/cut.py") (nat_lit 1182)), (@Value.int (.ofNat (nat_lit 334)) (nat_lit 0)), (@Value.int (.ofNat (nat_lit 1)) (nat_lit 0)), (@Value.int (.ofNat (nat_lit 0)) (nat_lit 0)), (@Value.int (.ofNat (nat_lit 0)) (nat_lit 0)), (@Value.int (.ofNat (nat_lit 3)) (nat_lit 0)), (@Value.ref (nat_lit 748)), (@Value.bool true), (@Value.int (.ofNat (nat_lit 181)) (nat_lit 0)), (@Value.ref (nat_lit 749)), Value.none, Value.none, Value.none, (@Value.ref (nat_lit 750)), (@Value.int (.ofNat (nat_lit 1183)) (nat_lit 0)), (@Value.int (.ofNat (nat_lit 334)) (nat_lit 0)), (@Value.str (@Str.ofString "/claim/cut.py") (nat_lit 1184))])) (.mk []))
def o752 (P : Params) : Obj := (@Obj.mk (@Value.type "function") none (@Data.func (@FuncData.mk (@Str.ofString "law") (@Str.ofString "law") (defArgs (topS 62)) (@FuncBody.stmts (defBody (topS 62))) (defScope (topS 62)) (nat_lit 3) [] Value.none Value.none Value.none (@Value.str (@Str.ofString "law_menuhouses_k47_look_texts_bent") (nat_lit 1038)) none (@Value.ref (nat_lit 751)) Value.none (nat_lit 0))) (.mk []))
def T0 (P : Params) : BT := (.node (boot_o_0 P) (.node (boot_o_1 P) (.node (boot_o_3 P) (.node (boot_o_7 P) .nil .nil) (.node (o11 P) .nil .nil)) (.node (boot_o_5 P) (.node (boot_o_9 P) .nil .nil) (.node (o13 P) .nil .nil))) (.node (boot_o_2 P) (.node (boot_o_4 P) (.node (boot_o_8 P) .nil .nil) (.node (o12 P) .nil .nil)) (.node (boot_o_6 P) (.node (boot_o_10 P) .nil .nil) (.node (o14 P) .nil .nil))))
abbrev S0 (w : World) (os : OsState) : SharedT := ⟨T0 w.params, (nat_lit 15), (boot_heap w.params).life, .mk [], boot_drawn, (nat_lit 187), os⟩
def T1 (P : Params) : BT := (.node (boot_o_0 P) (.node (boot_o_1 P) (.node (boot_o_3 P) (.node (boot_o_7 P) .nil .nil) (.node (o11 P) .nil .nil)) (.node (boot_o_5 P) (.node (boot_o_9 P) .nil .nil) (.node (o13 P) .nil .nil))) (.node (boot_o_2 P) (.node (boot_o_4 P) (.node (boot_o_8 P) .nil .nil) (.node (o12 P) .nil .nil)) (.node (boot_o_6 P) (.node (boot_o_10 P) .nil .nil) (.node (o14 P) .nil .nil))))
abbrev S1 (w : World) (os : OsState) : SharedT := ⟨T1 w.params, (nat_lit 15), (boot_heap w.params).life, .mk [], boot_drawn, (nat_lit 187), os⟩
def T2 (P : Params) : BT := (.node (boot_o_0 P) (.node (boot_o_1 P) (.node (o3 P) (.node (boot_o_7 P) (.node (o15 P) (.node (o31 P) (.node (o63 P) .nil .nil) (.node (o95 P) .nil .nil)) (.node (o47 P) (.node (o79 P) .nil .nil) .nil)) (.node (o23 P) (.node (o39 P) (.node (o71 P) .nil .nil) (.node (o103 P) .nil .nil)) (.node (o55 P) (.node (o87 P) .nil .nil) .nil))) (.node (o11 P) (.node (o19 P) (.node (o35 P) (.node (o67 P) .nil .nil) (.node (o99 P) .nil .nil)) (.node (o51 P) (.node (o83 P) .nil .nil) .nil)) (.node (o27 P) (.node (o43 P) (.node (o75 P) .nil .nil) (.node (o107 P) .nil .nil)) (.node (o59 P) (.node (o91 P) .nil .nil) .nil)))) (.node (boot_o_5 P) (.node (boot_o_9 P) (.node (o17 P) (.node (o33 P) (.node (o65 P) .nil .nil) (.node (o97 P) .nil .nil)) (.node (o49 P) (.node (o81 P) .nil .nil) .nil)) (.node (o25 P) (.node (o41 P) (.node (o73 P) .nil .nil) (.node (o105 P) .nil .nil)) (.node (o57 P) (.node (o89 P) .nil .nil) .nil))) (.node (o13 P) (.node (o21 P) (.node (o37 P) (.node (o69 P) .nil .nil) (.node (o101 P) .nil .nil)) (.node (o53 P) (.node (o85 P) .nil .nil) .nil)) (.node (o29 P) (.node (o45 P) (.node (o77 P) .nil .nil) (.node (o109 P) .nil .nil)) (.node (o61 P) (.node (o93 P) .nil .nil) .nil))))) (.node (boot_o_2 P) (.node (boot_o_4 P) (.node (boot_o_8 P) (.node (o16 P) (.node (o32 P) (.node (o64 P) .nil .nil) (.node (o96 P) .nil .nil)) (.node (o48 P) (.node (o80 P) .nil .nil) .nil)) (.node (o24 P) (.node (o40 P) (.node (o72 P) .nil .nil) (.node (o104 P) .nil .nil)) (.node (o56 P) (.node (o88 P) .nil .nil) .nil))) (.node (o12v1 P) (.node (o20 P) (.node (o36 P) (.node (o68 P) .nil .nil) (.node (o100 P) .nil .nil)) (.node (o52 P) (.node (o84 P) .nil .nil) .nil)) (.node (o28 P) (.node (o44 P) (.node (o76 P) .nil .nil) (.node (o108 P) .nil .nil)) (.node (o60 P) (.node (o92 P) .nil .nil) .nil)))) (.node (boot_o_6 P) (.node (boot_o_10 P) (.node (o18 P) (.node (o34 P) (.node (o66 P) .nil .nil) (.node (o98 P) .nil .nil)) (.node (o50 P) (.node (o82 P) .nil .nil) .nil)) (.node (o26 P) (.node (o42 P) (.node (o74 P) .nil .nil) (.node (o106 P) .nil .nil)) (.node (o58 P) (.node (o90 P) .nil .nil) .nil))) (.node (o14 P) (.node (o22 P) (.node (o38 P) (.node (o70 P) .nil .nil) (.node (o102 P) .nil .nil)) (.node (o54 P) (.node (o86 P) .nil .nil) .nil)) (.node (o30 P) (.node (o46 P) (.node (o78 P) .nil .nil) (.node (o110 P) .nil .nil)) (.node (o62 P) (.node (o94 P) .nil .nil) .nil))))))
abbrev S2 (w : World) (os : OsState) : SharedT := ⟨T2 w.params, (nat_lit 111), (boot_heap w.params).life, .mk [], boot_drawn, (nat_lit 314), os⟩
def T3 (P : Params) : BT := (.node (boot_o_0 P) (.node (boot_o_1 P) (.node (o3v1 P) (.node (boot_o_7 P) (.node (o15 P) (.node (o31v1 P) (.node (o63 P) (.node (o127 P) .nil .nil) (.node (o191 P) .nil .nil)) (.node (o95 P) (.node (o159 P) .nil .nil) .nil)) (.node (o47 P) (.node (o79 P) (.node (o143 P) .nil .nil) .nil) (.node (o111 P) (.node (o175 P) .nil .nil) .nil))) (.node (o23 P) (.node (o39 P) (.node (o71 P) (.node (o135 P) .nil .nil) (.node (o199 P) .nil .nil)) (.node (o103 P) (.node (o167 P) .nil .nil) .nil)) (.node (o55 P) (.node (o87 P) (.node (o151 P) .nil .nil) .nil) (.node (o119 P) (.node (o183 P) .nil .nil) .nil)))) (.node (o11 P) (.node (o19 P) (.node (o35 P) (.node (o67 P) (.node (o131 P) .nil .nil) (.node (o195 P) .nil .nil)) (.node (o99 P) (.node (o163 P) .nil .nil) .nil)) (.node (o51 P) (.node (o83 P) (.node (o147 P) .nil .nil) .nil) (.node (o115 P) (.node (o179 P) .nil .nil) .nil))) (.node (o27 P) (.node (o43 P) (.node (o75 P) (.node (o139 P) .nil .nil) (.node (o203 P) .nil .nil)) (.node (o107 P) (.node (o171 P) .nil .nil) .nil)) (.node (o59 P) (.node (o91 P) (.node (o155 P) .nil .nil) .nil) (.node (o123 P) (.node (o187 P) .nil .nil) .nil))))) (.node (boot_o_5 P) (.node (boot_o_9 P) (.node (o17 P) (.node (o33 P) (.node (o65 P) (.node (o129 P) .nil .nil) (.node (o193 P) .nil .nil)) (.node (o97 P) (.node (o161 P) .nil .nil) .nil)) (.node (o49 P) (.node (o81 P) (.node (o145 P) .nil .nil) .nil) (.node (o113 P) (.node (o177 P) .nil .nil) .nil))) (.node (o25 P) (.node (o41 P) (.node (o73 P) (.node (o137 P) .nil .nil) (.node (o201 P) .nil .nil)) (.node (o105 P) (.node (o169 P) .nil .nil) .nil)) (.node (o57 P) (.node (o89 P) (.node (o153 P) .nil .nil) .nil) (.node (o121 P) (.node (o185 P) .nil .nil) .nil)))) (.node (o13 P) (.node (o21 P) (.node (o37 P) (.node (o69 P) (.node (o133 P) .nil .nil) (.node (o197 P) .nil .nil)) (.node (o101 P) (.node (o165 P) .nil .nil) .nil)) (.node (o53 P) (.node (o85 P) (.node (o149 P) .nil .nil) .nil) (.node (o117 P) (.node (o181 P) .nil .nil) .nil))) (.node (o29 P) (.node (o45 P) (.node (o77 P) (.node (o141 P) .nil .nil) (.node (o205 P) .nil .nil)) (.node (o109 P) (.node (o173 P) .nil .nil) .nil)) (.node (o61 P) (.node (o93 P) (.node (o157 P) .nil .nil) .nil) (.node (o125 P) (.node (o189 P) .nil .nil) .nil)))))) (.node (boot_o_2 P) (.node (boot_o_4 P) (.node (boot_o_8 P) (.node (o16 P) (.node (o32 P) (.node (o64 P) (.node (o128 P) .nil .nil) (.node (o192 P) .nil .nil)) (.node (o96 P) (.node (o160 P) .nil .nil) .nil)) (.node (o48 P) (.node (o80 P) (.node (o144 P) .nil .nil) .nil) (.node (o112 P) (.node (o176 P) .nil .nil) .nil))) (.node (o24 P) (.node (o40 P) (.node (o72 P) (.node (o136 P) .nil .nil) (.node (o200 P) .nil .nil)) (.node (o104 P) (.node (o168 P) .nil .nil) .nil)) (.node (o56 P) (.node (o88 P) (.node (o152 P) .nil .nil) .nil) (.node (o120 P) (.node (o184 P) .nil .nil) .nil)))) (.node (o12v2 P) (.node (o20 P) (.node (o36 P) (.node (o68 P) (.node (o132 P) .nil .nil) (.node (o196 P) .nil .nil)) (.node (o100 P) (.node (o164 P) .nil .nil) .nil)) (.node (o52 P) (.node (o84 P) (.node (o148 P) .nil .nil) .nil) (.node (o116 P) (.node (o180 P) .nil .nil) .nil))) (.node (o28 P) (.node (o44 P) (.node (o76 P) (.node (o140 P) .nil .nil) (.node (o204 P) .nil .nil)) (.node (o108 P) (.node (o172 P) .nil .nil) .nil)) (.node (o60 P) (.node (o92 P) (.node (o156 P) .nil .nil) .nil) (.node (o124 P) (.node (o188 P) .nil .nil) .nil))))) (.node (boot_o_6 P) (.node (boot_o_10 P) (.node (o18 P) (.node (o34 P) (.node (o66 P) (.node (o130 P) .nil .nil) (.node (o194 P) .nil .nil)) (.node (o98 P) (.node (o162 P) .nil .nil) .nil)) (.node (o50 P) (.node (o82 P) (.node (o146 P) .nil .nil) .nil) (.node (o114 P) (.node (o178 P) .nil .nil) .nil))) (.node (o26 P) (.node (o42 P) (.node (o74 P) (.node (o138 P) .nil .nil) (.node (o202 P) .nil .nil)) (.node (o106 P) (.node (o170 P) .nil .nil) .nil)) (.node (o58 P) (.node (o90 P) (.node (o154 P) .nil .nil) .nil) (.node (o122 P) (.node (o186 P) .nil .nil) .nil)))) (.node (o14 P) (.node (o22 P) (.node (o38 P) (.node (o70 P) (.node (o134 P) .nil .nil) (.node (o198 P) .nil .nil)) (.node (o102 P) (.node (o166 P) .nil .nil) .nil)) (.node (o54 P) (.node (o86 P) (.node (o150 P) .nil .nil) .nil) (.node (o118 P) (.node (o182 P) .nil .nil) .nil))) (.node (o30 P) (.node (o46 P) (.node (o78 P) (.node (o142 P) .nil .nil) .nil) (.node (o110 P) (.node (o174 P) .nil .nil) .nil)) (.node (o62 P) (.node (o94 P) (.node (o158 P) .nil .nil) .nil) (.node (o126 P) (.node (o190 P) .nil .nil) .nil)))))))
abbrev S3 (w : World) (os : OsState) : SharedT := ⟨T3 w.params, (nat_lit 206), (boot_heap w.params).life, .mk [], boot_drawn, (nat_lit 439), os⟩
def T4 (P : Params) : BT := (.node (boot_o_0 P) (.node (boot_o_1 P) (.node (o3v2 P) (.node (boot_o_7 P) (.node (o15 P) (.node (o31v2 P) (.node (o63 P) (.node (o127 P) (.node (o255 P) .nil .nil) .nil) (.node (o191 P) .nil .nil)) (.node (o95 P) (.node (o159 P) (.node (o287 P) .nil .nil) .nil) (.node (o223 P) .nil .nil))) (.node (o47 P) (.node (o79 P) (.node (o143 P) (.node (o271 P) .nil .nil) .nil) (.node (o207 P) .nil .nil)) (.node (o111 P) (.node (o175 P) .nil .nil) (.node (o239 P) .nil .nil)))) (.node (o23 P) (.node (o39 P) (.node (o71 P) (.node (o135 P) (.node (o263 P) .nil .nil) .nil) (.node (o199 P) .nil .nil)) (.node (o103 P) (.node (o167 P) (.node (o295 P) .nil .nil) .nil) (.node (o231 P) .nil .nil))) (.node (o55 P) (.node (o87 P) (.node (o151 P) (.node (o279 P) .nil .nil) .nil) (.node (o215 P) .nil .nil)) (.node (o119 P) (.node (o183 P) .nil .nil) (.node (o247 P) .nil .nil))))) (.node (o11 P) (.node (o19 P) (.node (o35 P) (.node (o67 P) (.node (o131 P) (.node (o259 P) .nil .nil) .nil) (.node (o195 P) .nil .nil)) (.node (o99 P) (.node (o163 P) (.node (o291 P) .nil .nil) .nil) (.node (o227 P) .nil .nil))) (.node (o51 P) (.node (o83 P) (.node (o147 P) (.node (o275 P) .nil .nil) .nil) (.node (o211 P) .nil .nil)) (.node (o115 P) (.node (o179 P) .nil .nil) (.node (o243 P) .nil .nil)))) (.node (o27 P) (.node (o43 P) (.node (o75 P) (.node (o139 P) (.node (o267 P) .nil .nil) .nil) (.node (o203 P) .nil .nil)) (.node (o107 P) (.node (o171 P) (.node (o299 P) .nil .nil) .nil) (.node (o235 P) .nil .nil))) (.node (o59 P) (.node (o91 P) (.node (o155 P) (.node (o283 P) .nil .nil) .nil) (.node (o219 P) .nil .nil)) (.node (o123 P) (.node (o187 P) .nil .nil) (.node (o251 P) .nil .nil)))))) (.node (boot_o_5 P) (.node (boot_o_9 P) (.node (o17 P) (.node (o33 P) (.node (o65 P) (.node (o129 P) (.node (o257 P) .nil .nil) .nil) (.node (o193 P) .nil .nil)) (.node (o97 P) (.node (o161 P) (.node (o289 P) .nil .nil) .nil) (.node (o225 P) .nil .nil))) (.node (o49 P) (.node (o81 P) (.node (o145 P) (.node (o273 P) .nil .nil) .nil) (.node (o209 P) .nil .nil)) (.node (o113 P) (.node (o177 P) .nil .nil) (.node (o241 P) .nil .nil)))) (.node (o25 P) (.node (o41 P) (.node (o73 P) (.node (o137 P) (.node (o265 P) .nil .nil) .nil) (.node (o201 P) .nil .nil)) (.node (o105 P) (.node (o169 P) (.node (o297 P) .nil .nil) .nil) (.node (o233 P) .nil .nil))) (.node (o57 P) (.node (o89 P) (.node (o153 P) (.node (o281 P) .nil .nil) .nil) (.node (o217 P) .nil .nil)) (.node (o121 P) (.node (o185 P) .nil .nil) (.node (o249 P) .nil .nil))))) (.node (o13 P) (.node (o21 P) (.node (o37 P) (.node (o69 P) (.node (o133 P) (.node (o261 P) .nil .nil) .nil) (.node (o197 P) .nil .nil)) (.node (o101 P) (.node (o165 P) (.node (o293 P) .nil .nil) .nil) (.node (o229 P) .nil .nil))) (.node (o53 P) (.node (o85 P) (.node (o149 P) (.node (o277 P) .nil .nil) .nil) (.node (o213 P) .nil .nil)) (.node (o117 P) (.node (o181 P) .nil .nil) (.node (o245 P) .nil .nil)))) (.node (o29 P) (.node (o45 P) (.node (o77 P) (.node (o141 P) (.node (o269 P) .nil .nil) .nil) (.node (o205 P) .nil .nil)) (.node (o109 P) (.node (o173 P) .nil .nil) (.node (o237 P) .nil .nil))) (.node (o61 P) (.node (o93 P) (.node (o157 P) (.node (o285 P) .nil .nil) .nil) (.node (o221 P) .nil .nil)) (.node (o125 P) (.node (o189 P) .nil .nil) (.node (o253 P) .nil .nil))))))) (.node (boot_o_2 P) (.node (boot_o_4 P) (.node (boot_o_8 P) (.node (o16 P) (.node (o32 P) (.node (o64 P) (.node (o128 P) (.node (o256 P) .nil .nil) .nil) (.node (o192 P) .nil .nil)) (.node (o96 P) (.node (o160 P) (.node (o288 P) .nil .nil) .nil) (.node (o224 P) .nil .nil))) (.node (o48 P) (.node (o80 P) (.node (o144 P) (.node (o272 P) .nil .nil) .nil) (.node (o208 P) .nil .nil)) (.node (o112 P) (.node (o176 P) .nil .nil) (.node (o240 P) .nil .nil)))) (.node (o24 P) (.node (o40 P) (.node (o72 P) (.node (o136 P) (.node (o264 P) .nil .nil) .nil) (.node (o200 P) .nil .nil)) (.node (o104 P) (.node (o168 P) (.node (o296 P) .nil .nil) .nil) (.node (o232 P) .nil .nil))) (.node (o56 P) (.node (o88 P) (.node (o152 P) (.node (o280 P) .nil .nil) .nil) (.node (o216 P) .nil .nil)) (.node (o120 P) (.node (o184 P) .nil .nil) (.node (o248 P) .nil .nil))))) (.node (o12v3 P) (.node (o20 P) (.node (o36 P) (.node (o68 P) (.node (o132 P) (.node (o260 P) .nil .nil) .nil) (.node (o196 P) .nil .nil)) (.node (o100 P) (.node (o164 P) (.node (o292 P) .nil .nil) .nil) (.node (o228 P) .nil .nil))) (.node (o52 P) (.node (o84 P) (.node (o148 P) (.node (o276 P) .nil .nil) .nil) (.node (o212 P) .nil .nil)) (.node (o116 P) (.node (o180 P) .nil .nil) (.node (o244 P) .nil .nil)))) (.node (o28 P) (.node (o44 P) (.node (o76 P) (.node (o140 P) (.node (o268 P) .nil .nil) .nil) (.node (o204 P) .nil .nil)) (.node (o108 P) (.node (o172 P) (.node (o300 P) .nil .nil) .nil) (.node (o236 P) .nil .nil))) (.node (o60 P) (.node (o92 P) (.node (o156 P) (.node (o284 P) .nil .nil) .nil) (.node (o220 P) .nil .nil)) (.node (o124 P) (.node (o188 P) .nil .nil) (.node (o252 P) .nil .nil)))))) (.node (boot_o_6 P) (.node (boot_o_10 P) (.node (o18 P) (.node (o34 P) (.node (o66 P) (.node (o130 P) (.node (o258 P) .nil .nil) .nil) (.node (o194 P) .nil .nil)) (.node (o98 P) (.node (o162 P) (.node (o290 P) .nil .nil) .nil) (.node (o226 P) .nil .nil))) (.node (o50 P) (.node (o82 P) (.node (o146 P) (.node (o274 P) .nil .nil) .nil) (.node (o210 P) .nil .nil)) (.node (o114 P) (.node (o178 P) .nil .nil) (.node (o242 P) .nil .nil)))) (.node (o26 P) (.node (o42 P) (.node (o74 P) (.node (o138 P) (.node (o266 P) .nil .nil) .nil) (.node (o202 P) .nil .nil)) (.node (o106 P) (.node (o170 P) (.node (o298 P) .nil .nil) .nil) (.node (o234 P) .nil .nil))) (.node (o58 P) (.node (o90 P) (.node (o154 P) (.node (o282 P) .nil .nil) .nil) (.node (o218 P) .nil .nil)) (.node (o122 P) (.node (o186 P) .nil .nil) (.node (o250 P) .nil .nil))))) (.node (o14 P) (.node (o22 P) (.node (o38 P) (.node (o70 P) (.node (o134 P) (.node (o262 P) .nil .nil) .nil) (.node (o198 P) .nil .nil)) (.node (o102 P) (.node (o166 P) (.node (o294 P) .nil .nil) .nil) (.node (o230 P) .nil .nil))) (.node (o54 P) (.node (o86 P) (.node (o150 P) (.node (o278 P) .nil .nil) .nil) (.node (o214 P) .nil .nil)) (.node (o118 P) (.node (o182 P) .nil .nil) (.node (o246 P) .nil .nil)))) (.node (o30 P) (.node (o46 P) (.node (o78 P) (.node (o142 P) (.node (o270 P) .nil .nil) .nil) (.node (o206 P) .nil .nil)) (.node (o110 P) (.node (o174 P) .nil .nil) (.node (o238 P) .nil .nil))) (.node (o62 P) (.node (o94 P) (.node (o158 P) (.node (o286 P) .nil .nil) .nil) (.node (o222 P) .nil .nil)) (.node (o126 P) (.node (o190 P) .nil .nil) (.node (o254 P) .nil .nil))))))))
abbrev S4 (w : World) (os : OsState) : SharedT := ⟨T4 w.params, (nat_lit 301), (boot_heap w.params).life, .mk [], boot_drawn, (nat_lit 564), os⟩
def T5 (P : Params) : BT := (.node (boot_o_0 P) (.node (boot_o_1 P) (.node (o3v3 P) (.node (boot_o_7 P) (.node (o15 P) (.node (o31v3 P) (.node (o63 P) (.node (o127 P) (.node (o255 P) .nil .nil) (.node (o383 P) .nil .nil)) (.node (o191 P) (.node (o319 P) .nil .nil) .nil)) (.node (o95 P) (.node (o159 P) (.node (o287 P) .nil .nil) .nil) (.node (o223 P) (.node (o351 P) .nil .nil) .nil))) (.node (o47 P) (.node (o79 P) (.node (o143 P) (.node (o271 P) .nil .nil) .nil) (.node (o207 P) (.node (o335 P) .nil .nil) .nil)) (.node (o111 P) (.node (o175 P) (.node (o303 P) .nil .nil) .nil) (.node (o239 P) (.node (o367 P) .nil .nil) .nil)))) (.node (o23 P) (.node (o39 P) (.node (o71 P) (.node (o135 P) (.node (o263 P) .nil .nil) .nil) (.node (o199 P) (.node (o327 P) .nil .nil) .nil)) (.node (o103 P) (.node (o167 P) (.node (o295 P) .nil .nil) .nil) (.node (o231 P) (.node (o359 P) .nil .nil) .nil))) (.node (o55 P) (.node (o87 P) (.node (o151 P) (.node (o279 P) .nil .nil) .nil) (.node (o215 P) (.node (o343 P) .nil .nil) .nil)) (.node (o119 P) (.node (o183 P) (.node (o311 P) .nil .nil) .nil) (.node (o247 P) (.node (o375 P) .nil .nil) .nil))))) (.node (o11 P) (.node (o19 P) (.node (o35 P) (.node (o67 P) (.node (o131 P) (.node (o259 P) .nil .nil) .nil) (.node (o195 P) (.node (o323 P) .nil .nil) .nil)) (.node (o99 P) (.node (o163 P) (.node (o291 P) .nil .nil) .nil) (.node (o227 P) (.node (o355 P) .nil .nil) .nil))) (.node (o51 P) (.node (o83 P) (.node (o147 P) (.node (o275 P) .nil .nil) .nil) (.node (o211 P) (.node (o339 P) .nil .nil) .nil)) (.node (o115 P) (.node (o179 P) (.node (o307 P) .nil .nil) .nil) (.node (o243 P) (.node (o371 P) .nil .nil) .nil)))) (.node (o27 P) (.node (o43 P) (.node (o75 P) (.node (o139 P) (.node (o267 P) .nil .nil) .nil) (.node (o203 P) (.node (o331 P) .nil .nil) .nil)) (.node (o107 P) (.node (o171 P) (.node (o299 P) .nil .nil) .nil) (.node (o235 P) (.node (o363 P) .nil .nil) .nil))) (.node (o59 P) (.node (o91 P) (.node (o155 P) (.node (o283 P) .nil .nil) .nil) (.node (o219 P) (.node (o347 P) .nil .nil) .nil)) (.node (o123 P) (.node (o187 P) (.node (o315 P) .nil .nil) .nil) (.node (o251 P) (.node (o379 P) .nil .nil) .nil)))))) (.node (boot_o_5 P) (.node (boot_o_9 P) (.node (o17 P) (.node (o33 P) (.node (o65 P) (.node (o129 P) (.node (o257 P) .nil .nil) .nil) (.node (o193 P) (.node (o321 P) .nil .nil) .nil)) (.node (o97 P) (.node (o161 P) (.node (o289 P) .nil .nil) .nil) (.node (o225 P) (.node (o353 P) .nil .nil) .nil))) (.node (o49 P) (.node (o81 P) (.node (o145 P) (.node (o273 P) .nil .nil) .nil) (.node (o209 P) (.node (o337 P) .nil .nil) .nil)) (.node (o113 P) (.node (o177 P) (.node (o305 P) .nil .nil) .nil) (.node (o241 P) (.node (o369 P) .nil .nil) .nil)))) (.node (o25 P) (.node (o41 P) (.node (o73 P) (.node (o137 P) (.node (o265 P) .nil .nil) .nil) (.node (o201 P) (.node (o329 P) .nil .nil) .nil)) (.node (o105 P) (.node (o169 P) (.node (o297 P) .nil .nil) .nil) (.node (o233 P) (.node (o361 P) .nil .nil) .nil))) (.node (o57 P) (.node (o89 P) (.node (o153 P) (.node (o281 P) .nil .nil) .nil) (.node (o217 P) (.node (o345 P) .nil .nil) .nil)) (.node (o121 P) (.node (o185 P) (.node (o313 P) .nil .nil) .nil) (.node (o249 P) (.node (o377 P) .nil .nil) .nil))))) (.node (o13 P) (.node (o21 P) (.node (o37 P) (.node (o69 P) (.node (o133 P) (.node (o261 P) .nil .nil) .nil) (.node (o197 P) (.node (o325 P) .nil .nil) .nil)) (.node (o101 P) (.node (o165 P) (.node (o293 P) .nil .nil) .nil) (.node (o229 P) (.node (o357 P) .nil .nil) .nil))) (.node (o53 P) (.node (o85 P) (.node (o149 P) (.node (o277 P) .nil .nil) .nil) (.node (o213 P) (.node (o341 P) .nil .nil) .nil)) (.node (o117 P) (.node (o181 P) (.node (o309 P) .nil .nil) .nil) (.node (o245 P) (.node (o373 P) .nil .nil) .nil)))) (.node (o29 P) (.node (o45 P) (.node (o77 P) (.node (o141 P) (.node (o269 P) .nil .nil) .nil) (.node (o205 P) (.node (o333 P) .nil .nil) .nil)) (.node (o109 P) (.node (o173 P) (.node (o301 P) .nil .nil) .nil) (.node (o237 P) (.node (o365 P) .nil .nil) .nil))) (.node (o61 P) (.node (o93 P) (.node (o157 P) (.node (o285 P) .nil .nil) .nil) (.node (o221 P) (.node (o349 P) .nil .nil) .nil)) (.node (o125 P) (.node (o189 P) (.node (o317 P) .nil .nil) .nil) (.node (o253 P) (.node (o381 P) .nil .nil) .nil))))))) (.node (o2 P) (.node (boot_o_4 P) (.node (boot_o_8 P) (.node (o16 P) (.node (o32 P) (.node (o64 P) (.node (o128 P) (.node (o256 P) .nil .nil) .nil) (.node (o192 P) (.node (o320 P) .nil .nil) .nil)) (.node (o96 P) (.node (o160 P) (.node (o288 P) .nil .nil) .nil) (.node (o224 P) (.node (o352 P) .nil .nil) .nil))) (.node (o48 P) (.node (o80 P) (.node (o144 P) (.node (o272 P) .nil .nil) .nil) (.node (o208 P) (.node (o336 P) .nil .nil) .nil)) (.node (o112 P) (.node (o176 P) (.node (o304 P) .nil .nil) .nil) (.node (o240 P) (.node (o368 P) .nil .nil) .nil)))) (.node (o24 P) (.node (o40 P) (.node (o72 P) (.node (o136 P) (.node (o264 P) .nil .nil) .nil) (.node (o200 P) (.node (o328 P) .nil .nil) .nil)) (.node (o104 P) (.node (o168 P) (.node (o296 P) .nil .nil) .nil) (.node (o232 P) (.node (o360 P) .nil .nil) .nil))) (.node (o56 P) (.node (o88 P) (.node (o152 P) (.node (o280 P) .nil .nil) .nil) (.node (o216 P) (.node (o344 P) .nil .nil) .nil)) (.node (o120 P) (.node (o184 P) (.node (o312 P) .nil .nil) .nil) (.node (o248 P) (.node (o376 P) .nil .nil) .nil))))) (.node (o12v4 P) (.node (o20 P) (.node (o36 P) (.node (o68 P) (.node (o132 P) (.node (o260 P) .nil .nil) .nil) (.node (o196 P) (.node (o324 P) .nil .nil) .nil)) (.node (o100 P) (.node (o164 P) (.node (o292 P) .nil .nil) .nil) (.node (o228 P) (.node (o356 P) .nil .nil) .nil))) (.node (o52 P) (.node (o84 P) (.node (o148 P) (.node (o276 P) .nil .nil) .nil) (.node (o212 P) (.node (o340 P) .nil .nil) .nil)) (.node (o116 P) (.node (o180 P) (.node (o308 P) .nil .nil) .nil) (.node (o244 P) (.node (o372 P) .nil .nil) .nil)))) (.node (o28 P) (.node (o44 P) (.node (o76 P) (.node (o140 P) (.node (o268 P) .nil .nil) .nil) (.node (o204 P) (.node (o332 P) .nil .nil) .nil)) (.node (o108 P) (.node (o172 P) (.node (o300 P) .nil .nil) .nil) (.node (o236 P) (.node (o364 P) .nil .nil) .nil))) (.node (o60 P) (.node (o92 P) (.node (o156 P) (.node (o284 P) .nil .nil) .nil) (.node (o220 P) (.node (o348 P) .nil .nil) .nil)) (.node (o124 P) (.node (o188 P) (.node (o316 P) .nil .nil) .nil) (.node (o252 P) (.node (o380 P) .nil .nil) .nil)))))) (.node (boot_o_6 P) (.node (boot_o_10 P) (.node (o18 P) (.node (o34 P) (.node (o66 P) (.node (o130 P) (.node (o258 P) .nil .nil) .nil) (.node (o194 P) (.node (o322 P) .nil .nil) .nil)) (.node (o98 P) (.node (o162 P) (.node (o290 P) .nil .nil) .nil) (.node (o226 P) (.node (o354 P) .nil .nil) .nil))) (.node (o50 P) (.node (o82 P) (.node (o146 P) (.node (o274 P) .nil .nil) .nil) (.node (o210 P) (.node (o338 P) .nil .nil) .nil)) (.node (o114 P) (.node (o178 P) (.node (o306 P) .nil .nil) .nil) (.node (o242 P) (.node (o370 P) .nil .nil) .nil)))) (.node (o26 P) (.node (o42 P) (.node (o74 P) (.node (o138 P) (.node (o266 P) .nil .nil) .nil) (.node (o202 P) (.node (o330 P) .nil .nil) .nil)) (.node (o106 P) (.node (o170 P) (.node (o298 P) .nil .nil) .nil) (.node (o234 P) (.node (o362 P) .nil .nil) .nil))) (.node (o58 P) (.node (o90 P) (.node (o154 P) (.node (o282 P) .nil .nil) .nil) (.node (o218 P) (.node (o346 P) .nil .nil) .nil)) (.node (o122 P) (.node (o186 P) (.node (o314 P) .nil .nil) .nil) (.node (o250 P) (.node (o378 P) .nil .nil) .nil))))) (.node (o14 P) (.node (o22 P) (.node (o38 P) (.node (o70 P) (.node (o134 P) (.node (o262 P) .nil .nil) .nil) (.node (o198 P) (.node (o326 P) .nil .nil) .nil)) (.node (o102 P) (.node (o166 P) (.node (o294 P) .nil .nil) .nil) (.node (o230 P) (.node (o358 P) .nil .nil) .nil))) (.node (o54 P) (.node (o86 P) (.node (o150 P) (.node (o278 P) .nil .nil) .nil) (.node (o214 P) (.node (o342 P) .nil .nil) .nil)) (.node (o118 P) (.node (o182 P) (.node (o310 P) .nil .nil) .nil) (.node (o246 P) (.node (o374 P) .nil .nil) .nil)))) (.node (o30 P) (.node (o46 P) (.node (o78 P) (.node (o142 P) (.node (o270 P) .nil .nil) .nil) (.node (o206 P) (.node (o334 P) .nil .nil) .nil)) (.node (o110 P) (.node (o174 P) (.node (o302 P) .nil .nil) .nil) (.node (o238 P) (.node (o366 P) .nil .nil) .nil))) (.node (o62 P) (.node (o94 P) (.node (o158 P) (.node (o286 P) .nil .nil) .nil) (.node (o222 P) (.node (o350 P) .nil .nil) .nil)) (.node (o126 P) (.node (o190 P) (.node (o318 P) .nil .nil) .nil) (.node (o254 P) (.node (o382 P) .nil .nil) .nil))))))))
abbrev S5 (w : World) (os : OsState) : SharedT := ⟨T5 w.params, (nat_lit 384), (boot_heap w.params).life, .mk [], boot_drawn, (nat_lit 677), os⟩
def T6 (P : Params) : BT := (.node (boot_o_0 P) (.node (boot_o_1 P) (.node (o3v4 P) (.node (boot_o_7 P) (.node (o15 P) (.node (o31v3 P) (.node (o63 P) (.node (o127 P) (.node (o255 P) .nil .nil) (.node (o383 P) .nil .nil)) (.node (o191 P) (.node (o319 P) .nil .nil) (.node (o447 P) .nil .nil))) (.node (o95 P) (.node (o159 P) (.node (o287 P) .nil .nil) (.node (o415 P) .nil .nil)) (.node (o223 P) (.node (o351 P) .nil .nil) .nil))) (.node (o47 P) (.node (o79 P) (.node (o143 P) (.node (o271 P) .nil .nil) (.node (o399 P) .nil .nil)) (.node (o207 P) (.node (o335 P) .nil .nil) (.node (o463 P) .nil .nil))) (.node (o111 P) (.node (o175 P) (.node (o303 P) .nil .nil) (.node (o431 P) .nil .nil)) (.node (o239 P) (.node (o367 P) .nil .nil) .nil)))) (.node (o23 P) (.node (o39 P) (.node (o71 P) (.node (o135 P) (.node (o263 P) .nil .nil) (.node (o391 P) .nil .nil)) (.node (o199 P) (.node (o327 P) .nil .nil) (.node (o455 P) .nil .nil))) (.node (o103 P) (.node (o167 P) (.node (o295 P) .nil .nil) (.node (o423 P) .nil .nil)) (.node (o231 P) (.node (o359 P) .nil .nil) .nil))) (.node (o55 P) (.node (o87 P) (.node (o151 P) (.node (o279 P) .nil .nil) (.node (o407 P) .nil .nil)) (.node (o215 P) (.node (o343 P) .nil .nil) (.node (o471 P) .nil .nil))) (.node (o119 P) (.node (o183 P) (.node (o311 P) .nil .nil) (.node (o439 P) .nil .nil)) (.node (o247 P) (.node (o375 P) .nil .nil) .nil))))) (.node (o11 P) (.node (o19 P) (.node (o35 P) (.node (o67 P) (.node (o131 P) (.node (o259 P) .nil .nil) (.node (o387 P) .nil .nil)) (.node (o195 P) (.node (o323 P) .nil .nil) (.node (o451 P) .nil .nil))) (.node (o99 P) (.node (o163 P) (.node (o291 P) .nil .nil) (.node (o419 P) .nil .nil)) (.node (o227 P) (.node (o355 P) .nil .nil) .nil))) (.node (o51 P) (.node (o83 P) (.node (o147 P) (.node (o275 P) .nil .nil) (.node (o403 P) .nil .nil)) (.node (o211 P) (.node (o339 P) .nil .nil) (.node (o467 P) .nil .nil))) (.node (o115 P) (.node (o179 P) (.node (o307 P) .nil .nil) (.node (o435 P) .nil .nil)) (.node (o243 P) (.node (o371 P) .nil .nil) .nil)))) (.node (o27 P) (.node (o43 P) (.node (o75 P) (.node (o139 P) (.node (o267 P) .nil .nil) (.node (o395 P) .nil .nil)) (.node (o203 P) (.node (o331 P) .nil .nil) (.node (o459 P) .nil .nil))) (.node (o107 P) (.node (o171 P) (.node (o299 P) .nil .nil) (.node (o427 P) .nil .nil)) (.node (o235 P) (.node (o363 P) .nil .nil) .nil))) (.node (o59 P) (.node (o91 P) (.node (o155 P) (.node (o283 P) .nil .nil) (.node (o411 P) .nil .nil)) (.node (o219 P) (.node (o347 P) .nil .nil) (.node (o475 P) .nil .nil))) (.node (o123 P) (.node (o187 P) (.node (o315 P) .nil .nil) (.node (o443 P) .nil .nil)) (.node (o251 P) (.node (o379 P) .nil .nil) .nil)))))) (.node (boot_o_5 P) (.node (boot_o_9 P) (.node (o17 P) (.node (o33 P) (.node (o65 P) (.node (o129 P) (.node (o257 P) .nil .nil) (.node (o385 P) .nil .nil)) (.node (o193 P) (.node (o321 P) .nil .nil) (.node (o449 P) .nil .nil))) (.node (o97 P) (.node (o161 P) (.node (o289 P) .nil .nil) (.node (o417 P) .nil .nil)) (.node (o225 P) (.node (o353 P) .nil .nil) .nil))) (.node (o49 P) (.node (o81 P) (.node (o145 P) (.node (o273 P) .nil .nil) (.node (o401 P) .nil .nil)) (.node (o209 P) (.node (o337 P) .nil .nil) (.node (o465 P) .nil .nil))) (.node (o113 P) (.node (o177 P) (.node (o305 P) .nil .nil) (.node (o433 P) .nil .nil)) (.node (o241 P) (.node (o369 P) .nil .nil) .nil)))) (.node (o25 P) (.node (o41 P) (.node (o73 P) (.node (o137 P) (.node (o265 P) .nil .nil) (.node (o393 P) .nil .nil)) (.node (o201 P) (.node (o329 P) .nil .nil) (.node (o457 P) .nil .nil))) (.node (o105 P) (.node (o169 P) (.node (o297 P) .nil .nil) (.node (o425 P) .nil .nil)) (.node (o233 P) (.node (o361 P) .nil .nil) .nil))) (.node (o57 P) (.node (o89 P) (.node (o153 P) (.node (o281 P) .nil .nil) (.node (o409 P) .nil .nil)) (.node (o217 P) (.node (o345 P) .nil .nil) (.node (o473 P) .nil .nil))) (.node (o121 P) (.node (o185 P) (.node (o313 P) .nil .nil) (.node (o441 P) .nil .nil)) (.node (o249 P) (.node (o377 P) .nil .nil) .nil))))) (.node (o13 P) (.node (o21 P) (.node (o37 P) (.node (o69 P) (.node (o133 P) (.node (o261 P) .nil .nil) (.node (o389 P) .nil .nil)) (.node (o197 P) (.node (o325 P) .nil .nil) (.node (o453 P) .nil .nil))) (.node (o101 P) (.node (o165 P) (.node (o293 P) .nil .nil) (.node (o421 P) .nil .nil)) (.node (o229 P) (.node (o357 P) .nil .nil) .nil))) (.node (o53 P) (.node (o85 P) (.node (o149 P) (.node (o277 P) .nil .nil) (.node (o405 P) .nil .nil)) (.node (o213 P) (.node (o341 P) .nil .nil) (.node (o469 P) .nil .nil))) (.node (o117 P) (.node (o181 P) (.node (o309 P) .nil .nil) (.node (o437 P) .nil .nil)) (.node (o245 P) (.node (o373 P) .nil .nil) .nil)))) (.node (o29 P) (.node (o45 P) (.node (o77 P) (.node (o141 P) (.node (o269 P) .nil .nil) (.node (o397 P) .nil .nil)) (.node (o205 P) (.node (o333 P) .nil .nil) (.node (o461 P) .nil .nil))) (.node (o109 P) (.node (o173 P) (.node (o301 P) .nil .nil) (.node (o429 P) .nil .nil)) (.node (o237 P) (.node (o365 P) .nil .nil) .nil))) (.node (o61 P) (.node (o93 P) (.node (o157 P) (.node (o285 P) .nil .nil) (.node (o413 P) .nil .nil)) (.node (o221 P) (.node (o349 P) .nil .nil) (.node (o477 P) .nil .nil))) (.node (o125 P) (.node (o189 P) (.node (o317 P) .nil .nil) (.node (o445 P) .nil .nil)) (.node (o253 P) (.node (o381 P) .nil .nil) .nil))))))) (.node (o2 P) (.node (boot_o_4 P) (.node (boot_o_8 P) (.node (o16 P) (.node (o32 P) (.node (o64 P) (.node (o128 P) (.node (o256 P) .nil .nil) (.node (o384 P) .nil .nil)) (.node (o192 P) (.node (o320 P) .nil .nil) (.node (o448 P) .nil .nil))) (.node (o96 P) (.node (o160 P) (.node (o288 P) .nil .nil) (.node (o416 P) .nil .nil)) (.node (o224 P) (.node (o352 P) .nil .nil) .nil))) (.node (o48 P) (.node (o80 P) (.node (o144 P) (.node (o272 P) .nil .nil) (.node (o400 P) .nil .nil)) (.node (o208 P) (.node (o336 P) .nil .nil) (.node (o464 P) .nil .nil))) (.node (o112 P) (.node (o176 P) (.node (o304 P) .nil .nil) (.node (o432 P) .nil .nil)) (.node (o240 P) (.node (o368 P) .nil .nil) .nil)))) (.node (o24 P) (.node (o40 P) (.node (o72 P) (.node (o136 P) (.node (o264 P) .nil .nil) (.node (o392 P) .nil .nil)) (.node (o200 P) (.node (o328 P) .nil .nil) (.node (o456 P) .nil .nil))) (.node (o104 P) (.node (o168 P) (.node (o296 P) .nil .nil) (.node (o424 P) .nil .nil)) (.node (o232 P) (.node (o360 P) .nil .nil) .nil))) (.node (o56 P) (.node (o88 P) (.node (o152 P) (.node (o280 P) .nil .nil) (.node (o408 P) .nil .nil)) (.node (o216 P) (.node (o344 P) .nil .nil) (.node (o472 P) .nil .nil))) (.node (o120 P) (.node (o184 P) (.node (o312 P) .nil .nil) (.node (o440 P) .nil .nil)) (.node (o248 P) (.node (o376 P) .nil .nil) .nil))))) (.node (o12v5 P) (.node (o20 P) (.node (o36 P) (.node (o68 P) (.node (o132 P) (.node (o260 P) .nil .nil) (.node (o388 P) .nil .nil)) (.node (o196 P) (.node (o324 P) .nil .nil) (.node (o452 P) .nil .nil))) (.node (o100 P) (.node (o164 P) (.node (o292 P) .nil .nil) (.node (o420 P) .nil .nil)) (.node (o228 P) (.node (o356 P) .nil .nil) .nil))) (.node (o52 P) (.node (o84 P) (.node (o148 P) (.node (o276 P) .nil .nil) (.node (o404 P) .nil .nil)) (.node (o212 P) (.node (o340 P) .nil .nil) (.node (o468 P) .nil .nil))) (.node (o116 P) (.node (o180 P) (.node (o308 P) .nil .nil) (.node (o436 P) .nil .nil)) (.node (o244 P) (.node (o372 P) .nil .nil) .nil)))) (.node (o28 P) (.node (o44 P) (.node (o76 P) (.node (o140 P) (.node (o268 P) .nil .nil) (.node (o396 P) .nil .nil)) (.node (o204 P) (.node (o332 P) .nil .nil) (.node (o460 P) .nil .nil))) (.node (o108 P) (.node (o172 P) (.node (o300 P) .nil .nil) (.node (o428 P) .nil .nil)) (.node (o236 P) (.node (o364 P) .nil .nil) .nil))) (.node (o60 P) (.node (o92 P) (.node (o156 P) (.node (o284 P) .nil .nil) (.node (o412 P) .nil .nil)) (.node (o220 P) (.node (o348 P) .nil .nil) (.node (o476 P) .nil .nil))) (.node (o124 P) (.node (o188 P) (.node (o316 P) .nil .nil) (.node (o444 P) .nil .nil)) (.node (o252 P) (.node (o380v1 P) .nil .nil) .nil)))))) (.node (boot_o_6 P) (.node (boot_o_10 P) (.node (o18 P) (.node (o34 P) (.node (o66 P) (.node (o130 P) (.node (o258 P) .nil .nil) (.node (o386 P) .nil .nil)) (.node (o194 P) (.node (o322 P) .nil .nil) (.node (o450 P) .nil .nil))) (.node (o98 P) (.node (o162 P) (.node (o290 P) .nil .nil) (.node (o418 P) .nil .nil)) (.node (o226 P) (.node (o354 P) .nil .nil) .nil))) (.node (o50 P) (.node (o82 P) (.node (o146 P) (.node (o274 P) .nil .nil) (.node (o402 P) .nil .nil)) (.node (o210 P) (.node (o338 P) .nil .nil) (.node (o466 P) .nil .nil))) (.node (o114 P) (.node (o178 P) (.node (o306 P) .nil .nil) (.node (o434 P) .nil .nil)) (.node (o242 P) (.node (o370 P) .nil .nil) .nil)))) (.node (o26 P) (.node (o42 P) (.node (o74 P) (.node (o138 P) (.node (o266 P) .nil .nil) (.node (o394 P) .nil .nil)) (.node (o202 P) (.node (o330 P) .nil .nil) (.node (o458 P) .nil .nil))) (.node (o106 P) (.node (o170 P) (.node (o298 P) .nil .nil) (.node (o426 P) .nil .nil)) (.node (o234 P) (.node (o362 P) .nil .nil) .nil))) (.node (o58 P) (.node (o90 P) (.node (o154 P) (.node (o282 P) .nil .nil) (.node (o410 P) .nil .nil)) (.node (o218 P) (.node (o346 P) .nil .nil) (.node (o474 P) .nil .nil))) (.node (o122 P) (.node (o186 P) (.node (o314 P) .nil .nil) (.node (o442 P) .nil .nil)) (.node (o250 P) (.node (o378 P) .nil .nil) .nil))))) (.node (o14 P) (.node (o22 P) (.node (o38 P) (.node (o70 P) (.node (o134 P) (.node (o262 P) .nil .nil) (.node (o390 P) .nil .nil)) (.node (o198 P) (.node (o326 P) .nil .nil) (.node (o454 P) .nil .nil))) (.node (o102 P) (.node (o166 P) (.node (o294 P) .nil .nil) (.node (o422 P) .nil .nil)) (.node (o230 P) (.node (o358 P) .nil .nil) .nil))) (.node (o54 P) (.node (o86 P) (.node (o150 P) (.node (o278 P) .nil .nil) (.node (o406 P) .nil .nil)) (.node (o214 P) (.node (o342 P) .nil .nil) (.node (o470 P) .nil .nil))) (.node (o118 P) (.node (o182 P) (.node (o310 P) .nil .nil) (.node (o438 P) .nil .nil)) (.node (o246 P) (.node (o374 P) .nil .nil) .nil)))) (.node (o30 P) (.node (o46 P) (.node (o78 P) (.node (o142 P) (.node (o270 P) .nil .nil) (.node (o398 P) .nil .nil)) (.node (o206 P) (.node (o334 P) .nil .nil) (.node (o462 P) .nil .nil))) (.node (o110 P) (.node (o174 P) (.node (o302 P) .nil .nil) (.node (o430 P) .nil .nil)) (.node (o238 P) (.node (o366 P) .nil .nil) .nil))) (.node (o62 P) (.node (o94 P) (.node (o158 P) (.node (o286 P) .nil .nil) (.node (o414 P) .nil .nil)) (.node (o222 P) (.node (o350 P) .nil .nil) (.node (o478 P) .nil .nil))) (.node (o126 P) (.node (o190 P) (.node (o318 P) .nil .nil) (.node (o446 P) .nil .nil)) (.node (o254 P) (.node (o382 P) .nil .nil) .nil))))))))
abbrev S6 (w : World) (os : OsState) : SharedT := ⟨T6 w.params, (nat_lit 479), (boot_heap w.params).life, .mk [], boot_drawn, (nat_lit 804), os⟩
def T7 (P : Params) : BT := (.node (boot_o_0 P) (.node (boot_o_1 P) (.node (o3v5 P) (.node (boot_o_7 P) (.node (o15 P) (.node (o31v3 P) (.node (o63 P) (.node (o127 P) (.node (o255 P) (.node (o511 P) .nil .nil) .nil) (.node (o383 P) .nil .nil)) (.node (o191 P) (.node (o319 P) .nil .nil) (.node (o447 P) .nil .nil))) (.node (o95 P) (.node (o159 P) (.node (o287 P) .nil .nil) (.node (o415 P) .nil .nil)) (.node (o223 P) (.node (o351 P) .nil .nil) (.node (o479 P) .nil .nil)))) (.node (o47 P) (.node (o79 P) (.node (o143 P) (.node (o271 P) (.node (o527 P) .nil .nil) .nil) (.node (o399 P) .nil .nil)) (.node (o207 P) (.node (o335 P) .nil .nil) (.node (o463 P) .nil .nil))) (.node (o111 P) (.node (o175 P) (.node (o303 P) .nil .nil) (.node (o431 P) .nil .nil)) (.node (o239 P) (.node (o367 P) .nil .nil) (.node (o495 P) .nil .nil))))) (.node (o23 P) (.node (o39 P) (.node (o71 P) (.node (o135 P) (.node (o263 P) (.node (o519 P) .nil .nil) .nil) (.node (o391 P) .nil .nil)) (.node (o199 P) (.node (o327 P) .nil .nil) (.node (o455 P) .nil .nil))) (.node (o103 P) (.node (o167 P) (.node (o295 P) .nil .nil) (.node (o423 P) .nil .nil)) (.node (o231 P) (.node (o359 P) .nil .nil) (.node (o487 P) .nil .nil)))) (.node (o55 P) (.node (o87 P) (.node (o151 P) (.node (o279 P) (.node (o535 P) .nil .nil) .nil) (.node (o407 P) .nil .nil)) (.node (o215 P) (.node (o343 P) .nil .nil) (.node (o471 P) .nil .nil))) (.node (o119 P) (.node (o183 P) (.node (o311 P) .nil .nil) (.node (o439 P) .nil .nil)) (.node (o247 P) (.node (o375 P) .nil .nil) (.node (o503 P) .nil .nil)))))) (.node (o11 P) (.node (o19 P) (.node (o35 P) (.node (o67 P) (.node (o131 P) (.node (o259 P) (.node (o515 P) .nil .nil) .nil) (.node (o387 P) .nil .nil)) (.node (o195 P) (.node (o323 P) .nil .nil) (.node (o451 P) .nil .nil))) (.node (o99 P) (.node (o163 P) (.node (o291 P) .nil .nil) (.node (o419 P) .nil .nil)) (.node (o227 P) (.node (o355 P) .nil .nil) (.node (o483 P) .nil .nil)))) (.node (o51 P) (.node (o83 P) (.node (o147 P) (.node (o275 P) (.node (o531 P) .nil .nil) .nil) (.node (o403 P) .nil .nil)) (.node (o211 P) (.node (o339 P) .nil .nil) (.node (o467 P) .nil .nil))) (.node (o115 P) (.node (o179 P) (.node (o307 P) .nil .nil) (.node (o435 P) .nil .nil)) (.node (o243 P) (.node (o371 P) .nil .nil) (.node (o499 P) .nil .nil))))) (.node (o27 P) (.node (o43 P) (.node (o75 P) (.node (o139 P) (.node (o267 P) (.node (o523 P) .nil .nil) .nil) (.node (o395 P) .nil .nil)) (.node (o203 P) (.node (o331 P) .nil .nil) (.node (o459 P) .nil .nil))) (.node (o107 P) (.node (o171 P) (.node (o299 P) .nil .nil) (.node (o427 P) .nil .nil)) (.node (o235 P) (.node (o363 P) .nil .nil) (.node (o491 P) .nil .nil)))) (.node (o59 P) (.node (o91 P) (.node (o155 P) (.node (o283 P) (.node (o539 P) .nil .nil) .nil) (.node (o411 P) .nil .nil)) (.node (o219 P) (.node (o347 P) .nil .nil) (.node (o475 P) .nil .nil))) (.node (o123 P) (.node (o187 P) (.node (o315 P) .nil .nil) (.node (o443 P) .nil .nil)) (.node (o251 P) (.node (o379 P) .nil .nil) (.node (o507 P) .nil .nil))))))) (.node (boot_o_5 P) (.node (boot_o_9 P) (.node (o17 P) (.node (o33 P) (.node (o65 P) (.node (o129 P) (.node (o257 P) (.node (o513 P) .nil .nil) .nil) (.node (o385 P) .nil .nil)) (.node (o193 P) (.node (o321 P) .nil .nil) (.node (o449 P) .nil .nil))) (.node (o97 P) (.node (o161 P) (.node (o289 P) .nil .nil) (.node (o417 P) .nil .nil)) (.node (o225 P) (.node (o353 P) .nil .nil) (.node (o481 P) .nil .nil)))) (.node (o49 P) (.node (o81 P) (.node (o145 P) (.node (o273 P) (.node (o529 P) .nil .nil) .nil) (.node (o401 P) .nil .nil)) (.node (o209 P) (.node (o337 P) .nil .nil) (.node (o465 P) .nil .nil))) (.node (o113 P) (.node (o177 P) (.node (o305 P) .nil .nil) (.node (o433 P) .nil .nil)) (.node (o241 P) (.node (o369 P) .nil .nil) (.node (o497 P) .nil .nil))))) (.node (o25 P) (.node (o41 P) (.node (o73 P) (.node (o137 P) (.node (o265 P) (.node (o521 P) .nil .nil) .nil) (.node (o393 P) .nil .nil)) (.node (o201 P) (.node (o329 P) .nil .nil) (.node (o457 P) .nil .nil))) (.node (o105 P) (.node (o169 P) (.node (o297 P) .nil .nil) (.node (o425 P) .nil .nil)) (.node (o233 P) (.node (o361 P) .nil .nil) (.node (o489 P) .nil .nil)))) (.node (o57 P) (.node (o89 P) (.node (o153 P) (.node (o281 P) (.node (o537 P) .nil .nil) .nil) (.node (o409 P) .nil .nil)) (.node (o217 P) (.node (o345 P) .nil .nil) (.node (o473 P) .nil .nil))) (.node (o121 P) (.node (o185 P) (.node (o313 P) .nil .nil) (.node (o441 P) .nil .nil)) (.node (o249 P) (.node (o377 P) .nil .nil) (.node (o505 P) .nil .nil)))))) (.node (o13 P) (.node (o21 P) (.node (o37 P) (.node (o69 P) (.node (o133 P) (.node (o261 P) (.node (o517 P) .nil .nil) .nil) (.node (o389 P) .nil .nil)) (.node (o197 P) (.node (o325 P) .nil .nil) (.node (o453 P) .nil .nil))) (.node (o101 P) (.node (o165 P) (.node (o293 P) .nil .nil) (.node (o421 P) .nil .nil)) (.node (o229 P) (.node (o357 P) .nil .nil) (.node (o485 P) .nil .nil)))) (.node (o53 P) (.node (o85 P) (.node (o149 P) (.node (o277 P) (.node (o533 P) .nil .nil) .nil) (.node (o405 P) .nil .nil)) (.node (o213 P) (.node (o341 P) .nil .nil) (.node (o469 P) .nil .nil))) (.node (o117 P) (.node (o181 P) (.node (o309 P) .nil .nil) (.node (o437 P) .nil .nil)) (.node (o245 P) (.node (o373 P) .nil .nil) (.node (o501 P) .nil .nil))))) (.node (o29 P) (.node (o45 P) (.node (o77 P) (.node (o141 P) (.node (o269 P) (.node (o525 P) .nil .nil) .nil) (.node (o397 P) .nil .nil)) (.node (o205 P) (.node (o333 P) .nil .nil) (.node (o461 P) .nil .nil))) (.node (o109 P) (.node (o173 P) (.node (o301 P) .nil .nil) (.node (o429 P) .nil .nil)) (.node (o237 P) (.node (o365 P) .nil .nil) (.node (o493 P) .nil .nil)))) (.node (o61 P) (.node (o93 P) (.node (o157 P) (.node (o285 P) (.node (o541 P) .nil .nil) .nil) (.node (o413 P) .nil .nil)) (.node (o221 P) (.node (o349 P) .nil .nil) (.node (o477 P) .nil .nil))) (.node (o125 P) (.node (o189 P) (.node (o317 P) .nil .nil) (.node (o445 P) .nil .nil)) (.node (o253 P) (.node (o381 P) .nil .nil) (.node (o509 P) .nil .nil)))))))) (.node (o2 P) (.node (boot_o_4 P) (.node (boot_o_8 P) (.node (o16 P) (.node (o32 P) (.node (o64 P) (.node (o128 P) (.node (o256 P) (.node (o512 P) .nil .nil) .nil) (.node (o384 P) .nil .nil)) (.node (o192 P) (.node (o320 P) .nil .nil) (.node (o448 P) .nil .nil))) (.node (o96 P) (.node (o160 P) (.node (o288 P) .nil .nil) (.node (o416 P) .nil .nil)) (.node (o224 P) (.node (o352 P) .nil .nil) (.node (o480 P) .nil .nil)))) (.node (o48 P) (.node (o80 P) (.node (o144 P) (.node (o272 P) (.node (o528 P) .nil .nil) .nil) (.node (o400 P) .nil .nil)) (.node (o208 P) (.node (o336 P) .nil .nil) (.node (o464 P) .nil .nil))) (.node (o112 P) (.node (o176 P) (.node (o304 P) .nil .nil) (.node (o432 P) .nil .nil)) (.node (o240 P) (.node (o368 P) .nil .nil) (.node (o496 P) .nil .nil))))) (.node (o24 P) (.node (o40 P) (.node (o72 P) (.node (o136 P) (.node (o264 P) (.node (o520 P) .nil .nil) .nil) (.node (o392 P) .nil .nil)) (.node (o200 P) (.node (o328 P) .nil .nil) (.node (o456 P) .nil .nil))) (.node (o104 P) (.node (o168 P) (.node (o296 P) .nil .nil) (.node (o424 P) .nil .nil)) (.node (o232 P) (.node (o360 P) .nil .nil) (.node (o488 P) .nil .nil)))) (.node (o56 P) (.node (o88 P) (.node (o152 P) (.node (o280 P) (.node (o536 P) .nil .nil) .nil) (.node (o408 P) .nil .nil)) (.node (o216 P) (.node (o344 P) .nil .nil) (.node (o472 P) .nil .nil))) (.node (o120 P) (.node (o184 P) (.node (o312 P) .nil .nil) (.node (o440 P) .nil .nil)) (.node (o248 P) (.node (o376 P) .nil .nil) (.node (o504 P) .nil .nil)))))) (.node (o12v6 P) (.node (o20 P) (.node (o36 P) (.node (o68 P) (.node (o132 P) (.node (o260 P) (.node (o516 P) .nil .nil) .nil) (.node (o388 P) .nil .nil)) (.node (o196 P) (.node (o324 P) .nil .nil) (.node (o452 P) .nil .nil))) (.node (o100 P) (.node (o164 P) (.node (o292 P) .nil .nil) (.node (o420 P) .nil .nil)) (.node (o228 P) (.node (o356 P) .nil .nil) (.node (o484 P) .nil .nil)))) (.node (o52 P) (.node (o84 P) (.node (o148 P) (.node (o276 P) (.node (o532 P) .nil .nil) .nil) (.node (o404 P) .nil .nil)) (.node (o212 P) (.node (o340 P) .nil .nil) (.node (o468 P) .nil .nil))) (.node (o116 P) (.node (o180 P) (.node (o308 P) .nil .nil) (.node (o436 P) .nil .nil)) (.node (o244 P) (.node (o372 P) .nil .nil) (.node (o500 P) .nil .nil))))) (.node (o28 P) (.node (o44 P) (.node (o76 P) (.node (o140 P) (.node (o268 P) (.node (o524 P) .nil .nil) .nil) (.node (o396 P) .nil .nil)) (.node (o204 P) (.node (o332 P) .nil .nil) (.node (o460 P) .nil .nil))) (.node (o108 P) (.node (o172 P) (.node (o300 P) .nil .nil) (.node (o428 P) .nil .nil)) (.node (o236 P) (.node (o364 P) .nil .nil) (.node (o492 P) .nil .nil)))) (.node (o60 P) (.node (o92 P) (.node (o156 P) (.node (o284 P) (.node (o540 P) .nil .nil) .nil) (.node (o412 P) .nil .nil)) (.node (o220 P) (.node (o348 P) .nil .nil) (.node (o476 P) .nil .nil))) (.node (o124 P) (.node (o188 P) (.node (o316 P) .nil .nil) (.node (o444 P) .nil .nil)) (.node (o252 P) (.node (o380v2 P) .nil .nil) (.node (o508 P) .nil .nil))))))) (.node (boot_o_6 P) (.node (boot_o_10 P) (.node (o18 P) (.node (o34 P) (.node (o66 P) (.node (o130 P) (.node (o258 P) (.node (o514 P) .nil .nil) .nil) (.node (o386 P) .nil .nil)) (.node (o194 P) (.node (o322 P) .nil .nil) (.node (o450 P) .nil .nil))) (.node (o98 P) (.node (o162 P) (.node (o290 P) .nil .nil) (.node (o418 P) .nil .nil)) (.node (o226 P) (.node (o354 P) .nil .nil) (.node (o482 P) .nil .nil)))) (.node (o50 P) (.node (o82 P) (.node (o146 P) (.node (o274 P) (.node (o530 P) .nil .nil) .nil) (.node (o402 P) .nil .nil)) (.node (o210 P) (.node (o338 P) .nil .nil) (.node (o466 P) .nil .nil))) (.node (o114 P) (.node (o178 P) (.node (o306 P) .nil .nil) (.node (o434 P) .nil .nil)) (.node (o242 P) (.node (o370 P) .nil .nil) (.node (o498 P) .nil .nil))))) (.node (o26 P) (.node (o42 P) (.node (o74 P) (.node (o138 P) (.node (o266 P) (.node (o522 P) .nil .nil) .nil) (.node (o394 P) .nil .nil)) (.node (o202 P) (.node (o330 P) .nil .nil) (.node (o458 P) .nil .nil))) (.node (o106 P) (.node (o170 P) (.node (o298 P) .nil .nil) (.node (o426 P) .nil .nil)) (.node (o234 P) (.node (o362 P) .nil .nil) (.node (o490 P) .nil .nil)))) (.node (o58 P) (.node (o90 P) (.node (o154 P) (.node (o282 P) (.node (o538 P) .nil .nil) .nil) (.node (o410 P) .nil .nil)) (.node (o218 P) (.node (o346 P) .nil .nil) (.node (o474 P) .nil .nil))) (.node (o122 P) (.node (o186 P) (.node (o314 P) .nil .nil) (.node (o442 P) .nil .nil)) (.node (o250 P) (.node (o378 P) .nil .nil) (.node (o506 P) .nil .nil)))))) (.node (o14 P) (.node (o22 P) (.node (o38 P) (.node (o70 P) (.node (o134 P) (.node (o262 P) (.node (o518 P) .nil .nil) .nil) (.node (o390 P) .nil .nil)) (.node (o198 P) (.node (o326 P) .nil .nil) (.node (o454 P) .nil .nil))) (.node (o102 P) (.node (o166 P) (.node (o294 P) .nil .nil) (.node (o422 P) .nil .nil)) (.node (o230 P) (.node (o358 P) .nil .nil) (.node (o486 P) .nil .nil)))) (.node (o54 P) (.node (o86 P) (.node (o150 P) (.node (o278 P) (.node (o534 P) .nil .nil) .nil) (.node (o406 P) .nil .nil)) (.node (o214 P) (.node (o342 P) .nil .nil) (.node (o470 P) .nil .nil))) (.node (o118 P) (.node (o182 P) (.node (o310 P) .nil .nil) (.node (o438 P) .nil .nil)) (.node (o246 P) (.node (o374 P) .nil .nil) (.node (o502 P) .nil .nil))))) (.node (o30 P) (.node (o46 P) (.node (o78 P) (.node (o142 P) (.node (o270 P) (.node (o526 P) .nil .nil) .nil) (.node (o398 P) .nil .nil)) (.node (o206 P) (.node (o334 P) .nil .nil) (.node (o462 P) .nil .nil))) (.node (o110 P) (.node (o174 P) (.node (o302 P) .nil .nil) (.node (o430 P) .nil .nil)) (.node (o238 P) (.node (o366 P) .nil .nil) (.node (o494 P) .nil .nil)))) (.node (o62 P) (.node (o94 P) (.node (o158 P) (.node (o286 P) .nil .nil) (.node (o414 P) .nil .nil)) (.node (o222 P) (.node (o350 P) .nil .nil) (.node (o478 P) .nil .nil))) (.node (o126 P) (.node (o190 P) (.node (o318 P) .nil .nil) (.node (o446 P) .nil .nil)) (.node (o254 P) (.node (o382 P) .nil .nil) (.node (o510 P) .nil .nil)))))))))
abbrev S7 (w : World) (os : OsState) : SharedT := ⟨T7 w.params, (nat_lit 542), (boot_heap w.params).life, .mk [], boot_drawn, (nat_lit 895), os⟩
def T8 (P : Params) : BT := (.node (boot_o_0 P) (.node (boot_o_1 P) (.node (o3v6 P) (.node (boot_o_7 P) (.node (o15 P) (.node (o31v3 P) (.node (o63 P) (.node (o127 P) (.node (o255 P) (.node (o511 P) .nil .nil) .nil) (.node (o383 P) (.node (o639 P) .nil .nil) .nil)) (.node (o191 P) (.node (o319 P) (.node (o575 P) .nil .nil) .nil) (.node (o447 P) .nil .nil))) (.node (o95 P) (.node (o159 P) (.node (o287 P) (.node (o543 P) .nil .nil) .nil) (.node (o415 P) (.node (o671 P) .nil .nil) .nil)) (.node (o223 P) (.node (o351 P) (.node (o607 P) .nil .nil) .nil) (.node (o479 P) .nil .nil)))) (.node (o47 P) (.node (o79 P) (.node (o143 P) (.node (o271 P) (.node (o527 P) .nil .nil) .nil) (.node (o399 P) (.node (o655 P) .nil .nil) .nil)) (.node (o207 P) (.node (o335 P) (.node (o591 P) .nil .nil) .nil) (.node (o463 P) .nil .nil))) (.node (o111 P) (.node (o175 P) (.node (o303 P) (.node (o559 P) .nil .nil) .nil) (.node (o431 P) (.node (o687 P) .nil .nil) .nil)) (.node (o239 P) (.node (o367 P) (.node (o623 P) .nil .nil) .nil) (.node (o495 P) .nil .nil))))) (.node (o23 P) (.node (o39 P) (.node (o71 P) (.node (o135 P) (.node (o263 P) (.node (o519 P) .nil .nil) .nil) (.node (o391 P) (.node (o647 P) .nil .nil) .nil)) (.node (o199 P) (.node (o327 P) (.node (o583 P) .nil .nil) .nil) (.node (o455 P) .nil .nil))) (.node (o103 P) (.node (o167 P) (.node (o295 P) (.node (o551 P) .nil .nil) .nil) (.node (o423 P) (.node (o679 P) .nil .nil) .nil)) (.node (o231 P) (.node (o359 P) (.node (o615 P) .nil .nil) .nil) (.node (o487 P) .nil .nil)))) (.node (o55 P) (.node (o87 P) (.node (o151 P) (.node (o279 P) (.node (o535 P) .nil .nil) .nil) (.node (o407 P) (.node (o663 P) .nil .nil) .nil)) (.node (o215 P) (.node (o343 P) (.node (o599 P) .nil .nil) .nil) (.node (o471 P) .nil .nil))) (.node (o119 P) (.node (o183 P) (.node (o311 P) (.node (o567 P) .nil .nil) .nil) (.node (o439 P) (.node (o695 P) .nil .nil) .nil)) (.node (o247 P) (.node (o375 P) (.node (o631 P) .nil .nil) .nil) (.node (o503 P) .nil .nil)))))) (.node (o11 P) (.node (o19 P) (.node (o35 P) (.node (o67 P) (.node (o131 P) (.node (o259 P) (.node (o515 P) .nil .nil) .nil) (.node (o387 P) (.node (o643 P) .nil .nil) .nil)) (.node (o195 P) (.node (o323 P) (.node (o579 P) .nil .nil) .nil) (.node (o451 P) .nil .nil))) (.node (o99 P) (.node (o163 P) (.node (o291 P) (.node (o547 P) .nil .nil) .nil) (.node (o419 P) (.node (o675 P) .nil .nil) .nil)) (.node (o227 P) (.node (o355 P) (.node (o611 P) .nil .nil) .nil) (.node (o483 P) .nil .nil)))) (.node (o51 P) (.node (o83 P) (.node (o147 P) (.node (o275 P) (.node (o531 P) .nil .nil) .nil) (.node (o403 P) (.node (o659 P) .nil .nil) .nil)) (.node (o211 P) (.node (o339 P) (.node (o595 P) .nil .nil) .nil) (.node (o467 P) .nil .nil))) (.node (o115 P) (.node (o179 P) (.node (o307 P) (.node (o563 P) .nil .nil) .nil) (.node (o435 P) (.node (o691 P) .nil .nil) .nil)) (.node (o243 P) (.node (o371 P) (.node (o627 P) .nil .nil) .nil) (.node (o499 P) .nil .nil))))) (.node (o27 P) (.node (o43 P) (.node (o75 P) (.node (o139 P) (.node (o267 P) (.node (o523 P) .nil .nil) .nil) (.node (o395 P) (.node (o651 P) .nil .nil) .nil)) (.node (o203 P) (.node (o331 P) (.node (o587 P) .nil .nil) .nil) (.node (o459 P) .nil .nil))) (.node (o107 P) (.node (o171 P) (.node (o299 P) (.node (o555 P) .nil .nil) .nil) (.node (o427 P) (.node (o683 P) .nil .nil) .nil)) (.node (o235 P) (.node (o363 P) (.node (o619 P) .nil .nil) .nil) (.node (o491 P) .nil .nil)))) (.node (o59 P) (.node (o91 P) (.node (o155 P) (.node (o283 P) (.node (o539 P) .nil .nil) .nil) (.node (o411 P) (.node (o667 P) .nil .nil) .nil)) (.node (o219 P) (.node (o347 P) (.node (o603 P) .nil .nil) .nil) (.node (o475 P) .nil .nil))) (.node (o123 P) (.node (o187 P) (.node (o315 P) (.node (o571 P) .nil .nil) .nil) (.node (o443 P) .nil .nil)) (.node (o251 P) (.node (o379 P) (.node (o635 P) .nil .nil) .nil) (.node (o507 P) .nil .nil))))))) (.node (boot_o_5 P) (.node (boot_o_9 P) (.node (o17 P) (.node (o33 P) (.node (o65 P) (.node (o129 P) (.node (o257 P) (.node (o513 P) .nil .nil) .nil) (.node (o385 P) (.node (o641 P) .nil .nil) .nil)) (.node (o193 P) (.node (o321 P) (.node (o577 P) .nil .nil) .nil) (.node (o449 P) .nil .nil))) (.node (o97 P) (.node (o161 P) (.node (o289 P) (.node (o545 P) .nil .nil) .nil) (.node (o417 P) (.node (o673 P) .nil .nil) .nil)) (.node (o225 P) (.node (o353 P) (.node (o609 P) .nil .nil) .nil) (.node (o481 P) .nil .nil)))) (.node (o49 P) (.node (o81 P) (.node (o145 P) (.node (o273 P) (.node (o529 P) .nil .nil) .nil) (.node (o401 P) (.node (o657 P) .nil .nil) .nil)) (.node (o209 P) (.node (o337 P) (.node (o593 P) .nil .nil) .nil) (.node (o465 P) .nil .nil))) (.node (o113 P) (.node (o177 P) (.node (o305 P) (.node (o561 P) .nil .nil) .nil) (.node (o433 P) (.node (o689 P) .nil .nil) .nil)) (.node (o241 P) (.node (o369 P) (.node (o625 P) .nil .nil) .nil) (.node (o497 P) .nil .nil))))) (.node (o25 P) (.node (o41 P) (.node (o73 P) (.node (o137 P) (.node (o265 P) (.node (o521 P) .nil .nil) .nil) (.node (o393 P) (.node (o649 P) .nil .nil) .nil)) (.node (o201 P) (.node (o329 P) (.node (o585 P) .nil .nil) .nil) (.node (o457 P) .nil .nil))) (.node (o105 P) (.node (o169 P) (.node (o297 P) (.node (o553 P) .nil .nil) .nil) (.node (o425 P) (.node (o681 P) .nil .nil) .nil)) (.node (o233 P) (.node (o361 P) (.node (o617 P) .nil .nil) .nil) (.node (o489 P) .nil .nil)))) (.node (o57 P) (.node (o89 P) (.node (o153 P) (.node (o281 P) (.node (o537 P) .nil .nil) .nil) (.node (o409 P) (.node (o665 P) .nil .nil) .nil)) (.node (o217 P) (.node (o345 P) (.node (o601 P) .nil .nil) .nil) (.node (o473 P) .nil .nil))) (.node (o121 P) (.node (o185 P) (.node (o313 P) (.node (o569 P) .nil .nil) .nil) (.node (o441 P) (.node (o697 P) .nil .nil) .nil)) (.node (o249 P) (.node (o377 P) (.node (o633 P) .nil .nil) .nil) (.node (o505 P) .nil .nil)))))) (.node (o13 P) (.node (o21 P) (.node (o37 P) (.node (o69 P) (.node (o133 P) (.node (o261 P) (.node (o517 P) .nil .nil) .nil) (.node (o389 P) (.node (o645 P) .nil .nil) .nil)) (.node (o197 P) (.node (o325 P) (.node (o581 P) .nil .nil) .nil) (.node (o453 P) .nil .nil))) (.node (o101 P) (.node (o165 P) (.node (o293 P) (.node (o549 P) .nil .nil) .nil) (.node (o421 P) (.node (o677 P) .nil .nil) .nil)) (.node (o229 P) (.node (o357 P) (.node (o613 P) .nil .nil) .nil) (.node (o485 P) .nil .nil)))) (.node (o53 P) (.node (o85 P) (.node (o149 P) (.node (o277 P) (.node (o533 P) .nil .nil) .nil) (.node (o405 P) (.node (o661 P) .nil .nil) .nil)) (.node (o213 P) (.node (o341 P) (.node (o597 P) .nil .nil) .nil) (.node (o469 P) .nil .nil))) (.node (o117 P) (.node (o181 P) (.node (o309 P) (.node (o565 P) .nil .nil) .nil) (.node (o437 P) (.node (o693 P) .nil .nil) .nil)) (.node (o245 P) (.node (o373 P) (.node (o629 P) .nil .nil) .nil) (.node (o501 P) .nil .nil))))) (.node (o29 P) (.node (o45 P) (.node (o77 P) (.node (o141 P) (.node (o269 P) (.node (o525 P) .nil .nil) .nil) (.node (o397 P) (.node (o653 P) .nil .nil) .nil)) (.node (o205 P) (.node (o333 P) (.node (o589 P) .nil .nil) .nil) (.node (o461 P) .nil .nil))) (.node (o109 P) (.node (o173 P) (.node (o301 P) (.node (o557 P) .nil .nil) .nil) (.node (o429 P) (.node (o685 P) .nil .nil) .nil)) (.node (o237 P) (.node (o365 P) (.node (o621 P) .nil .nil) .nil) (.node (o493 P) .nil .nil)))) (.node (o61 P) (.node (o93 P) (.node (o157 P) (.node (o285 P) (.node (o541 P) .nil .nil) .nil) (.node (o413 P) (.node (o669 P) .nil .nil) .nil)) (.node (o221 P) (.node (o349 P) (.node (o605 P) .nil .nil) .nil) (.node (o477 P) .nil .nil))) (.node (o125 P) (.node (o189 P) (.node (o317 P) (.node (o573 P) .nil .nil) .nil) (.node (o445 P) .nil .nil)) (.node (o253 P) (.node (o381 P) (.node (o637 P) .nil .nil) .nil) (.node (o509 P) .nil .nil)))))))) (.node (o2 P) (.node (boot_o_4 P) (.node (boot_o_8 P) (.node (o16 P) (.node (o32 P) (.node (o64 P) (.node (o128 P) (.node (o256 P) (.node (o512 P) .nil .nil) .nil) (.node (o384 P) (.node (o640 P) .nil .nil) .nil)) (.node (o192 P) (.node (o320 P) (.node (o576 P) .nil .nil) .nil) (.node (o448 P) .nil .nil))) (.node (o96 P) (.node (o160 P) (.node (o288 P) (.node (o544 P) .nil .nil) .nil) (.node (o416 P) (.node (o672 P) .nil .nil) .nil)) (.node (o224 P) (.node (o352 P) (.node (o608 P) .nil .nil) .nil) (.node (o480 P) .nil .nil)))) (.node (o48 P) (.node (o80 P) (.node (o144 P) (.node (o272 P) (.node (o528 P) .nil .nil) .nil) (.node (o400 P) (.node (o656 P) .nil .nil) .nil)) (.node (o208 P) (.node (o336 P) (.node (o592 P) .nil .nil) .nil) (.node (o464 P) .nil .nil))) (.node (o112 P) (.node (o176 P) (.node (o304 P) (.node (o560 P) .nil .nil) .nil) (.node (o432 P) (.node (o688 P) .nil .nil) .nil)) (.node (o240 P) (.node (o368 P) (.node (o624 P) .nil .nil) .nil) (.node (o496 P) .nil .nil))))) (.node (o24 P) (.node (o40 P) (.node (o72 P) (.node (o136 P) (.node (o264 P) (.node (o520 P) .nil .nil) .nil) (.node (o392 P) (.node (o648 P) .nil .nil) .nil)) (.node (o200 P) (.node (o328 P) (.node (o584 P) .nil .nil) .nil) (.node (o456 P) .nil .nil))) (.node (o104 P) (.node (o168 P) (.node (o296 P) (.node (o552 P) .nil .nil) .nil) (.node (o424 P) (.node (o680 P) .nil .nil) .nil)) (.node (o232 P) (.node (o360 P) (.node (o616 P) .nil .nil) .nil) (.node (o488 P) .nil .nil)))) (.node (o56 P) (.node (o88 P) (.node (o152 P) (.node (o280 P) (.node (o536 P) .nil .nil) .nil) (.node (o408 P) (.node (o664 P) .nil .nil) .nil)) (.node (o216 P) (.node (o344 P) (.node (o600 P) .nil .nil) .nil) (.node (o472 P) .nil .nil))) (.node (o120 P) (.node (o184 P) (.node (o312 P) (.node (o568 P) .nil .nil) .nil) (.node (o440 P) (.node (o696 P) .nil .nil) .nil)) (.node (o248 P) (.node (o376 P) (.node (o632 P) .nil .nil) .nil) (.node (o504 P) .nil .nil)))))) (.node (o12v7 P) (.node (o20 P) (.node (o36 P) (.node (o68 P) (.node (o132 P) (.node (o260 P) (.node (o516 P) .nil .nil) .nil) (.node (o388 P) (.node (o644 P) .nil .nil) .nil)) (.node (o196 P) (.node (o324 P) (.node (o580 P) .nil .nil) .nil) (.node (o452 P) .nil .nil))) (.node (o100 P) (.node (o164 P) (.node (o292 P) (.node (o548 P) .nil .nil) .nil) (.node (o420 P) (.node (o676 P) .nil .nil) .nil)) (.node (o228 P) (.node (o356 P) (.node (o612 P) .nil .nil) .nil) (.node (o484 P) .nil .nil)))) (.node (o52 P) (.node (o84 P) (.node (o148 P) (.node (o276 P) (.node (o532 P) .nil .nil) .nil) (.node (o404 P) (.node (o660 P) .nil .nil) .nil)) (.node (o212 P) (.node (o340 P) (.node (o596 P) .nil .nil) .nil) (.node (o468 P) .nil .nil))) (.node (o116 P) (.node (o180 P) (.node (o308 P) (.node (o564 P) .nil .nil) .nil) (.node (o436 P) (.node (o692 P) .nil .nil) .nil)) (.node (o244 P) (.node (o372 P) (.node (o628 P) .nil .nil) .nil) (.node (o500 P) .nil .nil))))) (.node (o28 P) (.node (o44 P) (.node (o76 P) (.node (o140 P) (.node (o268 P) (.node (o524 P) .nil .nil) .nil) (.node (o396 P) (.node (o652 P) .nil .nil) .nil)) (.node (o204 P) (.node (o332 P) (.node (o588 P) .nil .nil) .nil) (.node (o460 P) .nil .nil))) (.node (o108 P) (.node (o172 P) (.node (o300 P) (.node (o556 P) .nil .nil) .nil) (.node (o428 P) (.node (o684 P) .nil .nil) .nil)) (.node (o236 P) (.node (o364 P) (.node (o620 P) .nil .nil) .nil) (.node (o492 P) .nil .nil)))) (.node (o60 P) (.node (o92 P) (.node (o156 P) (.node (o284 P) (.node (o540 P) .nil .nil) .nil) (.node (o412 P) (.node (o668 P) .nil .nil) .nil)) (.node (o220 P) (.node (o348 P) (.node (o604 P) .nil .nil) .nil) (.node (o476 P) .nil .nil))) (.node (o124 P) (.node (o188 P) (.node (o316 P) (.node (o572 P) .nil .nil) .nil) (.node (o444 P) .nil .nil)) (.node (o252 P) (.node (o380v2 P) (.node (o636 P) .nil .nil) .nil) (.node (o508 P) .nil .nil))))))) (.node (boot_o_6 P) (.node (boot_o_10 P) (.node (o18 P) (.node (o34 P) (.node (o66 P) (.node (o130 P) (.node (o258 P) (.node (o514 P) .nil .nil) .nil) (.node (o386 P) (.node (o642 P) .nil .nil) .nil)) (.node (o194 P) (.node (o322 P) (.node (o578 P) .nil .nil) .nil) (.node (o450 P) .nil .nil))) (.node (o98 P) (.node (o162 P) (.node (o290 P) (.node (o546 P) .nil .nil) .nil) (.node (o418 P) (.node (o674 P) .nil .nil) .nil)) (.node (o226 P) (.node (o354 P) (.node (o610 P) .nil .nil) .nil) (.node (o482 P) .nil .nil)))) (.node (o50 P) (.node (o82 P) (.node (o146 P) (.node (o274 P) (.node (o530 P) .nil .nil) .nil) (.node (o402 P) (.node (o658 P) .nil .nil) .nil)) (.node (o210 P) (.node (o338 P) (.node (o594 P) .nil .nil) .nil) (.node (o466 P) .nil .nil))) (.node (o114 P) (.node (o178 P) (.node (o306 P) (.node (o562 P) .nil .nil) .nil) (.node (o434 P) (.node (o690 P) .nil .nil) .nil)) (.node (o242 P) (.node (o370 P) (.node (o626 P) .nil .nil) .nil) (.node (o498 P) .nil .nil))))) (.node (o26 P) (.node (o42 P) (.node (o74 P) (.node (o138 P) (.node (o266 P) (.node (o522 P) .nil .nil) .nil) (.node (o394 P) (.node (o650 P) .nil .nil) .nil)) (.node (o202 P) (.node (o330 P) (.node (o586 P) .nil .nil) .nil) (.node (o458 P) .nil .nil))) (.node (o106 P) (.node (o170 P) (.node (o298 P) (.node (o554 P) .nil .nil) .nil) (.node (o426 P) (.node (o682 P) .nil .nil) .nil)) (.node (o234 P) (.node (o362 P) (.node (o618 P) .nil .nil) .nil) (.node (o490 P) .nil .nil)))) (.node (o58 P) (.node (o90 P) (.node (o154 P) (.node (o282 P) (.node (o538 P) .nil .nil) .nil) (.node (o410 P) (.node (o666 P) .nil .nil) .nil)) (.node (o218 P) (.node (o346 P) (.node (o602 P) .nil .nil) .nil) (.node (o474 P) .nil .nil))) (.node (o122 P) (.node (o186 P) (.node (o314 P) (.node (o570 P) .nil .nil) .nil) (.node (o442 P) .nil .nil)) (.node (o250 P) (.node (o378 P) (.node (o634 P) .nil .nil) .nil) (.node (o506 P) .nil .nil)))))) (.node (o14 P) (.node (o22 P) (.node (o38 P) (.node (o70 P) (.node (o134 P) (.node (o262 P) (.node (o518 P) .nil .nil) .nil) (.node (o390 P) (.node (o646 P) .nil .nil) .nil)) (.node (o198 P) (.node (o326 P) (.node (o582 P) .nil .nil) .nil) (.node (o454 P) .nil .nil))) (.node (o102 P) (.node (o166 P) (.node (o294 P) (.node (o550 P) .nil .nil) .nil) (.node (o422 P) (.node (o678 P) .nil .nil) .nil)) (.node (o230 P) (.node (o358 P) (.node (o614 P) .nil .nil) .nil) (.node (o486 P) .nil .nil)))) (.node (o54 P) (.node (o86 P) (.node (o150 P) (.node (o278 P) (.node (o534 P) .nil .nil) .nil) (.node (o406 P) (.node (o662 P) .nil .nil) .nil)) (.node (o214 P) (.node (o342 P) (.node (o598 P) .nil .nil) .nil) (.node (o470 P) .nil .nil))) (.node (o118 P) (.node (o182 P) (.node (o310 P) (.node (o566 P) .nil .nil) .nil) (.node (o438 P) (.node (o694 P) .nil .nil) .nil)) (.node (o246 P) (.node (o374 P) (.node (o630 P) .nil .nil) .nil) (.node (o502 P) .nil .nil))))) (.node (o30 P) (.node (o46 P) (.node (o78 P) (.node (o142 P) (.node (o270 P) (.node (o526 P) .nil .nil) .nil) (.node (o398 P) (.node (o654 P) .nil .nil) .nil)) (.node (o206 P) (.node (o334 P) (.node (o590 P) .nil .nil) .nil) (.node (o462 P) .nil .nil))) (.node (o110 P) (.node (o174 P) (.node (o302 P) (.node (o558 P) .nil .nil) .nil) (.node (o430 P) (.node (o686 P) .nil .nil) .nil)) (.node (o238 P) (.node (o366 P) (.node (o622 P) .nil .nil) .nil) (.node (o494 P) .nil .nil)))) (.node (o62 P) (.node (o94 P) (.node (o158 P) (.node (o286 P) (.node (o542 P) .nil .nil) .nil) (.node (o414 P) (.node (o670 P) .nil .nil) .nil)) (.node (o222 P) (.node (o350 P) (.node (o606 P) .nil .nil) .nil) (.node (o478 P) .nil .nil))) (.node (o126 P) (.node (o190 P) (.node (o318 P) (.node (o574 P) .nil .nil) .nil) (.node (o446 P) .nil .nil)) (.node (o254 P) (.node (o382 P) (.node (o638 P) .nil .nil) .nil) (.node (o510 P) .nil .nil)))))))))
abbrev S8 (w : World) (os : OsState) : SharedT := ⟨T8 w.params, (nat_lit 698), (boot_heap w.params).life, .mk [], boot_drawn, (nat_lit 1111), os⟩
theorem r_boot (w : World) (os : OsState) : bootQ w os (fun s => fore (stQ P0 w) (nat_lit 11) (some (@Value.ref (nat_lit 6))) 12 s (topStub P0)) = some (S0 w os, ⟨denQ tabQ c0, c0, (@Pos.mk (nat_lit 0) (nat_lit 0) (nat_lit 0) (nat_lit 0)), [topFrame q0]⟩) := by kernel_rfl
theorem r_block (w : World) (os : OsState) : seg (stQ P0 w) (nat_lit 11) (some (@Value.ref (nat_lit 6))) 1 (S0 w os) (blockOf b0 env0 c0 (@Pos.mk (nat_lit 0) (nat_lit 0) (nat_lit 0) (nat_lit 0)) [topFrame q0]) = some (.next, S1 w os, c0, (@Pos.mk (nat_lit 0) (nat_lit 0) (nat_lit 0) (nat_lit 0))) := by kernel_rfl
theorem r_cut1 (w : World) (os : OsState) : seg (stQ P0 w) (nat_lit 11) (some (@Value.ref (nat_lit 6))) 1205 (S1 w os) (piecesQ ((b0.drop 0).take 7) env0 c0 (@Pos.mk (nat_lit 0) (nat_lit 0) (nat_lit 0) (nat_lit 0)) [topFrame q0]) = some (.next, S2 w os, c0, (@Pos.mk (nat_lit 19) (nat_lit 0) (nat_lit 22) (nat_lit 26))) := by kernel_rfl
theorem r_cut2 (w : World) (os : OsState) : seg (stQ P0 w) (nat_lit 11) (some (@Value.ref (nat_lit 6))) 1226 (S2 w os) (piecesQ ((b0.drop 7).take 5) env0 c0 (@Pos.mk (nat_lit 19) (nat_lit 0) (nat_lit 22) (nat_lit 26)) [topFrame q0]) = some (.next, S3 w os, c0, (@Pos.mk (nat_lit 39) (nat_lit 0) (nat_lit 42) (nat_lit 26))) := by kernel_rfl
theorem r_cut3 (w : World) (os : OsState) : seg (stQ P0 w) (nat_lit 11) (some (@Value.ref (nat_lit 6))) 1226 (S3 w os) (piecesQ ((b0.drop 12).take 5) env0 c0 (@Pos.mk (nat_lit 39) (nat_lit 0) (nat_lit 42) (nat_lit 26)) [topFrame q0]) = some (.next, S4 w os, c0, (@Pos.mk (nat_lit 59) (nat_lit 0) (nat_lit 62) (nat_lit 26))) := by kernel_rfl
theorem r_cut4 (w : World) (os : OsState) : seg (stQ P0 w) (nat_lit 11) (some (@Value.ref (nat_lit 6))) 1118 (S4 w os) (piecesQ ((b0.drop 17).take 5) env0 c0 (@Pos.mk (nat_lit 59) (nat_lit 0) (nat_lit 62) (nat_lit 26)) [topFrame q0]) = some (.next, S5 w os, c0, (@Pos.mk (nat_lit 77) (nat_lit 0) (nat_lit 78) (nat_lit 8))) := by kernel_rfl
theorem r_cut5 (w : World) (os : OsState) : seg (stQ P0 w) (nat_lit 11) (some (@Value.ref (nat_lit 6))) 1228 (S5 w os) (piecesQ ((b0.drop 22).take 5) env0 c0 (@Pos.mk (nat_lit 77) (nat_lit 0) (nat_lit 78) (nat_lit 8)) [topFrame q0]) = some (.next, S6 w os, c0, (@Pos.mk (nat_lit 96) (nat_lit 0) (nat_lit 99) (nat_lit 26))) := by kernel_rfl
theorem r_cut6 (w : World) (os : OsState) : seg (stQ P0 w) (nat_lit 11) (some (@Value.ref (nat_lit 6))) 518 (S6 w os) (piecesQ ((b0.drop 27).take 17) env0 c0 (@Pos.mk (nat_lit 96) (nat_lit 0) (nat_lit 99) (nat_lit 26)) [topFrame q0]) = some (.next, S7 w os, c0, (@Pos.mk (nat_lit 136) (nat_lit 0) (nat_lit 139) (nat_lit 77))) := by kernel_rfl
theorem r_cut7 (w : World) (os : OsState) : seg (stQ P0 w) (nat_lit 11) (some (@Value.ref (nat_lit 6))) 1283 (S7 w os) (piecesQ ((b0.drop 44).take 10) env0 c0 (@Pos.mk (nat_lit 136) (nat_lit 0) (nat_lit 139) (nat_lit 77)) [topFrame q0]) = some (.next, S8 w os, c0, (@Pos.mk (nat_lit 256) (nat_lit 0) (nat_lit 264) (nat_lit 108))) := by kernel_rfl
abbrev view0 : Program := view P0 [0, 2, 3, 4, 5, 6, 7, 8, 9, 10, 11, 12, 13, 14, 15, 16, 17, 18, 19, 20, 21, 22, 23, 24, 25, 26, 27, 28, 30, 31, 32, 33, 34, 35, 37, 38, 40, 42, 43, 44, 46, 47, 48, 49, 50, 51, 52, 53, 54, 55, 56, 57, 58, 59, 60, 61, 62]
def loose0 : List PySem.Str := ["first_wrong_of_names", "Look"]
def K0 : Params → Frag := fun P => (nat_lit 2, o2 P) :: (nat_lit 3, o3v7 P) :: (nat_lit 15, o15 P) :: (nat_lit 17, o17 P) :: (nat_lit 18, o18 P) :: (nat_lit 20, o20 P) :: (nat_lit 21, o21 P) :: (nat_lit 22, o22 P) :: (nat_lit 29, o29 P) :: (nat_lit 30, o30 P) :: (nat_lit 31, o31v3 P) :: (nat_lit 32, o32 P) :: (nat_lit 35, o35 P) :: (nat_lit 42, o42 P) :: (nat_lit 44, o44 P) :: (nat_lit 45, o45 P) :: (nat_lit 47, o47 P) :: (nat_lit 48, o48 P) :: (nat_lit 49, o49 P) :: (nat_lit 50, o50 P) :: (nat_lit 51, o51 P) :: (nat_lit 54, o54 P) :: (nat_lit 61, o61 P) :: (nat_lit 63, o63 P) :: (nat_lit 64, o64 P) :: (nat_lit 66, o66 P) :: (nat_lit 67, o67 P) :: (nat_lit 68, o68 P) :: (nat_lit 69, o69 P) :: (nat_lit 70, o70 P) :: (nat_lit 73, o73 P) :: (nat_lit 80, o80 P) :: (nat_lit 82, o82 P) :: (nat_lit 83, o83 P) :: (nat_lit 85, o85 P) :: (nat_lit 86, o86 P) :: (nat_lit 87, o87 P) :: (nat_lit 88, o88 P) :: (nat_lit 89, o89 P) :: (nat_lit 92, o92 P) :: (nat_lit 99, o99 P) :: (nat_lit 101, o101 P) :: (nat_lit 102, o102 P) :: (nat_lit 104, o104 P) :: (nat_lit 105, o105 P) :: (nat_lit 106, o106 P) :: (nat_lit 107, o107 P) :: (nat_lit 108, o108 P) :: (nat_lit 111, o111 P) :: (nat_lit 118, o118 P) :: (nat_lit 120, o120 P) :: (nat_lit 121, o121 P) :: (nat_lit 123, o123 P) :: (nat_lit 124, o124 P) :: (nat_lit 125, o125 P) :: (nat_lit 126, o126 P) :: (nat_lit 127, o127 P) :: (nat_lit 130, o130 P) :: (nat_lit 137, o137 P) :: (nat_lit 139, o139 P) :: (nat_lit 140, o140 P) :: (nat_lit 142, o142 P) :: (nat_lit 143, o143 P) :: (nat_lit 144, o144 P) :: (nat_lit 145, o145 P) :: (nat_lit 146, o146 P) :: (nat_lit 149, o149 P) :: (nat_lit 156, o156 P) :: (nat_lit 158, o158 P) :: (nat_lit 159, o159 P) :: (nat_lit 161, o161 P) :: (nat_lit 162, o162 P) :: (nat_lit 163, o163 P) :: (nat_lit 164, o164 P) :: (nat_lit 165, o165 P) :: (nat_lit 168, o168 P) :: (nat_lit 175, o175 P) :: (nat_lit 177, o177 P) :: (nat_lit 178, o178 P) :: (nat_lit 180, o180 P) :: (nat_lit 181, o181 P) :: (nat_lit 182, o182 P) :: (nat_lit 183, o183 P) :: (nat_lit 184, o184 P) :: (nat_lit 187, o187 P) :: (nat_lit 194, o194 P) :: (nat_lit 196, o196 P) :: (nat_lit 197, o197 P) :: (nat_lit 199, o199 P) :: (nat_lit 200, o200 P) :: (nat_lit 201, o201 P) :: (nat_lit 202, o202 P) :: (nat_lit 203, o203 P) :: (nat_lit 206, o206 P) :: (nat_lit 213, o213 P) :: (nat_lit 215, o215 P) :: (nat_lit 216, o216 P) :: (nat_lit 218, o218 P) :: (nat_lit 219, o219 P) :: (nat_lit 220, o220 P) :: (nat_lit 221, o221 P) :: (nat_lit 222, o222 P) :: (nat_lit 225, o225 P) :: (nat_lit 232, o232 P) :: (nat_lit 234, o234 P) :: (nat_lit 235, o235 P) :: (nat_lit 237, o237 P) :: (nat_lit 238, o238 P) :: (nat_lit 239, o239 P) :: (nat_lit 240, o240 P) :: (nat_lit 241, o241 P) :: (nat_lit 244, o244 P) :: (nat_lit 251, o251 P) :: (nat_lit 253, o253 P) :: (nat_lit 254, o254 P) :: (nat_lit 256, o256 P) :: (nat_lit 257, o257 P) :: (nat_lit 258, o258 P) :: (nat_lit 259, o259 P) :: (nat_lit 260, o260 P) :: (nat_lit 263, o263 P) :: (nat_lit 270, o270 P) :: (nat_lit 272, o272 P) :: (nat_lit 273, o273 P) :: (nat_lit 275, o275 P) :: (nat_lit 276, o276 P) :: (nat_lit 277, o277 P) :: (nat_lit 278, o278 P) :: (nat_lit 279, o279 P) :: (nat_lit 282, o282 P) :: (nat_lit 289, o289 P) :: (nat_lit 291, o291 P) :: (nat_lit 292, o292 P) :: (nat_lit 294, o294 P) :: (nat_lit 295, o295 P) :: (nat_lit 296, o296 P) :: (nat_lit 297, o297 P) :: (nat_lit 298, o298 P) :: (nat_lit 301, o301 P) :: (nat_lit 308, o308 P) :: (nat_lit 310, o310 P) :: (nat_lit 311, o311 P) :: (nat_lit 313, o313 P) :: (nat_lit 314, o314 P) :: (nat_lit 315, o315 P) :: (nat_lit 316, o316 P) :: (nat_lit 317, o317 P) :: (nat_lit 320, o320 P) :: (nat_lit 327, o327 P) :: (nat_lit 329, o329 P) :: (nat_lit 330, o330 P) :: (nat_lit 332, o332 P) :: (nat_lit 333, o333 P) :: (nat_lit 334, o334 P) :: (nat_lit 335, o335 P) :: (nat_lit 336, o336 P) :: (nat_lit 339, o339 P) :: (nat_lit 346, o346 P) :: (nat_lit 347, o347 P) :: (nat_lit 348, o348 P) :: (nat_lit 349, o349 P) :: (nat_lit 352, o352 P) :: (nat_lit 359, o359 P) :: (nat_lit 361, o361 P) :: (nat_lit 362, o362 P) :: (nat_lit 364, o364 P) :: (nat_lit 365, o365 P) :: (nat_lit 366, o366 P) :: (nat_lit 367, o367 P) :: (nat_lit 368, o368 P) :: (nat_lit 371, o371 P) :: (nat_lit 378, o378 P) :: (nat_lit 379, o379 P) :: (nat_lit 380, o380v2 P) :: (nat_lit 381, o381 P) :: (nat_lit 384, o384 P) :: (nat_lit 391, o391 P) :: (nat_lit 393, o393 P) :: (nat_lit 394, o394 P) :: (nat_lit 396, o396 P) :: (nat_lit 397, o397 P) :: (nat_lit 398, o398 P) :: (nat_lit 399, o399 P) :: (nat_lit 400, o400 P) :: (nat_lit 403, o403 P) :: (nat_lit 410, o410 P) :: (nat_lit 412, o412 P) :: (nat_lit 413, o413 P) :: (nat_lit 415, o415 P) :: (nat_lit 416, o416 P) :: (nat_lit 417, o417 P) :: (nat_lit 418, o418 P) :: (nat_lit 419, o419 P) :: (nat_lit 422, o422 P) :: (nat_lit 429, o429 P) :: (nat_lit 431, o431 P) :: (nat_lit 432, o432 P) :: (nat_lit 434, o434 P) :: (nat_lit 435, o435 P) :: (nat_lit 436, o436 P) :: (nat_lit 437, o437 P) :: (nat_lit 438, o438 P) :: (nat_lit 441, o441 P) :: (nat_lit 448, o448 P) :: (nat_lit 450, o450 P) :: (nat_lit 451, o451 P) :: (nat_lit 453, o453 P) :: (nat_lit 454, o454 P) :: (nat_lit 455, o455 P) :: (nat_lit 456, o456 P) :: (nat_lit 457, o457 P) :: (nat_lit 460, o460 P) :: (nat_lit 467, o467 P) :: (nat_lit 469, o469 P) :: (nat_lit 470, o470 P) :: (nat_lit 472, o472 P) :: (nat_lit 473, o473 P) :: (nat_lit 474, o474 P) :: (nat_lit 475, o475 P) :: (nat_lit 476, o476 P) :: (nat_lit 479, o479 P) :: (nat_lit 486, o486 P) :: (nat_lit 487, o487 P) :: (nat_lit 488, o488 P) :: (nat_lit 491, o491 P) :: (nat_lit 494, o494 P) :: (nat_lit 495, o495 P) :: (nat_lit 496, o496 P) :: (nat_lit 498, o498 P) :: (nat_lit 499, o499 P) :: (nat_lit 501, o501 P) :: (nat_lit 502, o502 P) :: (nat_lit 503, o503 P) :: (nat_lit 505, o505 P) :: (nat_lit 506, o506 P) :: (nat_lit 508, o508 P) :: (nat_lit 509, o509 P) :: (nat_lit 510, o510 P) :: (nat_lit 511, o511 P) :: (nat_lit 513, o513 P) :: (nat_lit 514, o514 P) :: (nat_lit 516, o516 P) :: (nat_lit 517, o517 P) :: (nat_lit 518, o518 P) :: (nat_lit 520, o520 P) :: (nat_lit 521, o521 P) :: (nat_lit 523, o523 P) :: (nat_lit 524, o524 P) :: (nat_lit 525, o525 P) :: (nat_lit 527, o527 P) :: (nat_lit 528, o528 P) :: (nat_lit 530, o530 P) :: (nat_lit 531, o531 P) :: (nat_lit 532, o532 P) :: (nat_lit 535, o535 P) :: (nat_lit 536, o536 P) :: (nat_lit 537, o537 P) :: (nat_lit 540, o540 P) :: (nat_lit 541, o541 P) :: (nat_lit 549, o549 P) :: (nat_lit 551, o551 P) :: (nat_lit 552, o552 P) :: (nat_lit 554, o554 P) :: (nat_lit 555, o555 P) :: (nat_lit 556, o556 P) :: (nat_lit 559, o559 P) :: (nat_lit 560, o560 P) :: (nat_lit 561, o561 P) :: (nat_lit 562, o562 P) :: (nat_lit 563, o563 P) :: (nat_lit 564, o564 P) :: (nat_lit 566, o566 P) :: (nat_lit 567, o567 P) :: (nat_lit 569, o569 P) :: (nat_lit 570, o570 P) :: (nat_lit 571, o571 P) :: (nat_lit 572, o572 P) :: (nat_lit 573, o573 P) :: (nat_lit 574, o574 P) :: (nat_lit 576, o576 P) :: (nat_lit 577, o577 P) :: (nat_lit 579, o579 P) :: (nat_lit 580, o580 P) :: (nat_lit 581, o581 P) :: (nat_lit 582, o582 P) :: (nat_lit 585, o585 P) :: (nat_lit 586, o586 P) :: (nat_lit 587, o587 P) :: (nat_lit 588, o588 P) :: (nat_lit 591, o591 P) :: (nat_lit 592, o592 P) :: (nat_lit 593, o593 P) :: (nat_lit 594, o594 P) :: (nat_lit 596, o596 P) :: (nat_lit 597, o597 P) :: (nat_lit 599, o599 P) :: (nat_lit 600, o600 P) :: (nat_lit 601, o601 P) :: (nat_lit 603, o603 P) :: (nat_lit 604, o604 P) :: (nat_lit 606, o606 P) :: (nat_lit 607, o607 P) :: (nat_lit 608, o608 P) :: (nat_lit 610, o610 P) :: (nat_lit 611, o611 P) :: (nat_lit 613, o613 P) :: (nat_lit 614, o614 P) :: (nat_lit 615, o615 P) :: (nat_lit 617, o617 P) :: (nat_lit 618, o618 P) :: (nat_lit 620, o620 P) :: (nat_lit 621, o621 P) :: (nat_lit 622, o622 P) :: (nat_lit 625, o625 P) :: (nat_lit 626, o626 P) :: (nat_lit 627, o627 P) :: (nat_lit 629, o629 P) :: (nat_lit 630, o630 P) :: (nat_lit 632, o632 P) :: (nat_lit 633, o633 P) :: (nat_lit 634, o634 P) :: (nat_lit 636, o636 P) :: (nat_lit 637, o637 P) :: (nat_lit 639, o639 P) :: (nat_lit 640, o640 P) :: (nat_lit 641, o641 P) :: (nat_lit 642, o642 P) :: (nat_lit 643, o643 P) :: (nat_lit 644, o644 P) :: (nat_lit 645, o645 P) :: (nat_lit 648, o648 P) :: (nat_lit 650, o650 P) :: (nat_lit 651, o651 P) :: (nat_lit 653, o653 P) :: (nat_lit 654, o654 P) :: (nat_lit 655, o655 P) :: (nat_lit 657, o657 P) :: (nat_lit 658, o658 P) :: (nat_lit 660, o660 P) :: (nat_lit 661, o661 P) :: (nat_lit 662, o662 P) :: (nat_lit 664, o664 P) :: (nat_lit 665, o665 P) :: (nat_lit 667, o667 P) :: (nat_lit 668, o668 P) :: (nat_lit 669, o669 P) :: (nat_lit 672, o672 P) :: (nat_lit 673, o673 P) :: (nat_lit 674, o674 P) :: (nat_lit 677, o677 P) :: (nat_lit 678, o678 P) :: (nat_lit 679, o679 P) :: (nat_lit 682, o682 P) :: (nat_lit 683, o683 P) :: (nat_lit 684, o684 P) :: (nat_lit 686, o686 P) :: (nat_lit 687, o687 P) :: (nat_lit 689, o689 P) :: (nat_lit 690, o690 P) :: (nat_lit 691, o691 P) :: (nat_lit 693, o693 P) :: (nat_lit 694, o694 P) :: (nat_lit 696, o696 P) :: (nat_lit 697, o697 P) :: (nat_lit 698, o698 P) :: (nat_lit 700, o700 P) :: (nat_lit 701, o701 P) :: (nat_lit 703, o703 P) :: (nat_lit 704, o704 P) :: (nat_lit 705, o705 P) :: (nat_lit 708, o708 P) :: (nat_lit 709, o709 P) :: (nat_lit 710, o710 P) :: (nat_lit 712, o712 P) :: (nat_lit 713, o713 P) :: (nat_lit 715, o715 P) :: (nat_lit 716, o716 P) :: (nat_lit 717, o717 P) :: (nat_lit 720, o720 P) :: (nat_lit 721, o721 P) :: (nat_lit 722, o722 P) :: (nat_lit 724, o724 P) :: (nat_lit 725, o725 P) :: (nat_lit 727, o727 P) :: (nat_lit 728, o728 P) :: (nat_lit 729, o729 P) :: (nat_lit 731, o731 P) :: (nat_lit 732, o732 P) :: (nat_lit 734, o734 P) :: (nat_lit 735, o735 P) :: (nat_lit 736, o736 P) :: (nat_lit 738, o738 P) :: (nat_lit 739, o739 P) :: (nat_lit 741, o741 P) :: (nat_lit 742, o742 P) :: (nat_lit 743, o743 P) :: (nat_lit 746, o746 P) :: (nat_lit 747, o747 P) :: (nat_lit 748, o748 P) :: (nat_lit 751, o751 P) :: (nat_lit 752, o752 P) :: []
def as0 : List Addr := [(nat_lit 2), (nat_lit 3), (nat_lit 15), (nat_lit 17), (nat_lit 18), (nat_lit 20), (nat_lit 21), (nat_lit 22), (nat_lit 29), (nat_lit 30), (nat_lit 31), (nat_lit 32), (nat_lit 35), (nat_lit 42), (nat_lit 44), (nat_lit 45), (nat_lit 47), (nat_lit 48), (nat_lit 49), (nat_lit 50), (nat_lit 51), (nat_lit 54), (nat_lit 61), (nat_lit 63), (nat_lit 64), (nat_lit 66), (nat_lit 67), (nat_lit 68), (nat_lit 69), (nat_lit 70), (nat_lit 73), (nat_lit 80), (nat_lit 82), (nat_lit 83), (nat_lit 85), (nat_lit 86), (nat_lit 87), (nat_lit 88), (nat_lit 89), (nat_lit 92), (nat_lit 99), (nat_lit 101), (nat_lit 102), (nat_lit 104), (nat_lit 105), (nat_lit 106), (nat_lit 107), (nat_lit 108), (nat_lit 111), (nat_lit 118), (nat_lit 120), (nat_lit 121), (nat_lit 123), (nat_lit 124), (nat_lit 125), (nat_lit 126), (nat_lit 127), (nat_lit 130), (nat_lit 137), (nat_lit 139), (nat_lit 140), (nat_lit 142), (nat_lit 143), (nat_lit 144), (nat_lit 145), (nat_lit 146), (nat_lit 149), (nat_lit 156), (nat_lit 158), (nat_lit 159), (nat_lit 161), (nat_lit 162), (nat_lit 163), (nat_lit 164), (nat_lit 165), (nat_lit 168), (nat_lit 175), (nat_lit 177), (nat_lit 178), (nat_lit 180), (nat_lit 181), (nat_lit 182), (nat_lit 183), (nat_lit 184), (nat_lit 187), (nat_lit 194), (nat_lit 196), (nat_lit 197), (nat_lit 199), (nat_lit 200), (nat_lit 201), (nat_lit 202), (nat_lit 203), (nat_lit 206), (nat_lit 213), (nat_lit 215), (nat_lit 216), (nat_lit 218), (nat_lit 219), (nat_lit 220), (nat_lit 221), (nat_lit 222), (nat_lit 225), (nat_lit 232), (nat_lit 234), (nat_lit 235), (nat_lit 237), (nat_lit 238), (nat_lit 239), (nat_lit 240), (nat_lit 241), (nat_lit 244), (nat_lit 251), (nat_lit 253), (nat_lit 254), (nat_lit 256), (nat_lit 257), (nat_lit 258), (nat_lit 259), (nat_lit 260), (nat_lit 263), (nat_lit 270), (nat_lit 272), (nat_lit 273), (nat_lit 275), (nat_lit 276), (nat_lit 277), (nat_lit 278), (nat_lit 279), (nat_lit 282), (nat_lit 289), (nat_lit 291), (nat_lit 292), (nat_lit 294), (nat_lit 295), (nat_lit 296), (nat_lit 297), (nat_lit 298), (nat_lit 301), (nat_lit 308), (nat_lit 310), (nat_lit 311), (nat_lit 313), (nat_lit 314), (nat_lit 315), (nat_lit 316), (nat_lit 317), (nat_lit 320), (nat_lit 327), (nat_lit 329), (nat_lit 330), (nat_lit 332), (nat_lit 333), (nat_lit 334), (nat_lit 335), (nat_lit 336), (nat_lit 339), (nat_lit 346), (nat_lit 347), (nat_lit 348), (nat_lit 349), (nat_lit 352), (nat_lit 359), (nat_lit 361), (nat_lit 362), (nat_lit 364), (nat_lit 365), (nat_lit 366), (nat_lit 367), (nat_lit 368), (nat_lit 371), (nat_lit 378), (nat_lit 379), (nat_lit 380), (nat_lit 381), (nat_lit 384), (nat_lit 391), (nat_lit 393), (nat_lit 394), (nat_lit 396), (nat_lit 397), (nat_lit 398), (nat_lit 399), (nat_lit 400), (nat_lit 403), (nat_lit 410), (nat_lit 412), (nat_lit 413), (nat_lit 415), (nat_lit 416), (nat_lit 417), (nat_lit 418), (nat_lit 419), (nat_lit 422), (nat_lit 429), (nat_lit 431), (nat_lit 432), (nat_lit 434), (nat_lit 435), (nat_lit 436), (nat_lit 437), (nat_lit 438), (nat_lit 441), (nat_lit 448), (nat_lit 450), (nat_lit 451), (nat_lit 453), (nat_lit 454), (nat_lit 455), (nat_lit 456), (nat_lit 457), (nat_lit 460), (nat_lit 467), (nat_lit 469), (nat_lit 470), (nat_lit 472), (nat_lit 473), (nat_lit 474), (nat_lit 475), (nat_lit 476), (nat_lit 479), (nat_lit 486), (nat_lit 487), (nat_lit 488), (nat_lit 491), (nat_lit 494), (nat_lit 495), (nat_lit 496), (nat_lit 498), (nat_lit 499), (nat_lit 501), (nat_lit 502), (nat_lit 503), (nat_lit 505), (nat_lit 506), (nat_lit 508), (nat_lit 509), (nat_lit 510), (nat_lit 511), (nat_lit 513), (nat_lit 514), (nat_lit 516), (nat_lit 517), (nat_lit 518), (nat_lit 520), (nat_lit 521), (nat_lit 523), (nat_lit 524), (nat_lit 525), (nat_lit 527), (nat_lit 528), (nat_lit 530), (nat_lit 531), (nat_lit 532), (nat_lit 535), (nat_lit 536), (nat_lit 537), (nat_lit 540), (nat_lit 541), (nat_lit 549), (nat_lit 551), (nat_lit 552), (nat_lit 554), (nat_lit 555), (nat_lit 556), (nat_lit 559), (nat_lit 560), (nat_lit 561), (nat_lit 562), (nat_lit 563), (nat_lit 564), (nat_lit 566), (nat_lit 567), (nat_lit 569), (nat_lit 570), (nat_lit 571), (nat_lit 572), (nat_lit 573), (nat_lit 574), (nat_lit 576), (nat_lit 577), (nat_lit 579), (nat_lit 580), (nat_lit 581), (nat_lit 582), (nat_lit 585), (nat_lit 586), (nat_lit 587), (nat_lit 588), (nat_lit 591), (nat_lit 592), (nat_lit 593), (nat_lit 594), (nat_lit 596), (nat_lit 597), (nat_lit 599), (nat_lit 600), (nat_lit 601), (nat_lit 603), (nat_lit 604), (nat_lit 606), (nat_lit 607), (nat_lit 608), (nat_lit 610), (nat_lit 611), (nat_lit 613), (nat_lit 614), (nat_lit 615), (nat_lit 617), (nat_lit 618), (nat_lit 620), (nat_lit 621), (nat_lit 622), (nat_lit 625), (nat_lit 626), (nat_lit 627), (nat_lit 629), (nat_lit 630), (nat_lit 632), (nat_lit 633), (nat_lit 634), (nat_lit 636), (nat_lit 637), (nat_lit 639), (nat_lit 640), (nat_lit 641), (nat_lit 642), (nat_lit 643), (nat_lit 644), (nat_lit 645), (nat_lit 648), (nat_lit 650), (nat_lit 651), (nat_lit 653), (nat_lit 654), (nat_lit 655), (nat_lit 657), (nat_lit 658), (nat_lit 660), (nat_lit 661), (nat_lit 662), (nat_lit 664), (nat_lit 665), (nat_lit 667), (nat_lit 668), (nat_lit 669), (nat_lit 672), (nat_lit 673), (nat_lit 674), (nat_lit 677), (nat_lit 678), (nat_lit 679), (nat_lit 682), (nat_lit 683), (nat_lit 684), (nat_lit 686), (nat_lit 687), (nat_lit 689), (nat_lit 690), (nat_lit 691), (nat_lit 693), (nat_lit 694), (nat_lit 696), (nat_lit 697), (nat_lit 698), (nat_lit 700), (nat_lit 701), (nat_lit 703), (nat_lit 704), (nat_lit 705), (nat_lit 708), (nat_lit 709), (nat_lit 710), (nat_lit 712), (nat_lit 713), (nat_lit 715), (nat_lit 716), (nat_lit 717), (nat_lit 720), (nat_lit 721), (nat_lit 722), (nat_lit 724), (nat_lit 725), (nat_lit 727), (nat_lit 728), (nat_lit 729), (nat_lit 731), (nat_lit 732), (nat_lit 734), (nat_lit 735), (nat_lit 736), (nat_lit 738), (nat_lit 739), (nat_lit 741), (nat_lit 742), (nat_lit 743), (nat_lit 746), (nat_lit 747), (nat_lit 748), (nat_lit 751), (nat_lit 752)]
theorem as0_eq (P : Params) : as0 = (K0 P).map (·.1) := by kernel_rfl
def ts0 : List Addr := [(nat_lit 737)]
abbrev X0 : Shared → Bool := fun s => xlAt view0 [] s && recOk (RowW.records (OpenRow.toRowW R0)) s
theorem r_last (w : World) (os : OsState) : (goF (stQ P0 w) (nat_lit 11) (some (@Value.ref (nat_lit 6))) 286 (S8 w os) (restQ (b0.drop 54) env0 c0 (@Pos.mk (nat_lit 256) (nat_lit 0) (nat_lit 264) (nat_lit 108)) [topFrame q0])).map (LooksM P0 view0 loose0 X0 as0 ts0 w) = some (GoodM view0 loose0 K0 ts0 w) := by kernel_rfl
theorem r_size (w : World) : (boot_heap w.params).objs.size = (nat_lit 11) := by kernel_rfl
theorem r_ann (w : World) : bootAnn w = (some (@Value.ref (nat_lit 6))) := by kernel_rfl
abbrev M0 : Nat := 12 + (1 + (1205 + (1226 + (1226 + (1118 + (1228 + (518 + (1283 + 286))))))))
theorem left0 : LeftO P0 view0 loose0 X0 (Hook.obs (kmHook K0 as0 as0_eq ts0)) (Hook.val (kmHook K0 as0 as0_eq ts0)) 17250 true := by
  refine left_cutsM (M := M0) (by kernel_rfl) (by rfl) (fun s => by kernel_rfl) (by rfl) fun w os => ?_
  obtain ⟨s, hs, hb⟩ := bootQ_ok (r_boot w os)
  obtain ⟨r, hr, hl⟩ := Option.map_eq_some_iff.mp (r_last w os)
  refine ⟨s, r, hs, ?_, hl⟩
  rw [r_size w, r_ann w]
  exact run_fore hb (run_block (r_block w os) (run_cut (i := 0) (j := 7) (k := 7) (b := b0) rfl (r_cut1 w os) (run_cut (i := 7) (j := 12) (k := 5) (b := b0) rfl (r_cut2 w os) (run_cut (i := 12) (j := 17) (k := 5) (b := b0) rfl (r_cut3 w os) (run_cut (i := 17) (j := 22) (k := 5) (b := b0) rfl (r_cut4 w os) (run_cut (i := 22) (j := 27) (k := 5) (b := b0) rfl (r_cut5 w os) (run_cut (i := 27) (j := 44) (k := 17) (b := b0) rfl (r_cut6 w os) (run_cut (i := 44) (j := 54) (k := 10) (b := b0) rfl (r_cut7 w os) (run_end hr)))))))))
end MHead
end
namespace MH
open PySem PySem.Spec PyProof.Rows L2
/-! ### frames -/
theorem _root_.L2.Same.sqt {K : PySem.W.Frag} {H H' : Hp} {a : Addr} {xs : List V} (e : Same H H') (h : SqT K H a xs) : SqT K H' a xs := by
  rcases h with (h | ⟨o, h⟩) | h
  · exact .inl (.inl (e _ _ h))
  · exact .inl (.inr ⟨o, e _ _ h⟩)
  · exact .inr h
theorem _root_.L2.Same.new {H : Hp} {p : Addr} {o : HO} (h : H p = none) : Same H (upd H p o) := fun b x e => by
  rw [upd_ne (ne_of_none e h)]
  exact e
theorem _root_.L2.Same.new' {H H1 : Hp} {p : Addr} {o : HO} (s : Same H H1) (h : H1 p = none) : Same H (upd H1 p o) := s.trans (Same.new h)
/-- all as it was but p -/
def SameB (p : Addr) (H H' : Hp) : Prop := ∀ b o, b ≠ p → H b = some o → H' b = some o
theorem SameB.of {p : Addr} {H H' : Hp} (s : Same H H') : SameB p H H' := fun b o _ e => s b o e
theorem SameB.refl (p : Addr) (H : Hp) : SameB p H H := fun _ _ _ e => e
theorem SameB.trans {p : Addr} {H H1 H2 : Hp} (a : SameB p H H1) (b : SameB p H1 H2) : SameB p H H2 := fun c o n e => b c o n (a c o n e)
theorem SameB.put {p : Addr} {H H1 : Hp} {o : HO} (s : SameB p H H1) : SameB p H (upd H1 p o) := fun b x n e => by
  rw [upd_ne n]
  exact s b x n e
theorem SameB.new {p q : Addr} {H H1 : Hp} {o : HO} (s : SameB p H H1) (h : H1 q = none) : SameB p H (upd H1 q o) := s.trans (SameB.of (Same.new h))
/-- a tuple stands where only a list changed -/
theorem SameB.sqt {K : PySem.W.Frag} {p a : Addr} {H H' : Hp} {xs ys : List V} (s : SameB p H H') (hp : H p = some (.lst ys)) (h : SqT K H a xs) : SqT K H' a xs := by
  rcases h with (h | ⟨o, h⟩) | h
  · exact .inl (.inl (s _ _ (ne_of h hp (by intro q; cases q)) h))
  · exact .inl (.inr ⟨o, s _ _ (ne_of h hp (by intro q; cases q)) h⟩)
  · exact .inr h
theorem tup_of {K : PySem.W.Frag} {H : Hp} {a : Addr} {xs : List V} (h : H a = some (.tup xs)) : SqT K H a xs := .inl (.inl h)
theorem frz_of {K : PySem.W.Frag} {H : Hp} {a : Addr} {o : Obj} {xs : List V} (h : H a = some (.frz o (.tup xs))) : SqT K H a xs := .inl (.inr ⟨o, h⟩)
theorem lst_of {K : PySem.W.Frag} {H : Hp} {a : Addr} {xs : List V} (h : H a = some (.lst xs)) : SqL K H a xs := .inl (.inl h)
theorem le_line {n : Nat} (h : n ≤ 100000) : n ≤ sizeLine := Nat.le_trans h (by decide)
theorem lt_line {n : Nat} (h : n < 100000) : n < sizeLine := Nat.lt_of_lt_of_le h (by decide)
/-! ### the urn -/
def Ur (H : Hp) (p : Addr) (n : Nat) : Prop := ∃ x y c : Int, H p = some (.lst [.int x, .int y, .int c]) ∧ 0 ≤ x ∧ 0 ≤ y ∧ y < 2305843009213693951 ∧ 0 ≤ c ∧ c ≤ n
theorem Ur.sqt {K : PySem.W.Frag} {H H' : Hp} {p a : Addr} {n : Nat} {xs : List V} (u : Ur H p n) (s : SameB p H H') (h : SqT K H a xs) : SqT K H' a xs := by
  obtain ⟨x, y, c, hp, _⟩ := u
  exact s.sqt hp h
theorem Ur.same {H H' : Hp} {p : Addr} {n : Nat} (u : Ur H p n) (s : Same H H') : Ur H' p n := by
  obtain ⟨x, y, c, hp, h⟩ := u
  exact ⟨x, y, c, s _ _ hp, h⟩
theorem Ur.mono {H : Hp} {p : Addr} {n m : Nat} (u : Ur H p n) (h : n ≤ m) : Ur H p m := by
  obtain ⟨x, y, c, hp, h1, h2, h3, h4, h5⟩ := u
  exact ⟨x, y, c, hp, h1, h2, h3, h4, by omega⟩
theorem Ur.put {H : Hp} {p q : Addr} {n : Nat} {o u : HO} (a : Ur H p n) (hq : H q = some u) (d : ∀ x y z : Int, u ≠ .lst [.int x, .int y, .int z]) : Ur (upd H q o) p n := by
  obtain ⟨x, y, c, hp, h⟩ := a
  have ne : p ≠ q := fun e => by
    subst e
    rw [hp] at hq
    exact d x y c (Option.some.inj hq).symm
  exact ⟨x, y, c, by rw [upd_ne ne]; exact hp, h⟩
/-- what is new stands apart from the urn -/
theorem Ur.ne {H : Hp} {p q : Addr} {n : Nat} (u : Ur H p n) (h : H q = none) : q ≠ p := fun e => by
  obtain ⟨x, y, c, hp, _⟩ := u
  rw [← e, h] at hp
  cases hp
def spDraw : Sp := fun vs H Q _ => ∃ (p : Addr) (m : Int) (n : Nat), vs = [.ref p, .int m] ∧ Ur H p n ∧ n ≤ 1000000000 ∧ 0 < m ∧ m < 1000000 ∧ ∀ d H', 0 ≤ d → d < m → SameB p H H' → Ur H' p (n + 1) → Q (.int d) H'
theorem ite2 {c : Bool} {A B : Prop} (a : c = true → A) (b : ¬ c = true → B) : if c = true then A else B := by
  by_cases h : c = true
  · rw [if_pos h]
    exact a h
  · rw [if_neg h]
    exact b h
section
variable {P : Program} {w : World} {K : PySem.W.Frag} {mg : Str → Option Value} {base : Heap}
theorem ok_l_draw (T : Tx K mg) : FnOk P w K mg base CX0 4 T.a_l_draw T.fd_l_draw ["_law_urn_here", "_law_many"] spDraw := by
  refine T.F_l_draw.ok sc_l_draw (fun vs H Q E h => ?_) (fun cdv A outer s H vs Q E hr h => ?_)
  · obtain ⟨p, m, n, rfl, _⟩ := h
    rfl
  · obtain ⟨p, m, n, rfl, ⟨x, y, c, hp, hx, hy, hy2, hc, hcn⟩, hn, hm, hm2, k⟩ := h
    refine ⟨_, (pss_cons (ps_asg (pe_op op_add (pe_ix ix_list (pv 0) pe_int (fun _ _ => rfl)) pe_int) (pg_sub (pv 0) pe_int set_list))
      (pss_cons (ps_set (i := 2) sc_l_draw.nd rfl (Or.inl rfl) (pe_callTy call_int1 (by rfl) T.n_int (by decide +kernel) (pa_cons (pe_op op_add (pe_op op_mul (pe_ix ix_list (pv 0) pe_int (fun _ _ => rfl)) pe_int) pe_int) pa_nil)))
      (pss_cons (ps_set (i := 2) sc_l_draw.nd rfl (Or.inl rfl) (pe_op op_add (pv 2) (pe_callTy call_int1 (by rfl) T.n_int (by decide +kernel) (pa_cons (pe_op op_mul (pe_op op_mul (pe_ix ix_list (pv 0) pe_int (fun _ _ => rfl)) (pe_ix ix_list (pv 0) pe_int (fun _ _ => rfl))) pe_int) pa_nil))))
      (pss_cons (ps_asg (pe_op op_mod (pe_callTy call_int1 (by rfl) T.n_int (by decide +kernel) (pa_cons (pv 2) pa_nil)) pe_int) (pg_sub (pv 0) pe_int set_list))
      (pss_cons (ps_if (pt_cmpR op_gt (pe_ix ix_list (pv 0) pe_int (fun _ _ => rfl)) pe_int (nomark _))
        (pss_cons (ps_asg (pe_callB call_divmod (by rfl) T.n_divmod (by decide +kernel) (pa_cons (pe_ix ix_list (pv 0) pe_int (fun _ _ => rfl)) (pa_cons (pv 1) pa_nil))) (pg_tup rfl (pgs_cons (pg_sub (pv 0) pe_int set_list) (pgs_cons (pg_name (i := 3) sc_l_draw.nd rfl (Or.inl rfl)) pgs_nil))))
      (pss_one (ps_ret (pv 3))))
        pss_nil)
      (pss_one (ps_ret (pe_op op_mod (pe_callTy call_int1 (by rfl) T.n_int (by decide +kernel) (pa_cons (pe_op op_fdivW (pe_ix ix_list (pv 0) pe_int (fun _ _ => rfl)) pe_int) pa_nil)) (pv 1))))))))), ?_⟩
    refine ⟨_, rfl, p, _, 2, _, rfl, rfl, lst_of hp, rfl, _, _, rfl, rfl, ?_⟩
    refine ⟨_, rfl, p, _, 2, 2, rfl, rfl, hp, rfl, ?_⟩
    have b1 : SameB p H (upd H p (.lst [.int x, .int y, .int (c + 1)])) := (SameB.refl p H).put
    have h1 : (upd H p (.lst [.int x, .int y, .int (c + 1)])) p = some (.lst [.int x, .int y, .int (c + 1)]) := upd_same
    change tSeq _ _ _ _ (upd H p (.lst [.int x, .int y, .int (c + 1)]))
    generalize upd H p (.lst [.int x, .int y, .int (c + 1)]) = H1 at b1 h1 ⊢
    refine ⟨_, rfl, p, _, 1, _, rfl, rfl, lst_of h1, rfl, _, _, rfl, rfl, .inl ⟨by omega, by omega⟩, _, _, rfl, rfl, .inl ⟨_, rfl, ?_⟩⟩
    generalize y * 1442695040888963407 + 1181783497276652981 = m1
    refine ⟨_, rfl, _, rfl, p, _, 2, _, rfl, rfl, lst_of h1, rfl, _, rfl, p, _, 2, _, rfl, rfl, lst_of h1, rfl, _, _, rfl, rfl, .inl ⟨by omega, by omega⟩, _, _, rfl, rfl, .inr ⟨by decide, by decide⟩, .inl ⟨_, rfl, _, _, rfl, rfl, ?_⟩⟩
    generalize (c + 1) * (c + 1) * 7046029254386353131 = m2
    refine ⟨_, rfl, .inl ⟨_, rfl, _, _, rfl, rfl, (by show (0 : Int) < 2305843009213693951; decide), _, rfl, p, _, 1, 1, rfl, rfl, h1, rfl, ?_⟩⟩
    have e0 : 0 ≤ (m1 + m2) % 2305843009213693951 := Int.emod_nonneg _ (by decide)
    have e1 : (m1 + m2) % 2305843009213693951 < 2305843009213693951 := Int.emod_lt_of_pos _ (by decide)
    change tSeq _ _ _ _ (upd H1 p (.lst [.int x, .int ((m1 + m2) % 2305843009213693951), .int (c + 1)]))
    generalize (m1 + m2) % 2305843009213693951 = z at e0 e1 ⊢
    have b2 : SameB p H (upd H1 p (.lst [.int x, .int z, .int (c + 1)])) := b1.put
    have h2 : (upd H1 p (.lst [.int x, .int z, .int (c + 1)])) p = some (.lst [.int x, .int z, .int (c + 1)]) := upd_same
    generalize upd H1 p (.lst [.int x, .int z, .int (c + 1)]) = H2 at b2 h2 ⊢
    refine ⟨_, rfl, p, _, 0, _, rfl, rfl, lst_of h2, rfl, _, _, rfl, rfl, _, rfl, ?_⟩
    refine ite2 (fun q => ?_) (fun q => ?_)
    · have q : 0 < x := of_decide_eq_true q
      refine ⟨_, rfl, p, _, 0, _, rfl, rfl, lst_of h2, rfl, _, rfl, _, _, rfl, ⟨hm, by omega⟩, fun t ht => ?_⟩
      have npt : p ≠ t := ne_of_none h2 ht
      refine ⟨t, _, rfl, tup_of upd_same, rfl, _, _, rfl, _, rfl, p, _, 0, 0, rfl, rfl, (by rw [upd_ne npt]; exact h2), rfl, _, _, rfl, rfl, ?_⟩
      refine ⟨_, rfl, ?_⟩
      refine k _ _ (Int.emod_nonneg _ (by omega)) (Int.emod_lt_of_pos _ hm) (b2.new ht).put ⟨x / m, z, c + 1, ?_, Int.ediv_nonneg hx (by omega), e0, e1, by omega, by omega⟩
      rw [upd_same]
      rfl
    · refine ⟨_, rfl, p, _, 1, _, rfl, rfl, lst_of h2, rfl, _, _, rfl, rfl, wide_div (b := 31) (by decide) (by decide) (by decide) (by decide), .inl ⟨_, rfl, _, rfl, _, _, rfl, rfl, hm, ?_⟩⟩
      exact k _ _ (Int.emod_nonneg _ (by omega)) (Int.emod_lt_of_pos _ hm) b2 ⟨x, z, c + 1, h2, hx, e0, e1, by omega, by omega⟩
end
end MH
namespace MH
open PySem PySem.Spec PyProof.Rows L2
theorem _root_.L2.Same.sql {K : PySem.W.Frag} {H H' : Hp} {a : Addr} {xs : List V} (e : Same H H') (h : SqL K H a xs) : SqL K H' a xs := by
  rcases h with (h | ⟨o, h⟩) | h
  · exact .inl (.inl (e _ _ h))
  · exact .inl (.inr ⟨o, e _ _ h⟩)
  · exact .inr h
theorem cutV_mem {xs : List V} {lo hi : Option Int} {x : V} (h : x ∈ cutV xs lo hi) : x ∈ xs := List.mem_of_mem_drop (List.mem_of_mem_take h)
def spUrn (K : PySem.W.Frag) : Sp := fun vs H Q _ => ∃ (a : Addr) (ns : List Int) (i : Nat), vs = [.ref a, .int i] ∧ SqL K H a (ns.map V.int) ∧ ns.length ≤ 63 ∧ i < 1000 ∧ ∀ H' p, Same H H' → H p = none → Ur H' p 0 → Q (.ref p) H'
section
variable {P : Program} {w : World} {K : PySem.W.Frag} {mg : Str → Option Value} {base : Heap}
theorem ok_l_urn (T : Tx K mg) : FnOk P w K mg base CX0 4 T.a_l_urn T.fd_l_urn ["_law_cells", "_law_k"] (spUrn K) := by
  refine T.F_l_urn.ok sc_l_urn (fun vs H Q E h => ?_) (fun cdv A outer s H vs Q E hr h => ?_)
  · obtain ⟨a, ns, i, rfl, _⟩ := h
    rfl
  · obtain ⟨a, ns, i, rfl, hS, hlen, hi, k⟩ := h
    refine ⟨_, (pss_cons (ps_set (i := 2) sc_l_urn.nd rfl (Or.inl rfl) (pe_op op_add (pe_op op_mul pe_int (pv 1)) pe_int))
      (pss_cons (ps_set (i := 3) sc_l_urn.nd rfl (Or.inl rfl) (pe_ifExp (pt_cmpR op_lt (pv 1) (pe_callB call_len_seq (by rfl) T.n_len (by decide +kernel) (pa_cons (pv 0) pa_nil)) (nomark _)) (pe_slice sl_list (pv 0) (po_some (pv 1)) (po_some (pe_op op_add (pv 1) pe_int))) (pe_slice sl_list (pv 0) po_none (po_some pe_int))))
      (pss_cons (ps_for PassesOwn.never rfl (pi_list (pv 3)) (pg_name (i := 4) sc_l_urn.nd rfl (Or.inl rfl))
        (pss_one (ps_set (i := 2) sc_l_urn.nd rfl (Or.inl rfl) (pe_op op_mod (pe_callTy call_int1 (by rfl) T.n_int (by decide +kernel) (pa_cons (pe_op op_add (pe_op op_mul (pv 2) pe_int) (pv 4)) pa_nil)) pe_int))))
      (pss_cons (ps_set (i := 5) sc_l_urn.nd rfl (Or.inl rfl) (pe_ifExp (PW.pt (pw_and (pt_cmpR op_lt (pv 1) (pe_callB call_len_seq (by rfl) T.n_len (by decide +kernel) (pa_cons (pv 0) pa_nil)) (nomark _)) (pw_and1 (pt_cmpR op_ge (pe_callB call_abs (by rfl) T.n_abs (by decide +kernel) (pa_cons (pe_ix ix_list (pv 0) (pv 1) (fun _ _ => rfl)) pa_nil)) (pe_op op_pow pe_int pe_int) (nomark _))))) (pe_callB call_abs (by rfl) T.n_abs (by decide +kernel) (pa_cons (pe_ix ix_list (pv 0) (pv 1) (fun _ _ => rfl)) pa_nil)) pe_int))
      (pss_one (ps_ret (pe_lst (pa_cons (pv 5) (pa_cons (pv 2) (pa_cons pe_int pa_nil)))))))))), ?_⟩
    refine ⟨_, rfl, _, _, rfl, rfl, .inl ⟨by decide, by decide⟩, _, _, rfl, rfl, ?_⟩
    refine ⟨_, rfl, _, rfl, a, _, rfl, .inl hS, _, _, rfl, rfl, _, rfl, ?_⟩
    refine ite2 (fun c => ?a1) (fun c => ?a2)
    case' a1 =>
      refine ⟨_, rfl, _, rfl, (i : Int), rfl, _, rfl, _, _, rfl, rfl, (i : Int) + 1, rfl, a, _, rfl, hS, fun q nq => ?_⟩
      generalize hcut : cutV (ns.map V.int) (some (i : Int)) (some ((i : Int) + 1)) = cs
    case' a2 =>
      refine ⟨_, rfl, 5, rfl, a, _, rfl, hS, fun q nq => ?_⟩
      generalize hcut : cutV (ns.map V.int) none (some 5) = cs
    all_goals
      have hcs : ∀ x ∈ cs, ∃ n : Int, x = V.int n := fun x hx => by
        rw [← hcut] at hx
        obtain ⟨n, _, e⟩ := List.mem_map.mp (cutV_mem hx)
        exact ⟨n, e.symm⟩
      have s1 : Same H (upd H q (.lst cs)) := Same.new nq
      have hq : (upd H q (.lst cs)) q = some (.lst cs) := upd_same
      clear hcut c
      generalize upd H q (.lst cs) = H1 at s1 hq ⊢
      have nqa : H q = none := nq
      refine ⟨_, rfl, q, rfl, ⟨_, lst_of hq⟩, for_list (K := K) (a := q) (xs := cs) (fun j σ H' => ∃ (y : Int) (v : Option V), σ = [some (.ref a), some (.int i), some (.int y), some (.ref q), v, none] ∧ 0 ≤ y ∧ y < 2305843009213693951 ∧ H' = H1)
        ⟨(69143 : Int) * i + 17, none, rfl, by omega, by omega, rfl⟩ (fun j σ H' _ ⟨_, _, _, _, _, e⟩ => by rw [e]; exact lst_of hq) ?_ ?_⟩
      · rintro j x σ H' hx ⟨y, v, rfl, h0, h1, rfl⟩
        obtain ⟨n, rfl⟩ := hcs x (List.mem_of_getElem? hx)
        refine ⟨_, rfl, _, _, rfl, rfl, .inl ⟨by omega, by omega⟩, _, rfl, _, _, rfl, rfl, .inl ⟨_, rfl, _, _, rfl, rfl, (by show (0 : Int) < 2305843009213693921; decide), ?_⟩⟩
        refine ⟨_, _, rfl, Int.emod_nonneg _ (by decide), ?_, rfl⟩
        have := Int.emod_lt_of_pos (y * 1103515293 + n) (show (0 : Int) < 2305843009213693921 by decide)
        omega
      · rintro σ H' ⟨y, v, rfl, h0, h1, rfl⟩
        have hS1 := s1.sql hS
        refine ⟨_, rfl, _, rfl, a, _, rfl, .inl hS1, _, _, rfl, rfl, _, rfl, ?_⟩
        have fin : ∀ g : Int, 0 ≤ g → ∀ t, H' t = none → Q (.ref t) (upd H' t (.lst [.int g, .int y, .int 0])) := fun g h t nt =>
          k _ _ (s1.new' nt) (s1.free nt) ⟨g, y, 0, upd_same, h, h0, h1, Int.le_refl 0, by simp⟩
        refine ite2 (fun c => ?_) (fun c => ?_)
        · have c : (i : Int) < ((ns.map V.int).length : Nat) := of_decide_eq_true c
          have c2 : i < ns.length := by
            rw [List.length_map] at c
            omega
          have g : (ns.map V.int)[i]? = some (.int ns[i]) := by
            rw [List.getElem?_map, List.getElem?_eq_getElem c2]
            rfl
          refine ⟨_, rfl, _, rfl, a, _, _, _, rfl, rfl, hS1, atI_nat g, _, rfl, _, _, rfl, rfl, ⟨by decide, by decide, by decide⟩, _, _, rfl, rfl, _, rfl, ?_⟩
          refine ite2 (fun c => ?_) (fun c => ?_)
          · refine ⟨_, rfl, _, rfl, a, _, _, _, rfl, rfl, hS1, atI_nat g, _, rfl, ?_⟩
            refine ⟨_, rfl, _, rfl, (by show 3 ≤ sizeLine; decide), fun t nt => ?_⟩
            refine fin _ ?_ t nt
            split <;> omega
          · exact ⟨_, rfl, _, rfl, (by show 3 ≤ sizeLine; decide), fun t nt => fin 0 (Int.le_refl 0) t nt⟩
        · exact ⟨_, rfl, _, rfl, (by show 3 ≤ sizeLine; decide), fun t nt => fin 0 (Int.le_refl 0) t nt⟩
end
end MH
namespace MH
open PySem PySem.Spec PyProof.Rows L2
def s36 : Str := "abcdefghijklmnopqrstuvwxyz0123456789"
theorem s36_len : s36.cps.toList.length = 36 := by decide +kernel
theorem s36_ok : ∀ d, d < 36 → (isL (s36.cps.toList.getD d 0) || isD (s36.cps.toList.getD d 0)) = true := by decide +kernel
theorem s36_l : ∀ d, d < 26 → isL (s36.cps.toList.getD d 0) = true := by decide +kernel
theorem s36_at {d : Nat} (h : d < 36) : s36.cps.toList[d]? = some (s36.cps.toList.getD d 0) := by
  rw [List.getD_eq_getElem?_getD, List.getElem?_eq_getElem (by rw [s36_len]; exact h)]
  rfl
theorem cps_app (z x : Str) : (z ++ x).cps.toList = z.cps.toList ++ x.cps.toList := by
  show (z.cps ++ x.cps).toList = _
  exact Array.toList_append
theorem len_cps (z : Str) : z.length = z.cps.toList.length := by
  show z.cps.size = _
  exact Array.length_toList.symm
theorem one_len (c : Nat) : (⟨#[c]⟩ : Str).length = 1 := rfl
theorem one_cps (c : Nat) : (⟨#[c]⟩ : Str).cps.toList = [c] := rfl
theorem nameOk_iff {z : Str} : nameOk z = true ↔ 1 ≤ z.length ∧ z.length ≤ 8 ∧ isL (z.cps.toList.getD 0 0) = true ∧ ∀ c ∈ z.cps.toList, (isL c || isD c) = true := by
  unfold nameOk
  simp only [Bool.and_eq_true, decide_eq_true_eq, List.all_eq_true]
theorem nameOk_one {c : Nat} (h : isL c = true) : nameOk ⟨#[c]⟩ = true := nameOk_iff.mpr ⟨Nat.le_refl 1, (by show 1 ≤ 8; decide), h, fun d hd => by
  rw [one_cps] at hd
  rw [List.mem_singleton.mp hd, h]
  rfl⟩
theorem nameOk_snoc {z : Str} {c : Nat} (h : nameOk z = true) (hl : z.length ≤ 7) (hc : (isL c || isD c) = true) : nameOk (z ++ ⟨#[c]⟩) = true := by
  obtain ⟨h1, h2, h3, h4⟩ := nameOk_iff.mp h
  have l : (z ++ (⟨#[c]⟩ : Str)).length = z.length + 1 := by
    rw [len_cps, cps_app, List.length_append, ← len_cps]
    rfl
  refine nameOk_iff.mpr ⟨by omega, by omega, ?_, fun d hd => ?_⟩
  · rw [cps_app]
    rw [len_cps] at h1
    generalize z.cps.toList = l at h1 h3
    cases l with
    | nil => simp at h1
    | cons a r => exact h3
  · rw [cps_app, one_cps] at hd
    rcases List.mem_append.mp hd with hd | hd
    · exact h4 d hd
    · rw [List.mem_singleton.mp hd]
      exact hc
theorem len_app1 (z : Str) (c : Nat) : (z ++ (⟨#[c]⟩ : Str)).length = z.length + 1 := by
  rw [len_cps, cps_app, List.length_append, ← len_cps]
  rfl
def spName : Sp := fun vs H Q _ => ∃ (p : Addr) (n : Nat), vs = [.ref p] ∧ Ur H p n ∧ n ≤ 900000000 ∧ ∀ z H', nameOk z = true → SameB p H H' → Ur H' p (n + 20) → Q (.str z) H'
/-- the names with their marks behind them -/
def markAt (ms : List Str) (sg : Str) (i : Nat) : Str := ms.getD i "" ++ ⟨#[sg.cps.toList.getD i 0]⟩
def lineOf (ms : List Str) (sg : Str) : Str := Txt.join " " ((List.range ms.length).map (markAt ms sg))
def spText (K : PySem.W.Frag) : Sp := fun vs H Q _ => ∃ (q t : Addr) (ms : List Str) (sg : Str), vs = [.ref q] ∧ SqT K H q [.ref t, .str sg] ∧ SqT K H t (ms.map V.str) ∧ ms.length ≤ 100 ∧ sg.cps.toList.length = ms.length ∧ (∀ z ∈ ms, z.length ≤ 100) ∧ ∀ H', Same H H' → Q (.str (lineOf ms sg)) H'
section
variable {P : Program} {w : World} {K : PySem.W.Frag} {mg : Str → Option Value} {base : Heap}
theorem ok_l_name (T : Tx K mg) : FnOk P w K mg base CX0 5 T.a_l_name T.fd_l_name ["_law_urn_here"] spName := by
  refine T.F_l_name.ok sc_l_name (fun vs H Q E h => ?_) (fun cdv A outer s H vs Q E hr h => ?_)
  · obtain ⟨p, n, rfl, _⟩ := h
    rfl
  · obtain ⟨p, n, rfl, u, hn, k⟩ := h
    refine ⟨_, (pss_cons (ps_set (i := 1) sc_l_name.nd rfl (Or.inl rfl) pe_str)
      (pss_cons (ps_set (i := 2) sc_l_name.nd rfl (Or.inl rfl) (pe_ix ix_str (pv 1) (pe_call (ok_l_draw T) (hr.mono (by decide)) rfl T.g_l_draw T.F_l_draw.kp T.b_l_draw .nil pass0 (pa_cons (pv 0) (pa_cons pe_int pa_nil))) (fun _ _ => rfl)))
      (pss_cons (ps_for PassesOwn.never rfl (pi_range1 (by rfl) T.n_range (pa_cons (pe_op op_fdiv (pe_call (ok_l_draw T) (hr.mono (by decide)) rfl T.g_l_draw T.F_l_draw.kp T.b_l_draw .nil pass0 (pa_cons (pv 0) (pa_cons pe_int pa_nil))) (pe_op op_add pe_int (pe_call (ok_l_draw T) (hr.mono (by decide)) rfl T.g_l_draw T.F_l_draw.kp T.b_l_draw .nil pass0 (pa_cons (pv 0) (pa_cons pe_int pa_nil))))) pa_nil)) (pg_name (i := 3) sc_l_name.nd rfl (Or.inl rfl))
        (pss_one (ps_set (i := 2) sc_l_name.nd rfl (Or.inl rfl) (pe_op op_add_str (pv 2) (pe_ix ix_str (pv 1) (pe_call (ok_l_draw T) (hr.mono (by decide)) rfl T.g_l_draw T.F_l_draw.kp T.b_l_draw .nil pass0 (pa_cons (pv 0) (pa_cons pe_int pa_nil))) (fun _ _ => rfl))))))
      (pss_one (ps_ret (pv 2)))))), ?_⟩
    refine ⟨_, rfl, _, rfl, p, 26, n, rfl, u, by omega, by decide, by decide, fun d H1 d0 d1 sb1 u1 => ?_⟩
    obtain ⟨d, rfl⟩ : ∃ e : Nat, d = e := ⟨d.toNat, by omega⟩
    refine ⟨s36, d, _, rfl, rfl, (by decide +kernel), atI_nat (s36_at (by omega)), ?_⟩
    have hz0 := nameOk_one (s36_l d (by omega))
    have hz1 := one_len (s36.cps.toList.getD d 0)
    generalize (⟨#[s36.cps.toList.getD d 0]⟩ : Str) = z0 at hz0 hz1 ⊢
    refine ⟨_, rfl, p, 8, n + 1, rfl, u1, by omega, by decide, by decide, fun a1 H2 a0 a8 sb2 u2 => ⟨_, rfl, p, 3, n + 2, rfl, u2, by omega, by decide, by decide, fun a2 H3 b0 b3 sb3 u3 => ?_⟩⟩
    refine ⟨_, _, rfl, rfl, _, _, rfl, rfl, ⟨by omega, by omega⟩, ?_⟩
    have q0 : 0 ≤ a1 / (1 + a2) := Int.ediv_nonneg a0 (by omega)
    have q1 : a1 / (1 + a2) ≤ a1 := Int.ediv_le_self _ a0
    refine ⟨_, rfl, by omega, by omega, for_range (lo := 0) (n := (a1 / (1 + a2)).toNat) (fun i σ H' => ∃ (z : Str) (v : Option V), σ = [some (.ref p), some (.str s36), some (.str z), v] ∧ nameOk z = true ∧ z.length = i + 1 ∧ i ≤ 7 ∧ SameB p H H' ∧ Ur H' p (n + 3 + i))
      ⟨z0, none, rfl, hz0, hz1, by omega, (sb1.trans sb2).trans sb3, u3⟩ ?_ ?_⟩
    · rintro i σ H' hi ⟨z, v, rfl, hz, hl, h7, sb, u'⟩
      refine ⟨_, rfl, _, rfl, _, rfl, p, 36, n + 3 + i, rfl, u', by omega, by decide, by decide, fun e H4 e0 e1 sb4 u4 => ?_⟩
      obtain ⟨e, rfl⟩ : ∃ f : Nat, e = f := ⟨e.toNat, by omega⟩
      refine ⟨s36, e, _, rfl, rfl, (by decide +kernel), atI_nat (s36_at (by omega)), ?_⟩
      refine ⟨z, _, rfl, rfl, le_line (by rw [one_len]; omega), ?_⟩
      exact ⟨_, _, rfl, nameOk_snoc hz (by omega) (s36_ok e (by omega)), by rw [len_app1, hl], by omega, sb.trans sb4, u4⟩
    · rintro σ H' ⟨z, v, rfl, hz, hl, h7, sb, u'⟩
      exact ⟨_, rfl, k z H' hz sb (u'.mono (by omega))⟩
end
end MH
namespace MH
open PySem PySem.Spec PyProof.Rows L2
theorem inV_strs (z : Str) : ∀ ss : List Str, inV (.str z) (ss.map V.str) = decide (z ∈ ss)
  | [] => rfl
  | y :: r => by
    have ih := inV_strs z r
    show (y == z || inV (.str z) (r.map V.str)) = decide (z ∈ y :: r)
    rw [ih]
    by_cases e : y = z
    · subst e
      simp
    · have e2 : ¬ z = y := fun q => e q.symm
      simp [e, e2]
theorem flat_strs (ss : List Str) : (ss.map V.str).all flatV = true := by
  rw [List.all_eq_true]
  intro v hv
  obtain ⟨z, _, rfl⟩ := List.mem_map.mp hv
  rfl
theorem iteN {A B : Prop} (b : B) : if false = true then A else B := by
  rw [if_neg Bool.false_ne_true]
  exact b
theorem sum_le {n : Nat} : ∀ l : List Str, (∀ z ∈ l, z.length ≤ n) → (l.map (·.length)).sum ≤ l.length * n
  | [], _ => by simp
  | z :: r, h => by
    have a := h z List.mem_cons_self
    have b := sum_le r fun y hy => h y (List.mem_cons_of_mem _ hy)
    rw [List.map_cons, List.sum_cons, List.length_cons, Nat.add_mul]
    omega
theorem a0z_ok : ∀ e, e < 3 → (isL (("a0z" : Str).cps.toList.getD e 0) || isD (("a0z" : Str).cps.toList.getD e 0)) = true := by decide +kernel
def elev : Str := "abcdefghijk"
def elevs : List Str := elev.cps.toList.map fun c => ⟨#[c]⟩
theorem elevs_nd : elevs.Nodup := by decide +kernel
theorem elevs_ok : ∀ z ∈ elevs, nameOk z = true := by decide +kernel
theorem elevs_len : elevs.length = 11 := by decide +kernel
theorem spare_ne {found : List Str} (h : found.length ≤ 10) : (elevs.filter fun z => !decide (z ∈ found)) ≠ [] := by
  intro e
  have all : ∀ z ∈ elevs, z ∈ found := fun z hz => by
    have q := List.filter_eq_nil_iff.mp e z hz
    simpa using q
  have q := List.Nodup.length_le_of_subset elevs_nd (fun z hz => all z hz : elevs ⊆ found)
  rw [elevs_len] at q
  omega
def spNames (K : PySem.W.Frag) : Sp := fun vs H Q _ => ∃ (p : Addr) (m n : Nat), vs = [.ref p, .int (m : Nat)] ∧ Ur H p n ∧ n ≤ 800000000 ∧ m ≤ 11 ∧ ∀ (ys : List Str) (t : Addr) H', ys.Nodup → sortedS ys = true → (∀ z ∈ ys, nameOk z = true) → ys.length = m → SameB p H H' → Ur H' p (n + 300) → SqT K H' t (ys.map V.str) → Q (.ref t) H'
section
variable {P : Program} {w : World} {K : PySem.W.Frag} {mg : Str → Option Value} {base : Heap}
theorem ok_l_text (T : Tx K mg) : FnOk P w K mg base CX0 4 T.a_l_text T.fd_l_text ["_law_pair"] (spText K) := by
  refine T.F_l_text.ok sc_l_text (fun vs H Q E h => ?_) (fun cdv A outer s H vs Q E hr h => ?_)
  · obtain ⟨q, t, ms, sg, rfl, _⟩ := h
    rfl
  · obtain ⟨q, t, ms, sg, rfl, hq, hT, hl, hsg, hms, k⟩ := h
    refine ⟨_, (pss_one (ps_ret (pe_join pe_str (pe_lc (own := [("_law_k", 1)]) (g := gName 1) (tt := tYes) rfl sc_l_text.nd (pi_range1 (by rfl) T.n_range (pa_cons (pe_callB call_len_seq (by rfl) T.n_len (by decide +kernel) (pa_cons (pe_ix ix_tup (pv 0) pe_int (fun _ _ => rfl)) pa_nil)) pa_nil)) (blkOk_by (own := [("_law_k", 1)]) (N := names_l_text) (sc := defScope st_l_text) (by decide +kernel)) (fun _ _ _ _ _ => pg_name (i := 1) sc_l_text.nd rfl (Or.inl rfl)) (fun _ _ _ _ _ => pts_nil) (fun _ _ _ _ _ => (pe_op op_add_str (pe_ix (r := rIxT K) ix_tup (pe_ix (r := rIxT K) ix_tup (pv 0) pe_int (fun _ _ => rfl)) (pv 1) (fun _ _ => rfl)) (pe_ix ix_str (pe_ix (r := rIxT K) ix_tup (pv 0) pe_int (fun _ _ => rfl)) (pv 1) (fun _ _ => rfl)))))))), ?_⟩
    have hl2 : (ms.map V.str).length = ms.length := List.length_map _
    refine ⟨⟨_, rfl⟩, _, rfl, q, _, 0, _, rfl, rfl, hq, rfl, t, _, rfl, .inr hT, _, rfl, ?_, ?_, fun D nD => lc_range (lo := 0) (n := _) (fun i H' => Same H H' ∧ H' D = some (.lst (((List.range i).map (markAt ms sg)).map V.str))) ⟨Same.new nD, upd_same⟩ ?_ ?_⟩
    · omega
    · omega
    · rintro i H1 hi ⟨s1, e1⟩
      have hi : i < ms.length := by omega
      refine ⟨rfl, ?_⟩
      rw [show (0 : Int) + (i : Int) = ((i : Nat) : Int) from Int.zero_add _]
      have g1 : (ms.map V.str)[i]? = some (.str (ms.getD i "")) := by
        rw [List.getElem?_map, List.getD_eq_getElem?_getD, List.getElem?_eq_getElem hi]
        rfl
      have g2 : sg.cps.toList[i]? = some (sg.cps.toList.getD i 0) := by
        rw [List.getD_eq_getElem?_getD, List.getElem?_eq_getElem (by omega)]
        rfl
      have g3 : (ms.getD i "").length ≤ 100 := by
        rw [List.getD_eq_getElem?_getD, List.getElem?_eq_getElem hi]
        exact hms _ (List.getElem_mem hi)
      refine ⟨_, rfl, q, _, 0, _, rfl, rfl, s1.sqt hq, rfl, _, rfl, t, _, _, _, rfl, rfl, s1.sqt hT, atI_nat g1, _, rfl, q, _, 1, _, rfl, rfl, s1.sqt hq, rfl, _, rfl, sg, i, _, rfl, rfl, ?_, atI_nat g2, _, _, rfl, rfl, le_line (by rw [one_len]; omega), ?_⟩
      · rw [len_cps, hsg]
        exact le_line (by omega)
      refine ⟨_, e1, lt_line (by rw [List.length_map, List.length_map, List.length_range]; omega), fun b o e => ?_, ?_⟩
      · rw [upd_ne (ne_of_none e nD)]
        exact s1 _ _ e
      · rw [upd_same, List.range_succ, List.map_append, List.map_append]
        rfl
    · rintro H1 ⟨s1, e1⟩
      have en : ((((ms.map V.str).length : Nat) : Int) - 0).toNat = ms.length := by omega
      refine ⟨" ", D, (List.range ms.length).map (markAt ms sg), rfl, rfl, .inl (lst_of ?_), ?_, k H1 s1⟩
      · rw [e1, show ((((ms.map V.str).length : Nat) : Int)).toNat = ms.length by omega]
      · have q := sum_le (n := 101) ((List.range ms.length).map (markAt ms sg)) fun z hz => by
          obtain ⟨i, hi, rfl⟩ := List.mem_map.mp hz
          have hi := List.mem_range.mp hi
          unfold markAt
          rw [len_app1, List.getD_eq_getElem?_getD, List.getElem?_eq_getElem hi]
          have := hms _ (List.getElem_mem hi)
          show (ms[i]).length + 1 ≤ 101
          omega
        rw [List.length_map, List.length_range] at q ⊢
        have e1 : (" " : Str).length = 1 := by decide +kernel
        rw [e1]
        omega
theorem ok_l_names (T : Tx K mg) : FnOk P w K mg base CX0 6 T.a_l_names T.fd_l_names ["_law_urn_here", "_law_many"] (spNames K) := by
  refine T.F_l_names.ok sc_l_names (fun vs H Q E h => ?_) (fun cdv A outer s H vs Q E hr h => ?_)
  · obtain ⟨p, m, n, rfl, _⟩ := h
    rfl
  · obtain ⟨p, m, n, rfl, u, hn, hm, k⟩ := h
    refine ⟨_, (pss_cons (ps_set (i := 2) sc_l_names.nd rfl (Or.inr rfl) (pe_lst pa_nil))
      (pss_cons (ps_for PassesOwn.never rfl (pi_range1 (by rfl) T.n_range (pa_cons (pv 1) pa_nil)) (pg_name (i := 3) sc_l_names.nd rfl (Or.inl rfl))
        (pss_cons (ps_set (i := 4) sc_l_names.nd rfl (Or.inl rfl) (pe_call (ok_l_name T) (hr.mono (by decide)) rfl T.g_l_name T.F_l_name.kp T.b_l_name .nil pass0 (pa_cons (pv 0) pa_nil)))
      (pss_cons (ps_if (PW.pt (pw_and (pt_cmpR op_gt (pv 3) pe_int (nomark _)) (pw_and (pt_cmpR op_lt (pe_callB call_len_str (by rfl) T.n_len (by decide +kernel) (pa_cons (pe_ix ix_list (pv 2) (pe_un un_neg pe_int) (fun _ _ => rfl)) pa_nil)) pe_int (nomark _)) (pw_and1 (pt_cmpR op_eq (pe_call (ok_l_draw T) (hr.mono (by decide)) rfl T.g_l_draw T.F_l_draw.kp T.b_l_draw .nil pass0 (pa_cons (pv 0) (pa_cons pe_int pa_nil))) pe_int (nomark _))))))
        (pss_one (ps_set (i := 4) sc_l_names.nd rfl (Or.inl rfl) (pe_op op_add_str (pe_ix ix_list (pv 2) (pe_un un_neg pe_int) (fun _ _ => rfl)) (pe_ix ix_str pe_str (pe_call (ok_l_draw T) (hr.mono (by decide)) rfl T.g_l_draw T.F_l_draw.kp T.b_l_draw .nil pass0 (pa_cons (pv 0) (pa_cons pe_int pa_nil))) (fun _ _ => rfl)))))
        pss_nil)
      (pss_cons (ps_setLc (i := 5) (own := [("_law_sign_here", 6)]) (g := gName 6) (tt := tTest (tOp (rIn K true) (tVar 6) (tVar 2))) rfl sc_l_names.nd rfl rfl (sw_true rfl rfl rfl (by decide +kernel)) (pi_str pe_str) (blkOk_by (own := [("_law_sign_here", 6)]) (N := names_l_names) (sc := defScope st_l_names) (by decide +kernel)) (fun _ _ _ _ _ => pg_name (i := 6) sc_l_names.nd rfl (Or.inl rfl)) (fun _ _ _ _ _ => pts_one (pt_cmpR op_notIn_seq (pv 6) (pv 2) (by rfl))) (fun _ _ _ _ _ => (pv 6)))
      (pss_one (ps_expr (pe_bm PySem.F.plainAttrs_list PySem.F.slot_list_append PySem.F.type_list_append mt_append (pv 2) (pa_cons (pe_ifExp (pt_cmpR op_in_seq (pv 4) (pv 2) (by rfl)) (pe_ix ix_list (pv 5) pe_int (fun _ _ => rfl)) (pv 4)) pa_nil))))))))
      (pss_one (ps_ret (pe_callTy call_tupF (by rfl) T.n_tuple (by decide +kernel) (pa_cons (pe_callB cr_sortedS (by rfl) T.n_sorted (by decide +kernel) (pa_cons (pv 2) pa_nil)) pa_nil)))))), ?_⟩
    refine ⟨Nat.zero_le _, fun fo nfo => ?_⟩
    have nfp : fo ≠ p := u.ne nfo
    refine ⟨_, rfl, (m : Int), rfl, by omega, by omega, for_range (lo := 0) (n := ((m : Nat) : Int).toNat) (fun i σ H' => ∃ (found : List Str) (v3 v4 v5 : Option V), σ = [some (.ref p), some (.int (m : Nat)), some (.ref fo), v3, v4, v5, none] ∧
      H' fo = some (.lst (found.map V.str)) ∧ found.Nodup ∧ (∀ z ∈ found, nameOk z = true) ∧ found.length = i ∧ SameB p H H' ∧ Ur H' p (n + 25 * i))
      ⟨[], none, none, none, rfl, upd_same, List.nodup_nil, fun z hz => (nomatch hz), rfl, .of (Same.new nfo), u.same (Same.new nfo)⟩ ?_ ?_⟩
    · rintro i σ H' hi ⟨found, v3, v4, v5, rfl, hf, nd, ok, hlen, sb, u'⟩
      have hi : i < m := by omega
      refine ⟨_, rfl, p, n + 25 * i, rfl, u', by omega, fun z H1 hz sb1 u1 => ?_⟩
      have hf1 := sb1 _ _ nfp hf
      refine ⟨_, rfl, _, _, rfl, rfl, _, rfl, ite2 (fun c => ?b1) (fun c => ?e1)⟩
      case' e1 =>
        refine iteN ?_
        have hw := hz
        have hfx := hf1
        have sbx := sb.trans sb1
        have ux := u1.mono (m := n + 25 * i + 24) (by omega)
        generalize z = w at hw ⊢
        generalize H1 = Hx at hfx sbx ux ⊢
      case' b1 =>
        have c : (0 : Int) < 0 + (i : Nat) := of_decide_eq_true c
        obtain ⟨f0, l, ef⟩ : ∃ f0 l, found = f0 ++ [l] := by
          rcases List.eq_nil_or_concat found with e | ⟨f0, l, e⟩
          · rw [e] at hlen
            simp at hlen
            omega
          · exact ⟨f0, l, by rw [e]; simp⟩
        have hl := ok l (by rw [ef]; simp)
        have hl8 := (nameOk_iff.mp hl).2.1
        have at1 : atI (found.map V.str) (-1) = some (.str l) := by
          rw [ef, List.map_append]
          exact atI_last _ _
        refine ⟨_, rfl, _, rfl, fo, _, _, _, rfl, rfl, lst_of hf1, at1, l, rfl, le_line (by omega), _, _, rfl, rfl, _, rfl, ite2 (fun c2 => ?b2) (fun c2 => ?e2)⟩
      case' e2 =>
        refine iteN ?_
        have hw := hz
        have hfx := hf1
        have sbx := sb.trans sb1
        have ux := u1.mono (m := n + 25 * i + 24) (by omega)
        generalize z = w at hw ⊢
        generalize H1 = Hx at hfx sbx ux ⊢
      case' b2 =>
        have c2 : (l.length : Int) < 8 := of_decide_eq_true c2
        refine ⟨_, rfl, p, 4, n + 25 * i + 20, rfl, u1, by omega, by decide, by decide, fun d H2 d0 d4 sb2 u2 => ⟨rfl, _, rfl, ite2 (fun c3 => ?b3) (fun c3 => ?e3)⟩⟩
      case' e3 =>
        have hw := hz
        have hfx := sb2 _ _ nfp hf1
        have sbx := (sb.trans sb1).trans sb2
        have ux := u2.mono (m := n + 25 * i + 24) (by omega)
        generalize z = w at hw ⊢
        generalize H2 = Hx at hfx sbx ux ⊢
      case' b3 =>
        have hf2 := sb2 _ _ nfp hf1
        refine ⟨_, rfl, _, rfl, fo, _, _, _, rfl, rfl, lst_of hf2, at1, _, rfl, p, 3, n + 25 * i + 21, rfl, u2, by omega, by decide, by decide, fun d' H3 d0' d3' sb3 u3 => ?_⟩
        obtain ⟨e, rfl⟩ : ∃ e : Nat, d' = e := ⟨d'.toNat, by omega⟩
        have h3 : e < 3 := by omega
        have hs : (isL (("a0z" : Str).cps.toList.getD e 0) || isD (("a0z" : Str).cps.toList.getD e 0)) = true := by
          exact a0z_ok e h3
        have hat : ("a0z" : Str).cps.toList[e]? = some (("a0z" : Str).cps.toList.getD e 0) := by
          rw [List.getD_eq_getElem?_getD, List.getElem?_eq_getElem (by rw [show ("a0z" : Str).cps.toList.length = 3 by decide +kernel]; exact h3)]
          rfl
        refine ⟨"a0z", e, _, rfl, rfl, (by decide +kernel), atI_nat hat, l, _, rfl, rfl, le_line (by rw [one_len]; omega), ?_⟩
        have hw := nameOk_snoc hl (by omega) hs
        have hfx := sb3 _ _ nfp hf2
        have sbx := ((sb.trans sb1).trans sb2).trans sb3
        have ux := u3.mono (m := n + 25 * i + 24) (by omega)
        generalize l ++ ⟨#[("a0z" : Str).cps.toList.getD e 0]⟩ = w at hw ⊢
        generalize H3 = Hx at hfx sbx ux ⊢
      all_goals
        refine ⟨elev, rfl, fun D nD => lc_it (w := walk_str) (fun j H' => Same Hx H' ∧ H' D = some (.lst (((elevs.take j).filter fun y => !decide (y ∈ found)).map V.str))) ⟨Same.new nD, upd_same⟩ (fun _ _ _ _ => trivial) ?_ ?_⟩
        · rintro j x H5 H6 hj ⟨s5, e5⟩ ⟨rfl, cc, hcc, rfl⟩
          refine ⟨rfl, ?_⟩
          have hy : elevs[j]? = some (⟨#[cc]⟩ : Str) := by
            unfold elevs
            rw [List.getElem?_map, show elev.cps.toList[j]? = some cc from by simpa using hcc]
            rfl
          have tk : elevs.take (j + 1) = elevs.take j ++ [(⟨#[cc]⟩ : Str)] := by
            rw [List.take_add_one, hy]
            rfl
          refine ⟨_, rfl, _, rfl, fo, _, rfl, .inl (lst_of (s5 _ _ hfx)), rfl, flat_strs found, _, rfl, ?_⟩
          have iv : inV (.str (⟨#[cc]⟩ : Str)) (found.map V.str) = decide ((⟨#[cc]⟩ : Str) ∈ found) := inV_strs _ found
          refine ite2 (fun c => ?_) (fun c => ?_)
          · have c : (!inV (.str (⟨#[cc]⟩ : Str)) (found.map V.str)) = true := c
            rw [iv] at c
            have hj10 : ((elevs.take j).filter fun y => !decide (y ∈ found)).length ≤ 11 := by
              have q1 := List.length_filter_le (fun y => !decide (y ∈ found)) (elevs.take j)
              rw [List.length_take, elevs_len] at q1
              omega
            refine ⟨_, rfl, _, e5, lt_line (by rw [List.length_map]; omega), fun b o e => ?_, ?_⟩
            · rw [upd_ne (ne_of_none e nD)]
              exact s5 _ _ e
            · rw [upd_same, tk, List.filter_append, List.map_append]
              simp only [List.filter, c]
              rfl
          · have c : ¬ (!inV (.str (⟨#[cc]⟩ : Str)) (found.map V.str)) = true := c
            rw [iv] at c
            refine ⟨s5, ?_⟩
            rw [e5, tk, List.filter_append]
            have c' : (!decide ((⟨#[cc]⟩ : Str) ∈ found)) = false := by simpa using c
            simp only [List.filter, c', List.append_nil]
        · rintro H5 ⟨s5, e5⟩
          rw [show elev.cps.size = 11 by decide +kernel, show elevs.take 11 = elevs from List.take_of_length_le (by rw [elevs_len]; omega)] at e5
          have hf5 := s5 _ _ hfx
          obtain ⟨y0, yr, ey⟩ := List.exists_cons_of_ne_nil (spare_ne (found := found) (by omega))
          have y0m : y0 ∈ elevs ∧ ¬ y0 ∈ found := by
            have q : y0 ∈ elevs.filter fun y => !decide (y ∈ found) := by rw [ey]; exact List.mem_cons_self
            have q := List.mem_filter.mp q
            exact ⟨q.1, by simpa using q.2⟩
          have fin : ∀ y : Str, ¬ y ∈ found → nameOk y = true → ∃ (found' : List Str) (w3 w4 w5 : Option V), ([some (.ref p), some (.int (m : Nat)), some (.ref fo), some (.int (0 + (i : Nat))), some (.str w), some (.ref D), none] : List (Option V)) = [some (.ref p), some (.int (m : Nat)), some (.ref fo), w3, w4, w5, none] ∧
              (upd H5 fo (.lst (found.map V.str ++ [V.str y]))) fo = some (.lst (found'.map V.str)) ∧ found'.Nodup ∧ (∀ z ∈ found', nameOk z = true) ∧ found'.length = i + 1 ∧ SameB p H (upd H5 fo (.lst (found.map V.str ++ [V.str y]))) ∧ Ur (upd H5 fo (.lst (found.map V.str ++ [V.str y]))) p (n + 25 * (i + 1)) := by
            intro y ny oky
            refine ⟨found ++ [y], _, _, _, rfl, ?_, ?_, ?_, ?_, ?_, ?_⟩
            · rw [upd_same, List.map_append]
              rfl
            · exact List.nodup_append.mpr ⟨nd, by simp, fun a ha b hb => by
                rw [List.mem_singleton.mp hb]
                intro e
                rw [e] at ha
                exact ny ha⟩
            · intro z hz
              rcases List.mem_append.mp hz with hz | hz
              · exact ok z hz
              · rw [List.mem_singleton.mp hz]
                exact oky
            · rw [List.length_append, hlen]
              rfl
            · intro b o nb e
              rw [upd_ne (ne_of_none e nfo)]
              exact s5 _ _ (sbx _ _ nb e)
            · have u5 := ux.same s5
              refine (Ur.put (o := .lst (found.map V.str ++ [V.str y])) u5 hf5 (fun x y z q => ?_)).mono (by omega)
              have q := HO.lst.inj q
              cases found with
              | nil => cases q
              | cons a r => cases q
          refine ⟨_, rfl, .inl ⟨rfl, _, lst_of hf5⟩, _, rfl, _, rfl, fo, _, rfl, .inl (lst_of hf5), rfl, flat_strs found, _, rfl, ite2 (fun c => ?_) (fun c => ?_)⟩
          · refine ⟨_, rfl, D, _, 0, .str y0, rfl, rfl, lst_of e5, ?_, fo, _, _, rfl, rfl, hf5, lt_line (by rw [List.length_map]; omega), fin y0 y0m.2 (elevs_ok y0 y0m.1)⟩
            rw [ey]
            exact atI_nat (j := 0) rfl
          · have c : ¬ inV (.str w) (found.map V.str) = true := c
            rw [inV_strs] at c
            exact ⟨_, rfl, fo, _, _, rfl, rfl, hf5, lt_line (by rw [List.length_map]; omega), fin w (fun q => c (decide_eq_true q)) hw⟩
    · rintro σ H' ⟨found, v3, v4, v5, rfl, hf, nd, ok, hlen, sb, u'⟩
      refine ⟨_, rfl, fo, found, rfl, lst_of hf, by omega, fun ys q pm so nq => ⟨q, _, rfl, .inl ⟨lst_of upd_same, fun t ot nt od => ?_⟩⟩⟩
      refine k ys t _ (pm.nodup_iff.mpr nd) so (fun z hz => ok z (pm.subset hz)) (by rw [pm.length_eq, hlen]; omega) ((sb.new nq).new nt) (((u'.same (Same.new nq)).same (Same.new nt)).mono (by omega)) (frz_of upd_same)
end
end MH
namespace MH
open PySem PySem.Spec PyProof.Rows L2
open TL
/-! ### list.count of texts -/
def rCntS (K : PySem.W.Frag) : V → List V → Hp → VK → Prop := fun x xs H Q => ∃ (p : Addr) (ss : List Str) (z : Str), x = .ref p ∧ xs = [.str z] ∧ SqL K H p (ss.map V.str) ∧ ss.length ≤ 1000 ∧ Q (.int (ss.count z : Nat)) H
theorem strs_plain : ∀ ss : List Str, PyData.plainAll (ss.map PyData.str) = true
  | [] => by simp only [List.map_nil, PyData.plainAll]
  | b :: r => by
    rw [List.map_cons, PyData.plainAll, strs_plain r]
    simp only [PyData.plain, Bool.and_true]
theorem strs_count (z : Str) : ∀ ss : List Str, (ss.map PyData.str).countP (fun y => PyData.eqv y (.str z)) = ss.count z
  | [] => rfl
  | c :: r => by
    rw [List.map_cons, List.countP_cons, List.count_cons, strs_count z r]
    congr 1
theorem mt_scount {X : Cx} (hu : X.A.units + 64 < cLine) : MtR X "list.count" (rCntS X.K) := by
  intro pins s σ H x xs v us Q I rx rxs h
  obtain ⟨p, ss, z, rfl, rfl, hs, hz, q⟩ := h
  cases rx
  obtain ⟨u, rfl, ru⟩ := rxs.one
  obtain ⟨tk, rfl⟩ : ∃ tk, u = Value.str z tk := ru
  obtain ⟨its, rv, pl, hlen⟩ := I.list hs
  obtain ⟨as, rd⟩ := Dp.readsAll I _ _ _ (dp_strs ss) rv
  refine PySem.SeqAt.count_list_data (vs := its.toArray) (xs := ss.map PyData.str) (d := .str z) pl.isList (by simpa using rd) (Reads.str z tk) (strs_plain ss) (by simp only [PyData.plain]) (by rw [depth_strs]; simp only [PyData.depth]; omega) ?_
  rw [strs_count]
  exact ⟨.int (ss.count z : Nat), H, I.tok _, ⟨_, rfl⟩, q⟩
/-! ### marks -/
def sgn (c : Nat) : Str := ⟨#[c]⟩
theorem tl_sgn (c : Nat) : tl (sgn c) = [c] := rfl
theorem joinL_one : ∀ cs : List Nat, joinL [] (cs.map fun c => [c]) = cs
  | [] => rfl
  | [c] => rfl
  | c :: d :: r => by
    have ih := joinL_one (d :: r)
    show [c] ++ ([] ++ joinL [] ((d :: r).map fun c => [c])) = c :: d :: r
    rw [ih]
    rfl
theorem join_sgn (cs : List Nat) : Txt.join "" (cs.map sgn) = ⟨cs.toArray⟩ := by
  refine ext_tl ?_
  rw [join_eq, tl_join]
  have e : (cs.map sgn).map tl = cs.map fun c => [c] := by
    rw [List.map_map]
    rfl
  rw [e, show tl "" = [] by decide +kernel, joinL_one]
theorem sgn_inj {a b : Nat} (h : sgn a = sgn b) : a = b := by
  have q := congrArg tl h
  rw [tl_sgn, tl_sgn] at q
  exact (List.cons.inj q).1
theorem count_sgn (c : Nat) : ∀ cs : List Nat, (cs.map sgn).count (sgn c) = cs.count c
  | [] => rfl
  | d :: r => by
    rw [List.map_cons, List.count_cons, List.count_cons, count_sgn c r]
    congr 1
    by_cases h : d = c
    · subst h
      simp
    · have : ¬ sgn d = sgn c := fun e => h (sgn_inj e)
      simp [h, this]
/-- the marks of a look: as many as told, each + - or ?, not all of them - -/
structure MarksOk (cs : List Nat) (m : Nat) : Prop where
  len : cs.length = m
  ok : ∀ c ∈ cs, c = 43 ∨ c = 45 ∨ c = 63
  one : ∃ c ∈ cs, c ≠ 45
def spMarks : Sp := fun vs H Q _ => ∃ (p : Addr) (m n : Nat), vs = [.ref p, .int (m : Nat)] ∧ Ur H p n ∧ n ≤ 700000000 ∧ 1 ≤ m ∧ m ≤ 11 ∧ ∀ (cs : List Nat) H', MarksOk cs m → SameB p H H' → Ur H' p (n + 20) → Q (.str ⟨cs.toArray⟩) H'
theorem m3_ok : ∀ d, d < 3 → (("+-?" : Str).cps.toList.getD d 0 = 43 ∨ ("+-?" : Str).cps.toList.getD d 0 = 45 ∨ ("+-?" : Str).cps.toList.getD d 0 = 63) := by decide +kernel
theorem m2_ok : ∀ d, d < 2 → (("+?" : Str).cps.toList.getD d 0 = 43 ∨ ("+?" : Str).cps.toList.getD d 0 = 63) := by decide +kernel
theorem at_lt {z : Str} {d n : Nat} (hn : z.cps.toList.length = n) (h : d < n) : z.cps.toList[d]? = some (z.cps.toList.getD d 0) := by
  rw [List.getD_eq_getElem?_getD, List.getElem?_eq_getElem (by rw [hn]; exact h)]
  rfl
theorem sum_sgn (cs : List Nat) : ((cs.map sgn).map (·.length)).sum = cs.length := by
  induction cs with
  | nil => rfl
  | cons c r ih =>
    rw [List.map_cons, List.map_cons, List.sum_cons, ih, List.length_cons]
    show 1 + r.length = r.length + 1
    omega
section
variable {P : Program} {w : World} {K : PySem.W.Frag} {mg : Str → Option Value} {base : Heap}
theorem ok_l_marks (T : Tx K mg) : FnOk P w K mg base CX0 5 T.a_l_marks T.fd_l_marks ["_law_urn_here", "_law_many"] spMarks := by
  refine T.F_l_marks.ok sc_l_marks (fun vs H Q E h => ?_) (fun cdv A outer s H vs Q E hr h => ?_)
  · obtain ⟨p, m, n, rfl, _⟩ := h
    rfl
  · obtain ⟨p, m, n, rfl, u, hn, h1, h11, k⟩ := h
    refine ⟨_, (pss_cons (ps_setLc (i := 2) (own := [("_law_k", 3)]) (g := gName 3) (tt := tYes) rfl sc_l_marks.nd rfl rfl (sw_true rfl rfl rfl (by decide +kernel)) (pi_range1 (by rfl) T.n_range (pa_cons (pv 1) pa_nil)) (blkOk_by (own := [("_law_k", 3)]) (N := names_l_marks) (sc := defScope st_l_marks) (by decide +kernel)) (fun _ _ _ _ _ => pg_name (i := 3) sc_l_marks.nd rfl (Or.inl rfl)) (fun _ _ _ _ _ => pts_nil) (fun _ _ _ _ _ => (pe_ix ix_str pe_str (pe_call (ok_l_draw T) (hr.mono (by decide)) rfl T.g_l_draw T.F_l_draw.kp T.b_l_draw .nil pass0 (pa_cons (pv 0) (pa_cons pe_int pa_nil))) (fun _ _ => rfl))))
      (pss_cons (ps_if (pt_cmpR op_eq (pe_bm PySem.F.plainAttrs_list PySem.F.slot_list_count PySem.F.type_list_count (mt_scount hr.units) (pv 2) (pa_cons pe_str pa_nil)) (pv 1) (nomark _))
        (pss_one (ps_asg (pe_ix ix_str pe_str (pe_call (ok_l_draw T) (hr.mono (by decide)) rfl T.g_l_draw T.F_l_draw.kp T.b_l_draw .nil pass0 (pa_cons (pv 0) (pa_cons pe_int pa_nil))) (fun _ _ => rfl)) (pg_sub (pv 2) (pe_call (ok_l_draw T) (hr.mono (by decide)) rfl T.g_l_draw T.F_l_draw.kp T.b_l_draw .nil pass0 (pa_cons (pv 0) (pa_cons (pv 1) pa_nil))) set_list)))
        pss_nil)
      (pss_one (ps_ret (pe_join pe_str (pv 2)))))), ?_⟩
    refine ⟨_, rfl, (m : Int), rfl, by omega, by omega, fun D nD => lc_range (lo := 0) (n := _) (fun i H' => SameB p H H' ∧ Ur H' p (n + i) ∧ ∃ cs : List Nat, cs.length = i ∧ (∀ c ∈ cs, c = 43 ∨ c = 45 ∨ c = 63) ∧ H' D = some (.lst ((cs.map sgn).map V.str)))
      ⟨.of (Same.new nD), u.same (Same.new nD), [], rfl, fun c hc => (nomatch hc), upd_same⟩ ?_ ?_⟩
    · rintro i H1 hi ⟨sb, u1, cs, hl, ok, e1⟩
      have hi : i < m := by omega
      refine ⟨rfl, ?_⟩
      have nDp : D ≠ p := u.ne nD
      refine ⟨_, rfl, p, 3, n + i, rfl, u1, by omega, by decide, by decide, fun d H2 d0 d3 sb2 u2 => ?_⟩
      obtain ⟨e, rfl⟩ : ∃ e : Nat, d = e := ⟨d.toNat, by omega⟩
      have h3 : e < 3 := by omega
      refine ⟨"+-?", e, _, rfl, rfl, (by decide +kernel), atI_nat (at_lt (n := 3) (by decide +kernel) h3), ?_⟩
      have e2 := sb2 _ _ nDp e1
      refine ⟨_, e2, lt_line (by rw [List.length_map, List.length_map]; omega), fun b o nb e => ?_, ?_, cs ++ [("+-?" : Str).cps.toList.getD e 0], ?_, ?_, ?_⟩
      · rw [upd_ne (ne_of_none e nD)]
        exact sb2 _ _ nb (sb _ _ nb e)
      · refine (Ur.put (o := .lst ((cs.map sgn).map V.str ++ [V.str ⟨#[("+-?" : Str).cps.toList.getD e 0]⟩])) u2 e2 (fun x y z q => ?_)).mono (by omega)
        have q := HO.lst.inj q
        cases cs with
        | nil => cases q
        | cons a r => cases q
      · rw [List.length_append, hl]
        rfl
      · intro c hc
        rcases List.mem_append.mp hc with hc | hc
        · exact ok c hc
        · rw [List.mem_singleton.mp hc]
          exact m3_ok e h3
      · rw [upd_same, List.map_append, List.map_append]
        rfl
    · rintro H1 ⟨sb, u1, cs, hl, ok, e1⟩
      have hl : cs.length = m := by omega
      have nDp : D ≠ p := u.ne nD
      have u1 := u1.mono (m := n + 11) (by omega)
      refine ⟨_, rfl, .inl ⟨rfl, _, lst_of e1⟩, D, cs.map sgn, sgn 45, rfl, rfl, lst_of e1, by rw [List.length_map]; omega, ?_⟩
      rw [count_sgn]
      refine ⟨_, rfl, rfl, _, rfl, ite2 (fun c => ?_) (fun c => ?_)⟩
      · refine ⟨_, rfl, p, 2, n + 11, rfl, u1, by omega, by decide, by decide, fun d H2 d0 d2 sb2 u2 => ?_⟩
        obtain ⟨e, rfl⟩ : ∃ e : Nat, d = e := ⟨d.toNat, by omega⟩
        have h2 : e < 2 := by omega
        refine ⟨"+?", e, _, rfl, rfl, (by decide +kernel), atI_nat (at_lt (n := 2) (by decide +kernel) h2), ?_⟩
        refine ⟨_, rfl, _, rfl, _, rfl, p, (m : Int), n + 12, rfl, u2, by omega, by omega, by omega, fun f H3 f0 fm sb3 u3 => ?_⟩
        obtain ⟨f, rfl⟩ : ∃ g : Nat, f = g := ⟨f.toNat, by omega⟩
        have e3 := sb3 _ _ nDp (sb2 _ _ nDp e1)
        have ix : ixN ((cs.map sgn).map V.str).length (f : Int) = some f := by
          unfold ixN
          rw [List.length_map, List.length_map, if_pos (by omega), if_pos (by omega)]
          simp
        refine ⟨D, _, _, f, rfl, rfl, e3, ix, ?_⟩
        have sx : ((cs.map sgn).map V.str).set f (.str ⟨#[("+?" : Str).cps.toList.getD e 0]⟩) = ((cs.set f (("+?" : Str).cps.toList.getD e 0)).map sgn).map V.str := by
          rw [List.map_set, List.map_set]
          rfl
        rw [sx]
        refine ⟨⟨_, rfl⟩, _, rfl, "", D, (cs.set f (("+?" : Str).cps.toList.getD e 0)).map sgn, rfl, rfl, .inl (lst_of upd_same), ?_, ?_⟩
        · rw [sum_sgn, List.length_map, List.length_set]
          have : ("" : Str).length = 0 := by decide +kernel
          rw [this]
          omega
        · rw [join_sgn]
          have hv := m2_ok e h2
          generalize ("+?" : Str).cps.toList.getD e 0 = v at hv ⊢
          refine k _ _ ⟨by rw [List.length_set]; exact hl, fun c hc => ?_, v, ?_, by omega⟩ (fun b o nb e => ?_) ?_
          · rcases List.mem_or_eq_of_mem_set hc with hc | rfl
            · exact ok c hc
            · omega
          · refine List.mem_iff_getElem?.mpr ⟨f, ?_⟩
            rw [List.getElem?_set_self (by omega)]
          · rw [upd_ne (ne_of_none e nD)]
            exact sb3 _ _ nb (sb2 _ _ nb (sb _ _ nb e))
          · refine (Ur.put u3 e3 (fun x y z q => ?_)).mono (by omega)
            have q := HO.lst.inj q
            cases cs with
            | nil => cases q
            | cons a r => cases q
      · refine ⟨⟨_, rfl⟩, _, rfl, "", D, cs.map sgn, rfl, rfl, .inl (lst_of e1), ?_, ?_⟩
        · rw [sum_sgn, List.length_map]
          have : ("" : Str).length = 0 := by decide +kernel
          rw [this]
          omega
        · rw [join_sgn]
          refine k _ _ ⟨hl, ok, ?_⟩ sb (u1.mono (by omega))
          refine Classical.byContradiction fun no => ?_
          have all : ∀ c ∈ cs, c = 45 := fun c hc => Classical.byContradiction fun h => no ⟨c, hc, h⟩
          have q : cs.count 45 = cs.length := List.count_eq_length.mpr fun b hb => (all b hb).symm
          rw [q, hl] at c
          exact c (decide_eq_true rfl)
end
end MH
namespace MH
open PySem PySem.Spec PyProof.Rows L2
theorem _root_.L2.SqT.ty {K : PySem.W.Frag} {H : Hp} {a : Addr} {xs : List V} (h : SqT K H a xs) : TyX K H (.ref a) (.type "tuple") := by
  rcases h with (h | ⟨o, h⟩) | ⟨o, its, n, h, c, _⟩
  · exact .base (.tup h)
  · exact .fTuple h
  · exact .kTuple h c
theorem ifT {c : Bool} {A B : Prop} (h : c = true) (a : A) : if c = true then A else B := by
  rw [if_pos h]
  exact a
theorem ifF {c : Bool} {A B : Prop} (h : c = false) (b : B) : if c = true then A else B := by
  rw [h, if_neg Bool.false_ne_true]
  exact b
theorem cut_upto (xs : List V) (i : Nat) : cutV xs none (some (i : Int)) = xs.take i := by
  unfold cutV
  rw [HT.sIx_none, HT.sIx_nat, Nat.sub_zero, List.drop_zero]
  rcases Nat.le_total i xs.length with h | h
  · rw [Nat.min_eq_left h]
  · rw [Nat.min_eq_right h, List.take_of_length_le (Nat.le_refl _), List.take_of_length_le h]
theorem cut_from (xs : List V) (i : Nat) : cutV xs (some (i : Int)) none = xs.drop i := by
  unfold cutV
  rw [HT.sIx_none, HT.sIx_nat]
  rcases Nat.le_total i xs.length with h | h
  · rw [Nat.min_eq_left h, List.take_of_length_le]
    rw [List.length_drop]
    exact Nat.le_refl _
  · rw [Nat.min_eq_right h, Nat.sub_self, List.drop_of_length_le h]
    rfl
theorem walk_enumT {K : PySem.W.Frag} {a : Addr} {xs : List V} : Walk (IteT K a) xs.length (fun H => SqT K H a xs) (YPair (fun i => some (.int (i : Nat))) (fun i => xs[i]?)) where
  goes := fun i H hi h => ⟨xs, xs[i], h, by simp [hi]⟩
  stops := fun H h => ⟨xs, h, Nat.le_refl _⟩
  yields := fun i H x H' hi h ⟨T, y, e, n, e2, f⟩ => ⟨T, _, y, e, n, e2, rfl, f _ h⟩
def spIsName : Sp := fun vs H Q _ => ∃ z : Str, vs = [.str z] ∧ z.length ≤ 100000 ∧ ∀ H', Same H H' → Q (.bl (nameOk z)) H'
def spFilled (K : PySem.W.Frag) : Sp := fun vs H Q _ => ∃ (a : Addr) (xs : List V), vs = [.ref a] ∧ SqT K H a xs ∧ Q (.bl (decide (0 < xs.length))) H
section
variable {P : Program} {w : World} {K : PySem.W.Frag} {mg : Str → Option Value} {base : Heap}
theorem ok_is_filled_tuple (T : Tx K mg) : FnOk P w K mg base CX0 1 T.a_is_filled_tuple T.fd_is_filled_tuple ["value"] (spFilled K) := by
  refine T.F_is_filled_tuple.ok sc_is_filled_tuple (fun vs H Q E h => ?_) (fun cdv A outer s H vs Q E hr h => ?_)
  · obtain ⟨a, xs, rfl, _⟩ := h
    rfl
  · obtain ⟨a, xs, rfl, hT, k⟩ := h
    refine ⟨_, (pss_one (ps_ret (pe_and (pe_callB call_isi (by rfl) T.n_isinstance (by decide +kernel) (pa_cons (pv 0) (pa_cons (pe_bltn (v := .ty "tuple") (by rfl) T.n_tuple (by decide +kernel) rfl) pa_nil))) (pe_one (pe_cmpR op_gt (pe_callB call_len_seq (by rfl) T.n_len (by decide +kernel) (pa_cons (pv 0) pa_nil)) pe_int (nomark _)))))), ?_⟩
    refine ⟨_, rfl, _, _, _, _, true, rfl, .ty _, hT.ty, kit_ty (by decide +kernel), true, rfl, iteT ?_⟩
    refine ⟨_, rfl, a, _, rfl, .inr hT, _, _, rfl, rfl, ?_⟩
    have e : decide ((0 : Int) < (xs.length : Nat)) = decide (0 < xs.length) := by simp
    show Q (.bl (decide ((0 : Int) < (xs.length : Nat)))) H
    rw [e]
    exact k
theorem ok_is_name (T : Tx K mg) : FnOk P w K mg base CX0 1 T.a_is_name T.fd_is_name ["value"] spIsName := by
  refine T.F_is_name.ok sc_is_name (fun vs H Q E h => ?_) (fun cdv A outer s H vs Q E hr h => ?_)
  · obtain ⟨z, rfl, _⟩ := h
    rfl
  · obtain ⟨z, rfl, hz, k⟩ := h
    refine ⟨_, (pss_cons (ps_if (PW.pt (pw_or (pt_not (pt_val (pe_callB call_isi (by rfl) T.n_isinstance (by decide +kernel) (pa_cons (pv 0) (pa_cons (pe_bltn (v := .ty "str") (by rfl) T.n_str (by decide +kernel) rfl) pa_nil))))) (pw_or1 (pt_not (pt_chain op_le op_le pe_int (pe_callB call_len_str (by rfl) T.n_len (by decide +kernel) (pa_cons (pv 0) pa_nil)) (pe_glob (v := .int 8) rfl T.g_LONGEST_NAME.choose_spec ⟨_, rfl⟩))))))
        (pss_one (ps_ret pe_bl))
        pss_nil)
      (pss_one (ps_ret (pe_and (pe_cmpR op_in_sign (pe_ix ix_str (pv 0) pe_int (fun _ _ => rfl)) (pe_glob (v := .str "abcdefghijklmnopqrstuvwxyz") rfl T.g_LETTERS.choose_spec ⟨_, rfl⟩) (by rfl)) (pe_one (pe_callB (cr_all rfl) (by rfl) T.n_all (by decide +kernel) (pa_cons (pe_lc (own := [("sign", 1)]) (g := gName 1) (tt := tYes) rfl sc_is_name.nd (pi_str (pv 0)) (blkOk_by (own := [("sign", 1)]) (N := names_is_name) (sc := defScope st_is_name) (by decide +kernel)) (fun _ _ _ _ _ => pg_name (i := 1) sc_is_name.nd rfl (Or.inl rfl)) (fun _ _ _ _ _ => pts_nil) (fun _ _ _ _ _ => (pe_or (pe_cmpR op_in_sign (pv 1) (pe_glob (v := .str "abcdefghijklmnopqrstuvwxyz") rfl T.g_LETTERS.choose_spec ⟨_, rfl⟩) (by rfl)) (pe_one (pe_cmpR op_in_sign (pv 1) (pe_glob (v := .str "0123456789") rfl T.g_DIGITS.choose_spec ⟨_, rfl⟩) (by rfl)))))) pa_nil))))))), ?_⟩
    refine ⟨_, rfl, _, _, _, _, true, rfl, .ty _, .base (.str z), kit_ty (by decide +kernel), true, rfl, iteF ?_⟩
    refine ⟨_, rfl, z, rfl, le_line hz, _, _, rfl, rfl, _, rfl, ?_⟩
    by_cases h1 : 1 ≤ z.length
    · refine ifT (decide_eq_true (show (1 : Int) ≤ (z.length : Nat) by omega)) ?_
      refine ⟨_, _, rfl, rfl, _, rfl, ?_⟩
      by_cases h2 : z.length ≤ 8
      · refine ifF (by simp; omega) ?_
        have hne : z.cps.toList ≠ [] := fun e => by
          have : z.cps.size = 0 := by rw [← Array.length_toList, e]; rfl
          have e2 : z.length = z.cps.size := rfl
          omega
        obtain ⟨c0, rest, ec⟩ : ∃ c r, z.cps.toList = c :: r := List.exists_cons_of_ne_nil hne
        have en : nameOk z = (isL c0 && z.cps.toList.all fun c => isL c || isD c) := by
          unfold nameOk
          rw [decide_eq_true h1, decide_eq_true h2, ec]
          rfl
        refine ⟨_, rfl, z, 0, c0, rfl, rfl, le_line hz, (by rw [ec]; exact atI_nat (j := 0) rfl), c0, letters, rfl, rfl, isL c0, rfl, ?_⟩
        cases hc : isL c0 with
        | false =>
          refine iteF ?_
          have z0 := k H (Same.refl H)
          rw [en, hc] at z0
          exact z0
        | true =>
          refine iteT ?_
          refine ⟨_, rfl, z, rfl, fun D nD => lc_it (w := walk_str) (fun i H' => Same H H' ∧ H' D = some (.lst ((z.cps.toList.take i).map fun c => V.bl (isL c || isD c)))) ⟨Same.new nD, upd_same⟩ (fun _ _ _ _ => trivial) ?_ ?_⟩
          · rintro i x H1 H2 hi ⟨s1, e1⟩ ⟨rfl, c, hc, rfl⟩
            refine ⟨rfl, ?_⟩
            refine ⟨_, rfl, c, letters, rfl, rfl, isL c, rfl, ?_⟩
            have done : ∀ b : Bool, b = (isL c || isD c) → ∃ acc, H2 D = some (.lst acc) ∧ acc.length < sizeLine ∧ (Same H (upd H2 D (.lst (acc ++ [V.bl b]))) ∧ (upd H2 D (.lst (acc ++ [V.bl b]))) D = some (.lst ((z.cps.toList.take (i + 1)).map fun c => V.bl (isL c || isD c)))) := fun b hb => by
              refine ⟨_, e1, lt_line ?_, fun q o e => ?_, ?_⟩
              · have : z.cps.toList.length = z.length := rfl
                rw [List.length_map, List.length_take]
                omega
              · rw [upd_ne (ne_of_none e nD)]
                exact s1 _ _ e
              · rw [upd_same, hb]
                have g : z.cps.toList[i]? = some c := by
                  rw [Array.getElem?_toList]
                  exact hc
                rw [List.take_add_one, g, List.map_append]
                rfl
            cases hl : isL c with
            | true => exact iteT (done true (by rw [hl]; rfl))
            | false => exact iteF ⟨_, rfl, c, digits, rfl, rfl, done (isD c) (by rw [hl]; rfl)⟩
          · rintro H1 ⟨s1, e1⟩
            refine ⟨D, z.cps.toList.map fun c => isL c || isD c, rfl, lst_of ?_, ?_⟩
            · have : z.cps.toList.length ≤ z.cps.size := Nat.le_refl _
              rw [e1, List.take_of_length_le this, List.map_map]
              rfl
            · have z0 := k H1 s1
              rw [en, hc] at z0
              have e3 : (z.cps.toList.map fun c => isL c || isD c).all id = z.cps.toList.all fun c => isL c || isD c := by
                rw [List.all_map]
                rfl
              rw [e3]
              exact z0
      · refine ifT (by simp; omega) ?_
        have z0 := k H (Same.refl H)
        have en : nameOk z = false := by
          unfold nameOk
          rw [decide_eq_false h2]
          simp
        rw [en] at z0
        exact z0
    · refine ifF (decide_eq_false (show ¬ (1 : Int) ≤ (z.length : Nat) by omega)) ?_
      refine ⟨_, rfl, iteT ?_⟩
      have z0 := k H (Same.refl H)
      have en : nameOk z = false := by
        unfold nameOk
        rw [decide_eq_false h1]
        rfl
      rw [en] at z0
      exact z0
end
theorem str_at {ss : List Str} {i : Nat} {y : V} (h : (ss.map V.str)[i]? = some y) : ∃ z, ss[i]? = some z ∧ y = V.str z := by
  rw [List.getElem?_map] at h
  cases e : ss[i]? with
  | none =>
    rw [e] at h
    cases h
  | some z =>
    rw [e] at h
    exact ⟨z, rfl, (Option.some.inj h).symm⟩
theorem getD_of {row : List Str} {i : Nat} {z : Str} (h : row[i]? = some z) : row.getD i "" = z := by
  rw [List.getD_eq_getElem?_getD, h]
  rfl
def optV : Option Nat → V
  | none => .non
  | some i => .int (i : Nat)
end MH
namespace MH
open PySem PySem.Spec PyProof.Rows L2
/-! ### names in their order -/
/-- what is no name, not ascending or one too many at this place -/
def badNq (names : List Str) (most i : Nat) : Bool := (decide (most ≤ i) || !nameOk (names.getD i "")) || (decide (0 < i) && !decide (ltS (names.getD (i - 1) "") (names.getD i "")))
def badN (names : List Str) (most : Nat) : Option Nat := (List.range names.length).find? (badNq names most)
theorem badN_some {names : List Str} {most i : Nat} (hi : i < names.length) (b : badNq names most i = true) (h : ∀ j, j < i → badNq names most j = false) : badN names most = some i := by
  unfold badN
  rw [List.find?_range_eq_some]
  exact ⟨b, List.mem_range.mpr hi, fun j hj => by rw [h j hj]; rfl⟩
theorem badN_none {names : List Str} {most : Nat} (h : ∀ j, j < names.length → badNq names most j = false) : badN names most = none := by
  unfold badN
  rw [List.find?_eq_none]
  intro j hj
  rw [h j (List.mem_range.mp hj)]
  simp
def spFirstN (K : PySem.W.Frag) : Sp := fun vs H Q _ => ∃ (t : Addr) (names : List Str) (most : Nat), vs = [.ref t, .int (most : Nat)] ∧ SqT K H t (names.map V.str) ∧ (∀ z ∈ names, z.length ≤ 100000) ∧ ∀ H', Same H H' → Q (optV (badN names most)) H'
section
variable {P : Program} {w : World} {K : PySem.W.Frag} {mg : Str → Option Value} {base : Heap}
theorem ok_first_wrong_of_names (T : Tx K mg) : FnOk P w K mg base CX0 2 T.a_first_wrong_of_names T.fd_first_wrong_of_names ["names", "most"] (spFirstN K) := by
  refine T.F_first_wrong_of_names.ok sc_first_wrong_of_names (fun vs H Q E h => ?_) (fun cdv A outer s H vs Q E hr h => ?_)
  · obtain ⟨t, names, most, rfl, _⟩ := h
    rfl
  · obtain ⟨t, names, most, rfl, hT, hz0, k⟩ := h
    refine ⟨_, (pss_cons (ps_for PassesOwn.never rfl (pi_enumT (by rfl) T.n_enumerate (pa_cons (pv 0) pa_nil)) (pg_tup rfl (pgs_cons (pg_name (i := 2) sc_first_wrong_of_names.nd rfl (Or.inl rfl)) (pgs_cons (pg_name (i := 3) sc_first_wrong_of_names.nd rfl (Or.inl rfl)) pgs_nil)))
        (pss_cons (ps_if (PW.pt (pw_or (pt_cmpR op_ge (pv 2) (pv 1) (nomark _)) (pw_or1 (pt_not (pt_val (pe_call (ok_is_name T) (hr.mono (by decide)) rfl T.g_is_name T.F_is_name.kp T.b_is_name .nil pass0 (pa_cons (pv 3) pa_nil)))))))
        (pss_one (ps_ret (pv 2)))
        pss_nil)
      (pss_one (ps_if (PW.pt (pw_and (pt_cmpR op_gt (pv 2) pe_int (nomark _)) (pw_and1 (pt_cmpR op_le_str (pv 3) (pe_ix ix_tup (pv 0) (pe_op op_sub (pv 2) pe_int) (fun _ _ => rfl)) (nomark _)))))
        (pss_one (ps_ret (pv 2)))
        pss_nil))))
      (pss_one (ps_ret pe_non))), ?_⟩
    refine ⟨_, rfl, t, _, rfl, hT, for_it walk_enumT (fun i σ H' => Same H H' ∧ (∀ j, j < i → badNq names most j = false) ∧ ∃ v1 v2, σ = [some (.ref t), some (.int (most : Nat)), v1, v2]) ⟨Same.refl H, fun j hj => absurd hj (Nat.not_lt_zero j), none, none, rfl⟩ (fun i σ H' _ h => h.1.sqt hT) ?_ ?_⟩
    · rintro i x σ H1 H2 hi ⟨s1, hb, v1, v2, rfl⟩ ⟨p, y1, y2, rfl, np, rfl, e1, e2⟩
      cases e1
      rw [List.length_map] at hi
      obtain ⟨z, hz, rfl⟩ := str_at e2
      have s2 := s1.new' np (o := .tup [.int (i : Nat), .str z])
      refine ⟨p, _, rfl, tup_of upd_same, rfl, _, _, rfl, _, _, rfl, rfl, ?_⟩
      have g := getD_of hz
      have out : badNq names most i = true → ∀ H', Same H H' → Q (.int (i : Nat)) H' := fun b H' s => by
        have q := k _ s
        rw [badN_some hi b hb] at q
        exact q
      refine ⟨_, rfl, _, rfl, _, _, rfl, rfl, _, rfl, ?_⟩
      by_cases h10 : most ≤ i
      · refine ifT (decide_eq_true (by omega)) ⟨_, rfl, out (by unfold badNq; rw [decide_eq_true h10]; rfl) _ s2⟩
      · refine ifF (decide_eq_false (by omega)) ?_
        refine ⟨_, rfl, z, rfl, hz0 z (List.mem_of_getElem? hz), fun H2 s3 => ?_⟩
        cases hn : nameOk z with
        | false => exact ⟨false, rfl, iteT ⟨_, rfl, out (by unfold badNq; rw [g, hn, decide_eq_false h10]; rfl) _ (s2.trans s3)⟩⟩
        | true =>
          refine ⟨true, rfl, iteF ?_⟩
          have b0 : badNq names most i = (decide (0 < i) && !decide (ltS (names.getD (i - 1) "") z)) := by
            unfold badNq
            rw [g, hn, decide_eq_false h10]
            rfl
          have s23 := s2.trans s3
          refine ⟨_, rfl, _, _, rfl, rfl, _, rfl, ?_⟩
          cases i with
          | zero => exact ifF (by decide) (iteF ⟨s23, fun j hj => by
              rcases Nat.lt_succ_iff_lt_or_eq.mp hj with hj | rfl
              · exact hb j hj
              · rw [b0]; rfl, _, _, rfl⟩)
          | succ i =>
            refine ifT (decide_eq_true (by omega)) ?_
            obtain ⟨y, hy⟩ : ∃ y, names[i]? = some y := ⟨names[i], List.getElem?_eq_getElem (by omega)⟩
            have g : (names.map V.str)[i]? = some (.str y) := by
              rw [List.getElem?_map, hy]
              rfl
            have gy : names.getD (i + 1 - 1) "" = y := getD_of hy
            have ix : (((i + 1 : Nat) : Int) - 1) = (i : Nat) := by omega
            refine ⟨_, rfl, _, rfl, _, rfl, _, _, rfl, rfl, t, _, _, _, rfl, rfl, s23.sqt hT, (by rw [ix]; exact atI_nat g), _, _, rfl, rfl, _, rfl, ite2 (fun c => ?_) (fun c => ?_)⟩
            · exact ⟨_, rfl, out (by rw [b0, gy]; exact c) _ s23⟩
            · refine ⟨s23, fun j hj => ?_, _, _, rfl⟩
              rcases Nat.lt_succ_iff_lt_or_eq.mp hj with hj | rfl
              · exact hb j hj
              · rw [b0, gy]
                exact Bool.eq_false_iff.mpr c
    · rintro σ H1 ⟨s1, hb, v1, v2, rfl⟩
      rw [List.length_map] at hb
      have q := k H1 s1
      rw [badN_none hb] at q
      exact q
/-- all names, each greater than the one before it, from one to ten -/
structure MenuN (ms : List Str) : Prop where
  ne : ms ≠ []
  le : ms.length ≤ 10
  ok : ∀ z ∈ ms, nameOk z = true
  up : ms.Pairwise ltS
theorem badN_ok {ms : List Str} (h : MenuN ms) : badN ms 10 = none := by
  refine badN_none fun j hj => ?_
  have le := h.le
  unfold badNq
  rw [getD_of (List.getElem?_eq_getElem hj), h.ok _ (List.getElem_mem hj), decide_eq_false (by omega)]
  cases j with
  | zero => rfl
  | succ j =>
    rw [show j + 1 - 1 = j from rfl, getD_of (List.getElem?_eq_getElem (by omega : j < ms.length)), decide_eq_true (List.pairwise_iff_getElem.mp h.up j (j + 1) (by omega) hj (by omega))]
    rfl
def spCheckN (K : PySem.W.Frag) : Sp := fun vs H Q _ => ∃ (t : Addr) (ms : List Str), vs = [.ref t] ∧ SqT K H t (ms.map V.str) ∧ MenuN ms ∧ ∀ H', Same H H' → Q .non H'
theorem pos_of_ne {ss : List Str} (h : ss ≠ []) : decide (0 < (ss.map V.str).length) = true := by
  cases ss with
  | nil => exact absurd rfl h
  | cons a r => rfl
theorem ok_check_names_of_menu (T : Tx K mg) : FnOk P w K mg base CX0 3 T.a_check_names_of_menu T.fd_check_names_of_menu ["menu"] (spCheckN K) := by
  refine T.F_check_names_of_menu.ok sc_check_names_of_menu (fun vs H Q E h => ?_) (fun cdv A outer s H vs Q E hr h => ?_)
  · obtain ⟨t, ms, rfl, _⟩ := h
    rfl
  · obtain ⟨t, ms, rfl, hT, mo, k⟩ := h
    refine ⟨_, (pss_cons (ps_if (pt_not (pt_val (pe_call (ok_is_filled_tuple T) (hr.mono (by decide)) rfl T.g_is_filled_tuple T.F_is_filled_tuple.kp T.b_is_filled_tuple .nil pass0 (pa_cons (pv 0) pa_nil))))
        (pss_one ps_never)
        pss_nil)
      (pss_cons (ps_set (i := 1) sc_check_names_of_menu.nd rfl (Or.inl rfl) (pe_call (ok_first_wrong_of_names T) (hr.mono (by decide)) rfl T.g_first_wrong_of_names T.F_first_wrong_of_names.kp T.bd_first_wrong_of_names.choose_spec.2 T.bd_first_wrong_of_names.choose_spec.1 pass0 (pa_cons (pv 0) pa_nil)))
      (pss_one (ps_if (pt_cmpR op_notN (pv 1) pe_non (nomark _))
        (pss_one ps_never)
        pss_nil)))), ?_⟩
    refine ⟨_, rfl, t, _, rfl, hT, _, rfl, ifF (by rw [pos_of_ne mo.ne]; rfl) ?_⟩
    refine ⟨_, rfl, t, ms, 10, rfl, hT, (fun z hz => Nat.le_trans (nameOk_len (mo.ok z hz)) (by decide)), fun H1 s1 => ?_⟩
    rw [badN_ok mo]
    exact ⟨_, rfl, rfl, _, rfl, iteF (k H1 s1)⟩
end
end MH
namespace MH
open PySem PySem.Spec PyProof.Rows L2
/-! ### marks -/
def isM (c : Nat) : Bool := decide (c ∈ ("+-?" : Str).cps.toList)
theorem isM_iff {c : Nat} : isM c = true ↔ c = 43 ∨ c = 45 ∨ c = 63 := by
  unfold isM
  rw [decide_eq_true_eq, show ("+-?" : Str).cps.toList = [43, 45, 63] by decide +kernel]
  simp
def marksB (sg : Str) (m : Nat) : Bool := decide (sg.cps.toList.length = m) && (sg.cps.toList.all isM && decide (sg.cps.toList.count 45 < m))
theorem count_dash (x : Str) : Txt.count x "-" = ((x.cps.toList.count 45 : Nat) : Int) := by
  have e : ("-" : Str) = ⟨#[45]⟩ := by decide +kernel
  rw [e, count_is x 45]
  show cnt 45 x.cps.toList = _
  generalize x.cps.toList = l
  induction l with
  | nil => rfl
  | cons a l ih =>
    rw [cnt_cons, ih, List.count_cons]
    by_cases h : a = 45
    · simp [h]; omega
    · simp [h]
theorem marks_ok {cs : List Nat} {m : Nat} (h : MarksOk cs m) : marksB ⟨cs.toArray⟩ m = true := by
  unfold marksB
  show (decide (cs.length = m) && (cs.all isM && decide (cs.count 45 < m))) = true
  rw [Bool.and_eq_true, Bool.and_eq_true, decide_eq_true_eq, decide_eq_true_eq, List.all_eq_true]
  refine ⟨h.len, fun c hc => isM_iff.mpr (h.ok c hc), ?_⟩
  have le := List.count_le_length (a := 45) (l := cs)
  by_cases e : cs.count 45 = cs.length
  · obtain ⟨c, hc, ne⟩ := h.one
    exact absurd (List.count_eq_length.mp e c hc).symm ne
  · have := h.len
    omega
theorem marks_of {sg : Str} {m : Nat} (h : marksB sg m = true) : MarksOk sg.cps.toList m := by
  unfold marksB at h
  rw [Bool.and_eq_true, Bool.and_eq_true, decide_eq_true_eq, decide_eq_true_eq, List.all_eq_true] at h
  obtain ⟨h1, h2, h3⟩ := h
  refine ⟨h1, fun c hc => isM_iff.mp (h2 c hc), ?_⟩
  by_cases e : ∃ c ∈ sg.cps.toList, c ≠ 45
  · exact e
  · have : sg.cps.toList.count 45 = sg.cps.toList.length := List.count_eq_length.mpr fun c hc => by
      by_cases q : c = 45
      · exact q.symm
      · exact absurd ⟨c, hc, q⟩ e
    omega
def spAreMarks : Sp := fun vs H Q _ => ∃ (sg : Str) (m : Nat), vs = [.str sg, .int (m : Nat)] ∧ sg.cps.toList.length ≤ 10000 ∧ ∀ H', Same H H' → Q (.bl (marksB sg m)) H'
section
variable {P : Program} {w : World} {K : PySem.W.Frag} {mg : Str → Option Value} {base : Heap}
theorem ok_are_marks (T : Tx K mg) : FnOk P w K mg base CX0 1 T.a_are_marks T.fd_are_marks ["marks", "many"] spAreMarks := by
  refine T.F_are_marks.ok sc_are_marks (fun vs H Q E h => ?_) (fun cdv A outer s H vs Q E hr h => ?_)
  · obtain ⟨sg, m, rfl, _⟩ := h
    rfl
  · obtain ⟨sg, m, rfl, hl, k⟩ := h
    refine ⟨_, (pss_cons (ps_if (PW.pt (pw_or (pt_not (pt_val (pe_callB call_isi (by rfl) T.n_isinstance (by decide +kernel) (pa_cons (pv 0) (pa_cons (pe_bltn (v := .ty "str") (by rfl) T.n_str (by decide +kernel) rfl) pa_nil))))) (pw_or1 (pt_cmpR op_ne (pe_callB call_len_str (by rfl) T.n_len (by decide +kernel) (pa_cons (pv 0) pa_nil)) (pv 1) (nomark _)))))
        (pss_one (ps_ret pe_bl))
        pss_nil)
      (pss_one (ps_ret (pe_and (pe_callB (cr_all rfl) (by rfl) T.n_all (by decide +kernel) (pa_cons (pe_lc (own := [("mark", 2)]) (g := gName 2) (tt := tYes) rfl sc_are_marks.nd (pi_str (pv 0)) (blkOk_by (own := [("mark", 2)]) (N := names_are_marks) (sc := defScope st_are_marks) (by decide +kernel)) (fun _ _ _ _ _ => pg_name (i := 2) sc_are_marks.nd rfl (Or.inl rfl)) (fun _ _ _ _ _ => pts_nil) (fun _ _ _ _ _ => (pe_cmpR op_in_sign (pv 2) (pe_glob (v := .str "+-?") rfl T.g_MARKS.choose_spec ⟨_, rfl⟩) (by rfl)))) pa_nil)) (pe_one (pe_cmpR op_lt (pe_bm PySem.F.plainAttrs_str PySem.F.slot_str_count PySem.F.type_str_count mt_count (pv 0) (pa_cons pe_str pa_nil)) (pv 1) (nomark _))))))), ?_⟩
    have len : sg.length = sg.cps.toList.length := len_cps sg
    refine ⟨_, rfl, _, _, _, _, true, rfl, .ty _, .base (.str sg), kit_ty (by decide +kernel), true, rfl, iteF ?_⟩
    refine ⟨_, rfl, sg, rfl, le_line (by omega), ?_⟩
    refine ⟨_, rfl, rfl, _, rfl, ite2 (fun c => ?_) (fun c => ?_)⟩
    · have ne : ¬ sg.cps.toList.length = m := fun e => by
        rw [len, e, decide_eq_true rfl] at c
        cases c
      have e : marksB sg m = false := by
        unfold marksB
        rw [decide_eq_false ne]
        rfl
      rw [e] at k
      exact k H (Same.refl H)
    · have e : sg.cps.toList.length = m := by
        by_cases e : sg.cps.toList.length = m
        · exact e
        · exact absurd (by rw [len, decide_eq_false (fun q => e (by injection q with q; omega))]; rfl) c
      refine ⟨_, rfl, sg, rfl, fun D nD => lcv walk_str sg.cps.toList (fun c => V.bl (isM c)) Array.length_toList nD (by rw [← Array.length_toList]; omega) (fun _ _ => trivial) (fun _ _ _ _ _ y => y.1 ▸ Same.refl _) (fun i c y H1 H2 hc s1 yy Z hZ => ?_) (fun H1 s1 e1 => ?_)⟩
      · obtain ⟨rfl, c', hc', rfl⟩ := yy
        have ec : c' = c := by
          rw [Array.getElem?_toList] at hc
          exact Option.some.inj (hc'.symm.trans hc)
        subst ec
        exact ⟨rfl, _, rfl, c', _, rfl, rfl, hZ _ (Same.refl _)⟩
      · refine ⟨D, sg.cps.toList.map isM, rfl, lst_of (by rw [e1, List.map_map]; rfl), ?_⟩
        have e3 : (sg.cps.toList.map isM).all id = sg.cps.toList.all isM := by
          rw [List.all_map]
          rfl
        rw [e3]
        have eb : marksB sg m = (sg.cps.toList.all isM && decide (sg.cps.toList.count 45 < m)) := by
          unfold marksB
          rw [decide_eq_true e]
          rfl
        rw [eb] at k
        refine ⟨_, rfl, ite2 (fun c2 => ?_) (fun c2 => ?_)⟩
        · rw [c2, Bool.true_and] at k
          refine ⟨_, rfl, rfl, _, _, rfl, rfl, ?_⟩
          refine ⟨_, rfl, _, _, rfl, rfl, ?_⟩
          have q := k H1 s1
          have ed : decide (Txt.count sg "-" < (m : Int)) = decide (sg.cps.toList.count 45 < m) := by rw [count_dash]; simp
          show Q (.bl (decide (Txt.count sg "-" < (m : Int)))) H1
          rw [ed]
          exact q
        · rw [Bool.eq_false_iff.mpr c2, Bool.false_and] at k
          exact k H1 s1
end
end MH
namespace MH
open PySem PySem.Spec PyProof.Rows L2
/-! ### looks in memory -/
theorem nmm : ¬ (("menu" : Str) = "_marks") := by decide +kernel
def lkF (m : Addr) (sg : Str) : List (Str × V) := putF "_marks" (.str sg) (putF "menu" (.ref m) [])
theorem lk_menu (m : Addr) (sg : Str) : (lkF m sg).lookup ("menu" : Str) = some (.ref m) := by
  unfold lkF
  rw [lookup_putF, if_neg nmm, lookup_putF, if_pos rfl]
theorem lk_marks (m : Addr) (sg : Str) : (lkF m sg).lookup ("_marks" : Str) = some (.str sg) := by
  unfold lkF
  rw [lookup_putF, if_pos rfl]
theorem sqt_but {K : PySem.W.Frag} {p a : Addr} {H H' : Hp} {C dx : Addr} {fs : List (Str × V)} {xs : List V} (s : SameB p H H') (hp : H p = some (.ins C dx fs)) (h : SqT K H a xs) : SqT K H' a xs := by
  rcases h with (h | ⟨o, h⟩) | h
  · exact .inl (.inl (s _ _ (ne_of h hp (by intro q; cases q)) h))
  · exact .inl (.inr ⟨o, s _ _ (ne_of h hp (by intro q; cases q)) h⟩)
  · exact .inr h
/-- a look with this menu (at m) and these marks stands at x -/
def LkAt (K : PySem.W.Frag) (C : Addr) (H : Hp) (x m : Addr) (ms : List Str) (sg : Str) : Prop := ∃ dx : Addr, H x = some (.ins C dx (lkF m sg)) ∧ SqT K H m (ms.map V.str) ∧ MenuN ms ∧ marksB sg ms.length = true
theorem LkAt.same {K : PySem.W.Frag} {C x m : Addr} {H H' : Hp} {ms : List Str} {sg : Str} (r : LkAt K C H x m ms sg) (s : Same H H') : LkAt K C H' x m ms sg := by
  obtain ⟨dx, h1, h2, h3⟩ := r
  exact ⟨dx, s _ _ h1, s.sqt h2, h3⟩
theorem LkAt.len {K : PySem.W.Frag} {C x m : Addr} {H : Hp} {ms : List Str} {sg : Str} (r : LkAt K C H x m ms sg) : sg.cps.toList.length = ms.length := by
  obtain ⟨dx, _, _, _, h⟩ := r
  exact (marks_of h).len
theorem LkAt.mo {K : PySem.W.Frag} {C x m : Addr} {H : Hp} {ms : List Str} {sg : Str} (r : LkAt K C H x m ms sg) : MenuN ms := by
  obtain ⟨dx, _, _, h, _⟩ := r
  exact h
def spLkInit (K : PySem.W.Frag) (C : Addr) : Sp := fun vs H Q _ => ∃ (x dx m : Addr) (ms : List Str) (sg : Str), vs = [.ref x, .ref m, .str sg] ∧ H x = some (.ins C dx []) ∧ SqT K H m (ms.map V.str) ∧ MenuN ms ∧ marksB sg ms.length = true ∧ ∀ H', SameB x H H' → LkAt K C H' x m ms sg → Q .non H'
def spLkMarks (K : PySem.W.Frag) (C : Addr) : Sp := fun vs H Q _ => ∃ (x m : Addr) (ms : List Str) (sg : Str), vs = [.ref x] ∧ LkAt K C H x m ms sg ∧ Q (.str sg) H
def spLkStr (K : PySem.W.Frag) (C : Addr) : Sp := fun vs H Q _ => ∃ (x m : Addr) (ms : List Str) (sg : Str), vs = [.ref x] ∧ LkAt K C H x m ms sg ∧ ∀ H', Same H H' → Q (.str (lineOf ms sg)) H'
theorem MenuN.nd {ms : List Str} (h : MenuN ms) : ms.Nodup := h.up.imp (S := fun a b => a ≠ b) fun {a b} q (e : a = b) => ltS_irrefl a (by subst e; exact q)
section
variable {P : Program} {w : World} {K : PySem.W.Frag} {mg : Str → Option Value} {base : Heap}
theorem ok_LookD_initD (T : Tx K mg) : FnOk P w K mg base CX0 4 T.a_LookD_initD T.fd_LookD_initD ["self", "menu", "marks"] (spLkInit K T.C) := by
  refine T.F_LookD_initD.ok sc_LookD_initD (fun vs H Q E h => ?_) (fun cdv A outer s H vs Q E hr h => ?_)
  · obtain ⟨x, dx, m, ms, sg, rfl, _⟩ := h
    rfl
  · obtain ⟨x, dx, m, ms, sg, rfl, hx, hM, mo, mk, k⟩ := h
    refine ⟨_, (pss_cons (ps_expr (pe_call (ok_check_names_of_menu T) (hr.mono (by decide)) rfl T.g_check_names_of_menu T.F_check_names_of_menu.kp T.b_check_names_of_menu .nil pass0 (pa_cons (pv 1) pa_nil)))
      (pss_cons (ps_if (pt_not (pt_val (pe_call (ok_are_marks T) (hr.mono (by decide)) rfl T.g_are_marks T.F_are_marks.kp T.b_are_marks .nil pass0 (pa_cons (pv 2) (pa_cons (pe_callB call_len_seq (by rfl) T.n_len (by decide +kernel) (pa_cons (pv 1) pa_nil)) pa_nil)))))
        (pss_one ps_never)
        pss_nil)
      (pss_cons (ps_fld (pv 0) (pv 1) rfl)
      (pss_one (ps_fld (pv 0) (pv 2) rfl))))), ?_⟩
    have ml := mo.le
    have sl := (marks_of mk).len
    refine ⟨_, rfl, m, ms, rfl, hM, mo, fun H1 s1 => ?_⟩
    have lm : (ms.map V.str).length = ms.length := List.length_map _
    refine ⟨_, rfl, _, rfl, m, _, rfl, .inr (s1.sqt hM), sg, ms.length, by rw [lm]; rfl, by omega, fun H2 s2 => ?_⟩
    rw [mk]
    have s12 := s1.trans s2
    refine ⟨_, rfl, ifF rfl ?_⟩
    refine ⟨_, rfl, _, rfl, x, T.C, dx, _, rfl, s12 _ _ hx, T.cl, T.no_menu, (by show 0 < 1000; decide), ?_⟩
    have b2 : SameB x H (upd H2 x (.ins T.C dx (putF "menu" (.ref m) []))) := (SameB.of s12).put
    refine ⟨_, rfl, _, rfl, x, T.C, dx, _, rfl, upd_same, T.cl, T.no__marks, (by show 1 < 1000; decide), ?_⟩
    refine k _ b2.put ⟨dx, upd_same, sqt_but b2.put hx hM, mo, mk⟩
theorem ok_Look_marks (T : Tx K mg) : FnOk P w K mg base CX0 1 T.a_Look_marks T.fd_Look_marks ["self"] (spLkMarks K T.C) := by
  refine T.F_Look_marks.ok sc_Look_marks (fun vs H Q E h => ?_) (fun cdv A outer s H vs Q E hr h => ?_)
  · obtain ⟨x, m, ms, sg, rfl, _⟩ := h
    rfl
  · obtain ⟨x, m, ms, sg, rfl, ⟨dx, hx, _⟩, k⟩ := h
    refine ⟨_, (pss_one (ps_ret (pe_fld (pv 0) rfl))), ?_⟩
    exact ⟨_, rfl, x, T.C, dx, _, _, rfl, hx, T.cl, T.no__marks, lk_marks m sg, k⟩
end
end MH
namespace MH
open PySem PySem.Spec PyProof.Rows L2
/-! ### what looks tell -/
theorem empty_app (z : Str) : Str.empty ++ z = z := by
  have e : (Str.empty ++ z).cps = z.cps := by
    show (#[] ++ z.cps : Array Nat) = z.cps
    exact Array.empty_append
  cases z
  cases h : Str.empty ++ _
  rw [h] at e
  simp only at e
  rw [e]
theorem sg_get {sg : Str} {i n : Nat} (h : sg.cps.toList.length = n) (hi : i < n) : sg.cps[i]? = some (sg.cps.toList.getD i 0) := by
  rw [← Array.getElem?_toList, List.getD_eq_getElem?_getD, List.getElem?_eq_getElem (by omega)]
  rfl
theorem ms_get {ms : List Str} {i : Nat} (hi : i < ms.length) : (ms.map V.str)[i]? = some (.str (ms.getD i "")) := by
  rw [List.getElem?_map, List.getD_eq_getElem?_getD, List.getElem?_eq_getElem hi]
  rfl
section
variable {P : Program} {w : World} {K : PySem.W.Frag} {mg : Str → Option Value} {base : Heap}
theorem ok_LookD_strD (T : Tx K mg) : FnOk P w K mg base CX0 1 T.a_LookD_strD T.fd_LookD_strD ["self"] (spLkStr K T.C) := by
  refine T.F_LookD_strD.ok sc_LookD_strD (fun vs H Q E h => ?_) (fun cdv A outer s H vs Q E hr h => ?_)
  · obtain ⟨x, m, ms, sg, rfl, _⟩ := h
    rfl
  · obtain ⟨x, m, ms, sg, rfl, la, k⟩ := h
    have ln := la.len
    have mo := la.mo
    have ml := mo.le
    obtain ⟨dx, hx, hM, _⟩ := la
    refine ⟨_, (pss_one (ps_ret (pe_join pe_str (pe_lc (own := [("thing", 1), ("mark", 2)]) (g := gTup K 2 (gCons (gName 1) (gCons (gName 2) gNil))) (tt := tYes) rfl sc_LookD_strD.nd (pi_zipTS (by rfl) T.n_zip (pa_cons (pe_fld (pv 0) rfl) (pa_cons (pe_fld (pv 0) rfl) pa_nil))) (blkOk_by (own := [("thing", 1), ("mark", 2)]) (N := names_LookD_strD) (sc := defScope st_LookD_strD) (by decide +kernel)) (fun _ _ _ _ _ => pg_tup rfl (pgs_cons (pg_name (i := 1) sc_LookD_strD.nd rfl (Or.inl rfl)) (pgs_cons (pg_name (i := 2) sc_LookD_strD.nd rfl (Or.inl rfl)) pgs_nil))) (fun _ _ _ _ _ => pts_nil) (fun _ _ _ _ _ => (pe_joinedF (PJ.cons (pe_fmt (pv 1)) (PJ.cons (pe_fmt (pv 2)) PJ.nil)))))))), ?_⟩
    have lm : (ms.map V.str).length = ms.length := List.length_map _
    have sz : sg.cps.size = ms.length := by rw [← Array.length_toList]; exact ln
    refine ⟨⟨_, rfl⟩, _, rfl, x, T.C, dx, _, _, rfl, hx, T.cl, T.no_menu, lk_menu m sg, _, rfl, x, T.C, dx, _, _, rfl, hx, T.cl, T.no__marks, lk_marks m sg, m, sg, _, rfl, hM, fun D nD => lcv (walk_zipTS (n := ms.length) (by rw [lm, sz, Nat.min_self])) (List.range ms.length) (fun i => V.str (markAt ms sg i)) List.length_range nD (by omega) (fun H' s => s.sqt hM) (fun _ _ _ _ _ y => ypair_same y) (fun i u y H1 H2 hu s1 yy Z hZ => ?_) (fun H1 s1 e1 => ?_)⟩
    · obtain ⟨q, y1, y2, rfl, nq, rfl, e1, e2⟩ := yy
      obtain ⟨hi, rfl⟩ : i < ms.length ∧ i = u := by
        obtain ⟨h, e⟩ := List.getElem?_eq_some_iff.mp hu
        rw [List.getElem_range] at e
        rw [List.length_range] at h
        exact ⟨h, e⟩
      have e1 : (ms.map V.str)[i]? = some y1 := e1
      have e2 : (sg.cps[i]?).map (fun c => V.str ⟨#[c]⟩) = some y2 := e2
      rw [ms_get hi] at e1
      rw [sg_get ln hi] at e2
      obtain rfl := Option.some.inj e1
      obtain rfl := Option.some.inj e2
      have sq := Same.new nq (o := .tup [.str (ms.getD i ""), .str ⟨#[sg.cps.toList.getD i 0]⟩])
      have hz : (ms.getD i "").length ≤ 8 := by
        rw [List.getD_eq_getElem?_getD, List.getElem?_eq_getElem hi]
        exact nameOk_len (mo.ok _ (List.getElem_mem hi))
      refine ⟨q, _, rfl, tup_of upd_same, rfl, _, _, rfl, _, _, rfl, rfl, rfl, ?_⟩
      have es : (Str.empty ++ ms.getD i "") ++ (⟨#[sg.cps.toList.getD i 0]⟩ : Str) = markAt ms sg i := by rw [empty_app]; rfl
      have l1 : (markAt ms sg i).length ≤ 9 := by
        unfold markAt
        rw [len_app1]
        omega
      refine ⟨_, rfl, .inl ⟨_, rfl, le_line (by omega), _, rfl, le_line (by rw [empty_app]; omega), _, rfl, .inl ⟨_, rfl, le_line (by rw [one_len]; omega), _, rfl, le_line (by rw [es]; omega), ?_⟩⟩⟩
      show Z (.str ((Str.empty ++ ms.getD i "") ++ (⟨#[sg.cps.toList.getD i 0]⟩ : Str))) _
      rw [es]
      exact hZ _ (Same.refl _)
    · have e2 : (List.range ms.length).map (fun i => V.str (markAt ms sg i)) = ((List.range ms.length).map (markAt ms sg)).map V.str := by
        rw [List.map_map]
        rfl
      rw [e2] at e1
      refine ⟨_, D, _, rfl, rfl, .inl (lst_of e1), ?_, k H1 s1⟩
      have q := sum_le (n := 9) ((List.range ms.length).map (markAt ms sg)) fun z hz => by
        obtain ⟨i, hi, rfl⟩ := List.mem_map.mp hz
        have hi := List.mem_range.mp hi
        unfold markAt
        rw [len_app1, List.getD_eq_getElem?_getD, List.getElem?_eq_getElem hi]
        have := nameOk_len (mo.ok _ (List.getElem_mem hi))
        show (ms[i]).length + 1 ≤ 9
        omega
      rw [List.length_map, List.length_range] at q ⊢
      have e1 : (" " : Str).length = 1 := by decide +kernel
      rw [e1]
      omega
end
end MH
namespace MH
open PySem PySem.Spec PyProof.Rows L2
/-! ### a text and its parts -/
theorem pre32 (c : Nat) (r : List Nat) : TL.pre [32] (c :: r) = decide (c = 32) := by
  by_cases h : c = 32
  · subst h
    rw [decide_eq_true rfl]
    rfl
  · rw [decide_eq_false h]
    unfold TL.pre
    simp [h]
theorem spl32 : ∀ (l acc : List Nat), TL.joinL [32] (TL.spl [32] 0 acc l) = acc ++ l ∧ TL.spl [32] 0 acc l ≠ [] ∧ ∀ p ∈ TL.spl [32] 0 acc l, p.length ≤ acc.length + l.length ∧ ∀ x ∈ p, x ∈ acc ∨ x ∈ l
  | [], acc => by
    rw [TL.spl_nil]
    refine ⟨by rw [List.append_nil]; rfl, by simp, fun p hp => ?_⟩
    rw [List.mem_singleton.mp hp]
    exact ⟨by simp, fun x hx => .inl hx⟩
  | c :: r, acc => by
    by_cases h : c = 32
    · have e : TL.pre [32] (c :: r) = true := by rw [pre32, decide_eq_true h]
      rw [TL.spl_hit e]
      obtain ⟨h1, h2, h3⟩ := spl32 r []
      have e2 : ([32] : List Nat).length - 1 = 0 := rfl
      rw [e2]
      refine ⟨?_, by simp, fun p hp => ?_⟩
      · generalize TL.spl [32] 0 [] r = L at h1 h2 ⊢
        cases L with
        | nil => exact absurd rfl h2
        | cons q t =>
          show acc ++ ([32] ++ TL.joinL [32] (q :: t)) = _
          rw [h1, h]
          rfl
      · rcases List.mem_cons.mp hp with rfl | hp
        · exact ⟨by simp, fun x hx => .inl hx⟩
        · obtain ⟨a, b⟩ := h3 p hp
          refine ⟨?_, fun x hx => ?_⟩
          · simp only [List.length_nil, List.length_cons] at a ⊢
            omega
          · rcases b x hx with z | z
            · cases z
            · exact .inr (List.mem_cons_of_mem _ z)
    · have e : TL.pre [32] (c :: r) = false := by rw [pre32, decide_eq_false h]
      rw [TL.spl_miss e]
      obtain ⟨h1, h2, h3⟩ := spl32 r (acc ++ [c])
      refine ⟨by rw [h1, List.append_assoc]; rfl, h2, fun p hp => ?_⟩
      obtain ⟨a, b⟩ := h3 p hp
      refine ⟨?_, fun x hx => ?_⟩
      · rw [List.length_append] at a
        simp only [List.length_nil, List.length_cons] at a ⊢
        omega
      · rcases b x hx with z | z
        · rcases List.mem_append.mp z with z | z
          · exact .inl z
          · rw [List.mem_singleton.mp z]
            exact .inr List.mem_cons_self
        · exact .inr (List.mem_cons_of_mem _ z)
theorem blank_tl : TL.tl (" " : Str) = [32] := by decide +kernel
theorem splitB_tl (z : Str) : (Txt.split z " ").map TL.tl = TL.spl [32] 0 [] (TL.tl z) := by
  have q := TL.split_spl z (" " : Str) (by rw [blank_tl]; simp) (TL.kind_ok (by decide +kernel))
  rw [blank_tl] at q
  exact q
theorem splitB_ne (z : Str) : Txt.split z " " ≠ [] := fun e => by
  have q := splitB_tl z
  rw [e] at q
  exact (spl32 (TL.tl z) []).2.1 q.symm
theorem tl_inj {x y : Str} (h : TL.tl x = TL.tl y) : x = y := by
  have : [x].map TL.tl = [y].map TL.tl := by
    rw [List.map_singleton, List.map_singleton, h]
  have q := TL.map_tl_inj this
  exact (List.cons.inj q).1
theorem splitB_join (z : Str) : Txt.join " " (Txt.split z " ") = z := by
  refine tl_inj ?_
  rw [TL.join_eq, TL.tl_join, splitB_tl, blank_tl, (spl32 (TL.tl z) []).1]
  rfl
theorem splitB_mem {z y : Str} (h : y ∈ Txt.split z " ") : y.length ≤ z.length ∧ ∀ c ∈ y.cps.toList, c ∈ z.cps.toList := by
  have m : TL.tl y ∈ TL.spl [32] 0 [] (TL.tl z) := by
    rw [← splitB_tl]
    exact List.mem_map_of_mem h
  obtain ⟨a, b⟩ := (spl32 (TL.tl z) []).2.2 _ m
  refine ⟨?_, fun c hc => ?_⟩
  · have e1 : (TL.tl y).length = y.length := TL.len_tl y
    have e2 : (TL.tl z).length = z.length := TL.len_tl z
    rw [e1, e2] at a
    simpa using a
  · rcases b c hc with q | q
    · cases q
    · exact q
/-! ### errors are made, rankings read -/
def spErr (C : Addr) (f : Str) : Sp := fun vs H Q _ => ∃ (a : Addr) (v : V), vs = [.ref a, v] ∧ H a = some (exo a C none) ∧ ∀ dx, H dx = none → dx ≠ a → Q .non (upd (upd H dx (exd dx [(f, v)])) a (exo a C (some dx)))
/-- what making an error leaves -/
theorem made_err {K : PySem.W.Frag} {H : Hp} {C : Addr} {f : Str} {v : V} {σ : L2.St} {W : XK} (h : ∀ dd H', Same H H' → H dd = none → H' dd = some (.xd [(f, v)]) → W (.ref C) (some dd) H') :
    ([v] : List V).length ≤ 1000 ∧ ∀ a, H a = none → spErr C f (.ref a :: ([v] ++ [])) (upd H a (exo a C none))
      (fun x H2 => x = .non ∧ ∃ (d : Addr) (fs : List (Str × V)), H2 a = some (exo a C (some d)) ∧ H2 d = some (exd d fs) ∧ H d = none ∧ W (.ref C) (some d) (upd (del H2 a) d (.xd fs))) (fun _ _ _ => False) := by
  refine ⟨by show 1 ≤ 1000; decide, fun a na => ⟨a, v, rfl, upd_same, fun dx ndx hne => ⟨rfl, dx, [(f, v)], upd_same, ?_, ?_, ?_⟩⟩⟩
  · rw [upd_ne hne, upd_same]
  · rw [upd_ne hne] at ndx
    exact ndx
  · rw [upd_ne hne] at ndx
    refine h dx _ (fun b o e => ?_) ndx upd_same
    have n1 : b ≠ a := ne_of_none e na
    have n2 : b ≠ dx := ne_of_none e ndx
    rw [upd_ne n2, del_ne n1, upd_ne n1, upd_ne n2, upd_ne n1]
    exact e
section
variable {P : Program} {w : World} {K : PySem.W.Frag} {mg : Str → Option Value} {base : Heap}
theorem ok_InvalidTextD_initD (T : Tx K mg) : FnOk P w K mg base CX0 1 T.a_InvalidTextD_initD T.fd_InvalidTextD_initD ["self", "given"] (spErr T.E_InvalidText "given") := by
  refine T.F_InvalidTextD_initD.ok sc_InvalidTextD_initD (fun vs H Q E h => ?_) (fun cdv A outer s H vs Q E hr h => ?_)
  · obtain ⟨a, v, rfl, _⟩ := h
    rfl
  · obtain ⟨a, v, rfl, ha, k⟩ := h
    refine ⟨_, (pss_one (ps_ost (pv 0) (pv 1))), ?_⟩
    exact ⟨_, rfl, _, rfl, a, T.E_InvalidText, rfl, T.ox_InvalidText, T.no_InvalidText_given, .inl ⟨ha, fun dx nd hne => k dx nd hne⟩⟩
end
end MH
namespace MH
open PySem PySem.Spec PyProof.Rows L2
/-! ### looks of any texts -/
def wordsT (z : Str) : List Str := Txt.split z " "
def initS (w : Str) : Str := cutS w none (some (-1))
def lastS (w : Str) : Str := cutS w (some (-1)) none
def menuT (z : Str) : List Str := (wordsT z).map initS
def signsT (z : Str) : Str := Txt.join "" ((wordsT z).map lastS)
def lookB (z : Str) : Bool := decide (badN (menuT z) 10 = none) && marksB (signsT z) (menuT z).length
theorem words_ne (z : Str) : wordsT z ≠ [] := splitB_ne z
theorem words_mem {z y : Str} (h : y ∈ wordsT z) : y.length ≤ z.length := (splitB_mem h).1
theorem cut_len (w : Str) (lo hi : Option Int) : (cutS w lo hi).length ≤ w.length := by
  unfold cutS
  show (List.toArray _).size ≤ _
  rw [List.size_toArray, List.length_take, List.length_drop]
  have : w.cps.toList.length = w.length := rfl
  omega
theorem last_len (w : Str) : (lastS w).length ≤ 1 := by
  unfold lastS cutS
  show (List.toArray _).size ≤ _
  rw [List.size_toArray, List.length_take, List.length_drop]
  have e1 : HT.sIx w.length w.length none = w.length := rfl
  have e2 : HT.sIx w.length 0 (some (-1)) = w.length - 1 := by
    unfold HT.sIx
    simp only
    rw [if_pos (by decide)]
    omega
  rw [e1, e2]
  omega
theorem spl_many : ∀ (l acc : List Nat), (TL.spl [32] 0 acc l).length ≤ l.length + 1
  | [], acc => by rw [TL.spl_nil]; exact Nat.le_refl _
  | c :: r, acc => by
    cases h : TL.pre [32] (c :: r) with
    | true =>
      rw [TL.spl_hit h]
      have := spl_many r []
      have e2 : ([32] : List Nat).length - 1 = 0 := rfl
      rw [e2, List.length_cons, List.length_cons]
      omega
    | false =>
      rw [TL.spl_miss h]
      have := spl_many r (acc ++ [c])
      rw [List.length_cons]
      omega
theorem words_many (z : Str) : (wordsT z).length ≤ z.length + 1 := by
  have a := spl_many (TL.tl z) []
  rw [← splitB_tl, List.length_map] at a
  have e2 : (TL.tl z).length = z.length := TL.len_tl z
  unfold wordsT
  omega
theorem badN_menu {ms : List Str} (ne : ms ≠ []) (h : badN ms 10 = none) : MenuN ms := by
  unfold badN at h
  rw [List.find?_eq_none] at h
  have q : ∀ j, j < ms.length → badNq ms 10 j = false := fun j hj => by
    have := h j (List.mem_range.mpr hj)
    cases e : badNq ms 10 j with
    | false => rfl
    | true => exact absurd e this
  have q2 : ∀ j (hj : j < ms.length), j < 10 ∧ nameOk ms[j] = true ∧ (0 < j → ltS (ms.getD (j - 1) "") ms[j]) := fun j hj => by
    have e := q j hj
    unfold badNq at e
    rw [getD_of (List.getElem?_eq_getElem hj), Bool.or_eq_false_iff, Bool.or_eq_false_iff, decide_eq_false_iff_not, Bool.not_eq_false'] at e
    refine ⟨by omega, e.1.2, fun h0 => ?_⟩
    have e3 := e.2
    rw [decide_eq_true h0, Bool.true_and, Bool.not_eq_false', decide_eq_true_iff] at e3
    exact e3
  refine ⟨ne, ?_, fun z hz => ?_, ?_⟩
  · rcases Nat.lt_or_ge 10 ms.length with c | c
    · have := (q2 10 c).1
      omega
    · exact c
  · obtain ⟨j, hj, rfl⟩ := List.getElem_of_mem hz
    exact (q2 j hj).2.1
  · have step : ∀ j (hj : j + 1 < ms.length), ltS ms[j] ms[j + 1] := fun j hj => by
      have := (q2 (j + 1) hj).2.2 (Nat.succ_pos _)
      rw [show j + 1 - 1 = j from rfl, getD_of (List.getElem?_eq_getElem (by omega : j < ms.length))] at this
      exact this
    refine List.pairwise_iff_getElem.mpr fun i j hi hj hij => ?_
    obtain ⟨k, rfl⟩ : ∃ k, j = i + 1 + k := ⟨j - (i + 1), by omega⟩
    clear hij
    induction k with
    | zero => exact step i hj
    | succ k ih => exact ltS_trans (ih (by omega)) (step (i + 1 + k) hj)
theorem sum_leN {α : Type} (f : α → Nat) {m : Nat} : ∀ l : List α, (∀ a ∈ l, f a ≤ m) → (l.map f).sum ≤ l.length * m
  | [], _ => Nat.zero_le _
  | a :: r, h => by
    have h1 := h a List.mem_cons_self
    have h2 := sum_leN f r fun b hb => h b (List.mem_cons_of_mem _ hb)
    rw [List.map_cons, List.sum_cons, List.length_cons, Nat.succ_mul]
    omega
theorem joinL_len : ∀ ps : List (List Nat), (TL.joinL [] ps).length = (ps.map List.length).sum
  | [] => rfl
  | [p] => by show p.length = _; rw [List.map_singleton, List.sum_singleton]
  | p :: q :: r => by
    have ih := joinL_len (q :: r)
    show (p ++ ([] ++ TL.joinL [] (q :: r))).length = _
    rw [List.nil_append, List.length_append, ih]
    simp
theorem signs_len (z : Str) : (signsT z).cps.toList.length ≤ (wordsT z).length := by
  have e : (signsT z).cps.toList = TL.joinL [] (((wordsT z).map lastS).map TL.tl) := by
    have q : TL.tl (signsT z) = TL.joinL (TL.tl ("" : Str)) (((wordsT z).map lastS).map TL.tl) := by
      unfold signsT
      rw [TL.join_eq, TL.tl_join]
    exact q
  rw [e, joinL_len, List.map_map, List.map_map]
  refine Nat.le_trans (sum_leN _ (m := 1) (wordsT z) fun w _ => ?_) (by omega)
  have h1 : (TL.tl (lastS w)).length = (lastS w).length := TL.len_tl _
  show (TL.tl (lastS w)).length ≤ 1
  rw [h1]
  exact last_len w
theorem lk_made {K : PySem.W.Frag} {C : Addr} {H : Hp} {y dy m : Addr} {ms : List Str} {sg : Str} {Z : Hp → Prop} (hM : SqT K H m (ms.map V.str)) (mo : MenuN ms) (mk : marksB sg ms.length = true) (ny : H y = none) (ndy : H dy = none) (hne : dy ≠ y)
    (k : ∀ H', Same H H' → LkAt K C H' y m ms sg → Z H') : spLkInit K C [.ref y, .ref m, .str sg] (upd (upd H dy (.own y)) y (.ins C dy [])) (fun v H2 => v = .non ∧ Z H2) E0 := by
  have s2 : Same H (upd (upd H dy (.own y)) y (.ins C dy [])) := (Same.new ndy).new' (by rw [upd_ne hne.symm]; exact ny)
  exact ⟨y, dy, m, ms, sg, rfl, upd_same, s2.sqt hM, mo, mk, fun H6 s6 la => ⟨rfl, k H6 (fun b o h => s6 b o (ne_of_none h ny) (s2 _ _ h)) la⟩⟩
def spLkReadX (K : PySem.W.Frag) (C E1 : Addr) : Sp := fun vs H Q E => ∃ z : Str, vs = [.ref C, .str z] ∧ z.length ≤ 5000 ∧
  (lookB z = true → ∀ x m H', Same H H' → LkAt K C H' x m (menuT z) (signsT z) → Q (.ref x) H') ∧
  (lookB z = false → ∀ dd H', Same H H' → H dd = none → H' dd = some (.xd [("given", .str z)]) → E (.ref E1) (some dd) H')
section
variable {P : Program} {w : World} {K : PySem.W.Frag} {mg : Str → Option Value} {base : Heap}
theorem ok_Look_read (T : Tx K mg) : FnOk P w K mg base (L2.CX P w) 6 T.a_Look_read T.fd_Look_read ["cls", "text"] (spLkReadX K T.C T.E_InvalidText) := by
  refine T.F_Look_read.okX sc_Look_read (fun vs H Q E h => ?_) (fun cdv A outer s H vs Q E hr h => ?_)
  · obtain ⟨z, rfl, _⟩ := h
    rfl
  · obtain ⟨z, rfl, hz, good, bad⟩ := h
    refine ⟨_, (pss_cons (ps_if (pt_not (pt_val (pe_callB call_isi (by rfl) T.n_isinstance (by decide +kernel) (pa_cons (pv 1) (pa_cons (pe_bltn (v := .ty "str") (by rfl) T.n_str (by decide +kernel) rfl) pa_nil)))))
        (pss_one (ps_raise rfl (takes_of rfl rfl rfl rfl) (pmk_oex T.ox_InvalidText T.ic_InvalidText T.ti_InvalidText (ok_InvalidTextD_initD T) (hr.mono (by decide)) T.b_InvalidTextD_initD .nil pass0 rfl T.g_InvalidText (pa_cons (pv 1) pa_nil))))
        pss_nil)
      (pss_cons (ps_set (i := 2) sc_Look_read.nd rfl (Or.inl rfl) (pe_split (pv 1) pe_str))
      (pss_cons (ps_set (i := 3) sc_Look_read.nd rfl (Or.inl rfl) (pe_callTy call_tupF (by rfl) T.n_tuple (by decide +kernel) (pa_cons (pe_lc (own := [("part", 5)]) (g := gName 5) (tt := tYes) rfl sc_Look_read.nd (pi_list (pv 2)) (blkOk_by (own := [("part", 5)]) (N := names_Look_read) (sc := defScope st_Look_read) (by decide +kernel)) (fun _ _ _ _ _ => pg_name (i := 5) sc_Look_read.nd rfl (Or.inl rfl)) (fun _ _ _ _ _ => pts_nil) (fun _ _ _ _ _ => (pe_slice sl_str (pv 5) po_none (po_some (pe_un un_neg pe_int))))) pa_nil)))
      (pss_cons (ps_set (i := 4) sc_Look_read.nd rfl (Or.inl rfl) (pe_join pe_str (pe_lc (own := [("part", 5)]) (g := gName 5) (tt := tYes) rfl sc_Look_read.nd (pi_list (pv 2)) (blkOk_by (own := [("part", 5)]) (N := names_Look_read) (sc := defScope st_Look_read) (by decide +kernel)) (fun _ _ _ _ _ => pg_name (i := 5) sc_Look_read.nd rfl (Or.inl rfl)) (fun _ _ _ _ _ => pts_nil) (fun _ _ _ _ _ => (pe_slice sl_str (pv 5) (po_some (pe_un un_neg pe_int)) po_none)))))
      (pss_cons (ps_if (PW.pt (pw_or (pt_cmpR op_notN (pe_call (ok_first_wrong_of_names T) (hr.mono (by decide)) rfl T.g_first_wrong_of_names T.F_first_wrong_of_names.kp T.bd_first_wrong_of_names.choose_spec.2 T.bd_first_wrong_of_names.choose_spec.1 pass0 (pa_cons (pv 3) pa_nil)) pe_non (nomark _)) (pw_or1 (pt_not (pt_val (pe_call (ok_are_marks T) (hr.mono (by decide)) rfl T.g_are_marks T.F_are_marks.kp T.b_are_marks .nil pass0 (pa_cons (pv 4) (pa_cons (pe_callB call_len_seq (by rfl) T.n_len (by decide +kernel) (pa_cons (pv 3) pa_nil)) pa_nil))))))))
        (pss_one (ps_raise rfl (takes_of rfl rfl rfl rfl) (pmk_oex T.ox_InvalidText T.ic_InvalidText T.ti_InvalidText (ok_InvalidTextD_initD T) (hr.mono (by decide)) T.b_InvalidTextD_initD .nil pass0 rfl T.g_InvalidText (pa_cons (pv 1) pa_nil))))
        pss_nil)
      (pss_one (ps_ret (pe_makeV T.mkc (ok_LookD_initD T) (hr.mono (by decide)) (pv 0) T.b_LookD_initD pass0 (pa_cons (pv 3) (pa_cons (pv 4) pa_nil)))))))))), ?_⟩
    have lw := words_many z
    refine ⟨_, rfl, _, _, _, _, true, rfl, .ty _, .base (.str _), kit_ty (by decide +kernel), true, rfl, iteF ?_⟩
    refine ⟨_, rfl, ⟨_, rfl⟩, _, _, rfl, rfl, by decide, le_line (by omega), ?_⟩
    rw [show Txt.split z " " = wordsT z from rfl]
    intro l nl
    have s0 := Same.new nl (o := .lst ((wordsT z).map V.str))
    have e0 : (upd H l (.lst ((wordsT z).map V.str))) l = some (.lst ((wordsT z).map V.str)) := upd_same
    generalize upd H l (.lst ((wordsT z).map V.str)) = H0 at s0 e0 ⊢
    refine ⟨_, rfl, l, rfl, ⟨_, lst_of e0⟩, fun D nD => lcv walk_list (wordsT z) (fun y => V.str (initS y)) (List.length_map _).symm nD (by rw [List.length_map]; omega) (fun H' s => lst_of (s _ _ e0)) (fun _ _ _ _ _ y => yat_same y) (fun i u y H1 H2 hu s1 yy Z hZ => ?_) (fun H1 s1 e1 => ?_)⟩
    · obtain ⟨rfl, hx⟩ := yy
      obtain ⟨y, hy, rfl⟩ := str_at hx
      obtain rfl : y = u := Option.some.inj (hy.symm.trans hu)
      have ly := words_mem (List.mem_of_getElem? hy)
      exact ⟨rfl, _, rfl, _, rfl, _, rfl, _, rfl, le_line (by omega), hZ _ (Same.refl _)⟩
    have en : (wordsT z).map (fun y => V.str (initS y)) = (menuT z).map V.str := by
      unfold menuT
      rw [List.map_map]
      rfl
    rw [en] at e1
    refine ⟨D, _, rfl, .inl ⟨lst_of e1, fun a oa na oda => ?_⟩⟩
    have s2 := s1.new' na (o := .frz oa (.tup ((menuT z).map V.str)))
    have hM : SqT K (upd H1 a (.frz oa (.tup ((menuT z).map V.str)))) a ((menuT z).map V.str) := frz_of upd_same
    generalize upd H1 a (.frz oa (.tup ((menuT z).map V.str))) = H2 at s2 hM ⊢
    have e02 := s2 _ _ e0
    refine ⟨⟨_, rfl⟩, _, rfl, l, rfl, ⟨_, lst_of e02⟩, fun D2 nD2 => lcv walk_list (wordsT z) (fun y => V.str (lastS y)) (List.length_map _).symm nD2 (by rw [List.length_map]; omega) (fun H' s => lst_of (s _ _ e02)) (fun _ _ _ _ _ y => yat_same y) (fun i u y H3 H4 hu s3 yy Z hZ => ?_) (fun H3 s3 e3 => ?_)⟩
    · obtain ⟨rfl, hx⟩ := yy
      obtain ⟨y, hy, rfl⟩ := str_at hx
      obtain rfl : y = u := Option.some.inj (hy.symm.trans hu)
      have ly := words_mem (List.mem_of_getElem? hy)
      exact ⟨rfl, _, rfl, _, rfl, _, rfl, _, rfl, le_line (by omega), hZ _ (Same.refl _)⟩
    have ec : (wordsT z).map (fun y => V.str (lastS y)) = ((wordsT z).map lastS).map V.str := by
      rw [List.map_map]
      rfl
    rw [ec] at e3
    have hM3 := s3.sqt hM
    have s03 := s0.trans (s2.trans s3)
    have sl := signs_len z
    have lmm : ((menuT z).map V.str).length = (menuT z).length := List.length_map _
    have sumL : (((wordsT z).map lastS).map (fun x => x.length)).sum ≤ 6000 := by
      rw [List.map_map]
      have := sum_leN ((fun x : Str => x.length) ∘ lastS) (m := 1) (wordsT z) fun w _ => last_len w
      omega
    refine ⟨_, D2, _, rfl, rfl, .inl (lst_of e3), ?_, ?_⟩
    · have e1 : ("" : Str).length = 0 := by decide +kernel
      rw [e1]
      omega
    · show gName 4 (V.str (signsT z)) _ _ _
      have mz : ∀ y ∈ menuT z, y.length ≤ 100000 := fun y hy => by
        obtain ⟨w, hw, rfl⟩ := List.mem_map.mp hy
        have := words_mem hw
        have := cut_len w none (some (-1))
        show (cutS w none (some (-1))).length ≤ _
        omega
      refine ⟨_, rfl, a, menuT z, 10, rfl, hM3, mz, fun H5 s5 => ?_⟩
      have s05 := s03.trans s5
      have err : ∀ Hx, Same H Hx → lookB z = false → ∀ dd H', Same Hx H' → Hx dd = none → H' dd = some (.xd [("given", .str z)]) → E (.ref T.E_InvalidText) (some dd) H' := fun Hx sx b dd H' s3 nd hd => by
        have n : H dd = none := by
          cases q : H dd with
          | none => rfl
          | some o =>
            rw [sx _ _ q] at nd
            cases nd
        exact bad b dd H' (sx.trans s3) n hd
      cases hB : badN (menuT z) 10 with
      | some n =>
        exact ⟨rfl, _, rfl, iteT ⟨_, rfl, made_err (K := K) (σ := []) (err _ s05 (by unfold lookB; rw [hB]; rfl))⟩⟩
      | none =>
        refine ⟨rfl, _, rfl, iteF ?_⟩
        refine ⟨_, rfl, _, rfl, a, _, rfl, .inr (s5.sqt hM3), signsT z, (menuT z).length, by rw [lmm]; rfl, by omega, fun H6 s6 => ?_⟩
        cases hM2 : marksB (signsT z) (menuT z).length with
        | false => exact ⟨false, rfl, iteT ⟨_, rfl, made_err (K := K) (σ := []) (err _ (s05.trans s6) (by unfold lookB; rw [hM2, Bool.and_false]))⟩⟩
        | true =>
          refine ⟨true, rfl, iteF ?_⟩
          have s36 := s5.trans s6
          have mo := badN_menu (ms := menuT z) (fun e => words_ne z (List.map_eq_nil_iff.mp e)) hB
          have gd : lookB z = true := by unfold lookB; rw [hM2, hB]; rfl
          exact ⟨_, rfl, rfl, _, rfl, _, rfl, fun y dy ny ndy hne => lk_made (s36.sqt hM3) mo hM2 ny ndy hne fun H7 s7 la => good gd y a H7 (s03.trans (s36.trans s7)) la⟩
end
end MH
namespace MH
open PySem PySem.Spec PyProof.Rows L2
/-! ### names, by the law's own reading -/
section
variable {P : Program} {w : World} {K : PySem.W.Frag} {mg : Str → Option Value} {base : Heap}
theorem ok_l_is_name (T : Tx K mg) : FnOk P w K mg base CX0 4 T.a_l_is_name T.fd_l_is_name ["_law_thing"] spIsName := by
  refine T.F_l_is_name.ok sc_l_is_name (fun vs H Q E h => ?_) (fun cdv A outer s H vs Q E hr h => ?_)
  · obtain ⟨z, rfl, _⟩ := h
    rfl
  · obtain ⟨z, rfl, hz, k⟩ := h
    refine ⟨_, (pss_cons (ps_if (PW.pt (pw_or (pt_not (pt_val (pe_callB call_isi (by rfl) T.n_isinstance (by decide +kernel) (pa_cons (pv 0) (pa_cons (pe_bltn (v := .ty "str") (by rfl) T.n_str (by decide +kernel) rfl) pa_nil))))) (pw_or (pt_cmpR op_lt (pe_callB call_len_str (by rfl) T.n_len (by decide +kernel) (pa_cons (pv 0) pa_nil)) pe_int (nomark _)) (pw_or1 (pt_cmpR op_gt (pe_callB call_len_str (by rfl) T.n_len (by decide +kernel) (pa_cons (pv 0) pa_nil)) pe_int (nomark _))))))
        (pss_one (ps_ret pe_bl))
        pss_nil)
      (pss_cons (ps_set (i := 1) sc_l_is_name.nd rfl (Or.inr rfl) pe_str)
      (pss_one (ps_ret (pe_and (pe_cmpR op_in_sign (pe_ix ix_str (pv 0) pe_int (fun _ _ => rfl)) (pv 1) (by rfl)) (pe_one (pe_callB (cr_all rfl) (by rfl) T.n_all (by decide +kernel) (pa_cons (pe_lc (own := [("_law_sign_here", 2)]) (g := gName 2) (tt := tYes) rfl sc_l_is_name.nd (pi_str (pv 0)) (blkOk_by (own := [("_law_sign_here", 2)]) (N := names_l_is_name) (sc := defScope st_l_is_name) (by decide +kernel)) (fun _ _ _ _ _ => pg_name (i := 2) sc_l_is_name.nd rfl (Or.inl rfl)) (fun _ _ _ _ _ => pts_nil) (fun _ _ _ _ _ => (pe_cmpR op_in_sign (pv 2) (pe_op op_add_str (pv 1) pe_str) (by rfl)))) pa_nil)))))))), ?_⟩
    refine ⟨_, rfl, _, _, _, _, true, rfl, .ty _, .base (.str z), kit_ty (by decide +kernel), true, rfl, iteF ?_⟩
    refine ⟨_, rfl, z, rfl, le_line hz, _, _, rfl, rfl, _, rfl, ?_⟩
    by_cases h1 : 1 ≤ z.length
    · refine ifF (decide_eq_false (by omega)) ?_
      refine ⟨_, rfl, z, rfl, le_line hz, _, _, rfl, rfl, _, rfl, ?_⟩
      by_cases h2 : z.length ≤ 8
      · refine ifF (decide_eq_false (by omega)) ?_
        have hne : z.cps.toList ≠ [] := fun e => by
          have : z.cps.size = 0 := by rw [← Array.length_toList, e]; rfl
          have e2 : z.length = z.cps.size := rfl
          omega
        obtain ⟨c0, rest, ec⟩ : ∃ c r, z.cps.toList = c :: r := List.exists_cons_of_ne_nil hne
        have en : nameOk z = (isL c0 && z.cps.toList.all fun c => isL c || isD c) := by
          unfold nameOk
          rw [decide_eq_true h1, decide_eq_true h2, ec]
          rfl
        refine ⟨_, rfl, z, 0, c0, rfl, rfl, le_line hz, (by rw [ec]; exact atI_nat (j := 0) rfl), _, rfl, c0, letters, rfl, rfl, isL c0, rfl, ?_⟩
        cases hc : isL c0 with
        | false =>
          refine iteF ?_
          have z0 := k H (Same.refl H)
          rw [en, hc] at z0
          exact z0
        | true =>
          refine iteT ?_
          have ld : ∀ c : Nat, decide (c ∈ (letters ++ digits : Str).cps.toList) = (isL c || isD c) := fun c => by
            have e : (letters ++ digits : Str).cps.toList = letters.cps.toList ++ digits.cps.toList := by decide +kernel
            rw [e, Bool.eq_iff_iff, decide_eq_true_iff, List.mem_append, Bool.or_eq_true]
            unfold isL isD
            rw [decide_eq_true_iff, decide_eq_true_iff]
          refine ⟨_, rfl, z, rfl, fun D nD => lc_it (w := walk_str) (fun i H' => Same H H' ∧ H' D = some (.lst ((z.cps.toList.take i).map fun c => V.bl (isL c || isD c)))) ⟨Same.new nD, upd_same⟩ (fun _ _ _ _ => trivial) ?_ ?_⟩
          · rintro i x H1 H2 hi ⟨s1, e1⟩ ⟨rfl, c, hc, rfl⟩
            refine ⟨rfl, ?_⟩
            refine ⟨_, rfl, _, rfl, letters, digits, rfl, rfl, by decide +kernel, c, letters ++ digits, rfl, rfl, _, e1, lt_line ?_, fun q o e => ?_, ?_⟩
            · have : z.cps.toList.length = z.length := rfl
              rw [List.length_map, List.length_take]
              omega
            · rw [upd_ne (ne_of_none e nD)]
              exact s1 _ _ e
            · rw [upd_same, ld]
              have g : z.cps.toList[i]? = some c := by
                rw [Array.getElem?_toList]
                exact hc
              rw [List.take_add_one, g, List.map_append]
              rfl
          · rintro H1 ⟨s1, e1⟩
            refine ⟨D, z.cps.toList.map fun c => isL c || isD c, rfl, lst_of ?_, ?_⟩
            · have : z.cps.toList.length ≤ z.cps.size := Nat.le_refl _
              rw [e1, List.take_of_length_le this, List.map_map]
              rfl
            · have z0 := k H1 s1
              rw [en, hc] at z0
              have e3 : (z.cps.toList.map fun c => isL c || isD c).all id = z.cps.toList.all fun c => isL c || isD c := by
                rw [List.all_map]
                rfl
              rw [e3]
              exact z0
      · refine ifT (decide_eq_true (by omega)) ?_
        have z0 := k H (Same.refl H)
        have en : nameOk z = false := by
          unfold nameOk
          rw [decide_eq_false h2]
          simp
        rw [en] at z0
        exact z0
    · refine ifT (decide_eq_true (by omega)) ?_
      have z0 := k H (Same.refl H)
      have en : nameOk z = false := by
        unfold nameOk
        rw [decide_eq_false h1]
        rfl
      rw [en] at z0
      exact z0
end
end MH
namespace MH
open PySem PySem.Spec PyProof.Rows L2
/-! ### names in their order, by the law's own reading -/
def wrongV (names : List Str) : V := match badN names 10 with
  | some k => .int (k : Nat)
  | none => .int (-1)
def spWrongN (K : PySem.W.Frag) : Sp := fun vs H Q _ => ∃ (t : Addr) (names : List Str), vs = [.ref t] ∧ SqT K H t (names.map V.str) ∧ names ≠ [] ∧ names.length ≤ 60000 ∧ (∀ z ∈ names, z.length ≤ 100000) ∧ ∀ H', Same H H' → Q (wrongV names) H'
section
variable {P : Program} {w : World} {K : PySem.W.Frag} {mg : Str → Option Value} {base : Heap}
theorem ok_l_wrong_names (T : Tx K mg) : FnOk P w K mg base CX0 5 T.a_l_wrong_names T.fd_l_wrong_names ["_law_menu"] (spWrongN K) := by
  refine T.F_l_wrong_names.ok sc_l_wrong_names (fun vs H Q E h => ?_) (fun cdv A outer s H vs Q E hr h => ?_)
  · obtain ⟨t, names, rfl, _⟩ := h
    rfl
  · obtain ⟨t, names, rfl, hT, ne, hl, hz0, k⟩ := h
    refine ⟨_, (pss_cons (ps_if (PW.pt (pw_or (pt_not (pt_val (pe_callB call_isi (by rfl) T.n_isinstance (by decide +kernel) (pa_cons (pv 0) (pa_cons (pe_bltn (v := .ty "tuple") (by rfl) T.n_tuple (by decide +kernel) rfl) pa_nil))))) (pw_or1 (pt_cmpR (op_eqT0 hr.units0) (pv 0) (pe_tup pa_nil) (nomark _)))))
        (pss_one (ps_ret pe_non))
        pss_nil)
      (pss_cons (ps_for PassesOwn.never rfl (pi_range1 (by rfl) T.n_range (pa_cons (pe_callB call_len_seq (by rfl) T.n_len (by decide +kernel) (pa_cons (pv 0) pa_nil)) pa_nil)) (pg_name (i := 1) sc_l_wrong_names.nd rfl (Or.inl rfl))
        (pss_cons (ps_if (PW.pt (pw_or (pt_not (pt_val (pe_call (ok_l_is_name T) (hr.mono (by decide)) rfl T.g_l_is_name T.F_l_is_name.kp T.b_l_is_name .nil pass0 (pa_cons (pe_ix ix_tup (pv 0) (pv 1) (fun _ _ => rfl)) pa_nil)))) (pw_or1 (pt_cmpR op_eq (pv 1) pe_int (nomark _)))))
        (pss_one (ps_ret (pv 1)))
        pss_nil)
      (pss_one (ps_if (PW.pt (pw_and (pt_cmpR op_gt (pv 1) pe_int (nomark _)) (pw_and1 (pt_cmpR op_le_str (pe_ix ix_tup (pv 0) (pv 1) (fun _ _ => rfl)) (pe_ix ix_tup (pv 0) (pe_op op_sub (pv 1) pe_int) (fun _ _ => rfl)) (nomark _)))))
        (pss_one (ps_ret (pv 1)))
        pss_nil))))
      (pss_one (ps_ret (pe_un un_neg pe_int))))), ?_⟩
    have lm : (names.map V.str).length = names.length := List.length_map _
    refine ⟨_, rfl, _, _, _, _, true, rfl, .ty _, hT.ty, kit_ty (by decide +kernel), true, rfl, iteF ?_⟩
    refine ⟨_, rfl, (by decide +kernel), fun e ne2 => ⟨t, e, names.map V.str, rfl, rfl, (Same.new ne2).sqt hT, .inl (.inl upd_same), ?_⟩⟩
    have s0 := Same.new ne2 (o := .tup [])
    generalize upd H e (.tup []) = H0 at s0 ⊢
    refine ⟨_, rfl, ifF (by
      rw [decide_eq_false]
      exact fun q => ne (List.map_eq_nil_iff.mp q)) ?_⟩
    refine ⟨_, rfl, t, _, rfl, .inr (s0.sqt hT), _, rfl, by omega, by omega, for_range (lo := 0) (n := ((((names.map V.str).length : Nat) : Int)).toNat) (fun i σ H' => Same H H' ∧ (∀ j, j < i → badNq names 10 j = false) ∧ ∃ v1, σ = [some (.ref t), v1]) ⟨s0, fun j hj => absurd hj (Nat.not_lt_zero j), none, rfl⟩ ?_ ?_⟩
    · rintro i σ H1 hi ⟨s1, hb, v1, rfl⟩
      rw [lm, Int.toNat_natCast] at hi
      have i10 : i ≤ 10 := by
        rcases Nat.lt_or_ge 10 i with c | c
        · have := hb 10 c
          unfold badNq at this
          simp at this
        · exact c
      have hz : names[i]? = some names[i] := List.getElem?_eq_getElem hi
      generalize names[i] = z at hz
      have g := getD_of hz
      have gz : (names.map V.str)[i]? = some (.str z) := by
        rw [List.getElem?_map, hz]
        rfl
      rw [show (0 : Int) + (i : Int) = ((i : Nat) : Int) from Int.zero_add _]
      have out : badNq names 10 i = true → ∀ H', Same H H' → Q (.int (i : Nat)) H' := fun b H' s => by
        have q := k _ s
        unfold wrongV at q
        rw [badN_some hi b hb] at q
        exact q
      refine ⟨_, rfl, _, rfl, t, _, _, V.str z, rfl, rfl, s1.sqt hT, atI_nat gz, z, rfl, hz0 z (List.mem_of_getElem? hz), fun H2 s2 => ?_⟩
      cases hn : nameOk z with
      | false => exact ⟨false, rfl, iteT ⟨_, rfl, out (by unfold badNq; rw [g, hn]; simp) _ (s1.trans s2)⟩⟩
      | true =>
        refine ⟨true, rfl, iteF ?_⟩
        refine ⟨_, rfl, rfl, _, rfl, ?_⟩
        have s12 := s1.trans s2
        by_cases h10 : i = 10
        · refine ifT (decide_eq_true (by rw [h10]; rfl)) ⟨_, rfl, out (by unfold badNq; rw [h10]; rfl) _ s12⟩
        refine ifF (decide_eq_false fun e => h10 (by have := V.int.inj e; omega)) ?_
        have b0 : badNq names 10 i = (decide (0 < i) && !decide (ltS (names.getD (i - 1) "") z)) := by
          unfold badNq
          rw [g, hn, decide_eq_false (by omega : ¬ 10 ≤ i)]
          rfl
        refine ⟨_, rfl, _, _, rfl, rfl, _, rfl, ?_⟩
        cases i with
        | zero => exact ifF (by decide) (iteF ⟨s12, fun j hj => by
            rcases Nat.lt_succ_iff_lt_or_eq.mp hj with hj | rfl
            · exact hb j hj
            · rw [b0]; rfl, _, rfl⟩)
        | succ i =>
          refine ifT (decide_eq_true (by omega)) ?_
          obtain ⟨y, hy⟩ : ∃ y, names[i]? = some y := ⟨names[i], List.getElem?_eq_getElem (by omega)⟩
          have g1 : (names.map V.str)[i]? = some (.str y) := by
            rw [List.getElem?_map, hy]
            rfl
          have gy : names.getD (i + 1 - 1) "" = y := getD_of hy
          have ix : (((i + 1 : Nat) : Int) - 1) = (i : Nat) := by omega
          refine ⟨_, rfl, _, rfl, t, _, _, V.str z, rfl, rfl, s12.sqt hT, atI_nat gz, _, rfl, _, rfl, _, _, rfl, rfl, t, _, _, V.str y, rfl, rfl, s12.sqt hT, (by rw [ix]; exact atI_nat g1), _, _, rfl, rfl, _, rfl, ite2 (fun c => ?_) (fun c => ?_)⟩
          · exact ⟨_, rfl, out (by rw [b0, gy]; exact c) _ s12⟩
          · refine ⟨s12, fun j hj => ?_, _, rfl⟩
            rcases Nat.lt_succ_iff_lt_or_eq.mp hj with hj | rfl
            · exact hb j hj
            · rw [b0, gy]
              exact Bool.eq_false_iff.mpr c
    · rintro σ H1 ⟨s1, hb, v1, rfl⟩
      rw [lm, Int.toNat_natCast] at hb
      have q := k H1 s1
      unfold wrongV at q
      rw [badN_none hb] at q
      exact ⟨1, rfl, q⟩
end
end MH
namespace MH
open PySem PySem.Spec PyProof.Rows L2
/-! ### looks, by the law's own reading -/
theorem tl_app1 (z : Str) (c : Nat) : (z ++ (⟨#[c]⟩ : Str)).cps.toList = z.cps.toList ++ [c] := cps_app z ⟨#[c]⟩
theorem cut_init (z : Str) (c : Nat) : cutS (z ++ (⟨#[c]⟩ : Str)) none (some (-1)) = z := by
  unfold cutS
  have l := len_app1 z c
  rw [tl_app1, l]
  have e1 : HT.sIx (z.length + 1) 0 none = 0 := rfl
  have e2 : HT.sIx (z.length + 1) (z.length + 1) (some (-1)) = z.length := by
    unfold HT.sIx
    simp only
    rw [if_pos (by decide)]
    omega
  rw [e1, e2, List.drop_zero, Nat.sub_zero, len_cps, List.take_left]
theorem cut_last (z : Str) (c : Nat) : cutS (z ++ (⟨#[c]⟩ : Str)) (some (-1)) none = ⟨#[c]⟩ := by
  unfold cutS
  have l := len_app1 z c
  rw [tl_app1, l]
  have e1 : HT.sIx (z.length + 1) (z.length + 1) none = z.length + 1 := rfl
  have e2 : HT.sIx (z.length + 1) 0 (some (-1)) = z.length := by
    unfold HT.sIx
    simp only
    rw [if_pos (by decide)]
    omega
  rw [e1, e2, len_cps, List.drop_left, show z.cps.toList.length + 1 - z.cps.toList.length = 1 by omega]
  rfl
theorem word_split {w : Str} (h : 1 ≤ w.length) : ∃ (y : Str) (c : Nat), w = y ++ (⟨#[c]⟩ : Str) := by
  have ne : w.cps.toList ≠ [] := fun e => by
    have : w.cps.toList.length = w.length := rfl
    rw [e] at this
    simp at this
    omega
  refine ⟨⟨(w.cps.toList.dropLast).toArray⟩, w.cps.toList.getLast ne, ?_⟩
  refine tl_inj ?_
  show w.cps.toList = (_ ++ (⟨#[_]⟩ : Str)).cps.toList
  rw [tl_app1]
  exact (List.dropLast_concat_getLast ne).symm
def lastC (w : Str) : Nat := (lastS w).cps.toList.headD 0
def wordBad (w : Str) : Bool := decide (w.length < 2) || !isM (lastC w)
theorem word_facts {w : Str} (h : 1 ≤ w.length) : ∃ (y : Str), w = y ++ (⟨#[lastC w]⟩ : Str) ∧ initS w = y ∧ lastS w = ⟨#[lastC w]⟩ ∧ w.length = y.length + 1 := by
  obtain ⟨y, c, e⟩ := word_split h
  have e1 : lastS w = ⟨#[c]⟩ := by
    unfold lastS
    rw [e]
    exact cut_last y c
  have e2 : lastC w = c := by
    unfold lastC
    rw [e1]
    rfl
  refine ⟨y, by rw [e2]; exact e, ?_, by rw [e2]; exact e1, ?_⟩
  · unfold initS
    rw [e]
    exact cut_init y c
  · rw [e]
    exact len_app1 y c
theorem signs_of {z : Str} (h : ∀ w ∈ wordsT z, 1 ≤ w.length) : (signsT z).cps.toList = (wordsT z).map lastC := by
  have e : (signsT z).cps.toList = TL.joinL [] (((wordsT z).map lastS).map TL.tl) := by
    have q : TL.tl (signsT z) = TL.joinL (TL.tl ("" : Str)) (((wordsT z).map lastS).map TL.tl) := by
      unfold signsT
      rw [TL.join_eq, TL.tl_join]
    exact q
  have e2 : ((wordsT z).map lastS).map TL.tl = ((wordsT z).map lastC).map fun c => [c] := by
    rw [List.map_map, List.map_map]
    refine List.map_congr_left fun w hw => ?_
    obtain ⟨_, _, _, h3, _⟩ := word_facts (h w hw)
    show (lastS w).cps.toList = [lastC w]
    rw [h3]
  rw [e, e2, joinL_one]
theorem look_words {z : Str} (h : lookB z = true) : ∀ w ∈ wordsT z, wordBad w = false := fun w hw => by
  unfold lookB at h
  rw [Bool.and_eq_true, decide_eq_true_iff] at h
  have mo := badN_menu (ms := menuT z) (fun e => words_ne z (List.map_eq_nil_iff.mp e)) h.1
  have l2 : ∀ w ∈ wordsT z, 2 ≤ w.length := fun w hw => by
    have q := mo.ok (initS w) (List.mem_map.mpr ⟨w, hw, rfl⟩)
    have l0 : 1 ≤ (initS w).length := (nameOk_iff.mp q).1
    rcases Nat.lt_or_ge 0 w.length with c | c
    · obtain ⟨y, _, e, _, l⟩ := word_facts c
      rw [e] at l0
      omega
    · have := cut_len w none (some (-1))
      unfold initS at l0
      omega
  have sg := signs_of fun w hw => Nat.le_of_succ_le (l2 w hw)
  have mk := marks_of h.2
  have mc : lastC w ∈ (signsT z).cps.toList := by
    rw [sg]
    exact List.mem_map.mpr ⟨w, hw, rfl⟩
  unfold wordBad
  rw [decide_eq_false (by have := l2 w hw; omega), isM_iff.mpr (mk.ok _ mc)]
  rfl
theorem look_iff {z : Str} (h : ∀ w ∈ wordsT z, wordBad w = false) : lookB z = (decide (badN (menuT z) 10 = none) && !decide (signsT z = ⟨(List.replicate (menuT z).length 45).toArray⟩)) := by
  have l2 : ∀ w ∈ wordsT z, 2 ≤ w.length ∧ isM (lastC w) = true := fun w hw => by
    have q := h w hw
    unfold wordBad at q
    rw [Bool.or_eq_false_iff, decide_eq_false_iff_not, Bool.not_eq_false'] at q
    exact ⟨by omega, q.2⟩
  have sg := signs_of fun w hw => Nat.le_of_succ_le (l2 w hw).1
  have ml : (menuT z).length = (wordsT z).length := List.length_map _
  have eq1 : signsT z = ⟨(List.replicate (menuT z).length 45).toArray⟩ ↔ (signsT z).cps.toList = List.replicate (menuT z).length 45 := by
    constructor
    · intro e
      rw [e]
    · intro e
      refine tl_inj ?_
      show (signsT z).cps.toList = _
      rw [e]
  unfold lookB
  congr 1
  unfold marksB
  have sl : (signsT z).cps.toList.length = (menuT z).length := by rw [sg, List.length_map, ml]
  have al : (signsT z).cps.toList.all isM = true := by
    rw [sg, List.all_eq_true]
    intro c hc
    obtain ⟨w, hw, rfl⟩ := List.mem_map.mp hc
    exact (l2 w hw).2
  rw [decide_eq_true sl, al, Bool.true_and, Bool.true_and, Bool.eq_iff_iff, decide_eq_true_iff, Bool.not_eq_true', decide_eq_false_iff_not, eq1]
  have cl := List.count_le_length (a := 45) (l := (signsT z).cps.toList)
  constructor
  · intro q e
    rw [e, List.count_replicate_self] at q
    omega
  · intro q
    rcases Nat.lt_or_ge ((signsT z).cps.toList.count 45) (menuT z).length with c | c
    · exact c
    · refine absurd (List.eq_replicate_iff.mpr ⟨sl, fun b hb => ?_⟩) q
      exact (List.count_eq_length.mp (by omega) b hb).symm
theorem mark_in (c : Nat) : inV (V.str ⟨#[c]⟩) [V.str "+", V.str "-", V.str "?"] = isM c := by
  have e1 : ("+" : Str) = ⟨#[43]⟩ := by decide +kernel
  have e2 : ("-" : Str) = ⟨#[45]⟩ := by decide +kernel
  have e3 : ("?" : Str) = ⟨#[63]⟩ := by decide +kernel
  have q : ∀ d : Nat, ((⟨#[d]⟩ : Str) == (⟨#[c]⟩ : Str)) = decide (c = d) := fun d => by
    by_cases h : c = d
    · subst h
      rw [decide_eq_true rfl]
      exact beq_iff_eq.mpr rfl
    · rw [decide_eq_false h]
      exact beq_eq_false_iff_ne.mpr fun e => h (by simpa using (Str.mk.inj e).symm)
  show ((("+" : Str) == (⟨#[c]⟩ : Str)) || ((("-" : Str) == (⟨#[c]⟩ : Str)) || ((("?" : Str) == (⟨#[c]⟩ : Str)) || false))) = isM c
  rw [e1, e2, e3, q, q, q, Bool.eq_iff_iff, isM_iff]
  simp
theorem last_at {w : Str} (h : 1 ≤ w.length) : atI w.cps.toList (-1) = some (lastC w) := by
  obtain ⟨y, e, _⟩ := word_facts h
  have e2 : w.cps.toList = y.cps.toList ++ [lastC w] := by
    have := congrArg (fun x : Str => x.cps.toList) e
    simp only [tl_app1] at this
    exact this
  rw [e2]
  exact atI_last _ _
def spReadL (K : PySem.W.Frag) : Sp := fun vs H Q _ => ∃ z : Str, vs = [.str z] ∧ z.length ≤ 5000 ∧
  (lookB z = true → ∀ (p a : Addr) H', Same H H' → SqT K H' p [.ref a, .str (signsT z)] → SqT K H' a ((menuT z).map V.str) → Q (.ref p) H') ∧ (lookB z = false → ∀ H', Same H H' → Q .non H')
section
variable {P : Program} {w : World} {K : PySem.W.Frag} {mg : Str → Option Value} {base : Heap}
theorem ok_l_read (T : Tx K mg) : FnOk P w K mg base CX0 6 T.a_l_read T.fd_l_read ["_law_said"] (spReadL K) := by
  refine T.F_l_read.ok sc_l_read (fun vs H Q E h => ?_) (fun cdv A outer s H vs Q E hr h => ?_)
  · obtain ⟨z, rfl, _⟩ := h
    rfl
  · obtain ⟨z, rfl, hz, good, bad⟩ := h
    refine ⟨_, (pss_cons (ps_set (i := 1) sc_l_read.nd rfl (Or.inl rfl) (pe_split (pv 0) pe_str))
      (pss_cons (ps_if (pt_val (pe_callB (cr_any rfl) (by rfl) T.n_any (by decide +kernel) (pa_cons (pe_lc (own := [("_law_word", 4)]) (g := gName 4) (tt := tYes) rfl sc_l_read.nd (pi_list (pv 1)) (blkOk_by (own := [("_law_word", 4)]) (N := names_l_read) (sc := defScope st_l_read) (by decide +kernel)) (fun _ _ _ _ _ => pg_name (i := 4) sc_l_read.nd rfl (Or.inl rfl)) (fun _ _ _ _ _ => pts_nil) (fun _ _ _ _ _ => (pe_or (pe_cmpR op_lt (pe_callB call_len_str (by rfl) T.n_len (by decide +kernel) (pa_cons (pv 4) pa_nil)) pe_int (nomark _)) (pe_one (pe_cmpR (r := rIn K true) op_notIn_seq (pe_ix ix_str (pv 4) (pe_un un_neg pe_int) (fun _ _ => rfl)) (pe_lst (pa_cons pe_str (pa_cons pe_str (pa_cons pe_str pa_nil)))) (by rfl)))))) pa_nil)))
        (pss_one (ps_ret pe_non))
        pss_nil)
      (pss_cons (ps_par (i := 2) (j := 3) rfl sc_l_read.nd rfl rfl (by decide) rfl rfl (pa_cons (pe_callTy call_tupF (by rfl) T.n_tuple (by decide +kernel) (pa_cons (pe_lc (own := [("_law_word", 4)]) (g := gName 4) (tt := tYes) rfl sc_l_read.nd (pi_list (pv 1)) (blkOk_by (own := [("_law_word", 4)]) (N := names_l_read) (sc := defScope st_l_read) (by decide +kernel)) (fun _ _ _ _ _ => pg_name (i := 4) sc_l_read.nd rfl (Or.inl rfl)) (fun _ _ _ _ _ => pts_nil) (fun _ _ _ _ _ => (pe_slice sl_str (pv 4) po_none (po_some (pe_un un_neg pe_int))))) pa_nil)) (pa_cons (pe_join pe_str (pe_lc (own := [("_law_word", 4)]) (g := gName 4) (tt := tYes) rfl sc_l_read.nd (pi_list (pv 1)) (blkOk_by (own := [("_law_word", 4)]) (N := names_l_read) (sc := defScope st_l_read) (by decide +kernel)) (fun _ _ _ _ _ => pg_name (i := 4) sc_l_read.nd rfl (Or.inl rfl)) (fun _ _ _ _ _ => pts_nil) (fun _ _ _ _ _ => (pe_ix ix_str (pv 4) (pe_un un_neg pe_int) (fun _ _ => rfl))))) pa_nil)) (by rfl))
      (pss_cons (ps_if (PW.pt (pw_or (pt_cmpR op_ne (pe_call (ok_l_wrong_names T) (hr.mono (by decide)) rfl T.g_l_wrong_names T.F_l_wrong_names.kp T.b_l_wrong_names .nil pass0 (pa_cons (pv 2) pa_nil)) (pe_un un_neg pe_int) (nomark _)) (pw_or1 (pt_cmpR op_eq (pv 3) (pe_op op_mulS pe_str (pe_callB call_len_seq (by rfl) T.n_len (by decide +kernel) (pa_cons (pv 2) pa_nil))) (nomark _)))))
        (pss_one (ps_ret pe_non))
        pss_nil)
      (pss_one (ps_ret (pe_tup (pa_cons (pv 2) (pa_cons (pv 3) pa_nil))))))))), ?_⟩
    have lw := words_many z
    refine ⟨_, rfl, ⟨_, rfl⟩, _, _, rfl, rfl, by decide, le_line (by omega), ?_⟩
    rw [show Txt.split z " " = wordsT z from rfl]
    intro l nl
    have s0 := Same.new nl (o := .lst ((wordsT z).map V.str))
    have e0 : (upd H l (.lst ((wordsT z).map V.str))) l = some (.lst ((wordsT z).map V.str)) := upd_same
    generalize upd H l (.lst ((wordsT z).map V.str)) = H0 at s0 e0 ⊢
    refine ⟨_, rfl, l, rfl, ⟨_, lst_of e0⟩, fun D nD => lcv walk_list (wordsT z) (fun w => V.bl (wordBad w)) (List.length_map _).symm nD (by rw [List.length_map]; omega) (fun H' s => lst_of (s _ _ e0)) (fun _ _ _ _ _ y => yat_same y) (fun i u y H1 H2 hu s1 yy Z hZ => ?_) (fun H1 s1 e1 => ?_)⟩
    · obtain ⟨rfl, hx⟩ := yy
      obtain ⟨w, hy, rfl⟩ := str_at hx
      obtain rfl : w = u := Option.some.inj (hy.symm.trans hu)
      have ly := words_mem (List.mem_of_getElem? hy)
      refine ⟨rfl, _, rfl, w, rfl, le_line (by omega), _, _, rfl, rfl, _, rfl, ite2 (fun c => ?_) (fun c => ?_)⟩
      · have c : w.length < 2 := by
          have := of_decide_eq_true c
          omega
        have q := hZ _ (Same.refl _)
        unfold wordBad at q
        rw [decide_eq_true c] at q
        exact q
      · have c : ¬ w.length < 2 := fun h => c (decide_eq_true (by omega))
        refine ⟨_, rfl, 1, rfl, w, -1, lastC w, rfl, rfl, le_line (by omega), last_at (by omega), by decide, fun p np => ⟨p, _, rfl, .inl (lst_of upd_same), rfl, rfl, ?_⟩⟩
        have q := hZ _ (Same.new np (o := .lst [V.str "+", V.str "-", V.str "?"]))
        unfold wordBad at q
        rw [decide_eq_false c, ← mark_in] at q
        exact q
    · have e1' : (wordsT z).map (fun w => V.bl (wordBad w)) = ((wordsT z).map wordBad).map V.bl := by
        rw [List.map_map]
        rfl
      rw [e1'] at e1
      refine ⟨D, _, rfl, lst_of e1, ?_⟩
      refine ⟨_, rfl, ?_⟩
      have s01 := s0.trans s1
      cases hA : ((wordsT z).map wordBad).any id with
      | true =>
        refine iteT (bad ?_ _ s01)
        cases hL : lookB z with
        | false => rfl
        | true =>
          obtain ⟨b, hb, q⟩ := List.any_eq_true.mp hA
          obtain ⟨w, hw, rfl⟩ := List.mem_map.mp hb
          rw [look_words hL w hw] at q
          cases q
      | false =>
        have okw : ∀ w ∈ wordsT z, wordBad w = false := fun w hw => by
          cases q : wordBad w with
          | false => rfl
          | true =>
            have := (List.any_eq_true (p := id) (l := (wordsT z).map wordBad)).mpr ⟨true, List.mem_map.mpr ⟨w, hw, q⟩, rfl⟩
            rw [hA] at this
            cases this
        have ok1 : ∀ w ∈ wordsT z, 1 ≤ w.length := fun w hw => by
          have q := okw w hw
          unfold wordBad at q
          rw [Bool.or_eq_false_iff, decide_eq_false_iff_not] at q
          omega
        have li := look_iff okw
        refine iteF ?_
        have e01 := s1 _ _ e0
        refine ⟨_, rfl, l, rfl, ⟨_, lst_of e01⟩, fun D2 nD2 => lcv walk_list (wordsT z) (fun y => V.str (initS y)) (List.length_map _).symm nD2 (by rw [List.length_map]; omega) (fun H' s => lst_of (s _ _ e01)) (fun _ _ _ _ _ y => yat_same y) (fun i u y H2 H3 hu s2 yy Z hZ => ?_) (fun H2 s2 e2 => ?_)⟩
        · obtain ⟨rfl, hx⟩ := yy
          obtain ⟨y, hy, rfl⟩ := str_at hx
          obtain rfl : y = u := Option.some.inj (hy.symm.trans hu)
          have ly := words_mem (List.mem_of_getElem? hy)
          exact ⟨rfl, _, rfl, _, rfl, _, rfl, _, rfl, le_line (by omega), hZ _ (Same.refl _)⟩
        have en : (wordsT z).map (fun y => V.str (initS y)) = (menuT z).map V.str := by
          unfold menuT
          rw [List.map_map]
          rfl
        rw [en] at e2
        refine ⟨D2, _, rfl, .inl ⟨lst_of e2, fun a oa na oda => ?_⟩⟩
        have s3 := s2.new' na (o := .frz oa (.tup ((menuT z).map V.str)))
        have hM : SqT K (upd H2 a (.frz oa (.tup ((menuT z).map V.str)))) a ((menuT z).map V.str) := frz_of upd_same
        generalize upd H2 a (.frz oa (.tup ((menuT z).map V.str))) = H3 at s3 hM ⊢
        have e03 := s3 _ _ e01
        refine ⟨⟨_, rfl⟩, _, rfl, l, rfl, ⟨_, lst_of e03⟩, fun D3 nD3 => lcv walk_list (wordsT z) (fun y => V.str (lastS y)) (List.length_map _).symm nD3 (by rw [List.length_map]; omega) (fun H' s => lst_of (s _ _ e03)) (fun _ _ _ _ _ y => yat_same y) (fun i u y H4 H5 hu s4 yy Z hZ => ?_) (fun H4 s4 e4 => ?_)⟩
        · obtain ⟨rfl, hx⟩ := yy
          obtain ⟨y, hy, rfl⟩ := str_at hx
          obtain rfl : y = u := Option.some.inj (hy.symm.trans hu)
          have my := List.mem_of_getElem? hy
          have ly := words_mem my
          obtain ⟨_, _, _, e3, _⟩ := word_facts (ok1 y my)
          have q := hZ _ (Same.refl _)
          rw [e3] at q
          exact ⟨rfl, _, rfl, 1, rfl, y, -1, lastC y, rfl, rfl, le_line (by omega), last_at (ok1 y my), q⟩
        have ec : (wordsT z).map (fun y => V.str (lastS y)) = ((wordsT z).map lastS).map V.str := by
          rw [List.map_map]
          rfl
        rw [ec] at e4
        have hM4 := s4.sqt hM
        have s04 := s01.trans (s3.trans s4)
        have lmm : ((menuT z).map V.str).length = (menuT z).length := List.length_map _
        have lml : (menuT z).length = (wordsT z).length := List.length_map _
        have sumL : (((wordsT z).map lastS).map (fun x => x.length)).sum ≤ 6000 := by
          rw [List.map_map]
          have := sum_leN ((fun x : Str => x.length) ∘ lastS) (m := 1) (wordsT z) fun w _ => last_len w
          omega
        have mz : ∀ y ∈ menuT z, y.length ≤ 100000 := fun y hy => by
          obtain ⟨w, hw, rfl⟩ := List.mem_map.mp hy
          have := words_mem hw
          have := cut_len w none (some (-1))
          show (cutS w none (some (-1))).length ≤ _
          omega
        refine ⟨_, D3, _, rfl, rfl, .inl (lst_of e4), ?_, _, _, rfl, ?_⟩
        · have e1 : ("" : Str).length = 0 := by decide +kernel
          rw [e1]
          omega
        refine ⟨_, rfl, a, menuT z, rfl, hM4, (fun e => words_ne z (List.map_eq_nil_iff.mp e)), by omega, mz, fun H5 s5 => ?_⟩
        have s05 := s04.trans s5
        cases hB : badN (menuT z) 10 with
        | some n =>
          have ew : wrongV (menuT z) = .int (n : Nat) := by unfold wrongV; rw [hB]
          rw [ew]
          refine ⟨1, rfl, rfl, _, rfl, ifT (by
            rw [decide_eq_false fun e => (by have := V.int.inj e; omega)]
            rfl) (bad (by rw [li, hB]; rfl) _ s05)⟩
        | none =>
          have ew : wrongV (menuT z) = .int (-1) := by unfold wrongV; rw [hB]
          rw [ew]
          have mo := badN_menu (ms := menuT z) (fun e => words_ne z (List.map_eq_nil_iff.mp e)) hB
          have ml10 := mo.le
          refine ⟨1, rfl, rfl, _, rfl, ifF (by
            rw [decide_eq_true rfl]
            rfl) ?_⟩
          refine ⟨_, rfl, _, rfl, a, _, rfl, .inr (s5.sqt hM4), ⟨#[45]⟩, _, congrArg V.str (by decide +kernel), rfl, mul_ok1 (by rw [lmm]; omega), rfl, _, rfl, ?_⟩
          rw [mul_one, lmm]
          by_cases c : signsT z = ⟨(List.replicate (menuT z).length 45).toArray⟩
          · refine ifT (decide_eq_true (congrArg V.str c)) (bad ?_ _ s05)
            rw [li, hB, decide_eq_true c]
            rfl
          · refine ifF (decide_eq_false fun e => c (V.str.inj e)) ?_
            have gd : lookB z = true := by
              rw [li, hB, decide_eq_false c]
              rfl
            refine ⟨_, rfl, _, rfl, (by show 2 ≤ sizeLine; decide), fun p np => ?_⟩
            have s6 := Same.new np (o := .tup [.ref a, .str (signsT z)])
            exact good gd p a _ (s05.trans s6) (tup_of upd_same) ((s5.trans s6).sqt hM4)
end
end MH
namespace MH
open PySem PySem.Spec PyProof.Rows L2
/-! ### turned texts -/
def OkC (y : Str) : Prop := ∀ c ∈ y.cps.toList, c < 0x110000
theorem cut_sub {w : Str} {lo hi : Option Int} (h : OkC w) : OkC (cutS w lo hi) := fun c hc => by
  unfold cutS at hc
  have hc : c ∈ ((w.cps.toList.drop (HT.sIx w.length 0 lo)).take (HT.sIx w.length w.length hi - HT.sIx w.length 0 lo)) := by simpa using hc
  exact h c (List.mem_of_mem_drop (List.mem_of_mem_take hc))
theorem OkC.app {x y : Str} (hx : OkC x) (hy : OkC y) : OkC (x ++ y) := fun c hc => by
  rw [cps_app, List.mem_append] at hc
  exact hc.elim (hx c) (hy c)
theorem cut_one (w : Str) (a : Nat) : (cutS w (some (a : Int)) (some ((a : Int) + 1))).length ≤ 1 := by
  have e : (a : Int) + 1 = ((a + 1 : Nat) : Int) := rfl
  unfold cutS
  show (List.toArray _).size ≤ _
  rw [List.size_toArray, List.length_take, e, HT.sIx_nat, HT.sIx_nat]
  omega
theorem cut_one2 (w : Str) (a : Nat) : (cutS w (some ((a : Int) + 1)) (some ((a : Int) + 2))).length ≤ 1 := by
  have := cut_one w (a + 1)
  have e : (((a + 1 : Nat) : Int)) + 1 = (a : Int) + 2 := by omega
  rw [e] at this
  exact this
theorem joinL_le (S : List Nat) (hS : S.length = 1) : ∀ ps : List (List Nat), (TL.joinL S ps).length ≤ (ps.map List.length).sum + ps.length ∧ (ps ≠ [] → (TL.joinL S ps).length + 1 = (ps.map List.length).sum + ps.length)
  | [] => ⟨Nat.zero_le _, fun h => absurd rfl h⟩
  | [p] => by
    refine ⟨?_, fun _ => ?_⟩
    · show p.length ≤ _
      simp
    · show p.length + 1 = _
      simp
  | p :: q :: r => by
    obtain ⟨_, ih⟩ := joinL_le S hS (q :: r)
    have ih := ih (by simp)
    have e : (TL.joinL S (p :: q :: r)).length = p.length + (S.length + (TL.joinL S (q :: r)).length) := by
      show (p ++ (S ++ TL.joinL S (q :: r))).length = _
      rw [List.length_append, List.length_append]
    have e2 : ((p :: q :: r).map List.length).sum = p.length + ((q :: r).map List.length).sum := by simp
    have e3 : (p :: q :: r).length = (q :: r).length + 1 := rfl
    refine ⟨?_, fun _ => ?_⟩ <;> omega
theorem joinL_sub {S : List Nat} : ∀ {ps : List (List Nat)} {c : Nat}, c ∈ TL.joinL S ps → c ∈ S ∨ ∃ p ∈ ps, c ∈ p
  | [], c, h => by cases h
  | [p], c, h => .inr ⟨p, List.mem_cons_self, h⟩
  | p :: q :: r, c, h => by
    have h : c ∈ p ++ (S ++ TL.joinL S (q :: r)) := h
    rw [List.mem_append, List.mem_append] at h
    rcases h with h | h | h
    · exact .inr ⟨p, List.mem_cons_self, h⟩
    · exact .inl h
    · rcases joinL_sub h with h | ⟨x, hx, h⟩
      · exact .inl h
      · exact .inr ⟨x, List.mem_cons_of_mem _ hx, h⟩
theorem join_tlB (ys : List Str) : (Txt.join " " ys).cps.toList = TL.joinL [32] (ys.map TL.tl) := by
  have q : TL.tl (Txt.join " " ys) = TL.joinL (TL.tl (" " : Str)) (ys.map TL.tl) := by rw [TL.join_eq, TL.tl_join]
  rw [blank_tl] at q
  exact q
theorem sum_tl (ys : List Str) : ((ys.map TL.tl).map List.length).sum = (ys.map fun y => y.length).sum := by
  rw [List.map_map]
  exact congrArg List.sum (List.map_congr_left fun y _ => TL.len_tl y)
theorem join_lenB (ys : List Str) : (Txt.join " " ys).length ≤ (ys.map fun y => y.length).sum + ys.length := by
  have := (joinL_le [32] rfl (ys.map TL.tl)).1
  rw [← join_tlB, sum_tl, List.length_map] at this
  exact this
theorem words_sum (z : Str) : ((wordsT z).map fun y => y.length).sum + (wordsT z).length = z.length + 1 := by
  have := (joinL_le [32] rfl ((wordsT z).map TL.tl)).2 fun e => words_ne z (List.map_eq_nil_iff.mp e)
  rw [← join_tlB, sum_tl, List.length_map, show Txt.join " " (wordsT z) = z from splitB_join z] at this
  have e : z.cps.toList.length = z.length := rfl
  omega
theorem join_okC {ys : List Str} (h : ∀ y ∈ ys, OkC y) : OkC (Txt.join " " ys) := fun c hc => by
  rw [join_tlB] at hc
  rcases joinL_sub hc with h1 | ⟨p, hp, h1⟩
  · rw [List.mem_singleton.mp h1]
    decide
  · obtain ⟨y, hy, rfl⟩ := List.mem_map.mp hp
    exact h y hy c h1
theorem words_okC {z : Str} (h : OkC z) : ∀ y ∈ wordsT z, OkC y := fun y hy c hc => h c ((splitB_mem hy).2 c hc)
section
variable {P : Program} {w : World} {K : PySem.W.Frag} {mg : Str → Option Value} {base : Heap}
def spSignL : Sp := fun vs H Q _ => ∃ (p : Addr) (n : Nat), vs = [.ref p] ∧ Ur H p n ∧ n ≤ 900000000 ∧ ∀ (c : Nat) H', c < 0x110000 → SameB p H H' → Ur H' p (n + 1) → Q (.str ⟨#[c]⟩) H'
theorem ok_l_sign (T : Tx K mg) : FnOk P w K mg base CX0 5 T.a_l_sign T.fd_l_sign ["_law_urn_here"] spSignL := by
  refine T.F_l_sign.ok sc_l_sign (fun vs H Q E h => ?_) (fun cdv A outer s H vs Q E hr h => ?_)
  · obtain ⟨p, n, rfl, _⟩ := h
    rfl
  · obtain ⟨p, n, rfl, u, hn, k⟩ := h
    refine ⟨_, (pss_cons (ps_set (i := 1) sc_l_sign.nd rfl (Or.inl rfl) (pe_op op_add_str pe_str pe_str))
      (pss_cons (ps_set (i := 1) sc_l_sign.nd rfl (Or.inl rfl) (pe_op op_add_str (pv 1) pe_str))
      (pss_cons (ps_set (i := 1) sc_l_sign.nd rfl (Or.inl rfl) (pe_op op_add_str (pv 1) pe_str))
      (pss_one (ps_ret (pe_ix ix_str (pv 1) (pe_call (ok_l_draw T) (hr.mono (by decide)) rfl T.g_l_draw T.F_l_draw.kp T.b_l_draw .nil pass0 (pa_cons (pv 0) (pa_cons (pe_callB call_len_str (by rfl) T.n_len (by decide +kernel) (pa_cons (pv 1) pa_nil)) pa_nil))) (fun _ _ => rfl))))))), ?_⟩
    refine ⟨_, _, rfl, rfl, (by decide +kernel), _, rfl, _, _, rfl, rfl, (by decide +kernel), _, rfl, _, _, rfl, rfl, (by decide +kernel), ?_⟩
    generalize hW : ((("abcdefghijklmnopqrstuvwxyz0123456789" : Str) ++ (" +-? +-? +-?\n" : Str)) ++ ("ABCDEFGHIJKLMNOPQRSTUVWXYZ" : Str)) ++ ("!\"#$&'()*,./:;<=>\x40[\\]^_`{|}~" : Str) = W
    have lW : (0 < W.length ∧ W.length ≤ 200) ∧ (∀ c ∈ W.cps.toList, c < 0x110000) := by
      rw [← hW]
      decide +kernel
    have l2 : W.cps.toList.length = W.length := rfl
    refine ⟨_, rfl, _, rfl, _, rfl, W, rfl, le_line (by omega), p, (W.length : Nat), n, rfl, u, by omega, by omega, by omega, fun d H1 d0 d1 sb1 u1 => ?_⟩
    obtain ⟨e, rfl⟩ : ∃ e : Nat, d = e := ⟨d.toNat, by omega⟩
    have he : e < W.cps.toList.length := by omega
    have g : W.cps.toList[e]? = some (W.cps.toList[e]'he) := List.getElem?_eq_getElem _
    exact ⟨W, e, _, rfl, rfl, le_line (by omega), atI_nat g, k _ H1 (lW.2 _ (List.getElem_mem he)) sb1 u1⟩
def spTurned : Sp := fun vs H Q _ => ∃ (p : Addr) (n : Nat) (z : Str), vs = [.ref p, .str z] ∧ Ur H p n ∧ n ≤ 700000000 ∧ z.length ≤ 2000 ∧ OkC z ∧ ∀ (y : Str) H', y.length ≤ 2 * z.length + 2 → OkC y → SameB p H H' → Ur H' p (n + 10) → Q (.str y) H'
theorem ok_l_turned (T : Tx K mg) : FnOk P w K mg base CX0 6 T.a_l_turned T.fd_l_turned ["_law_urn_here", "_law_said"] spTurned := by
  refine T.F_l_turned.ok sc_l_turned (fun vs H Q E h => ?_) (fun cdv A outer s H vs Q E hr h => ?_)
  · obtain ⟨p, n, z, rfl, _⟩ := h
    rfl
  · obtain ⟨p, n, z, rfl, u, hn, hz, ok, k⟩ := h
    refine ⟨_, (pss_cons (ps_par (i := 2) (j := 3) rfl sc_l_turned.nd rfl rfl (by decide) rfl rfl (pa_cons (pe_call (ok_l_draw T) (hr.mono (by decide)) rfl T.g_l_draw T.F_l_draw.kp T.b_l_draw .nil pass0 (pa_cons (pv 0) (pa_cons pe_int pa_nil))) (pa_cons (pe_call (ok_l_draw T) (hr.mono (by decide)) rfl T.g_l_draw T.F_l_draw.kp T.b_l_draw .nil pass0 (pa_cons (pv 0) (pa_cons (pe_op op_add (pe_callB call_len_str (by rfl) T.n_len (by decide +kernel) (pa_cons (pv 1) pa_nil)) pe_int) pa_nil))) pa_nil)) (by rfl))
      (pss_cons (ps_par (i := 4) (j := 5) rfl sc_l_turned.nd rfl rfl (by decide) rfl rfl (pa_cons (pe_call (ok_l_sign T) (hr.mono (by decide)) rfl T.g_l_sign T.F_l_sign.kp T.b_l_sign .nil pass0 (pa_cons (pv 0) pa_nil)) (pa_cons (pe_split (pv 1) pe_str) pa_nil)) (by rfl))
      (pss_cons (ps_set (i := 6) sc_l_turned.nd rfl (Or.inl rfl) (pe_call (ok_l_draw T) (hr.mono (by decide)) rfl T.g_l_draw T.F_l_draw.kp T.b_l_draw .nil pass0 (pa_cons (pv 0) (pa_cons (pe_callB call_len_seq (by rfl) T.n_len (by decide +kernel) (pa_cons (pv 5) pa_nil)) pa_nil))))
      (pss_cons (ps_if (pt_cmpR op_lt (pv 2) pe_int (nomark _))
        (pss_one (ps_ret (pe_op op_add_str (pe_op op_add_str (pe_slice sl_str (pv 1) po_none (po_some (pv 3))) (pv 4)) (pe_slice sl_str (pv 1) (po_some (pv 3)) po_none))))
        pss_nil)
      (pss_cons (ps_if (pt_cmpR op_lt (pv 2) pe_int (nomark _))
        (pss_one (ps_ret (pe_op op_add_str (pe_op op_add_str (pe_slice sl_str (pv 1) po_none (po_some (pv 3))) (pv 4)) (pe_slice sl_str (pv 1) (po_some (pe_op op_add (pv 3) pe_int)) po_none))))
        pss_nil)
      (pss_cons (ps_if (pt_cmpR op_eq (pv 2) pe_int (nomark _))
        (pss_one (ps_ret (pe_op op_add_str (pe_slice sl_str (pv 1) po_none (po_some (pv 3))) (pe_slice sl_str (pv 1) (po_some (pe_op op_add (pv 3) pe_int)) po_none))))
        pss_nil)
      (pss_cons (ps_if (pt_cmpR op_eq (pv 2) pe_int (nomark _))
        (pss_cons (ps_set (i := 7) sc_l_turned.nd rfl (Or.inl rfl) (pe_op op_add_str (pe_slice sl_str (pv 1) (po_some (pe_op op_add (pv 3) pe_int)) (po_some (pe_op op_add (pv 3) pe_int))) (pe_slice sl_str (pv 1) (po_some (pv 3)) (po_some (pe_op op_add (pv 3) pe_int)))))
      (pss_one (ps_ret (pe_op op_add_str (pe_op op_add_str (pe_slice sl_str (pv 1) po_none (po_some (pv 3))) (pv 7)) (pe_slice sl_str (pv 1) (po_some (pe_op op_add (pv 3) pe_int)) po_none)))))
        pss_nil)
      (pss_cons (ps_if (pt_cmpR op_eq (pv 2) pe_int (nomark _))
        (pss_one (ps_ret (pe_join pe_str (pe_op op_cat (pe_op op_cat (pe_slice sl_list (pv 5) po_none (po_some (pv 6))) (pe_lst (pa_cons (pe_ix ix_list (pv 5) (pv 6) (fun _ _ => rfl)) pa_nil))) (pe_slice sl_list (pv 5) (po_some (pv 6)) po_none)))))
        pss_nil)
      (pss_cons (ps_if (pt_cmpR op_eq (pv 2) pe_int (nomark _))
        (pss_cons (ps_set (i := 8) sc_l_turned.nd rfl (Or.inl rfl) (pe_op op_rep (pe_lst (pa_cons (pe_ix ix_list (pv 5) (pv 6) (fun _ _ => rfl)) pa_nil)) (pe_call (ok_l_draw T) (hr.mono (by decide)) rfl T.g_l_draw T.F_l_draw.kp T.b_l_draw .nil pass0 (pa_cons (pv 0) (pa_cons pe_int pa_nil)))))
      (pss_one (ps_ret (pe_join pe_str (pe_op op_cat (pe_op op_cat (pe_slice sl_list (pv 5) po_none (po_some (pv 6))) (pe_slice sl_list (pv 5) (po_some (pe_op op_add (pv 6) pe_int)) po_none)) (pv 8))))))
        pss_nil)
      (pss_one (ps_ret (pe_join pe_str (pe_revL (pv 5)))))))))))))), ?_⟩
    have lw := words_many z
    have lw0 : 0 < (wordsT z).length := List.length_pos_iff.mpr (words_ne z)
    have ws := words_sum z
    refine ⟨_, rfl, p, 9, n, rfl, u, by omega, by decide, by decide, fun way H1 w0 w1 sb1 u1 => ?_⟩
    refine ⟨_, rfl, _, rfl, z, rfl, le_line (by omega), _, _, rfl, rfl, p, ((z.length : Nat) : Int) + 1, n + 1, rfl, u1, by omega, by omega, by omega, fun at0 H2 a0 a1 sb2 u2 => ⟨_, _, rfl, ?_⟩⟩
    obtain ⟨at1, rfl⟩ : ∃ e : Nat, at0 = e := ⟨at0.toNat, by omega⟩
    refine ⟨_, rfl, p, n + 1 + 1, rfl, u2, by omega, fun c H3 hc sb3 u3 => ?_⟩
    refine ⟨_, rfl, ⟨_, rfl⟩, _, _, rfl, rfl, by decide, le_line (by omega), ?_⟩
    rw [show Txt.split z " " = wordsT z from rfl]
    intro l nl
    have nlp : l ≠ p := u3.ne nl
    have sn := Same.new nl (o := .lst ((wordsT z).map V.str))
    have u4 := u3.same sn
    have e4 : (upd H3 l (.lst ((wordsT z).map V.str))) l = some (.lst ((wordsT z).map V.str)) := upd_same
    have sb4 : SameB p H (upd H3 l (.lst ((wordsT z).map V.str))) := sb1.trans (sb2.trans (sb3.trans (SameB.of sn)))
    generalize upd H3 l (.lst ((wordsT z).map V.str)) = H4 at sn u4 e4 sb4 ⊢
    have lwm : ((wordsT z).map V.str).length = (wordsT z).length := List.length_map _
    refine ⟨_, _, rfl, _, rfl, _, rfl, l, _, rfl, .inl (lst_of e4), p, _, n + 1 + 1 + 1, rfl, u4, by omega, by rw [lwm]; omega, by rw [lwm]; omega, fun sp H5 p0 p1 sb5 u5 => ?_⟩
    rw [lwm] at p1
    obtain ⟨spot, rfl⟩ : ∃ e : Nat, sp = e := ⟨sp.toNat, by omega⟩
    have e5 := sb5 _ _ nlp e4
    have sbA := sb4.trans sb5
    have fin : ∀ y : Str, y.length ≤ 2 * z.length + 2 → OkC y → Q (.str y) H5 := fun y h1 h2 => k y H5 h1 h2 sbA (u5.mono (by omega))
    have finS : ∀ (Hx : Hp), Same H5 Hx → ∀ y : Str, y.length ≤ 2 * z.length + 2 → OkC y → Q (.str y) Hx := fun Hx sx y h1 h2 => k y Hx h1 h2 (sbA.trans (SameB.of sx)) ((u5.same sx).mono (by omega))
    have okw := words_okC ok
    have okc : OkC (⟨#[c]⟩ : Str) := fun d hd => by
      have : d = c := by simpa using hd
      rw [this]
      exact hc
    have lc1 : (⟨#[c]⟩ : Str).length = 1 := rfl
    have cl := cut_len z
    refine ⟨_, rfl, _, _, rfl, rfl, _, rfl, ite2 (fun c => ?_) (fun _ => ?_)⟩
    · have l1 := cl none (some (at1 : Int))
      have l2 := cl (some (at1 : Int)) none
      refine ⟨_, rfl, _, rfl, _, rfl, _, rfl, le_line (by omega), _, rfl, _, _, rfl, rfl, le_line (by omega), _, rfl, _, rfl, _, rfl, _, rfl, le_line (by omega), _, _, rfl, rfl, le_line (by rw [size_cat]; omega), fin _ (by rw [size_cat, size_cat]; omega) (((cut_sub ok).app okc).app (cut_sub ok))⟩
    refine ⟨_, rfl, _, _, rfl, rfl, _, rfl, ite2 (fun c => ?_) (fun _ => ?_)⟩
    · have l1 := cl none (some (at1 : Int))
      have l2 := cl (some ((at1 : Int) + 1)) none
      refine ⟨_, rfl, _, rfl, _, rfl, _, rfl, le_line (by omega), _, rfl, _, _, rfl, rfl, le_line (by omega), _, rfl, _, rfl, _, _, rfl, rfl, _, rfl, _, rfl, le_line (by omega), _, _, rfl, rfl, le_line (by rw [size_cat]; omega), fin _ (by rw [size_cat, size_cat]; omega) (((cut_sub ok).app okc).app (cut_sub ok))⟩
    refine ⟨_, rfl, rfl, _, rfl, ite2 (fun c => ?_) (fun _ => ?_)⟩
    · have l1 := cl none (some (at1 : Int))
      have l2 := cl (some ((at1 : Int) + 1)) none
      refine ⟨_, rfl, _, rfl, _, rfl, _, rfl, le_line (by omega), _, rfl, _, rfl, _, _, rfl, rfl, _, rfl, _, rfl, le_line (by omega), _, _, rfl, rfl, le_line (by omega), fin _ (by rw [size_cat]; omega) ((cut_sub ok).app (cut_sub ok))⟩
    refine ⟨_, rfl, rfl, _, rfl, ite2 (fun c => ?_) (fun _ => ?_)⟩
    · have l1 := cl none (some (at1 : Int))
      have l2 := cl (some ((at1 : Int) + 2)) none
      have l3 := cut_one z at1
      have l4 := cut_one2 z at1
      refine ⟨_, rfl, _, rfl, _, _, rfl, rfl, _, rfl, _, rfl, _, _, rfl, rfl, _, rfl, _, rfl, le_line (by omega), _, rfl, _, rfl, _, rfl, _, rfl, _, _, rfl, rfl, _, rfl, _, rfl, le_line (by omega), _, _, rfl, rfl, le_line (by omega), ?_⟩
      refine ⟨_, rfl, _, rfl, _, rfl, _, rfl, le_line (by omega), _, rfl, _, _, rfl, rfl, le_line (by rw [size_cat]; omega), _, rfl, _, rfl, _, _, rfl, rfl, _, rfl, _, rfl, le_line (by omega), _, _, rfl, rfl, le_line (by rw [size_cat, size_cat]; omega), fin _ (by rw [size_cat, size_cat, size_cat]; omega) (((cut_sub ok).app ((cut_sub ok).app (cut_sub ok))).app (cut_sub ok))⟩
    refine ⟨_, rfl, rfl, _, rfl, ite2 (fun c => ?_) (fun _ => ?_)⟩
    · have hw : (wordsT z)[spot]? = some ((wordsT z)[spot]'(by omega)) := List.getElem?_eq_getElem _
      generalize (wordsT z)[spot]'(by omega) = w at hw
      have mw := List.mem_of_getElem? hw
      have gw : ((wordsT z).map V.str)[spot]? = some (V.str w) := by rw [List.getElem?_map, hw]; rfl
      refine ⟨⟨_, rfl⟩, _, rfl, _, rfl, _, rfl, l, _, rfl, lst_of e5, fun S1 nS1 => ?_⟩
      rw [cut_upto, ← List.map_take]
      have s1 := Same.new nS1 (o := .lst (((wordsT z).take spot).map V.str))
      have f1 : upd H5 S1 (.lst (((wordsT z).take spot).map V.str)) S1 = some (.lst (((wordsT z).take spot).map V.str)) := upd_same
      generalize upd H5 S1 (.lst (((wordsT z).take spot).map V.str)) = G1 at s1 f1 ⊢
      refine ⟨_, rfl, _, rfl, l, _, _, V.str w, rfl, rfl, lst_of (s1 _ _ e5), atI_nat gw, (by show 1 ≤ sizeLine; decide), fun L1 nL1 => ?_⟩
      have s2 := Same.new nL1 (o := .lst [V.str w])
      have f2 : upd G1 L1 (.lst [V.str w]) L1 = some (.lst [V.str w]) := upd_same
      generalize upd G1 L1 (.lst [V.str w]) = G2 at s2 f2 ⊢
      refine ⟨S1, L1, _, _, rfl, rfl, s2 _ _ f1, f2, le_line (by rw [List.length_map, List.length_take]; show _ + 1 ≤ _; omega), fun C1 nC1 => ?_⟩
      have s3 := Same.new nC1 (o := .lst (((wordsT z).take spot).map V.str ++ [V.str w]))
      have f3 : upd G2 C1 (.lst (((wordsT z).take spot).map V.str ++ [V.str w])) C1 = some (.lst (((wordsT z).take spot).map V.str ++ [V.str w])) := upd_same
      generalize upd G2 C1 (.lst (((wordsT z).take spot).map V.str ++ [V.str w])) = G3 at s3 f3 ⊢
      have s13 := s1.trans (s2.trans s3)
      refine ⟨_, rfl, _, rfl, _, rfl, l, _, rfl, lst_of (s13 _ _ e5), fun S2 nS2 => ?_⟩
      rw [cut_from, ← List.map_drop]
      have s4 := Same.new nS2 (o := .lst (((wordsT z).drop spot).map V.str))
      have f4 : upd G3 S2 (.lst (((wordsT z).drop spot).map V.str)) S2 = some (.lst (((wordsT z).drop spot).map V.str)) := upd_same
      generalize upd G3 S2 (.lst (((wordsT z).drop spot).map V.str)) = G4 at s4 f4 ⊢
      refine ⟨C1, S2, _, _, rfl, rfl, s4 _ _ f3, f4, le_line (by rw [List.length_append, List.length_map, List.length_map, List.length_take, List.length_drop]; show _ + 1 + _ ≤ _; omega), fun C2 nC2 => ?_⟩
      have s5 := Same.new nC2 (o := .lst ((((wordsT z).take spot).map V.str ++ [V.str w]) ++ ((wordsT z).drop spot).map V.str))
      have ey : (((wordsT z).take spot).map V.str ++ [V.str w]) ++ ((wordsT z).drop spot).map V.str = ((((wordsT z).take spot) ++ [w]) ++ (wordsT z).drop spot).map V.str := by
        rw [List.map_append, List.map_append]
        rfl
      have sumE : (((((wordsT z).take spot) ++ [w]) ++ (wordsT z).drop spot).map fun x => x.length).sum + ((((wordsT z).take spot) ++ [w]) ++ (wordsT z).drop spot).length ≤ 2 * z.length + 2 := by
        have q : ((wordsT z).map fun y => y.length).sum = (((wordsT z).take spot).map fun y => y.length).sum + (((wordsT z).drop spot).map fun y => y.length).sum := by
          rw [← List.sum_append, ← List.map_append, List.take_append_drop]
        have lw1 := words_mem mw
        rw [List.map_append, List.map_append, List.sum_append, List.sum_append, List.length_append, List.length_append, List.length_take, List.length_drop]
        show _ + ([w.length]).sum + _ + (_ + 1 + _) ≤ _
        simp only [List.sum_singleton]
        omega
      have okY : ∀ y ∈ (((wordsT z).take spot) ++ [w]) ++ (wordsT z).drop spot, OkC y := fun y hy => by
        rcases List.mem_append.mp hy with hy | hy
        · rcases List.mem_append.mp hy with hy | hy
          · exact okw y (List.mem_of_mem_take hy)
          · rw [List.mem_singleton.mp hy]
            exact okw w mw
        · exact okw y (List.mem_of_mem_drop hy)
      have lj := join_lenB ((((wordsT z).take spot) ++ [w]) ++ (wordsT z).drop spot)
      rw [ey] at s5 ⊢
      generalize (((wordsT z).take spot) ++ [w]) ++ (wordsT z).drop spot = ys at s5 sumE okY lj ⊢
      refine ⟨_, C2, ys, rfl, rfl, .inl (lst_of upd_same), ?_, finS _ (s13.trans (s4.trans s5)) _ (by omega) (join_okC okY)⟩
      have e1 : (" " : Str).length = 1 := rfl
      rw [e1]
      omega
    refine ⟨_, rfl, rfl, _, rfl, ite2 (fun c => ?_) (fun _ => ?_)⟩
    · have hw : (wordsT z)[spot]? = some ((wordsT z)[spot]'(by omega)) := List.getElem?_eq_getElem _
      have hdrop : (wordsT z).drop spot = (wordsT z)[spot]'(by omega) :: (wordsT z).drop (spot + 1) := List.drop_eq_getElem_cons (by omega)
      generalize (wordsT z)[spot]'(by omega) = w at hw hdrop
      have mw := List.mem_of_getElem? hw
      have gw : ((wordsT z).map V.str)[spot]? = some (V.str w) := by rw [List.getElem?_map, hw]; rfl
      refine ⟨_, rfl, _, rfl, l, _, _, V.str w, rfl, rfl, lst_of e5, atI_nat gw, (by show 1 ≤ sizeLine; decide), fun L1 nL1 => ?_⟩
      have s1 := Same.new nL1 (o := .lst [V.str w])
      have f1 : upd H5 L1 (.lst [V.str w]) L1 = some (.lst [V.str w]) := upd_same
      have nL1p : L1 ≠ p := u5.ne nL1
      have v1 := u5.same s1
      generalize upd H5 L1 (.lst [V.str w]) = G1 at s1 f1 v1 ⊢
      refine ⟨_, rfl, p, 2, n + 1 + 1 + 1 + 1, rfl, v1, by omega, by decide, by decide, fun d G2 d0 d2 sbd v2 => ?_⟩
      obtain ⟨dn, rfl⟩ : ∃ e : Nat, d = e := ⟨d.toNat, by omega⟩
      have dn2 : dn < 2 := by omega
      have f2 := sbd _ _ nL1p f1
      have e6 := sbd _ _ nlp (s1 _ _ e5)
      refine ⟨L1, dn, [V.str w], rfl, rfl, f2, by omega, by omega, by rw [Int.toNat_natCast]; show 1 * dn ≤ _; exact le_line (by omega), fun R nR => ?_⟩
      obtain ⟨ls, els, lls, mls, sls⟩ : ∃ ls : List Str, (List.replicate ((dn : Int)).toNat [V.str w]).flatten = ls.map V.str ∧ ls.length ≤ 1 ∧ (∀ y ∈ ls, y = w) ∧ (ls.map fun x => x.length).sum ≤ w.length := by
        rw [Int.toNat_natCast]
        rcases dn with _ | _ | dn
        · exact ⟨[], rfl, by simp, by simp, by simp⟩
        · exact ⟨[w], rfl, by simp, by simp, by simp⟩
        · omega
      rw [els]
      have s3 := Same.new nR (o := .lst (ls.map V.str))
      have f3 : upd G2 R (.lst (ls.map V.str)) R = some (.lst (ls.map V.str)) := upd_same
      have v3 := v2.same s3
      have sbB : SameB p H (upd G2 R (.lst (ls.map V.str))) := sbA.trans ((SameB.of s1).trans (sbd.trans (SameB.of s3)))
      have e7 := s3 _ _ e6
      generalize upd G2 R (.lst (ls.map V.str)) = G3 at s3 f3 v3 sbB e7 ⊢
      refine ⟨⟨_, rfl⟩, _, rfl, _, rfl, _, rfl, l, _, rfl, lst_of e7, fun S1 nS1 => ?_⟩
      rw [cut_upto, ← List.map_take]
      have t1 := Same.new nS1 (o := .lst (((wordsT z).take spot).map V.str))
      have g1 : upd G3 S1 (.lst (((wordsT z).take spot).map V.str)) S1 = some (.lst (((wordsT z).take spot).map V.str)) := upd_same
      generalize upd G3 S1 (.lst (((wordsT z).take spot).map V.str)) = G4 at t1 g1 ⊢
      refine ⟨_, rfl, _, rfl, _, _, rfl, rfl, _, rfl, l, _, rfl, lst_of (t1 _ _ e7), fun S2 nS2 => ?_⟩
      rw [show (spot : Int) + 1 = ((spot + 1 : Nat) : Int) from rfl, cut_from, ← List.map_drop]
      have t2 := Same.new nS2 (o := .lst (((wordsT z).drop (spot + 1)).map V.str))
      have g2 : upd G4 S2 (.lst (((wordsT z).drop (spot + 1)).map V.str)) S2 = some (.lst (((wordsT z).drop (spot + 1)).map V.str)) := upd_same
      generalize upd G4 S2 (.lst (((wordsT z).drop (spot + 1)).map V.str)) = G5 at t2 g2 ⊢
      refine ⟨S1, S2, _, _, rfl, rfl, t2 _ _ g1, g2, le_line (by rw [List.length_map, List.length_map, List.length_take, List.length_drop]; omega), fun C1 nC1 => ?_⟩
      have t3 := Same.new nC1 (o := .lst (((wordsT z).take spot).map V.str ++ ((wordsT z).drop (spot + 1)).map V.str))
      have g3 : upd G5 C1 (.lst (((wordsT z).take spot).map V.str ++ ((wordsT z).drop (spot + 1)).map V.str)) C1 = some (.lst (((wordsT z).take spot).map V.str ++ ((wordsT z).drop (spot + 1)).map V.str)) := upd_same
      generalize upd G5 C1 (.lst (((wordsT z).take spot).map V.str ++ ((wordsT z).drop (spot + 1)).map V.str)) = G6 at t3 g3 ⊢
      have t13 := t1.trans (t2.trans t3)
      refine ⟨_, rfl, C1, R, _, _, rfl, rfl, g3, t13 _ _ f3, le_line (by rw [List.length_append, List.length_map, List.length_map, List.length_map, List.length_take, List.length_drop]; omega), fun C2 nC2 => ?_⟩
      have t4 := Same.new nC2 (o := .lst ((((wordsT z).take spot).map V.str ++ ((wordsT z).drop (spot + 1)).map V.str) ++ ls.map V.str))
      have ey : (((wordsT z).take spot).map V.str ++ ((wordsT z).drop (spot + 1)).map V.str) ++ ls.map V.str = ((((wordsT z).take spot) ++ (wordsT z).drop (spot + 1)) ++ ls).map V.str := by
        rw [List.map_append, List.map_append]
      have sumE : (((((wordsT z).take spot) ++ (wordsT z).drop (spot + 1)) ++ ls).map fun x => x.length).sum + ((((wordsT z).take spot) ++ (wordsT z).drop (spot + 1)) ++ ls).length ≤ 2 * z.length + 2 := by
        have q : ((wordsT z).map fun y => y.length).sum = (((wordsT z).take spot).map fun y => y.length).sum + (((wordsT z).drop spot).map fun y => y.length).sum := by
          rw [← List.sum_append, ← List.map_append, List.take_append_drop]
        rw [hdrop, List.map_cons, List.sum_cons] at q
        rw [List.map_append, List.map_append, List.sum_append, List.sum_append, List.length_append, List.length_append, List.length_take, List.length_drop]
        omega
      have okY : ∀ y ∈ (((wordsT z).take spot) ++ (wordsT z).drop (spot + 1)) ++ ls, OkC y := fun y hy => by
        rcases List.mem_append.mp hy with hy | hy
        · rcases List.mem_append.mp hy with hy | hy
          · exact okw y (List.mem_of_mem_take hy)
          · exact okw y (List.mem_of_mem_drop hy)
        · rw [mls y hy]
          exact okw w mw
      have lj := join_lenB ((((wordsT z).take spot) ++ (wordsT z).drop (spot + 1)) ++ ls)
      rw [ey] at t4 ⊢
      generalize (((wordsT z).take spot) ++ (wordsT z).drop (spot + 1)) ++ ls = ys at t4 sumE okY lj ⊢
      refine ⟨_, C2, ys, rfl, rfl, .inl (lst_of upd_same), ?_, ?_⟩
      · have e1 : (" " : Str).length = 1 := rfl
        rw [e1]
        omega
      · have t14 := t13.trans t4
        exact k _ _ (by omega) (join_okC okY) (sbB.trans (SameB.of t14)) ((v3.same t14).mono (by omega))
    refine ⟨⟨_, rfl⟩, _, rfl, l, _, rfl, lst_of e5, fun C2 nC2 => ?_⟩
    have t4 := Same.new nC2 (o := .lst (((wordsT z).map V.str).reverse))
    have ey : ((wordsT z).map V.str).reverse = ((wordsT z).reverse).map V.str := List.map_reverse.symm
    have sumE : (((wordsT z).reverse).map fun x => x.length).sum + ((wordsT z).reverse).length ≤ 2 * z.length + 2 := by
      rw [List.length_reverse, List.map_reverse, List.sum_reverse]
      omega
    have okY : ∀ y ∈ (wordsT z).reverse, OkC y := fun y hy => okw y (List.mem_reverse.mp hy)
    have lj := join_lenB (wordsT z).reverse
    rw [ey] at t4 ⊢
    generalize (wordsT z).reverse = ys at t4 sumE okY lj ⊢
    refine ⟨_, C2, ys, rfl, rfl, .inl (lst_of upd_same), ?_, finS _ t4 _ (by omega) (join_okC okY)⟩
    have e1 : (" " : Str).length = 1 := rfl
    rw [e1]
    omega
end
end MH
namespace MH
open PySem PySem.Spec PyProof.Rows L2
/-- the errors that are raised here: class, word, attribute -/
inductive Kn {K : PySem.W.Frag} {mg : Str → Option Value} (T : Tx K mg) : Addr → Str → Str → Prop
  | text : Kn T T.E_InvalidText "InvalidText" "given"
theorem ExAt.same {H H' : Hp} {a C : Addr} {fs : List (Str × V)} (e : ExAt H a C fs) (s : Same H H') : ExAt H' a C fs := by
  obtain ⟨d, h1, h2⟩ := e
  exact ⟨d, s _ _ h1, s _ _ h2⟩
def spSort {K : PySem.W.Frag} {mg : Str → Option Value} (T : Tx K mg) : Sp := fun vs H Q _ => ∃ (a C : Addr) (fs : List (Str × V)) (word f : Str), vs = [.ref a] ∧ ExAt H a C fs ∧ Kn T C word f ∧ ∀ H', Same H H' → Q (.str word) H'
def spField {K : PySem.W.Frag} {mg : Str → Option Value} (T : Tx K mg) : Sp := fun vs H Q _ => ∃ (a C : Addr) (fs : List (Str × V)) (word f : Str) (v : V), vs = [.str word, .ref a] ∧ ExAt H a C fs ∧ Kn T C word f ∧ fs.lookup f = some v ∧ ∀ H', Same H H' → Q v H'
section
variable {P : Program} {w : World} {K : PySem.W.Frag} {mg : Str → Option Value} {base : Heap}
theorem k_l_sort (T : Tx K mg) : FnK P w K mg base 4 T.a_l_sort (spSort T) := by
  refine fun_k T.F_l_sort sc_l_sort T.b_l_sort (fun vs H Q E h => ?_) (fun cdv A fr s H vs Q hg hr h => ?_)
  · obtain ⟨a, C, fs, word, f, rfl, _⟩ := h
    rfl
  · obtain ⟨a, C, fs, word, f, rfl, ex, kn, k⟩ := h
    refine ⟨_, (pss_cons (ps_set (i := 1) sc_l_sort.nd rfl (Or.inl rfl) (pe_lst (pa_cons (pe_callB call_isK (by rfl) T.n_isinstance (by decide +kernel) (pa_cons (pv 0) (pa_cons (pe_glob (v := .ref T.E_InvalidText) rfl T.g_InvalidText rfl) pa_nil))) (pa_cons (pe_callB call_isK (by rfl) T.n_isinstance (by decide +kernel) (pa_cons (pv 0) (pa_cons (pe_glob (v := .ref T.E_InvalidMarks) rfl T.g_InvalidMarks rfl) pa_nil))) (pa_cons (pe_callB call_isK (by rfl) T.n_isinstance (by decide +kernel) (pa_cons (pv 0) (pa_cons (pe_glob (v := .ref T.E_InvalidIndex) rfl T.g_InvalidIndex rfl) pa_nil))) pa_nil)))))
      (pss_cons (ps_set (i := 1) sc_l_sort.nd rfl (Or.inl rfl) (pe_op op_cat (pv 1) (pe_lst (pa_cons (pe_callB call_isK (by rfl) T.n_isinstance (by decide +kernel) (pa_cons (pv 0) (pa_cons (pe_glob (v := .ref T.E_InvalidWord) rfl T.g_InvalidWord rfl) pa_nil))) (pa_cons (pe_callB call_isK (by rfl) T.n_isinstance (by decide +kernel) (pa_cons (pv 0) (pa_cons (pe_glob (v := .ref T.E_NotARanking) rfl T.g_NotARanking rfl) pa_nil))) (pa_cons (pe_callB call_isK (by rfl) T.n_isinstance (by decide +kernel) (pa_cons (pv 0) (pa_cons (pe_glob (v := .ref T.E_NotAHouse) rfl T.g_NotAHouse rfl) pa_nil))) pa_nil))))))
      (pss_cons (ps_set (i := 1) sc_l_sort.nd rfl (Or.inl rfl) (pe_op op_cat (pv 1) (pe_lst (pa_cons (pe_callB call_isK (by rfl) T.n_isinstance (by decide +kernel) (pa_cons (pv 0) (pa_cons (pe_glob (v := .ref T.E_NotALook) rfl T.g_NotALook rfl) pa_nil))) (pa_cons (pe_callB call_isK (by rfl) T.n_isinstance (by decide +kernel) (pa_cons (pv 0) (pa_cons (pe_glob (v := .ref T.E_NotLooks) rfl T.g_NotLooks rfl) pa_nil))) (pa_cons (pe_callB call_isK (by rfl) T.n_isinstance (by decide +kernel) (pa_cons (pv 0) (pa_cons (pe_glob (v := .ref T.E_OtherThings) rfl T.g_OtherThings rfl) pa_nil))) pa_nil))))))
      (pss_cons (ps_set (i := 1) sc_l_sort.nd rfl (Or.inl rfl) (pe_op op_cat (pv 1) (pe_lst (pa_cons (pe_callB call_isK (by rfl) T.n_isinstance (by decide +kernel) (pa_cons (pv 0) (pa_cons (pe_glob (v := .ref T.E_InvalidRow) rfl T.g_InvalidRow rfl) pa_nil))) (pa_cons (pe_callB call_isK (by rfl) T.n_isinstance (by decide +kernel) (pa_cons (pv 0) (pa_cons (pe_glob (v := .ref T.E_InvalidMenu) rfl T.g_InvalidMenu rfl) pa_nil))) (pa_cons (pe_callB call_isK (by rfl) T.n_isinstance (by decide +kernel) (pa_cons (pv 0) (pa_cons (pe_glob (v := .ref T.E_InvalidThings) rfl T.g_InvalidThings rfl) pa_nil))) pa_nil))))))
      (pss_cons (ps_set (i := 1) sc_l_sort.nd rfl (Or.inl rfl) (pe_op op_cat (pv 1) (pe_lst (pa_cons (pe_callB call_isK (by rfl) T.n_isinstance (by decide +kernel) (pa_cons (pv 0) (pa_cons (pe_glob (v := .ref T.E_InvalidTaken) rfl T.g_InvalidTaken rfl) pa_nil))) (pa_cons (pe_callB call_isK (by rfl) T.n_isinstance (by decide +kernel) (pa_cons (pv 0) (pa_cons (pe_glob (v := .ref T.E_InvalidRankings) rfl T.g_InvalidRankings rfl) pa_nil))) (pa_cons (pe_callB call_isK (by rfl) T.n_isinstance (by decide +kernel) (pa_cons (pv 0) (pa_cons (pe_glob (v := .ref T.E_InvalidLooks) rfl T.g_InvalidLooks rfl) pa_nil))) pa_nil))))))
      (pss_cons (ps_set (i := 1) sc_l_sort.nd rfl (Or.inl rfl) (pe_op op_cat (pv 1) (pe_lst (pa_cons (pe_callB call_isK (by rfl) T.n_isinstance (by decide +kernel) (pa_cons (pv 0) (pa_cons (pe_glob (v := .ref T.E_InvalidTable) rfl T.g_InvalidTable rfl) pa_nil))) (pa_cons (pe_callB call_isK (by rfl) T.n_isinstance (by decide +kernel) (pa_cons (pv 0) (pa_cons (pe_glob (v := .ref T.E_UnknownThing) rfl T.g_UnknownThing rfl) pa_nil))) (pa_cons (pe_callB call_isK (by rfl) T.n_isinstance (by decide +kernel) (pa_cons (pv 0) (pa_cons (pe_glob (v := .ref T.E_TooMany) rfl T.g_TooMany rfl) pa_nil))) pa_nil))))))
      (pss_cons (ps_set (i := 1) sc_l_sort.nd rfl (Or.inl rfl) (pe_op op_cat (pv 1) (pe_lst (pa_cons (pe_callB call_isK (by rfl) T.n_isinstance (by decide +kernel) (pa_cons (pv 0) (pa_cons (pe_glob (v := .ref T.E_NoHouse) rfl T.g_NoHouse rfl) pa_nil))) (pa_cons (pe_callB call_isK (by rfl) T.n_isinstance (by decide +kernel) (pa_cons (pv 0) (pa_cons (pe_glob (v := .ref T.E_NoTable) rfl T.g_NoTable rfl) pa_nil))) (pa_cons (pe_callB call_isK (by rfl) T.n_isinstance (by decide +kernel) (pa_cons (pv 0) (pa_cons (pe_glob (v := .ref T.E_Clash) rfl T.g_Clash rfl) pa_nil))) (pa_cons (pe_callB call_isK (by rfl) T.n_isinstance (by decide +kernel) (pa_cons (pv 0) (pa_cons (pe_glob (v := .ref T.E_Broken) rfl T.g_Broken rfl) pa_nil))) pa_nil)))))))
      (pss_cons (ps_set (i := 1) sc_l_sort.nd rfl (Or.inl rfl) (pe_op op_cat (pv 1) (pe_lst (pa_cons (pe_callB call_isK (by rfl) T.n_isinstance (by decide +kernel) (pa_cons (pv 0) (pa_cons (pe_glob (v := .ref T.E_NothingToUndo) rfl T.g_NothingToUndo rfl) pa_nil))) pa_nil))))
      (pss_cons (ps_if (pt_cmpR op_ne (pe_bm PySem.F.plainAttrs_list PySem.F.slot_list_count PySem.F.type_list_count (mt_bcount hr.units) (pv 1) (pa_cons pe_bl pa_nil)) pe_int (nomark _))
        (pss_one (ps_ret pe_str))
        pss_nil)
      (pss_cons (ps_set (i := 2) sc_l_sort.nd rfl (Or.inl rfl) (pe_bm PySem.F.plainAttrs_list PySem.F.slot_list_index PySem.F.type_list_index mt_index (pv 1) (pa_cons pe_bl pa_nil)))
      (pss_cons (ps_set (i := 3) sc_l_sort.nd rfl (Or.inl rfl) (pe_lst (pa_cons (pe_callB call_isK (by rfl) T.n_isinstance (by decide +kernel) (pa_cons (pv 0) (pa_cons (pe_glob (v := .ref T.E_WrongValue) rfl T.g_WrongValue rfl) pa_nil))) (pa_cons (pe_callB call_isK (by rfl) T.n_isinstance (by decide +kernel) (pa_cons (pv 0) (pa_cons (pe_glob (v := .ref T.E_WrongName) rfl T.g_WrongName rfl) pa_nil))) (pa_cons (pe_callB call_isK (by rfl) T.n_isinstance (by decide +kernel) (pa_cons (pv 0) (pa_cons (pe_glob (v := .ref T.E_NoAnswer) rfl T.g_NoAnswer rfl) pa_nil))) pa_nil)))))
      (pss_cons (ps_set (i := 4) sc_l_sort.nd rfl (Or.inl rfl) (pe_lst (pa_cons (pe_callB call_isK (by rfl) T.n_isinstance (by decide +kernel) (pa_cons (pv 0) (pa_cons (pe_bltn (v := .ty "ValueError") (by rfl) T.n_ValueError (by decide +kernel) rfl) pa_nil))) (pa_cons (pe_callB call_isK (by rfl) T.n_isinstance (by decide +kernel) (pa_cons (pv 0) (pa_cons (pe_bltn (v := .ty "LookupError") (by rfl) T.n_LookupError (by decide +kernel) rfl) pa_nil))) (pa_cons (pe_callB call_isK (by rfl) T.n_isinstance (by decide +kernel) (pa_cons (pv 0) (pa_cons (pe_bltn (v := .ty "ArithmeticError") (by rfl) T.n_ArithmeticError (by decide +kernel) rfl) pa_nil))) pa_nil)))))
      (pss_cons (ps_if (PW.pt (pw_or (pt_cmpR (op_neD hr.units) (pv 3) (pe_lst (pa_cons (pe_cmpR op_lt (pv 2) pe_int (nomark _)) (pa_cons (pe_cmpR op_eq (pv 2) pe_int (nomark _)) (pa_cons (pe_cmpR op_gt (pv 2) pe_int (nomark _)) pa_nil)))) (nomark _)) (pw_or1 (pt_cmpR (op_neD hr.units) (pv 4) (pv 3) (nomark _)))))
        (pss_one (ps_ret pe_str))
        pss_nil)
      (pss_cons (ps_set (i := 5) sc_l_sort.nd rfl (Or.inl rfl) pe_str)
      (pss_cons (ps_set (i := 5) sc_l_sort.nd rfl (Or.inl rfl) (pe_op op_add_str (pv 5) pe_str))
      (pss_cons (ps_set (i := 5) sc_l_sort.nd rfl (Or.inl rfl) (pe_op op_add_str (pv 5) pe_str))
      (pss_one (ps_ret (pe_ix ix_list (pe_split (pe_op op_add_str (pv 5) pe_str) pe_str) (pv 2) (fun _ _ => rfl)))))))))))))))))))), ?_⟩
    cases kn with
    | text =>
      refine ⟨_, rfl, a, _, fs, _, .ref T.E_InvalidText, true, rfl, ex, T.ek_InvalidText, fun _ h => h, T.kf_InvalidText_InvalidText, _, rfl, a, _, fs, _, .ref T.E_InvalidMarks, false, rfl, ex, T.ek_InvalidText, fun _ h => h, T.kf_InvalidText_InvalidMarks, _, rfl, a, _, fs, _, .ref T.E_InvalidIndex, false, rfl, ex, T.ek_InvalidText, fun _ h => h, T.kf_InvalidText_InvalidIndex, (by show 3 ≤ sizeLine; decide), fun q0 nq0 => ?_⟩
      have s0 := Same.new nq0 (o := .lst [V.bl true, V.bl false, V.bl false])
      have h0 : (upd H q0 (.lst [V.bl true, V.bl false, V.bl false])) q0 = some (.lst [V.bl true, V.bl false, V.bl false]) := upd_same
      change tSeq _ _ _ _ (upd H q0 (.lst [V.bl true, V.bl false, V.bl false]))
      generalize upd H q0 (.lst [V.bl true, V.bl false, V.bl false]) = H0 at s0 h0 ⊢
      have ex1 := ex.same s0
      refine ⟨_, rfl, _, rfl, a, _, fs, _, .ref T.E_InvalidWord, false, rfl, ex1, T.ek_InvalidText, fun _ h => h, T.kf_InvalidText_InvalidWord, _, rfl, a, _, fs, _, .ref T.E_NotARanking, false, rfl, ex1, T.ek_InvalidText, fun _ h => h, T.kf_InvalidText_NotARanking, _, rfl, a, _, fs, _, .ref T.E_NotAHouse, false, rfl, ex1, T.ek_InvalidText, fun _ h => h, T.kf_InvalidText_NotAHouse, (by show 3 ≤ sizeLine; decide), fun q1 nq1 => ?_⟩
      have xq1 : q0 ≠ q1 := ne_of_none h0 nq1
      refine ⟨q0, q1, _, _, rfl, rfl, (by rw [upd_ne xq1]; exact h0), upd_same, (by show 6 ≤ sizeLine; decide), fun r1 nr1 => ?_⟩
      have s1 := (s0.new' nq1 (o := .lst [V.bl false, V.bl false, V.bl false])).new' nr1 (o := .lst [V.bl true, V.bl false, V.bl false, V.bl false, V.bl false, V.bl false])
      have h1 : (upd (upd H0 q1 (.lst [V.bl false, V.bl false, V.bl false])) r1 (.lst [V.bl true, V.bl false, V.bl false, V.bl false, V.bl false, V.bl false])) r1 = some (.lst [V.bl true, V.bl false, V.bl false, V.bl false, V.bl false, V.bl false]) := upd_same
      change tSeq _ _ _ _ (upd (upd H0 q1 (.lst [V.bl false, V.bl false, V.bl false])) r1 (.lst [V.bl true, V.bl false, V.bl false, V.bl false, V.bl false, V.bl false]))
      generalize upd (upd H0 q1 (.lst [V.bl false, V.bl false, V.bl false])) r1 (.lst [V.bl true, V.bl false, V.bl false, V.bl false, V.bl false, V.bl false]) = H1 at s1 h1 ⊢
      have ex2 := ex.same s1
      refine ⟨_, rfl, _, rfl, a, _, fs, _, .ref T.E_NotALook, false, rfl, ex2, T.ek_InvalidText, fun _ h => h, T.kf_InvalidText_NotALook, _, rfl, a, _, fs, _, .ref T.E_NotLooks, false, rfl, ex2, T.ek_InvalidText, fun _ h => h, T.kf_InvalidText_NotLooks, _, rfl, a, _, fs, _, .ref T.E_OtherThings, false, rfl, ex2, T.ek_InvalidText, fun _ h => h, T.kf_InvalidText_OtherThings, (by show 3 ≤ sizeLine; decide), fun q2 nq2 => ?_⟩
      have xq2 : r1 ≠ q2 := ne_of_none h1 nq2
      refine ⟨r1, q2, _, _, rfl, rfl, (by rw [upd_ne xq2]; exact h1), upd_same, (by show 9 ≤ sizeLine; decide), fun r2 nr2 => ?_⟩
      have s2 := (s1.new' nq2 (o := .lst [V.bl false, V.bl false, V.bl false])).new' nr2 (o := .lst [V.bl true, V.bl false, V.bl false, V.bl false, V.bl false, V.bl false, V.bl false, V.bl false, V.bl false])
      have h2 : (upd (upd H1 q2 (.lst [V.bl false, V.bl false, V.bl false])) r2 (.lst [V.bl true, V.bl false, V.bl false, V.bl false, V.bl false, V.bl false, V.bl false, V.bl false, V.bl false])) r2 = some (.lst [V.bl true, V.bl false, V.bl false, V.bl false, V.bl false, V.bl false, V.bl false, V.bl false, V.bl false]) := upd_same
      change tSeq _ _ _ _ (upd (upd H1 q2 (.lst [V.bl false, V.bl false, V.bl false])) r2 (.lst [V.bl true, V.bl false, V.bl false, V.bl false, V.bl false, V.bl false, V.bl false, V.bl false, V.bl false]))
      generalize upd (upd H1 q2 (.lst [V.bl false, V.bl false, V.bl false])) r2 (.lst [V.bl true, V.bl false, V.bl false, V.bl false, V.bl false, V.bl false, V.bl false, V.bl false, V.bl false]) = H2 at s2 h2 ⊢
      have ex3 := ex.same s2
      refine ⟨_, rfl, _, rfl, a, _, fs, _, .ref T.E_InvalidRow, false, rfl, ex3, T.ek_InvalidText, fun _ h => h, T.kf_InvalidText_InvalidRow, _, rfl, a, _, fs, _, .ref T.E_InvalidMenu, false, rfl, ex3, T.ek_InvalidText, fun _ h => h, T.kf_InvalidText_InvalidMenu, _, rfl, a, _, fs, _, .ref T.E_InvalidThings, false, rfl, ex3, T.ek_InvalidText, fun _ h => h, T.kf_InvalidText_InvalidThings, (by show 3 ≤ sizeLine; decide), fun q3 nq3 => ?_⟩
      have xq3 : r2 ≠ q3 := ne_of_none h2 nq3
      refine ⟨r2, q3, _, _, rfl, rfl, (by rw [upd_ne xq3]; exact h2), upd_same, (by show 12 ≤ sizeLine; decide), fun r3 nr3 => ?_⟩
      have s3 := (s2.new' nq3 (o := .lst [V.bl false, V.bl false, V.bl false])).new' nr3 (o := .lst [V.bl true, V.bl false, V.bl false, V.bl false, V.bl false, V.bl false, V.bl false, V.bl false, V.bl false, V.bl false, V.bl false, V.bl false])
      have h3 : (upd (upd H2 q3 (.lst [V.bl false, V.bl false, V.bl false])) r3 (.lst [V.bl true, V.bl false, V.bl false, V.bl false, V.bl false, V.bl false, V.bl false, V.bl false, V.bl false, V.bl false, V.bl false, V.bl false])) r3 = some (.lst [V.bl true, V.bl false, V.bl false, V.bl false, V.bl false, V.bl false, V.bl false, V.bl false, V.bl false, V.bl false, V.bl false, V.bl false]) := upd_same
      change tSeq _ _ _ _ (upd (upd H2 q3 (.lst [V.bl false, V.bl false, V.bl false])) r3 (.lst [V.bl true, V.bl false, V.bl false, V.bl false, V.bl false, V.bl false, V.bl false, V.bl false, V.bl false, V.bl false, V.bl false, V.bl false]))
      generalize upd (upd H2 q3 (.lst [V.bl false, V.bl false, V.bl false])) r3 (.lst [V.bl true, V.bl false, V.bl false, V.bl false, V.bl false, V.bl false, V.bl false, V.bl false, V.bl false, V.bl false, V.bl false, V.bl false]) = H3 at s3 h3 ⊢
      have ex4 := ex.same s3
      refine ⟨_, rfl, _, rfl, a, _, fs, _, .ref T.E_InvalidTaken, false, rfl, ex4, T.ek_InvalidText, fun _ h => h, T.kf_InvalidText_InvalidTaken, _, rfl, a, _, fs, _, .ref T.E_InvalidRankings, false, rfl, ex4, T.ek_InvalidText, fun _ h => h, T.kf_InvalidText_InvalidRankings, _, rfl, a, _, fs, _, .ref T.E_InvalidLooks, false, rfl, ex4, T.ek_InvalidText, fun _ h => h, T.kf_InvalidText_InvalidLooks, (by show 3 ≤ sizeLine; decide), fun q4 nq4 => ?_⟩
      have xq4 : r3 ≠ q4 := ne_of_none h3 nq4
      refine ⟨r3, q4, _, _, rfl, rfl, (by rw [upd_ne xq4]; exact h3), upd_same, (by show 15 ≤ sizeLine; decide), fun r4 nr4 => ?_⟩
      have s4 := (s3.new' nq4 (o := .lst [V.bl false, V.bl false, V.bl false])).new' nr4 (o := .lst [V.bl true, V.bl false, V.bl false, V.bl false, V.bl false, V.bl false, V.bl false, V.bl false, V.bl false, V.bl false, V.bl false, V.bl false, V.bl false, V.bl false, V.bl false])
      have h4 : (upd (upd H3 q4 (.lst [V.bl false, V.bl false, V.bl false])) r4 (.lst [V.bl true, V.bl false, V.bl false, V.bl false, V.bl false, V.bl false, V.bl false, V.bl false, V.bl false, V.bl false, V.bl false, V.bl false, V.bl false, V.bl false, V.bl false])) r4 = some (.lst [V.bl true, V.bl false, V.bl false, V.bl false, V.bl false, V.bl false, V.bl false, V.bl false, V.bl false, V.bl false, V.bl false, V.bl false, V.bl false, V.bl false, V.bl false]) := upd_same
      change tSeq _ _ _ _ (upd (upd H3 q4 (.lst [V.bl false, V.bl false, V.bl false])) r4 (.lst [V.bl true, V.bl false, V.bl false, V.bl false, V.bl false, V.bl false, V.bl false, V.bl false, V.bl false, V.bl false, V.bl false, V.bl false, V.bl false, V.bl false, V.bl false]))
      generalize upd (upd H3 q4 (.lst [V.bl false, V.bl false, V.bl false])) r4 (.lst [V.bl true, V.bl false, V.bl false, V.bl false, V.bl false, V.bl false, V.bl false, V.bl false, V.bl false, V.bl false, V.bl false, V.bl false, V.bl false, V.bl false, V.bl false]) = H4 at s4 h4 ⊢
      have ex5 := ex.same s4
      refine ⟨_, rfl, _, rfl, a, _, fs, _, .ref T.E_InvalidTable, false, rfl, ex5, T.ek_InvalidText, fun _ h => h, T.kf_InvalidText_InvalidTable, _, rfl, a, _, fs, _, .ref T.E_UnknownThing, false, rfl, ex5, T.ek_InvalidText, fun _ h => h, T.kf_InvalidText_UnknownThing, _, rfl, a, _, fs, _, .ref T.E_TooMany, false, rfl, ex5, T.ek_InvalidText, fun _ h => h, T.kf_InvalidText_TooMany, (by show 3 ≤ sizeLine; decide), fun q5 nq5 => ?_⟩
      have xq5 : r4 ≠ q5 := ne_of_none h4 nq5
      refine ⟨r4, q5, _, _, rfl, rfl, (by rw [upd_ne xq5]; exact h4), upd_same, (by show 18 ≤ sizeLine; decide), fun r5 nr5 => ?_⟩
      have s5 := (s4.new' nq5 (o := .lst [V.bl false, V.bl false, V.bl false])).new' nr5 (o := .lst [V.bl true, V.bl false, V.bl false, V.bl false, V.bl false, V.bl false, V.bl false, V.bl false, V.bl false, V.bl false, V.bl false, V.bl false, V.bl false, V.bl false, V.bl false, V.bl false, V.bl false, V.bl false])
      have h5 : (upd (upd H4 q5 (.lst [V.bl false, V.bl false, V.bl false])) r5 (.lst [V.bl true, V.bl false, V.bl false, V.bl false, V.bl false, V.bl false, V.bl false, V.bl false, V.bl false, V.bl false, V.bl false, V.bl false, V.bl false, V.bl false, V.bl false, V.bl false, V.bl false, V.bl false])) r5 = some (.lst [V.bl true, V.bl false, V.bl false, V.bl false, V.bl false, V.bl false, V.bl false, V.bl false, V.bl false, V.bl false, V.bl false, V.bl false, V.bl false, V.bl false, V.bl false, V.bl false, V.bl false, V.bl false]) := upd_same
      change tSeq _ _ _ _ (upd (upd H4 q5 (.lst [V.bl false, V.bl false, V.bl false])) r5 (.lst [V.bl true, V.bl false, V.bl false, V.bl false, V.bl false, V.bl false, V.bl false, V.bl false, V.bl false, V.bl false, V.bl false, V.bl false, V.bl false, V.bl false, V.bl false, V.bl false, V.bl false, V.bl false]))
      generalize upd (upd H4 q5 (.lst [V.bl false, V.bl false, V.bl false])) r5 (.lst [V.bl true, V.bl false, V.bl false, V.bl false, V.bl false, V.bl false, V.bl false, V.bl false, V.bl false, V.bl false, V.bl false, V.bl false, V.bl false, V.bl false, V.bl false, V.bl false, V.bl false, V.bl false]) = H5 at s5 h5 ⊢
      have ex6 := ex.same s5
      refine ⟨_, rfl, _, rfl, a, _, fs, _, .ref T.E_NoHouse, false, rfl, ex6, T.ek_InvalidText, fun _ h => h, T.kf_InvalidText_NoHouse, _, rfl, a, _, fs, _, .ref T.E_NoTable, false, rfl, ex6, T.ek_InvalidText, fun _ h => h, T.kf_InvalidText_NoTable, _, rfl, a, _, fs, _, .ref T.E_Clash, false, rfl, ex6, T.ek_InvalidText, fun _ h => h, T.kf_InvalidText_Clash, _, rfl, a, _, fs, _, .ref T.E_Broken, false, rfl, ex6, T.ek_InvalidText, fun _ h => h, T.kf_InvalidText_Broken, (by show 4 ≤ sizeLine; decide), fun q6 nq6 => ?_⟩
      have xq6 : r5 ≠ q6 := ne_of_none h5 nq6
      refine ⟨r5, q6, _, _, rfl, rfl, (by rw [upd_ne xq6]; exact h5), upd_same, (by show 22 ≤ sizeLine; decide), fun r6 nr6 => ?_⟩
      have s6 := (s5.new' nq6 (o := .lst [V.bl false, V.bl false, V.bl false, V.bl false])).new' nr6 (o := .lst [V.bl true, V.bl false, V.bl false, V.bl false, V.bl false, V.bl false, V.bl false, V.bl false, V.bl false, V.bl false, V.bl false, V.bl false, V.bl false, V.bl false, V.bl false, V.bl false, V.bl false, V.bl false, V.bl false, V.bl false, V.bl false, V.bl false])
      have h6 : (upd (upd H5 q6 (.lst [V.bl false, V.bl false, V.bl false, V.bl false])) r6 (.lst [V.bl true, V.bl false, V.bl false, V.bl false, V.bl false, V.bl false, V.bl false, V.bl false, V.bl false, V.bl false, V.bl false, V.bl false, V.bl false, V.bl false, V.bl false, V.bl false, V.bl false, V.bl false, V.bl false, V.bl false, V.bl false, V.bl false])) r6 = some (.lst [V.bl true, V.bl false, V.bl false, V.bl false, V.bl false, V.bl false, V.bl false, V.bl false, V.bl false, V.bl false, V.bl false, V.bl false, V.bl false, V.bl false, V.bl false, V.bl false, V.bl false, V.bl false, V.bl false, V.bl false, V.bl false, V.bl false]) := upd_same
      change tSeq _ _ _ _ (upd (upd H5 q6 (.lst [V.bl false, V.bl false, V.bl false, V.bl false])) r6 (.lst [V.bl true, V.bl false, V.bl false, V.bl false, V.bl false, V.bl false, V.bl false, V.bl false, V.bl false, V.bl false, V.bl false, V.bl false, V.bl false, V.bl false, V.bl false, V.bl false, V.bl false, V.bl false, V.bl false, V.bl false, V.bl false, V.bl false]))
      generalize upd (upd H5 q6 (.lst [V.bl false, V.bl false, V.bl false, V.bl false])) r6 (.lst [V.bl true, V.bl false, V.bl false, V.bl false, V.bl false, V.bl false, V.bl false, V.bl false, V.bl false, V.bl false, V.bl false, V.bl false, V.bl false, V.bl false, V.bl false, V.bl false, V.bl false, V.bl false, V.bl false, V.bl false, V.bl false, V.bl false]) = H6 at s6 h6 ⊢
      have ex7 := ex.same s6
      refine ⟨_, rfl, _, rfl, a, _, fs, _, .ref T.E_NothingToUndo, false, rfl, ex7, T.ek_InvalidText, fun _ h => h, T.kf_InvalidText_NothingToUndo, (by show 1 ≤ sizeLine; decide), fun q7 nq7 => ?_⟩
      have xq7 : r6 ≠ q7 := ne_of_none h6 nq7
      refine ⟨r6, q7, _, _, rfl, rfl, (by rw [upd_ne xq7]; exact h6), upd_same, (by show 23 ≤ sizeLine; decide), fun r7 nr7 => ?_⟩
      have s7 := (s6.new' nq7 (o := .lst [V.bl false])).new' nr7 (o := .lst [V.bl true, V.bl false, V.bl false, V.bl false, V.bl false, V.bl false, V.bl false, V.bl false, V.bl false, V.bl false, V.bl false, V.bl false, V.bl false, V.bl false, V.bl false, V.bl false, V.bl false, V.bl false, V.bl false, V.bl false, V.bl false, V.bl false, V.bl false])
      have h7 : (upd (upd H6 q7 (.lst [V.bl false])) r7 (.lst [V.bl true, V.bl false, V.bl false, V.bl false, V.bl false, V.bl false, V.bl false, V.bl false, V.bl false, V.bl false, V.bl false, V.bl false, V.bl false, V.bl false, V.bl false, V.bl false, V.bl false, V.bl false, V.bl false, V.bl false, V.bl false, V.bl false, V.bl false])) r7 = some (.lst [V.bl true, V.bl false, V.bl false, V.bl false, V.bl false, V.bl false, V.bl false, V.bl false, V.bl false, V.bl false, V.bl false, V.bl false, V.bl false, V.bl false, V.bl false, V.bl false, V.bl false, V.bl false, V.bl false, V.bl false, V.bl false, V.bl false, V.bl false]) := upd_same
      change tSeq _ _ _ _ (upd (upd H6 q7 (.lst [V.bl false])) r7 (.lst [V.bl true, V.bl false, V.bl false, V.bl false, V.bl false, V.bl false, V.bl false, V.bl false, V.bl false, V.bl false, V.bl false, V.bl false, V.bl false, V.bl false, V.bl false, V.bl false, V.bl false, V.bl false, V.bl false, V.bl false, V.bl false, V.bl false, V.bl false]))
      generalize upd (upd H6 q7 (.lst [V.bl false])) r7 (.lst [V.bl true, V.bl false, V.bl false, V.bl false, V.bl false, V.bl false, V.bl false, V.bl false, V.bl false, V.bl false, V.bl false, V.bl false, V.bl false, V.bl false, V.bl false, V.bl false, V.bl false, V.bl false, V.bl false, V.bl false, V.bl false, V.bl false, V.bl false]) = H7 at s7 h7 ⊢
      have ex8 := ex.same s7
      refine ⟨_, rfl, .inl ⟨rfl, _, lst_of h7⟩, r7, [true, false, false, false, false, false, false, false, false, false, false, false, false, false, false, false, false, false, false, false, false, false, false], true, rfl, rfl, lst_of h7, (by decide), rfl, _, rfl, ifF (by decide) ?_⟩
      refine ⟨_, rfl, .inl ⟨rfl, _, lst_of h7⟩, r7, _, .bl true, 0, .bl true, rfl, rfl, lst_of h7, rfl, rfl, rfl, rfl, (fun m z hm hz => ?_), ?_⟩
      · omega
      refine ⟨_, rfl, a, _, fs, _, .ref T.E_WrongValue, true, rfl, ex8, T.ek_InvalidText, fun _ h => h, T.kf_InvalidText_WrongValue, _, rfl, a, _, fs, _, .ref T.E_WrongName, false, rfl, ex8, T.ek_InvalidText, fun _ h => h, T.kf_InvalidText_WrongName, _, rfl, a, _, fs, _, .ref T.E_NoAnswer, false, rfl, ex8, T.ek_InvalidText, fun _ h => h, T.kf_InvalidText_NoAnswer, (by show 3 ≤ sizeLine; decide), fun p8 n8 => ?_⟩
      have s8 := s7.new' n8 (o := .lst [V.bl true, V.bl false, V.bl false])
      have h8 : (upd H7 p8 (.lst [V.bl true, V.bl false, V.bl false])) p8 = some (.lst [V.bl true, V.bl false, V.bl false]) := upd_same
      change tSeq _ _ _ _ (upd H7 p8 (.lst [V.bl true, V.bl false, V.bl false]))
      generalize upd H7 p8 (.lst [V.bl true, V.bl false, V.bl false]) = H8 at s8 h8 ⊢
      have ex9 := ex.same s8
      refine ⟨_, rfl, a, _, fs, _, .type "ValueError", true, rfl, ex9, T.ek_InvalidText, fun _ h => h, T.kf_InvalidText_ValueError, _, rfl, a, _, fs, _, .type "LookupError", false, rfl, ex9, T.ek_InvalidText, fun _ h => h, T.kf_InvalidText_LookupError, _, rfl, a, _, fs, _, .type "ArithmeticError", false, rfl, ex9, T.ek_InvalidText, fun _ h => h, T.kf_InvalidText_ArithmeticError, (by show 3 ≤ sizeLine; decide), fun p9 n9 => ?_⟩
      have s9 := s8.new' n9 (o := .lst [V.bl true, V.bl false, V.bl false])
      have h9 : (upd H8 p9 (.lst [V.bl true, V.bl false, V.bl false])) p9 = some (.lst [V.bl true, V.bl false, V.bl false]) := upd_same
      have h89 : (upd H8 p9 (.lst [V.bl true, V.bl false, V.bl false])) p8 = some (.lst [V.bl true, V.bl false, V.bl false]) := by
        rw [upd_ne (ne_of_none h8 n9)]
        exact h8
      change tSeq _ _ _ _ (upd H8 p9 (.lst [V.bl true, V.bl false, V.bl false]))
      generalize upd H8 p9 (.lst [V.bl true, V.bl false, V.bl false]) = H9 at s9 h9 h89 ⊢
      have hA9 : H9 p8 = some (.lst ([true, false, false].map V.bl)) := h89
      have hB9 : H9 p9 = some (.lst ([true, false, false].map V.bl)) := h9
      have shb : SeqAt.shaped (.list ([true, false, false].map PyData.bool)) = true := by decide +kernel
      have eqb : PyData.eqv (.list ([true, false, false].map PyData.bool)) (.list ([true, false, false].map PyData.bool)) = true := by decide +kernel
      refine ⟨_, rfl, _, rfl, 0, 16, rfl, rfl, _, rfl, rfl, _, rfl, 0, 16, rfl, rfl, (by show 3 ≤ sizeLine; decide), fun p10 n10 => ?_⟩
      have s10 := s9.new' n10 (o := .lst ([true, false, false].map V.bl))
      have hC : (upd H9 p10 (.lst ([true, false, false].map V.bl))) p10 = some (.lst ([true, false, false].map V.bl)) := upd_same
      have hA : (upd H9 p10 (.lst ([true, false, false].map V.bl))) p8 = some (.lst ([true, false, false].map V.bl)) := by
        rw [upd_ne (ne_of_none hA9 n10)]
        exact hA9
      have hB : (upd H9 p10 (.lst ([true, false, false].map V.bl))) p9 = some (.lst ([true, false, false].map V.bl)) := by
        rw [upd_ne (ne_of_none hB9 n10)]
        exact hB9
      refine ⟨.list ([true, false, false].map PyData.bool), .list ([true, false, false].map PyData.bool), .lst (lst_of hA) (dp_bls _), .lst (lst_of hC) (dp_bls _), shb, shb, ?_⟩
      rw [eqb]
      refine ⟨_, rfl, ifF rfl ?_⟩
      refine ⟨_, rfl, _, rfl, .list ([true, false, false].map PyData.bool), .list ([true, false, false].map PyData.bool), .lst (lst_of hB) (dp_bls _), .lst (lst_of hA) (dp_bls _), shb, shb, ?_⟩
      rw [eqb]
      refine ⟨_, rfl, ifF rfl ?_⟩
      refine ⟨_, rfl, _, _, rfl, rfl, (by decide +kernel), _, rfl, _, _, rfl, rfl, (by decide +kernel), _, rfl, _, _, rfl, rfl, (by decide +kernel), ⟨_, rfl⟩, _, _, rfl, rfl, (by decide), (by decide +kernel), fun L nL => ?_⟩
      generalize hW : Txt.split _ _ = W
      have g0 : W[0]? = some ("InvalidText" : Str) := by
        rw [← hW]
        decide +kernel
      have gw : (W.map V.str)[0]? = some (V.str "InvalidText") := by
        rw [List.getElem?_map, g0]
        rfl
      exact ⟨_, rfl, L, _, _, V.str "InvalidText", rfl, rfl, lst_of upd_same, atI_nat (j := 0) gw, k _ (s10.new' nL (o := .lst (W.map V.str)))⟩
theorem k_l_field (T : Tx K mg) : FnK P w K mg base 4 T.a_l_field (spField T) := by
  refine fun_k T.F_l_field sc_l_field T.b_l_field (fun vs H Q E h => ?_) (fun cdv A fr s H vs Q hg hr h => ?_)
  · obtain ⟨a, C, fs, word, f, v, rfl, _⟩ := h
    rfl
  · obtain ⟨a, C, fs, word, f, v, rfl, ex, kn, hv, k⟩ := h
    refine ⟨_, (pss_cons (ps_if (pt_cmpR op_in_seq (pv 0) (pe_lst (pa_cons pe_str (pa_cons pe_str pa_nil))) (by rfl))
        (pss_one (ps_ret pe_non))
        pss_nil)
      (pss_cons (ps_if (pt_cmpR op_in_seq (pv 0) (pe_lst (pa_cons pe_str (pa_cons pe_str pa_nil))) (by rfl))
        (pss_one (ps_ret (pe_ifExp (pt_cmpR op_eq (pv 0) pe_str (nomark _)) (pe_xk (pv 1)) (pe_xk (pv 1)))))
        pss_nil)
      (pss_cons (ps_if (pt_cmpR op_eq (pv 0) pe_str (nomark _))
        (pss_one (ps_ret (pe_tup (pa_cons (pe_xk (pv 1)) (pa_cons (pe_xk (pv 1)) pa_nil)))))
        pss_nil)
      (pss_cons (ps_set (i := 2) sc_l_field.nd rfl (Or.inl rfl) (pe_lst (pa_cons pe_str (pa_cons pe_str (pa_cons pe_str (pa_cons pe_str (pa_cons pe_str (pa_cons pe_str pa_nil))))))))
      (pss_one (ps_ret (pe_ifExp (pt_cmpR op_in_seq (pv 0) (pe_op op_cat (pv 2) (pe_lst (pa_cons pe_str (pa_cons pe_str (pa_cons pe_str pa_nil))))) (by rfl)) (pe_xk (pv 1)) (pe_xk (pv 1))))))))), ?_⟩
    cases kn with
    | text =>
      refine ⟨_, rfl, (by show 2 ≤ sizeLine; decide), fun p1 n1 => ⟨p1, _, rfl, .inl (lst_of upd_same), rfl, rfl, _, rfl, ifF (by decide +kernel) ?_⟩⟩
      have s1 := Same.new n1 (o := .lst [V.str "", V.str "NothingToUndo"])
      have s1' : Same H (upd H p1 (.lst [V.str (Str.ofString ""), V.str (Str.ofString "NothingToUndo")])) := s1
      generalize upd H p1 (.lst [V.str (Str.ofString ""), V.str (Str.ofString "NothingToUndo")]) = H1 at s1' ⊢
      refine ⟨_, rfl, (by show 2 ≤ sizeLine; decide), fun p2 n2 => ⟨p2, _, rfl, .inl (lst_of upd_same), rfl, rfl, _, rfl, ifF (by decide +kernel) ?_⟩⟩
      have s2 := s1'.new' n2 (o := .lst [V.str (Str.ofString "TooMany"), V.str (Str.ofString "NoHouse")])
      generalize upd H1 p2 (.lst [V.str (Str.ofString "TooMany"), V.str (Str.ofString "NoHouse")]) = H2 at s2 ⊢
      refine ⟨_, rfl, rfl, _, rfl, ifF (by decide +kernel) ?_⟩
      refine ⟨(by show 6 ≤ sizeLine; decide), fun p3 n3 => ?_⟩
      have s3 := s2.new' n3 (o := .lst [V.str (Str.ofString "InvalidRow"), V.str (Str.ofString "InvalidMenu"), V.str (Str.ofString "InvalidThings"), V.str (Str.ofString "InvalidTaken"), V.str (Str.ofString "InvalidRankings"), V.str (Str.ofString "InvalidLooks")])
      have h3 : (upd H2 p3 (.lst [V.str (Str.ofString "InvalidRow"), V.str (Str.ofString "InvalidMenu"), V.str (Str.ofString "InvalidThings"), V.str (Str.ofString "InvalidTaken"), V.str (Str.ofString "InvalidRankings"), V.str (Str.ofString "InvalidLooks")])) p3 = some (.lst [V.str (Str.ofString "InvalidRow"), V.str (Str.ofString "InvalidMenu"), V.str (Str.ofString "InvalidThings"), V.str (Str.ofString "InvalidTaken"), V.str (Str.ofString "InvalidRankings"), V.str (Str.ofString "InvalidLooks")]) := upd_same
      change tSeq _ _ _ _ (upd H2 p3 (.lst [V.str (Str.ofString "InvalidRow"), V.str (Str.ofString "InvalidMenu"), V.str (Str.ofString "InvalidThings"), V.str (Str.ofString "InvalidTaken"), V.str (Str.ofString "InvalidRankings"), V.str (Str.ofString "InvalidLooks")]))
      generalize upd H2 p3 (.lst [V.str (Str.ofString "InvalidRow"), V.str (Str.ofString "InvalidMenu"), V.str (Str.ofString "InvalidThings"), V.str (Str.ofString "InvalidTaken"), V.str (Str.ofString "InvalidRankings"), V.str (Str.ofString "InvalidLooks")]) = H3 at s3 h3 ⊢
      refine ⟨_, rfl, _, rfl, (by show 3 ≤ sizeLine; decide), fun p4 n4 => ?_⟩
      have x4 : p3 ≠ p4 := ne_of_none h3 n4
      refine ⟨p3, p4, _, _, rfl, rfl, (by rw [upd_ne x4]; exact h3), upd_same, (by show 9 ≤ sizeLine; decide), fun p5 n5 => ⟨p5, _, rfl, .inl (lst_of upd_same), rfl, rfl, _, rfl, ifF (by decide +kernel) ?_⟩⟩
      have s5 := (s3.new' n4 (o := .lst [V.str (Str.ofString "InvalidTable"), V.str (Str.ofString "Clash"), V.str (Str.ofString "Broken")])).new' n5 (o := .lst ([V.str (Str.ofString "InvalidRow"), V.str (Str.ofString "InvalidMenu"), V.str (Str.ofString "InvalidThings"), V.str (Str.ofString "InvalidTaken"), V.str (Str.ofString "InvalidRankings"), V.str (Str.ofString "InvalidLooks")] ++ [V.str (Str.ofString "InvalidTable"), V.str (Str.ofString "Clash"), V.str (Str.ofString "Broken")]))
      exact ⟨_, rfl, a, T.E_InvalidText, fs, v, rfl, ex.same s5, T.ek_InvalidText, T.no_InvalidText_given, hv, k _ s5⟩
end
end MH
namespace MH
open PySem PySem.Spec PyProof.Rows L2
/-- what an error that is let out is to be -/
def ErrOut {K : PySem.W.Frag} {mg : Str → Option Value} (T : Tx K mg) (Q : VK) : XK := fun cls d H' => ∃ (C : Addr) (word f : Str) (dd : Addr) (fs : List (Str × V)) (v : V) (txt : Str), Kn T C word f ∧ cls = .ref C ∧ d = some dd ∧ H' dd = some (.xd fs) ∧ fs.lookup f = some v ∧ Shw K H' v txt ∧
  ∀ p H2, Same H' H2 → H' p = none → H2 p = some (.tup [.str word, .str txt]) → Q (.ref p) H2
def RetOut (Q : VK) : VK := fun v H' => ∃ v', (some (some v) : Option (Option V)) = some (some v') ∧ (2 ≤ sizeLine ∧ ∀ p, H' p = none → Q (.ref p) (upd H' p (.tup [.str "told", v'])))
theorem ret_out {Q : VK} {v : V} {H' : Hp} (h : ∀ p, H' p = none → Q (.ref p) (upd H' p (.tup [.str "told", v]))) : RetOut Q v H' := ⟨v, rfl, by decide, h⟩
def TTold {K : PySem.W.Frag} {mg : Str → Option Value} (T : Tx K mg) : (XK → Hp → VK → Prop) → Hp → VK → Prop := fun tl H Q => tl (ErrOut T Q) H (RetOut Q)
theorem told_ok {X : Cx} (T : Tx X.K X.mg) {q : Str} {cdg : Value} (hg : X.A.guards = some []) (hr : Room (8 + 1) X.A) :
    LamX.GivesTo X names_l_caught "_law_caught" (defScope st_l_caught) T.a_l_caught cdg (defBody st_l_caught) "_law_act" q (TTold T) := by
  intro f c' s H Q tl act hc h
  have hr1 : L2H.RoomH 8 (X.A.deeper (envOfC "_law_caught" (defScope st_l_caught) s.heap.objs.size T.a_l_caught cdg)) := L2H.roomH_of (hr.deeper _)
  refine ⟨_, pss_cons (ps_try_asK (X := (cxOf C8.CX0 X.prog X.w X.K X.mg X.base names_l_caught "_law_caught" (defScope st_l_caught) T.a_l_caught cdg X.A X.stack s H C8.E0).nox) (c1 := .ref T.E_WrongValue) (c2 := .ref T.E_WrongName) (c3 := .ref T.E_NoAnswer) (i := 2)
      (tb := fun W D σ H => ∃ Ech : XK, (∀ cls d σ' H', Ech cls d H' → W cls d σ' H') ∧ σ[0]? = some (some (.ref f)) ∧ H c' = some (LamX.CodeO c' q) ∧ tl Ech H (fun v H' => gName 1 v σ H' D.nx))
      rfl rfl rfl sc_l_caught.nd rfl rfl ⟨rfl, by decide, .inl T.g_WrongValue⟩ ⟨rfl, by decide, .inl T.g_WrongName⟩ ⟨rfl, by decide, .inl T.g_NoAnswer⟩ LamX.takes0 (fun W pn xe tk _ => ?_)
      (fun a pn => pss_cons (ps_set (i := 3) sc_l_caught.nd rfl (Or.inl rfl) (pe_callk (k_l_sort T) hg (L2H.RoomH.mono (j := 4) (k := 8) ⟨hr1.dp, hr1.un⟩ (by decide)) rfl T.g_l_sort T.F_l_sort.kp (pa_cons (pv 2) pa_nil)))
        (pss_one (ps_ret (pe_tup (pa_cons (pv 3) (pa_cons (pe_callB (r := rReprV X.K) (call_reprV hg (by have := hr1.un; show X.A.units + 3 + 64 < _; have e := this; have e2 : X.A.units + 3 + 16 * 8 + 200 < cLine := e; omega)) (by rfl) T.n_repr (by decide +kernel) (pa_cons (pe_callk (k_l_field T) hg (L2H.RoomH.mono (j := 4) (k := 8) ⟨hr1.dp, hr1.un⟩ (by decide)) rfl T.g_l_field T.F_l_field.kp (pa_cons (pv 3) (pa_cons (pv 2) pa_nil))) pa_nil)) pa_nil)))))))
      (pss_one (ps_ret (pe_tup (pa_cons pe_str (pa_cons (pv 1) pa_nil))))), ?_⟩
  · refine ⟨fun pins s' σ H' D I h' => ?_⟩
    obtain ⟨Ech, hW, h1, h2, h3⟩ := h'
    exact PSs.run (X := (cxOf C8.CX0 X.prog X.w X.K X.mg X.base names_l_caught "_law_caught" (defScope st_l_caught) T.a_l_caught cdg X.A X.stack s H C8.E0).tr pn xe) (pss_one (ps_set (i := 1) sc_l_caught.nd rfl (Or.inl rfl) (act W pn xe Ech _ _ tk hW))) pins s' σ H' D I ⟨h1, h2, h3⟩
  · refine ⟨ErrOut T Q, fun cls d σ' H' e => ?_, rfl, hc, h⟩
    obtain ⟨C, word, fl, dd, fs, v, txt, kn, rfl, rfl, hd, hv, hs, k⟩ := e
    refine ⟨true, ?_, fun _ => ⟨C, dd, rfl, rfl, fun a hl na => ?_⟩, nofun⟩
    · cases kn
      exact T.em_InvalidText
    · have hl4 : σ'.length = 4 := hl
      have g2 : (σ'.set 2 (some (.ref a)))[2]? = some (some (.ref a)) := List.getElem?_set_self (by omega)
      have s0 : Same H' (upd H' a (exk a C dd)) := Same.new na
      have ex : ExAt (upd H' a (exk a C dd)) a C fs := ⟨dd, upd_same, s0 _ _ hd⟩
      have hs0 := extN_shw (extN_of s0) hs
      generalize upd H' a (exk a C dd) = H1 at s0 ex hs0 ⊢
      refine ⟨_, g2, a, C, fs, word, fl, rfl, ex, kn, fun H2 s2 => ?_⟩
      have g3 : ((σ'.set 2 (some (.ref a))).set 3 (some (.str word)))[3]? = some (some (.str word)) := List.getElem?_set_self (by rw [List.length_set]; omega)
      have g4 : ((σ'.set 2 (some (.ref a))).set 3 (some (.str word)))[2]? = some (some (.ref a)) := by
        rw [List.getElem?_set_ne (by decide)]
        exact g2
      refine ⟨_, g3, _, g3, _, g4, a, C, fs, word, fl, v, rfl, ex.same s2, kn, hv, fun H3 s3 => ⟨v, txt, rfl, extN_shw (extN_of s3) (extN_shw (extN_of s2) hs0), (by show 2 ≤ sizeLine; decide), fun p np => ?_⟩⟩
      have s4 := (s0.trans s2).trans s3
      have np0 : H' p = none := by
        cases z : H' p with
        | none => rfl
        | some o =>
          rw [s4 _ _ z] at np
          cases np
      exact k p _ (s4.new' np) np0 upd_same
/-- told(lambda: ..) -/
theorem pe_told {X : Cx} {c P : Addr} {q : Str} {params : Arguments} {body : Expr} {scope : Scope} {t : XK → TE} {p lpos pos : Pos} (T : Tx X.K X.mg) (TB : LamX.TabB X.base X.mg c P) (hcode : X.env.code = .ref c) (hg : X.A.guards = some []) (hr : Room 9 X.A) (gl : Gl X "_law_caught")
    (hq : X.env.qual ++ "<lambda>" = q) (L : LamX.LamS X.env.scope scope) (hdef : defaultsOf params X.env = ([], []))
    (hbind : ∀ (q : Str) (cl : List (Str × Addr)) (pm cv ctv : Value), bindArgs (PySem.W.kla_fn "<lambda>" q params body scope cl pm cv ctv) ⟨[], []⟩ = pure [])
    (hbody : ∀ (A : Around) (outer : List Env) (s : Shared) (H : Hp) (E : XK) (f c' : Addr), Room 7 (A.deeper (LamX.lamEnv X scope s.heap.objs.size f c')) → PE (LamX.lamCx X A outer s H E scope f c') body (t E)) :
    PE X (.Call (.Name "_law_caught" p) [.Lambda params body scope lpos] [] pos) (LamX.tLam [(P, q)] (TTold T) t) := by
  subst hq
  obtain ⟨oc, od, kV, doc, pm, an, cdv, ct, osl, lk, hcg, hb⟩ := T.F_l_caught.shape T.b_l_caught
  exact LamX.pe_lamcall (k := 7) gl T.g_l_caught T.F_l_caught.kp lk hcg hb sc_l_caught rfl (Or.inl rfl) (told_ok T hg hr) TB hcode List.mem_cons_self (fun x hx _ => by rw [List.mem_singleton.mp hx]) hr L hdef hbind hbody
end MH
namespace MH
open PySem PySem.Spec PyProof.Rows L2
/-! ### texts read and read by the law -/
theorem strOk_of {x : Str} (h : ∀ c ∈ TL.tl x, c < 0x110000) : PyData.strOk x = true := by
  unfold PyData.strOk
  rw [← Array.all_toList, List.all_eq_true]
  exact fun c hc => decide_eq_true (h c hc)
theorem lt_of_strOk {x : Str} (h : PyData.strOk x = true) : ∀ c ∈ TL.tl x, c < 0x110000 := by
  unfold PyData.strOk at h
  rw [← Array.all_toList, List.all_eq_true] at h
  exact fun c hc => of_decide_eq_true (h c hc)
abbrev tabOf {K : PySem.W.Frag} {mg : Str → Option Value} (T : Tx K mg) (q0 : Str) : List (Addr × Str) := [(T.P_l_read_right, (q0 ++ ".<locals>.") ++ "<lambda>")]
theorem shw_z {K : PySem.W.Frag} {H : Hp} {z : Str} (hz : z.length ≤ 5000) (ok : OkC z) : Shw K H (.str z) (PyData.str z).shown :=
  .inl ⟨.str z, .str z, strOk_of ok, by simp only [PyData.depth]; decide, by show 10 * z.length + 2 ≤ 100000; omega, rfl⟩
theorem told_look {K : PySem.W.Frag} {mg : Str → Option Value} (T : Tx K mg) {q0 : Str} {tl : XK → Hp → VK → Prop} {H1 : Hp} {z : Str} {R : VK} (hz : z.length ≤ 5000) (ok : OkC z) (t1 : LamX.Tabs (tabOf T q0) H1)
    (hRD : ∀ (E : XK) (R' : VK), spLkReadX K T.C T.E_InvalidText [.ref T.C, .str z] H1 R' E → tl E H1 R')
    (hG : lookB z = true → ∀ p x m H2, LamX.ExtN H1 H2 → LamX.Tabs (tabOf T q0) H2 → H2 p = some (.tup [.str "told", .ref x]) → LkAt K T.C H2 x m (menuT z) (signsT z) → R (.ref p) H2)
    (hB : lookB z = false → ∀ p H2, LamX.ExtN H1 H2 → LamX.Tabs (tabOf T q0) H2 → H2 p = some (.tup [.str "InvalidText", .str (PyData.str z).shown]) → R (.ref p) H2) : TTold T tl H1 R := by
  refine hRD _ _ ⟨z, rfl, hz, fun b x m H2 s2 la => ?_, fun b dd H2 s2 nd hd => ?_⟩
  · refine ret_out fun p np => ?_
    have s4 := s2.new' np (o := .tup [.str "told", .ref x])
    exact hG b p x m _ (extN_of s4) (tabs_same t1 s4) upd_same (la.same (Same.new np))
  · refine ⟨T.E_InvalidText, "InvalidText", "given", dd, _, .str z, _, .text, rfl, rfl, hd, rfl, shw_z hz ok, fun p H3 s3 np hp => ?_⟩
    have s23 := s2.trans s3
    exact hB b p _ (extN_of s23) (tabs_same t1 s23) hp
theorem eqv_two (a b : Str) : PyData.eqv (.tuple [.str a, .str b]) (.tuple [.str a, .str b]) = true := by
  simp [PyData.eqv, PyData.eqvAll]
theorem cost_strs {n : Nat} : ∀ {ss : List Str}, (∀ z ∈ ss, z.length ≤ n) → costAll (ss.map PyData.str) ≤ ss.length * (10 * n + 4)
  | [], _ => Nat.zero_le _
  | z :: ss, h => by
    have h1 := h z List.mem_cons_self
    have h2 := cost_strs (ss := ss) fun y hy => h y (List.mem_cons_of_mem _ hy)
    show 10 * z.length + 2 + 2 + costAll (ss.map PyData.str) ≤ (ss.length + 1) * (10 * n + 4)
    rw [show (ss.length + 1) * (10 * n + 4) = ss.length * (10 * n + 4) + (10 * n + 4) from Nat.succ_mul _ _]
    omega
theorem sg_ok {sg : Str} {m : Nat} (h : marksB sg m = true) : PyData.strOk sg = true := by
  unfold PyData.strOk
  rw [← Array.all_toList, List.all_eq_true]
  intro c hc
  have := (marks_of h).ok c hc
  refine decide_eq_true ?_
  omega
def triD (xs : List Str) (y z : Str) : PyData := .list [.tuple (xs.map PyData.str), .str y, .str z]
theorem tri_show {K : PySem.W.Frag} {H : Hp} {L a : Addr} {xs : List Str} {y z : Str} (hL : SqL K H L [V.ref a, V.str y, V.str z]) (ha : SqT K H a (xs.map V.str)) (hx : ∀ z ∈ xs, nameOk z = true) (hy : PyData.strOk y = true) (hz : PyData.strOk z = true) (lx : xs.length ≤ 10) (ly : y.length ≤ 10) (lz : z.length ≤ 5000) : Shw K H (.ref L) (triD xs y z).shown := by
  have c1 := cost_strs (n := 8) (ss := xs) fun z hz => nameOk_len (hx z hz)
  refine .inl ⟨triD xs y z, .lst hL (.cons (.tup ha (dp_strs _)) (.cons (.str y) (.cons (.str z) .nil))), ?_, ?_, ?_, rfl⟩
  · show (okDs (xs.map PyData.str) && (PyData.strOk y && (PyData.strOk z && true))) = true
    rw [okDs_strs fun z hz => nameOk_str (hx z hz), hy, hz]
    rfl
  · simp only [triD, PyData.depth, PyData.depthAll, depth_strs]
    decide
  · show costAll (xs.map PyData.str) + 3 + 2 + (10 * y.length + 2 + 2 + (10 * z.length + 2 + 2 + 0)) + 3 ≤ 100000
    omega
theorem line_back {z : Str} (h : lookB z = true) : lineOf (menuT z) (signsT z) = z := by
  have bad := look_words h
  have ok1 : ∀ w ∈ wordsT z, 1 ≤ w.length := fun w hw => by
    have q := bad w hw
    unfold wordBad at q
    rw [Bool.or_eq_false_iff, decide_eq_false_iff_not] at q
    omega
  have sg := signs_of ok1
  have ml : (menuT z).length = (wordsT z).length := List.length_map _
  unfold lineOf
  have e : (List.range (menuT z).length).map (markAt (menuT z) (signsT z)) = wordsT z := by
    refine List.ext_getElem? fun i => ?_
    rw [List.getElem?_map]
    by_cases hi : i < (wordsT z).length
    · have hw : (wordsT z)[i]? = some ((wordsT z)[i]'hi) := List.getElem?_eq_getElem hi
      rw [List.getElem?_range (by omega), hw, Option.map_some]
      refine congrArg some ?_
      obtain ⟨y, e1, e2, e3, _⟩ := word_facts (ok1 _ (List.getElem_mem hi))
      unfold markAt
      have a1 : (menuT z).getD i "" = y := by
        rw [List.getD_eq_getElem?_getD]
        unfold menuT
        rw [List.getElem?_map, hw]
        exact e2
      have a2 : (signsT z).cps.toList.getD i 0 = lastC ((wordsT z)[i]'hi) := by
        rw [sg, List.getD_eq_getElem?_getD, List.getElem?_map, hw]
        rfl
      rw [a1, a2]
      exact e1.symm
    · rw [List.getElem?_eq_none (by rw [List.length_range]; omega), List.getElem?_eq_none (by omega)]
      rfl
  rw [e]
  exact splitB_join z
theorem sqt_ext {K : PySem.W.Frag} {H H' : Hp} {a : Addr} {xs : List V} (e : LamX.ExtN H H') (h : SqT K H a xs) : SqT K H' a xs := by
  rcases h with (h | ⟨o, h⟩) | h
  · exact .inl (.inl (e _ _ h fun _ q => nomatch q))
  · exact .inl (.inr ⟨o, e _ _ h fun _ q => nomatch q⟩)
  · exact .inr h
def spReadR {K : PySem.W.Frag} {mg : Str → Option Value} (T : Tx K mg) (q0 : Str) : Sp := fun vs H Q _ => ∃ z : Str, vs = [.str z] ∧ z.length ≤ 5000 ∧ OkC z ∧ LamX.Tabs (tabOf T q0) H ∧ ∀ H', LamX.ExtN H H' → LamX.Tabs (tabOf T q0) H' → Q (.bl true) H'
section
variable {P : Program} {w : World} {K : PySem.W.Frag} {mg : Str → Option Value} {base : Heap}
theorem g_l_read_right_q (T : Tx K mg) (TB : LamX.TabB base mg T.c_l_read_right T.P_l_read_right) {q0 : Str} (M0 : MkFn K q0 st_l_read_right T.a_l_read_right T.c_l_read_right ["_law_said"]) : FnG P w K mg base 10 T.a_l_read_right (spReadR T q0) := by
  refine fun_m M0 sc_l_read_right (fun vs H Q E h => ?_) (fun A fr s H vs Q hg hr h => ?_)
  · obtain ⟨z, rfl, _⟩ := h
    rfl
  · obtain ⟨z, rfl, hz, ok, tb, k⟩ := h
    refine ⟨_, (pss_cons (ps_par (i := 1) (j := 2) rfl sc_l_read_right.nd rfl rfl (by decide) rfl rfl (pa_cons (pe_call (ok_l_read T) (hr.mono (by decide)) rfl T.g_l_read T.F_l_read.kp T.b_l_read .nil pass0 (pa_cons (pv 0) pa_nil)) (pa_cons (pe_told T TB rfl hg (hr.mono (by decide)) rfl rfl (LamX.lamS_by (show LamX.lamSB (defScope st_l_read_right) _ = true by decide +kernel)) rfl (fun _ _ _ _ _ => rfl) (fun A outer s H E f c' hr => (ClX.pe_cmeth (pe_glob (v := .ref T.C) rfl T.g_Look rfl) T.crd T.cm_Look_read (FnOk.toR (ok_Look_read T) T.b_Look_read) (hr.mono (by decide)) (passX rfl rfl rfl rfl) (pa_cons (pv 0) pa_nil)))) pa_nil)) (by rfl))
      (pss_cons (ps_if (pt_cmpR op_isN (pv 1) pe_non (nomark _))
        (pss_one (ps_ret (pe_cmpR (op_eqD hr.units) (pv 2) (pe_tup (pa_cons pe_str (pa_cons (pe_callB (call_reprV hg hr.units) (by rfl) T.n_repr (by decide +kernel) (pa_cons (pv 0) pa_nil)) pa_nil))) (nomark _))))
        pss_nil)
      (pss_cons (ps_if (PW.pt (pw_or (pt_cmpR op_ne (pe_ix ix_tup (pv 2) pe_int (fun _ _ => rfl)) pe_str (nomark _)) (pw_or1 (pt_not (pt_val (pe_callB call_isi (by rfl) T.n_isinstance (by decide +kernel) (pa_cons (pe_ix ix_tup (pv 2) pe_int (fun _ _ => rfl)) (pa_cons (pe_glob (v := .ref T.C) rfl T.g_Look rfl) pa_nil))))))))
        (pss_one (ps_ret pe_bl))
        pss_nil)
      (pss_one (ps_ret (pe_cmpR op_eq (pe_callB (call_reprV hg hr.units) (by rfl) T.n_repr (by decide +kernel) (pa_cons (pe_lst (pa_cons (pe_fld (pe_ix ix_tup (pv 2) pe_int (fun _ _ => rfl)) rfl) (pa_cons (pe_prop (pe_ix ix_tup (pv 2) pe_int (fun _ _ => rfl)) T.cl T.p_marks (ok_Look_marks T) (hr.mono (by decide)) T.b_Look_marks .nil pass0 (by rfl)) (pa_cons (pe_callTy (call_strO T.m_LookD_strD (ok_LookD_strD T) (hr.mono (by decide)) T.b_LookD_strD pass0) (by rfl) T.n_str (by decide +kernel) (pa_cons (pe_ix ix_tup (pv 2) pe_int (fun _ _ => rfl)) pa_nil)) pa_nil)))) pa_nil)) (pe_callB (call_reprV hg hr.units) (by rfl) T.n_repr (by decide +kernel) (pa_cons (pe_lst (pa_cons (pe_ix ix_tup (pv 1) pe_int (fun _ _ => rfl)) (pa_cons (pe_ix ix_tup (pv 1) pe_int (fun _ _ => rfl)) (pa_cons (pv 0) pa_nil)))) pa_nil)) (nomark _))))))), ?_⟩
    refine ⟨_, rfl, z, rfl, hz, fun gd p a H1 s1 hp ha => ?_, fun bd H1 s1 => ?_⟩
    · refine ⟨tabs_same tb s1, fun H2 e2 t2 => told_look T hz ok t2 (fun E R' h => ⟨rfl, _, rfl, h⟩) (fun _ p2 x m H3 e3 t3 hp2 la => ?_) (fun bd => by rw [gd] at bd; cases bd)⟩
      refine ⟨_, _, rfl, ?_⟩
      refine ⟨_, rfl, rfl, _, rfl, ifF (decide_eq_false (fun q => nomatch q)) ?_⟩
      refine ⟨_, rfl, p2, _, 0, V.str "told", rfl, rfl, tup_of hp2, atI_nat (j := 0) rfl, rfl, _, rfl, ifF (by decide +kernel) ?_⟩
      obtain ⟨dx, hx, hM, mo, mk⟩ := id la
      refine ⟨_, rfl, p2, _, 1, V.ref x, rfl, rfl, tup_of hp2, atI_nat (j := 1) rfl, _, _, _, _, true, rfl, .own _, T.ty hx, (by unfold PySem.W.kitOne; rw [if_pos (beq_self_eq_true _)]), true, rfl, iteF ?_⟩
      refine ⟨_, rfl, p2, _, 1, V.ref x, rfl, rfl, tup_of hp2, atI_nat (j := 1) rfl, x, T.C, dx, _, _, rfl, hx, T.cl, T.no_menu, lk_menu m _, ?_⟩
      refine ⟨_, rfl, p2, _, 1, V.ref x, rfl, rfl, tup_of hp2, atI_nat (j := 1) rfl, x, dx, _, rfl, hx, x, m, _, _, rfl, la, ?_⟩
      refine ⟨_, rfl, p2, _, 1, V.ref x, rfl, rfl, tup_of hp2, atI_nat (j := 1) rfl, x, dx, _, rfl, hx, x, m, _, _, rfl, la, fun H4 s4 => ⟨⟨_, rfl⟩, ?_⟩⟩
      rw [line_back gd]
      refine ⟨(by show 3 ≤ sizeLine; decide), fun L nL => ?_⟩
      have sL := Same.new nL (o := .lst [V.ref m, V.str (signsT z), V.str z])
      have zok : PyData.strOk z = true := strOk_of ok
      have gok := sg_ok mk
      have sl10 : (signsT z).length ≤ 10 := by
        have h1 := (marks_of mk).len
        have h2 := mo.le
        have h3 : (signsT z).cps.toList.length = (signsT z).length := rfl
        omega
      refine ⟨_, _, rfl, tri_show (lst_of upd_same) ((s4.trans sL).sqt hM) mo.ok gok zok mo.le sl10 hz, ?_⟩
      have eA := e2.trans (e3.trans ((extN_of s4).trans (extN_of sL)))
      generalize upd H4 L (.lst [V.ref m, V.str (signsT z), V.str z]) = H5 at sL eA ⊢
      have hpA := sqt_ext eA hp
      refine ⟨_, rfl, p, _, 0, V.ref a, rfl, rfl, hpA, atI_nat (j := 0) rfl, _, rfl, p, _, 1, V.str (signsT z), rfl, rfl, hpA, atI_nat (j := 1) rfl, _, rfl, (by show 3 ≤ sizeLine; decide), fun L2 nL2 => ?_⟩
      have sL2 := Same.new nL2 (o := .lst [V.ref a, V.str (signsT z), V.str z])
      refine ⟨_, _, rfl, tri_show (lst_of upd_same) (sL2.sqt (sqt_ext eA ha)) mo.ok gok zok mo.le sl10 hz, rfl, ?_⟩
      rw [decide_eq_true rfl]
      exact k _ ((extN_of s1).trans (eA.trans (extN_of sL2))) (tabs_same (tabs_same (tabs_same t3 s4) sL) sL2)
    · refine ⟨tabs_same tb s1, fun H2 e2 t2 => told_look T hz ok t2 (fun E R' h => ⟨rfl, _, rfl, h⟩) (fun gd => by rw [bd] at gd; cases gd) (fun _ p2 H3 e3 t3 hp2 => ?_)⟩
      refine ⟨_, _, rfl, ?_⟩
      refine ⟨_, rfl, rfl, _, rfl, ifT (decide_eq_true rfl) ?_⟩
      have sg : PyData.strOk (PyData.str z).shown = true := sg_iff.mpr (shw_z (K := K) (H := H) hz ok).sg
      have sh : SeqAt.shaped (.tuple [.str "InvalidText", .str (PyData.str z).shown]) = true := shaped_of (d := .tuple [.str "InvalidText", .str (PyData.str z).shown]) (okDs_strs (ss := ["InvalidText", (PyData.str z).shown]) fun y hy => by
        rcases List.mem_cons.mp hy with rfl | hy
        · decide +kernel
        · rw [List.mem_singleton.mp hy]
          exact sg) (by simp only [PyData.depth, PyData.depthAll]; decide)
      refine ⟨_, rfl, _, rfl, .str z, _, rfl, shw_z hz ok, (by show 2 ≤ sizeLine; decide), fun q nq => ?_⟩
      have sq := Same.new nq (o := .tup [.str "InvalidText", .str (PyData.str z).shown])
      refine ⟨.tuple [.str "InvalidText", .str (PyData.str z).shown], .tuple [.str "InvalidText", .str (PyData.str z).shown], .tup (tup_of (sq _ _ hp2)) (.cons (.str _) (.cons (.str _) .nil)), .tup (tup_of upd_same) (.cons (.str _) (.cons (.str _) .nil)), sh, sh, ?_⟩
      rw [eqv_two]
      exact k _ ((extN_of s1).trans (e2.trans (e3.trans (extN_of sq)))) (tabs_same t3 sq)
theorem g_l_read_right (T : Tx K mg) (TB : LamX.TabB base mg T.c_l_read_right T.P_l_read_right) : FnG P w K mg base 10 T.a_l_read_right (spReadR T "_law_read_right") := g_l_read_right_q T TB T.M_l_read_right
end
end MH
namespace MH
open PySem PySem.Spec PyProof.Rows L2
/-- all but the purse and the tables of code stand -/
def SameT (p : Addr) (H H' : Hp) : Prop := ∀ b o, b ≠ p → H b = some o → (∀ ps, o ≠ .tbl ps) → H' b = some o
theorem SameT.refl (p : Addr) (H : Hp) : SameT p H H := fun _ _ _ e _ => e
theorem SameT.trans {p : Addr} {H H1 H2 : Hp} (a : SameT p H H1) (b : SameT p H1 H2) : SameT p H H2 := fun c o n e t => b c o n (a c o n e t) t
theorem SameT.of {p : Addr} {H H' : Hp} (s : SameB p H H') : SameT p H H' := fun b o n e _ => s b o n e
theorem SameT.ofN {p : Addr} {H H' : Hp} (s : LamX.ExtN H H') : SameT p H H' := fun b o _ e t => s b o e t
theorem tabs_ur {TT : List (Addr × Str)} {H H' : Hp} {p : Addr} {n : Nat} (t : LamX.Tabs TT H) (u : Ur H p n) (s : SameB p H H') : LamX.Tabs TT H' := by
  obtain ⟨x, y, z, hp, _⟩ := u
  exact tabs_but t hp (fun _ z => nomatch z) (fun _ _ z => nomatch z) s
def spRight {K : PySem.W.Frag} {mg : Str → Option Value} (T : Tx K mg) (q0 : Str) : Sp := fun vs H Q _ => ∃ p : Addr, vs = [.ref p] ∧ Ur H p 0 ∧ LamX.Tabs (tabOf T q0) H ∧ ∀ H', SameT p H H' → LamX.Tabs (tabOf T q0) H' → Q (.bl true) H'
theorem line_le {ms : List Str} {sg : Str} (mo : MenuN ms) : (lineOf ms sg).length ≤ 200 := by
  have e : lineOf ms sg = Str.join " " ((List.range ms.length).map (markAt ms sg)) := TL.join_eq " " _
  have a := PySem.StrLaws.join_length_le " " ((List.range ms.length).map (markAt ms sg))
  have q := sum_le (n := 9) ((List.range ms.length).map (markAt ms sg)) fun z hz => by
    obtain ⟨i, hi, rfl⟩ := List.mem_map.mp hz
    have hi := List.mem_range.mp hi
    unfold markAt
    rw [len_app1, List.getD_eq_getElem?_getD, List.getElem?_eq_getElem hi]
    have := nameOk_len (mo.ok _ (List.getElem_mem hi))
    show (ms[i]).length + 1 ≤ 9
    omega
  have le := mo.le
  rw [List.length_map, List.length_range] at q a
  have e1 : (" " : Str).length = 1 := by decide +kernel
  rw [e1] at a
  rw [e]
  omega
theorem line_okC {ms : List Str} {sg : Str} (mo : MenuN ms) (mk : marksB sg ms.length = true) : OkC (lineOf ms sg) := join_okC fun y hy => by
  obtain ⟨i, hi, rfl⟩ := List.mem_map.mp hy
  have hi := List.mem_range.mp hi
  have mk' := marks_of mk
  have l := mk'.len
  have a : OkC (ms.getD i "") := by
    rw [List.getD_eq_getElem?_getD, List.getElem?_eq_getElem hi]
    exact lt_of_strOk (nameOk_str (mo.ok _ (List.getElem_mem hi)))
  refine OkC.app a fun c hc => ?_
  have e : sg.cps.toList.getD i 0 = sg.cps.toList[i]'(by omega) := by
    rw [List.getD_eq_getElem?_getD, List.getElem?_eq_getElem (by omega)]
    rfl
  have hc : c = sg.cps.toList.getD i 0 := by simpa using hc
  have := mk'.ok _ (List.getElem_mem (by omega : i < sg.cps.toList.length))
  rw [hc, e]
  omega
section
variable {P : Program} {w : World} {K : PySem.W.Frag} {mg : Str → Option Value} {base : Heap}
theorem g_l_right (T : Tx K mg) (TB : LamX.TabB base mg T.c_l_read_right T.P_l_read_right) : FnG P w K mg base 11 T.a_l_right (spRight T "_law_read_right") := by
  refine fun_g T.F_l_right sc_l_right T.b_l_right (fun vs H Q E h => ?_) (fun cdv A fr s H vs Q hg hr h => ?_)
  · obtain ⟨p, rfl, _⟩ := h
    rfl
  · obtain ⟨p, rfl, ur, tb, k⟩ := h
    refine ⟨_, (pss_cons (ps_set (i := 1) sc_l_right.nd rfl (Or.inl rfl) (pe_op op_add pe_int (pe_call (ok_l_draw T) (hr.mono (by decide)) rfl T.g_l_draw T.F_l_draw.kp T.b_l_draw .nil pass0 (pa_cons (pv 0) (pa_cons pe_int pa_nil)))))
      (pss_cons (ps_set (i := 2) sc_l_right.nd rfl (Or.inl rfl) (pe_call (ok_l_names T) (hr.mono (by decide)) rfl T.g_l_names T.F_l_names.kp T.b_l_names .nil pass0 (pa_cons (pv 0) (pa_cons (pv 1) pa_nil))))
      (pss_cons (ps_set (i := 3) sc_l_right.nd rfl (Or.inl rfl) (pe_call (ok_l_text T) (hr.mono (by decide)) rfl T.g_l_text T.F_l_text.kp T.b_l_text .nil pass0 (pa_cons (pe_tup (pa_cons (pv 2) (pa_cons (pe_call (ok_l_marks T) (hr.mono (by decide)) rfl T.g_l_marks T.F_l_marks.kp T.b_l_marks .nil pass0 (pa_cons (pv 0) (pa_cons (pv 1) pa_nil))) pa_nil))) pa_nil)))
      (pss_cons (ps_par (i := 4) (j := 5) rfl sc_l_right.nd rfl rfl (by decide) rfl rfl (pa_cons (pv 3) (pa_cons (pe_lst (pa_cons (pv 3) pa_nil)) pa_nil)) (by rfl))
      (pss_cons (ps_for PassesOwn.never rfl (pi_range1 (by rfl) T.n_range (pa_cons (pe_op op_add pe_int (pe_call (ok_l_draw T) (hr.mono (by decide)) rfl T.g_l_draw T.F_l_draw.kp T.b_l_draw .nil pass0 (pa_cons (pv 0) (pa_cons pe_int pa_nil)))) pa_nil)) (pg_name (i := 6) sc_l_right.nd rfl (Or.inl rfl))
        (pss_cons (ps_set (i := 4) sc_l_right.nd rfl (Or.inl rfl) (pe_call (ok_l_turned T) (hr.mono (by decide)) rfl T.g_l_turned T.F_l_turned.kp T.b_l_turned .nil pass0 (pa_cons (pv 0) (pa_cons (pv 4) pa_nil))))
      (pss_one (ps_expr (pe_bm PySem.F.plainAttrs_list PySem.F.slot_list_append PySem.F.type_list_append mt_append (pv 5) (pa_cons (pv 4) pa_nil))))))
      (pss_one (ps_ret (pe_callB (cr_all rfl) (by rfl) T.n_all (by decide +kernel) (pa_cons (pe_lc (own := [("_law_text_here", 7)]) (g := gName 7) (tt := tYes) rfl sc_l_right.nd (pi_list (pe_op op_cat (pe_op op_cat (pv 5) (pe_lst (pa_cons (pv 3) pa_nil))) (pe_revL (pv 5)))) (blkOk_by (own := [("_law_text_here", 7)]) (N := names_l_right) (sc := defScope st_l_right) (by decide +kernel)) (fun _ _ _ _ _ => pg_name (i := 7) sc_l_right.nd rfl (Or.inl rfl)) (fun _ _ _ _ _ => pts_nil) (fun _ _ _ _ _ => (pe_callg (g_l_read_right T TB) hg (hr.mono (by decide)) rfl T.g_l_read_right T.F_l_read_right.kp (pa_cons (pv 7) pa_nil)))) pa_nil))))))))), ?_⟩
    refine ⟨_, rfl, p, 10, 0, rfl, ur, by decide, by decide, by decide, fun d H1 d0 d1 sb1 ur1 => ⟨_, _, rfl, rfl, ?_⟩⟩
    obtain ⟨j, rfl⟩ := Int.eq_ofNat_of_zero_le d0
    have ej : (1 : Int) + (j : Int) = ((1 + j : Nat) : Int) := by omega
    refine ⟨_, rfl, _, rfl, p, 1 + j, 1, by rw [← ej]; rfl, ur1, by decide, by omega, fun ms t H2 nd so ok lms sb2 ur2 hT => ?_⟩
    have mo : MenuN ms := ⟨fun e => by rw [e] at lms; simp at lms; omega, by omega, ok, sorted_lt nd so⟩
    refine ⟨_, rfl, _, rfl, _, rfl, p, ms.length, 301, by rw [lms, ← ej]; rfl, ur2, by decide, by omega, by omega, fun cs H3 mk' sb3 ur3 => ?_⟩
    have mk := marks_ok mk'
    have hT3 := ur2.sqt sb3 hT
    generalize esg : (⟨cs.toArray⟩ : Str) = sg at mk ⊢
    have lsg := (marks_of mk).len
    have hz8 : ∀ z ∈ ms, z.length ≤ 100 := fun z hz => Nat.le_trans (nameOk_len (ok z hz)) (by decide)
    have sb03 := sb1.trans (sb2.trans sb3)
    refine ⟨(by show 2 ≤ sizeLine; decide), fun q nq => ⟨q, t, ms, sg, rfl, tup_of upd_same, (Same.new nq).sqt hT3, by omega, lsg, hz8, fun H5 s5 => ?_⟩⟩
    have s35 := (Same.new nq (o := .tup [.ref t, .str sg])).trans s5
    have sb05 := sb03.trans (SameB.of s35)
    have ur5 := ur3.same s35
    have lz := line_le (sg := sg) mo
    have okz := line_okC mo mk
    generalize lineOf ms sg = z at lz okz ⊢
    refine ⟨_, rfl, _, rfl, (by show 1 ≤ sizeLine; decide), fun L nL => ⟨_, _, rfl, ?_⟩⟩
    have nLp : L ≠ p := ur5.ne nL
    have hL0 : H L = none := by
      cases q : H L with
      | none => rfl
      | some o =>
        rw [sb05 _ _ nLp q] at nL
        cases nL
    have sL := Same.new nL (o := .lst [V.str z])
    have urL := ur5.same sL
    have eL : upd H5 L (.lst [V.str z]) L = some (.lst [V.str z]) := upd_same
    have sbL : SameB p H (upd H5 L (.lst [V.str z])) := sb05.trans (SameB.of sL)
    generalize upd H5 L (.lst [V.str z]) = H6 at urL eL sbL ⊢
    refine ⟨_, rfl, p, 3, 321, rfl, urL, by decide, by decide, by decide, fun e H7 e0 e1 sb7 ur7 => ⟨_, _, rfl, rfl, ?_⟩⟩
    have eL7 := sb7 _ _ nLp eL
    have sb07 := sbL.trans sb7
    refine ⟨_, rfl, by omega, by omega, for_range (lo := 0) (n := ((1 : Int) + e).toNat) (fun i σ H' => ∃ (v1 v6 : Option V) (y : Str) (ys : List Str), σ = [some (.ref p), v1, some (.ref t), some (.str z), some (.str y), some (.ref L), v6, none] ∧ SameB p H H' ∧ Ur H' p (322 + 10 * i) ∧ H' L = some (.lst (ys.map V.str)) ∧ ys.length = i + 1 ∧ (∀ x ∈ ys, x.length ≤ 2000 ∧ OkC x) ∧ y.length + 2 ≤ 2 ^ i * 202 ∧ OkC y)
      ⟨_, _, z, [z], rfl, sb07, ur7, eL7, rfl, fun x hx => by rw [List.mem_singleton.mp hx]; exact ⟨by omega, okz⟩, by omega, okz⟩ ?_ ?_⟩
    · rintro i σ H8 hi ⟨v1, v6, y, ys, rfl, sb8, ur8, eL8, lys, oks, ly, oky⟩
      have i3 : i < 3 := by omega
      have ly2 : y.length ≤ 2000 := by
        rcases i with _ | _ | _ | i
        · omega
        · omega
        · omega
        · omega
      refine ⟨_, rfl, _, rfl, p, 322 + 10 * i, y, rfl, ur8, by omega, ly2, oky, fun y2 H9 l2 ok2 sb9 ur9 => ?_⟩
      have eL9 := sb9 _ _ nLp eL8
      have ly3 : y2.length + 2 ≤ 2 ^ (i + 1) * 202 := by
        rw [Nat.pow_succ]
        omega
      have lm : (ys.map V.str).length = ys.length := List.length_map _
      refine ⟨_, rfl, .inl ⟨rfl, _, lst_of eL9⟩, _, rfl, L, _, _, rfl, rfl, eL9, lt_line (by rw [lm]; omega), ?_⟩
      refine ⟨_, _, y2, ys ++ [y2], rfl, fun b o nb e => ?_, (ur9.put eL9 fun a b c q => ?_).mono (by omega), by rw [upd_same, List.map_append]; rfl, by rw [List.length_append, lys]; rfl, fun x hx => ?_, ly3, ok2⟩
      · have nbL : b ≠ L := fun q => by
          rw [q, hL0] at e
          cases e
        rw [upd_ne nbL]
        exact sb9 _ _ nb (sb8 _ _ nb e)
      · have q := HO.lst.inj q
        cases ys with
        | nil => cases q
        | cons y ys => cases q
      · rcases List.mem_append.mp hx with hx | hx
        · exact oks x hx
        · rw [List.mem_singleton.mp hx]
          refine ⟨?_, ok2⟩
          rcases i with _ | _ | _ | i
          · omega
          · omega
          · omega
          · omega
    · rintro σ H8 ⟨v1, v6, y, ys, rfl, sb8, ur8, eL8, lys, oks, ly, oky⟩
      have lm : (ys.map V.str).length = ys.length := List.length_map _
      have l4 : ys.length ≤ 4 := by omega
      have tb8 := tabs_ur tb ur sb8
      refine ⟨_, rfl, _, rfl, (by show 1 ≤ sizeLine; decide), fun L1 nL1 => ?_⟩
      have s1 := Same.new nL1 (o := .lst [V.str z])
      have f1 : upd H8 L1 (.lst [V.str z]) L1 = some (.lst [V.str z]) := upd_same
      generalize upd H8 L1 (.lst [V.str z]) = G1 at s1 f1 ⊢
      refine ⟨L, L1, _, _, rfl, rfl, s1 _ _ eL8, f1, le_line (by rw [lm]; show _ + 1 ≤ _; omega), fun C1 nC1 => ?_⟩
      have s2 := Same.new nC1 (o := .lst (ys.map V.str ++ [V.str z]))
      have f2 : upd G1 C1 (.lst (ys.map V.str ++ [V.str z])) C1 = some (.lst (ys.map V.str ++ [V.str z])) := upd_same
      generalize upd G1 C1 (.lst (ys.map V.str ++ [V.str z])) = G2 at s2 f2 ⊢
      refine ⟨_, rfl, L, _, rfl, lst_of (s2 _ _ (s1 _ _ eL8)), fun R nR => ?_⟩
      have s3 := Same.new nR (o := .lst ((ys.map V.str).reverse))
      have f3 : upd G2 R (.lst ((ys.map V.str).reverse)) R = some (.lst ((ys.map V.str).reverse)) := upd_same
      generalize upd G2 R (.lst ((ys.map V.str).reverse)) = G3 at s3 f3 ⊢
      refine ⟨C1, R, _, _, rfl, rfl, s3 _ _ f2, f3, le_line (by rw [List.length_append, List.length_reverse, lm]; show _ + 1 + _ ≤ _; omega), fun C2 nC2 => ?_⟩
      have s4 := Same.new nC2 (o := .lst ((ys.map V.str ++ [V.str z]) ++ (ys.map V.str).reverse))
      have ez : (ys.map V.str ++ [V.str z]) ++ (ys.map V.str).reverse = ((ys ++ [z]) ++ ys.reverse).map V.str := by
        rw [List.map_append, List.map_append, List.map_reverse]
        rfl
      have okA : ∀ x ∈ (ys ++ [z]) ++ ys.reverse, x.length ≤ 2000 ∧ OkC x := fun x hx => by
        rcases List.mem_append.mp hx with hx | hx
        · rcases List.mem_append.mp hx with hx | hx
          · exact oks x hx
          · rw [List.mem_singleton.mp hx]
            exact ⟨by omega, okz⟩
        · exact oks x (List.mem_reverse.mp hx)
      have lA : ((ys ++ [z]) ++ ys.reverse).length ≤ 9 := by
        rw [List.length_append, List.length_append, List.length_reverse]
        show _ + 1 + _ ≤ _
        omega
      rw [ez] at s4 ⊢
      generalize (ys ++ [z]) ++ ys.reverse = zs at s4 okA lA ⊢
      have f4 : upd G3 C2 (.lst (zs.map V.str)) C2 = some (.lst (zs.map V.str)) := upd_same
      have s14 := s1.trans (s2.trans (s3.trans s4))
      have tb4 := tabs_same tb8 s14
      generalize upd G3 C2 (.lst (zs.map V.str)) = G4 at f4 s14 tb4 ⊢
      have lzm : (zs.map V.str).length = zs.length := List.length_map _
      refine ⟨C2, rfl, ⟨_, lst_of f4⟩, fun D nD => lc_list (K := K) (a := C2) (xs := zs.map V.str) (fun i H' => LamX.ExtN G4 H' ∧ LamX.Tabs (tabOf T "_law_read_right") H' ∧ H' D = some (.lst (List.replicate i (V.bl true)))) ⟨extN_new nD, tabs_same tb4 (Same.new nD), upd_same⟩ (fun i H' _ h => lst_of (h.1 _ _ f4 fun _ q => nomatch q)) ?_ ?_⟩
      · rintro i x G5 hx ⟨e5, t5, g5⟩
        obtain ⟨a, ha, rfl⟩ := str_at hx
        obtain ⟨la, oa⟩ := okA a (List.mem_of_getElem? ha)
        have hi : i < zs.length := (List.getElem?_eq_some_iff.mp ha).1
        refine ⟨rfl, _, rfl, a, rfl, by omega, oa, t5, fun G6 e6 t6 => ?_⟩
        have g6 := e6 _ _ g5 fun _ q => nomatch q
        refine ⟨_, g6, lt_line (by rw [List.length_replicate]; omega), fun b o e ht => ?_, ?_, ?_⟩
        · rw [upd_ne (ne_of_none e nD)]
          exact e6 _ _ (e5 _ _ e ht) ht
        · exact tabs_but t6 g6 (fun _ z => nomatch z) (fun _ _ z => nomatch z) fun b o n e => by rw [upd_ne n]; exact e
        · rw [upd_same, List.replicate_succ']
      · rintro G5 ⟨e5, t5, g5⟩
        refine ⟨D, List.replicate _ true, rfl, lst_of (by rw [g5, List.map_replicate]), ?_⟩
        have e : ∀ n : Nat, (List.replicate n true).all id = true := fun n => List.all_eq_true.mpr fun b hb => List.eq_of_mem_replicate hb
        rw [e]
        exact k _ ((SameT.of sb8).trans ((SameT.ofN (extN_of s14)).trans (SameT.ofN e5))) t5
end
end MH
namespace MH
open PySem PySem.Spec PyProof.Rows L2
def spLaw (P0 : Addr) (K : PySem.W.Frag) : Sp := fun vs H Q _ => ∃ (a : Addr) (ns : List Int), vs = [.ref a] ∧ SqL K H a (ns.map V.int) ∧ ns.length ≤ 63 ∧ LamX.Tabs [(P0, (("_law_read_right" : Str) ++ ".<locals>.") ++ "<lambda>")] H ∧ ∀ H', Q (.bl true) H'
section
variable {P : Program} {w : World} {K : PySem.W.Frag} {mg : Str → Option Value} {base : Heap}
theorem g_law (T : Tx K mg) (TB : LamX.TabB base mg T.c_l_read_right T.P_l_read_right) : FnG P w K mg base 12 T.a_law (spLaw T.P_l_read_right K) := by
  refine fun_g T.F_law sc_law T.b_law (fun vs H Q E h => ?_) (fun cdv A fr s H vs Q hg hr h => ?_)
  · obtain ⟨a, ns, rfl, _⟩ := h
    rfl
  · obtain ⟨a, ns, rfl, hS, hlen, tb, k⟩ := h
    refine ⟨_, (pss_one (ps_ret (pe_callB (cr_all rfl) (by rfl) T.n_all (by decide +kernel) (pa_cons (pe_lc (own := [("_law_k", 1)]) (g := gName 1) (tt := tYes) rfl sc_law.nd (pi_range1 (by rfl) T.n_range (pa_cons (pe_callB (call_max2 rfl) (by rfl) T.n_max (by decide +kernel) (pa_cons pe_int (pa_cons (pe_callB (call_min2 rfl) (by rfl) T.n_min (by decide +kernel) (pa_cons (pe_callB call_len_seq (by rfl) T.n_len (by decide +kernel) (pa_cons (pv 0) pa_nil)) (pa_cons pe_int pa_nil))) pa_nil))) pa_nil)) (blkOk_by (own := [("_law_k", 1)]) (N := names_law) (sc := defScope st_law) (by decide +kernel)) (fun _ _ _ _ _ => pg_name (i := 1) sc_law.nd rfl (Or.inl rfl)) (fun _ _ _ _ _ => pts_nil) (fun _ _ _ _ _ => (pe_callg (g_l_right T TB) hg (hr.mono (by decide)) rfl T.g_l_right T.F_l_right.kp (pa_cons (pe_call (ok_l_urn T) (hr.mono (by decide)) rfl T.g_l_urn T.F_l_urn.kp T.b_l_urn .nil pass0 (pa_cons (pv 0) (pa_cons (pv 1) pa_nil))) pa_nil)))) pa_nil)))), ?_⟩
    have hl : (ns.map V.int).length = ns.length := List.length_map _
    refine ⟨_, rfl, a, _, rfl, .inl hS, _, _, rfl, _, _, rfl, _, rfl, ?_, ?_, fun D nD => lc_range (lo := 0) (n := _) (fun i H' => LamX.ExtN H H' ∧ LamX.Tabs (tabOf T "_law_read_right") H' ∧ H' D = some (.lst (List.replicate i (V.bl true)))) ⟨extN_new nD, tabs_same tb (Same.new nD), upd_same⟩ ?_ ?_⟩
    · omega
    · omega
    · rintro i H1 hi ⟨s1, t1, e1⟩
      have hi : i < 100 := by omega
      refine ⟨rfl, ?_⟩
      rw [show (0 : Int) + (i : Int) = ((i : Nat) : Int) from Int.zero_add _]
      refine ⟨_, rfl, _, rfl, a, ns, i, rfl, extN_sql s1 hS, hlen, by omega, fun H2 p s2 np pu => ⟨p, rfl, pu, tabs_same t1 s2, fun H3 sb t3 => ?_⟩⟩
      have nDp : D ≠ p := fun e => by
        rw [e, np] at e1
        cases e1
      have e3 := sb _ _ nDp (s2 _ _ e1) (fun _ z => nomatch z)
      refine ⟨_, e3, lt_line (by rw [List.length_replicate]; omega), fun b o e ht => ?_, ?_, ?_⟩
      · rw [upd_ne (ne_of_none e nD)]
        have h1 := s1 _ _ e ht
        exact sb _ _ (ne_of_none h1 np) (s2 _ _ h1) ht
      · exact tabs_but t3 e3 (fun _ z => nomatch z) (fun _ _ z => nomatch z) fun b o n e => by rw [upd_ne n]; exact e
      · rw [upd_same, List.replicate_succ']
    · rintro H1 ⟨s1, t1, e1⟩
      refine ⟨D, List.replicate _ true, rfl, lst_of (by rw [e1, List.map_replicate]), ?_⟩
      have e : ∀ n : Nat, (List.replicate n true).all id = true := fun n => List.all_eq_true.mpr fun b hb => List.eq_of_mem_replicate hb
      rw [e]
      exact k _
end
theorem walk0 {l : PySem.W.OpenLaw} {q : Program} {loose : List Str} {XP : (Str → Option Value) → Heap → Prop} {as : List Addr} {K : Params → PySem.W.Frag} {e : ∀ P, as = (K P).map (·.1)} {ts : List Addr} {d : DefRec}
    (hn : l.most = some 63) (hdf : d.params.defaults = []) (hd : d.name = "law")
    (F : ∀ (w : World) (mg : Str → Option Value) (fa : Addr) (h : Heap), (K w.params).In h → h.Ns mainGlobals mg → mg "law" = some (.ref fa) → ∃ T : Tx (K w.params) mg, T.a_law = fa ∧ T.P_l_read_right ∈ ts) : PySem.W.WalkO q loose XP (PySem.W.kmHook K as e ts).says l.row.toRowW d [] (fun f vs => PySem.call f vs) := by
  refine walk_t (sp := spLaw) (k := 12) hn (by decide) hdf ⟨rfl, by decide, by decide⟩ (fun w h Y => PySem.W.km_in_of Y) (fun w mg fa h Y KX G hmg => ?_) fun T K H a ns hl hH hS => ⟨a, ns, rfl, hS, hl, fun x hx => ?_, fun _ => rfl⟩
  · rw [hd] at hmg
    obtain ⟨T, rfl, hP⟩ := F w mg fa h KX G hmg
    exact ⟨T.c_l_read_right, T.P_l_read_right, PySem.W.km_tabs_of Y _ hP, T.tn_l_read_right, PySem.W.codeHd_of_K KX T.th_l_read_right, fun base _ _ TB => g_law T TB⟩
  · rw [List.mem_singleton.mp hx]
    exact LamX.TabS.nil hH
end MH
open PySem PySem.W PySem.Calls PyProof.Rows in
set_option maxRecDepth 100000 in
set_option maxHeartbeats 0 in
theorem PySem.Challenge.cw_menuhouses_k47_look_texts_bent_holds : PySem.Challenge.rw_menuhouses_k47_look_texts_bent.Holds := by
  w_on; o_law
  refine holds_open (r := MHead.R0) (q := MHead.view0) (loose := MHead.loose0) (Xt := MHead.X0) (XP := XL MHead.view0 []) (YP := Hook.says (kmHook MHead.K0 MHead.as0 MHead.as0_eq MHead.ts0)) MHead.left0 (Hook.of _) (Hook.keeps _) (fun s e => xl_of s (Bool.and_eq_true_iff.mp e).1) XL.keeps (by rfl) (by rfl) (by rfl) (fun s e => recFacts_of (Bool.and_eq_true_iff.mp e).2) (by rfl) (by first | assumption | decide +kernel) (by decide +kernel) ⟨rfl, rfl, rfl, rfl, rfl, by decide +kernel⟩ ?hw ?hc
  case hw => w_witness2
  k_fill
  refine MH.walk0 (l := PySem.Challenge.rw_menuhouses_k47_look_texts_bent) rfl rfl rfl ?F
  case F =>
    intro w mg fa h KX G hmg
    refine' MH.tx_of KX G hmg ?eg_WrongValue ?eg_InvalidText ?eg_InvalidMarks ?eg_InvalidIndex ?eg_InvalidWord ?eg_NotARanking ?eg_NotAHouse ?eg_NotALook ?eg_NotLooks ?eg_OtherThings ?eg_InvalidRow ?eg_InvalidMenu ?eg_InvalidThings ?eg_InvalidTaken ?eg_InvalidRankings ?eg_InvalidLooks ?eg_InvalidTable ?eg_WrongName ?eg_UnknownThing ?eg_NoAnswer ?eg_TooMany ?eg_NoHouse ?eg_NoTable ?eg_Clash ?eg_Broken ?eg_NothingToUndo ?xl_InvalidText ?xr_InvalidText ?xs_InvalidText ?xx_InvalidText ?xt_InvalidText ?xk_InvalidText ?xn_InvalidText ?xga_InvalidText ?xgg_InvalidText ?xhd_InvalidText ?xcl_InvalidText ?xca_InvalidText ?xcb_InvalidText ?xcc_InvalidText ?xob_InvalidText ?xem_InvalidText ?kf_InvalidText_WrongValue ?kf_InvalidText_InvalidText ?kf_InvalidText_InvalidMarks ?kf_InvalidText_InvalidIndex ?kf_InvalidText_InvalidWord ?kf_InvalidText_NotARanking ?kf_InvalidText_NotAHouse ?kf_InvalidText_NotALook ?kf_InvalidText_NotLooks ?kf_InvalidText_OtherThings ?kf_InvalidText_InvalidRow ?kf_InvalidText_InvalidMenu ?kf_InvalidText_InvalidThings ?kf_InvalidText_InvalidTaken ?kf_InvalidText_InvalidRankings ?kf_InvalidText_InvalidLooks ?kf_InvalidText_InvalidTable ?kf_InvalidText_WrongName ?kf_InvalidText_UnknownThing ?kf_InvalidText_NoAnswer ?kf_InvalidText_TooMany ?kf_InvalidText_NoHouse ?kf_InvalidText_NoTable ?kf_InvalidText_Clash ?kf_InvalidText_Broken ?kf_InvalidText_NothingToUndo ?kf_InvalidText_ValueError ?kf_InvalidText_LookupError ?kf_InvalidText_ArithmeticError ?cg_Look ?cp_Look ?ch_Look ?co_Look ?cs_Look ?cm_Look ?ck_Look ?cne_Look ?cob_Look ?cca_Look ?ccb_Look ?ccc_Look ?cbo_Look ?cfm_Look ?crd_Look ?cty_Look ?cga_Look ?cn_Look_menu ?cn_Look__marks ?a_is_name ?l_is_name ?c_is_name ?k_is_name ?a_is_filled_tuple ?l_is_filled_tuple ?c_is_filled_tuple ?k_is_filled_tuple ?a_first_wrong_of_names ?l_first_wrong_of_names ?tb_d_first_wrong_of_names ?c_first_wrong_of_names ?k_first_wrong_of_names ?a_check_names_of_menu ?l_check_names_of_menu ?c_check_names_of_menu ?k_check_names_of_menu ?a_are_marks ?l_are_marks ?c_are_marks ?k_are_marks ?a_LookD_initD ?i_LookD_initD ?l_LookD_initD ?c_LookD_initD ?k_LookD_initD ?a_Look_read ?pr_Look_read ?fi_Look_read ?l_Look_read ?c_Look_read ?k_Look_read ?a_Look_marks ?pg_Look_marks ?pt_Look_marks ?pr_Look_marks ?l_Look_marks ?c_Look_marks ?k_Look_marks ?a_LookD_strD ?i_LookD_strD ?l_LookD_strD ?c_LookD_strD ?k_LookD_strD ?a_InvalidTextD_initD ?ti_InvalidTextD_initD ?l_InvalidTextD_initD ?c_InvalidTextD_initD ?k_InvalidTextD_initD ?a_l_urn ?l_l_urn ?c_l_urn ?k_l_urn ?a_l_draw ?l_l_draw ?c_l_draw ?k_l_draw ?a_l_name ?l_l_name ?c_l_name ?k_l_name ?a_l_names ?l_l_names ?c_l_names ?k_l_names ?a_l_marks ?l_l_marks ?c_l_marks ?k_l_marks ?a_l_text ?l_l_text ?c_l_text ?k_l_text ?a_l_sort ?l_l_sort ?c_l_sort ?k_l_sort ?a_l_field ?l_l_field ?c_l_field ?k_l_field ?a_l_caught ?l_l_caught ?c_l_caught ?k_l_caught ?a_l_is_name ?l_l_is_name ?c_l_is_name ?k_l_is_name ?a_l_wrong_names ?l_l_wrong_names ?c_l_wrong_names ?k_l_wrong_names ?a_l_read ?l_l_read ?c_l_read ?k_l_read ?a_l_sign ?l_l_sign ?c_l_sign ?k_l_sign ?a_l_turned ?l_l_turned ?c_l_turned ?k_l_turned ?a_l_read_right ?l_l_read_right ?c_l_read_right ?tb_l_read_right ?tp_l_read_right ?tn_l_read_right ?th_l_read_right ?k_l_read_right ?a_l_right ?l_l_right ?c_l_right ?k_l_right ?a_law ?l_law ?c_law ?k_law ?pin_l_read_right ?v_MOST_THINGS ?v_LETTERS ?v_DIGITS ?v_LONGEST_NAME ?v_MARKS ?z_ValueError ?z_LookupError ?z_ArithmeticError ?z_len ?z_isinstance ?z_all ?z_any ?z_enumerate ?z_tuple ?z_sorted ?z_abs ?z_int ?z_divmod ?z_range ?z_list ?z_repr ?z_max ?z_min ?z_str ?z_bool ?z_zip
    (case eg_WrongValue => k_is)
    (case eg_InvalidText => k_is)
    (case eg_InvalidMarks => k_is)
    (case eg_InvalidIndex => k_is)
    (case eg_InvalidWord => k_is)
    (case eg_NotARanking => k_is)
    (case eg_NotAHouse => k_is)
    (case eg_NotALook => k_is)
    (case eg_NotLooks => k_is)
    (case eg_OtherThings => k_is)
    (case eg_InvalidRow => k_is)
    (case eg_InvalidMenu => k_is)
    (case eg_InvalidThings => k_is)
    (case eg_InvalidTaken => k_is)
    (case eg_InvalidRankings => k_is)
    (case eg_InvalidLooks => k_is)
    (case eg_InvalidTable => k_is)
    (case eg_WrongName => k_is)
    (case eg_UnknownThing => k_is)
    (case eg_NoAnswer => k_is)
    (case eg_TooMany => k_is)
    (case eg_NoHouse => k_is)
    (case eg_NoTable => k_is)
    (case eg_Clash => k_is)
    (case eg_Broken => k_is)
    (case eg_NothingToUndo => k_is)
    (case xl_InvalidText => first | k_is | rfl)
    (case xr_InvalidText => first | k_is | rfl)
    (case xs_InvalidText => first | k_is | rfl)
    (case xx_InvalidText => first | k_is | rfl)
    (case xt_InvalidText => first | k_is | rfl)
    (case xk_InvalidText => first | k_is | rfl)
    (case xn_InvalidText => first | k_is | rfl)
    (case xga_InvalidText => first | k_is | rfl)
    (case xgg_InvalidText => first | k_is | rfl)
    (case xhd_InvalidText => first | k_is | rfl)
    (case xcl_InvalidText => first | k_is | rfl)
    (case xca_InvalidText => first | k_is | rfl)
    (case xcb_InvalidText => first | k_is | rfl)
    (case xcc_InvalidText => first | k_is | rfl)
    (case xob_InvalidText => first | k_is | rfl)
    (case xem_InvalidText => first | k_is | rfl)
    (case kf_InvalidText_WrongValue => first | k_is | rfl)
    (case kf_InvalidText_InvalidText => first | k_is | rfl)
    (case kf_InvalidText_InvalidMarks => first | k_is | rfl)
    (case kf_InvalidText_InvalidIndex => first | k_is | rfl)
    (case kf_InvalidText_InvalidWord => first | k_is | rfl)
    (case kf_InvalidText_NotARanking => first | k_is | rfl)
    (case kf_InvalidText_NotAHouse => first | k_is | rfl)
    (case kf_InvalidText_NotALook => first | k_is | rfl)
    (case kf_InvalidText_NotLooks => first | k_is | rfl)
    (case kf_InvalidText_OtherThings => first | k_is | rfl)
    (case kf_InvalidText_InvalidRow => first | k_is | rfl)
    (case kf_InvalidText_InvalidMenu => first | k_is | rfl)
    (case kf_InvalidText_InvalidThings => first | k_is | rfl)
    (case kf_InvalidText_InvalidTaken => first | k_is | rfl)
    (case kf_InvalidText_InvalidRankings => first | k_is | rfl)
    (case kf_InvalidText_InvalidLooks => first | k_is | rfl)
    (case kf_InvalidText_InvalidTable => first | k_is | rfl)
    (case kf_InvalidText_WrongName => first | k_is | rfl)
    (case kf_InvalidText_UnknownThing => first | k_is | rfl)
    (case kf_InvalidText_NoAnswer => first | k_is | rfl)
    (case kf_InvalidText_TooMany => first | k_is | rfl)
    (case kf_InvalidText_NoHouse => first | k_is | rfl)
    (case kf_InvalidText_NoTable => first | k_is | rfl)
    (case kf_InvalidText_Clash => first | k_is | rfl)
    (case kf_InvalidText_Broken => first | k_is | rfl)
    (case kf_InvalidText_NothingToUndo => first | k_is | rfl)
    (case kf_InvalidText_ValueError => first | k_is | rfl)
    (case kf_InvalidText_LookupError => first | k_is | rfl)
    (case kf_InvalidText_ArithmeticError => first | k_is | rfl)
    (case cg_Look => k_is)
    (case cp_Look => k_is)
    (case ch_Look => k_is)
    (case co_Look => k_is)
    (case cs_Look => k_is)
    (case cm_Look => k_is)
    (case ck_Look => k_is)
    (case cne_Look => k_is)
    (case cob_Look => k_is)
    (case cca_Look => k_is)
    (case ccb_Look => k_is)
    (case ccc_Look => k_is)
    (case cbo_Look => k_is)
    (case cfm_Look => k_is)
    (case crd_Look => k_is)
    (case cty_Look => k_is)
    (case cga_Look => k_is)
    (case cn_Look_menu => k_is)
    (case cn_Look__marks => k_is)
    (case a_is_name => k_is)
    (case l_is_name => k_is)
    (case c_is_name => k_is)
    (case k_is_name => k_is)
    (case a_is_filled_tuple => k_is)
    (case l_is_filled_tuple => k_is)
    (case c_is_filled_tuple => k_is)
    (case k_is_filled_tuple => k_is)
    (case a_first_wrong_of_names => k_is)
    (case l_first_wrong_of_names => k_is)
    (case tb_d_first_wrong_of_names => first | k_is | rfl | decide)
    (case c_first_wrong_of_names => k_is)
    (case k_first_wrong_of_names => k_is)
    (case a_check_names_of_menu => k_is)
    (case l_check_names_of_menu => k_is)
    (case c_check_names_of_menu => k_is)
    (case k_check_names_of_menu => k_is)
    (case a_are_marks => k_is)
    (case l_are_marks => k_is)
    (case c_are_marks => k_is)
    (case k_are_marks => k_is)
    (case a_LookD_initD => k_is)
    (case i_LookD_initD => k_is)
    (case l_LookD_initD => k_is)
    (case c_LookD_initD => k_is)
    (case k_LookD_initD => k_is)
    (case a_Look_read => k_is)
    (case pr_Look_read => k_is)
    (case fi_Look_read => k_is)
    (case l_Look_read => k_is)
    (case c_Look_read => k_is)
    (case k_Look_read => k_is)
    (case a_Look_marks => k_is)
    (case pg_Look_marks => k_is)
    (case pt_Look_marks => k_is)
    (case pr_Look_marks => k_is)
    (case l_Look_marks => k_is)
    (case c_Look_marks => k_is)
    (case k_Look_marks => k_is)
    (case a_LookD_strD => k_is)
    (case i_LookD_strD => k_is)
    (case l_LookD_strD => k_is)
    (case c_LookD_strD => k_is)
    (case k_LookD_strD => k_is)
    (case a_InvalidTextD_initD => k_is)
    (case ti_InvalidTextD_initD => k_is)
    (case l_InvalidTextD_initD => k_is)
    (case c_InvalidTextD_initD => k_is)
    (case k_InvalidTextD_initD => k_is)
    (case a_l_urn => k_is)
    (case l_l_urn => k_is)
    (case c_l_urn => k_is)
    (case k_l_urn => k_is)
    (case a_l_draw => k_is)
    (case l_l_draw => k_is)
    (case c_l_draw => k_is)
    (case k_l_draw => k_is)
    (case a_l_name => k_is)
    (case l_l_name => k_is)
    (case c_l_name => k_is)
    (case k_l_name => k_is)
    (case a_l_names => k_is)
    (case l_l_names => k_is)
    (case c_l_names => k_is)
    (case k_l_names => k_is)
    (case a_l_marks => k_is)
    (case l_l_marks => k_is)
    (case c_l_marks => k_is)
    (case k_l_marks => k_is)
    (case a_l_text => k_is)
    (case l_l_text => k_is)
    (case c_l_text => k_is)
    (case k_l_text => k_is)
    (case a_l_sort => k_is)
    (case l_l_sort => k_is)
    (case c_l_sort => k_is)
    (case k_l_sort => k_is)
    (case a_l_field => k_is)
    (case l_l_field => k_is)
    (case c_l_field => k_is)
    (case k_l_field => k_is)
    (case a_l_caught => k_is)
    (case l_l_caught => k_is)
    (case c_l_caught => k_is)
    (case k_l_caught => k_is)
    (case a_l_is_name => k_is)
    (case l_l_is_name => k_is)
    (case c_l_is_name => k_is)
    (case k_l_is_name => k_is)
    (case a_l_wrong_names => k_is)
    (case l_l_wrong_names => k_is)
    (case c_l_wrong_names => k_is)
    (case k_l_wrong_names => k_is)
    (case a_l_read => k_is)
    (case l_l_read => k_is)
    (case c_l_read => k_is)
    (case k_l_read => k_is)
    (case a_l_sign => k_is)
    (case l_l_sign => k_is)
    (case c_l_sign => k_is)
    (case k_l_sign => k_is)
    (case a_l_turned => k_is)
    (case l_l_turned => k_is)
    (case c_l_turned => k_is)
    (case k_l_turned => k_is)
    (case a_l_read_right => k_is)
    (case l_l_read_right => k_is)
    (case c_l_read_right => k_is)
    (case tb_l_read_right => first | k_is | rfl | decide)
    (case tp_l_read_right => first | k_is | rfl | decide)
    (case tn_l_read_right => first | k_is | rfl | decide)
    (case th_l_read_right => first | k_is | rfl | decide)
    (case k_l_read_right => k_is)
    (case a_l_right => k_is)
    (case l_l_right => k_is)
    (case c_l_right => k_is)
    (case k_l_right => k_is)
    (case a_law => k_is)
    (case l_law => k_is)
    (case c_law => k_is)
    (case k_law => k_is)
    (case pin_l_read_right => decide)
    (case v_MOST_THINGS => k_is)
    (case v_LETTERS => k_is)
    (case v_DIGITS => k_is)
    (case v_LONGEST_NAME => k_is)
    (case v_MARKS => k_is)
    (case z_ValueError => k_is)
    (case z_LookupError => k_is)
    (case z_ArithmeticError => k_is)
    (case z_len => k_is)
    (case z_isinstance => k_is)
    (case z_all => k_is)
    (case z_any => k_is)
    (case z_enumerate => k_is)
    (case z_tuple => k_is)
    (case z_sorted => k_is)
    (case z_abs => k_is)
    (case z_int => k_is)
    (case z_divmod => k_is)
    (case z_range => k_is)
    (case z_list => k_is)
    (case z_repr => k_is)
    (case z_max => k_is)
    (case z_min => k_is)
    (case z_str => k_is)
    (case z_bool => k_is)
    (case z_zip => k_is)
