import PyProof.Rows.All
import Wide.All
import OpenK.AllK
import Wide.FinOn
import HandS.ForMost
import HandS.IsInst
import HandS.Property
import HandS.TupAny
import HandS.Strs
import HandS.Conv
import HandS.Defaults
import KE.GoesEnum
import HandS.Walk
import PyProof.ReprLen
import PyProof.StrLawsRepr
import PyProof.FitsInt
import KE.KRevSl
import HandS.OwnEq
import HandS.More
import KE.KOpsOwn
import KE.KCallOwn
import PyProof.InstNe
import OpenK.KMeth
import OpenK.KOps
import KE.KFmtOwn
import HandS.FStr
import HandS.ClsMeth
import HandS.MakeKwOnly
import HandS.RaiseMore
import HandS.Exc
import KE.KTryMore
import HandS.ExcInit
import HandS.ExcField
import HandS.ExcIs
import HandS.Lambda
import HandS.HotCalls
import KE.KExcIs
import HandS.Dict
import KE.DataFind
import HandS.ReplaceLit
import HandS.Style
import HandS.EndTab
import KE.KNestM
import HandS.WordsExc
import HandS.Star
import HandS.ListEq
import KE.KEqSeq
import KE.KExcInit
import PySem.Challenge.RW_menuhouses_k06_ranking_calls_refused
set_option Elab.async false
set_option linter.all false
set_option maxRecDepth 100000
set_option maxHeartbeats 4000000
/-! Own rules beside the layer: promises that know that no repr is under way (FnG), repr of data, sorted of a tuple of texts, enumerate of a tuple, o.m(k = v). -/
namespace MH
open PySem PySem.Spec PyProof.Rows L2

/-! ### promises of defs that are called while no repr is under way -/
def FnG (P : Program) (w : World) (K : PySem.W.Frag) (mg : Str → Option Value) (base : Heap) (k : Nat) (f : Addr) (sp : Sp) : Prop :=
  ∀ (A : Around) (fr : List Env) (st : Shared) (H : Hp) (us : List Value) (vs : List V) (Q : VK), A.guards = some [] → Room k A → Env0 P w K mg base A fr st H → Vals vs us →
    sp vs H Q E0 → codeAny (model P w) A (.call (.ref f) ⟨us, []⟩) (CR CX0 fr P w H st Q E0) st

theorem guards_deeper {A : Around} {env : Env} (h : A.guards = some []) : (A.deeper env).guards = some [] := h

section
variable {P : Program} {w : World} {K : PySem.W.Frag} {mg : Str → Option Value} {base : Heap} {k : Nat} {f : Addr} {sp : Sp}
theorem FnG.mono {j : Nat} (F : FnG P w K mg base j f sp) (h : j ≤ k) : FnG P w K mg base k f sp := fun A fr st H us vs Q hg hr => F A fr st H us vs Q hg (hr.mono h)

theorem fg_of {name qual : Str} {pms : Arguments} {body : List Stmt} {sc : Scope} {dV kV doc pm cdv ct oc : Value} {an od : Option Addr} {osl : Array (Option Value)} {N ps : List Str}
    (lk : K.lookup f = some ⟨oc, od, .func (PySem.W.fnOf name qual pms body sc dV kV doc pm an cdv ct), osl⟩) (hc : PySem.W.codeIn K cdv qual = true) (S : FnScope N ps sc)
    (hB : Binds K (PySem.W.fnOf name qual pms body sc dV kV doc pm an cdv ct) ps []) (hlen : ∀ vs H Q E, sp vs H Q E → vs.length = ps.length)
    (hbd : ∀ (A : Around) (fr : List Env) (st : Shared) (H : Hp) (vs : List V) (Q : VK), A.guards = some [] → Room k (A.deeper (envOfC qual sc st.heap.objs.size f cdv)) → sp vs H Q E0 →
      ∃ t, PSs (cxOf CX0 P w K mg base N qual sc f cdv A fr st H E0).nox body t ∧ t { nx := fun _ H' => Q .non H', rt := Q } (start N vs) H) :
    FnG P w K mg base (k + 1) f sp := by
  intro A fr st H us vs Q hg hr e0 r hs
  have hl := hlen _ _ _ _ hs
  have hul : (us ++ []).length = ps.length := by
    rw [List.append_nil, ← r.length, hl]
  have KX : K.In st.heap := e0.mod.kin.keeps fun b o e => (e0.bs b o e).1
  have nl : st.heap.NoLimit := e0.mod.nolimit.keeps fun b o e => (e0.bs b o e).1
  have hk : ∀ y ∈ ps.zip us, sc.names.lookup y.1 = some .local ∨ (sc.names.lookup y.1 = some .cell ∧ ((cellsFrom (st.heap.objs.size + 1) sc.names []).lookup y.1).isSome = true) := by
    intro y hy
    rcases S.par y.1 (List.of_mem_zip hy).1 with q | q
    · exact .inl q
    · exact .inr ⟨q, PySem.W.cellsFrom_some _ _ _ (.inl q)⟩
  have hb2 := hB st us KX hul
  rw [List.append_nil] at hb2
  refine codeAny_call_function hr.depth (KX _ _ lk) rfl S.co S.gen rfl (PySem.W.codeRec_of KX hc) (hb2 _ _ _ _ ?_)
  refine wpAny_newFunctionEnv_cells S.kind hk fun env he s1 x => ?_
  subst he
  refine ⟨nl.keeps x.toInCall.keep, codeAny_func ?_⟩
  obtain ⟨t, ht, hq⟩ := hbd A fr st H vs Q hg (hr.deeper _) hs
  have J : Inv (cxOf CX0 P w K mg base N qual sc f cdv A fr st H E0) [] (start N vs) H s1 := inv_start S hr.hd e0 hl r x
  refine wpAny_mono (ht.nox.run [] s1 (start N vs) H _ J hq) (fun fl s' hz => ?_) fun e s' hz => hz
  cases fl with
  | ret u =>
    obtain ⟨v, σ', H', J', rv, q⟩ := hz
    exact ⟨v, H', J'.os, J'.bare, J'.base, J'.hok, rv, q⟩
  | next =>
    obtain ⟨σ', H', J', q⟩ := hz
    exact ⟨.non, H', J'.os, J'.bare, J'.base, J'.hok, rfl, q⟩
  | brk => exact (hz.choose_spec.choose_spec.2 : False).elim
  | cont => exact (hz.choose_spec.choose_spec.2 : False).elim

/-- the def's rule, by its text -/
theorem fun_g {x qual : Str} {st : Stmt} {fd : FuncData} {N ps : List Str} (F : Fun K x qual st f fd) (S : FnScope N ps (defScope st)) (hB : Binds K fd ps []) (hlen : ∀ vs H Q E, sp vs H Q E → vs.length = ps.length)
    (hbd : ∀ (cdv : Value) (A : Around) (fr : List Env) (s : Shared) (H : Hp) (vs : List V) (Q : VK), A.guards = some [] → Room k (A.deeper (envOfC qual (defScope st) s.heap.objs.size f cdv)) → sp vs H Q E0 →
      ∃ t, PSs (cxOf CX0 P w K mg base N qual (defScope st) f cdv A fr s H E0).nox (defBody st) t ∧ t { nx := fun _ H' => Q .non H', rt := Q } (start N vs) H) :
    FnG P w K mg base (k + 1) f sp := by
  obtain ⟨oc, od, kV, doc, pm, an, cdv, ct, osl, rfl, lk, hc⟩ := F.ex
  exact fg_of lk hc S hB hlen fun A fr s H vs Q hg hr hs => hbd cdv A fr s H vs Q hg hr hs
end

/-- a promise that holds anyway holds while no repr is under way -/
theorem FnOk.toG {P : Program} {w : World} {K : PySem.W.Frag} {mg : Str → Option Value} {base : Heap} {k : Nat} {f : Addr} {fd : FuncData} {ps : List Str} {sp : Sp} (F : FnOk P w K mg base CX0 k f fd ps sp) (hB : Binds K fd ps []) :
    FnG P w K mg base k f sp := fun A fr st H us vs Q _ hr e0 r hs => by
  have KX : K.In st.heap := e0.mod.kin.keeps fun b o e => (e0.bs b o e).1
  have hl : (us ++ []).length = ps.length := by rw [List.append_nil, ← r.length, F.len _ _ _ _ hs]
  have hb2 := hB st us KX hl
  rw [List.append_nil] at hb2
  exact F.run A fr st H ⟨us, []⟩ us vs Q E0 hr e0 hb2 r hs

section
variable {X : Cx} {k : Nat} {f : Addr} {sp : Sp} {x : Str} {p pos : Pos} {e : Expr} {es : List Expr} {t : TA}
/-- f(e, ..) -/
theorem pe_callg (F : FnG X.prog X.w X.K X.mg X.base k f sp) (hg : X.A.guards = some []) (hr : Room k X.A) (gl : Gl X x) (hm : X.mg x = some (.ref f)) (hk : PySem.W.keepIn X.K (.ref f) = true)
    (ha : PA X (e :: es) t) (hdb : (x == ("__debug__" : Str)) = false := by decide) (he : starEach (e :: es) X.env = (false, eval e X.env) :: starEach es X.env := by rfl) (hpl : (backTo pos (starEach es X.env)).any (·.1) = false := by rfl) :
    PE X (.Call (.Name x p) (e :: es) [] pos) (tCall sp [] E0 t) := by
  refine ⟨fun pins s σ H Q I h => ?_⟩
  refine wpAny_Call_Name_kw (ld_glob I gl hm ?_ hdb)
  refine PySem.W.callWith_K (h₀ := X.base) I.ok.mod.kin hk (thn (ha.run pos pins s σ H _ I h) fun us s1 ⟨vs, H1, I1, r, q⟩ => ⟨I1.kIn, ?_⟩) he hpl
  have q1 : sp vs H1 Q E0 := by
    have z : sp (vs ++ []) H1 Q E0 := q
    rw [List.append_nil] at z
    exact z
  refine wpAny_call (codeAny_mono (F X.A X.stack s1 H1 us vs Q hg hr I1.env0 r q1) fun r s' hq => ?_)
  match r, hq with
  | .ok (.ret u), hq => exact I1.after hq
  | .ok .next, hq => exact False.elim hq
  | .ok .brk, hq => exact False.elim hq
  | .ok .cont, hq => exact False.elim hq
  | .error _, hq => exact False.elim hq
end

/-! ### repr of data -/
def rRepr (K : PySem.W.Frag) : List V → Hp → VK → Prop := fun xs H Q => ∃ (a : Addr) (d : PyData), xs = [.ref a] ∧ Dp K H (.ref a) d ∧ d.showable = true ∧ d.hasDict = false ∧ d.depth ≤ 60 ∧ d.shown.length ≤ sizeLine ∧ Q (.str d.shown) H
section
variable {X : Cx}
theorem call_reprD (hg : X.A.guards = some []) (hu : X.A.units + 64 < cLine) : CallR X (.builtin "repr") (rRepr X.K) := by
  intro pins s σ H xs us Q I r h
  obtain ⟨a, d, rfl, hd, h1, h2, h3, h4, q⟩ := h
  obtain ⟨u, rfl, ru⟩ := vals1 r
  obtain ⟨as, rd⟩ := Dp.reads I d _ _ hd ru
  obtain rfl : u = Value.ref a := ru
  exact repr_of_reads' rd h1 (PyData.noDict_hsm h2) hg (by omega) (fun _ _ e => e) (fun h' u tk hk => ⟨.str d.shown, H, I.kept hk, ⟨_, rfl⟩, q⟩) h4
end

/-! ### sorted of a tuple of texts -/
section
variable {prog : Program} {w : World} {A : Around} {E : Value → Shared → Prop} {s : Shared}
theorem collect_tup {t : Addr} {us : List Value} {Q : List Value → Shared → Prop} (ht : s.heap.IsTuple t us.toArray) (hz : us.length ≤ sizeLine)
    (k : Q us { s with heap := (s.heap.push (seqObj "list" #[] 0)).update s.heap.objs.size (Obj.mapSeq (· ++ us.toArray)) }) :
    wpAny (model prog w) A (collect (.ref t)) Q E s := by
  obtain ⟨o, ho, hc, n, hd⟩ := id ht
  have new0 : ∀ x : Addr, x = s.heap.objs.size → (s.heap.push (seqObj "list" #[] 0)).get? x = some (seqObj "list" #[] 0) := fun x e => by
    rw [e]
    exact Heap.get?_push_size _ rfl
  have old : (s.heap.push (seqObj "list" #[] 0)).get? t = some o := Heap.get?_push_of_some _ ho
  unfold collect
  refine wpAny_bind (wpAny_runValue (codeAny_builtin entry_proto_collect' ?_))
  show wpAny _ _ (newList [] >>= fun l => again (.builtin "list.__iadd__" ⟨[l, .ref t], []⟩)) _ _ s
  refine wpAny_bind (wpAny_newList (wpAny_pure ⟨Code.quiet_builtin _ (by decide +kernel), codeAny_builtin entry_list_iadd' ?_⟩))
  refine (show wpAny _ _ (Builtin.List.listExtendWith (.ref s.heap.objs.size) (.ref t) (.ref s.heap.objs.size)) _ _ { s with heap := s.heap.push (seqObj "list" #[] 0) } from ?_)
  unfold Builtin.List.listExtendWith
  refine wpAny_bind (wpAny_typeOf (T := "tuple") ⟨o, old, hc⟩ ?_)
  have b2 : (Value.type "tuple" == Value.type "tuple") = true := by rfl
  rw [if_pos (by rw [b2]; simp)]
  refine wpAny_bind (listItems_at old hd ?_)
  refine wpAny_bind (listItems_at (xs := #[]) (n := 0) (new0 _ rfl) rfl ?_)
  rw [if_neg (by simp)]
  have hz2 : (#[] ++ us.toArray).size ≤ sizeLine + 1 := by
    simp only [Array.size_append, List.size_toArray, List.length_nil]
    omega
  refine wpAny_bind (listUpdate_at (xs := #[]) (n := 0) (new0 _ rfl) rfl ?_ (Nat.zero_le _) hz2)
  refine wpAny_pure ?_
  refine (show wpAny (model prog w) A (load s.heap.objs.size >>= fun o => match o.data with
      | .seq xs _ => pure xs.toList
      | _ => unsupported "internal:collect") Q E { s with heap := (s.heap.push (seqObj "list" #[] 0)).update s.heap.objs.size (Obj.mapSeq (· ++ us.toArray)) } from ?_)
  refine wpAny_bind (wpAny_load (get?_update_seq (new0 _ rfl) _) ?_)
  have e : ((#[] : Array Value) ++ us.toArray).toList = us := by simp
  refine (show wpAny _ _ (pure ((#[] : Array Value) ++ us.toArray).toList) Q E _ from ?_)
  rw [e]
  exact wpAny_pure k

theorem sorted_tup {t : Addr} {us : List Value} {ss : List Str} {Q : Value → Shared → Prop} (ht : s.heap.IsTuple t us.toArray) (hS : StrsAre us ss) (h64 : us.length < 64)
    (k : ∀ (out : Array Value) (ys : List Str), StrsAre out.toList ys → ys.Perm ss → sortedS ys = true → Q (.ref (s.heap.objs.size + 1)) { s with heap := sortedAll s.heap us out }) :
    wpAny (model prog w) A (call (.builtin "sorted") [.ref t]) Q E s := by
  refine Calls.call_function_entry kind_sorted plain_sorted entry_sorted (args_sorted1 _) ?_
  unfold Builtin.«sorted»
  refine wpAny_bind (m := checkCount "sorted" 1 1 _) (wpAny_pure ?_)
  refine wpAny_bind (collect_tup ht (small64 h64) (wpAny_bind (wpAny_newList ?_)))
  have size1 : ((s.heap.push (seqObj "list" #[] 0)).update s.heap.objs.size (Obj.mapSeq (· ++ us.toArray))).objs.size = s.heap.objs.size + 1 := by
    rw [Heap.size_update, size_push']
  have at1 : (((s.heap.push (seqObj "list" #[] 0)).update s.heap.objs.size (Obj.mapSeq (· ++ us.toArray))).push (seqObj "list" us.toArray 0)).get? (s.heap.objs.size + 1) = some (seqObj "list" us.toArray 0) := by
    rw [← size1]
    exact Heap.get?_push_size _ rfl
  refine (show wpAny _ _ _ _ _ { s with heap := ((s.heap.push (seqObj "list" #[] 0)).update s.heap.objs.size (Obj.mapSeq (· ++ us.toArray))).push (seqObj "list" us.toArray 0) } from ?_)
  rw [size1]
  refine wpAny_bind (wpAny_holding (wpAny_call_entry slot_list_sort ⟨_, at1, rfl⟩ entry_list_sort
    (list_sort_treeK strKind_oneLt at1 hS.keysOf (fun v1 v2 rest e => keyKind_strs (by rw [← e]; exact hS)) h64 fun st hp hs => ⟨_, rfl, ?_⟩) (args_list_sort _)))
  obtain ⟨ys, h1, h2, h3⟩ := sorted_out_str hS hp hs
  exact wpAny_pure ⟨_, rfl, k _ ys h1 h2 h3⟩
end
def rSortedU (K : PySem.W.Frag) : List V → Hp → VK → Prop := fun vs H Q => ∃ (a : Addr) (xs : List Str), vs = [V.ref a] ∧ SqT K H a (xs.map V.str) ∧ xs.length < 64 ∧ ∀ (ys : List Str) (p : Addr), ys.Perm xs → sortedS ys = true → H p = none → Q (.ref p) (upd H p (.lst (ys.map V.str)))
section
variable {X : Cx}
theorem cr_sortedU : CallR X (.builtin "sorted") (rSortedU X.K) := by
  intro pins s σ H vs us Q I r h
  obtain ⟨a, xs, rfl, hs, h64, q⟩ := h
  obtain ⟨its, rv, ht, _⟩ := I.tuple hs
  rw [Vals.ref1 r]
  have hl0 : xs.length = its.length := by
    have z := rv.length
    rw [List.length_map] at z
    exact z
  refine sorted_tup (s := s) ht rv.strs (hl0 ▸ h64) fun out ys h1 h2 h3 => ?_
  obtain ⟨ep, he⟩ := sortedAll_at s.heap its out
  have hz : (ys.map V.str).length ≤ sizeLine := by
    rw [List.length_map, h2.length_eq]
    exact small64 h64
  refine ⟨.ref _, upd H (s.heap.objs.size + 1) (.lst (ys.map V.str)), ?_, rfl, q ys _ h2 h3 (I.hok.fresh (Nat.le_succ _))⟩
  exact I.laid (t' := s.toks) (fun _ _ => sortedAll_old) (Nat.le_succ _) ⟨hz, out.toList, ep, vals_of_strs h1, he⟩
end

/-! ### enumerate of a tuple -/
theorem enum_tup_new {t : Addr} {items : Array Value} : Meets (Builtin.«enumerate.__new__» ⟨[.type "enumerate", .ref t], []⟩) (fun _ R s => s.heap.IsTuple t items ∧
      R (.ok (.ret (.ref (s.heap.push { cls := .type "tuple_iterator", data := .fields #[.ref t, .int 0 0] }).objs.size)))
        { s with heap := (s.heap.push { cls := .type "tuple_iterator", data := .fields #[.ref t, .int 0 0] }).push { cls := .type "enumerate", data := .fields #[.none, .bool false, .ref s.heap.objs.size, rawInt 0, .none, .none] } }) :=
  .of_wp fun prog w A R s h => by
    obtain ⟨hp, g, d, tk, os⟩ := s
    obtain ⟨hT, k⟩ := h
    have hsub := sub_enumerate
    have it : ∀ {A' : Around} {E Q : Value → Shared → Prop}, Q (.ref hp.objs.size) ⟨hp.push { cls := .type "tuple_iterator", data := .fields #[.ref t, .int 0 0] }, g, d, tk, os⟩ → wpAny (model prog w) A' (pyIter (.ref t)) Q E ⟨hp, g, d, tk, os⟩ :=
      fun q => wpAny_pyIter_tuple (items := items) hT q
    wp_walk using it
    refine wpAny_stack_any fun st => wpAny_pure ?_
    split
    · rename_i c _ _ _ _ _
      cases (c == Value.type "enumerate") <;> (wp_walk using it; exact ⟨_, rfl, k⟩)
    · wp_walk using it
      exact ⟨_, rfl, k⟩
section
variable {prog : Program} {w : World} {A : Around} {E : Value → Shared → Prop} {s : Shared}
theorem call_enum_tup {t : Addr} {items : Array Value} {Q : Value → Shared → Prop} (hT : s.heap.IsTuple t items)
    (k : ∀ h', IsEnum h' (s.heap.objs.size + 1) s.heap.objs.size 0 .none → h'.IsTupleIter s.heap.objs.size t 0 → h'.objs.size = s.heap.objs.size + 2 →
      (∀ b o, s.heap.get? b = some o → h'.get? b = some o) → Q (.ref (s.heap.objs.size + 1)) { s with heap := h' }) :
    wpAny (model prog w) A (call (.type "enumerate") [.ref t]) Q E s := by
  refine callType_new F.called_enumerate (by decide) (F.typeCall_enumerate_1 _) (F.newCall_enumerate_1 _) (fun obj => F.args_object_init_2 obj _) F.entry_enumerate_new enum_tup_new ⟨hT, ?_⟩
  have hz : (s.heap.push { cls := .type "tuple_iterator", data := .fields #[.ref t, .int 0 0] }).objs.size = s.heap.objs.size + 1 := Heap.size_push ..
  refine (show _ ∧ _ from ?_)
  rw [hz]
  have he := Heap.get?_push_size (s.heap.push { cls := .type "tuple_iterator", data := .fields #[.ref t, .int 0 0] }) (o := { cls := .type "enumerate", data := .fields #[.none, .bool false, .ref s.heap.objs.size, rawInt 0, .none, .none] }) rfl
  rw [hz] at he
  refine ⟨⟨_, he, rfl⟩, k _ he ⟨_, Heap.get?_push_of_some _ (Heap.get?_push_size _ rfl), rfl, rfl⟩ ?_ fun b o x => Heap.get?_push_of_some _ (Heap.get?_push_of_some _ x)⟩
  rw [Heap.size_push, hz]
end
theorem wpAny_pyNext_enum_none {prog : Program} {w : World} {A : Around} {E : Value → Shared → Prop} {s : Shared} {e it t : Addr} {i : Nat} {items : Array Value} {old : Value} {Q : Option Value → Shared → Prop} (hh : A.in1.handled = none) (he : IsEnum s.heap e it i old) (hit : s.heap.IsTupleIter it t i) (ht : s.heap.IsTuple t items)
    (hx : items[i]? = none) (k : ∀ h', Heap.ExtBut it s.heap h' → Q none { s with heap := h' }) : wpAny (model prog w) A (pyNext (.ref e)) Q E s := by
  have ty : s.TypeIs (.ref e) "enumerate" := ⟨_, he, rfl⟩
  unfold pyNext
  refine wpAny_bind (wpAny_attempt (wpAny_callSpecial?_slot (name := Str.ofString "__next__") ty F.slot_enumerate_next
    (wpAny_call_entry F.slot_enumerate_next ty F.entry_enumerate_next ?_ (F.args_enumerate_next_1 _))))
  refine (show wpAny _ _ (field (.ref e) 2 >>= _) _ _ _ from ?_)
  refine wpAny_bind (wpAny_field he rfl (x := .ref it) rfl ?_)
  refine wpAny_bind (wpAny_nextOf_tuple_end hh hit ht hx fun h' x eb hx' => ?_)
  obtain ⟨o, ho, hc⟩ := hx'
  refine wpAny_bind (wpAny_isInstance (T := "StopIteration") (b := true) ⟨o, ho, hc⟩ isSubtype_stop ?_)
  exact wpAny_pure (k _ eb)
/-- the tuple at a, each item in a new pair behind its index -/
def IteT (K : PySem.W.Frag) (a : Addr) : It where
  go := fun i H => ∃ xs x, SqT K H a xs ∧ xs[i]? = some x
  yld := fun i H v H' => ∃ T x, v = .ref T ∧ H T = none ∧ H' = upd H T (.tup [.int (i : Nat), x]) ∧ ∀ xs, SqT K H a xs → xs[i]? = some x
  stop := fun i H => ∃ xs, SqT K H a xs ∧ xs.length ≤ i
theorem turn_enumT {P : Program} {w : World} {K : PySem.W.Frag} {elts : List Expr} {kk : Nat} {tpos : Pos} (a e it : Addr) :
    Turn P w K (.Tuple elts kk tpos) (IteT K a) [e, it] e (fun i h => (∃ old, IsEnum h e it ((i : Nat) : Int) old) ∧ h.IsTupleIter it a i ∧ e ≠ it) where
  mem := List.mem_cons_self
  obj := by
    rintro i h ⟨⟨old, he⟩, ⟨o, ho, hc, hd⟩, _⟩ b hb
    have e' : b = e ∨ b = it := by simpa using hb
    rcases e' with rfl | rfl
    · exact ⟨_, he, fun v q => nomatch q⟩
    · refine ⟨o, ho, fun v q => ?_⟩
      rw [hd] at q
      cases q
  keep := fun i h h' st k => ⟨⟨st.1.choose, k e (by simp) _ st.1.choose_spec⟩, st.2.1.at fun o q => k it (by simp) o q, st.2.2⟩
  item := by
    intro X hP hw hK hc i pins s σ H E I hf st hg
    subst hP hw hK
    obtain ⟨⟨old, he⟩, hit, hne⟩ := st
    obtain ⟨xs, x, hq, hx⟩ := hg
    obtain ⟨its, rv, p, hz⟩ := I.tuple hq
    obtain ⟨u, hu, ru⟩ := rv.get hx
    have hel : e < s.heap.objs.size := Heap.lt_size he
    have hil : it < s.heap.objs.size := by
      obtain ⟨_, q, _⟩ := hit
      exact Heap.lt_size q
    obtain ⟨ot, hot, hct, _⟩ := id (show s.heap.IsTuple a its.toArray from p)
    have hae : e ≠ a := fun q => by
      have z : s.heap.get? e = some ot := q ▸ hot
      rw [he] at z
      cases z
      exact absurd (show Value.type "enumerate" = Value.type "tuple" from hct) (by decide)
    have hait : a ≠ it := fun q => by
      obtain ⟨o2, h2, c2, _⟩ := hit
      rw [← q, hot] at h2
      cases h2
      rw [hct] at c2
      exact absurd c2 (by decide)
    have hlt : i < its.toArray.size := by
      have := (List.getElem?_eq_some_iff.mp hu).1
      simpa using this
    have hh : X.A.in1.handled = none := I.ok.hd hc
    refine wpAny_pyNext_enum_itemD (Draws.tuple hh it a hait its.toArray) he ⟨hit, p⟩ hlt hne (by simp [hne, hae]) fun y h' tk hy ho hst hT hsz hk => ?_
    have hyu : y = u := by
      have z : its.toArray[i]? = some y := hy
      rw [List.getElem?_toArray, hu] at z
      exact (Option.some.inj z).symm
    subst hyu
    refine ⟨_, rfl, wpAny_letOwnedTupleGo_enum (s := { s with heap := h', toks := tk + 1 }) ho fun h'' he' sb => ?_⟩
    have hT2 : h''.get? s.heap.objs.size = some { cls := .type "tuple", data := .seq #[.int i tk, y] } := (sb.2 _ (Nat.ne_of_gt hel)).trans hT
    have new : ObjOk X.prog X.w (upd H s.heap.objs.size (.tup [.int (i : Nat), x])) h'' s.heap.objs.size (.tup [.int (i : Nat), x]) :=
      ⟨(by decide : 2 ≤ sizeLine), [.int i tk, y], .cons ⟨_, rfl⟩ (.cons ru .nil), ⟨_, hT2, rfl, _, rfl⟩⟩
    have I1 : Inv X pins σ (upd H s.heap.objs.size (.tup [.int (i : Nat), x])) { s with heap := h'', toks := tk + 1 } := by
      refine I.turnedNew (ch := [e, it]) (fun b ob hb q => ?_) hf (Nat.le_refl _) new
      rw [sb.2 b (fun z => hb (by simp [z]))]
      exact hk b ob (fun z => hb (by simp [z])) (fun z => hb (by simp [z])) q
    refine ⟨.ref s.heap.objs.size, _, I1, rfl, ⟨_, x, rfl, I.hok.fresh (Nat.le_refl _), rfl, fun ys hy => by rw [I.tuple_inj hy hq]; exact hx⟩, ⟨⟨y, ?_⟩, ?_, hne⟩, fun b hb => ?_⟩
    · rw [show ((i + 1 : Nat) : Int) = (i : Int) + 1 from by omega]
      exact he'
    · exact hst.1.at fun o q => (sb.2 it (Ne.symm hne)).trans q
    · have hb' : b < s.heap.objs.size := by
        have e' : b = e ∨ b = it := by simpa using hb
        rcases e' with z | z
        · rw [z]
          exact hel
        · rw [z]
          exact hil
      rw [upd_ne (Nat.ne_of_lt hb')]
      exact (hf b hb).1
  done := by
    intro X hP hw hK hc i pins s σ H E I hf st hg
    subst hP hw hK
    obtain ⟨⟨old, he⟩, hit, hne⟩ := st
    obtain ⟨xs, hq, hx⟩ := hg
    obtain ⟨its, rv, p, hz⟩ := I.tuple hq
    obtain ⟨f0, f1, f2, f3, f4, f5⟩ := hf it (by simp)
    have hh : X.A.in1.handled = none := I.ok.hd hc
    have hl := rv.length
    obtain ⟨ot, hot, hct, _⟩ := id (show s.heap.IsTuple a its.toArray from p)
    have hait : a ≠ it := fun q => by
      obtain ⟨o2, h2, c2, _⟩ := hit
      rw [← q, hot] at h2
      cases h2
      rw [hct] at c2
      exact absurd c2 (by decide)
    refine wpAny_pyNext_enum_none hh he hit p (by simp; omega) fun h' eb => ⟨rfl, I.turned (t' := s.toks) (fun b o hb q => eb b o hb q) f0 f1 f3 f4 f5⟩
  self := fun A i s Q E st h => wpAny_pyIter_enum st.1.choose_spec h
def iEnumT (K : PySem.W.Frag) (ta : TA) : TI := fun σ H R => ta σ H fun vs H1 => ∃ a xs, vs = [.ref a] ∧ SqT K H1 a xs ∧ R (IteT K a) H1
theorem pi_enumT {X : Cx} {e : Expr} {ta : TA} {p pos tpos : Pos} {elts : List Expr} {kk : Nat} (hg : Gl X "enumerate") (hm : X.mg "enumerate" = none) (ha : PA X [e] ta) (hs : starEach [e] X.env = [(false, eval e X.env)] := by rfl) :
    PI X (.Tuple elts kk tpos) (.Call (.Name "enumerate" p) [e] [] pos) (iEnumT X.K ta) := by
  refine ⟨fun pins s σ H R I h => ?_⟩
  refine Call_ (ld_blt I hg hm boot_enumerate (PyProof.Rows.callWith_type1 (thn (ha.run pos pins s σ H _ I h) fun us s1 ⟨vs, H1, I1, r1, a, xs, ex, hq, q⟩ => ?_) hs rfl))
  subst ex
  obtain ⟨u, rfl, ru⟩ := vals1 r1
  obtain rfl : u = Value.ref a := ru
  obtain ⟨its, rv, p', hz⟩ := I1.tuple hq
  refine call_enum_tup (show s1.heap.IsTuple a its.toArray from p') fun h' he hit hsz hk => wpAny_pyIter_enum he ?_
  have I2 : Inv X pins σ H1 { s1 with heap := h' } := I1.kept (t' := s1.toks) hk
  refine ⟨s1.heap.objs.size + 1, [s1.heap.objs.size + 1, s1.heap.objs.size], _, _, H1, rfl, I2, turn_enumT a (s1.heap.objs.size + 1) s1.heap.objs.size, ⟨⟨.none, he⟩, hit, Nat.succ_ne_self _⟩, fun b hb => ?_, q⟩
  have e' : b = s1.heap.objs.size + 1 ∨ b = s1.heap.objs.size := by simpa using hb
  have hle : s1.heap.objs.size ≤ b := by
    rcases e' with z | z
    · rw [z]
      exact Nat.le_succ _
    · rw [z]
      exact Nat.le_refl _
  exact I1.fpOk hle (I1.hok.fresh hle)

/-! ### o.m(k = v, ..) -/
def tMethK (C : Addr) (m : Str) (n : Nat) (sp : Sp) (gV : List V → List V → List V) (E : XK) (ta : TE) (tk : TA) : TE := fun σ H Q => ta σ H fun x H1 => ∃ a dx fs, x = .ref a ∧ H1 a = some (.ins C dx fs) ∧ fs.lookup m = none ∧
  tk σ H1 fun zs H2 => zs.length = n ∧ sp (gV [x] zs) H2 Q E
section
variable {X : Cx} {CX : CXT} {k : Nat} {C f : Addr} {fd : FuncData} {ps ks : List Str} {sp : Sp} {E : XK} {o : Expr} {m : Str} {apos pos : Pos} {kws : List Keyword} {ta : TE} {tk : TA} {g : List Value → List Value → List Value} {gV : List V → List V → List V} {pl : Sem Bool}
theorem pe_methK0 (he : PE X o ta) (c : Cls X.K C) (hm : Meth X.K C m f) (F : FnOk X.prog X.w X.K X.mg X.base CX k f fd ps sp) (hr : Room k X.A) (hb : KBn X.K fd ps 1 ks g gV) (hx : Passes CX X E) (hkw : PK X kws tk)
    (hall : (backToKw pos (keywordEach kws X.env)).all (·.1.isSome) = true := by rfl) (hks : (backToKw pos (keywordEach kws X.env)).filterMap (·.1) = ks := by rfl)
    (hpl : ((backTo pos (starEach [] X.env)).any (·.1) || (backToKw pos (keywordEach kws X.env)).any (·.1.isNone)) = false := by rfl)
    (ht : eval (.Call (.Attribute o m apos) [] kws pos) X.env = (do
      let ov ← eval o X.env
      standAt apos.atName
      let (f, first) ← holding [ov] (getMethod ov m pl)
      callWith pos f first (backTo pos (starEach [] X.env)) (backToKw pos (keywordEach kws X.env))) := by rfl) :
    PE X (.Call (.Attribute o m apos) [] kws pos) (tMethK C m ks.length sp gV E ta tk) := by
  refine ⟨fun pins s σ H Q I h => ?_⟩
  refine PySem.W.methodCall_KW (pl := pl) (thn (he.run pins s σ H _ I h) fun u s1 ⟨x, H1, I1, rx, a, dx, fs, ex, ea, l, q⟩ => ?_) ht
  subst ex
  obtain rfl : u = Value.ref a := rx
  refine getmeth_ok I1 ea c hm l ?_
  refine PySem.W.callWith_KW0 (first := [.ref a]) (h₀ := X.base) I.ok.mod.kin hm.kp hall ?_ hpl
  refine thn (hkw.run pos pins s1 σ H1 _ I1 q) fun ws s2 ⟨zs, H2, I2, rz, hz, q2⟩ => ⟨I2.kIn, ?_⟩
  rw [hks]
  have r1 : Vals [V.ref a] [Value.ref a] := .cons rfl .nil
  have r2 := hb.rel r1 rz
  refine wpAny_call (codeAny_mono (F.run X.A X.stack s2 H2 ⟨[.ref a], ks.zip ws⟩ (g [.ref a] ws) (gV [.ref a] zs) Q E hr I2.env0 (hb.to s2 [.ref a] ws I2.kIn rfl (rz.length.symm.trans hz)) r2 q2) fun r s' hq => ?_)
  match r, hq with
  | .ok (.ret u), hq => exact I2.after hq
  | .ok .next, hq => exact False.elim hq
  | .ok .brk, hq => exact False.elim hq
  | .ok .cont, hq => exact False.elim hq
  | .error e, hq => exact hx pins σ H2 s2 e s' I2 hq
end

/-! ### tuples that are known to the object: their methods -/
def TupO (H : Hp) (a : Addr) (xs : List V) : Prop := ∃ o : Obj, H a = some (.frz o (.tup xs)) ∧ o.dict = none
theorem TupO.sqt {K : PySem.W.Frag} {H : Hp} {a : Addr} {xs : List V} (h : TupO H a xs) : SqT K H a xs := .inl (.inr ⟨_, h.choose_spec.1⟩)
theorem TupO.same {H H' : Hp} {a : Addr} {xs : List V} (h : TupO H a xs) (s : ∀ b o, H b = some o → H' b = some o) : TupO H' a xs := ⟨_, s _ _ h.choose_spec.1, h.choose_spec.2⟩
/-- tuple(list): a new one; tuple(tuple): itself -/
def rTupF (K : PySem.W.Frag) : List V → Hp → VK → Prop := fun xs H Q => ∃ p ys, xs = [.ref p] ∧ ((SqL K H p ys ∧ ∀ (l : Addr) (o : Obj), H l = none → o.dict = none → Q (.ref l) (upd H l (.frz o (.tup ys)))) ∨ (SqT K H p ys ∧ Q (.ref p) H))
def tTupM (r : V → List V → Hp → VK → Prop) (to : TE) (t : TA) : TE := fun σ H Q => to σ H fun x H1 => (∃ a xs, x = .ref a ∧ TupO H1 a xs) ∧ t σ H1 fun vs H2 => r x vs H2 Q
section
variable {X : Cx} {o e : Expr} {es : List Expr} {to : TE} {t : TA} {name : Str} {apos cpos : Pos} {id : String} {r : V → List V → Hp → VK → Prop}
theorem call_tupF : CallR X (.type "tuple") (rTupF X.K) := by
  intro pins s σ H xs us Q I r h
  obtain ⟨p, ys, rfl, h⟩ := h
  obtain ⟨u, rfl, rx⟩ := vals1 r
  obtain rfl : u = Value.ref p := rx
  rcases h with ⟨hq, q⟩ | ⟨hq, q⟩
  · obtain ⟨its, rv, pl, hz⟩ := I.list hq
    have hl := rv.length
    refine call_tuple_list pl.isList (fun h' kp => ?_) (by simp only [List.size_toArray]; omega)
    have I1 : Inv X pins σ H { s with heap := h' } := I.kept (t' := s.toks) kp
    have at1 := Heap.get?_push_size h' (o := { cls := .type "tuple", data := .seq its.toArray }) rfl
    have I2 : Inv X pins σ (upd H h'.objs.size (.frz { cls := .type "tuple", data := .seq its.toArray } (.tup ys))) { s with heap := h'.push { cls := .type "tuple", data := .seq its.toArray } } :=
      I1.laid (t' := s.toks) (fun b o e => Heap.get?_push_of_some _ e) (Nat.le_refl _) ⟨at1, hz, its, rv, IsTup.new _ _⟩
    exact ⟨.ref h'.objs.size, _, I2, rfl, q _ _ (I1.hok.fresh (Nat.le_refl _)) rfl⟩
  · obtain ⟨its, rv, pl, hz⟩ := I.tuple hq
    exact call_tuple_same pl ⟨.ref p, H, I, rfl, q⟩
theorem pe_tupM (slot : Slot "tuple" name id) (hty : typeOf (.builtin id) = pure (.type "method_descriptor")) (hm : MtR X id r) (ho : PE X o to) (ha : PA X (e :: es) t)
    (hbase : attributeBase o name X.env (eval o X.env) = eval o X.env := by rfl)
    (hfew : ((backTo cpos (starEach (e :: es) X.env)).all (fun x => !x.1) && (backToKw cpos (keywordEach [] X.env)).all (fun x => x.1.isSome)
      && decide ((e :: es).length + ([] : List Keyword).length + (if ([] : List Keyword).isEmpty then 0 else 1) < 30)) = true := by rfl)
    (hline : (apos.endLine == cpos.line) = true := by rfl) (hs : starEach (e :: es) X.env = (false, eval e X.env) :: starEach es X.env := by rfl) (hp : (backTo cpos (starEach es X.env)).any (·.1) = false := by rfl) :
    PE X (.Call (.Attribute o name apos) (e :: es) [] cpos) (tTupM r to t) := by
  refine ⟨fun pins s σ H Q I h => ?_⟩
  refine wpAny_Call_method_late hbase hfew hline rfl (thn (ho.run pins s σ H _ I h) fun v s1 ⟨x, H1, I1, r1, ⟨a, xs, ex, ob, ea, ed⟩, q1⟩ => ?_)
  subst ex
  obtain rfl : v = Value.ref a := r1
  obtain ⟨g1, _, _, _, og, hog, hcg, _⟩ := (show ObjOk X.prog X.w H1 s1.heap a (.frz ob (.tup xs)) from I1.hok a _ ea)
  refine ⟨"tuple", id, PySem.F.plainAttrs_tuple, slot, hty, ⟨og, hog, hcg⟩, fun b hb => ?_, ?_⟩
  · cases hb
    exact ⟨ob, g1, ed⟩
  · have hA := ha.run cpos pins s1 σ H1 _ I1 q1
    rw [hs] at hA ⊢
    refine Calls.callWith_builtin (show (false || (backTo cpos (starEach es X.env)).any (·.1)) = false from by rw [hp]; rfl) (Calls.evalArgs_plain ?_)
    exact thn hA fun us s2 ⟨vs, H2, I2, r2, q2⟩ => hm pins s2 σ H2 (.ref a) vs (.ref a) us Q I2 rfl r2 q2
end

/-! ### the end of a law whose def is promised while no repr is under way -/
theorem law_callg {P : Program} {w : World} {K : PySem.W.Frag} {mg mb : Str → Option Value} {k : Nat} {fa a : Addr} {sp : Sp} {st : Shared} {us : List Value} {ns : List Int}
    (KX : K.In st.heap) (hn : st.heap.Ns mainGlobals mg) (hb : st.heap.Ns builtinsNs mb) (hbb : ∀ x : Str, x ≠ "__name__" → mb x = bootBuiltins x) (nl : st.heap.NoLimit) (hgens : st.gens = #[])
    (ha : st.heap.get? a = some { cls := .type "list", data := .seq us.toArray }) (hi : IntsAre us ns) (hz : ns.length ≤ sizeLine) (hr : Room k callerA)
    (F : ∀ base : Heap, K.In base → base.Ns mainGlobals mg → FnG P w K mg base k fa sp)
    (hsp : ∀ H : Hp, SqL K H a (ns.map V.int) → sp [.ref a] H (fun v _ => v = .bl true) E0) :
    codeAny (model P w) callerA (.call (.ref fa) ⟨[.ref a], []⟩) (fun r s' => r = .ok (.ret (.bool true)) ∧ OldK st.heap s'.heap ∧ s'.os = st.os ∧ AllBare s'.gens) st := by
  have rv := vals_ints hi
  have hlen := hi.length
  have key : ∀ H : Hp, Only H → SqL K H a (ns.map V.int) → HOk P w H st.heap → (∀ b, H b ≠ none → b = a) → (H a ≠ none → K.lookup a = none) →
      codeAny (model P w) callerA (.call (.ref fa) ⟨[.ref a], []⟩) (fun r s' => r = .ok (.ret (.bool true)) ∧ OldK st.heap s'.heap ∧ s'.os = st.os ∧ AllBare s'.gens) st := by
    intro H hO hS hok hA hK
    have offD : ∀ {b : Addr} {o : Obj} {es : Array DictEntry} {ep : Nat}, st.heap.get? b = some o → o.data = .dict es ep → H b = none := by
      intro b o es ep e d
      cases q : H b with
      | none => rfl
      | some v =>
        obtain rfl : b = a := hA b (by rw [q]; simp)
        rw [ha] at e
        cases e
        exact nomatch d
    have offK : ∀ {b : Addr} {o : Obj}, K.lookup b = some o → H b = none := by
      intro b o e
      cases q : H b with
      | none => rfl
      | some v =>
        obtain rfl : b = a := hA b (by rw [q]; simp)
        rw [hK (by rw [q]; simp)] at e
        cases e
    have toNs : ∀ {b : Addr} {m : Str → Option Value}, st.heap.Ns b m → (hidT st.heap H).Ns b m := fun ⟨o, es, ep, e, d, r⟩ => ⟨o, es, ep, hidT_get e (offD e d), d, r⟩
    have kb : K.In (hidT st.heap H) := fun b o e => hidT_get (KX b o e) (offK e)
    obtain ⟨mc, l1, l2⟩ := nl
    have M : Mod K mg (hidT st.heap H) := ⟨kb, toNs hn, ⟨mb, toNs hb, hbb⟩, ⟨mc, toNs l1, l2⟩⟩
    have e0 : Env0 P w K mg (hidT st.heap H) callerA [] st H :=
      ⟨rfl, M, fun b o e => of_hidT e, Nat.le_of_eq (hidT_size _ _), trivial, fun b hb => absurd (show b ∈ ([] : List Addr) from hb) (by simp), hok, .of_eq hgens⟩
    refine codeAny_mono (F _ kb (toNs hn) callerA [] st H [.ref a] [.ref a] _ rfl hr e0 (.cons rfl .nil) (hsp H hS)) fun r s' h => ?_
    match r, h with
    | .error e, h => exact h.elim
    | .ok .next, h => exact h.elim
    | .ok .brk, h => exact h.elim
    | .ok .cont, h => exact h.elim
    | .ok (.ret u), h =>
      obtain ⟨v, H', os, bare, un, hok', rr, q⟩ := h
      obtain rfl : v = .bl true := q
      obtain rfl : u = Value.bool true := rr
      refine ⟨rfl, OldK.of_keep fun b o e => ?_, os, bare⟩
      cases q : H b with
      | none => exact un.keep b o e q (fun z => absurd (show b ∈ ([] : List Addr) from z) (by simp)) (by simp)
      | some v =>
        rcases hO b with z | ⟨ob, xs, z⟩
        · rw [q] at z
          cases z
        · obtain ⟨g1, _⟩ := hok b _ z
          obtain ⟨g2, _⟩ := hok' b _ (un.frzs b ob _ z)
          rw [e] at g1
          cases g1
          exact g2
  cases hk : K.lookup a with
  | some o =>
    have e := KX a o hk
    rw [ha] at e
    cases e
    refine key (fun _ => none) (fun _ => .inl rfl) (.inr ⟨_, us.toArray, _, hk, rfl, rfl, rfl, ?_, by simpa using rv⟩) (fun b u z => nomatch z) (fun b z => absurd rfl z) fun z => absurd rfl z
    rw [List.size_toArray, hlen]
    exact hz
  | none =>
    let T : HO := .frz { cls := .type "list", data := .seq us.toArray } (.lst (ns.map V.int))
    refine key (fun b => if b = a then some T else none) (fun b => ?_) (.inl (.inr ⟨_, if_pos rfl⟩)) (fun b u z => ?_) (fun b z => ?_) fun _ => hk
    · by_cases hb : b = a
      · exact .inr ⟨_, _, if_pos hb⟩
      · exact .inl (if_neg hb)
    · by_cases hb : b = a
      · subst hb
        have z' := (if_pos rfl).symm.trans z
        cases z'
        exact ⟨ha, by rw [List.length_map]; exact hz, us, _, rv, ha⟩
      · have z' := (if_neg hb).symm.trans z
        cases z'
    · by_cases hb : b = a
      · exact hb
      · exact absurd (if_neg hb) z

theorem walk_g {l : PySem.W.OpenLaw} {n k : Nat} {q : Program} {loose : List Str} {XP : (Str → Option Value) → Heap → Prop} {YP : World → Heap → Prop} {d : DefRec} {K : Params → PySem.W.Frag} {sp : PySem.W.Frag → Sp}
    (hn : l.most = some n) (hn2 : n ≤ sizeLine) (hdf : d.params.defaults = []) (hr : Room k callerA) (hY : ∀ (w : World) (h : Heap), YP w h → (K w.params).In h)
    (F : ∀ (w : World) (mg : Str → Option Value) (fa : Addr) (h : Heap), (K w.params).In h → h.Ns mainGlobals mg → mg d.name = some (.ref fa) →
      ∀ base : Heap, (K w.params).In base → base.Ns mainGlobals mg → FnG l.prog w (K w.params) mg base k fa (sp (K w.params)))
    (hsp : ∀ (K : PySem.W.Frag) (H : Hp) (a : Addr) (ns : List Int), ns.length ≤ n → SqL K H a (ns.map V.int) → sp K [.ref a] H (fun v _ => v = .bl true) E0) :
    PySem.W.WalkO q loose XP YP l.row.toRowW d [] (fun f vs => PySem.call f vs) := by
  refine Att.attach_call hn hdf fun w s₀ s₁ mg mb fa o pm cd doc a vs ns G Y ho hd hcd hmg hobj hints hlen hg => ?_
  have KX := hY w _ Y
  exact law_callg KX G.T.g G.T.b G.T.builtins G.T.nolimit hg hobj hints (Nat.le_trans hlen hn2) hr (F w mg fa _ KX G.T.g hmg) fun H hS => hsp _ H a ns hlen hS
end MH
/-! The mathematics: texts in order, names, menus. -/
namespace MH
open PySem PySem.Spec PyProof.Rows L2

/-! ### the order of texts -/
def ltS (x y : Str) : Prop := x.cps.toList < y.cps.toList
instance (x y : Str) : Decidable (ltS x y) := inferInstanceAs (Decidable (x.cps.toList < y.cps.toList))
theorem lst_lt_irrefl : ∀ a : List Nat, ¬ a < a := fun a h => List.lt_irrefl a h
theorem ltS_irrefl (x : Str) : ¬ ltS x x := lst_lt_irrefl _
theorem ltS_trans {x y z : Str} (a : ltS x y) (b : ltS y z) : ltS x z := List.lt_trans a b
theorem ltS_tri (x y : Str) : ltS x y ∨ x = y ∨ ltS y x := by
  by_cases h : ltS x y
  · exact .inl h
  · by_cases h2 : ltS y x
    · exact .inr (.inr h2)
    · refine .inr (.inl ?_)
      have e : x.cps.toList = y.cps.toList := List.le_antisymm (List.not_lt.mp h2) (List.not_lt.mp h)
      exact Str.ext' (Array.toList_inj.mp e)
theorem risingS_pw : ∀ (p : Str) (l : List Str), risingS p l = true → l.Pairwise (fun a b => ¬ ltS b a) ∧ ∀ x ∈ l, ¬ ltS x p
  | p, [], _ => ⟨List.Pairwise.nil, fun _ h => nomatch h⟩
  | p, x :: r, h => by
    have h' : (!ltCps x.cps.toList p.cps.toList && risingS x r) = true := h
    rw [Bool.and_eq_true, ltCps_eq] at h'
    obtain ⟨h1, h2⟩ := h'
    obtain ⟨q1, q2⟩ := risingS_pw x r h2
    have n1 : ¬ ltS x p := by
      intro z
      rw [decide_eq_true (show x.cps.toList < p.cps.toList from z)] at h1
      cases h1
    refine ⟨List.Pairwise.cons (fun y hy => q2 y hy) q1, fun y hy => ?_⟩
    rcases List.mem_cons.mp hy with rfl | hy
    · exact n1
    · intro z
      rcases ltS_tri x p with a | a | a
      · exact n1 a
      · subst a
        exact q2 y hy z
      · exact q2 y hy (ltS_trans z a)
theorem sortedS_pw : ∀ {l : List Str}, sortedS l = true → l.Pairwise (fun a b => ¬ ltS b a)
  | [], _ => List.Pairwise.nil
  | x :: r, h => List.Pairwise.cons (risingS_pw x r h).2 (risingS_pw x r h).1
/-- two arrangements in order of the same texts are one -/
theorem sorted_one {l m : List Str} (p : l.Perm m) (hl : sortedS l = true) (hm : sortedS m = true) : l = m :=
  p.eq_of_pairwise (fun a b _ _ h1 h2 => by
    rcases ltS_tri a b with z | z | z
    · exact absurd z h2
    · exact z
    · exact absurd z h1) (sortedS_pw hl) (sortedS_pw hm)
/-- in order and none twice: each before the next -/
theorem sorted_lt {l : List Str} (hn : l.Nodup) (h : sortedS l = true) : l.Pairwise ltS := by
  have a := sortedS_pw h
  have b : l.Pairwise (fun x y => x ≠ y) := hn
  refine (List.pairwise_and_iff.mpr ⟨a, b⟩).imp fun {x y} z => ?_
  rcases ltS_tri x y with q | q | q
  · exact q
  · exact absurd q z.2
  · exact absurd q z.1

/-! ### names -/
def letters : Str := "abcdefghijklmnopqrstuvwxyz"
def digits : Str := "0123456789"
def isL (c : Nat) : Bool := decide (c ∈ letters.cps.toList)
def isD (c : Nat) : Bool := decide (c ∈ digits.cps.toList)
def nameOk (z : Str) : Bool := decide (1 ≤ z.length) && (decide (z.length ≤ 8) && (isL (z.cps.toList.getD 0 0) && z.cps.toList.all fun c => isL c || isD c))
def pool : List Str := ["a", "a0", "aa", "ab", "b", "b9", "ba", "c", "d", "k1", "q", "zz", "zzzzzzzz"]
theorem pool_ok : ∀ z ∈ pool, nameOk z = true := by decide +kernel
theorem pool_nd : pool.Nodup := by decide +kernel

/-! ### menus -/
def menusUp (l : List Str) : List (List Str) := l.foldl (fun acc x => acc ++ acc.map (· ++ [x])) [[]]
theorem menusUp_snoc (l : List Str) (x : Str) : menusUp (l ++ [x]) = menusUp l ++ (menusUp l).map (· ++ [x]) := by
  unfold menusUp
  rw [List.foldl_append]
  rfl
theorem foldl_head (f : List (List Str) → Str → List (List Str)) (hf : ∀ a r x, ∃ r', f (a :: r) x = a :: r') : ∀ (l : List Str) (a : List Str) (r : List (List Str)), ∃ r', l.foldl f (a :: r) = a :: r'
  | [], a, r => ⟨r, rfl⟩
  | x :: l, a, r => by
    obtain ⟨r', e⟩ := hf a r x
    rw [List.foldl_cons, e]
    exact foldl_head f hf l a r'
theorem menusUp_sub : ∀ (n : Nat) (l : List Str), l.length = n → ∀ c ∈ menusUp l, c.Sublist l
  | 0, l, h, c, hc => by
    obtain rfl : l = [] := List.length_eq_zero_iff.mp h
    obtain rfl : c = [] := by simpa [menusUp] using hc
    exact List.Sublist.refl _
  | n + 1, l, h, c, hc => by
    obtain ⟨m, x, rfl⟩ : ∃ m x, l = m ++ [x] := ⟨l.dropLast, l.getLast (by intro e; rw [e] at h; cases h), (List.dropLast_concat_getLast _).symm⟩
    rw [menusUp_snoc, List.mem_append, List.mem_map] at hc
    have hm : m.length = n := by
      rw [List.length_append] at h
      exact Nat.succ.inj h
    rcases hc with hc | ⟨d, hd, rfl⟩
    · exact (menusUp_sub n m hm c hc).trans (List.sublist_append_left _ _)
    · exact (menusUp_sub n m hm d hd).append (List.Sublist.refl _)
/-- all menus but the empty one -/
def menusOf (l : List Str) : List (List Str) := (menusUp l).tail
theorem menusUp_len : ∀ (n : Nat) (l : List Str), l.length = n → (menusUp l).length = 2 ^ n
  | 0, l, h => by
    obtain rfl : l = [] := List.length_eq_zero_iff.mp h
    rfl
  | n + 1, l, h => by
    obtain ⟨m, x, rfl⟩ : ∃ m x, l = m ++ [x] := ⟨l.dropLast, l.getLast (by intro e; rw [e] at h; cases h), (List.dropLast_concat_getLast _).symm⟩
    have hm : m.length = n := by
      rw [List.length_append] at h
      exact Nat.succ.inj h
    rw [menusUp_snoc, List.length_append, List.length_map, menusUp_len n m hm, Nat.pow_succ]
    omega
theorem menusUp_ne : ∀ (n : Nat) (l : List Str), l.length = n → ∃ r, menusUp l = [] :: r ∧ ∀ c ∈ r, c ≠ []
  | 0, l, h => by
    obtain rfl : l = [] := List.length_eq_zero_iff.mp h
    exact ⟨[], rfl, fun _ h => nomatch h⟩
  | n + 1, l, h => by
    obtain ⟨m, x, rfl⟩ : ∃ m x, l = m ++ [x] := ⟨l.dropLast, l.getLast (by intro e; rw [e] at h; cases h), (List.dropLast_concat_getLast _).symm⟩
    have hm : m.length = n := by
      rw [List.length_append] at h
      exact Nat.succ.inj h
    obtain ⟨r, e, hr⟩ := menusUp_ne n m hm
    refine ⟨r ++ (menusUp m).map (· ++ [x]), by rw [menusUp_snoc, e]; rfl, fun c hc => ?_⟩
    rcases List.mem_append.mp hc with hc | hc
    · exact hr c hc
    · obtain ⟨d, _, rfl⟩ := List.mem_map.mp hc
      simp
theorem menusOf_ok {l c : List Str} (h : c ∈ menusOf l) : c ≠ [] ∧ c.Sublist l := by
  obtain ⟨r, e, hr⟩ := menusUp_ne l.length l rfl
  have h' : c ∈ (menusUp l).tail := h
  refine ⟨?_, menusUp_sub l.length l rfl c (List.mem_of_mem_tail h')⟩
  rw [e] at h'
  exact hr c h'
end MH
/-! Data as repr shows it: its length, and what == and repr ask. -/
namespace MH
open PySem PySem.Spec PyProof.Rows L2
mutual
def cost : PyData → Nat
  | .none => 4
  | .bool _ => 5
  | .int _ => 101
  | .str x => 10 * x.length + 2
  | .list xs => costAll xs + 3
  | .tuple xs => costAll xs + 3
  | .dict _ => 0
def costAll : List PyData → Nat
  | [] => 0
  | x :: xs => cost x + 2 + costAll xs
end
mutual
def okD : PyData → Bool
  | .none => true
  | .bool _ => true
  | .int i => decide (i.natAbs < 10 ^ 100)
  | .str x => PyData.strOk x
  | .list xs => okDs xs
  | .tuple xs => okDs xs
  | .dict _ => false
def okDs : List PyData → Bool
  | [] => true
  | x :: xs => okD x && okDs xs
end
theorem strOk_lt {x : Str} (h : PyData.strOk x = true) : ∀ c ∈ x.cps.toList, c < 16 ^ 8 := by
  intro c hc
  unfold PyData.strOk at h
  rw [← Array.all_toList, List.all_eq_true] at h
  have := of_decide_eq_true (h c hc)
  omega
theorem okDs_len (xs : List PyData) : xs.length * 2 ≤ costAll xs := by
  induction xs with
  | nil => exact Nat.le_refl _
  | cons x xs ih =>
    show (xs.length + 1) * 2 ≤ cost x + 2 + costAll xs
    omega
mutual
theorem shown_le : ∀ d : PyData, okD d = true → d.shown.length ≤ cost d
  | .none, _ => by decide +kernel
  | .bool true, _ => by decide +kernel
  | .bool false, _ => by decide +kernel
  | .int i, h => by
    have q := int_text_length_le10 (k := 100) (by decide) (of_decide_eq_true (show decide (i.natAbs < 10 ^ 100) = true from h))
    show (Str.ofString (toString i)).length ≤ 101
    rw [PySem.ofString_length]
    exact q
  | .str x, h => by
    rw [PyData.shown]
    exact StrLaws.reprText_len x (strOk_lt h)
  | .list xs, h => by
    have q := shownAll_le xs h
    have q2 := listText_len_le (PyData.shownAll xs)
    rw [PyData.shown]
    show _ ≤ costAll xs + 3
    omega
  | .tuple xs, h => by
    have q := shownAll_le xs h
    have q2 := tupleText_len_le (PyData.shownAll xs)
    rw [PyData.shown]
    show _ ≤ costAll xs + 3
    omega
  | .dict _, h => nomatch h
theorem shownAll_le : ∀ xs : List PyData, okDs xs = true → ((PyData.shownAll xs).map (·.length)).sum + 2 * (PyData.shownAll xs).length ≤ costAll xs
  | [], _ => by simp [PyData.shownAll]
  | x :: xs, h => by
    have h' : (okD x && okDs xs) = true := h
    rw [Bool.and_eq_true] at h'
    have a := shown_le x h'.1
    have b := shownAll_le xs h'.2
    rw [PyData.shownAll, List.map_cons, List.sum_cons, List.length_cons]
    show _ ≤ cost x + 2 + costAll xs
    omega
end
mutual
theorem ok_show : ∀ d : PyData, okD d = true → d.showable = true
  | .none, _ => by simp only [PyData.showable]
  | .bool _, _ => by simp only [PyData.showable]
  | .int i, h => by
    have q := of_decide_eq_true (show decide (i.natAbs < 10 ^ 100) = true from h)
    rw [PyData.showable]
    refine decide_eq_true ?_
    by_cases z : i.natAbs = 0
    · rw [z]
      decide
    · rw [Nat.log2_lt z]
      exact Nat.lt_of_lt_of_le q (by decide +kernel)
  | .str _, _ => by simp only [PyData.showable]
  | .list xs, h => by
    rw [PyData.showable]
    exact ok_showAll xs h
  | .tuple xs, h => by
    rw [PyData.showable]
    exact ok_showAll xs h
  | .dict _, h => nomatch h
theorem ok_showAll : ∀ xs : List PyData, okDs xs = true → PyData.showableAll xs = true
  | [], _ => by simp only [PyData.showableAll]
  | x :: xs, h => by
    have h' : (okD x && okDs xs) = true := h
    rw [Bool.and_eq_true] at h'
    rw [PyData.showableAll, ok_show x h'.1, ok_showAll xs h'.2]
    rfl
end
mutual
theorem ok_lay : ∀ d : PyData, okD d = true → d.canLay0 = true
  | .none, _ => by simp only [PyData.canLay0]
  | .bool _, _ => by simp only [PyData.canLay0]
  | .int _, _ => by simp only [PyData.canLay0]
  | .str x, h => by
    rw [PyData.canLay0]
    exact h
  | .list xs, h => by
    rw [PyData.canLay0]
    exact ok_layAll xs h
  | .tuple xs, h => by
    rw [PyData.canLay0]
    exact ok_layAll xs h
  | .dict _, h => nomatch h
theorem ok_layAll : ∀ xs : List PyData, okDs xs = true → PyData.canLayAll0 xs = true
  | [], _ => by simp only [PyData.canLayAll0]
  | x :: xs, h => by
    have h' : (okD x && okDs xs) = true := h
    rw [Bool.and_eq_true] at h'
    rw [PyData.canLayAll0, ok_lay x h'.1, ok_layAll xs h'.2]
    rfl
end
/-- what repr of data asks -/
structure ShowOk (K : PySem.W.Frag) (H : Hp) (a : Addr) (d : PyData) : Prop where
  dp : Dp K H (.ref a) d
  sh : d.showable = true
  nd : d.hasDict = false
  dep : d.depth ≤ 60
  len : d.shown.length ≤ sizeLine
theorem show_of {K : PySem.W.Frag} {H : Hp} {a : Addr} {d : PyData} (h : Dp K H (.ref a) d) (ok : okD d = true) (h1 : d.depth ≤ 60) (h2 : cost d ≤ 100000) : ShowOk K H a d :=
  ⟨h, ok_show d ok, PyData.hasDict_of_canLay d (ok_lay d ok), h1, Nat.le_trans (shown_le d ok) (Nat.le_trans h2 (by decide))⟩
theorem shaped_of {d : PyData} (ok : okD d = true) (h : d.depth ≤ 64) : SeqAt.shaped d = true := by
  unfold SeqAt.shaped
  rw [ok_lay d ok, decide_eq_true h]
  rfl
/-! texts in a row -/
theorem okDs_strs {ss : List Str} (h : ∀ z ∈ ss, PyData.strOk z = true) : okDs (ss.map PyData.str) = true := by
  induction ss with
  | nil => rfl
  | cons z r ih =>
    show (PyData.strOk z && okDs (r.map PyData.str)) = true
    rw [h z List.mem_cons_self, ih fun y hy => h y (List.mem_cons_of_mem _ hy)]
    rfl
theorem costAll_strs {ss : List Str} {n : Nat} (h : ∀ z ∈ ss, z.length ≤ n) : costAll (ss.map PyData.str) ≤ ss.length * (10 * n + 4) := by
  induction ss with
  | nil => exact Nat.zero_le _
  | cons z r ih =>
    show 10 * z.length + 2 + 2 + costAll (r.map PyData.str) ≤ (r.length + 1) * (10 * n + 4)
    have a := h z List.mem_cons_self
    have b := ih fun y hy => h y (List.mem_cons_of_mem _ hy)
    rw [Nat.add_mul]
    omega
theorem depth_strs : ∀ ss : List Str, PyData.depthAll (ss.map PyData.str) = 0
  | [] => by rw [List.map_nil, PyData.depthAll]
  | z :: r => by rw [List.map_cons, PyData.depthAll, depth_strs r, PyData.depth]; rfl
theorem dp_strs {K : PySem.W.Frag} {H : Hp} : ∀ ss : List Str, DpAll K H (ss.map V.str) (ss.map PyData.str)
  | [] => .nil
  | z :: r => .cons (.str z) (dp_strs r)
theorem isL_le {c : Nat} (h : isL c = true) : c < 128 := by
  have q : ∀ c ∈ letters.cps.toList, c < 128 := by decide +kernel
  exact q c (of_decide_eq_true h)
theorem isD_le {c : Nat} (h : isD c = true) : c < 128 := by
  have q : ∀ c ∈ digits.cps.toList, c < 128 := by decide +kernel
  exact q c (of_decide_eq_true h)
theorem nameOk_len {z : Str} (h : nameOk z = true) : z.length ≤ 8 := by
  unfold nameOk at h
  simp only [Bool.and_eq_true, decide_eq_true_eq] at h
  exact h.2.1
theorem nameOk_str {z : Str} (h : nameOk z = true) : PyData.strOk z = true := by
  unfold nameOk at h
  simp only [Bool.and_eq_true, decide_eq_true_eq] at h
  have q := h.2.2.2
  rw [List.all_eq_true] at q
  unfold PyData.strOk
  rw [← Array.all_toList, List.all_eq_true]
  intro c hc
  refine decide_eq_true ?_
  have w := q c hc
  rw [Bool.or_eq_true] at w
  rcases w with w | w
  · have := isL_le w
    omega
  · have := isD_le w
    omega
end MH
/-! A tuple taken from the back: t[::-1]. -/
namespace MH
open PySem PySem.Spec PyProof.Rows L2 PySem.SeqAt HT
section
variable {prog : Program} {w : World} {A : Around} {E : Value → Shared → Prop} {s : Shared}
theorem applied_back {sl : Addr} {vk : Value} {n : Nat} {Q : Int × Int × Nat → Shared → Prop} (hs : s.heap.IsSliceOf sl .none .none vk) (pk : IsPart vk (some (-1)))
    (h : Q ((n : Int) - 1, -1, n) s) : wpAny (model prog w) A (Builtin.Slice.sliceApplied (.ref sl) (pure (n : Int))) Q E s := by
  obtain ⟨os, hos, hcs, hds⟩ := id hs
  unfold Builtin.Slice.sliceApplied Builtin.Slice.sliceFields
  refine wpAny_bind (wpAny_bind (wpAny_field hos hds (x := .none) rfl (wpAny_bind (wpAny_field hos hds (x := .none) rfl (wpAny_bind (wpAny_field hos hds (x := vk) rfl (wpAny_pure ?_)))))))
  refine wpAny_bind (slicePart_ pk ?_)
  show wpAny _ _ (if ((-1 : Int) == 0) = true then _ else _) _ _ s
  rw [if_neg (by decide)]
  refine wpAny_bind (slicePart_none (wpAny_bind (slicePart_none (wpAny_bind (wpAny_pure ?_)))))
  have e : Builtin.Slice.sliceAdjust none none (-1) (n : Int) = ((n : Int) - 1, -1) := by
    unfold Builtin.Slice.sliceAdjust
    simp
  show wpAny _ _ (match Builtin.Slice.sliceAdjust none none (-1) (n : Int) with | (lo, hi) => pure (lo, (-1 : Int), Builtin.Slice.slicePlaces lo hi (-1))) _ _ s
  rw [e]
  have e2 : Builtin.Slice.slicePlaces ((n : Int) - 1) (-1) (-1) = n := by
    unfold Builtin.Slice.slicePlaces
    simp
    try omega
  show wpAny _ _ (pure ((n : Int) - 1, (-1 : Int), Builtin.Slice.slicePlaces ((n : Int) - 1) (-1) (-1))) _ _ s
  rw [e2]
  exact wpAny_pure h
theorem filter_congr {α β : Type} {f g : α → Option β} : ∀ {l : List α}, (∀ x ∈ l, f x = g x) → l.filterMap f = l.filterMap g
  | [], _ => rfl
  | x :: l, h => by
    rw [List.filterMap_cons, List.filterMap_cons, h x List.mem_cons_self, filter_congr fun y hy => h y (List.mem_cons_of_mem _ hy)]
theorem pick_back (xs : Array Value) : ((List.range xs.size).filterMap fun (m : Nat) => xs[((xs.size : Int) - 1 + (m : Int) * (-1)).toNat]?).toArray = xs.toList.reverse.toArray := by
  have e : (List.range xs.size).filterMap (fun (m : Nat) => xs[((xs.size : Int) - 1 + (m : Int) * (-1)).toNat]?) = ((List.range xs.size).map (fun k => xs.size - 1 - k)).filterMap (xs[·]?) := by
    rw [List.filterMap_map]
    refine filter_congr fun m hm => ?_
    have := List.mem_range.mp hm
    have e2 : ((xs.size : Int) - 1 + (m : Int) * (-1)).toNat = xs.size - 1 - m := by omega
    rw [e2]
    rfl
  rw [e, PySem.W.krv_range, List.filterMap_reverse, PySem.W.krv_all]
theorem getItem_back {t sl : Addr} {items : Array Value} {vk : Value} {Q : Value → Shared → Prop} (ht : IsTup s.heap t items) (hs : s.heap.IsSliceOf sl .none .none vk) (pk : IsPart vk (some (-1)))
    (h : Q (.ref s.heap.objs.size) { s with heap := s.heap.push { cls := .type "tuple", data := .seq items.toList.reverse.toArray } })
    (hsz : items.size ≤ sizeLine) : wpAny (model prog w) A (getItem (.ref t) (.ref sl)) Q E s := by
  have htake : sizeOk (.seq items.toList.reverse.toArray) := by
    show items.toList.reverse.toArray.size ≤ sizeLine
    rw [List.size_toArray, List.length_reverse, Array.length_toList]
    exact hsz
  obtain ⟨os, hos, hcs, hds⟩ := id hs
  have hTs : s.TypeIs (.ref sl) "slice" := ⟨os, hos, hcs⟩
  unfold getItem
  try with_reducible refine wpAny_holding ?_
  first | refine wpAny_bind (wpAny_pure ?_) | skip
  refine wpAny_bind (wpAny_sequenceKey ht.typeIs (by decide) ?_)
  refine wpAny_bind (wpAny_callSpecial?_slot (name := Str.ofString "__getitem__") ht.typeIs PyProof.Rows.slot_tuple_getitem
    (wpAny_call_entry PyProof.Rows.slot_tuple_getitem ht.typeIs entry_tuple_getitem ?_ (args_tuple_getitem _ _)))
  show wpAny _ _ (Builtin.Tuple.tupleItemsOf (.ref t) >>= _) _ _ s
  refine wpAny_bind (tupleItemsOf_ ht ?_)
  refine wpAny_bind (wpAny_typeOf hTs ?_)
  rw [if_pos (by decide)]
  refine wpAny_bind (applied_back hs pk ?_)
  have hno : ¬ (((items.size : Int) - 1 == 0 && (-1 : Int) == 1 && items.size == items.size) = true) := by
    rw [show ((-1 : Int) == 1) = false from rfl, Bool.and_false, Bool.false_and]
    exact Bool.false_ne_true
  show wpAny _ _ (if ((items.size : Int) - 1 == 0 && (-1 : Int) == 1 && items.size == items.size) = true then _ else _) _ _ s
  rw [if_neg hno, pick_back]
  first
    | exact wpAny_bind (m := Builtin.Tuple.tupleExact _) (wpAny_newObj_type (wpAny_pure ⟨_, rfl, wpAny_pure h⟩) htake)
    | exact wpAny_bind (m := Builtin.Tuple.tupleExact _) (wpAny_newObj_type (wpAny_bind (wpAny_pure (wpAny_pure ⟨_, rfl, wpAny_pure h⟩))) htake)
    | exact wpAny_bind (wpAny_bind (m := Builtin.Tuple.tupleExact _) (wpAny_newObj_type (wpAny_pure (wpAny_pure ⟨_, rfl, wpAny_pure h⟩)) htake))
    | exact wpAny_bind (wpAny_bind (m := Builtin.Tuple.tupleExact _) (wpAny_newObj_type (wpAny_pure ⟨_, rfl, wpAny_pure h⟩) htake))
end
def tBackT (K : PySem.W.Frag) (te : TE) : TE := fun σ H Q => te σ H fun x H1 => ∃ a xs, x = .ref a ∧ SqT K H1 a xs ∧ ∀ p, H1 p = none → Q (.ref p) (upd H1 p (.tup xs.reverse))
/-- t[::-1] -/
theorem pe_backT {X : Cx} {e : Expr} {te : TE} {j : Nat} {pos p2 p3 p4 : Pos} (he : PE X e te) : PE X (.Subscript e (.Slice none none (some (.UnaryOp .USub (.Constant (.int 1) j p4) p3)) p2) pos) (tBackT X.K te) := by
  refine ⟨fun pins s σ H Q I h => ?_⟩
  refine Subscript_ (thn (he.run pins s σ H _ I h) fun v s1 ⟨x, H1, I1, r1, a, xs, ex, hx, q⟩ => ?_)
  subst ex
  obtain rfl : v = Value.ref a := r1
  refine wpAny_Slice ?_
  rw [evalPart_none, evalPart_some]
  refine wpAny_pure (wpAny_pure ?_)
  refine thn ((pe_un un_neg pe_int).run pins s1 σ H1 (fun y H2 => y = .int (-1) ∧ H2 = H1) I1 ⟨1, rfl, rfl, rfl⟩) fun vk s2 ⟨y, H2, I2, ry, ey, eH⟩ => ?_
  subst ey
  subst eH
  obtain ⟨tk, rfl⟩ := ry
  have I3 : Inv X pins σ H2 { s2 with heap := s2.heap.push { cls := .type "slice", data := .fields #[.none, .none, .int (-1) tk] } } := I2.kept (t' := s2.toks) fun b ob q => Heap.get?_push_of_some _ q
  obtain ⟨its, r, ht, hz⟩ := I3.tuple hx
  have hsl := Heap.IsSliceOf.new s2.heap .none .none (.int (-1) tk)
  refine tail_any (ops := [.ref a, .ref s2.heap.objs.size]) ht.typeIs PyProof.Rows.slot_tuple_getitem.lookup (getItem_back ht hsl (.int _ _) ?_ (by rw [List.size_toArray, ← r.length]; exact hz)) (by with_unfolding_all rfl)
  refine ⟨.ref _, _, I3.laid (t' := s2.toks) (o := .tup xs.reverse) (fun b ob q => Heap.get?_push_of_some _ q) (Nat.le_refl _) ?_, rfl, q _ (I3.hok.fresh (Nat.le_refl _))⟩
  exact ⟨by rw [List.length_reverse]; exact hz, _, r.reverse, IsTup.new _ _⟩
end MH
/-! Own special methods of instances: -o, o == p, o != p, str(o). -/
namespace MH
open PySem PySem.Spec PyProof.Rows L2

section
variable {prog : Program} {w : World} {M : Model} {A : Around} {E : Value → Shared → Prop} {s : Shared} {K : PySem.W.Frag} {x C f L : Addr} {h₀ : Heap} {m : Str → Option Value} {ox : Obj} {od : Option Obj} {b tb : Value}
open PySem.W in
theorem ifBound_objNe {args : List Value} {Q : Option Value → Shared → Prop} (X : K.In s.heap) (I : InstAt s.heap x ox C od) (hs : findIn K (.ref C) "__ne__" = some (some (.builtin "object.__ne__")))
    (h : wpAny M A (call (.builtin "object.__ne__") (.ref x :: args)) (fun v => Q (some v)) E s) : wpAny M A (callSpecialIfBound? (.ref x) "__ne__" args) Q E s := by
  simp only [callSpecialIfBound?, bindSpecialIfBound?]
  refine wpAny_holding (wpAny_bind (wpAny_bind (wpAny_bind (I.type.here ((looks_findIn X hs).here ?_)))))
  refine wpAny_bind (wpAny_askSetting (wpAny_ite ?_))
  have fin : wpAny M A (call (.builtin "object.__ne__") ([.ref x] ++ args) >>= fun v => pure (some v)) Q E s := wpAny_bind (wpAny_mono h (fun v s' h' => wpAny_pure h') fun _ _ h' => h')
  split
  · exact wpAny_bind (wpAny_of_eq (F.cmp_object.ne.bind _) (wpAny_pure (by exact fin)))
  · exact wpAny_tryCatch (wpAny_bind (wpAny_of_eq (F.cmp_object.ne.bind _) (wpAny_pure (by exact fin))))
open PySem.W Builtin in
theorem entry_ne {Q : Fin → Shared → Prop} (hu : A.units < cLine) (X : K.In s.heap) (I : InstAt s.heap x ox C od) (hs : findIn K (.ref C) "__eq__" = some (some (.ref f))) (hf : isFn K (.ref f) = true)
    (h : wpAny M A (call (.ref f) [.ref x, b]) (fun v s' => ∃ k, v = .bool k ∧ Q (.done (.ret (.bool (!k)))) s') E s) : wpAny M A (Builtin.«object.__ne__» ⟨[.ref x, b], []⟩) Q E s := by
  unfold Builtin.«object.__ne__»
  repeat (first
    | with_reducible refine wpAny_cRoomFor hu ?_
    | (refine wpAny_bind (m := callSpecialIfBound? (.ref x) (Str.ofString "__eq__") [b]) (ifBound_K X I hs hf (wpAny_mono h (fun r s' hr => by
          obtain ⟨k, rfl, hq⟩ := hr
          repeat (first | exact hq | exact wpAny_pure hq | exact wpAny_truthy_bool hq | (refine wpAny_bind (m := truthy (.bool _)) (wpAny_truthy_bool ?_)) | wp_step)) fun _ _ e => e)))
    | wp_step)
open PySem.W in
theorem ne_K {Q : Value → Shared → Prop} (hu : A.units < cLine) (hu1 : A.in1.units < cLine) (F₀ : Fr h₀ L s.heap m) (X₀ : K.In h₀) (I : InstAt s.heap x ox C od) (hb : Looks (model prog w) s.heap (typeOf b) tb) (hn : notFirst K C tb = true)
    (hne : findIn K (.ref C) "__ne__" = some (some (.builtin "object.__ne__"))) (hm : mroIn K C (.type "object") = some true) (hs : findIn K (.ref C) "__eq__" = some (some (.ref f))) (hf : isFn K (.ref f) = true)
    (h : wpAny (model prog w) A.in1 (call (.ref f) [.ref x, b]) (fun v s' => ∃ k, v = .bool k ∧ Q (.bool (!k)) s') E s) : wpAny (model prog w) A (richCompare .NotEq (.ref x) b) Q E s := by
  have X := X₀.keeps F₀.keep
  have one : wpAny (model prog w) A (tryCompare (.ref x) "__ne__" b) (fun r s' => ∃ v, r = some v ∧ Q v s') E s := by
    unfold tryCompare
    refine wpAny_bind (ifBound_objNe X I hne (wpAny_call (codeAny_call_builtin F.cmp_object.ne.plain F.cmpEntry_ne (check_slot F.cmpKind_ne F.cmpSplit_ne (I.type.andThen (looks_mroIn X hm)) (F.cmpArgs_ne _ _)
      (entry_ne (A := A.in1) hu1 X I hs hf (wpAny_mono h (fun v s' hv => ?_) fun _ _ e => e))))))
    obtain ⟨k, rfl, hq⟩ := hv
    first | exact ⟨k, rfl, wpAny_pure ⟨_, rfl, hq⟩⟩ | exact ⟨k, rfl, wpAny_pure (wpAny_pure ⟨_, rfl, hq⟩)⟩ | exact ⟨k, rfl, ⟨_, rfl, hq⟩⟩
  unfold richCompare
  simp only [oneThing_ref]
  refine wpAny_holding (wpAny_bind (wpAny_cRoomFor hu ?_))
  rw [cmpInfo_NotEq]
  dsimp only
  refine wpAny_bind (I.type.here (wpAny_bind (hb.here ?_)))
  split
  · rename_i q
    have e : subIn K tb (.ref C) = some false := by
      rcases Bool.or_eq_true_iff.mp hn with e | e
      · rw [beq_iff_eq.mp e] at q; simp at q
      · exact beq_iff_eq.mp e
    refine wpAny_bind ((looks_subIn X e).here ?_)
    simp only [Bool.false_eq_true, if_false]
    refine wpAny_bind (wpAny_mono one (fun r s' z => ?_) fun _ _ e => e)
    obtain ⟨v, rfl, hq⟩ := z
    exact wpAny_pure hq
  · refine wpAny_bind (wpAny_pure ?_)
    simp only [Bool.false_eq_true, if_false]
    refine wpAny_bind (wpAny_mono one (fun r s' z => ?_) fun _ _ e => e)
    obtain ⟨v, rfl, hq⟩ := z
    exact wpAny_pure hq
end

section
variable {X : Cx} {CX : CXT} {k : Nat} {C f : Addr} {fd : FuncData} {ps : List Str} {sp : Sp} {E : XK}
/-- a def called from a deeper place (a builtin calls it) -/
theorem run_A {pins : List (Addr × Obj)} {σ : L2.St} {H : Hp} {s : Shared} {Q : VK} {A : Around} {us : List Value} {vs : List V} (F : FnOk X.prog X.w X.K X.mg X.base CX k f fd ps sp) (hr : Room k A) (e0 : Env0 X.prog X.w X.K X.mg X.base A X.stack s H)
    (hb : Binds X.K fd ps []) (hx : Passes CX X E) (I : Inv X pins σ H s) (r : Vals vs us) (h : sp vs H Q E) : wpAny (model X.prog X.w) A (call (.ref f) us) (EP X pins σ Q) X.xe s := by
  have hl : (us ++ []).length = ps.length := by rw [List.append_nil, ← r.length, F.len _ _ _ _ h]
  have hb2 := hb s us I.kIn hl
  rw [List.append_nil] at hb2
  refine wpAny_call (codeAny_mono (F.run A X.stack s H ⟨us, []⟩ us vs Q E hr e0 hb2 r h) fun r s' hq => ?_)
  cases r with
  | error e => exact hx pins σ H s e s' I hq
  | ok fl =>
    cases fl with
    | ret u => exact I.after hq
    | next => exact False.elim hq
    | brk => exact False.elim hq
    | cont => exact False.elim hq
/-- what len asks of a list or tuple (call_len_seq), named -/
abbrev rLenSq (K : PySem.W.Frag) : List V → Hp → VK → Prop := fun xs H Q => ∃ p ys, xs = [V.ref p] ∧ (SqL K H p ys ∨ SqT K H p ys) ∧ Q (V.int (ys.length : Nat)) H
/-- -o -/
def rUO (C : Addr) (sp : Sp) (E : XK) : V → Hp → VK → Prop := fun x H Q => ∃ a dx fs, x = .ref a ∧ H a = some (.ins C dx fs) ∧ sp [.ref a] H Q E
theorem un_negO (hm : Meth X.K C "__neg__" f) (F : FnOk X.prog X.w X.K X.mg X.base CX k f fd ps sp) (hr : Room k X.A) (hb : Binds X.K fd ps []) (hx : Passes CX X E) : UnR X (unaryOp .USub) (rUO C sp E) := by
  intro pins s σ H x v Q I rx h
  obtain ⟨a, dx, fs, rfl, ha, q⟩ := h
  obtain rfl : v = Value.ref a := rx
  obtain ⟨mA, J, _⟩ := ins_get I.hok ha
  obtain ⟨od, J, _⟩ := J.look
  obtain ⟨m, hF⟩ := I.fr
  exact PySem.W.ksp_neg hF I.ok.mod.kin J hm.at_ hm.fn (run_A F hr I.env0 hb hx I (show Vals [V.ref a] [Value.ref a] from .cons rfl .nil) q)
/-- o == p -/
def rOO (C : Addr) (sp : Sp) (E : XK) : R2 := fun x y H Q => ∃ a b dx dy fs gs, x = .ref a ∧ y = .ref b ∧ H a = some (.ins C dx fs) ∧ H b = some (.ins C dy gs) ∧ sp [.ref a, .ref b] H (fun v H' => (∃ k, v = .bl k) ∧ Q v H') E
theorem op_eqO (hm : Meth X.K C "__eq__" f) (F : FnOk X.prog X.w X.K X.mg X.base CX k f fd ps sp) (hr : Room k X.A) (hb : Binds X.K fd ps []) (hx : Passes CX X E) : OpR X (compareOp .Eq) (rOO C sp E) := by
  intro pins s σ H x y v u Q I rx ry h
  obtain ⟨a, b, dx, dy, fs, gs, rfl, rfl, ha, hb', q⟩ := h
  obtain rfl : v = Value.ref a := rx
  obtain rfl : u = Value.ref b := ry
  obtain ⟨mA, J, _⟩ := ins_get I.hok ha
  obtain ⟨mB, J', _⟩ := ins_get I.hok hb'
  obtain ⟨od, J, _⟩ := J.look
  obtain ⟨od', J', _⟩ := J'.look
  obtain ⟨m, hF⟩ := I.fr
  refine PySem.W.cmp_K (op := .Eq) (tb := .ref C) hr.units0 hF I.ok.mod.kin J J'.type (by simp [PySem.W.notFirst]) hm.at_ hm.fn ?_
  refine wpAny_mono (run_A F hr I.env0 hb hx I (show Vals [V.ref a, V.ref b] [Value.ref a, Value.ref b] from .cons rfl (.cons rfl .nil)) q) (fun r s' z => ?_) fun _ _ e => e
  obtain ⟨v, H', I', rv, ⟨k, rfl⟩, q'⟩ := z
  obtain rfl : r = Value.bool k := rv
  exact ⟨.bl k, H', I', rfl, q'⟩
/-- o != p by the own == -/
def rONe (C : Addr) (sp : Sp) (E : XK) : R2 := fun x y H Q => ∃ a b dx dy fs gs, x = .ref a ∧ y = .ref b ∧ H a = some (.ins C dx fs) ∧ H b = some (.ins C dy gs) ∧ sp [.ref a, .ref b] H (fun v H' => ∃ k, v = .bl k ∧ Q (.bl (!k)) H') E
theorem op_neO (hm : Meth X.K C "__eq__" f) (hne : PySem.W.findIn X.K (.ref C) "__ne__" = some (some (.builtin "object.__ne__"))) (ho : PySem.W.mroIn X.K C (.type "object") = some true)
    (F : FnOk X.prog X.w X.K X.mg X.base CX k f fd ps sp) (hr : Room (k + 1) X.A) (hb : Binds X.K fd ps []) (hx : Passes CX X E) : OpR X (compareOp .NotEq) (rONe C sp E) := by
  intro pins s σ H x y v u Q I rx ry h
  obtain ⟨a, b, dx, dy, fs, gs, rfl, rfl, ha, hb', q⟩ := h
  obtain rfl : v = Value.ref a := rx
  obtain rfl : u = Value.ref b := ry
  obtain ⟨mA, J, _⟩ := ins_get I.hok ha
  obtain ⟨mB, J', _⟩ := ins_get I.hok hb'
  obtain ⟨od, J, _⟩ := J.look
  obtain ⟨od', J', _⟩ := J'.look
  obtain ⟨m, hF⟩ := I.fr
  refine ne_K (tb := .ref C) hr.units0 hr.in1.units0 hF I.ok.mod.kin J J'.type (by simp [PySem.W.notFirst]) hne ho hm.at_ hm.fn ?_
  refine wpAny_mono (run_A F hr.in1 I.env0.in1 hb hx I (show Vals [V.ref a, V.ref b] [Value.ref a, Value.ref b] from .cons rfl (.cons rfl .nil)) q) (fun r s' z => ?_) fun _ _ e => e
  obtain ⟨v, H', I', rv, k, rfl, q'⟩ := z
  obtain rfl : r = Value.bool k := rv
  exact ⟨k, rfl, .bl (!k), H', I', rfl, q'⟩
/-- str(o) -/
def rStrO (C : Addr) (sp : Sp) (E : XK) : List V → Hp → VK → Prop := fun xs H Q => ∃ a dx fs, xs = [.ref a] ∧ H a = some (.ins C dx fs) ∧ sp [.ref a] H (fun v H' => (∃ z, v = .str z) ∧ Q v H') E
theorem call_strO (hm : Meth X.K C "__str__" f) (F : FnOk X.prog X.w X.K X.mg X.base CX k f fd ps sp) (hr : Room (k + 2) X.A) (hb : Binds X.K fd ps []) (hx : Passes CX X E) : CallR X (.type "str") (rStrO C sp E) := by
  intro pins s σ H xs us Q I r h
  obtain ⟨a, dx, fs, rfl, ha, q⟩ := h
  obtain ⟨u, rfl, ru⟩ := vals1 r
  obtain rfl : u = Value.ref a := ru
  obtain ⟨mA, J, _⟩ := ins_get I.hok ha
  obtain ⟨od, J, _⟩ := J.look
  refine PySem.W.kso_call hr.in1.in1.units0 I.kIn J hm.at_ hm.fn ?_
  refine wpAny_mono (run_A F hr.in1.in1 I.env0.in1.in1 hb hx I (show Vals [V.ref a] [Value.ref a] from .cons rfl .nil) q) (fun r s' z => ?_) fun _ _ e => e
  obtain ⟨v, H', I', rv, ⟨z, rfl⟩, q'⟩ := z
  obtain ⟨t, rfl⟩ := rv
  exact ⟨.str z, H', I', ⟨t, rfl⟩, q'⟩
/-- o.m(), m a def with a star parameter -/
theorem pe_methR0 {o : Expr} {ta : TE} {m : Str} {apos pos : Pos} {pl : Sem Bool} (he : PE X o ta) (c : Cls X.K C) (hm : Meth X.K C m f) (F : FnR X.prog X.w X.K X.mg X.base CX k f sp) (hr : Room k X.A) (hx : Passes CX X E)
    (ht : eval (.Call (.Attribute o m apos) [] [] pos) X.env = (do
      let ov ← eval o X.env
      standAt apos.atName
      let (f, first) ← holding [ov] (getMethod ov m pl)
      callWith pos f first (backTo pos (starEach [] X.env)) (backToKw pos (keywordEach [] X.env))) := by rfl) :
    PE X (.Call (.Attribute o m apos) [] [] pos) (tMethR C m sp E ta tNil) := by
  refine ⟨fun pins s σ H Q I h => ?_⟩
  refine PySem.W.methodCall_KW (pl := pl) (thn (he.run pins s σ H _ I h) fun u s1 ⟨x, H1, I1, rx, a, dx, fs, ex, ea, l, q⟩ => ?_) ht
  subst ex
  obtain rfl : u = Value.ref a := rx
  refine getmeth_ok I1 ea c hm l ?_
  exact PySem.W.callWith_K0 (first := [.ref a]) I1.kIn hm.kp (wpAny_call (run_fnR (us := [.ref a]) (vs := [.ref a]) F hr hx I1 (.cons rfl .nil) q))
/-- a def f(a, *r) by its facts -/
theorem fun_star {P : Program} {w : World} {K : PySem.W.Frag} {mg : Str → Option Value} {base : Heap} {f : Addr} {x qual pa pv : Str} {st : Stmt} {fd : FuncData} {N : List Str} {sp : Sp} (F : Fun K x qual st f fd) (S : FnScope N [pa, pv] (defScope st))
    (hb : ∀ (u : Value) (rest : List Value), rest.length ≤ 5 → bindArgs fd ⟨u :: rest, []⟩ = (newTuple rest >>= fun t => pure [(pa, u), (pv, t)]))
    (hbd : ∀ (cdv : Value) (A : Around) (outer : List Env) (s : Shared) (H : Hp) (vs : List V) (Q : VK), Room k (A.deeper (envOfC qual (defScope st) s.heap.objs.size f cdv)) → sp vs H Q E0 →
      ∃ t, PSs (cxOf CX0 P w K mg base N qual (defScope st) f cdv A outer s H E0).nox (defBody st) t ∧ t { nx := fun _ H' => Q .non H', rt := Q } (start N vs) H) :
    FnR P w K mg base CX0 (k + 1) f (fun vs H Q _ => ∃ v rest, vs = v :: rest ∧ rest.length ≤ 5 ∧ ∀ p, H p = none → sp [v, .ref p] (upd H p (.tup rest)) Q E0) := by
  obtain ⟨oc, od, kV, doc, pm, an, cdv, ct, osl, rfl, lk, hc⟩ := F.ex
  intro A outer s H us vs Q E hr e0 r h
  refine fn_ofV (CX := CX0) (sp := fun vs H Q E => E = E0 ∧ sp vs H Q E0) lk hc S (nmax := 5) (by decide) hb (fun _ _ _ _ _ _ _ _ _ _ _ _ z => z) (fun A outer s H vs Q E hr h => ?_) A outer s H us vs Q E0 hr e0 r ?_
  · obtain ⟨rfl, h⟩ := h
    obtain ⟨t, h, q⟩ := hbd cdv A outer s H vs Q hr h
    exact ⟨t, h.nox, q⟩
  · obtain ⟨v, rest, e, hl, q⟩ := h
    exact ⟨v, rest, e, hl, fun p hp => ⟨rfl, q p hp⟩⟩
end
end MH
/-! More own special methods: len, bool, repr, [], in, == and != with values of other kinds, f-strings, classmethods. -/
namespace MH
open PySem PySem.Spec PyProof.Rows L2

section
variable {prog : Program} {w : World} {A : Around} {E : Value → Shared → Prop} {s : Shared} {K : PySem.W.Frag} {x C f L : Addr} {h₀ : Heap} {m : Str → Option Value} {ox : Obj} {od : Option Obj}
open PySem.W in
/-- truth by an own __len__ -/
theorem truthy_len {Q : Bool → Shared → Prop} (F₀ : Fr h₀ L s.heap m) (X₀ : K.In h₀) (I : InstAt s.heap x ox C od) (hs : findIn K (.ref C) "__bool__" = some none) (hl : findIn K (.ref C) "__len__" = some (some (.ref f))) (hf : isFn K (.ref f) = true)
    (h : wpAny (model prog w) A.in1 (call (.ref f) [.ref x]) (fun v s' => ∃ n t, v = .int n t ∧ 0 ≤ n ∧ n < 2 ^ 63 ∧ Q (n != 0) { s' with toks := s'.toks + 1 }) E s) : wpAny (model prog w) A (truthy (.ref x)) Q E s := by
  have X := X₀.keeps F₀.keep
  unfold truthy
  refine wpAny_bind (m := callSpecial? (.ref x) (Str.ofString "__bool__")) (wpAny_bind (wpAny_bind (I.type.here ((looks_findIn X hs).here (wpAny_pure ?_)))))
  refine wpAny_bind (wpAny_bind (I.type.here ((looks_findIn X hl).here ?_)))
  show wpAny _ _ (if (some (Value.ref f)).isNone = true then _ else _) _ _ _
  rw [if_neg (by simp)]
  have key : wpAny (model prog w) A (runValue (.builtin "len" ⟨[.ref x], []⟩)) (fun r s' => ∃ n t, r = .int n t ∧ Q (n != 0) s') E s := by
    refine wpAny_runValue (codeAny_builtin entry_len ?_)
    rw [show A.under (.builtin "len" ⟨[.ref x], []⟩) = A.in1 from Around.under_plainId (by decide +kernel) _]
    unfold Builtin.«len»
    refine wpAny_bind (m := oneArg "len" _) (wpAny_pure ?_)
    refine wpAny_bind (m := callSpecial? (.ref x) (Str.ofString "__len__")) (special_fn X I hl (beq_iff_eq.mp hf) (wpAny_mono h (fun r s' hr => ?_) fun _ _ y => y))
    obtain ⟨n, t, rfl, h0, h1, hq⟩ := hr
    refine wpAny_bind (wpAny_holding (wpAny_pure ?_))
    refine wpAny_bind (wpAny_letGo ?_)
    show wpAny _ _ (if n < 0 then _ else _) _ _ _
    rw [if_neg (by omega)]
    show wpAny _ _ (if n ≥ 2 ^ 63 then _ else _) _ _ _
    rw [if_neg (by omega)]
    exact wpAny_bind (wpAny_mkInt (wpAny_pure ⟨n, _, rfl, hq⟩))
  refine wpAny_bind (wpAny_mono key (fun r s' hr => ?_) fun _ _ y => y)
  obtain ⟨n, t, rfl, hq⟩ := hr
  exact wpAny_pure hq
theorem bool_newM {v : Value} : MeetsIn prog w (Builtin.«bool.__new__» ⟨[.type "bool", v], []⟩) (fun A R s => wpAny (model prog w) A.in1 (truthy v) (fun b s' => R (.ok (.ret (.bool b))) s') (fun e s' => R (.error e) s') s) :=
  .of_wp fun A R s h => by
    obtain ⟨hp, g, d, tk, os⟩ := s
    have f1 := F.conv_sub_bool
    repeat (any_goals (first | assumption | (refine wpAny_bind (m := truthy _) (wpAny_mono h (fun b s' z => ?_) fun _ _ z => z)) | wp_step))
    all_goals first | exact ⟨_, rfl, z⟩ | exact z | skip
theorem call_bool_of {v : Value} {Q : Value → Shared → Prop} (h : wpAny (model prog w) A.in1.in1 (truthy v) (fun b s' => Q (.bool b) s') E s) : wpAny (model prog w) A (call (.type "bool") [v]) Q E s :=
  callType_newIn F.called_bool F.newNe_bool (F.typeCall_bool_1 v) (F.newCall_bool_1 v) (fun obj => F.args_object_init_2 obj v) F.entry_bool_new bool_newM (wpAny_mono h (fun b s' z => ⟨rfl, z⟩) fun _ _ z => z)
open PySem.W in
theorem sub_ty {T : String} {l : List Value} (e : fastBuiltinMro T = some l) (h : l.all (fun v => match v with | .type _ => true | _ => false) = true) : subIn K (.type T) (.ref C) = some false := by
  show (fastBuiltinMro T).map (·.contains (.ref C)) = some false
  rw [e]
  show some (l.contains (Value.ref C)) = some false
  refine congrArg some ?_
  cases q : l.contains (Value.ref C) with
  | false => rfl
  | true =>
    have m := List.contains_iff_mem.mp q
    have z := List.all_eq_true.mp h _ m
    cases z
open PySem.W in
theorem notFirst_ty {T : String} (e : subIn K (.type T) (.ref C) = some false) : notFirst K C (.type T) = true := by
  unfold notFirst
  rw [e]
  simp
open PySem.W in
theorem kit_own {T : String} (c : Cls K C) (ht : typeIn K (.ref C) = some (.type "type")) (e : subIn K (.type T) (.ref C) = some false) : kitOne K (.type T) (.ref C) = some false := by
  obtain ⟨cd, hc, _⟩ := any_some c.hd
  unfold kitOne
  rw [if_neg (by simp)]
  unfold kitCls
  simp only [hc, ht]
  simpa using e
end

section
variable {X : Cx} {CX : CXT} {k : Nat} {C f : Addr} {fd : FuncData} {ps : List Str} {sp : Sp} {E : XK}
/-- len(o) -/
def rLenO (C : Addr) (sp : Sp) (E : XK) : List V → Hp → VK → Prop := fun xs H Q => ∃ a dx fs, xs = [.ref a] ∧ H a = some (.ins C dx fs) ∧ sp [.ref a] H (fun v H' => (∃ n : Int, v = .int n ∧ 0 ≤ n ∧ n < 2 ^ 63) ∧ Q v H') E
theorem call_lenO (hm : Meth X.K C "__len__" f) (F : FnOk X.prog X.w X.K X.mg X.base CX k f fd ps sp) (hr : Room (k + 1) X.A) (hb : Binds X.K fd ps []) (hx : Passes CX X E) : CallR X (.builtin "len") (rLenO C sp E) := by
  intro pins s σ H xs us Q I r h
  obtain ⟨a, dx, fs, rfl, ha, q⟩ := h
  obtain ⟨u, rfl, ru⟩ := vals1 r
  obtain rfl : u = Value.ref a := ru
  obtain ⟨mA, J, _⟩ := ins_get I.hok ha
  obtain ⟨od, J, _⟩ := J.look
  obtain ⟨m, hF⟩ := I.fr
  refine PySem.W.len_K hF I.ok.mod.kin J hm.at_ hm.fn ?_
  refine wpAny_mono (run_A F hr.in1 I.env0.in1 hb hx I (show Vals [V.ref a] [Value.ref a] from .cons rfl .nil) q) (fun r s' z => ?_) fun _ _ e => e
  obtain ⟨v, H', I', rv, ⟨n, rfl, h0, h1⟩, q'⟩ := z
  obtain ⟨t, rfl⟩ := rv
  exact ⟨⟨h0, h1⟩, .int n, H', I'.tok _, ⟨_, rfl⟩, q'⟩
/-- bool(o), by len -/
def rBoolO (C : Addr) (sp : Sp) (E : XK) : List V → Hp → VK → Prop := fun xs H Q => ∃ a dx fs, xs = [.ref a] ∧ H a = some (.ins C dx fs) ∧ sp [.ref a] H (fun v H' => ∃ n : Int, v = .int n ∧ 0 ≤ n ∧ n < 2 ^ 63 ∧ Q (.bl (n != 0)) H') E
theorem call_boolO (hm : Meth X.K C "__len__" f) (hs : PySem.W.findIn X.K (.ref C) "__bool__" = some none) (F : FnOk X.prog X.w X.K X.mg X.base CX k f fd ps sp) (hr : Room (k + 3) X.A) (hb : Binds X.K fd ps []) (hx : Passes CX X E) : CallR X (.type "bool") (rBoolO C sp E) := by
  intro pins s σ H xs us Q I r h
  obtain ⟨a, dx, fs, rfl, ha, q⟩ := h
  obtain ⟨u, rfl, ru⟩ := vals1 r
  obtain rfl : u = Value.ref a := ru
  obtain ⟨mA, J, _⟩ := ins_get I.hok ha
  obtain ⟨od, J, _⟩ := J.look
  obtain ⟨m, hF⟩ := I.fr
  refine call_bool_of (truthy_len hF I.ok.mod.kin J hs hm.at_ hm.fn ?_)
  refine wpAny_mono (run_A F hr.in1.in1.in1 I.env0.in1.in1.in1 hb hx I (show Vals [V.ref a] [Value.ref a] from .cons rfl .nil) q) (fun r s' z => ?_) fun _ _ e => e
  obtain ⟨v, H', I', rv, n, rfl, h0, h1, q'⟩ := z
  obtain ⟨t, rfl⟩ := rv
  exact ⟨n, t, rfl, h0, h1, .bl (n != 0), H', I'.tok _, rfl, q'⟩
/-- repr(o) -/
theorem call_reprO (hm : Meth X.K C "__repr__" f) (F : FnOk X.prog X.w X.K X.mg X.base CX k f fd ps sp) (hr : Room (k + 1) X.A) (hb : Binds X.K fd ps []) (hx : Passes CX X E) : CallR X (.builtin "repr") (rStrO C sp E) := by
  intro pins s σ H xs us Q I r h
  obtain ⟨a, dx, fs, rfl, ha, q⟩ := h
  obtain ⟨u, rfl, ru⟩ := vals1 r
  obtain rfl : u = Value.ref a := ru
  obtain ⟨mA, J, _⟩ := ins_get I.hok ha
  obtain ⟨od, J, _⟩ := J.look
  obtain ⟨m, hF⟩ := I.fr
  refine PySem.W.repr_K hr.in1.units0 hF I.ok.mod.kin J hm.at_ hm.fn ?_
  refine wpAny_mono (run_A F hr.in1 I.env0.in1 hb hx I (show Vals [V.ref a] [Value.ref a] from .cons rfl .nil) q) (fun r s' z => ?_) fun _ _ e => e
  obtain ⟨v, H', I', rv, ⟨z, rfl⟩, q'⟩ := z
  obtain ⟨t, rfl⟩ := rv
  exact ⟨.str z, H', I', ⟨t, rfl⟩, q'⟩
/-- o[e] -/
def tItO (C : Addr) (sp : Sp) (E : XK) (ta tb : TE) : TE := fun σ H Q => ta σ H fun x H1 => tb σ H1 fun y H2 => ∃ a dx fs, x = .ref a ∧ H2 a = some (.ins C dx fs) ∧ sp [.ref a, y] H2 Q E
theorem pe_itO {a b : Expr} {ta tb : TE} {pos : Pos} (hm : Meth X.K C "__getitem__" f) (hfi : PySem.W.fnIn X.K f = true) (F : FnOk X.prog X.w X.K X.mg X.base CX k f fd ps sp) (hr : Room (k + 1) X.A) (hb : Binds X.K fd ps []) (hx : Passes CX X E)
    (he : PE X a ta) (hi : PE X b tb) (hsl : ∀ o i, subscripted b true o i = runValue (.builtin "lifetime.subscript" ⟨[o, i], []⟩)) : PE X (.Subscript a b pos) (tItO C sp E ta tb) := by
  refine ⟨fun pins s σ H Q I h => ?_⟩
  refine Subscript_ (binT he hi I h fun v u s2 x y H2 I2 rx ry q => ?_)
  obtain ⟨o, dx, fs, rfl, ha, q⟩ := q
  obtain rfl : v = Value.ref o := rx
  obtain ⟨mA, J, _⟩ := ins_get I2.hok ha
  obtain ⟨od, J, _⟩ := J.look
  obtain ⟨m, hF⟩ := I2.fr
  exact PySem.W.sub_K hF I2.ok.mod.kin J hm.at_ hfi hm.fn (run_A F hr.in1 I2.env0.in1 hb hx I2 (show Vals [V.ref o, y] [Value.ref o, u] from .cons rfl (.cons ry .nil)) q) (hsl _ _)
/-- v in o -/
def rInO (C : Addr) (sp : Sp) (E : XK) : R2 := fun x y H Q => ∃ a dx fs, y = .ref a ∧ H a = some (.ins C dx fs) ∧ sp [.ref a, x] H (fun v H' => (∃ k, v = .bl k) ∧ Q v H') E
theorem op_inO (hm : Meth X.K C "__contains__" f) (F : FnOk X.prog X.w X.K X.mg X.base CX k f fd ps sp) (hr : Room k X.A) (hb : Binds X.K fd ps []) (hx : Passes CX X E) : OpR X (compareOp .In) (rInO C sp E) := by
  intro pins s σ H x y v u Q I rx ry h
  obtain ⟨a, dx, fs, rfl, ha, q⟩ := h
  obtain rfl : u = Value.ref a := ry
  obtain ⟨mA, J, _⟩ := ins_get I.hok ha
  obtain ⟨od, J, _⟩ := J.look
  obtain ⟨m, hF⟩ := I.fr
  refine PySem.W.in_K hF I.ok.mod.kin J hm.at_ hm.fn ?_
  refine wpAny_mono (run_A F hr I.env0 hb hx I (show Vals [V.ref a, x] [Value.ref a, v] from .cons rfl (.cons rx .nil)) q) (fun r s' z => ?_) fun _ _ e => e
  obtain ⟨w, H', I', rw', ⟨k, rfl⟩, q'⟩ := z
  obtain rfl : r = Value.bool k := rw'
  exact wpAny_truthy_bool ⟨.bl k, H', I', rfl, q'⟩
/-- o == v, v of a known type -/
def rOX (C : Addr) (K : PySem.W.Frag) (sp : Sp) (E : XK) : R2 := fun x y H Q => ∃ a dx fs t, x = .ref a ∧ H a = some (.ins C dx fs) ∧ TyX K H y t ∧ PySem.W.notFirst K C t = true ∧ sp [.ref a, y] H (fun v H' => (∃ k, v = .bl k) ∧ Q v H') E
theorem op_eqX (hm : Meth X.K C "__eq__" f) (F : FnOk X.prog X.w X.K X.mg X.base CX k f fd ps sp) (hr : Room k X.A) (hb : Binds X.K fd ps []) (hx : Passes CX X E) : OpR X (compareOp .Eq) (rOX C X.K sp E) := by
  intro pins s σ H x y v u Q I rx ry h
  obtain ⟨a, dx, fs, t, rfl, ha, ty, hn, q⟩ := h
  obtain rfl : v = Value.ref a := rx
  obtain ⟨mA, J, _⟩ := ins_get I.hok ha
  obtain ⟨od, J, _⟩ := J.look
  obtain ⟨m, hF⟩ := I.fr
  obtain ⟨P, Z, p, _⟩ := kit_of I ry ty
  refine PySem.W.cmp_K (op := .Eq) (tb := t) hr.units0 hF I.ok.mod.kin J (Z.ty _ _ I.kIn p) hn hm.at_ hm.fn ?_
  refine wpAny_mono (run_A F hr I.env0 hb hx I (show Vals [V.ref a, y] [Value.ref a, u] from .cons rfl (.cons ry .nil)) q) (fun r s' z => ?_) fun _ _ e => e
  obtain ⟨w, H', I', rv, ⟨k, rfl⟩, q'⟩ := z
  obtain rfl : r = Value.bool k := rv
  exact ⟨.bl k, H', I', rfl, q'⟩
/-- o != v -/
def rNX (C : Addr) (K : PySem.W.Frag) (sp : Sp) (E : XK) : R2 := fun x y H Q => ∃ a dx fs t, x = .ref a ∧ H a = some (.ins C dx fs) ∧ TyX K H y t ∧ PySem.W.notFirst K C t = true ∧ sp [.ref a, y] H (fun v H' => ∃ k, v = .bl k ∧ Q (.bl (!k)) H') E
theorem op_neX (hm : Meth X.K C "__eq__" f) (hne : PySem.W.findIn X.K (.ref C) "__ne__" = some (some (.builtin "object.__ne__"))) (ho : PySem.W.mroIn X.K C (.type "object") = some true)
    (F : FnOk X.prog X.w X.K X.mg X.base CX k f fd ps sp) (hr : Room (k + 1) X.A) (hb : Binds X.K fd ps []) (hx : Passes CX X E) : OpR X (compareOp .NotEq) (rNX C X.K sp E) := by
  intro pins s σ H x y v u Q I rx ry h
  obtain ⟨a, dx, fs, t, rfl, ha, ty, hn, q⟩ := h
  obtain rfl : v = Value.ref a := rx
  obtain ⟨mA, J, _⟩ := ins_get I.hok ha
  obtain ⟨od, J, _⟩ := J.look
  obtain ⟨m, hF⟩ := I.fr
  obtain ⟨P, Z, p, _⟩ := kit_of I ry ty
  refine ne_K (tb := t) hr.units0 hr.in1.units0 hF I.ok.mod.kin J (Z.ty _ _ I.kIn p) hn hne ho hm.at_ hm.fn ?_
  refine wpAny_mono (run_A F hr.in1 I.env0.in1 hb hx I (show Vals [V.ref a, y] [Value.ref a, u] from .cons rfl (.cons ry .nil)) q) (fun r s' z => ?_) fun _ _ e => e
  obtain ⟨w, H', I', rv, k, rfl, q'⟩ := z
  obtain rfl : r = Value.bool k := rv
  exact ⟨k, rfl, .bl (!k), H', I', rfl, q'⟩
/-- {o} in an f-string -/
def tFmtO (C : Addr) (sp : Sp) (E : XK) (te : TE) : TE := fun σ H Q => te σ H fun x H1 => ∃ a dx fs, x = .ref a ∧ H1 a = some (.ins C dx fs) ∧ sp [.ref a] H1 (fun v H' => (∃ z, v = .str z) ∧ Q v H') E
theorem pe_fmtO {e : Expr} {te : TE} {pos : Pos} (hm : Meth X.K C "__str__" f) (hfm : PySem.W.findIn X.K (.ref C) "__format__" = some (some (.builtin "object.__format__"))) (ho : PySem.W.mroIn X.K C (.type "object") = some true)
    (F : FnOk X.prog X.w X.K X.mg X.base CX k f fd ps sp) (hr : Room (k + 1) X.A) (hb : Binds X.K fd ps []) (hx : Passes CX X E) (he : PE X e te) : PE X (.FormattedValue e (-1) none pos) (tFmtO C sp E te) := by
  refine ⟨fun pins s σ H Q I h => ?_⟩
  refine wpAny_FormattedValue_plain (thn (he.run pins s σ H _ I h) fun v s1 ⟨x, H1, I1, r1, a, dx, fs, ex, ha, q⟩ => ?_)
  subst ex
  obtain rfl : v = Value.ref a := r1
  obtain ⟨mA, J, _⟩ := ins_get I1.hok ha
  obtain ⟨od, J, _⟩ := J.look
  have I2 := I1.tok (s1.toks + 1)
  refine PySem.W.kfo_fieldS hr.in1.units0 I1.kIn J hfm ho hm.at_ hm.fn ?_
  refine wpAny_mono (run_A F hr.in1 I2.env0.in1 hb (fun pins σ H s e s' I z => hx pins σ H s e s' I z) I2 (show Vals [V.ref a] [Value.ref a] from .cons rfl .nil) q) (fun r s' z => ?_) fun _ _ e => e
  obtain ⟨v, H', I', rv, ⟨z, rfl⟩, q'⟩ := z
  obtain ⟨t, rfl⟩ := rv
  exact ⟨.str z, H', I', ⟨t, rfl⟩, q'⟩
/-- c(..), c a local name that holds the class -/
def tMakeV (C : Addr) (sp : Sp) (E : XK) (tf : TE) (t : TA) : TE := fun σ H Q => tf σ H fun x H0 => x = .ref C ∧ tMake C sp [] E t σ H0 Q
theorem pe_makeV {x : Str} {p pos : Pos} {e : Expr} {es : List Expr} {tf : TE} {t : TA} (M : Mk X.K C f) (F : FnOk X.prog X.w X.K X.mg X.base CX k f fd ps sp) (hr : Room (k + 1) X.A) (hv : PE X (.Name x p) tf) (hb : Binds X.K fd ps []) (hx : Passes CX X E)
    (ha : PA X (e :: es) t) (he : starEach (e :: es) X.env = (false, eval e X.env) :: starEach es X.env := by rfl) (hpl : (backTo pos (starEach es X.env)).any (·.1) = false := by rfl) : PE X (.Call (.Name x p) (e :: es) [] pos) (tMakeV C sp E tf t) := by
  refine ⟨fun pins s σ H Q I h => ?_⟩
  refine wpAny_Call_Name_kw (thn (hv.run pins s σ H _ I h) fun f s0 ⟨v, H0, I0, r0, ev, q0⟩ => ?_)
  subst ev
  obtain rfl : f = Value.ref C := r0
  refine PySem.W.callWith_K (h₀ := X.base) I.ok.mod.kin M.kp (thn (ha.run pos pins s0 σ H0 _ I0 q0) fun us s1 ⟨vs, H1, I1, r, q⟩ => ⟨I1.kIn, ?_⟩) he hpl
  exact run_make M F hr hb .nil hx I1 r q
theorem FnOk.toR {P : Program} {w : World} {K : PySem.W.Frag} {mg : Str → Option Value} {base : Heap} (F : FnOk P w K mg base CX k f fd ps sp) (hB : Binds K fd ps []) : FnR P w K mg base CX k f sp := fun A outer s H us vs Q E hr e0 r hs => by
  have KX : K.In s.heap := e0.mod.kin.keeps fun b o e => (e0.bs b o e).1
  have hl : (us ++ []).length = ps.length := by rw [List.append_nil, ← r.length, F.len _ _ _ _ hs]
  have hb2 := hB s us KX hl
  rw [List.append_nil] at hb2
  exact F.run A outer s H ⟨us, []⟩ us vs Q E hr e0 hb2 r hs
/-- c.m(k = v), m a classmethod -/
def tCMethK (C : Addr) (n : Nat) (sp : Sp) (gV : List V → List V → List V) (E : XK) (ta : TE) (tk : TA) : TE := fun σ H Q => ta σ H fun x H1 => x = .ref C ∧ tk σ H1 fun zs H2 => zs.length = n ∧ sp (gV [.ref C] zs) H2 Q E
theorem pe_cmethK {p : Addr} {mc : Value} {ks : List Str} {o : Expr} {m : Str} {apos pos : Pos} {kws : List Keyword} {ta : TE} {tk : TA} {g : List Value → List Value → List Value} {gV : List V → List V → List V} {pl : Sem Bool} (he : PE X o ta) (r : ClX.CRead X.K C mc) (c : ClX.CMet X.K C mc m p f)
    (F : FnOk X.prog X.w X.K X.mg X.base CX k f fd ps sp) (hr : Room k X.A) (hb : KBn X.K fd ps 1 ks g gV) (hx : Passes CX X E) (hkw : PK X kws tk)
    (hall : (backToKw pos (keywordEach kws X.env)).all (·.1.isSome) = true := by rfl) (hks : (backToKw pos (keywordEach kws X.env)).filterMap (·.1) = ks := by rfl)
    (hpl : ((backTo pos (starEach [] X.env)).any (·.1) || (backToKw pos (keywordEach kws X.env)).any (·.1.isNone)) = false := by rfl)
    (ht : eval (.Call (.Attribute o m apos) [] kws pos) X.env = (do
      let ov ← eval o X.env
      standAt apos.atName
      let (f, first) ← holding [ov] (getMethod ov m pl)
      callWith pos f first (backTo pos (starEach [] X.env)) (backToKw pos (keywordEach kws X.env))) := by rfl) :
    PE X (.Call (.Attribute o m apos) [] kws pos) (tCMethK C ks.length sp gV E ta tk) := by
  refine ⟨fun pins s σ H Q I h => ?_⟩
  refine PySem.W.methodCall_KW (pl := pl) (thn (he.run pins s σ H _ I h) fun u s1 ⟨x, H1, I1, rx, ex, q⟩ => ?_) ht
  subst ex
  obtain rfl : u = Value.ref C := rx
  refine ClX.getmethcm_ok I1 r c fun s2 I2 => ?_
  refine PySem.W.callWith_of (P := PySem.W.MethP X.K s1.heap.objs.size f (.ref C)) hpl (PySem.W.keeps_M c.fi) (PyProof.Rows.evalArgs_kw2_nil hall ?_)
  refine thn (hkw.run pos _ s2 σ H1 _ I2 q) fun ws s3 ⟨zs, H2, I3, rz, hz, q2⟩ => ⟨⟨ClX.pin_at I3, I3.kIn⟩, ?_⟩
  rw [hks]
  have r1 : Vals [V.ref C] [Value.ref C] := .cons rfl .nil
  have r2 := hb.rel r1 rz
  have z : wpAny (model X.prog X.w) X.A (call (.ref s1.heap.objs.size) ([] ++ []) (ks.zip ws)) (EP X ((s1.heap.objs.size, PySem.W.methodObj (.ref f) (.ref C)) :: pins) σ Q) X.xe s3 := by
    refine wpAny_call (PySem.W.method_call (ClX.pin_at I3) (codeAny_mono (F.run X.A X.stack s3 H2 ⟨[.ref C], ks.zip ws⟩ (g [.ref C] ws) (gV [.ref C] zs) Q E hr I3.env0 (hb.to s3 [.ref C] ws I3.kIn rfl (rz.length.symm.trans hz)) r2 q2) fun r s' hq => ?_))
    match r, hq with
    | .ok (.ret u), hq => exact I3.after hq
    | .ok .next, hq => exact False.elim hq
    | .ok .brk, hq => exact False.elim hq
    | .ok .cont, hq => exact False.elim hq
    | .error e, hq => exact hx _ σ H2 s3 e s' I3 hq
  exact thn z fun _ _ y => ClX.unpinE y
/-- repr of a truth -/
def rReprB : List V → Hp → VK → Prop := fun xs H Q => ∃ b, xs = [.bl b] ∧ Q (.str (if b then "True" else "False")) H
theorem call_reprB : CallR X (.builtin "repr") rReprB := by
  intro pins s σ H xs us Q I r h
  obtain ⟨b, rfl, q⟩ := h
  obtain ⟨u, rfl, r1⟩ := vals1 r
  obtain rfl : u = Value.bool b := r1
  exact PySem.P.repr_of_bool ⟨.str _, H, I.tok _, ⟨_, rfl⟩, q⟩
end
end MH
/-! try .. except (A, B, C) as n: the clause's classes in a tuple. -/
namespace MH
open PySem PySem.Spec PyProof.Rows L2
/-- a flight stays one where only new objects come -/
theorem flying_more {B : Heap} {l : List Env} {a : Addr} {Z : Obj → Prop} {g g' : Heap} (k : ∀ b o, g.get? b = some o → g'.get? b = some o) (x : HandSPX.FlyingZ B l a Z g) : HandSPX.FlyingZ B l a Z g' := by
  obtain ⟨x1, x2, x3, oe, vs, T, oT, ts, y1, y2, y3, y4, y5, y6, y7, y8⟩ := x
  exact ⟨fun b o e => k _ _ (x1 b o e), x2, Heap.FunFrames.of_keeps (fun b o e _ => ⟨o, k _ _ e, rfl⟩) x3, oe, vs, T, oT, ts, k _ _ y1, y2, y3, y4, y5, y6, k _ _ y7, y8⟩
theorem slots_more {g g1 g2 : Heap} (u : g.UpToSlots g1) (k : ∀ b o, g1.get? b = some o → g2.get? b = some o) : g.UpToSlots g2 := fun b o e hd => by
  obtain ⟨sl, q⟩ := u b o e hd
  exact ⟨sl, k _ _ q⟩
/-- what such a clause wishes of an exception of the body -/
def wAsT (K : PySem.W.Frag) (cs : List Value) (i : Nat) (ts : Addr → Value → Option Addr → TS) (Wout : WX) (D : Ends) : WX := fun cls d σ H =>
  ∃ b, PySem.W.exmAny K cls cs = some b ∧
    (b = true → ∀ a, H a = none → ts a cls d { nx := fun σ' H' => D.nx (σ'.set i none) H', rt := D.rt, bk := fun σ' H' => D.bk (σ'.set i none) H', ct := fun σ' H' => D.ct (σ'.set i none) H' } (σ.set i (some (.ref a))) H) ∧ (b = false → Wout cls d σ H)
section
variable {X : Cx} {x1 x2 x3 n : Str} {c1 c2 c3 : Value} {i kt : Nat} {body suite : List Stmt} {b₀ : Stmt} {p1 p2 p3 pt pos pos' : Pos} {tb : WX → TS} {ts : Addr → Value → Option Addr → TS} {Wout : WX}
theorem ps_try_asT (stk : X.stack = X.env :: X.outer) (frm : X.env.frame = some X.env.locals) (nd : X.N.Nodup) (slot : X.N[i]? = some n) (loc : X.env.kindOf n = some .local) (n1 : Names X x1 c1) (n2 : Names X x2 c2) (n3 : Names X x3 c3) (tk : Takes X Wout)
    (inBody : ∀ (W : WX) (pn : List (Addr × Obj)) (xe : Value → Shared → Prop), Takes (X.tr pn xe) W → PassesOwn (model X.prog X.w) X.A X.env xe → PSs (X.tr pn xe) body (tb W))
    (inSuite : ∀ (a : Addr) (oe : Obj) (cls : Value) (d : Option Addr) (pn : List (Addr × Obj)), Zc cls d oe → (∃ vs, oe.data = .fields vs) → PSs (X.suite a ((a, oe) :: pn)) (b₀ :: suite) (ts a cls d)) :
    PS X (.Try body [.ExceptHandler (some (.Tuple [.Name x1 p1, .Name x2 p2, .Name x3 p3] kt pt)) (some n) (b₀ :: suite) pos'] [] [] pos) (fun D σ H => tb (wAsT X.K [c1, c2, c3] i ts Wout D) D σ H) := by
  refine ⟨fun pins s σ H D I h => ?_⟩
  have okI := I.ok
  have frs0 : X.A.frames = some (X.env :: X.outer) := by rw [okI.frames, stk]
  have vis : Loc X.env.scope n := .inl loc
  refine wpAny_Try_except ?_
  refine wpAny_mono ((inBody (wAsT X.K [c1, c2, c3] i ts Wout D) (X.pn ++ pins)
    (fun e s₁ => wpAny (model X.prog X.w) X.A (noteFrame e X.env) (fun _ s₂ => wpAny (model X.prog X.w) X.A (setFlight e none)
      (fun _ s₃ => wpAny (model X.prog X.w) X.A (handleBy e X.env [.ExceptHandler (some (.Tuple [.Name x1 p1, .Name x2 p2, .Name x3 p3] kt pt)) (some n) (b₀ :: suite) pos']) (SP X pins D) X.xe s₃) X.xe s₂) X.xe s₁)
    (fun u s' air => ?_) PassesOwn.looking).run [] s σ H D (I.toTry _) h) (fun f s1 q => ?_) (fun _ _ z => z)
  · obtain ⟨a, B, sI, pins', σ', H', cls, d, rfl, Jt, nb, up, sky, fresh, os, ag, b, hb1, yes, no⟩ := air
    have J : Inv X pins σ' H' sI := Jt.ofTry okI
    have sky1 : Sky B (X.env :: X.outer) a (Zc cls d) X.env.locals s'.heap := by rw [← stk]; exact sky
    show wpAny (model X.prog X.w) X.A (noteFrame (.ref a) X.env) _ _ _
    refine Sky.land Zc.steady frs0 frm sky1 fun g3 fl3 up3 => ?_
    have J3 : Inv X pins σ' H' { s' with heap := g3 } := J.landed nb fl3.1 (up.trans up3) os ag
    obtain ⟨oe3, vs3, at3, z3, dat3⟩ := fl3.there
    have apart : ∀ {g : Heap} {o : Obj} {vs : Array Value}, g.FunFrames B (X.env :: X.outer) → g.get? a = some o → o.data = .fields vs → a ∉ frs (X.env :: X.outer) := fun {g o vs} ff e dd hm => by
      obtain ⟨_, o', e', notf⟩ := ff.mem hm
      rw [e] at e'
      cases e'
      exact notf _ dd
    have out3 := apart fl3.2.2.1 at3 dat3
    have nl : a ≠ X.env.locals := fun z => out3 (List.mem_filterMap.mpr ⟨X.env, List.mem_cons_self, by rw [frm, z]⟩)
    have nf : a ∉ X.fs := fun hm => by
      obtain ⟨e, he, q⟩ := List.mem_filterMap.mp hm
      exact out3 (List.mem_filterMap.mpr ⟨e, List.mem_cons_of_mem _ he, q⟩)
    have S3 := J3.suite at3 dat3 fresh nl nf
    refine wpAny_handleBy_cons (codeAny_handlers_test ?_) (by intro q; cases q)
    have one : ∀ {x : Str} {c : Value} {p : Pos} {Q : Value → Shared → Prop} {E : Value → Shared → Prop}, Names X x c → Q c { s' with heap := g3 } → wpAny (model X.prog X.w) (X.A.mark (some (.ref a))) (eval (.Name x p) X.env) Q E { s' with heap := g3 } := fun {x c p Q E} nm q => by
      obtain ⟨hg, hd, hm | ⟨hm, hv, nn⟩⟩ := nm
      · exact ld_glob (X := X.suite a ((a, oe3) :: (X.pn ++ pins))) S3 hg hm q hd
      · exact ld_blt (X := X.suite a ((a, oe3) :: (X.pn ++ pins))) S3 hg hm hv q nn hd
    refine Tuple_ (Calls.spliced_cons (one n1 (Calls.spliced_cons (one n2 (Calls.spliced_cons (one n3 (Calls.spliced_nil ?_)))))))
    refine wpAny_newObj_type ?_ (by show 3 ≤ sizeLine; decide)
    have more : ∀ b o, g3.get? b = some o → (g3.push ({ cls := .type "tuple", data := .seq [c1, c2, c3].toArray } : Obj)).get? b = some o := fun b o e => Heap.get?_push_of_some _ e
    have tupAt : (g3.push ({ cls := .type "tuple", data := .seq [c1, c2, c3].toArray } : Obj)).get? g3.objs.size = some { cls := .type "tuple", data := .seq [c1, c2, c3].toArray } := Heap.get?_push_size _ rfl
    have fl5 := flying_more more fl3
    have up5 : s'.heap.UpToSlots (g3.push ({ cls := .type "tuple", data := .seq [c1, c2, c3].toArray } : Obj)) := slots_more up3 more
    have at5 := more _ _ at3
    generalize g3.push ({ cls := .type "tuple", data := .seq [c1, c2, c3].toArray } : Obj) = g5 at more tupAt fl5 up5 at5 ⊢
    have J5 : Inv X pins σ' H' { s' with heap := g5 } := J.landed nb fl5.1 (up.trans up5) os ag
    have S5 := J5.suite at5 dat3 fresh nl nf
    have typed : PySem.W.Looks (model X.prog X.w) g5 (typeOf (.ref a)) cls := fun A Q E s k q => wpAny_typeOf_ref (k _ _ at5) (by rw [z3.1]; exact q)
    refine (PySem.W.exm_tup3 (M := model X.prog X.w) J5.kIn typed tupAt hb1).here ?_
    cases b with
    | true =>
      refine codeAny_handlers_suite_as ?_
      refine HandSPX.lands_againZ fl5 fun g4 fl4 up4 => ?_
      have J4 : Inv X pins σ' H' { s' with heap := g4 } := J.landed nb fl4.1 ((up.trans up5).trans up4) os ag
      obtain ⟨oe4, vs4, at4, z4, dat4⟩ := fl4.there
      have S4 := J4.suite at4 dat4 fresh nl nf
      refine store_ok (X := X.suite a ((a, oe4) :: (X.pn ++ pins))) (v := .ref a) S4 nd slot vis rfl (fun s5 S5 => ?_) (.inr loc)
      refine wpAny_mono ((inSuite a oe4 cls d (X.pn ++ pins) z4 ⟨_, dat4⟩).run [] s5 _ H' _ S5 (yes rfl a fresh)) (fun f s6 fin => ?_) (fun _ _ z => False.elim z)
      have close : ∀ {σ6 : L2.St} {H6 : Hp} {Q : Shared → Prop}, Inv (X.suite a ((a, oe4) :: (X.pn ++ pins))) [] σ6 H6 s6 → (∀ s7, Inv X pins (σ6.set i none) H6 s7 → Q s7) →
          wpAny (model X.prog X.w) X.A (do bindName X.env n .none; unbindBehindTheSuite X.env n pos') (fun _ s7 => Q s7) X.xe s6 := fun {σ6 H6 Q} S6 hq => gone_ok (S6.unsuite okI) nd slot loc hq
      match f, fin with
      | .next, ⟨σ6, H6, S6, q6⟩ => exact close S6 fun s7 J7 => ⟨_, _, J7, q6⟩
      | .brk, ⟨σ6, H6, S6, q6⟩ => exact close S6 fun s7 J7 => ⟨_, _, J7, q6⟩
      | .cont, ⟨σ6, H6, S6, q6⟩ => exact close S6 fun s7 J7 => ⟨_, _, J7, q6⟩
      | .ret u, ⟨v6, σ6, H6, S6, r6, q6⟩ => exact close S6 fun s7 J7 => ⟨_, _, _, J7, r6, q6⟩
    | false =>
      show wpAny _ X.A (handleBy (.ref a) X.env []) _ _ _
      refine wpAny_handleBy_nil ?_
      obtain ⟨k1, k2, k3, oe, vs, T, oT, ts', he, hz, hd, h1, hr⟩ := id fl5
      unfold PySem.passOn
      refine wpAny_bind (wpAny_field he hd h1 ?_)
      rw [if_neg (by simp)]
      have leave : wpAny (model X.prog X.w) X.A (setFlight (.ref a) X.env.frame) (fun _ s4 => wpAny (model X.prog X.w) X.A (throw (.ref a) : Sem Flow) (SP X pins D) X.xe s4) X.xe { s' with heap := g5 } := by
        rw [frm]
        refine HandSPX.setFlight_upZ fl5 fun g4 held up4 => wpAny_throw (tk _ _ ?_)
        exact ⟨a, B, sI, pins, σ', H', cls, d, rfl, J, nb, (up.trans up5).trans up4, .inr (.inr (by rw [stk]; exact held)), fresh, os, ag, no rfl⟩
      first
        | exact wpAny_bind (wpAny_pure (wpAny_bind leave))
        | exact wpAny_bind leave
  · match f, q with
    | .next, ⟨σ', H', J', q⟩ => exact wpAny_execs_nil ⟨σ', H', J'.ofTry okI, q⟩
    | .brk, ⟨σ', H', J', q⟩ => exact ⟨σ', H', J'.ofTry okI, q⟩
    | .cont, ⟨σ', H', J', q⟩ => exact ⟨σ', H', J'.ofTry okI, q⟩
    | .ret u, ⟨v, σ', H', J', r, q⟩ => exact ⟨v, σ', H', J'.ofTry okI, r, q⟩
end
end MH
/-! Caught exceptions as objects of the tracked heap; defs that are called within an except suite. -/
namespace MH
open PySem PySem.Spec PyProof.Rows L2

/-! ### a caught exception -/
def exk (a C d : Addr) : HO := .ext fun h => ∃ (o : Obj) (vs : Array Value), h.get? a = some o ∧ o.cls = .ref C ∧ o.dict = some d ∧ o.data = .fields vs
theorem exk_ok {P : Program} {w : World} {H : Hp} {h : Heap} {a C d : Addr} {o : Obj} {vs : Array Value} (h1 : h.get? a = some o) (h2 : o.cls = .ref C) (h3 : o.dict = some d) (h4 : o.data = .fields vs) : ObjOk P w H h a (exk a C d) :=
  ⟨⟨o, vs, h1, h2, h3, h4⟩, ⟨o, h1⟩, fun x y z k => by
    obtain ⟨o, vs, q, r⟩ := z
    exact ⟨o, vs, k _ q, r⟩⟩
theorem exk_at {P : Program} {w : World} {H : Hp} {h : Heap} {a C d : Addr} (hok : HOk P w H h) (he : H a = some (exk a C d)) : ∃ (o : Obj) (vs : Array Value), h.get? a = some o ∧ o.cls = .ref C ∧ o.dict = some d ∧ o.data = .fields vs := by
  have x : ObjOk P w H h a (.ext fun h => ∃ (o : Obj) (vs : Array Value), h.get? a = some o ∧ o.cls = .ref C ∧ o.dict = some d ∧ o.data = .fields vs) := hok a _ he
  exact x.1
section
variable {X : Cx} {pins : List (Addr × Obj)} {σ : L2.St} {H : Hp} {s : Shared}
/-- an object that stands, made since the entry, is told from now on -/
theorem _root_.L2.Inv.track {a : Addr} {o : HO} (I : Inv X pins σ H s) (n0 : X.s_0.heap.get? a = none) (na : H a = none) (nl : X.env.locals ≠ a) (nc : ∀ x c, X.env.cells.lookup x = some c → c ≠ a) (np : ∀ p ∈ X.pn ++ pins, p.1 ≠ a)
    (new : ObjOk X.prog X.w (upd H a o) s.heap a o) : Inv X pins σ (upd H a o) s := by
  have n0' : ∀ {b : Addr} {ob : Obj}, X.s_0.heap.get? b = some ob → b ≠ a := fun {b ob} e z => by
    rw [z, n0] at e
    cases e
  refine ⟨I.ok, I.os, I.bare, ⟨I.base.keep, I.base.slot, fun b ob e n hx => ?_, I.base.there, fun b xs e => ?_, fun b ob u e => ?_, fun b ps e => ?_⟩, I.loc, I.cell, ?_, fun x c e => ?_, fun p hp => ?_, fun b ob e => ?_, I.len⟩
  · rw [upd_ne (n0' e)]
    exact I.base.free b ob e n hx
  · have q := I.base.tups b xs e
    rw [upd_ne (ne_of_none q na)]
    exact q
  · have q := I.base.frzs b ob u e
    rw [upd_ne (ne_of_none q na)]
    exact q
  · obtain ⟨m, q⟩ := I.base.tbls b ps e
    exact ⟨m, by rw [upd_ne (ne_of_none q na)]; exact q⟩
  · rw [upd_ne nl]
    exact I.free
  · rw [upd_ne (nc x c e)]
    exact I.freeC x c e
  · obtain ⟨h1, h2, h3⟩ := I.pin p hp
    exact ⟨h1, by rw [upd_ne (np p hp)]; exact h2, h3⟩
  · by_cases hb : b = a
    · subst hb
      rw [upd_same] at e
      cases e
      exact new
    · rw [upd_ne hb] at e
      exact (I.hok b ob e).stay (fun c v _ z => z) (fun c hc => by rw [upd_ne (ne_of_none hc na)]; exact hc) fun c xs hc => by rw [upd_ne (ne_of_none hc na)]; exact hc
theorem _root_.L2.Inv.suiteK (I : Inv X pins σ H s) (a : Addr) : Inv (X.suite a (X.pn ++ pins)) [] σ H s :=
  ⟨I.ok.suite _ _, I.os, I.bare, I.base, I.loc, I.cell, I.free, I.freeC, fun p hp => by
    have hp' : p ∈ X.pn ++ pins := by
      rw [List.append_nil] at hp
      exact hp
    exact I.pin p hp', I.hok, I.len⟩
theorem _root_.L2.Inv.unsuiteK {a : Addr} {pn' : List (Addr × Obj)} (I : Inv (X.suite a (X.pn ++ pins)) pn' σ H s) (ok : X.Ok) : Inv X pins σ H s :=
  ⟨ok, I.os, I.bare, I.base, I.loc, I.cell, I.free, I.freeC, fun p hp => I.pin p (List.mem_append_left _ hp), I.hok, I.len⟩
end

/-! ### try: body, except (A, B, C) as n: suite -/
def wAsK (K : PySem.W.Frag) (cs : List Value) (n i : Nat) (ts : TS) (Wout : WX) (D : Ends) : WX := fun cls d σ H =>
  ∃ b, PySem.W.exmAny K cls cs = some b ∧
    (b = true → ∃ C dd, cls = .ref C ∧ d = some dd ∧ ∀ a, σ.length = n → H a = none → ts { nx := fun σ' H' => D.nx (σ'.set i none) H', rt := D.rt, bk := fun σ' H' => D.bk (σ'.set i none) H', ct := fun σ' H' => D.ct (σ'.set i none) H' } (σ.set i (some (.ref a))) (upd H a (exk a C dd))) ∧ (b = false → Wout cls d σ H)
section
variable {X : Cx} {x1 x2 x3 n : Str} {c1 c2 c3 : Value} {i kt : Nat} {body suite : List Stmt} {b₀ : Stmt} {p1 p2 p3 pt pos pos' : Pos} {tb : WX → TS} {ts : TS} {Wout : WX}
theorem ps_try_asK (stk : X.stack = X.env :: X.outer) (frm : X.env.frame = some X.env.locals) (hex : X.ex = []) (nd : X.N.Nodup) (slot : X.N[i]? = some n) (loc : X.env.kindOf n = some .local) (n1 : Names X x1 c1) (n2 : Names X x2 c2) (n3 : Names X x3 c3) (tk : Takes X Wout)
    (inBody : ∀ (W : WX) (pn : List (Addr × Obj)) (xe : Value → Shared → Prop), Takes (X.tr pn xe) W → PassesOwn (model X.prog X.w) X.A X.env xe → PSs (X.tr pn xe) body (tb W))
    (inSuite : ∀ (a : Addr) (pn : List (Addr × Obj)), PSs (X.suite a pn) (b₀ :: suite) ts) :
    PS X (.Try body [.ExceptHandler (some (.Tuple [.Name x1 p1, .Name x2 p2, .Name x3 p3] kt pt)) (some n) (b₀ :: suite) pos'] [] [] pos) (fun D σ H => tb (wAsK X.K [c1, c2, c3] X.N.length i ts Wout D) D σ H) := by
  refine ⟨fun pins s σ H D I h => ?_⟩
  have okI := I.ok
  have frs0 : X.A.frames = some (X.env :: X.outer) := by rw [okI.frames, stk]
  have vis : Loc X.env.scope n := .inl loc
  refine wpAny_Try_except ?_
  refine wpAny_mono ((inBody (wAsK X.K [c1, c2, c3] X.N.length i ts Wout D) (X.pn ++ pins)
    (fun e s₁ => wpAny (model X.prog X.w) X.A (noteFrame e X.env) (fun _ s₂ => wpAny (model X.prog X.w) X.A (setFlight e none)
      (fun _ s₃ => wpAny (model X.prog X.w) X.A (handleBy e X.env [.ExceptHandler (some (.Tuple [.Name x1 p1, .Name x2 p2, .Name x3 p3] kt pt)) (some n) (b₀ :: suite) pos']) (SP X pins D) X.xe s₃) X.xe s₂) X.xe s₁)
    (fun u s' air => ?_) PassesOwn.looking).run [] s σ H D (I.toTry _) h) (fun f s1 q => ?_) (fun _ _ z => z)
  · obtain ⟨a, B, sI, pins', σ', H', cls, d, rfl, Jt, nb, up, sky, fresh, os, ag, b, hb1, yes, no⟩ := air
    have J : Inv X pins σ' H' sI := Jt.ofTry okI
    have sky1 : Sky B (X.env :: X.outer) a (Zc cls d) X.env.locals s'.heap := by rw [← stk]; exact sky
    show wpAny (model X.prog X.w) X.A (noteFrame (.ref a) X.env) _ _ _
    refine Sky.land Zc.steady frs0 frm sky1 fun g3 fl3 up3 => ?_
    have J3 : Inv X pins σ' H' { s' with heap := g3 } := J.landed nb fl3.1 (up.trans up3) os ag
    obtain ⟨oe3, vs3, at3, z3, dat3⟩ := fl3.there
    have apart : ∀ {g : Heap} {o : Obj} {vs : Array Value}, g.FunFrames B (X.env :: X.outer) → g.get? a = some o → o.data = .fields vs → a ∉ frs (X.env :: X.outer) := fun {g o vs} ff e dd hm => by
      obtain ⟨_, o', e', notf⟩ := ff.mem hm
      rw [e] at e'
      cases e'
      exact notf _ dd
    have out3 := apart fl3.2.2.1 at3 dat3
    have nl : a ≠ X.env.locals := fun z => out3 (List.mem_filterMap.mpr ⟨X.env, List.mem_cons_self, by rw [frm, z]⟩)
    have nf : a ∉ X.fs := fun hm => by
      obtain ⟨e, he, q⟩ := List.mem_filterMap.mp hm
      exact out3 (List.mem_filterMap.mpr ⟨e, List.mem_cons_of_mem _ he, q⟩)
    have newI : sI.heap.get? a = none := by
      cases q : sI.heap.get? a with
      | none => rfl
      | some o =>
        have z := nb a o q (by rw [stk]; exact out3)
        rw [fl3.2.1] at z
        cases z
    have new0 : X.s_0.heap.get? a = none := by
      cases q : X.s_0.heap.get? a with
      | none => rfl
      | some o =>
        obtain ⟨o', z⟩ := J.base.there a o q (by rw [hex]; simp)
        rw [newI] at z
        cases z
    have S3 := J3.suite at3 dat3 fresh nl nf
    refine wpAny_handleBy_cons (codeAny_handlers_test ?_) (by intro q; cases q)
    have one : ∀ {x : Str} {c : Value} {p : Pos} {Q : Value → Shared → Prop} {E : Value → Shared → Prop}, Names X x c → Q c { s' with heap := g3 } → wpAny (model X.prog X.w) (X.A.mark (some (.ref a))) (eval (.Name x p) X.env) Q E { s' with heap := g3 } := fun {x c p Q E} nm q => by
      obtain ⟨hg, hd, hm | ⟨hm, hv, nn⟩⟩ := nm
      · exact ld_glob (X := X.suite a ((a, oe3) :: (X.pn ++ pins))) S3 hg hm q hd
      · exact ld_blt (X := X.suite a ((a, oe3) :: (X.pn ++ pins))) S3 hg hm hv q nn hd
    refine Tuple_ (Calls.spliced_cons (one n1 (Calls.spliced_cons (one n2 (Calls.spliced_cons (one n3 (Calls.spliced_nil ?_)))))))
    refine wpAny_newObj_type ?_ (by show 3 ≤ sizeLine; decide)
    have more : ∀ b o, g3.get? b = some o → (g3.push ({ cls := .type "tuple", data := .seq [c1, c2, c3].toArray } : Obj)).get? b = some o := fun b o e => Heap.get?_push_of_some _ e
    have tupAt : (g3.push ({ cls := .type "tuple", data := .seq [c1, c2, c3].toArray } : Obj)).get? g3.objs.size = some { cls := .type "tuple", data := .seq [c1, c2, c3].toArray } := Heap.get?_push_size _ rfl
    have fl5 := flying_more more fl3
    have up5 : s'.heap.UpToSlots (g3.push ({ cls := .type "tuple", data := .seq [c1, c2, c3].toArray } : Obj)) := slots_more up3 more
    have at5 := more _ _ at3
    generalize g3.push ({ cls := .type "tuple", data := .seq [c1, c2, c3].toArray } : Obj) = g5 at more tupAt fl5 up5 at5 ⊢
    have J5 : Inv X pins σ' H' { s' with heap := g5 } := J.landed nb fl5.1 (up.trans up5) os ag
    have S5 := J5.suite at5 dat3 fresh nl nf
    have typed : PySem.W.Looks (model X.prog X.w) g5 (typeOf (.ref a)) cls := fun A Q E s k q => wpAny_typeOf_ref (k _ _ at5) (by rw [z3.1]; exact q)
    refine (PySem.W.exm_tup3 (M := model X.prog X.w) J5.kIn typed tupAt hb1).here ?_
    cases b with
    | true =>
      obtain ⟨C, dd, ecls, ed, yes⟩ := yes rfl
      refine codeAny_handlers_suite_as ?_
      refine HandSPX.lands_againZ fl5 fun g4 fl4 up4 => ?_
      have J4 : Inv X pins σ' H' { s' with heap := g4 } := J.landed nb fl4.1 ((up.trans up5).trans up4) os ag
      obtain ⟨oe4, vs4, at4, z4, dat4⟩ := fl4.there
      have T4 : Inv X pins σ' (upd H' a (exk a C dd)) { s' with heap := g4 } := by
        refine J4.track new0 fresh nl.symm (fun x c e z => ?_) (fun p hp z => ?_) (exk_ok at4 (z4.1.trans ecls) (z4.2.trans ed) dat4)
        · obtain ⟨v, o, ho, hd⟩ := J4.cell x c e
          rw [z] at ho
          have z2 := ho.symm.trans at4
          cases z2
          rw [dat4] at hd
          cases hd
        · have q := (J.pin p hp).1
          rw [z, newI] at q
          cases q
      have S4 := T4.suiteK a
      refine store_ok (X := X.suite a (X.pn ++ pins)) (v := .ref a) S4 nd slot vis rfl (fun s5 S5 => ?_) (.inr loc)
      refine wpAny_mono ((inSuite a (X.pn ++ pins)).run [] s5 _ _ _ S5 (yes a J4.len fresh)) (fun f s6 fin => ?_) (fun _ _ z => False.elim z)
      have close : ∀ {σ6 : L2.St} {H6 : Hp} {Q : Shared → Prop}, Inv (X.suite a (X.pn ++ pins)) [] σ6 H6 s6 → (∀ s7, Inv X pins (σ6.set i none) H6 s7 → Q s7) →
          wpAny (model X.prog X.w) X.A (do bindName X.env n .none; unbindBehindTheSuite X.env n pos') (fun _ s7 => Q s7) X.xe s6 := fun {σ6 H6 Q} S6 hq => gone_ok (S6.unsuiteK okI) nd slot loc hq
      match f, fin with
      | .next, ⟨σ6, H6, S6, q6⟩ => exact close S6 fun s7 J7 => ⟨_, _, J7, q6⟩
      | .brk, ⟨σ6, H6, S6, q6⟩ => exact close S6 fun s7 J7 => ⟨_, _, J7, q6⟩
      | .cont, ⟨σ6, H6, S6, q6⟩ => exact close S6 fun s7 J7 => ⟨_, _, J7, q6⟩
      | .ret u, ⟨v6, σ6, H6, S6, r6, q6⟩ => exact close S6 fun s7 J7 => ⟨_, _, _, J7, r6, q6⟩
    | false =>
      show wpAny _ X.A (handleBy (.ref a) X.env []) _ _ _
      refine wpAny_handleBy_nil ?_
      obtain ⟨k1, k2, k3, oe, vs, T, oT, ts', he, hz, hd, h1, hr⟩ := id fl5
      unfold PySem.passOn
      refine wpAny_bind (wpAny_field he hd h1 ?_)
      rw [if_neg (by simp)]
      have leave : wpAny (model X.prog X.w) X.A (setFlight (.ref a) X.env.frame) (fun _ s4 => wpAny (model X.prog X.w) X.A (throw (.ref a) : Sem Flow) (SP X pins D) X.xe s4) X.xe { s' with heap := g5 } := by
        rw [frm]
        refine HandSPX.setFlight_upZ fl5 fun g4 held up4 => wpAny_throw (tk _ _ ?_)
        exact ⟨a, B, sI, pins, σ', H', cls, d, rfl, J, nb, (up.trans up5).trans up4, .inr (.inr (by rw [stk]; exact held)), fresh, os, ag, no rfl⟩
      first
        | exact wpAny_bind (wpAny_pure (wpAny_bind leave))
        | exact wpAny_bind leave
  · match f, q with
    | .next, ⟨σ', H', J', q⟩ => exact wpAny_execs_nil ⟨σ', H', J'.ofTry okI, q⟩
    | .brk, ⟨σ', H', J', q⟩ => exact ⟨σ', H', J'.ofTry okI, q⟩
    | .cont, ⟨σ', H', J', q⟩ => exact ⟨σ', H', J'.ofTry okI, q⟩
    | .ret u, ⟨v, σ', H', J', r, q⟩ => exact ⟨v, σ', H', J'.ofTry okI, r, q⟩
end

/-! ### promises of defs that are called within a suite (whatever is handled), while no repr is under way -/
def FnK (P : Program) (w : World) (K : PySem.W.Frag) (mg : Str → Option Value) (base : Heap) (k : Nat) (f : Addr) (sp : Sp) : Prop :=
  ∀ (A : Around) (fr : List Env) (st : Shared) (H : Hp) (us : List Value) (vs : List V) (Q : VK), A.guards = some [] → L2H.RoomH k A → Env0 P w K mg base A fr st H → Vals vs us →
    sp vs H Q E0 → codeAny (model P w) A (.call (.ref f) ⟨us, []⟩) (CR CX0 fr P w H st Q E0) st
/-- the context of such a def's body -/
def cxK (P : Program) (w : World) (K : PySem.W.Frag) (mg : Str → Option Value) (base : Heap) (N : List Str) (qual : Str) (scope : Scope) (f : Addr) (cd : Value) (A : Around) (outer : List Env) (s : Shared) (H : Hp) : Cx :=
  { cxOf CX0 P w K mg base N qual scope f cd A outer s H E0 with calm := false }
theorem inv_startK {P : Program} {w : World} {K : PySem.W.Frag} {mg : Str → Option Value} {base : Heap} {N ps : List Str} {qual : Str} {scope : Scope} {f : Addr} {cd : Value} {A : Around} {outer : List Env} {s s1 : Shared} {H : Hp} {us : List Value} {vs : List V}
    (S : FnScope N ps scope) (e0 : Env0 P w K mg base A outer s H) (hl : vs.length = ps.length) (r : Vals vs us)
    (x : InCallC s s.heap.objs.size (bindL (envOfC qual scope s.heap.objs.size f cd).kindOf (ps.zip us) fun _ => none) (cellsFrom (s.heap.objs.size + 1) scope.names []) (bindC (envOfC qual scope s.heap.objs.size f cd).kindOf (ps.zip us) fun _ => none) s1) :
    Inv (cxK P w K mg base N qual scope f cd A outer s H) [] (L2.start N vs) H s1 := by
  -- as if nothing were handled: of the surroundings the invariant knows the frames alone
  have calmer : Env0 P w K mg base { A with handled := none } outer s H := ⟨e0.frames, e0.mod, e0.bs, e0.bsz, e0.funs, e0.frf, e0.hok, e0.bare⟩
  have I := inv_start (CX := CX0) (E := E0) S (A := { A with handled := none }) rfl calmer hl r x
  exact ⟨⟨I.ok.mod, I.ok.kind, I.ok.glob, I.ok.blt, I.ok.above, I.ok.inj, I.ok.has, I.ok.cab, (fun z => (nomatch (show false = true from z))), I.ok.frames, I.ok.stk, I.ok.exf, I.ok.bs, I.ok.bsz, I.ok.noex, I.ok.exfs, I.ok.funs, I.ok.frf⟩,
    I.os, I.bare, I.base, I.loc, I.cell, I.free, I.freeC, I.pin, I.hok, I.len⟩
section
variable {P : Program} {w : World} {K : PySem.W.Frag} {mg : Str → Option Value} {base : Heap} {k : Nat} {f : Addr} {sp : Sp}
theorem FnK.mono {j : Nat} (F : FnK P w K mg base j f sp) (h : j ≤ k) : FnK P w K mg base k f sp := fun A fr st H us vs Q hg hr => F A fr st H us vs Q hg (hr.mono h)
theorem fk_of {name qual : Str} {pms : Arguments} {body : List Stmt} {sc : Scope} {dV kV doc pm cdv ct oc : Value} {an od : Option Addr} {osl : Array (Option Value)} {N ps : List Str}
    (lk : K.lookup f = some ⟨oc, od, .func (PySem.W.fnOf name qual pms body sc dV kV doc pm an cdv ct), osl⟩) (hc : PySem.W.codeIn K cdv qual = true) (S : FnScope N ps sc)
    (hB : Binds K (PySem.W.fnOf name qual pms body sc dV kV doc pm an cdv ct) ps []) (hlen : ∀ vs H Q E, sp vs H Q E → vs.length = ps.length)
    (hbd : ∀ (A : Around) (fr : List Env) (st : Shared) (H : Hp) (vs : List V) (Q : VK), A.guards = some [] → L2H.RoomH k (A.deeper (envOfC qual sc st.heap.objs.size f cdv)) → sp vs H Q E0 →
      ∃ t, PSs (cxK P w K mg base N qual sc f cdv A fr st H).nox body t ∧ t { nx := fun _ H' => Q .non H', rt := Q } (start N vs) H) :
    FnK P w K mg base (k + 1) f sp := by
  intro A fr st H us vs Q hg hr e0 r hs
  have hl := hlen _ _ _ _ hs
  have hul : (us ++ []).length = ps.length := by
    rw [List.append_nil, ← r.length, hl]
  have KX : K.In st.heap := e0.mod.kin.keeps fun b o e => (e0.bs b o e).1
  have nl : st.heap.NoLimit := e0.mod.nolimit.keeps fun b o e => (e0.bs b o e).1
  have hk : ∀ y ∈ ps.zip us, sc.names.lookup y.1 = some .local ∨ (sc.names.lookup y.1 = some .cell ∧ ((cellsFrom (st.heap.objs.size + 1) sc.names []).lookup y.1).isSome = true) := by
    intro y hy
    rcases S.par y.1 (List.of_mem_zip hy).1 with q | q
    · exact .inl q
    · exact .inr ⟨q, PySem.W.cellsFrom_some _ _ _ (.inl q)⟩
  have hb2 := hB st us KX hul
  rw [List.append_nil] at hb2
  refine codeAny_call_function hr.depth (KX _ _ lk) rfl S.co S.gen rfl (PySem.W.codeRec_of KX hc) (hb2 _ _ _ _ ?_)
  refine wpAny_newFunctionEnv_cells S.kind hk fun env he s1 x => ?_
  subst he
  refine ⟨nl.keeps x.toInCall.keep, codeAny_func ?_⟩
  obtain ⟨t, ht, hq⟩ := hbd A fr st H vs Q hg (hr.deeper _) hs
  have J : Inv (cxK P w K mg base N qual sc f cdv A fr st H) [] (start N vs) H s1 := inv_startK S e0 hl r x
  refine wpAny_mono (ht.nox.run [] s1 (start N vs) H _ J hq) (fun fl s' hz => ?_) fun e s' hz => hz
  cases fl with
  | ret u =>
    obtain ⟨v, σ', H', J', rv, q⟩ := hz
    exact ⟨v, H', J'.os, J'.bare, J'.base, J'.hok, rv, q⟩
  | next =>
    obtain ⟨σ', H', J', q⟩ := hz
    exact ⟨.non, H', J'.os, J'.bare, J'.base, J'.hok, rfl, q⟩
  | brk => exact (hz.choose_spec.choose_spec.2 : False).elim
  | cont => exact (hz.choose_spec.choose_spec.2 : False).elim
theorem fun_k {x qual : Str} {st : Stmt} {fd : FuncData} {N ps : List Str} (F : Fun K x qual st f fd) (S : FnScope N ps (defScope st)) (hB : Binds K fd ps []) (hlen : ∀ vs H Q E, sp vs H Q E → vs.length = ps.length)
    (hbd : ∀ (cdv : Value) (A : Around) (fr : List Env) (s : Shared) (H : Hp) (vs : List V) (Q : VK), A.guards = some [] → L2H.RoomH k (A.deeper (envOfC qual (defScope st) s.heap.objs.size f cdv)) → sp vs H Q E0 →
      ∃ t, PSs (cxK P w K mg base N qual (defScope st) f cdv A fr s H).nox (defBody st) t ∧ t { nx := fun _ H' => Q .non H', rt := Q } (start N vs) H) :
    FnK P w K mg base (k + 1) f sp := by
  obtain ⟨oc, od, kV, doc, pm, an, cdv, ct, osl, rfl, lk, hc⟩ := F.ex
  exact fk_of lk hc S hB hlen fun A fr s H vs Q hg hr hs => hbd cdv A fr s H vs Q hg hr hs
end
section
variable {X : Cx} {k : Nat} {f : Addr} {sp : Sp} {x : Str} {p pos : Pos} {e : Expr} {es : List Expr} {t : TA}
/-- f(e, ..) in a suite -/
theorem pe_callk (F : FnK X.prog X.w X.K X.mg X.base k f sp) (hg : X.A.guards = some []) (hr : L2H.RoomH k X.A) (gl : Gl X x) (hm : X.mg x = some (.ref f)) (hk : PySem.W.keepIn X.K (.ref f) = true)
    (ha : PA X (e :: es) t) (hdb : (x == ("__debug__" : Str)) = false := by decide) (he : starEach (e :: es) X.env = (false, eval e X.env) :: starEach es X.env := by rfl) (hpl : (backTo pos (starEach es X.env)).any (·.1) = false := by rfl) :
    PE X (.Call (.Name x p) (e :: es) [] pos) (tCall sp [] E0 t) := by
  refine ⟨fun pins s σ H Q I h => ?_⟩
  refine wpAny_Call_Name_kw (ld_glob I gl hm ?_ hdb)
  refine PySem.W.callWith_K (h₀ := X.base) I.ok.mod.kin hk (thn (ha.run pos pins s σ H _ I h) fun us s1 ⟨vs, H1, I1, r, q⟩ => ⟨I1.kIn, ?_⟩) he hpl
  have q1 : sp vs H1 Q E0 := by
    have z : sp (vs ++ []) H1 Q E0 := q
    rw [List.append_nil] at z
    exact z
  refine wpAny_call (codeAny_mono (F X.A X.stack s1 H1 us vs Q hg hr I1.env0 r q1) fun r s' hq => ?_)
  match r, hq with
  | .ok (.ret u), hq => exact I1.after hq
  | .ok .next, hq => exact False.elim hq
  | .ok .brk, hq => exact False.elim hq
  | .ok .cont, hq => exact False.elim hq
  | .error _, hq => exact False.elim hq
end
/-! ### isinstance and fields of a caught exception -/
/-- the exception at a: its class, its dict, its fields -/
def ExAt (H : Hp) (a C : Addr) (fs : List (Str × V)) : Prop := ∃ d, H a = some (exk a C d) ∧ H d = some (.xd fs)
/-- what its class says -/
structure ExcK (K : PySem.W.Frag) (D : Addr) : Prop where
  cl : (PySem.W.clsIn K D).isSome = true
  hg : PySem.W.findIn K (.ref D) "__getattribute__" = some (some (.builtin "BaseException.__getattribute__"))
  hk : PySem.W.findIn K (.ref D) "__getattr__" = some none
  hs : PySem.W.subIn K (.ref D) (.type "BaseException") = some true
  hd : PySem.W.hasDictIn K D = true
  ha : PySem.W.findIn K (.ref D) "__class__" = some (some (.builtin "object.__class__"))
  hn : PySem.W.specialIn K (.builtin "object.__class__") "__get__" = some (some (.builtin "getset_descriptor.__get__"))
  ht : PySem.W.takesIn K (.builtin "object.__class__") = some true
  hm : PySem.W.mroIn K D (.type "object") = some true
theorem ExAt.inst {X : Cx} {pins : List (Addr × Obj)} {σ : L2.St} {H : Hp} {s : Shared} {a C : Addr} {fs : List (Str × V)} (I : Inv X pins σ H s) (e : ExAt H a C fs) :
    ∃ (d : Addr) (o od : Obj), PySem.W.InstAt s.heap a o C (some od) ∧ H d = some (.xd fs) ∧ o.dict = some d ∧ s.heap.get? d = some od := by
  obtain ⟨d, e1, e2⟩ := e
  obtain ⟨o, vs, h1, h2, h3, h4⟩ := exk_at I.hok e1
  have hx : ObjOk X.prog X.w H s.heap d (.xd fs) := I.hok d _ e2
  obtain ⟨mA, hns, hr⟩ := hx
  obtain ⟨od, es, ep, ho, _⟩ := id hns
  exact ⟨d, o, od, ⟨h1, h2, by unfold PySem.W.notCls; rw [h4] <;> rfl, by rw [h3]; exact ho⟩, e2, h3, ho⟩
def rIsK (K : PySem.W.Frag) : List V → Hp → VK → Prop := fun xs H Q => ∃ (a C : Addr) (fs : List (Str × V)) (c : V) (cv : Value) (b : Bool), xs = [.ref a, c] ∧ ExAt H a C fs ∧ ExcK K C ∧ (∀ u, RelV c u → u = cv) ∧ PySem.W.kitOne K (.ref C) cv = some b ∧ Q (.bl b) H
theorem call_isK {X : Cx} : CallR X (.builtin "isinstance") (rIsK X.K) := by
  intro pins s σ H xs us Q I r h
  obtain ⟨a, C, fs, c, cv, b, rfl, e, T, hcv, ek, q⟩ := h
  cases r with
  | cons rx rr =>
    cases rr with
    | cons rt rr =>
      cases rr
      cases rx
      have ec := hcv _ rt
      subst ec
      obtain ⟨d, o, od, J, _⟩ := e.inst I
      exact PySem.W.kia_one (PySem.W.kitx_exc T.cl T.hg T.hk T.hs T.ha T.hn T.ht T.hm) I.kIn J ek (fun z => nomatch z) fun tk => ⟨.bl b, H, I.kept (t' := tk) fun _ _ z => z, rfl, q⟩
def tXk (K : PySem.W.Frag) (f : Str) (te : TE) : TE := fun σ H Q => te σ H fun x H1 => ∃ (a C : Addr) (fs : List (Str × V)) (v : V), x = .ref a ∧ ExAt H1 a C fs ∧ ExcK K C ∧ PySem.W.findIn K (.ref C) f = some none ∧ fs.lookup f = some v ∧ Q v H1
theorem pe_xk {X : Cx} {e : Expr} {te : TE} {pos : Pos} {n : Str} (he : PE X e te) (hb : attributeBase e n X.env (eval e X.env) = eval e X.env := by rfl) : PE X (.Attribute e n pos) (tXk X.K n te) := by
  refine ⟨fun pins s σ H Q I h => ?_⟩
  refine attr_of hb (thn (he.run pins s σ H _ I h) fun u s1 hh => ?_)
  obtain ⟨x, H1, I1, rx, a, C, fs, v, ex, ea, T, hno, l, q⟩ := hh
  subst ex
  obtain rfl : u = Value.ref a := rx
  obtain ⟨d, o, od, J, e2, ed, eo⟩ := ea.inst I1
  have hx : ObjOk X.prog X.w H1 s1.heap d (.xd fs) := I1.hok d _ e2
  obtain ⟨mA, hns, hr⟩ := hx
  obtain ⟨od', ho, hl⟩ := lookIn_ns hns
  obtain rfl : od' = od := Option.some.inj (ho.symm.trans eo)
  obtain ⟨u, hu, ru⟩ := RelO.some_of (v := v) (o := mA n) (by rw [← l]; exact hr n)
  exact HandSPX.exc_get I1.kIn J T.hg T.hk T.hs (PySem.W.findObj_own T.hd hno rfl (by rw [hl, hu])) (handed_of ru) ⟨v, H1, I1.tok _, ru, q⟩
end MH
/-! repr of values of many kinds; list.count of truths; the signs of what repr shows. -/
namespace MH
open PySem PySem.Spec PyProof.Rows L2

/-! ### signs -/
def SgOk (z : Str) : Prop := ∀ c ∈ z.cps.toList, c < 0x110000
theorem sg_iff {z : Str} : PyData.strOk z = true ↔ SgOk z := by
  unfold PyData.strOk SgOk
  rw [← Array.all_toList, List.all_eq_true]
  exact ⟨fun h c hc => of_decide_eq_true (h c hc), fun h c hc => decide_eq_true (h c hc)⟩
theorem sg_append {x y : Str} (a : SgOk x) (b : SgOk y) : SgOk (x ++ y) := by
  intro c hc
  have hc' : c ∈ (x.cps ++ y.cps).toList := hc
  rw [Array.toList_append, List.mem_append] at hc'
  exact hc'.elim (a c) (b c)
theorem char_lt (c : Char) : c.toNat < 0x110000 := by
  have h := c.valid
  have e : c.toNat = c.val.toNat := rfl
  rcases h with h | h
  · rw [e]
    have h' : c.val.toNat < 0xd800 := h
    omega
  · rw [e]
    exact h.2
theorem sg_ofString (s : String) : SgOk (Str.ofString s) := by
  intro c hc
  rw [Str.ofString_eq_toList] at hc
  have hc' : c ∈ s.toList.map Char.toNat := by simpa using hc
  obtain ⟨d, _, rfl⟩ := List.mem_map.mp hc'
  exact char_lt d
theorem sg_join {sep : Str} (h : SgOk sep) : ∀ {l : List Str}, (∀ z ∈ l, SgOk z) → SgOk (Str.join sep l)
  | [], _ => fun c hc => by simp [Str.join, Str.empty] at hc
  | [x], hl => hl x List.mem_cons_self
  | x :: y :: r, hl => by
    show SgOk (x ++ sep ++ Str.join sep (y :: r))
    exact sg_append (sg_append (hl x List.mem_cons_self) h) (sg_join h fun z hz => hl z (List.mem_cons_of_mem _ hz))
theorem sg_reprChar {q c : Nat} (hc : c < 0x110000) : ∀ y ∈ Builtin.Str.reprChar q c, y < 0x110000 := by
  have hx : ∀ w : Nat, ∀ y ∈ List.replicate (w - ((Nat.toDigits 16 c).map Char.toNat).length) 48 ++ (Nat.toDigits 16 c).map Char.toNat, y < 0x110000 := by
    intro w y hy
    rcases List.mem_append.mp hy with hy | hy
    · have := (List.mem_replicate.mp hy).2
      omega
    · obtain ⟨d, _, rfl⟩ := List.mem_map.mp hy
      exact char_lt d
  unfold Builtin.Str.reprChar
  dsimp only
  intro y hy
  have two : ∀ {a b : Nat} {w : Nat}, a < 0x110000 → b < 0x110000 → y ∈ [a, b] ++ (List.replicate (w - ((Nat.toDigits 16 c).map Char.toNat).length) 48 ++ (Nat.toDigits 16 c).map Char.toNat) → y < 0x110000 := by
    intro a b w ha hb hm
    rcases List.mem_append.mp hm with hm | hm
    · rcases List.mem_cons.mp hm with rfl | hm
      · exact ha
      · rw [List.mem_singleton.mp hm]
        exact hb
    · exact hx w y hm
  have lit : ∀ {a b : Nat}, a < 0x110000 → b < 0x110000 → y ∈ [a, b] → y < 0x110000 := by
    intro a b ha hb hm
    rcases List.mem_cons.mp hm with rfl | hm
    · exact ha
    · rw [List.mem_singleton.mp hm]
      exact hb
  split at hy
  · rcases List.mem_cons.mp hy with rfl | hm
    · decide
    · rw [List.mem_singleton.mp hm]
      exact hc
  · split at hy
    · exact lit (by decide) (by decide) hy
    · split at hy
      · exact lit (by decide) (by decide) hy
      · split at hy
        · exact lit (by decide) (by decide) hy
        · split at hy
          · rw [List.mem_singleton.mp hy]
            exact hc
          · split at hy
            · exact two (by decide) (by decide) hy
            · split at hy
              · exact two (by decide) (by decide) hy
              · exact two (by decide) (by decide) hy
theorem sg_foldl (q : Nat) : ∀ (l : List Nat) (acc : Array Nat), (∀ c ∈ l, c < 0x110000) → (∀ c ∈ acc.toList, c < 0x110000) → ∀ c ∈ (l.foldl (fun out c => out ++ (Builtin.Str.reprChar q c).toArray) acc).toList, c < 0x110000
  | [], acc, _, ha => ha
  | d :: l, acc, hl, ha => by
    rw [List.foldl_cons]
    refine sg_foldl q l _ (fun c hc => hl c (List.mem_cons_of_mem _ hc)) fun c hc => ?_
    rw [Array.toList_append, List.mem_append] at hc
    rcases hc with hc | hc
    · exact ha c hc
    · exact sg_reprChar (hl d List.mem_cons_self) c (by simpa using hc)
theorem sg_repr {x : Str} (h : SgOk x) : SgOk (reprText x) := by
  have hq : reprQuote x < 0x110000 := by
    unfold reprQuote
    split <;> decide
  intro c hc
  have hc' : c ∈ ((x.cps.foldl (fun out c => out ++ (Builtin.Str.reprChar (reprQuote x) c).toArray) #[reprQuote x]).push (reprQuote x)).toList := hc
  rw [Array.toList_push, List.mem_append] at hc'
  rcases hc' with hc' | hc'
  · rw [← Array.foldl_toList] at hc'
    exact sg_foldl _ _ _ h (fun d hd => by
      have e : d = reprQuote x := by simpa using hd
      rw [e]
      exact hq) c hc'
  · rw [List.mem_singleton.mp hc']
    exact hq
mutual
theorem sg_shown : ∀ d : PyData, okD d = true → SgOk d.shown
  | .none, _ => by
    rw [PyData.shown_none]
    exact sg_ofString _
  | .bool b, _ => by
    rw [PyData.shown_bool]
    cases b <;> exact sg_ofString _
  | .int i, _ => by
    rw [PyData.shown_int]
    exact sg_ofString _
  | .str x, h => by
    rw [PyData.shown_str]
    exact sg_repr (sg_iff.mp h)
  | .list xs, h => by
    rw [PyData.shown_list]
    exact sg_append (sg_append (sg_ofString _) (sg_join (sg_ofString _) (sg_shownAll xs h))) (sg_ofString _)
  | .tuple xs, h => by
    rw [PyData.shown_tuple]
    exact sg_append (sg_append (sg_ofString _) (sg_join (sg_ofString _) (sg_shownAll xs h))) (sg_ofString _)
  | .dict _, h => nomatch h
theorem sg_shownAll : ∀ xs : List PyData, okDs xs = true → ∀ z ∈ PyData.shownAll xs, SgOk z
  | [], _ => fun z hz => by
    rw [PyData.shownAll_nil] at hz
    cases hz
  | x :: xs, h => fun z hz => by
    have h' : (okD x && okDs xs) = true := h
    rw [Bool.and_eq_true] at h'
    rw [PyData.shownAll_cons] at hz
    rcases List.mem_cons.mp hz with rfl | hz
    · exact sg_shown x h'.1
    · exact sg_shownAll xs h'.2 z hz
end

/-! ### what repr shows of a value -/
/-- data, not deep, not long; or an empty dict -/
def Shw (K : PySem.W.Frag) (H : Hp) (v : V) (txt : Str) : Prop :=
  (∃ d, Dp K H v d ∧ okD d = true ∧ d.depth ≤ 60 ∧ cost d ≤ 100000 ∧ txt = d.shown) ∨ (∃ a, v = .ref a ∧ H a = some (.dK []) ∧ txt = "{}")
theorem Shw.sg {K : PySem.W.Frag} {H : Hp} {v : V} {txt : Str} (h : Shw K H v txt) : SgOk txt := by
  rcases h with ⟨d, _, ok, _, _, rfl⟩ | ⟨a, _, _, rfl⟩
  · exact sg_shown d ok
  · exact sg_ofString _
def rReprV (K : PySem.W.Frag) : List V → Hp → VK → Prop := fun xs H Q => ∃ (v : V) (txt : Str), xs = [v] ∧ Shw K H v txt ∧ Q (.str txt) H
section
variable {X : Cx}
theorem empty_reads {P : Program} {w : World} {H : Hp} {h : Heap} {a : Addr} (hok : HOk P w H h) (e : H a = some (.dK [])) : Reads h (.ref a) (.dict []) ([a] ++ []) ∧ sysModules ≠ a := by
  obtain ⟨_, hs, vs, hk, hd⟩ := dk_of hok e
  cases hk
  obtain ⟨o, es, ep, ho, hx, hdat, hk2, hp, _⟩ := hd
  refine ⟨?_, fun z => ?_⟩
  · have e0 : es.toList = [] := by
      generalize es.toList = l at hp
      cases hp
      rfl
    refine Reads.dict (as := []) (bs := []) ho ?_ hdat ?_ ?_
    · exact hx.1
    · rw [e0]
      exact .nil
    · rw [e0]
      exact .nil
  · rw [← z] at hs
    simp at hs
theorem call_reprV (hg : X.A.guards = some []) (hu : X.A.units + 64 < cLine) : CallR X (.builtin "repr") (rReprV X.K) := by
  intro pins s σ H xs us Q I r h
  obtain ⟨v, txt, rfl, hs, q⟩ := h
  obtain ⟨u, rfl, ru⟩ := vals1 r
  rcases hs with ⟨d, hd, ok, dep, cst, rfl⟩ | ⟨a, rfl, e, rfl⟩
  · have hlen : d.shown.length ≤ sizeLine := Nat.le_trans (shown_le d ok) (Nat.le_trans cst (by decide))
    have isRef : ∀ a, u = Value.ref a → wpAny (model X.prog X.w) X.A (call (.builtin "repr") [u]) (EP X pins σ Q) X.xe s := fun a eu => by
      obtain ⟨as, rd⟩ := Dp.reads I d _ _ hd ru
      subst eu
      exact repr_of_reads' rd (ok_show d ok) (PyData.noDict_hsm (PyData.hasDict_of_canLay d (ok_lay d ok))) hg (by omega) (fun _ _ e => e) (fun h' u tk hk => ⟨.str d.shown, H, I.kept hk, ⟨_, rfl⟩, q⟩) hlen
    cases hd with
    | non =>
      obtain rfl : u = Value.none := ru
      rw [PyData.shown_none] at q
      exact PySem.P.repr_of_none ⟨.str _, H, I.tok _, ⟨_, rfl⟩, q⟩
    | bl b =>
      obtain rfl : u = Value.bool b := ru
      rw [PyData.shown_bool] at q
      refine PySem.P.repr_of_bool ⟨.str _, H, I.tok _, ⟨_, rfl⟩, ?_⟩
      cases b <;> exact q
    | int i =>
      obtain ⟨t, rfl⟩ := ru
      rw [PyData.shown_int] at q
      have q2 := ok_show (.int i) ok
      rw [PyData.showable] at q2
      exact PySem.P.repr_of_int (of_decide_eq_true q2) ⟨.str _, H, I.tok _, ⟨_, rfl⟩, q⟩
    | str x =>
      obtain ⟨t, rfl⟩ := ru
      rw [PyData.shown_str] at q hlen
      exact PySem.P.repr_of_str ⟨.str _, H, I.tok _, ⟨_, rfl⟩, q⟩ hlen
    | lst h1 h2 => exact isRef _ ru
    | tup h1 h2 => exact isRef _ ru
  · obtain rfl : u = Value.ref a := ru
    obtain ⟨rd, ns⟩ := empty_reads I.hok e
    have es : (PyData.dict []).shown = ("{}" : Str) := by
      rw [PyData.shown_dict, PyData.shownKv_nil]
      rfl
    refine repr_of_reads' rd (by simp only [PyData.showable]; rfl) (fun _ z => ns (by simpa using z)) hg (by simp only [PyData.depth]; first | omega | (rw [PyData.depthKv]; omega)) (fun _ _ e => e) (fun h' u tk hk => ⟨.str (PyData.dict []).shown, H, I.kept hk, ⟨_, rfl⟩, ?_⟩) (by rw [es]; decide)
    rw [es]
    exact q
end

/-! ### list.count of truths -/
def eqb (b : Bool) : Value → Bool := fun v => v == Value.bool b
def rCntB (K : PySem.W.Frag) : V → List V → Hp → VK → Prop := fun x xs H Q => ∃ (p : Addr) (bs : List Bool) (b : Bool), x = .ref p ∧ xs = [.bl b] ∧ SqL K H p (bs.map V.bl) ∧ bs.length ≤ 1000 ∧ Q (.int (bs.count b : Nat)) H
section
variable {X : Cx}
theorem dp_bls {K : PySem.W.Frag} {H : Hp} : ∀ bs : List Bool, DpAll K H (bs.map V.bl) (bs.map PyData.bool)
  | [] => .nil
  | b :: r => .cons (.bl b) (dp_bls r)
theorem bools_plain : ∀ bs : List Bool, PyData.plainAll (bs.map PyData.bool) = true
  | [] => by simp only [List.map_nil, PyData.plainAll]
  | b :: r => by
    rw [List.map_cons, PyData.plainAll, bools_plain r]
    simp only [PyData.plain, Bool.and_true]
theorem bools_depth : ∀ bs : List Bool, PyData.depthAll (bs.map PyData.bool) = 0
  | [] => by simp only [List.map_nil, PyData.depthAll]
  | b :: r => by
    rw [List.map_cons, PyData.depthAll, bools_depth r, PyData.depth]
    rfl
theorem bools_count (b : Bool) : ∀ bs : List Bool, (bs.map PyData.bool).countP (fun y => PyData.eqv y (.bool b)) = bs.count b
  | [] => rfl
  | c :: r => by
    rw [List.map_cons, List.countP_cons, List.count_cons, bools_count b r]
    congr 1
theorem mt_bcount (hu : X.A.units + 64 < cLine) : MtR X "list.count" (rCntB X.K) := by
  intro pins s σ H x xs v us Q I rx rxs h
  obtain ⟨p, bs, b, rfl, rfl, hs, hz, q⟩ := h
  cases rx
  obtain ⟨u, rfl, ru⟩ := rxs.one
  obtain rfl : u = Value.bool b := ru
  obtain ⟨its, rv, pl, hlen⟩ := I.list hs
  obtain ⟨as, rd⟩ := Dp.readsAll I _ _ _ (dp_bls bs) rv
  have e : ((bs.map PyData.bool).countP fun y => PyData.eqv y (PyData.bool b)) = bs.count b := bools_count b bs
  refine PySem.SeqAt.count_list_data (vs := its.toArray) (xs := bs.map PyData.bool) (d := .bool b) pl.isList (by simpa using rd) (Reads.bool b) (bools_plain bs) (by simp only [PyData.plain]) (by rw [bools_depth]; simp only [PyData.depth]; omega) ?_
  rw [e]
  exact ⟨.int (bs.count b : Nat), H, I.tok _, ⟨_, rfl⟩, q⟩
end
end MH
/-! Small rules: what a callee lets out, defs that make lambdas, upper and replace side by side, frames in which tables of code grow, the end of such a law. -/
namespace MH
open PySem PySem.Spec PyProof.Rows L2

/-- what a callee lets out leaves this def -/
theorem passX {X : Cx} {E : XK} {E₁ : Value → Shared → Prop} (hs : X.stack = X.env :: X.outer) (hf : X.env.frame = some X.env.locals) (hex : X.ex = [])
    (hx : X.xe = fun e s' => wpAny (model X.prog X.w) X.A (leaving X.env e) (fun _ s'' => L2.CX X.prog X.w X.outer X.H_0 X.s_0 E e s'') E₁ s') : Passes (L2.CX X.prog X.w) X E := passes_call (takes_of hs hf hex hx) fun _ _ _ _ h => h
theorem roomH_units {k : Nat} {A : Around} (r : L2H.RoomH k A) : A.units + 64 < cLine := by
  have := r.un
  omega
theorem _root_.L2H.RoomH.units {k : Nat} {A : Around} (r : L2H.RoomH k A) : A.units + 64 < cLine := roomH_units r

/-! ### a def whose code object is told -/
def MkFn (K : PySem.W.Frag) (x : Str) (st : Stmt) (f c : Addr) (ps : List Str) : Prop :=
  ∃ (oc : Value) (od : Option Addr) (kV doc pm : Value) (an : Option Addr) (ct : Value) (osl : Array (Option Value)),
    K.lookup f = some ⟨oc, od, .func (PySem.W.fnOf x x (defArgs st) (defBody st) (defScope st) .none kV doc pm an (.ref c) ct), osl⟩ ∧ PySem.W.codeIn K (.ref c) x = true ∧ Binds K (PySem.W.fnOf x x (defArgs st) (defBody st) (defScope st) .none kV doc pm an (.ref c) ct) ps []
theorem _root_.L2.Fun.shape {K : PySem.W.Frag} {x : Str} {st : Stmt} {f : Addr} {fd : FuncData} {ps : List Str} (F : Fun K x x st f fd) (b : Binds K fd ps []) :
    ∃ (oc : Value) (od : Option Addr) (kV doc pm : Value) (an : Option Addr) (cdv ct : Value) (osl : Array (Option Value)),
      K.lookup f = some ⟨oc, od, .func (PySem.W.fnOf x x (defArgs st) (defBody st) (defScope st) .none kV doc pm an cdv ct), osl⟩ ∧ PySem.W.codeIn K cdv x = true ∧ Binds K (PySem.W.fnOf x x (defArgs st) (defBody st) (defScope st) .none kV doc pm an cdv ct) ps [] := by
  obtain ⟨oc, od, kV, doc, pm, an, cdv, ct, osl, e, lk, hc⟩ := F.ex
  subst e
  exact ⟨oc, od, kV, doc, pm, an, cdv, ct, osl, lk, hc, b⟩
section
variable {P : Program} {w : World} {K : PySem.W.Frag} {mg : Str → Option Value} {base : Heap} {k : Nat} {f c : Addr} {sp : Sp}
theorem fun_m {x : Str} {st : Stmt} {N ps : List Str} (M : MkFn K x st f c ps) (S : FnScope N ps (defScope st)) (hlen : ∀ vs H Q E, sp vs H Q E → vs.length = ps.length)
    (hbd : ∀ (A : Around) (fr : List Env) (s : Shared) (H : Hp) (vs : List V) (Q : VK), A.guards = some [] → Room k (A.deeper (envOfC x (defScope st) s.heap.objs.size f (.ref c))) → sp vs H Q E0 →
      ∃ t, PSs (cxOf CX0 P w K mg base N x (defScope st) f (.ref c) A fr s H E0).nox (defBody st) t ∧ t { nx := fun _ H' => Q .non H', rt := Q } (start N vs) H) :
    FnG P w K mg base (k + 1) f sp := by
  obtain ⟨oc, od, kV, doc, pm, an, ct, osl, lk, hc, hB⟩ := M
  exact fg_of lk hc S hB hlen hbd
end

/-- what a code object must have beside its table -/
def codeOk (vs : Array Value) (c P : Addr) : Bool := (match (vs[11]? : Option Value) with | some (.ref P') => P' == P | _ => false) &&
  (match vs.getD 18 .none with | .str _ _ => true | _ => false) && (match vs.getD 7 .none with | .int _ _ => true | _ => false) &&
  (match vs.getD 9 .none with | .bool _ => true | _ => false) && (match vs.getD 10 .none with | .int _ _ => true | _ => false) && c != P
theorem codeHd_of {K : PySem.W.Frag} {c P : Addr} {d : Option Addr} {vs : Array Value} {sl : Array (Option Value)} (h : K.lookup c = some ⟨.type "code", d, .fields vs, sl⟩) (h2 : codeOk vs c P = true) : PySem.W.codeHdIn K c P = true := by
  unfold PySem.W.codeHdIn
  rw [h]
  exact h2

/-! ### [x.upper(), y.replace(".", ".."), ..] -/
def rUp : V → List V → Hp → VK → Prop := fun x xs H Q => ∃ a, x = .str a ∧ xs = [] ∧ a.length ≤ 5592405 ∧ Q (.str (Txt.upper a)) H
theorem pa_upRep {X : Cx} {o o2 : Expr} {es : List Expr} {to to2 : TE} {t : TA} {y z : Str} {j k : Nat} {ap1 p1 ap2 p2 c0 c1 : Pos} (ho : PE X o to) (ho2 : PE X o2 to2) (hr : PA X es t) (hyz : (y == z) = false := by decide)
    (hst : starEach [.Constant (.str y) j c0, .Constant (.str z) k c1] X.env = [(false, eval (.Constant (.str y) j c0) X.env), (false, eval (.Constant (.str z) k c1) X.env)] := by rfl)
    (hb1 : attributeBase o "upper" X.env (eval o X.env) = eval o X.env := by rfl) (hl1 : (ap1.endLine == p1.line) = true := by rfl)
    (hb2 : attributeBase o2 "replace" X.env (eval o2 X.env) = eval o2 X.env := by rfl) (hl2 : (ap2.endLine == p2.line) = true := by rfl)
    (hs : starEach (.Call (.Attribute o "upper" ap1) [] [] p1 :: .Call (.Attribute o2 "replace" ap2) [.Constant (.str y) j c0, .Constant (.str z) k c1] [] p2 :: es) X.env
      = (false, eval (.Call (.Attribute o "upper" ap1) [] [] p1) X.env) :: (false, eval (.Call (.Attribute o2 "replace" ap2) [.Constant (.str y) j c0, .Constant (.str z) k c1] [] p2) X.env) :: starEach es X.env := by rfl) :
    PA X (.Call (.Attribute o "upper" ap1) [] [] p1 :: .Call (.Attribute o2 "replace" ap2) [.Constant (.str y) j c0, .Constant (.str z) k c1] [] p2 :: es) (tCons (tM0 rUp to) (tCons (CwR.tReplC to2 y z) t)) := by
  refine ⟨fun pos pins s σ H Q I h => ?_⟩
  rw [hs]
  refine Calls.spliced_cons ?_
  refine PySem.Call_method0 hb1 hl1 (thn (ho.run pins s σ H _ I h) fun v s1 ⟨x, H1, I1, r1, q1⟩ => ?_)
  obtain ⟨⟨a, rfl⟩, b, eb, _, hlen, q1⟩ := q1
  obtain rfl : a = b := V.str.inj eb
  obtain ⟨tk, rfl⟩ := id r1
  refine ⟨"str", _, PySem.F.plainAttrs_str, PySem.F.slot_str_upper, PySem.F.type_str_upper, typeIs_str _ _ _, (fun _ e => nomatch e), Calls.callWith_builtin rfl (PySem.evalArgs_none ?_)⟩
  refine PySem.SC.upper (PyProof.Rows.short24 (by have := PyProof.Rows.len_upper a; omega)) ?_
  refine Calls.spliced_cons (thn (CwR.pet_replC ho2 hyz hst hb2 hl2 pins _ σ H1 _ (Nat.le_add_left 1 s1.toks) (I1.tok (s1.toks + 1)) q1) fun u s2 ⟨x2, H2, I2, r2, q2⟩ => ?_)
  exact thn (hr.run pos pins s2 σ H2 _ I2 q2) fun us s3 ⟨xs, H3, I3, r3, q3⟩ => ⟨V.str (Txt.upper a) :: x2 :: xs, H3, I3, .cons ⟨_, rfl⟩ (.cons r2 r3), q3⟩

/-! ### frames in which the tables of code may grow -/
theorem extN_of {H H' : Hp} (s : Same H H') : LamX.ExtN H H' := fun b o e _ => s b o e
theorem extN_sqt {K : PySem.W.Frag} {H H' : Hp} {a : Addr} {xs : List V} (e : LamX.ExtN H H') (h : SqT K H a xs) : SqT K H' a xs := by
  rcases h with (h | ⟨o, h⟩) | h
  · exact .inl (.inl (e _ _ h fun _ z => nomatch z))
  · exact .inl (.inr ⟨o, e _ _ h fun _ z => nomatch z⟩)
  · exact .inr h
theorem extN_sql {K : PySem.W.Frag} {H H' : Hp} {a : Addr} {xs : List V} (e : LamX.ExtN H H') (h : SqL K H a xs) : SqL K H' a xs := by
  rcases h with (h | ⟨o, h⟩) | h
  · exact .inl (.inl (e _ _ h fun _ z => nomatch z))
  · exact .inl (.inr ⟨o, e _ _ h fun _ z => nomatch z⟩)
  · exact .inr h
mutual
theorem extN_dp {K : PySem.W.Frag} {H H' : Hp} (e : LamX.ExtN H H') : ∀ (d : PyData) (v : V), Dp K H v d → Dp K H' v d
  | .none, _, h => by cases h; exact .non
  | .bool b, _, h => by cases h; exact .bl b
  | .int i, _, h => by cases h; exact .int i
  | .str x, _, h => by cases h; exact .str x
  | .list ds, _, h => by
    cases h with
    | lst h1 h2 => exact .lst (extN_sql e h1) (extN_dps e ds _ h2)
  | .tuple ds, _, h => by
    cases h with
    | tup h1 h2 => exact .tup (extN_sqt e h1) (extN_dps e ds _ h2)
  | .dict _, _, h => by cases h
theorem extN_dps {K : PySem.W.Frag} {H H' : Hp} (e : LamX.ExtN H H') : ∀ (ds : List PyData) (vs : List V), DpAll K H vs ds → DpAll K H' vs ds
  | [], _, h => by cases h; exact .nil
  | d :: ds, _, h => by
    cases h with
    | cons h1 h2 => exact .cons (extN_dp e d _ h1) (extN_dps e ds _ h2)
end
theorem extN_shw {K : PySem.W.Frag} {H H' : Hp} {v : V} {txt : Str} (e : LamX.ExtN H H') (h : Shw K H v txt) : Shw K H' v txt := by
  rcases h with ⟨d, h1, h2⟩ | ⟨a, h1, h2, h3⟩
  · exact .inl ⟨d, extN_dp e d v h1, h2⟩
  · exact .inr ⟨a, h1, e _ _ h2 (fun _ z => nomatch z), h3⟩
theorem tabs_same {T : List (Addr × Str)} {H H' : Hp} (t : LamX.Tabs T H) (s : Same H H') : LamX.Tabs T H' := t.ext s
/-- the tables stand where only an object that is no part of them changed -/
theorem tabs_but {T : List (Addr × Str)} {H H' : Hp} {p : Addr} {u : HO} (t : LamX.Tabs T H) (hp : H p = some u) (n1 : ∀ ps, u ≠ .tbl ps) (n2 : ∀ c q, u ≠ LamX.CodeO c q) (s : ∀ b o, b ≠ p → H b = some o → H' b = some o) : LamX.Tabs T H' := fun x hx => by
  obtain ⟨ps, h1, h2, h3⟩ := t x hx
  refine ⟨ps, s _ _ (fun e => ?_) h1, h2, fun pos cv hc => ?_⟩
  · rw [e, hp] at h1
    exact n1 ps (Option.some.inj h1)
  · obtain ⟨c, e1, e2⟩ := h3 pos cv hc
    refine ⟨c, e1, s _ _ (fun e => ?_) e2⟩
    rw [e, hp] at e2
    exact n2 _ _ (Option.some.inj e2)
/-- what keeps the tables and all else -/
theorem extN_trans {H H1 H2 : Hp} (a : LamX.ExtN H H1) (b : LamX.ExtN H1 H2) : LamX.ExtN H H2 := a.trans b
theorem extN_new {H : Hp} {p : Addr} {o : HO} (h : H p = none) : LamX.ExtN H (upd H p o) := fun b x e _ => by
  rw [upd_ne (ne_of_none e h)]
  exact e

/-! ### the end of a law whose defs make lambdas -/
theorem law_callt {P : Program} {w : World} {K : PySem.W.Frag} {mg mb : Str → Option Value} {k : Nat} {fa a c T : Addr} {sp : Sp} {st : Shared} {us : List Value} {ns : List Int}
    (KX : K.In st.heap) (hn : st.heap.Ns mainGlobals mg) (hb : st.heap.Ns builtinsNs mb) (hbb : ∀ x : Str, x ≠ "__name__" → mb x = bootBuiltins x) (nl : st.heap.NoLimit) (hgens : st.gens = #[])
    (hT : st.heap.get? T = some (PySem.W.tabObj #[])) (nT : K.lookup T = none) (hC : PySem.W.CodeHd st.heap c T)
    (hbm : ∃ (bm : Addr) (ob : Obj), mg "__builtins__" = some (.ref bm) ∧ bm ≠ builtinsNs ∧ st.heap.get? bm = some ob ∧ ob.cls = .type "module" ∧ ob.dict = some builtinsNs ∧ ob.data = .plain)
    (ha : st.heap.get? a = some { cls := .type "list", data := .seq us.toArray }) (hi : IntsAre us ns) (hz : ns.length ≤ sizeLine) (hr : Room k callerA)
    (F : ∀ base : Heap, K.In base → base.Ns mainGlobals mg → LamX.TabB base mg c T → FnG P w K mg base k fa sp)
    (hsp : ∀ H : Hp, H T = some (.tbl #[]) → SqL K H a (ns.map V.int) → sp [.ref a] H (fun v _ => v = .bl true) E0) :
    codeAny (model P w) callerA (.call (.ref fa) ⟨[.ref a], []⟩) (fun r s' => r = .ok (.ret (.bool true)) ∧ OldK st.heap s'.heap ∧ s'.os = st.os ∧ AllBare s'.gens) st := by
  have rv := vals_ints hi
  have hlen := hi.length
  have aT : a ≠ T := fun e => by
    rw [e, hT] at ha
    cases ha
  let S : HO := .frz { cls := .type "list", data := .seq us.toArray } (.lst (ns.map V.int))
  have key : ∀ H : Hp, (∀ b, H b = none ∨ (b = T ∧ H b = some (.tbl #[])) ∨ (b = a ∧ H b = some S)) → H T = some (.tbl #[]) → SqL K H a (ns.map V.int) → (H a ≠ none → K.lookup a = none) →
      codeAny (model P w) callerA (.call (.ref fa) ⟨[.ref a], []⟩) (fun r s' => r = .ok (.ret (.bool true)) ∧ OldK st.heap s'.heap ∧ s'.os = st.os ∧ AllBare s'.gens) st := by
    intro H hO hHT hS hK
    have hok : HOk P w H st.heap := fun b u z => by
      rcases hO b with n | ⟨e, n⟩ | ⟨e, n⟩
      · rw [z] at n
        cases n
      · rw [z] at n
        cases n
        rw [e]
        exact hT
      · rw [z] at n
        cases n
        rw [e]
        exact ⟨ha, by rw [List.length_map]; exact hz, us, _, rv, ha⟩
    -- what is no list of the script and no table is not told of
    have off : ∀ {b : Addr} {o : Obj}, st.heap.get? b = some o → (∀ vs n, o.data ≠ .seq vs n) → o.data ≠ .fields #[] → H b = none := fun {b o} e h1 h2 => by
      rcases hO b with n | ⟨e2, _⟩ | ⟨e2, _⟩
      · exact n
      · rw [e2, hT] at e
        cases e
        exact absurd rfl h2
      · rw [e2, ha] at e
        cases e
        exact absurd rfl (h1 _ _)
    have toNs : ∀ {b : Addr} {m : Str → Option Value}, st.heap.Ns b m → (hidT st.heap H).Ns b m := fun ⟨o, es, ep, e, d, r⟩ => ⟨o, es, ep, hidT_get e (off e (fun vs n z => by rw [d] at z; cases z) fun z => by rw [d] at z; cases z), d, r⟩
    have kb : K.In (hidT st.heap H) := fun b o e => hidT_get (KX b o e) (by
      rcases hO b with n | ⟨e2, _⟩ | ⟨e2, n⟩
      · exact n
      · rw [e2, nT] at e
        cases e
      · rw [e2, hK (by rw [← e2, n]; simp)] at e
        cases e)
    obtain ⟨mc, l1, l2⟩ := nl
    have M : Mod K mg (hidT st.heap H) := ⟨kb, toNs hn, ⟨mb, toNs hb, hbb⟩, ⟨mc, toNs l1, l2⟩⟩
    have TB : LamX.TabB (hidT st.heap H) mg c T := by
      refine ⟨?_, ?_, fun z => ?_⟩
      · obtain ⟨o, vs, file, tf, flags, tg, inF, text, tt, e1, r1, r2, r3, rest⟩ := hC
        refine ⟨o, vs, file, tf, flags, tg, inF, text, tt, hidT_get e1 (off e1 (fun vs n z => ?_) fun z => ?_), r1, r2, r3, rest⟩
        · rw [r2] at z
          cases z
        · rw [r2] at z
          cases z
          simp at r3
      · obtain ⟨bm, ob, b1, b2, b3, b4, b5, b6⟩ := hbm
        have g0 : bm ≠ mainGlobals := fun q => by
          obtain ⟨o, es, ep, e, d, _⟩ := hn
          rw [q, e] at b3
          cases b3
          rw [d] at b6
          cases b6
        have g1 : bm ≠ T := fun q => by
          rw [q, hT] at b3
          cases b3
          cases b6
        refine ⟨bm, ob, b1, b2, g0, g1, hidT_get b3 (off b3 (fun vs n z => ?_) fun z => ?_), b4, b5, b6⟩
        · rw [b6] at z
          cases z
        · rw [b6] at z
          cases z
      · obtain ⟨o, es, ep, e, d, _⟩ := hn
        rw [z, hT] at e
        cases e
        cases d
    have e0 : Env0 P w K mg (hidT st.heap H) callerA [] st H :=
      ⟨rfl, M, fun b o e => of_hidT e, Nat.le_of_eq (hidT_size _ _), trivial, fun b hb => absurd (show b ∈ ([] : List Addr) from hb) (by simp), hok, .of_eq hgens⟩
    refine codeAny_mono (F _ kb (toNs hn) TB callerA [] st H [.ref a] [.ref a] _ rfl hr e0 (.cons rfl .nil) (hsp H hHT hS)) fun r s' h => ?_
    match r, h with
    | .error e, h => exact h.elim
    | .ok .next, h => exact h.elim
    | .ok .brk, h => exact h.elim
    | .ok .cont, h => exact h.elim
    | .ok (.ret u), h =>
      obtain ⟨v, H', os, bare, un, hok', rr, q⟩ := h
      obtain rfl : v = .bl true := q
      obtain rfl : u = Value.bool true := rr
      obtain ⟨more, grown⟩ := un.tbls T #[] hHT
      have atT : s'.heap.get? T = some { cls := .none, data := .fields (#[] ++ more) } := hok' T _ grown
      have rest : ∀ b o, b ≠ T → st.heap.get? b = some o → s'.heap.get? b = some o := fun b o nb e => by
        rcases hO b with n | ⟨e2, _⟩ | ⟨e2, n⟩
        · exact un.keep b o e n (fun z => absurd (show b ∈ ([] : List Addr) from z) (by simp)) (by simp)
        · exact absurd e2 nb
        · obtain ⟨g1, _⟩ := hok b _ n
          obtain ⟨g2, _⟩ := hok' b _ (un.frzs b _ _ n)
          rw [e] at g1
          cases g1
          exact g2
      refine ⟨rfl, ⟨fun b o e => ?_, fun b o e => ?_⟩, os, bare⟩
      · by_cases hbT : b = T
        · subst hbT
          rw [hT] at e
          cases e
          exact .inr (.inl ⟨(hC.tab hT).isCodeTable, rfl, #[], more, rfl, by rw [Array.empty_append] at atT ⊢; exact atT⟩)
        · exact .inl (rest b o hbT e)
      · by_cases hbT : b = T
        · subst hbT
          exact ⟨_, atT⟩
        · exact ⟨o, rest b o hbT e⟩
  cases hk : K.lookup a with
  | some o =>
    have e := KX a o hk
    rw [ha] at e
    cases e
    refine key (fun b => if b = T then some (.tbl #[]) else none) (fun b => ?_) (if_pos rfl) (.inr ⟨_, us.toArray, _, hk, rfl, rfl, rfl, ?_, by simpa using rv⟩) fun z => absurd (if_neg aT) z
    · by_cases q : b = T
      · exact .inr (.inl ⟨q, if_pos q⟩)
      · exact .inl (if_neg q)
    · rw [List.size_toArray, hlen]
      exact hz
  | none =>
    refine key (fun b => if b = a then some S else if b = T then some (.tbl #[]) else none) (fun b => ?_) ((if_neg aT.symm).trans (if_pos rfl)) (.inl (.inr ⟨{ cls := .type "list", data := .seq us.toArray }, if_pos rfl⟩)) fun _ => hk
    by_cases q : b = a
    · exact .inr (.inr ⟨q, if_pos q⟩)
    · by_cases q2 : b = T
      · exact .inr (.inl ⟨q2, (if_neg q).trans (if_pos q2)⟩)
      · exact .inl ((if_neg q).trans (if_neg q2))

theorem walk_t {l : PySem.W.OpenLaw} {n k : Nat} {q : Program} {loose : List Str} {XP : (Str → Option Value) → Heap → Prop} {YP : World → Heap → Prop} {d : DefRec} {K : Params → PySem.W.Frag} {sp : Addr → PySem.W.Frag → Sp}
    (hn : l.most = some n) (hn2 : n ≤ sizeLine) (hdf : d.params.defaults = []) (hr : Room k callerA) (hY : ∀ (w : World) (h : Heap), YP w h → (K w.params).In h)
    (F : ∀ (w : World) (mg : Str → Option Value) (fa : Addr) (h : Heap), YP w h → (K w.params).In h → h.Ns mainGlobals mg → mg d.name = some (.ref fa) →
      ∃ c T : Addr, h.get? T = some (PySem.W.tabObj #[]) ∧ (K w.params).lookup T = none ∧ PySem.W.CodeHd h c T ∧
        ∀ base : Heap, (K w.params).In base → base.Ns mainGlobals mg → LamX.TabB base mg c T → FnG l.prog w (K w.params) mg base k fa (sp T (K w.params)))
    (hsp : ∀ (T : Addr) (K : PySem.W.Frag) (H : Hp) (a : Addr) (ns : List Int), ns.length ≤ n → H T = some (.tbl #[]) → SqL K H a (ns.map V.int) → sp T K [.ref a] H (fun v _ => v = .bl true) E0) :
    PySem.W.WalkO q loose XP YP l.row.toRowW d [] (fun f vs => PySem.call f vs) := by
  refine Att.attach_call hn hdf fun w s₀ s₁ mg mb fa o pm cd doc a vs ns G Y ho hd hcd hmg hobj hints hlen hg => ?_
  have KX := hY w _ Y
  obtain ⟨c, T, hT, nT, hC, hF⟩ := F w mg fa _ Y KX G.T.g hmg
  exact law_callt KX G.T.g G.T.b G.T.builtins G.T.nolimit hg hT nT hC G.T.bmain hobj hints (Nat.le_trans hlen hn2) hr hF fun H hH hS => hsp T _ H a ns hlen hH hS
end MH
/-! More small rules: t == (), star defs that raise, c.m() of a class, calls that may raise but do not, the end of a law with several tables of code. -/
namespace MH
open PySem PySem.Spec PyProof.Rows L2

/-! ### t == () -/
def rEqT0 (K : PySem.W.Frag) : R2 := fun x y H Q => ∃ (a b : Addr) (xs : List V), x = .ref a ∧ y = .ref b ∧ SqT K H a xs ∧ SqT K H b [] ∧ Q (.bl (decide (xs = []))) H
theorem op_eqT0 {X : Cx} (hu : X.A.units < cLine) : OpR X (compareOp .Eq) (rEqT0 X.K) := by
  intro pins s σ H x y v u Q I rx ry h
  obtain ⟨a, b, xs, rfl, rfl, ha, hb, q⟩ := h
  obtain rfl : v = Value.ref a := rx
  obtain rfl : u = Value.ref b := ry
  obtain ⟨its, rv, pl, hlen⟩ := I.tuple ha
  obtain ⟨its2, rv2, pl2, _⟩ := I.tuple hb
  cases rv2
  have e : ((List.range (min its.toArray.size ([] : List Value).toArray.size)).all (fun _ => true) && its.toArray.size == ([] : List Value).toArray.size) = decide (xs = []) := by
    have hl := rv.length
    cases xs with
    | nil =>
      have : its = [] := List.length_eq_zero_iff.mp hl.symm
      subst this
      rfl
    | cons x r =>
      cases its with
      | nil => cases hl
      | cons y t => simp
  have q2 : EP X pins σ Q (.bool (decide (xs = []))) s := ⟨.bl _, H, I, rfl, q⟩
  rw [← e] at q2
  exact SeqAt.RcAt.tuples (e := fun _ => true) pl pl2 hu (fun j h1 h2 => absurd h2 (by simp)) X.prog X.w _ _ q2

/-! ### calls that may raise and do not -/
theorem pass00 {X : Cx} : Passes (L2.CX X.prog X.w) X E0 := passes_call LamX.takes0 fun _ _ _ _ h => h

/-! ### star defs that raise -/
theorem cxnew {P : Program} {w : World} : CXNew (L2.CX P w) := by
  intro outer s H h2 p rest E e s' more hp np h
  obtain ⟨a, B, H', cls, d, e1, fl, hok, ub, na, os, ag, q⟩ := h
  have off : ∀ b o, s.heap.get? b = some o → b ≠ p := fun b o e z => by
    have q : b < s.heap.objs.size := Heap.lt_size e
    rw [z] at q
    exact absurd hp (Nat.not_le_of_lt q)
  refine ⟨a, B, H', cls, d, e1, fl, hok, ⟨fun b o e n hx => ?_, fun b o e m => ?_, fun b o e n => ?_, fun b o e m => ?_, fun b xs e => ?_, fun b o u e => ?_, fun b ps e => ?_⟩, na, os, ag, q⟩
  · exact ub.keep b o (more _ _ e) (by rw [upd_ne (off b o e)]; exact n) hx
  · exact ub.slot b o (more _ _ e) m
  · exact ub.free b o (more _ _ e) (by rw [upd_ne (off b o e)]; exact n)
  · exact ub.there b o (more _ _ e) m
  · exact ub.tups b xs (by rw [upd_ne (ne_of_none e np)]; exact e)
  · exact ub.frzs b o u (by rw [upd_ne (ne_of_none e np)]; exact e)
  · exact ub.tbls b ps (by rw [upd_ne (ne_of_none e np)]; exact e)
theorem fun_starX {k n : Nat} {P : Program} {w : World} {K : PySem.W.Frag} {mg : Str → Option Value} {base : Heap} {f : Addr} {x qual pa pv : Str} {st : Stmt} {fd : FuncData} {N : List Str} {sp : Sp} (F : Fun K x qual st f fd) (S : FnScope N [pa, pv] (defScope st)) (hn : n ≤ sizeLine)
    (hb : ∀ (u : Value) (rest : List Value), rest.length ≤ n → bindArgs fd ⟨u :: rest, []⟩ = (newTuple rest >>= fun t => pure [(pa, u), (pv, t)]))
    (hbd : ∀ (cdv : Value) (A : Around) (outer : List Env) (s : Shared) (H : Hp) (vs : List V) (Q : VK) (E : XK), Room k (A.deeper (envOfC qual (defScope st) s.heap.objs.size f cdv)) → sp vs H Q E →
      ∃ t, PSs (cxOf (L2.CX P w) P w K mg base N qual (defScope st) f cdv A outer s H E) (defBody st) t ∧ t { nx := fun _ H' => Q .non H', rt := Q } (start N vs) H) :
    FnR P w K mg base (L2.CX P w) (k + 1) f (fun vs H Q E => ∃ v rest, vs = v :: rest ∧ rest.length ≤ n ∧ ∀ p, H p = none → sp [v, .ref p] (upd H p (.tup rest)) Q E) := by
  obtain ⟨oc, od, kV, doc, pm, an, cdv, ct, osl, rfl, lk, hc⟩ := F.ex
  exact fn_ofV (CX := L2.CX P w) (sp := sp) lk hc S (nmax := n) hn hb cxnew fun A outer s H vs Q E hr h => hbd cdv A outer s H vs Q E hr h
theorem bindV11 {fd : FuncData} {pa pv : Str} (h : ∀ (n : Nat), n ≤ 11 → ∀ (u : Value) (rest : List Value), rest.length = n → bindArgs fd ⟨u :: rest, []⟩ = (newTuple rest >>= fun t => pure [(pa, u), (pv, t)])) :
    ∀ (u : Value) (rest : List Value), rest.length ≤ 11 → bindArgs fd ⟨u :: rest, []⟩ = (newTuple rest >>= fun t => pure [(pa, u), (pv, t)]) := fun u rest h2 => h rest.length h2 u rest rfl

/-! ### c.m(), m a classmethod -/
def tCMeth0 (C : Addr) (sp : Sp) (E : XK) (ta : TE) : TE := fun σ H Q => ta σ H fun x H1 => x = .ref C ∧ sp [.ref C] H1 Q E
section
variable {X : Cx} {CX : CXT} {k : Nat} {f C : Addr} {sp : Sp} {E : XK}
theorem pe_cmeth0 {p : Addr} {mc : Value} {o : Expr} {m : Str} {apos pos : Pos} {ta : TE} {pl : Sem Bool} (he : PE X o ta) (r : ClX.CRead X.K C mc) (c : ClX.CMet X.K C mc m p f)
    (F : FnR X.prog X.w X.K X.mg X.base CX k f sp) (hr : Room k X.A) (hx : Passes CX X E)
    (ht : eval (.Call (.Attribute o m apos) [] [] pos) X.env = (do
      let ov ← eval o X.env
      standAt apos.atName
      let (f, first) ← holding [ov] (getMethod ov m pl)
      callWith pos f first (backTo pos (starEach [] X.env)) (backToKw pos (keywordEach [] X.env))) := by rfl) :
    PE X (.Call (.Attribute o m apos) [] [] pos) (tCMeth0 C sp E ta) := by
  refine ⟨fun pins s σ H Q I h => ?_⟩
  refine PySem.W.methodCall_KW (pl := pl) (thn (he.run pins s σ H _ I h) fun u s1 ⟨x, H1, I1, rx, ex, q⟩ => ?_) ht
  subst ex
  obtain rfl : u = Value.ref C := rx
  refine ClX.getmethcm_ok I1 r c fun s2 I2 => ?_
  refine PySem.W.callWith_of (P := PySem.W.MethP X.K s1.heap.objs.size f (.ref C)) (by rfl) (PySem.W.keeps_M c.fi) (PySem.evalArgs_none ⟨⟨ClX.pin_at I2, I2.kIn⟩, ?_⟩)
  have r1 : Vals [V.ref C] [Value.ref C] := .cons rfl .nil
  have z : wpAny (model X.prog X.w) X.A (call (.ref s1.heap.objs.size) [] []) (EP X ((s1.heap.objs.size, PySem.W.methodObj (.ref f) (.ref C)) :: pins) σ Q) X.xe s2 := by
    refine wpAny_call (PySem.W.method_call (ClX.pin_at I2) ?_)
    exact run_fnR F hr hx I2 r1 q
  exact thn z fun _ _ y => ClX.unpinE y
end

/-! ### the end of a law whose defs make lambdas: several tables -/
theorem law_calltL {P : Program} {w : World} {K : PySem.W.Frag} {mg mb : Str → Option Value} {k : Nat} {fa a : Addr} {cs : List (Addr × Addr)} {sp : Sp} {st : Shared} {us : List Value} {ns : List Int}
    (KX : K.In st.heap) (hn : st.heap.Ns mainGlobals mg) (hb : st.heap.Ns builtinsNs mb) (hbb : ∀ x : Str, x ≠ "__name__" → mb x = bootBuiltins x) (nl : st.heap.NoLimit) (hgens : st.gens = #[])
    (hT0 : ∀ p ∈ cs, st.heap.get? p.2 = some (PySem.W.tabObj #[])) (nT0 : ∀ p ∈ cs, K.lookup p.2 = none) (hC0 : ∀ p ∈ cs, PySem.W.CodeHd st.heap p.1 p.2)
    (hbm : ∃ (bm : Addr) (ob : Obj), mg "__builtins__" = some (.ref bm) ∧ bm ≠ builtinsNs ∧ st.heap.get? bm = some ob ∧ ob.cls = .type "module" ∧ ob.dict = some builtinsNs ∧ ob.data = .plain)
    (ha : st.heap.get? a = some { cls := .type "list", data := .seq us.toArray }) (hi : IntsAre us ns) (hz : ns.length ≤ sizeLine) (hr : Room k callerA)
    (F : ∀ base : Heap, K.In base → base.Ns mainGlobals mg → (∀ p ∈ cs, LamX.TabB base mg p.1 p.2) → FnG P w K mg base k fa sp)
    (hsp : ∀ H : Hp, (∀ p ∈ cs, H p.2 = some (.tbl #[])) → SqL K H a (ns.map V.int) → sp [.ref a] H (fun v _ => v = .bl true) E0) :
    codeAny (model P w) callerA (.call (.ref fa) ⟨[.ref a], []⟩) (fun r s' => r = .ok (.ret (.bool true)) ∧ OldK st.heap s'.heap ∧ s'.os = st.os ∧ AllBare s'.gens) st := by
  have rv := vals_ints hi
  have hlen := hi.length
  let TS : List Addr := cs.map Prod.snd
  have inTS : ∀ {b : Addr}, b ∈ TS → ∃ p ∈ cs, p.2 = b := fun h => List.mem_map.mp h
  have hT : ∀ b ∈ TS, st.heap.get? b = some (PySem.W.tabObj #[]) := fun b h => by
    obtain ⟨p, hp, rfl⟩ := inTS h
    exact hT0 p hp
  have nT : ∀ b ∈ TS, K.lookup b = none := fun b h => by
    obtain ⟨p, hp, rfl⟩ := inTS h
    exact nT0 p hp
  have aT : a ∉ TS := fun e => by
    rw [hT a e] at ha
    cases ha
  let S : HO := .frz { cls := .type "list", data := .seq us.toArray } (.lst (ns.map V.int))
  have key : ∀ H : Hp, (∀ b, H b = none ∨ (b ∈ TS ∧ H b = some (.tbl #[])) ∨ (b = a ∧ H b = some S)) → (∀ b ∈ TS, H b = some (.tbl #[])) → SqL K H a (ns.map V.int) → (H a ≠ none → K.lookup a = none) →
      codeAny (model P w) callerA (.call (.ref fa) ⟨[.ref a], []⟩) (fun r s' => r = .ok (.ret (.bool true)) ∧ OldK st.heap s'.heap ∧ s'.os = st.os ∧ AllBare s'.gens) st := by
    intro H hO hHT hS hK
    have hok : HOk P w H st.heap := fun b u z => by
      rcases hO b with n | ⟨e, n⟩ | ⟨e, n⟩
      · rw [z] at n
        cases n
      · rw [z] at n
        cases n
        exact hT b e
      · rw [z] at n
        cases n
        rw [e]
        exact ⟨ha, by rw [List.length_map]; exact hz, us, _, rv, ha⟩
    -- what is no list of the script and no table is not told of
    have off : ∀ {b : Addr} {o : Obj}, st.heap.get? b = some o → (∀ vs n, o.data ≠ .seq vs n) → o.data ≠ .fields #[] → H b = none := fun {b o} e h1 h2 => by
      rcases hO b with n | ⟨e2, _⟩ | ⟨e2, _⟩
      · exact n
      · rw [hT b e2] at e
        cases e
        exact absurd rfl h2
      · rw [e2, ha] at e
        cases e
        exact absurd rfl (h1 _ _)
    have toNs : ∀ {b : Addr} {m : Str → Option Value}, st.heap.Ns b m → (hidT st.heap H).Ns b m := fun ⟨o, es, ep, e, d, r⟩ => ⟨o, es, ep, hidT_get e (off e (fun vs n z => by rw [d] at z; cases z) fun z => by rw [d] at z; cases z), d, r⟩
    have kb : K.In (hidT st.heap H) := fun b o e => hidT_get (KX b o e) (by
      rcases hO b with n | ⟨e2, _⟩ | ⟨e2, n⟩
      · exact n
      · rw [nT b e2] at e
        cases e
      · rw [e2, hK (by rw [← e2, n]; simp)] at e
        cases e)
    obtain ⟨mc, l1, l2⟩ := nl
    have M : Mod K mg (hidT st.heap H) := ⟨kb, toNs hn, ⟨mb, toNs hb, hbb⟩, ⟨mc, toNs l1, l2⟩⟩
    have TB : ∀ p ∈ cs, LamX.TabB (hidT st.heap H) mg p.1 p.2 := by
      intro pp hpp
      have hTp := hT0 pp hpp
      refine ⟨?_, ?_, fun z => ?_⟩
      · obtain ⟨o, vs, file, tf, flags, tg, inF, text, tt, e1, r1, r2, r3, rest⟩ := hC0 pp hpp
        refine ⟨o, vs, file, tf, flags, tg, inF, text, tt, hidT_get e1 (off e1 (fun vs n z => ?_) fun z => ?_), r1, r2, r3, rest⟩
        · rw [r2] at z
          cases z
        · rw [r2] at z
          cases z
          simp at r3
      · obtain ⟨bm, ob, b1, b2, b3, b4, b5, b6⟩ := hbm
        have g0 : bm ≠ mainGlobals := fun q => by
          obtain ⟨o, es, ep, e, d, _⟩ := hn
          rw [q, e] at b3
          cases b3
          rw [d] at b6
          cases b6
        have g1 : bm ≠ pp.2 := fun q => by
          rw [q, hTp] at b3
          cases b3
          cases b6
        refine ⟨bm, ob, b1, b2, g0, g1, hidT_get b3 (off b3 (fun vs n z => ?_) fun z => ?_), b4, b5, b6⟩
        · rw [b6] at z
          cases z
        · rw [b6] at z
          cases z
      · obtain ⟨o, es, ep, e, d, _⟩ := hn
        rw [z, hTp] at e
        cases e
        cases d
    have e0 : Env0 P w K mg (hidT st.heap H) callerA [] st H :=
      ⟨rfl, M, fun b o e => of_hidT e, Nat.le_of_eq (hidT_size _ _), trivial, fun b hb => absurd (show b ∈ ([] : List Addr) from hb) (by simp), hok, .of_eq hgens⟩
    refine codeAny_mono (F _ kb (toNs hn) TB callerA [] st H [.ref a] [.ref a] _ rfl hr e0 (.cons rfl .nil) (hsp H (fun p hp => hHT _ (List.mem_map_of_mem hp)) hS)) fun r s' h => ?_
    match r, h with
    | .error e, h => exact h.elim
    | .ok .next, h => exact h.elim
    | .ok .brk, h => exact h.elim
    | .ok .cont, h => exact h.elim
    | .ok (.ret u), h =>
      obtain ⟨v, H', os, bare, un, hok', rr, q⟩ := h
      obtain rfl : v = .bl true := q
      obtain rfl : u = Value.bool true := rr
      have atT : ∀ b ∈ TS, ∃ more : Array Value, s'.heap.get? b = some { cls := .none, data := .fields (#[] ++ more) } := fun b hb => by
        obtain ⟨more, grown⟩ := un.tbls b #[] (hHT b hb)
        exact ⟨more, hok' b _ grown⟩
      have rest : ∀ b o, b ∉ TS → st.heap.get? b = some o → s'.heap.get? b = some o := fun b o nb e => by
        rcases hO b with n | ⟨e2, _⟩ | ⟨e2, n⟩
        · exact un.keep b o e n (fun z => absurd (show b ∈ ([] : List Addr) from z) (by simp)) (by simp)
        · exact absurd e2 nb
        · obtain ⟨g1, _⟩ := hok b _ n
          obtain ⟨g2, _⟩ := hok' b _ (un.frzs b _ _ n)
          rw [e] at g1
          cases g1
          exact g2
      refine ⟨rfl, ⟨fun b o e => ?_, fun b o e => ?_⟩, os, bare⟩
      · by_cases hbT : b ∈ TS
        · obtain ⟨more, at2⟩ := atT b hbT
          obtain ⟨p, hp, rfl⟩ := inTS hbT
          rw [hT0 p hp] at e
          cases e
          exact .inr (.inl ⟨((hC0 p hp).tab (hT0 p hp)).isCodeTable, rfl, #[], more, rfl, by rw [Array.empty_append] at at2 ⊢; exact at2⟩)
        · exact .inl (rest b o hbT e)
      · by_cases hbT : b ∈ TS
        · obtain ⟨more, at2⟩ := atT b hbT
          exact ⟨_, at2⟩
        · exact ⟨o, rest b o hbT e⟩
  cases hk : K.lookup a with
  | some o =>
    have e := KX a o hk
    rw [ha] at e
    cases e
    refine key (fun b => if b ∈ TS then some (.tbl #[]) else none) (fun b => ?_) (fun b hb => if_pos hb) (.inr ⟨_, us.toArray, _, hk, rfl, rfl, rfl, ?_, by simpa using rv⟩) fun z => absurd (if_neg aT) z
    · by_cases q : b ∈ TS
      · exact .inr (.inl ⟨q, if_pos q⟩)
      · exact .inl (if_neg q)
    · rw [List.size_toArray, hlen]
      exact hz
  | none =>
    refine key (fun b => if b = a then some S else if b ∈ TS then some (.tbl #[]) else none) (fun b => ?_) (fun b hb => (if_neg (fun e : b = a => aT (by rw [← e]; exact hb))).trans (if_pos hb)) (.inl (.inr ⟨{ cls := .type "list", data := .seq us.toArray }, if_pos rfl⟩)) fun _ => hk
    by_cases q : b = a
    · exact .inr (.inr ⟨q, if_pos q⟩)
    · by_cases q2 : b ∈ TS
      · exact .inr (.inl ⟨q2, (if_neg q).trans (if_pos q2)⟩)
      · exact .inl ((if_neg q).trans (if_neg q2))

theorem walk_tL {l : PySem.W.OpenLaw} {n k : Nat} {q : Program} {loose : List Str} {XP : (Str → Option Value) → Heap → Prop} {YP : World → Heap → Prop} {d : DefRec} {K : Params → PySem.W.Frag} {sp : List Addr → PySem.W.Frag → Sp}
    (hn : l.most = some n) (hn2 : n ≤ sizeLine) (hdf : d.params.defaults = []) (hr : Room k callerA) (hY : ∀ (w : World) (h : Heap), YP w h → (K w.params).In h)
    (F : ∀ (w : World) (mg : Str → Option Value) (fa : Addr) (h : Heap), YP w h → (K w.params).In h → h.Ns mainGlobals mg → mg d.name = some (.ref fa) →
      ∃ cs : List (Addr × Addr), (∀ p ∈ cs, h.get? p.2 = some (PySem.W.tabObj #[])) ∧ (∀ p ∈ cs, (K w.params).lookup p.2 = none) ∧ (∀ p ∈ cs, PySem.W.CodeHd h p.1 p.2) ∧
        ∀ base : Heap, (K w.params).In base → base.Ns mainGlobals mg → (∀ p ∈ cs, LamX.TabB base mg p.1 p.2) → FnG l.prog w (K w.params) mg base k fa (sp (cs.map Prod.snd) (K w.params)))
    (hsp : ∀ (TS : List Addr) (K : PySem.W.Frag) (H : Hp) (a : Addr) (ns : List Int), ns.length ≤ n → (∀ T ∈ TS, H T = some (.tbl #[])) → SqL K H a (ns.map V.int) → sp TS K [.ref a] H (fun v _ => v = .bl true) E0) :
    PySem.W.WalkO q loose XP YP l.row.toRowW d [] (fun f vs => PySem.call f vs) := by
  refine Att.attach_call hn hdf fun w s₀ s₁ mg mb fa o pm cd doc a vs ns G Y ho hd hcd hmg hobj hints hlen hg => ?_
  have KX := hY w _ Y
  obtain ⟨cs, hT, nT, hC, hF⟩ := F w mg fa _ Y KX G.T.g hmg
  exact law_calltL KX G.T.g G.T.b G.T.builtins G.T.nolimit hg hT nT hC G.T.bmain hobj hints (Nat.le_trans hlen hn2) hr hF fun H hH hS => hsp _ _ H a ns hlen (fun T hT => by obtain ⟨p, hp, rfl⟩ := List.mem_map.mp hT; exact hH p hp) hS
end MH
/-! Error classes of the program over any error class of Python's: their field is set, they are made and raised. -/
namespace MH
open PySem PySem.Spec PyProof.Rows L2

/-- an error class over the class B of Python's -/
structure OexG (K : PySem.W.Frag) (B newId initId : String) (bmB : List Value) (C : Addr) : Prop where
  own : ∃ nm q N bs bm sn sub ab col dd k0 k1 k2 k3 k5, K.lookup C = some (excClassObj nm q C N bs bm true sn sub ab col dd k0 k1 k2 k3 k5 newId) ∧ PySem.W.excTail bmB bm = true
  base : ExcBaseFacts B newId initId bmB
  sets : StoreFacts B bmB "object.__setattr__" "object"
  sa : PySem.W.findIn K (.ref C) "__setattr__" = some (some (.builtin "object.__setattr__"))
  exC : PySem.W.subIn K (.ref C) (.type "BaseException") = some true
  tyC : PySem.W.typeIn K (.ref C) = some (.type "type")
  kC : PySem.W.keepIn K (.ref C) = true
section
open Builtin Builtin.ObjectAttr PySem.HandSPX
variable {prog : Program} {w : World} {A : Around} {R : Result → Shared → Prop} {h : Heap} {gs : Array GenState} {dr : Drawn} {tc : Nat} {os : OsState}
/-- the first field of an error that has no dict as yet -/
theorem osa_g {K : PySem.W.Frag} {B : String} {bmB bm : List Value} {y : Str} {tk : Tok} {u : Value} {e C : Addr} {fv : Array Value} {cd : ClassData} (KX : K.In h) (he : h.get? e = some { cls := .ref C, data := .fields fv }) (hc : PySem.W.clsIn K C = some cd) (hmro : cd.mro = .ref C :: bm)
    (ht : PySem.W.excTail bmB bm = true) (S : StoreFacts B bmB "object.__setattr__" "object") (hd : cd.hasDict = true) (hno : PySem.W.findIn K (.ref C) y = some none)
    (k : ∀ h' tk' dx, (∀ b o, b ≠ e → h.get? b = some o → h'.get? b = some o) → h.objs.size ≤ dx → dx ≠ e → h'.get? e = some { cls := .ref C, dict := some dx, data := .fields fv } →
      h'.Ns1 dx (fun z => if z = y then some u else none) → R (.ok (.ret .none)) ⟨h', gs, dr, tk', os⟩) :
    codeAny (model prog w) A (.call (.builtin "object.__setattr__") ⟨[.ref e, .str y tk, u], []⟩) R ⟨h, gs, dr, tc, os⟩ := by
  have at0 : PySem.W.InstAt h e { cls := .ref C, data := .fields fv } C none := ⟨he, rfl, rfl, trivial⟩
  have fresh : e ≠ h.objs.size := Nat.ne_of_lt (Heap.lt_size he)
  have obj : cd.mro.contains (.type "object") = true := by
    rw [hmro, List.contains_cons, PySem.W.excTail_contains "object" bm ht, S.hasOwner]
    simp
  have inst : PySem.W.Looks (model prog w) h (isInstance (.ref e) (.type "object")) true := by
    refine at0.type.andThen (PySem.W.looks_mroIn KX ?_)
    unfold PySem.W.mroIn
    rw [hc, Option.bind_some, if_neg (by rw [hmro]; simp), obj]
  have step := fun {A' : Around} {Q : Unit → Shared → Prop} {E : Value → Shared → Prop} (z : Q () ⟨h, gs, dr, tc, os⟩) =>
    @PySem.W.check_slot (model prog w) A' E ⟨h, gs, dr, tc, os⟩ "object.__setattr__" "object" "__setattr__" (.ref e) [.str y tk, u] [] Q S.kind S.split inst (S.args _ _ _) z
  refine codeAny_call_builtin S.slot.plain S.entry (step ?_)
  rw [PySem.W.osa_eq, refuse_eq]
  have m1 : PySem.W.Looks (model prog w) h (mroOf (.ref C)) cd.mro := (PySem.W.looks_clsIn KX hc).andThen .now
  have m2 : PySem.W.Looks (model prog w) h (storeTaker? none) none := .now
  have m3 : PySem.W.Looks (model prog w) h (classData C) cd := PySem.W.looks_clsIn KX hc
  refine wpAny_bind (wpAny_bind (at0.type.at ?_))
  refine wpAny_bind (m1.at ?_)
  rw [hmro, PySem.W.excTail_pass _ (S.passes _) (.ref C :: bm) (show PySem.W.excTail bmB (.ref C :: bm) = true from ht)]
  refine wpAny_pure (wpAny_bind (at0.type.at ?_))
  refine wpAny_bind ((PySem.W.looks_findIn KX hno).at (wpAny_bind (m2.at ?_)))
  show wpAny _ _ (storeInOwnDict (.ref e) (.ref C) (.str y tk) y u false) _ _ _
  obtain ⟨nm, bs, mro, ns, qn, hd', sn, sb, ab, col, del⟩ := cd
  dsimp only at hd
  cases hd
  unfold storeInOwnDict ownDictForStores
  repeat (first | with_reducible refine store_in_new ?_ ?_ | with_reducible refine wpAny_loadPart_at he ?_ | with_reducible refine m3.at ?_ | wp_step)
  · have new0 := fun f => (Heap.get?_update_ne (h.push { cls := .type "dict", data := .dict #[] }) _ _ f fresh.symm).trans (Heap.get?_push_at rfl rfl)
    exact ⟨_, #[], _, new0 _, rfl, fun e he => absurd he (by simp), fun _ => rfl⟩
  · intro h' tk' hn' sb
    have he1 : (h.push { cls := .type "dict", data := .dict #[] }).get? e = some { cls := .ref C, data := .fields fv } := Heap.get?_push_of_some _ he
    refine k h' tk' h.objs.size (fun b o nb ho => ?_) (Nat.le_refl _) fresh.symm ((sb.2 e fresh).trans (Heap.get?_update_self _ he1 rfl)) hn'
    refine (sb.2 b (Nat.ne_of_lt (Heap.lt_size ho))).trans ?_
    rw [Heap.get?_update_ne _ _ _ _ nb]
    exact Heap.get?_push_of_some _ ho
end
section
variable {X : Cx} {pins : List (Addr × Obj)} {σ : L2.St} {H : Hp} {s : Shared} {a C : Addr} {f : Str} {y : V} {u : Value} {B newId initId : String} {bmB : List Value}
theorem ost_g {Q : Unit → Shared → Prop} {E : Value → Shared → Prop} {A : Around} (T : OexG X.K B newId initId bmB C) (I : Inv X pins σ H s) (e : H a = some (exo a C none)) (hno : PySem.W.findIn X.K (.ref C) f = some none) (ry : RelV y u)
    (k : ∀ dx s', H dx = none → dx ≠ a → Inv X pins σ (upd (upd H dx (exd dx [(f, y)])) a (exo a C (some dx))) s' → Q () s') : wpAny (model X.prog X.w) A (setAttr (.ref a) f u) Q E s := by
  obtain ⟨nm, q, N, bs, bm, sn, sub, ab, col, dd, k0, k1, k2, k3, k5, hC, hb⟩ := T.own
  obtain ⟨t1, ho⟩ := exo_at I.hok e
  obtain ⟨cd, hcl, hmro, hdict⟩ : ∃ cd, PySem.W.clsIn X.K C = some cd ∧ cd.mro = .ref C :: bm ∧ cd.hasDict = true := by
    refine ⟨{ name := nm, bases := bs, mro := .ref C :: bm, ns := N, qualname := q, hasDict := true, slotNames := sn, subclasses := sub, abstract := ab, collection := col }, ?_, rfl, rfl⟩
    unfold PySem.W.clsIn
    rw [hC] <;> rfl
  obtain ⟨h0, gs, dr, tc, os⟩ := s
  refine PySem.W.set_plain I.kIn (od := none) (ox := PySem.HandSPX.excO C t1) ⟨ho, rfl, rfl, trivial⟩ T.sa ?_
  refine osa_g I.kIn ho hcl hmro hb T.sets hdict hno fun h1 tk' dx kp dn dne hx hn => ?_
  have hnd : H dx = none := I.hok.fresh dn
  have off : ∀ {b : Addr}, H b = none → b ≠ a := fun n z => by
    rw [z, e] at n
    cases n
  have oth : ∀ {b : Addr} {o : HO}, H b = some o → exo a C none ≠ o → (upd (upd H dx (exd dx [(f, y)])) a (exo a C (some dx))) b = some o := fun {b o} z d => by
    rw [upd_ne (at_ne e z d), upd_ne (ne_of_none z hnd)]
    exact z
  have un : Un X.fs [] H (upd (upd H dx (exd dx [(f, y)])) a (exo a C (some dx))) h0 h1 := by
    refine ⟨fun b o z n _ _ => kp b o (off n) z, fun b o z n _ _ => ⟨o.slots, kp b o (off n) z⟩, fun b o z n _ => ?_, fun b o z _ => ?_, fun b xs z => oth z exo_tup, fun b o v z => oth z exo_frz, fun b ps z => ⟨#[], ?_⟩⟩
    · have n2 : b ≠ dx := Nat.ne_of_lt (Nat.lt_of_lt_of_le (Heap.lt_size z) dn)
      rw [upd_ne (off n), upd_ne n2]
      exact n
    · by_cases hb : b = a
      · rw [hb]
        exact ⟨_, hx⟩
      · exact ⟨o, kp b o hb z⟩
    · rw [Array.append_empty]
      exact oth z exo_tbl
  refine k dx _ hnd dne (I.un (t' := tk') un fun b o z => ?_)
  by_cases hba : b = a
  · subst hba
    rw [upd_same] at z
    cases z
    exact exo_ok hx
  by_cases hbd : b = dx
  · subst hbd
    rw [upd_ne hba, upd_same] at z
    cases z
    exact exd_ok hn (relO_put (fs := []) ry fun g => True.intro)
  rw [upd_ne hba, upd_ne hbd] at z
  refine (I.hok b o z).stay (fun c v hc w1 => kp c v ?_ w1) (fun c hc => oth hc exo_own) fun c xs hc => oth hc exo_tup
  rcases hc with hc | hc
  · rw [hc]
    exact hba
  · exact at_ne e hc exo_own
def tOstG (K : PySem.W.Frag) (B newId initId : String) (bmB : List Value) (f : Str) (to te : TE) : TS := fun D σ H => te σ H fun y H1 => to σ H1 fun x H2 => ∃ a C : Addr, x = .ref a ∧ OexG K B newId initId bmB C ∧ PySem.W.findIn K (.ref C) f = some none ∧
  H2 a = some (exo a C none) ∧ ∀ dx, H2 dx = none → dx ≠ a → D.nx σ (upd (upd H2 dx (exd dx [(f, y)])) a (exo a C (some dx)))
theorem ps_ostG {o e : Expr} {to te : TE} {p' pos : Pos} (ho : PE X o to) (he : PE X e te) (hs : swapsWith e (some (.Attribute o f p')) pos.line X.env = pure false := by rfl) : PS X (.Assign [.Attribute o f p'] e pos) (tOstG X.K B newId initId bmB f to te) := by
  refine ⟨fun pins s σ H D I h => plainObj_wpAny_Assign_Attribute (thn (he.run pins s σ H _ I h) fun v s1 ⟨y, H1, I1, r1, q1⟩ => ?_) hs⟩
  refine thn (ho.run pins s1 σ H1 _ I1 q1) fun u s2 ⟨x, H2, I2, r2, q2⟩ => ?_
  obtain ⟨a, C, rfl, T, hno, ea, q⟩ := q2
  obtain rfl : u = Value.ref a := r2
  exact ost_g T I2 ea hno r1 fun dx s' n ne J => ⟨σ, _, J, q dx n ne⟩
/-- C(e, ..) that is raised -/
theorem pmk_g {CX : CXT} {x : Str} {e : Expr} {es : List Expr} {ta : TA} {p pos : Pos} {fI : Addr} {k : Nat} {fd : FuncData} {ps : List Str} {sp : Sp} {ds : List Value} {dvs : List V} (T : OexG X.K B newId initId bmB C) (iC : PySem.W.findIn X.K (.ref C) "__init__" = some (some (.ref fI))) (tI : PySem.W.typeIn X.K (.ref fI) = some (.type "function"))
    (F1 : FnOk X.prog X.w X.K X.mg X.base CX k fI fd ps sp) (hr : Room (k + 1) X.A) (hb : Binds X.K fd ps ds) (hd : Vals dvs ds) (hx : Passes CX X fun _ _ _ => False) (hg : Gl X x) (hm : X.mg x = some (.ref C)) (ha : PA X (e :: es) ta)
    (hdb : (x == ("__debug__" : Str)) = false := by decide) (he : starEach (e :: es) X.env = (false, eval e X.env) :: starEach es X.env := by rfl) (hpl : (backTo pos (starEach es X.env)).any (·.1) = false := by rfl) :
    PMk X (.Call (.Name x p) (e :: es) [] pos) (tMkO C sp dvs ta) := by
  intro pins s σ H Q I h
  obtain ⟨nm, q, N, bs, bm, sn, sub, ab, col, dd, k0, k1, k2, k3, k5, hC, hbt⟩ := T.own
  refine wpAny_Call_Name_kw (ld_glob I hg hm (PySem.W.callWith_K (h₀ := X.base) I.ok.mod.kin T.kC (thn (ha.run pos pins s σ H _ I h) fun us s1 ⟨vs, H1, I1, r1, hz, q1⟩ => ⟨I1.kIn, ?_⟩) he hpl) hdb)
  show wpAny _ _ (call (.ref C) us) _ _ _
  obtain ⟨h0, gs, dr, tc, os⟩ := s1
  have up1 : h0.objs.size ≤ h0.objs.size + 1 := Nat.le_succ _
  have hq := q1 (h0.objs.size + 1) (I1.hok.fresh up1)
  have more : ∀ b o, h0.get? b = some o → ((h0.push (PySem.W.kdv_tup us)).push (PySem.HandSPX.excO C h0.objs.size)).get? b = some o := fun b o z => Heap.get?_push_of_some _ (Heap.get?_push_of_some _ z)
  have made : ((h0.push (PySem.W.kdv_tup us)).push (PySem.HandSPX.excO C h0.objs.size)).get? (h0.objs.size + 1) = some (PySem.HandSPX.excO C h0.objs.size) := by heap_get
  have I2 : Inv X pins σ (upd H1 (h0.objs.size + 1) (exo (h0.objs.size + 1) C none)) ⟨(h0.push (PySem.W.kdv_tup us)).push (PySem.HandSPX.excO C h0.objs.size), gs, dr, tc, os⟩ :=
    I1.laid (t' := tc) (h' := (h0.push (PySem.W.kdv_tup us)).push (PySem.HandSPX.excO C h0.objs.size)) more up1 (exo_ok made)
  have r2 : Vals (V.ref (h0.objs.size + 1) :: (vs ++ dvs)) (Value.ref (h0.objs.size + 1) :: (us ++ ds)) := .cons rfl (r1.append hd)
  have hl : (Value.ref (h0.objs.size + 1) :: us ++ ds).length = ps.length := (F1.len _ _ _ _ hq ▸ r2.length).symm
  have hus : us.length ≤ sizeLine := by
    have := Paired.length r1
    exact Nat.le_trans (show us.length ≤ 1000 by omega) (by decide)
  have inner := F1.run (X.A.under (.builtin "type.__call__" ⟨.ref C :: us, []⟩)) X.stack _ _ ⟨Value.ref (h0.objs.size + 1) :: us, []⟩ (Value.ref (h0.objs.size + 1) :: (us ++ ds)) _ _ (fun _ _ _ => False)
    (hr.make C us []) (I2.env0.make C us []) (hb _ (Value.ref (h0.objs.size + 1) :: us) I2.kIn hl) r2 hq
  refine wpAny_call (PySem.HandSPX.call_own T.base (fun Y => PySem.W.excTail_contains Y bm hbt) (I1.kIn _ _ hC) (PySem.W.looks_findIn I1.kIn iC) (fun self => PySem.W.bind_fn I1.kIn self tI) hus (codeAny_mono inner fun r s' z => ?_))
  match r, z with
  | .error er, z => exact hx pins σ _ _ er s' I2 z
  | .ok .next, z => exact z.elim
  | .ok .brk, z => exact z.elim
  | .ok .cont, z => exact z.elim
  | .ok (.ret u), z =>
    obtain ⟨v, H2, os2, bare2, un2, hok2, rv, ev, d, fs, ea, ed, hd1, q2⟩ := z
    cases ev
    obtain ⟨h2, g2, d2, t2, os'⟩ := s'
    exact ⟨rv, mk_end (raises_own T.exC T.tyC) I1 up1 more un2 hok2 os2 bare2 ea ed hd1 q2⟩
end
end MH
namespace MH
open PySem PySem.Spec PyProof.Rows L2
def topS (i : Nat) : Stmt := PySem.Challenge.pw_menuhouses_k06_ranking_calls_refused.main.body.getD i (.Pass ⟨0, 0, 0, 0⟩)
abbrev st_is_index : Stmt := topS 20
abbrev names_is_index : List Str := ["value", "many"]
theorem sc_is_index : FnScope names_is_index ["value", "many"] (defScope st_is_index) := ⟨rfl, rfl, rfl, by decide +kernel, rfl, by decide +kernel, by decide +kernel⟩
abbrev st_is_name : Stmt := topS 21
abbrev names_is_name : List Str := ["value", "sign"]
theorem sc_is_name : FnScope names_is_name ["value"] (defScope st_is_name) := ⟨rfl, rfl, rfl, by decide +kernel, rfl, by decide +kernel, by decide +kernel⟩
abbrev st_is_filled_tuple : Stmt := topS 22
abbrev names_is_filled_tuple : List Str := ["value"]
theorem sc_is_filled_tuple : FnScope names_is_filled_tuple ["value"] (defScope st_is_filled_tuple) := ⟨rfl, rfl, rfl, by decide +kernel, rfl, by decide +kernel, by decide +kernel⟩
abbrev st_is_one_of : Stmt := topS 23
abbrev names_is_one_of : List Str := ["value", "things"]
theorem sc_is_one_of : FnScope names_is_one_of ["value", "things"] (defScope st_is_one_of) := ⟨rfl, rfl, rfl, by decide +kernel, rfl, by decide +kernel, by decide +kernel⟩
abbrev st_first_wrong_in_row : Stmt := topS 24
abbrev names_first_wrong_in_row : List Str := ["row", "at", "name"]
theorem sc_first_wrong_in_row : FnScope names_first_wrong_in_row ["row"] (defScope st_first_wrong_in_row) := ⟨rfl, rfl, rfl, by decide +kernel, rfl, by decide +kernel, by decide +kernel⟩
abbrev st_first_wrong_on_menu : Stmt := topS 25
abbrev names_first_wrong_on_menu : List Str := ["menu", "things", "at", "thing"]
theorem sc_first_wrong_on_menu : FnScope names_first_wrong_on_menu ["menu", "things"] (defScope st_first_wrong_on_menu) := ⟨rfl, rfl, rfl, by decide +kernel, rfl, by decide +kernel, by decide +kernel⟩
abbrev st_index_of : Stmt := topS 30
abbrev names_index_of : List Str := ["name", "names", "at", "other"]
theorem sc_index_of : FnScope names_index_of ["name", "names"] (defScope st_index_of) := ⟨rfl, rfl, rfl, by decide +kernel, rfl, by decide +kernel, by decide +kernel⟩
abbrev st_check_row : Stmt := topS 26
abbrev names_check_row : List Str := ["row", "wrong"]
theorem sc_check_row : FnScope names_check_row ["row"] (defScope st_check_row) := ⟨rfl, rfl, rfl, by decide +kernel, rfl, by decide +kernel, by decide +kernel⟩
abbrev st_check_menu : Stmt := topS 27
abbrev names_check_menu : List Str := ["menu", "things", "wrong"]
theorem sc_check_menu : FnScope names_check_menu ["menu", "things"] (defScope st_check_menu) := ⟨rfl, rfl, rfl, by decide +kernel, rfl, by decide +kernel, by decide +kernel⟩
abbrev st_check_thing : Stmt := topS 28
abbrev names_check_thing : List Str := ["thing", "things"]
theorem sc_check_thing : FnScope names_check_thing ["thing", "things"] (defScope st_check_thing) := ⟨rfl, rfl, rfl, by decide +kernel, rfl, by decide +kernel, by decide +kernel⟩
abbrev st_RankingD_initD : Stmt := inClass (topS 32) 0
abbrev names_RankingD_initD : List Str := ["self", "row"]
theorem sc_RankingD_initD : FnScope names_RankingD_initD ["self", "row"] (defScope st_RankingD_initD) := ⟨rfl, rfl, rfl, by decide +kernel, rfl, by decide +kernel, by decide +kernel⟩
abbrev st_Ranking_row : Stmt := inClass (topS 32) 3
abbrev names_Ranking_row : List Str := ["self"]
theorem sc_Ranking_row : FnScope names_Ranking_row ["self"] (defScope st_Ranking_row) := ⟨rfl, rfl, rfl, by decide +kernel, rfl, by decide +kernel, by decide +kernel⟩
abbrev st_Ranking_best : Stmt := inClass (topS 32) 5
abbrev names_Ranking_best : List Str := ["self", "menu", "thing"]
theorem sc_Ranking_best : FnScope names_Ranking_best ["self", "menu"] (defScope st_Ranking_best) := ⟨rfl, rfl, rfl, by decide +kernel, rfl, by decide +kernel, by decide +kernel⟩
abbrev st_Ranking_below : Stmt := inClass (topS 32) 6
abbrev names_Ranking_below : List Str := ["self", "thing"]
theorem sc_Ranking_below : FnScope names_Ranking_below ["self", "thing"] (defScope st_Ranking_below) := ⟨rfl, rfl, rfl, by decide +kernel, rfl, by decide +kernel, by decide +kernel⟩
abbrev st_Ranking_place : Stmt := inClass (topS 32) 7
abbrev names_Ranking_place : List Str := ["self", "thing"]
theorem sc_Ranking_place : FnScope names_Ranking_place ["self", "thing"] (defScope st_Ranking_place) := ⟨rfl, rfl, rfl, by decide +kernel, rfl, by decide +kernel, by decide +kernel⟩
abbrev st_Ranking_without : Stmt := inClass (topS 32) 8
abbrev names_Ranking_without : List Str := ["self", "names", "name", "thing"]
theorem sc_Ranking_without : FnScope names_Ranking_without ["self", "names"] (defScope st_Ranking_without) := ⟨rfl, rfl, rfl, by decide +kernel, rfl, by decide +kernel, by decide +kernel⟩
abbrev st_RankingD_getitemD : Stmt := inClass (topS 32) 9
abbrev names_RankingD_getitemD : List Str := ["self", "at"]
theorem sc_RankingD_getitemD : FnScope names_RankingD_getitemD ["self", "at"] (defScope st_RankingD_getitemD) := ⟨rfl, rfl, rfl, by decide +kernel, rfl, by decide +kernel, by decide +kernel⟩
abbrev st_InvalidIndexD_initD : Stmt := inClass (topS 3) 0
abbrev names_InvalidIndexD_initD : List Str := ["self", "given"]
theorem sc_InvalidIndexD_initD : FnScope names_InvalidIndexD_initD ["self", "given"] (defScope st_InvalidIndexD_initD) := ⟨rfl, rfl, rfl, by decide +kernel, rfl, by decide +kernel, by decide +kernel⟩
abbrev st_InvalidRowD_initD : Stmt := inClass (topS 7) 0
abbrev names_InvalidRowD_initD : List Str := ["self", "index"]
theorem sc_InvalidRowD_initD : FnScope names_InvalidRowD_initD ["self", "index"] (defScope st_InvalidRowD_initD) := ⟨rfl, rfl, rfl, by decide +kernel, rfl, by decide +kernel, by decide +kernel⟩
abbrev st_InvalidMenuD_initD : Stmt := inClass (topS 8) 0
abbrev names_InvalidMenuD_initD : List Str := ["self", "index"]
theorem sc_InvalidMenuD_initD : FnScope names_InvalidMenuD_initD ["self", "index"] (defScope st_InvalidMenuD_initD) := ⟨rfl, rfl, rfl, by decide +kernel, rfl, by decide +kernel, by decide +kernel⟩
abbrev st_UnknownThingD_initD : Stmt := inClass (topS 11) 0
abbrev names_UnknownThingD_initD : List Str := ["self", "given"]
theorem sc_UnknownThingD_initD : FnScope names_UnknownThingD_initD ["self", "given"] (defScope st_UnknownThingD_initD) := ⟨rfl, rfl, rfl, by decide +kernel, rfl, by decide +kernel, by decide +kernel⟩
abbrev st_l_purse : Stmt := topS 34
abbrev names_l_purse : List Str := ["_law_script", "_law_spot", "_law_cell", "_law_seed", "_law_one"]
theorem sc_l_purse : FnScope names_l_purse ["_law_script", "_law_spot"] (defScope st_l_purse) := ⟨rfl, rfl, rfl, by decide +kernel, rfl, by decide +kernel, by decide +kernel⟩
abbrev st_l_draw : Stmt := topS 35
abbrev names_l_draw : List Str := ["_law_purse_here", "_law_many", "_law_digit"]
theorem sc_l_draw : FnScope names_l_draw ["_law_purse_here", "_law_many"] (defScope st_l_draw) := ⟨rfl, rfl, rfl, by decide +kernel, rfl, by decide +kernel, by decide +kernel⟩
abbrev st_l_things : Stmt := topS 36
abbrev names_l_things : List Str := ["_law_purse_here", "_law_many", "_law_pool", "_law_found", "_law_turn"]
theorem sc_l_things : FnScope names_l_things ["_law_purse_here", "_law_many"] (defScope st_l_things) := ⟨rfl, rfl, rfl, by decide +kernel, rfl, by decide +kernel, by decide +kernel⟩
abbrev st_l_order : Stmt := topS 37
abbrev names_l_order : List Str := ["_law_purse_here", "_law_things_here", "_law_left", "_law_found", "_law_turn"]
theorem sc_l_order : FnScope names_l_order ["_law_purse_here", "_law_things_here"] (defScope st_l_order) := ⟨rfl, rfl, rfl, by decide +kernel, rfl, by decide +kernel, by decide +kernel⟩
abbrev st_l_sort : Stmt := topS 38
abbrev names_l_sort : List Str := ["_law_e", "_law_words", "_law_flags", "_law_bases", "_law_at"]
theorem sc_l_sort : FnScope names_l_sort ["_law_e"] (defScope st_l_sort) := ⟨rfl, rfl, rfl, by decide +kernel, rfl, by decide +kernel, by decide +kernel⟩
abbrev st_l_attribute : Stmt := topS 39
abbrev names_l_attribute : List Str := ["_law_e", "_law_word"]
theorem sc_l_attribute : FnScope names_l_attribute ["_law_e", "_law_word"] (defScope st_l_attribute) := ⟨rfl, rfl, rfl, by decide +kernel, rfl, by decide +kernel, by decide +kernel⟩
abbrev st_l_told : Stmt := topS 40
abbrev names_l_told : List Str := ["_law_act", "_law_shown", "_law_e", "_law_word"]
theorem sc_l_told : FnScope names_l_told ["_law_act"] (defScope st_l_told) := ⟨rfl, rfl, rfl, by decide +kernel, rfl, by decide +kernel, by decide +kernel⟩
abbrev st_l_off : Stmt := topS 41
abbrev names_l_off : List Str := ["_law_menu", "_law_things_here", "_law_k"]
theorem sc_l_off : FnScope names_l_off ["_law_menu", "_law_things_here"] (defScope st_l_off) := ⟨rfl, rfl, rfl, by decide +kernel, rfl, by decide +kernel, by decide +kernel⟩
abbrev st_l_bent_menu : Stmt := topS 42
abbrev names_l_bent_menu : List Str := ["_law_purse_here", "_law_things_here", "_law_menu", "_law_odd", "_law_turn", "_law_at", "_law_way", "_law_thing"]
theorem sc_l_bent_menu : FnScope names_l_bent_menu ["_law_purse_here", "_law_things_here"] (defScope st_l_bent_menu) := ⟨rfl, rfl, rfl, by decide +kernel, rfl, by decide +kernel, by decide +kernel⟩
abbrev st_l_menu_right : Stmt := topS 43
abbrev names_l_menu_right : List Str := ["_law_purse_here", "_law_ranking", "_law_things_here", "_law_wrong", "_law_told_here", "_law_menu"]
theorem sc_l_menu_right : FnScope names_l_menu_right ["_law_purse_here", "_law_ranking", "_law_things_here"] (defScope st_l_menu_right) := ⟨rfl, rfl, rfl, by decide +kernel, rfl, by decide +kernel, by decide +kernel⟩
abbrev st_l_thing_right : Stmt := topS 44
abbrev names_l_thing_right : List Str := ["_law_purse_here", "_law_ranking", "_law_things_here", "_law_odd", "_law_far", "_law_due", "_law_told_here", "_law_index", "_law_sure", "_law_thing"]
theorem sc_l_thing_right : FnScope names_l_thing_right ["_law_purse_here", "_law_ranking", "_law_things_here"] (defScope st_l_thing_right) := ⟨rfl, rfl, rfl, by decide +kernel, rfl, by decide +kernel, by decide +kernel⟩
abbrev st_l_right : Stmt := topS 45
abbrev names_l_right : List Str := ["_law_purse_here", "_law_things_here", "_law_turn", "_law_told_here", "_law_ranking", "_law_row"]
theorem sc_l_right : FnScope names_l_right ["_law_purse_here"] (defScope st_l_right) := ⟨rfl, rfl, rfl, by decide +kernel, rfl, by decide +kernel, by decide +kernel⟩
abbrev st_law : Stmt := topS 46
abbrev names_law : List Str := ["_law_script", "_law_spot"]
theorem sc_law : FnScope names_law ["_law_script"] (defScope st_law) := ⟨rfl, rfl, rfl, by decide +kernel, rfl, by decide +kernel, by decide +kernel⟩
structure Tx (K : PySem.W.Frag) (mg : Str → Option Value) where
  E_WrongValue : Addr
  g_WrongValue : mg "WrongValue" = some (.ref E_WrongValue)
  E_InvalidText : Addr
  g_InvalidText : mg "InvalidText" = some (.ref E_InvalidText)
  E_InvalidIndex : Addr
  g_InvalidIndex : mg "InvalidIndex" = some (.ref E_InvalidIndex)
  E_NotARanking : Addr
  g_NotARanking : mg "NotARanking" = some (.ref E_NotARanking)
  E_NotAHouse : Addr
  g_NotAHouse : mg "NotAHouse" = some (.ref E_NotAHouse)
  E_OtherThings : Addr
  g_OtherThings : mg "OtherThings" = some (.ref E_OtherThings)
  E_InvalidRow : Addr
  g_InvalidRow : mg "InvalidRow" = some (.ref E_InvalidRow)
  E_InvalidMenu : Addr
  g_InvalidMenu : mg "InvalidMenu" = some (.ref E_InvalidMenu)
  E_InvalidRankings : Addr
  g_InvalidRankings : mg "InvalidRankings" = some (.ref E_InvalidRankings)
  E_WrongName : Addr
  g_WrongName : mg "WrongName" = some (.ref E_WrongName)
  E_UnknownThing : Addr
  g_UnknownThing : mg "UnknownThing" = some (.ref E_UnknownThing)
  E_NoAnswer : Addr
  g_NoAnswer : mg "NoAnswer" = some (.ref E_NoAnswer)
  E_TooMany : Addr
  g_TooMany : mg "TooMany" = some (.ref E_TooMany)
  E_NoHouse : Addr
  g_NoHouse : mg "NoHouse" = some (.ref E_NoHouse)
  ox_InvalidIndex : OexC K E_InvalidIndex
  ek_InvalidIndex : ExcK K E_InvalidIndex
  no_InvalidIndex_given : PySem.W.findIn K (.ref E_InvalidIndex) "given" = some none
  em_InvalidIndex : PySem.W.exmAny K (.ref E_InvalidIndex) [.ref E_WrongValue, .ref E_WrongName, .ref E_NoAnswer] = some true
  kf_InvalidIndex_WrongValue : PySem.W.kitOne K (.ref E_InvalidIndex) (.ref E_WrongValue) = some true
  kf_InvalidIndex_InvalidText : PySem.W.kitOne K (.ref E_InvalidIndex) (.ref E_InvalidText) = some false
  kf_InvalidIndex_InvalidIndex : PySem.W.kitOne K (.ref E_InvalidIndex) (.ref E_InvalidIndex) = some true
  kf_InvalidIndex_NotARanking : PySem.W.kitOne K (.ref E_InvalidIndex) (.ref E_NotARanking) = some false
  kf_InvalidIndex_NotAHouse : PySem.W.kitOne K (.ref E_InvalidIndex) (.ref E_NotAHouse) = some false
  kf_InvalidIndex_OtherThings : PySem.W.kitOne K (.ref E_InvalidIndex) (.ref E_OtherThings) = some false
  kf_InvalidIndex_InvalidRow : PySem.W.kitOne K (.ref E_InvalidIndex) (.ref E_InvalidRow) = some false
  kf_InvalidIndex_InvalidMenu : PySem.W.kitOne K (.ref E_InvalidIndex) (.ref E_InvalidMenu) = some false
  kf_InvalidIndex_InvalidRankings : PySem.W.kitOne K (.ref E_InvalidIndex) (.ref E_InvalidRankings) = some false
  kf_InvalidIndex_WrongName : PySem.W.kitOne K (.ref E_InvalidIndex) (.ref E_WrongName) = some false
  kf_InvalidIndex_UnknownThing : PySem.W.kitOne K (.ref E_InvalidIndex) (.ref E_UnknownThing) = some false
  kf_InvalidIndex_NoAnswer : PySem.W.kitOne K (.ref E_InvalidIndex) (.ref E_NoAnswer) = some false
  kf_InvalidIndex_TooMany : PySem.W.kitOne K (.ref E_InvalidIndex) (.ref E_TooMany) = some false
  kf_InvalidIndex_NoHouse : PySem.W.kitOne K (.ref E_InvalidIndex) (.ref E_NoHouse) = some false
  ox_InvalidRow : OexC K E_InvalidRow
  ek_InvalidRow : ExcK K E_InvalidRow
  no_InvalidRow_index : PySem.W.findIn K (.ref E_InvalidRow) "index" = some none
  em_InvalidRow : PySem.W.exmAny K (.ref E_InvalidRow) [.ref E_WrongValue, .ref E_WrongName, .ref E_NoAnswer] = some true
  kf_InvalidRow_WrongValue : PySem.W.kitOne K (.ref E_InvalidRow) (.ref E_WrongValue) = some true
  kf_InvalidRow_InvalidText : PySem.W.kitOne K (.ref E_InvalidRow) (.ref E_InvalidText) = some false
  kf_InvalidRow_InvalidIndex : PySem.W.kitOne K (.ref E_InvalidRow) (.ref E_InvalidIndex) = some false
  kf_InvalidRow_NotARanking : PySem.W.kitOne K (.ref E_InvalidRow) (.ref E_NotARanking) = some false
  kf_InvalidRow_NotAHouse : PySem.W.kitOne K (.ref E_InvalidRow) (.ref E_NotAHouse) = some false
  kf_InvalidRow_OtherThings : PySem.W.kitOne K (.ref E_InvalidRow) (.ref E_OtherThings) = some false
  kf_InvalidRow_InvalidRow : PySem.W.kitOne K (.ref E_InvalidRow) (.ref E_InvalidRow) = some true
  kf_InvalidRow_InvalidMenu : PySem.W.kitOne K (.ref E_InvalidRow) (.ref E_InvalidMenu) = some false
  kf_InvalidRow_InvalidRankings : PySem.W.kitOne K (.ref E_InvalidRow) (.ref E_InvalidRankings) = some false
  kf_InvalidRow_WrongName : PySem.W.kitOne K (.ref E_InvalidRow) (.ref E_WrongName) = some false
  kf_InvalidRow_UnknownThing : PySem.W.kitOne K (.ref E_InvalidRow) (.ref E_UnknownThing) = some false
  kf_InvalidRow_NoAnswer : PySem.W.kitOne K (.ref E_InvalidRow) (.ref E_NoAnswer) = some false
  kf_InvalidRow_TooMany : PySem.W.kitOne K (.ref E_InvalidRow) (.ref E_TooMany) = some false
  kf_InvalidRow_NoHouse : PySem.W.kitOne K (.ref E_InvalidRow) (.ref E_NoHouse) = some false
  ox_InvalidMenu : OexC K E_InvalidMenu
  ek_InvalidMenu : ExcK K E_InvalidMenu
  no_InvalidMenu_index : PySem.W.findIn K (.ref E_InvalidMenu) "index" = some none
  em_InvalidMenu : PySem.W.exmAny K (.ref E_InvalidMenu) [.ref E_WrongValue, .ref E_WrongName, .ref E_NoAnswer] = some true
  kf_InvalidMenu_WrongValue : PySem.W.kitOne K (.ref E_InvalidMenu) (.ref E_WrongValue) = some true
  kf_InvalidMenu_InvalidText : PySem.W.kitOne K (.ref E_InvalidMenu) (.ref E_InvalidText) = some false
  kf_InvalidMenu_InvalidIndex : PySem.W.kitOne K (.ref E_InvalidMenu) (.ref E_InvalidIndex) = some false
  kf_InvalidMenu_NotARanking : PySem.W.kitOne K (.ref E_InvalidMenu) (.ref E_NotARanking) = some false
  kf_InvalidMenu_NotAHouse : PySem.W.kitOne K (.ref E_InvalidMenu) (.ref E_NotAHouse) = some false
  kf_InvalidMenu_OtherThings : PySem.W.kitOne K (.ref E_InvalidMenu) (.ref E_OtherThings) = some false
  kf_InvalidMenu_InvalidRow : PySem.W.kitOne K (.ref E_InvalidMenu) (.ref E_InvalidRow) = some false
  kf_InvalidMenu_InvalidMenu : PySem.W.kitOne K (.ref E_InvalidMenu) (.ref E_InvalidMenu) = some true
  kf_InvalidMenu_InvalidRankings : PySem.W.kitOne K (.ref E_InvalidMenu) (.ref E_InvalidRankings) = some false
  kf_InvalidMenu_WrongName : PySem.W.kitOne K (.ref E_InvalidMenu) (.ref E_WrongName) = some false
  kf_InvalidMenu_UnknownThing : PySem.W.kitOne K (.ref E_InvalidMenu) (.ref E_UnknownThing) = some false
  kf_InvalidMenu_NoAnswer : PySem.W.kitOne K (.ref E_InvalidMenu) (.ref E_NoAnswer) = some false
  kf_InvalidMenu_TooMany : PySem.W.kitOne K (.ref E_InvalidMenu) (.ref E_TooMany) = some false
  kf_InvalidMenu_NoHouse : PySem.W.kitOne K (.ref E_InvalidMenu) (.ref E_NoHouse) = some false
  ox_UnknownThing : OexG K "LookupError" "LookupError.__new__" "LookupError.__init__" [Value.type "LookupError", Value.type "Exception", Value.type "BaseException", Value.type "object"] E_UnknownThing
  ek_UnknownThing : ExcK K E_UnknownThing
  no_UnknownThing_given : PySem.W.findIn K (.ref E_UnknownThing) "given" = some none
  em_UnknownThing : PySem.W.exmAny K (.ref E_UnknownThing) [.ref E_WrongValue, .ref E_WrongName, .ref E_NoAnswer] = some true
  kf_UnknownThing_WrongValue : PySem.W.kitOne K (.ref E_UnknownThing) (.ref E_WrongValue) = some false
  kf_UnknownThing_InvalidText : PySem.W.kitOne K (.ref E_UnknownThing) (.ref E_InvalidText) = some false
  kf_UnknownThing_InvalidIndex : PySem.W.kitOne K (.ref E_UnknownThing) (.ref E_InvalidIndex) = some false
  kf_UnknownThing_NotARanking : PySem.W.kitOne K (.ref E_UnknownThing) (.ref E_NotARanking) = some false
  kf_UnknownThing_NotAHouse : PySem.W.kitOne K (.ref E_UnknownThing) (.ref E_NotAHouse) = some false
  kf_UnknownThing_OtherThings : PySem.W.kitOne K (.ref E_UnknownThing) (.ref E_OtherThings) = some false
  kf_UnknownThing_InvalidRow : PySem.W.kitOne K (.ref E_UnknownThing) (.ref E_InvalidRow) = some false
  kf_UnknownThing_InvalidMenu : PySem.W.kitOne K (.ref E_UnknownThing) (.ref E_InvalidMenu) = some false
  kf_UnknownThing_InvalidRankings : PySem.W.kitOne K (.ref E_UnknownThing) (.ref E_InvalidRankings) = some false
  kf_UnknownThing_WrongName : PySem.W.kitOne K (.ref E_UnknownThing) (.ref E_WrongName) = some true
  kf_UnknownThing_UnknownThing : PySem.W.kitOne K (.ref E_UnknownThing) (.ref E_UnknownThing) = some true
  kf_UnknownThing_NoAnswer : PySem.W.kitOne K (.ref E_UnknownThing) (.ref E_NoAnswer) = some false
  kf_UnknownThing_TooMany : PySem.W.kitOne K (.ref E_UnknownThing) (.ref E_TooMany) = some false
  kf_UnknownThing_NoHouse : PySem.W.kitOne K (.ref E_UnknownThing) (.ref E_NoHouse) = some false
  C : Addr
  cl : Cls K C
  g_Ranking : mg "Ranking" = some (.ref C)
  ki_tuple : PySem.W.kitOne K (.ref C) (.type "tuple") = some false
  ki_str : PySem.W.kitOne K (.ref C) (.type "str") = some false
  ki_int : PySem.W.kitOne K (.ref C) (.type "int") = some false
  ki_bool : PySem.W.kitOne K (.ref C) (.type "bool") = some false
  ne : PySem.W.findIn K (.ref C) "__ne__" = some (some (.builtin "object.__ne__"))
  ob : PySem.W.mroIn K C (.type "object") = some true
  ty : ∀ {H : Hp} {a dx : Addr} {fs : List (Str × V)}, H a = some (.ins C dx fs) → TyX K H (.ref a) (.ref C)
  nobool : PySem.W.findIn K (.ref C) "__bool__" = some none
  fm : PySem.W.findIn K (.ref C) "__format__" = some (some (.builtin "object.__format__"))
  crd : ClX.CRead K C (.type "type")
  cty : PySem.W.typeIn K (.ref C) = some (.type "type")
  no__row : NoAttr K C "_row"
  no__things : NoAttr K C "_things"
  a_is_index : Addr
  fd_is_index : FuncData
  F_is_index : Fun K "is_index" "is_index" st_is_index a_is_index fd_is_index
  b_is_index : Binds K fd_is_index ["value", "many"] []
  g_is_index : mg "is_index" = some (.ref a_is_index)
  a_is_name : Addr
  fd_is_name : FuncData
  F_is_name : Fun K "is_name" "is_name" st_is_name a_is_name fd_is_name
  b_is_name : Binds K fd_is_name ["value"] []
  g_is_name : mg "is_name" = some (.ref a_is_name)
  a_is_filled_tuple : Addr
  fd_is_filled_tuple : FuncData
  F_is_filled_tuple : Fun K "is_filled_tuple" "is_filled_tuple" st_is_filled_tuple a_is_filled_tuple fd_is_filled_tuple
  b_is_filled_tuple : Binds K fd_is_filled_tuple ["value"] []
  g_is_filled_tuple : mg "is_filled_tuple" = some (.ref a_is_filled_tuple)
  a_is_one_of : Addr
  fd_is_one_of : FuncData
  F_is_one_of : Fun K "is_one_of" "is_one_of" st_is_one_of a_is_one_of fd_is_one_of
  b_is_one_of : Binds K fd_is_one_of ["value", "things"] []
  g_is_one_of : mg "is_one_of" = some (.ref a_is_one_of)
  a_first_wrong_in_row : Addr
  fd_first_wrong_in_row : FuncData
  F_first_wrong_in_row : Fun K "first_wrong_in_row" "first_wrong_in_row" st_first_wrong_in_row a_first_wrong_in_row fd_first_wrong_in_row
  b_first_wrong_in_row : Binds K fd_first_wrong_in_row ["row"] []
  g_first_wrong_in_row : mg "first_wrong_in_row" = some (.ref a_first_wrong_in_row)
  a_first_wrong_on_menu : Addr
  fd_first_wrong_on_menu : FuncData
  F_first_wrong_on_menu : Fun K "first_wrong_on_menu" "first_wrong_on_menu" st_first_wrong_on_menu a_first_wrong_on_menu fd_first_wrong_on_menu
  b_first_wrong_on_menu : Binds K fd_first_wrong_on_menu ["menu", "things"] []
  g_first_wrong_on_menu : mg "first_wrong_on_menu" = some (.ref a_first_wrong_on_menu)
  a_index_of : Addr
  fd_index_of : FuncData
  F_index_of : Fun K "index_of" "index_of" st_index_of a_index_of fd_index_of
  b_index_of : Binds K fd_index_of ["name", "names"] []
  g_index_of : mg "index_of" = some (.ref a_index_of)
  a_check_row : Addr
  fd_check_row : FuncData
  F_check_row : Fun K "check_row" "check_row" st_check_row a_check_row fd_check_row
  b_check_row : Binds K fd_check_row ["row"] []
  g_check_row : mg "check_row" = some (.ref a_check_row)
  a_check_menu : Addr
  fd_check_menu : FuncData
  F_check_menu : Fun K "check_menu" "check_menu" st_check_menu a_check_menu fd_check_menu
  b_check_menu : Binds K fd_check_menu ["menu", "things"] []
  g_check_menu : mg "check_menu" = some (.ref a_check_menu)
  a_check_thing : Addr
  fd_check_thing : FuncData
  F_check_thing : Fun K "check_thing" "check_thing" st_check_thing a_check_thing fd_check_thing
  b_check_thing : Binds K fd_check_thing ["thing", "things"] []
  g_check_thing : mg "check_thing" = some (.ref a_check_thing)
  a_RankingD_initD : Addr
  fd_RankingD_initD : FuncData
  F_RankingD_initD : Fun K "__init__" "Ranking.__init__" st_RankingD_initD a_RankingD_initD fd_RankingD_initD
  b_RankingD_initD : Binds K fd_RankingD_initD ["self", "row"] []
  mkc : Mk K C a_RankingD_initD
  q_Ranking_row : Addr
  a_Ranking_row : Addr
  fd_Ranking_row : FuncData
  F_Ranking_row : Fun K "row" "Ranking.row" st_Ranking_row a_Ranking_row fd_Ranking_row
  b_Ranking_row : Binds K fd_Ranking_row ["self"] []
  p_row : PropOf K C "row" q_Ranking_row a_Ranking_row
  a_Ranking_best : Addr
  fd_Ranking_best : FuncData
  F_Ranking_best : Fun K "best" "Ranking.best" st_Ranking_best a_Ranking_best fd_Ranking_best
  b_Ranking_best : Binds K fd_Ranking_best ["self", "menu"] []
  m_Ranking_best : Meth K C "best" a_Ranking_best
  a_Ranking_below : Addr
  fd_Ranking_below : FuncData
  F_Ranking_below : Fun K "below" "Ranking.below" st_Ranking_below a_Ranking_below fd_Ranking_below
  b_Ranking_below : Binds K fd_Ranking_below ["self", "thing"] []
  m_Ranking_below : Meth K C "below" a_Ranking_below
  a_Ranking_place : Addr
  fd_Ranking_place : FuncData
  F_Ranking_place : Fun K "place" "Ranking.place" st_Ranking_place a_Ranking_place fd_Ranking_place
  b_Ranking_place : Binds K fd_Ranking_place ["self", "thing"] []
  m_Ranking_place : Meth K C "place" a_Ranking_place
  a_Ranking_without : Addr
  fd_Ranking_without : FuncData
  F_Ranking_without : Fun K "without" "Ranking.without" st_Ranking_without a_Ranking_without fd_Ranking_without
  bv_Ranking_without : ∀ (u : Value) (rest : List Value), rest.length ≤ 5 → bindArgs fd_Ranking_without ⟨u :: rest, []⟩ = (newTuple rest >>= fun t => pure [(("self" : Str), u), (("names" : Str), t)])
  m_Ranking_without : Meth K C "without" a_Ranking_without
  a_RankingD_getitemD : Addr
  fd_RankingD_getitemD : FuncData
  F_RankingD_getitemD : Fun K "__getitem__" "Ranking.__getitem__" st_RankingD_getitemD a_RankingD_getitemD fd_RankingD_getitemD
  b_RankingD_getitemD : Binds K fd_RankingD_getitemD ["self", "at"] []
  fi_RankingD_getitemD : PySem.W.fnIn K a_RankingD_getitemD = true
  m_RankingD_getitemD : Meth K C "__getitem__" a_RankingD_getitemD
  a_InvalidIndexD_initD : Addr
  fd_InvalidIndexD_initD : FuncData
  F_InvalidIndexD_initD : Fun K "__init__" "InvalidIndex.__init__" st_InvalidIndexD_initD a_InvalidIndexD_initD fd_InvalidIndexD_initD
  b_InvalidIndexD_initD : Binds K fd_InvalidIndexD_initD ["self", "given"] []
  ic_InvalidIndex : PySem.W.findIn K (.ref E_InvalidIndex) "__init__" = some (some (.ref a_InvalidIndexD_initD))
  ti_InvalidIndex : PySem.W.typeIn K (.ref a_InvalidIndexD_initD) = some (.type "function")
  a_InvalidRowD_initD : Addr
  fd_InvalidRowD_initD : FuncData
  F_InvalidRowD_initD : Fun K "__init__" "InvalidRow.__init__" st_InvalidRowD_initD a_InvalidRowD_initD fd_InvalidRowD_initD
  b_InvalidRowD_initD : Binds K fd_InvalidRowD_initD ["self", "index"] []
  ic_InvalidRow : PySem.W.findIn K (.ref E_InvalidRow) "__init__" = some (some (.ref a_InvalidRowD_initD))
  ti_InvalidRow : PySem.W.typeIn K (.ref a_InvalidRowD_initD) = some (.type "function")
  a_InvalidMenuD_initD : Addr
  fd_InvalidMenuD_initD : FuncData
  F_InvalidMenuD_initD : Fun K "__init__" "InvalidMenu.__init__" st_InvalidMenuD_initD a_InvalidMenuD_initD fd_InvalidMenuD_initD
  b_InvalidMenuD_initD : Binds K fd_InvalidMenuD_initD ["self", "index"] []
  ic_InvalidMenu : PySem.W.findIn K (.ref E_InvalidMenu) "__init__" = some (some (.ref a_InvalidMenuD_initD))
  ti_InvalidMenu : PySem.W.typeIn K (.ref a_InvalidMenuD_initD) = some (.type "function")
  a_UnknownThingD_initD : Addr
  fd_UnknownThingD_initD : FuncData
  F_UnknownThingD_initD : Fun K "__init__" "UnknownThing.__init__" st_UnknownThingD_initD a_UnknownThingD_initD fd_UnknownThingD_initD
  b_UnknownThingD_initD : Binds K fd_UnknownThingD_initD ["self", "given"] []
  ic_UnknownThing : PySem.W.findIn K (.ref E_UnknownThing) "__init__" = some (some (.ref a_UnknownThingD_initD))
  ti_UnknownThing : PySem.W.typeIn K (.ref a_UnknownThingD_initD) = some (.type "function")
  a_l_purse : Addr
  fd_l_purse : FuncData
  F_l_purse : Fun K "_law_purse" "_law_purse" st_l_purse a_l_purse fd_l_purse
  b_l_purse : Binds K fd_l_purse ["_law_script", "_law_spot"] []
  g_l_purse : mg "_law_purse" = some (.ref a_l_purse)
  a_l_draw : Addr
  fd_l_draw : FuncData
  F_l_draw : Fun K "_law_draw" "_law_draw" st_l_draw a_l_draw fd_l_draw
  b_l_draw : Binds K fd_l_draw ["_law_purse_here", "_law_many"] []
  g_l_draw : mg "_law_draw" = some (.ref a_l_draw)
  a_l_things : Addr
  fd_l_things : FuncData
  F_l_things : Fun K "_law_things" "_law_things" st_l_things a_l_things fd_l_things
  b_l_things : Binds K fd_l_things ["_law_purse_here", "_law_many"] []
  g_l_things : mg "_law_things" = some (.ref a_l_things)
  a_l_order : Addr
  fd_l_order : FuncData
  F_l_order : Fun K "_law_order" "_law_order" st_l_order a_l_order fd_l_order
  b_l_order : Binds K fd_l_order ["_law_purse_here", "_law_things_here"] []
  g_l_order : mg "_law_order" = some (.ref a_l_order)
  a_l_sort : Addr
  fd_l_sort : FuncData
  F_l_sort : Fun K "_law_sort" "_law_sort" st_l_sort a_l_sort fd_l_sort
  b_l_sort : Binds K fd_l_sort ["_law_e"] []
  g_l_sort : mg "_law_sort" = some (.ref a_l_sort)
  a_l_attribute : Addr
  fd_l_attribute : FuncData
  F_l_attribute : Fun K "_law_attribute" "_law_attribute" st_l_attribute a_l_attribute fd_l_attribute
  b_l_attribute : Binds K fd_l_attribute ["_law_e", "_law_word"] []
  g_l_attribute : mg "_law_attribute" = some (.ref a_l_attribute)
  a_l_told : Addr
  fd_l_told : FuncData
  F_l_told : Fun K "_law_told" "_law_told" st_l_told a_l_told fd_l_told
  b_l_told : Binds K fd_l_told ["_law_act"] []
  g_l_told : mg "_law_told" = some (.ref a_l_told)
  a_l_off : Addr
  fd_l_off : FuncData
  F_l_off : Fun K "_law_off" "_law_off" st_l_off a_l_off fd_l_off
  b_l_off : Binds K fd_l_off ["_law_menu", "_law_things_here"] []
  g_l_off : mg "_law_off" = some (.ref a_l_off)
  a_l_bent_menu : Addr
  fd_l_bent_menu : FuncData
  F_l_bent_menu : Fun K "_law_bent_menu" "_law_bent_menu" st_l_bent_menu a_l_bent_menu fd_l_bent_menu
  b_l_bent_menu : Binds K fd_l_bent_menu ["_law_purse_here", "_law_things_here"] []
  g_l_bent_menu : mg "_law_bent_menu" = some (.ref a_l_bent_menu)
  a_l_menu_right : Addr
  fd_l_menu_right : FuncData
  F_l_menu_right : Fun K "_law_menu_right" "_law_menu_right" st_l_menu_right a_l_menu_right fd_l_menu_right
  b_l_menu_right : Binds K fd_l_menu_right ["_law_purse_here", "_law_ranking", "_law_things_here"] []
  c_l_menu_right : Addr
  P_l_menu_right : Addr
  M_l_menu_right : MkFn K "_law_menu_right" st_l_menu_right a_l_menu_right c_l_menu_right ["_law_purse_here", "_law_ranking", "_law_things_here"]
  th_l_menu_right : PySem.W.codeHdIn K c_l_menu_right P_l_menu_right = true
  tn_l_menu_right : K.lookup P_l_menu_right = none
  g_l_menu_right : mg "_law_menu_right" = some (.ref a_l_menu_right)
  a_l_thing_right : Addr
  fd_l_thing_right : FuncData
  F_l_thing_right : Fun K "_law_thing_right" "_law_thing_right" st_l_thing_right a_l_thing_right fd_l_thing_right
  b_l_thing_right : Binds K fd_l_thing_right ["_law_purse_here", "_law_ranking", "_law_things_here"] []
  c_l_thing_right : Addr
  P_l_thing_right : Addr
  M_l_thing_right : MkFn K "_law_thing_right" st_l_thing_right a_l_thing_right c_l_thing_right ["_law_purse_here", "_law_ranking", "_law_things_here"]
  th_l_thing_right : PySem.W.codeHdIn K c_l_thing_right P_l_thing_right = true
  tn_l_thing_right : K.lookup P_l_thing_right = none
  g_l_thing_right : mg "_law_thing_right" = some (.ref a_l_thing_right)
  a_l_right : Addr
  fd_l_right : FuncData
  F_l_right : Fun K "_law_right" "_law_right" st_l_right a_l_right fd_l_right
  b_l_right : Binds K fd_l_right ["_law_purse_here"] []
  c_l_right : Addr
  P_l_right : Addr
  M_l_right : MkFn K "_law_right" st_l_right a_l_right c_l_right ["_law_purse_here"]
  th_l_right : PySem.W.codeHdIn K c_l_right P_l_right = true
  tn_l_right : K.lookup P_l_right = none
  g_l_right : mg "_law_right" = some (.ref a_l_right)
  a_law : Addr
  fd_law : FuncData
  F_law : Fun K "law" "law" st_law a_law fd_law
  b_law : Binds K fd_law ["_law_script"] []
  g_law : mg "law" = some (.ref a_law)
  pne_l_menu_right_l_thing_right : P_l_menu_right ≠ P_l_thing_right
  pne_l_menu_right_l_right : P_l_menu_right ≠ P_l_right
  pne_l_thing_right_l_right : P_l_thing_right ≠ P_l_right
  g_MOST_THINGS : ∃ t : Tok, mg "MOST_THINGS" = some (.int 10 t)
  g_LETTERS : ∃ t : Tok, mg "LETTERS" = some (.str "abcdefghijklmnopqrstuvwxyz" t)
  g_DIGITS : ∃ t : Tok, mg "DIGITS" = some (.str "0123456789" t)
  g_LONGEST_NAME : ∃ t : Tok, mg "LONGEST_NAME" = some (.int 8 t)
  n_len : mg "len" = none
  n_isinstance : mg "isinstance" = none
  n_all : mg "all" = none
  n_enumerate : mg "enumerate" = none
  n_tuple : mg "tuple" = none
  n_sorted : mg "sorted" = none
  n_abs : mg "abs" = none
  n_int : mg "int" = none
  n_divmod : mg "divmod" = none
  n_range : mg "range" = none
  n_list : mg "list" = none
  n_repr : mg "repr" = none
  n_max : mg "max" = none
  n_min : mg "min" = none
  n_str : mg "str" = none
  n_bool : mg "bool" = none
theorem tx_of {K : PySem.W.Frag} {h : Heap} {mg : Str → Option Value} {fa : Addr} (X : K.In h) (G : h.Ns mainGlobals mg) (hfa : mg "law" = some (.ref fa))
    {E_WrongValue : Addr}
    {E_InvalidText : Addr}
    {E_InvalidIndex : Addr}
    {E_NotARanking : Addr}
    {E_NotAHouse : Addr}
    {E_OtherThings : Addr}
    {E_InvalidRow : Addr}
    {E_InvalidMenu : Addr}
    {E_InvalidRankings : Addr}
    {E_WrongName : Addr}
    {E_UnknownThing : Addr}
    {E_NoAnswer : Addr}
    {E_TooMany : Addr}
    {E_NoHouse : Addr}
    {N_InvalidIndex : Addr} {nm_InvalidIndex q_InvalidIndex : Str} {bs_InvalidIndex bm_InvalidIndex sub_InvalidIndex : List Value} {sn_InvalidIndex : List Str} {ab_InvalidIndex : Bool} {col_InvalidIndex : Option Bool} {dd_InvalidIndex : Option Addr} {k0_InvalidIndex k1_InvalidIndex k2_InvalidIndex k3_InvalidIndex k5_InvalidIndex : Option Value}
    {N_InvalidRow : Addr} {nm_InvalidRow q_InvalidRow : Str} {bs_InvalidRow bm_InvalidRow sub_InvalidRow : List Value} {sn_InvalidRow : List Str} {ab_InvalidRow : Bool} {col_InvalidRow : Option Bool} {dd_InvalidRow : Option Addr} {k0_InvalidRow k1_InvalidRow k2_InvalidRow k3_InvalidRow k5_InvalidRow : Option Value}
    {N_InvalidMenu : Addr} {nm_InvalidMenu q_InvalidMenu : Str} {bs_InvalidMenu bm_InvalidMenu sub_InvalidMenu : List Value} {sn_InvalidMenu : List Str} {ab_InvalidMenu : Bool} {col_InvalidMenu : Option Bool} {dd_InvalidMenu : Option Addr} {k0_InvalidMenu k1_InvalidMenu k2_InvalidMenu k3_InvalidMenu k5_InvalidMenu : Option Value}
    {N_UnknownThing : Addr} {nm_UnknownThing q_UnknownThing : Str} {bs_UnknownThing bm_UnknownThing sub_UnknownThing : List Value} {sn_UnknownThing : List Str} {ab_UnknownThing : Bool} {col_UnknownThing : Option Bool} {dd_UnknownThing : Option Addr} {k0_UnknownThing k1_UnknownThing k2_UnknownThing k3_UnknownThing k5_UnknownThing : Option Value}
    {C_Ranking : Addr}
    {f_is_index : Addr} {od_is_index an_is_index : Option Addr} {sl_is_index : Array (Option Value)} {oc_is_index kV_is_index dc_is_index pm_is_index cd_is_index ct_is_index : Value}
    {f_is_name : Addr} {od_is_name an_is_name : Option Addr} {sl_is_name : Array (Option Value)} {oc_is_name kV_is_name dc_is_name pm_is_name cd_is_name ct_is_name : Value}
    {f_is_filled_tuple : Addr} {od_is_filled_tuple an_is_filled_tuple : Option Addr} {sl_is_filled_tuple : Array (Option Value)} {oc_is_filled_tuple kV_is_filled_tuple dc_is_filled_tuple pm_is_filled_tuple cd_is_filled_tuple ct_is_filled_tuple : Value}
    {f_is_one_of : Addr} {od_is_one_of an_is_one_of : Option Addr} {sl_is_one_of : Array (Option Value)} {oc_is_one_of kV_is_one_of dc_is_one_of pm_is_one_of cd_is_one_of ct_is_one_of : Value}
    {f_first_wrong_in_row : Addr} {od_first_wrong_in_row an_first_wrong_in_row : Option Addr} {sl_first_wrong_in_row : Array (Option Value)} {oc_first_wrong_in_row kV_first_wrong_in_row dc_first_wrong_in_row pm_first_wrong_in_row cd_first_wrong_in_row ct_first_wrong_in_row : Value}
    {f_first_wrong_on_menu : Addr} {od_first_wrong_on_menu an_first_wrong_on_menu : Option Addr} {sl_first_wrong_on_menu : Array (Option Value)} {oc_first_wrong_on_menu kV_first_wrong_on_menu dc_first_wrong_on_menu pm_first_wrong_on_menu cd_first_wrong_on_menu ct_first_wrong_on_menu : Value}
    {f_index_of : Addr} {od_index_of an_index_of : Option Addr} {sl_index_of : Array (Option Value)} {oc_index_of kV_index_of dc_index_of pm_index_of cd_index_of ct_index_of : Value}
    {f_check_row : Addr} {od_check_row an_check_row : Option Addr} {sl_check_row : Array (Option Value)} {oc_check_row kV_check_row dc_check_row pm_check_row cd_check_row ct_check_row : Value}
    {f_check_menu : Addr} {od_check_menu an_check_menu : Option Addr} {sl_check_menu : Array (Option Value)} {oc_check_menu kV_check_menu dc_check_menu pm_check_menu cd_check_menu ct_check_menu : Value}
    {f_check_thing : Addr} {od_check_thing an_check_thing : Option Addr} {sl_check_thing : Array (Option Value)} {oc_check_thing kV_check_thing dc_check_thing pm_check_thing cd_check_thing ct_check_thing : Value}
    {f_RankingD_initD : Addr} {od_RankingD_initD an_RankingD_initD : Option Addr} {sl_RankingD_initD : Array (Option Value)} {oc_RankingD_initD kV_RankingD_initD dc_RankingD_initD pm_RankingD_initD cd_RankingD_initD ct_RankingD_initD : Value}
    {f_Ranking_row : Addr} {od_Ranking_row an_Ranking_row : Option Addr} {sl_Ranking_row : Array (Option Value)} {oc_Ranking_row kV_Ranking_row dc_Ranking_row pm_Ranking_row cd_Ranking_row ct_Ranking_row : Value}
    {q_Ranking_row : Addr} {rest_Ranking_row : List Value}
    {f_Ranking_best : Addr} {od_Ranking_best an_Ranking_best : Option Addr} {sl_Ranking_best : Array (Option Value)} {oc_Ranking_best kV_Ranking_best dc_Ranking_best pm_Ranking_best cd_Ranking_best ct_Ranking_best : Value}
    {f_Ranking_below : Addr} {od_Ranking_below an_Ranking_below : Option Addr} {sl_Ranking_below : Array (Option Value)} {oc_Ranking_below kV_Ranking_below dc_Ranking_below pm_Ranking_below cd_Ranking_below ct_Ranking_below : Value}
    {f_Ranking_place : Addr} {od_Ranking_place an_Ranking_place : Option Addr} {sl_Ranking_place : Array (Option Value)} {oc_Ranking_place kV_Ranking_place dc_Ranking_place pm_Ranking_place cd_Ranking_place ct_Ranking_place : Value}
    {f_Ranking_without : Addr} {od_Ranking_without an_Ranking_without : Option Addr} {sl_Ranking_without : Array (Option Value)} {oc_Ranking_without kV_Ranking_without dc_Ranking_without pm_Ranking_without cd_Ranking_without ct_Ranking_without : Value}
    {f_RankingD_getitemD : Addr} {od_RankingD_getitemD an_RankingD_getitemD : Option Addr} {sl_RankingD_getitemD : Array (Option Value)} {oc_RankingD_getitemD kV_RankingD_getitemD dc_RankingD_getitemD pm_RankingD_getitemD cd_RankingD_getitemD ct_RankingD_getitemD : Value}
    {f_InvalidIndexD_initD : Addr} {od_InvalidIndexD_initD an_InvalidIndexD_initD : Option Addr} {sl_InvalidIndexD_initD : Array (Option Value)} {oc_InvalidIndexD_initD kV_InvalidIndexD_initD dc_InvalidIndexD_initD pm_InvalidIndexD_initD cd_InvalidIndexD_initD ct_InvalidIndexD_initD : Value}
    {f_InvalidRowD_initD : Addr} {od_InvalidRowD_initD an_InvalidRowD_initD : Option Addr} {sl_InvalidRowD_initD : Array (Option Value)} {oc_InvalidRowD_initD kV_InvalidRowD_initD dc_InvalidRowD_initD pm_InvalidRowD_initD cd_InvalidRowD_initD ct_InvalidRowD_initD : Value}
    {f_InvalidMenuD_initD : Addr} {od_InvalidMenuD_initD an_InvalidMenuD_initD : Option Addr} {sl_InvalidMenuD_initD : Array (Option Value)} {oc_InvalidMenuD_initD kV_InvalidMenuD_initD dc_InvalidMenuD_initD pm_InvalidMenuD_initD cd_InvalidMenuD_initD ct_InvalidMenuD_initD : Value}
    {f_UnknownThingD_initD : Addr} {od_UnknownThingD_initD an_UnknownThingD_initD : Option Addr} {sl_UnknownThingD_initD : Array (Option Value)} {oc_UnknownThingD_initD kV_UnknownThingD_initD dc_UnknownThingD_initD pm_UnknownThingD_initD cd_UnknownThingD_initD ct_UnknownThingD_initD : Value}
    {f_l_purse : Addr} {od_l_purse an_l_purse : Option Addr} {sl_l_purse : Array (Option Value)} {oc_l_purse kV_l_purse dc_l_purse pm_l_purse cd_l_purse ct_l_purse : Value}
    {f_l_draw : Addr} {od_l_draw an_l_draw : Option Addr} {sl_l_draw : Array (Option Value)} {oc_l_draw kV_l_draw dc_l_draw pm_l_draw cd_l_draw ct_l_draw : Value}
    {f_l_things : Addr} {od_l_things an_l_things : Option Addr} {sl_l_things : Array (Option Value)} {oc_l_things kV_l_things dc_l_things pm_l_things cd_l_things ct_l_things : Value}
    {f_l_order : Addr} {od_l_order an_l_order : Option Addr} {sl_l_order : Array (Option Value)} {oc_l_order kV_l_order dc_l_order pm_l_order cd_l_order ct_l_order : Value}
    {f_l_sort : Addr} {od_l_sort an_l_sort : Option Addr} {sl_l_sort : Array (Option Value)} {oc_l_sort kV_l_sort dc_l_sort pm_l_sort cd_l_sort ct_l_sort : Value}
    {f_l_attribute : Addr} {od_l_attribute an_l_attribute : Option Addr} {sl_l_attribute : Array (Option Value)} {oc_l_attribute kV_l_attribute dc_l_attribute pm_l_attribute cd_l_attribute ct_l_attribute : Value}
    {f_l_told : Addr} {od_l_told an_l_told : Option Addr} {sl_l_told : Array (Option Value)} {oc_l_told kV_l_told dc_l_told pm_l_told cd_l_told ct_l_told : Value}
    {f_l_off : Addr} {od_l_off an_l_off : Option Addr} {sl_l_off : Array (Option Value)} {oc_l_off kV_l_off dc_l_off pm_l_off cd_l_off ct_l_off : Value}
    {f_l_bent_menu : Addr} {od_l_bent_menu an_l_bent_menu : Option Addr} {sl_l_bent_menu : Array (Option Value)} {oc_l_bent_menu kV_l_bent_menu dc_l_bent_menu pm_l_bent_menu cd_l_bent_menu ct_l_bent_menu : Value}
    {f_l_menu_right : Addr} {od_l_menu_right an_l_menu_right : Option Addr} {sl_l_menu_right : Array (Option Value)} {oc_l_menu_right kV_l_menu_right dc_l_menu_right pm_l_menu_right ct_l_menu_right : Value}
    {cc_l_menu_right pp_l_menu_right : Addr} {cod_l_menu_right : Option Addr} {cvs_l_menu_right : Array Value} {csl_l_menu_right : Array (Option Value)}
    {f_l_thing_right : Addr} {od_l_thing_right an_l_thing_right : Option Addr} {sl_l_thing_right : Array (Option Value)} {oc_l_thing_right kV_l_thing_right dc_l_thing_right pm_l_thing_right ct_l_thing_right : Value}
    {cc_l_thing_right pp_l_thing_right : Addr} {cod_l_thing_right : Option Addr} {cvs_l_thing_right : Array Value} {csl_l_thing_right : Array (Option Value)}
    {f_l_right : Addr} {od_l_right an_l_right : Option Addr} {sl_l_right : Array (Option Value)} {oc_l_right kV_l_right dc_l_right pm_l_right ct_l_right : Value}
    {cc_l_right pp_l_right : Addr} {cod_l_right : Option Addr} {cvs_l_right : Array Value} {csl_l_right : Array (Option Value)}
    {f_law : Addr} {od_law an_law : Option Addr} {sl_law : Array (Option Value)} {oc_law kV_law dc_law pm_law cd_law ct_law : Value}
    {ts : List Addr}
    {t_MOST_THINGS : Tok}
    {t_LETTERS : Tok}
    {t_DIGITS : Tok}
    {t_LONGEST_NAME : Tok}
    (eg_WrongValue : PySem.W.nsIn K mainGlobals "WrongValue" = some (some (.ref E_WrongValue)))
    (eg_InvalidText : PySem.W.nsIn K mainGlobals "InvalidText" = some (some (.ref E_InvalidText)))
    (eg_InvalidIndex : PySem.W.nsIn K mainGlobals "InvalidIndex" = some (some (.ref E_InvalidIndex)))
    (eg_NotARanking : PySem.W.nsIn K mainGlobals "NotARanking" = some (some (.ref E_NotARanking)))
    (eg_NotAHouse : PySem.W.nsIn K mainGlobals "NotAHouse" = some (some (.ref E_NotAHouse)))
    (eg_OtherThings : PySem.W.nsIn K mainGlobals "OtherThings" = some (some (.ref E_OtherThings)))
    (eg_InvalidRow : PySem.W.nsIn K mainGlobals "InvalidRow" = some (some (.ref E_InvalidRow)))
    (eg_InvalidMenu : PySem.W.nsIn K mainGlobals "InvalidMenu" = some (some (.ref E_InvalidMenu)))
    (eg_InvalidRankings : PySem.W.nsIn K mainGlobals "InvalidRankings" = some (some (.ref E_InvalidRankings)))
    (eg_WrongName : PySem.W.nsIn K mainGlobals "WrongName" = some (some (.ref E_WrongName)))
    (eg_UnknownThing : PySem.W.nsIn K mainGlobals "UnknownThing" = some (some (.ref E_UnknownThing)))
    (eg_NoAnswer : PySem.W.nsIn K mainGlobals "NoAnswer" = some (some (.ref E_NoAnswer)))
    (eg_TooMany : PySem.W.nsIn K mainGlobals "TooMany" = some (some (.ref E_TooMany)))
    (eg_NoHouse : PySem.W.nsIn K mainGlobals "NoHouse" = some (some (.ref E_NoHouse)))
    (xl_InvalidIndex : K.lookup E_InvalidIndex = some (excClassObj nm_InvalidIndex q_InvalidIndex E_InvalidIndex N_InvalidIndex bs_InvalidIndex bm_InvalidIndex true sn_InvalidIndex sub_InvalidIndex ab_InvalidIndex col_InvalidIndex dd_InvalidIndex k0_InvalidIndex k1_InvalidIndex k2_InvalidIndex k3_InvalidIndex k5_InvalidIndex "ValueError.__new__"))
    (xr_InvalidIndex : PySem.HandSPX.refsVE bm_InvalidIndex = true)
    (xs_InvalidIndex : PySem.W.findIn K (.ref E_InvalidIndex) "__setattr__" = some (some (.builtin "object.__setattr__")))
    (xx_InvalidIndex : PySem.W.subIn K (.ref E_InvalidIndex) (.type "BaseException") = some true)
    (xt_InvalidIndex : PySem.W.typeIn K (.ref E_InvalidIndex) = some (.type "type"))
    (xk_InvalidIndex : PySem.W.keepIn K (.ref E_InvalidIndex) = true)
    (xn_InvalidIndex : PySem.W.findIn K (.ref E_InvalidIndex) "given" = some none)
    (xga_InvalidIndex : PySem.W.findIn K (.ref E_InvalidIndex) "__getattribute__" = some (some (.builtin "BaseException.__getattribute__")))
    (xgg_InvalidIndex : PySem.W.findIn K (.ref E_InvalidIndex) "__getattr__" = some none)
    (xhd_InvalidIndex : PySem.W.hasDictIn K E_InvalidIndex = true)
    (xcl_InvalidIndex : (PySem.W.clsIn K E_InvalidIndex).isSome = true)
    (xca_InvalidIndex : PySem.W.findIn K (.ref E_InvalidIndex) "__class__" = some (some (.builtin "object.__class__")))
    (xcb_InvalidIndex : PySem.W.specialIn K (.builtin "object.__class__") "__get__" = some (some (.builtin "getset_descriptor.__get__")))
    (xcc_InvalidIndex : PySem.W.takesIn K (.builtin "object.__class__") = some true)
    (xob_InvalidIndex : PySem.W.mroIn K E_InvalidIndex (.type "object") = some true)
    (xem_InvalidIndex : PySem.W.exmAny K (.ref E_InvalidIndex) [.ref E_WrongValue, .ref E_WrongName, .ref E_NoAnswer] = some true)
    (kf_InvalidIndex_WrongValue : PySem.W.kitOne K (.ref E_InvalidIndex) (.ref E_WrongValue) = some true)
    (kf_InvalidIndex_InvalidText : PySem.W.kitOne K (.ref E_InvalidIndex) (.ref E_InvalidText) = some false)
    (kf_InvalidIndex_InvalidIndex : PySem.W.kitOne K (.ref E_InvalidIndex) (.ref E_InvalidIndex) = some true)
    (kf_InvalidIndex_NotARanking : PySem.W.kitOne K (.ref E_InvalidIndex) (.ref E_NotARanking) = some false)
    (kf_InvalidIndex_NotAHouse : PySem.W.kitOne K (.ref E_InvalidIndex) (.ref E_NotAHouse) = some false)
    (kf_InvalidIndex_OtherThings : PySem.W.kitOne K (.ref E_InvalidIndex) (.ref E_OtherThings) = some false)
    (kf_InvalidIndex_InvalidRow : PySem.W.kitOne K (.ref E_InvalidIndex) (.ref E_InvalidRow) = some false)
    (kf_InvalidIndex_InvalidMenu : PySem.W.kitOne K (.ref E_InvalidIndex) (.ref E_InvalidMenu) = some false)
    (kf_InvalidIndex_InvalidRankings : PySem.W.kitOne K (.ref E_InvalidIndex) (.ref E_InvalidRankings) = some false)
    (kf_InvalidIndex_WrongName : PySem.W.kitOne K (.ref E_InvalidIndex) (.ref E_WrongName) = some false)
    (kf_InvalidIndex_UnknownThing : PySem.W.kitOne K (.ref E_InvalidIndex) (.ref E_UnknownThing) = some false)
    (kf_InvalidIndex_NoAnswer : PySem.W.kitOne K (.ref E_InvalidIndex) (.ref E_NoAnswer) = some false)
    (kf_InvalidIndex_TooMany : PySem.W.kitOne K (.ref E_InvalidIndex) (.ref E_TooMany) = some false)
    (kf_InvalidIndex_NoHouse : PySem.W.kitOne K (.ref E_InvalidIndex) (.ref E_NoHouse) = some false)
    (xl_InvalidRow : K.lookup E_InvalidRow = some (excClassObj nm_InvalidRow q_InvalidRow E_InvalidRow N_InvalidRow bs_InvalidRow bm_InvalidRow true sn_InvalidRow sub_InvalidRow ab_InvalidRow col_InvalidRow dd_InvalidRow k0_InvalidRow k1_InvalidRow k2_InvalidRow k3_InvalidRow k5_InvalidRow "ValueError.__new__"))
    (xr_InvalidRow : PySem.HandSPX.refsVE bm_InvalidRow = true)
    (xs_InvalidRow : PySem.W.findIn K (.ref E_InvalidRow) "__setattr__" = some (some (.builtin "object.__setattr__")))
    (xx_InvalidRow : PySem.W.subIn K (.ref E_InvalidRow) (.type "BaseException") = some true)
    (xt_InvalidRow : PySem.W.typeIn K (.ref E_InvalidRow) = some (.type "type"))
    (xk_InvalidRow : PySem.W.keepIn K (.ref E_InvalidRow) = true)
    (xn_InvalidRow : PySem.W.findIn K (.ref E_InvalidRow) "index" = some none)
    (xga_InvalidRow : PySem.W.findIn K (.ref E_InvalidRow) "__getattribute__" = some (some (.builtin "BaseException.__getattribute__")))
    (xgg_InvalidRow : PySem.W.findIn K (.ref E_InvalidRow) "__getattr__" = some none)
    (xhd_InvalidRow : PySem.W.hasDictIn K E_InvalidRow = true)
    (xcl_InvalidRow : (PySem.W.clsIn K E_InvalidRow).isSome = true)
    (xca_InvalidRow : PySem.W.findIn K (.ref E_InvalidRow) "__class__" = some (some (.builtin "object.__class__")))
    (xcb_InvalidRow : PySem.W.specialIn K (.builtin "object.__class__") "__get__" = some (some (.builtin "getset_descriptor.__get__")))
    (xcc_InvalidRow : PySem.W.takesIn K (.builtin "object.__class__") = some true)
    (xob_InvalidRow : PySem.W.mroIn K E_InvalidRow (.type "object") = some true)
    (xem_InvalidRow : PySem.W.exmAny K (.ref E_InvalidRow) [.ref E_WrongValue, .ref E_WrongName, .ref E_NoAnswer] = some true)
    (kf_InvalidRow_WrongValue : PySem.W.kitOne K (.ref E_InvalidRow) (.ref E_WrongValue) = some true)
    (kf_InvalidRow_InvalidText : PySem.W.kitOne K (.ref E_InvalidRow) (.ref E_InvalidText) = some false)
    (kf_InvalidRow_InvalidIndex : PySem.W.kitOne K (.ref E_InvalidRow) (.ref E_InvalidIndex) = some false)
    (kf_InvalidRow_NotARanking : PySem.W.kitOne K (.ref E_InvalidRow) (.ref E_NotARanking) = some false)
    (kf_InvalidRow_NotAHouse : PySem.W.kitOne K (.ref E_InvalidRow) (.ref E_NotAHouse) = some false)
    (kf_InvalidRow_OtherThings : PySem.W.kitOne K (.ref E_InvalidRow) (.ref E_OtherThings) = some false)
    (kf_InvalidRow_InvalidRow : PySem.W.kitOne K (.ref E_InvalidRow) (.ref E_InvalidRow) = some true)
    (kf_InvalidRow_InvalidMenu : PySem.W.kitOne K (.ref E_InvalidRow) (.ref E_InvalidMenu) = some false)
    (kf_InvalidRow_InvalidRankings : PySem.W.kitOne K (.ref E_InvalidRow) (.ref E_InvalidRankings) = some false)
    (kf_InvalidRow_WrongName : PySem.W.kitOne K (.ref E_InvalidRow) (.ref E_WrongName) = some false)
    (kf_InvalidRow_UnknownThing : PySem.W.kitOne K (.ref E_InvalidRow) (.ref E_UnknownThing) = some false)
    (kf_InvalidRow_NoAnswer : PySem.W.kitOne K (.ref E_InvalidRow) (.ref E_NoAnswer) = some false)
    (kf_InvalidRow_TooMany : PySem.W.kitOne K (.ref E_InvalidRow) (.ref E_TooMany) = some false)
    (kf_InvalidRow_NoHouse : PySem.W.kitOne K (.ref E_InvalidRow) (.ref E_NoHouse) = some false)
    (xl_InvalidMenu : K.lookup E_InvalidMenu = some (excClassObj nm_InvalidMenu q_InvalidMenu E_InvalidMenu N_InvalidMenu bs_InvalidMenu bm_InvalidMenu true sn_InvalidMenu sub_InvalidMenu ab_InvalidMenu col_InvalidMenu dd_InvalidMenu k0_InvalidMenu k1_InvalidMenu k2_InvalidMenu k3_InvalidMenu k5_InvalidMenu "ValueError.__new__"))
    (xr_InvalidMenu : PySem.HandSPX.refsVE bm_InvalidMenu = true)
    (xs_InvalidMenu : PySem.W.findIn K (.ref E_InvalidMenu) "__setattr__" = some (some (.builtin "object.__setattr__")))
    (xx_InvalidMenu : PySem.W.subIn K (.ref E_InvalidMenu) (.type "BaseException") = some true)
    (xt_InvalidMenu : PySem.W.typeIn K (.ref E_InvalidMenu) = some (.type "type"))
    (xk_InvalidMenu : PySem.W.keepIn K (.ref E_InvalidMenu) = true)
    (xn_InvalidMenu : PySem.W.findIn K (.ref E_InvalidMenu) "index" = some none)
    (xga_InvalidMenu : PySem.W.findIn K (.ref E_InvalidMenu) "__getattribute__" = some (some (.builtin "BaseException.__getattribute__")))
    (xgg_InvalidMenu : PySem.W.findIn K (.ref E_InvalidMenu) "__getattr__" = some none)
    (xhd_InvalidMenu : PySem.W.hasDictIn K E_InvalidMenu = true)
    (xcl_InvalidMenu : (PySem.W.clsIn K E_InvalidMenu).isSome = true)
    (xca_InvalidMenu : PySem.W.findIn K (.ref E_InvalidMenu) "__class__" = some (some (.builtin "object.__class__")))
    (xcb_InvalidMenu : PySem.W.specialIn K (.builtin "object.__class__") "__get__" = some (some (.builtin "getset_descriptor.__get__")))
    (xcc_InvalidMenu : PySem.W.takesIn K (.builtin "object.__class__") = some true)
    (xob_InvalidMenu : PySem.W.mroIn K E_InvalidMenu (.type "object") = some true)
    (xem_InvalidMenu : PySem.W.exmAny K (.ref E_InvalidMenu) [.ref E_WrongValue, .ref E_WrongName, .ref E_NoAnswer] = some true)
    (kf_InvalidMenu_WrongValue : PySem.W.kitOne K (.ref E_InvalidMenu) (.ref E_WrongValue) = some true)
    (kf_InvalidMenu_InvalidText : PySem.W.kitOne K (.ref E_InvalidMenu) (.ref E_InvalidText) = some false)
    (kf_InvalidMenu_InvalidIndex : PySem.W.kitOne K (.ref E_InvalidMenu) (.ref E_InvalidIndex) = some false)
    (kf_InvalidMenu_NotARanking : PySem.W.kitOne K (.ref E_InvalidMenu) (.ref E_NotARanking) = some false)
    (kf_InvalidMenu_NotAHouse : PySem.W.kitOne K (.ref E_InvalidMenu) (.ref E_NotAHouse) = some false)
    (kf_InvalidMenu_OtherThings : PySem.W.kitOne K (.ref E_InvalidMenu) (.ref E_OtherThings) = some false)
    (kf_InvalidMenu_InvalidRow : PySem.W.kitOne K (.ref E_InvalidMenu) (.ref E_InvalidRow) = some false)
    (kf_InvalidMenu_InvalidMenu : PySem.W.kitOne K (.ref E_InvalidMenu) (.ref E_InvalidMenu) = some true)
    (kf_InvalidMenu_InvalidRankings : PySem.W.kitOne K (.ref E_InvalidMenu) (.ref E_InvalidRankings) = some false)
    (kf_InvalidMenu_WrongName : PySem.W.kitOne K (.ref E_InvalidMenu) (.ref E_WrongName) = some false)
    (kf_InvalidMenu_UnknownThing : PySem.W.kitOne K (.ref E_InvalidMenu) (.ref E_UnknownThing) = some false)
    (kf_InvalidMenu_NoAnswer : PySem.W.kitOne K (.ref E_InvalidMenu) (.ref E_NoAnswer) = some false)
    (kf_InvalidMenu_TooMany : PySem.W.kitOne K (.ref E_InvalidMenu) (.ref E_TooMany) = some false)
    (kf_InvalidMenu_NoHouse : PySem.W.kitOne K (.ref E_InvalidMenu) (.ref E_NoHouse) = some false)
    (xl_UnknownThing : K.lookup E_UnknownThing = some (excClassObj nm_UnknownThing q_UnknownThing E_UnknownThing N_UnknownThing bs_UnknownThing bm_UnknownThing true sn_UnknownThing sub_UnknownThing ab_UnknownThing col_UnknownThing dd_UnknownThing k0_UnknownThing k1_UnknownThing k2_UnknownThing k3_UnknownThing k5_UnknownThing "LookupError.__new__"))
    (xr_UnknownThing : PySem.W.excTail [Value.type "LookupError", Value.type "Exception", Value.type "BaseException", Value.type "object"] bm_UnknownThing = true)
    (xs_UnknownThing : PySem.W.findIn K (.ref E_UnknownThing) "__setattr__" = some (some (.builtin "object.__setattr__")))
    (xx_UnknownThing : PySem.W.subIn K (.ref E_UnknownThing) (.type "BaseException") = some true)
    (xt_UnknownThing : PySem.W.typeIn K (.ref E_UnknownThing) = some (.type "type"))
    (xk_UnknownThing : PySem.W.keepIn K (.ref E_UnknownThing) = true)
    (xn_UnknownThing : PySem.W.findIn K (.ref E_UnknownThing) "given" = some none)
    (xga_UnknownThing : PySem.W.findIn K (.ref E_UnknownThing) "__getattribute__" = some (some (.builtin "BaseException.__getattribute__")))
    (xgg_UnknownThing : PySem.W.findIn K (.ref E_UnknownThing) "__getattr__" = some none)
    (xhd_UnknownThing : PySem.W.hasDictIn K E_UnknownThing = true)
    (xcl_UnknownThing : (PySem.W.clsIn K E_UnknownThing).isSome = true)
    (xca_UnknownThing : PySem.W.findIn K (.ref E_UnknownThing) "__class__" = some (some (.builtin "object.__class__")))
    (xcb_UnknownThing : PySem.W.specialIn K (.builtin "object.__class__") "__get__" = some (some (.builtin "getset_descriptor.__get__")))
    (xcc_UnknownThing : PySem.W.takesIn K (.builtin "object.__class__") = some true)
    (xob_UnknownThing : PySem.W.mroIn K E_UnknownThing (.type "object") = some true)
    (xem_UnknownThing : PySem.W.exmAny K (.ref E_UnknownThing) [.ref E_WrongValue, .ref E_WrongName, .ref E_NoAnswer] = some true)
    (kf_UnknownThing_WrongValue : PySem.W.kitOne K (.ref E_UnknownThing) (.ref E_WrongValue) = some false)
    (kf_UnknownThing_InvalidText : PySem.W.kitOne K (.ref E_UnknownThing) (.ref E_InvalidText) = some false)
    (kf_UnknownThing_InvalidIndex : PySem.W.kitOne K (.ref E_UnknownThing) (.ref E_InvalidIndex) = some false)
    (kf_UnknownThing_NotARanking : PySem.W.kitOne K (.ref E_UnknownThing) (.ref E_NotARanking) = some false)
    (kf_UnknownThing_NotAHouse : PySem.W.kitOne K (.ref E_UnknownThing) (.ref E_NotAHouse) = some false)
    (kf_UnknownThing_OtherThings : PySem.W.kitOne K (.ref E_UnknownThing) (.ref E_OtherThings) = some false)
    (kf_UnknownThing_InvalidRow : PySem.W.kitOne K (.ref E_UnknownThing) (.ref E_InvalidRow) = some false)
    (kf_UnknownThing_InvalidMenu : PySem.W.kitOne K (.ref E_UnknownThing) (.ref E_InvalidMenu) = some false)
    (kf_UnknownThing_InvalidRankings : PySem.W.kitOne K (.ref E_UnknownThing) (.ref E_InvalidRankings) = some false)
    (kf_UnknownThing_WrongName : PySem.W.kitOne K (.ref E_UnknownThing) (.ref E_WrongName) = some true)
    (kf_UnknownThing_UnknownThing : PySem.W.kitOne K (.ref E_UnknownThing) (.ref E_UnknownThing) = some true)
    (kf_UnknownThing_NoAnswer : PySem.W.kitOne K (.ref E_UnknownThing) (.ref E_NoAnswer) = some false)
    (kf_UnknownThing_TooMany : PySem.W.kitOne K (.ref E_UnknownThing) (.ref E_TooMany) = some false)
    (kf_UnknownThing_NoHouse : PySem.W.kitOne K (.ref E_UnknownThing) (.ref E_NoHouse) = some false)
    (cg_Ranking : PySem.W.nsIn K mainGlobals "Ranking" = some (some (.ref C_Ranking)))
    (cp_Ranking : PySem.W.plainGet K C_Ranking Str.empty = true)
    (ch_Ranking : PySem.W.hasDictIn K C_Ranking = true)
    (co_Ranking : PySem.W.plainOver K C_Ranking = true)
    (cs_Ranking : PySem.W.findIn K (.ref C_Ranking) "__setattr__" = some (some (.builtin "object.__setattr__")))
    (cm_Ranking : PySem.W.makesIn K C_Ranking = true)
    (ck_Ranking : PySem.W.keepIn K (.ref C_Ranking) = true)
    (cne_Ranking : PySem.W.findIn K (.ref C_Ranking) "__ne__" = some (some (.builtin "object.__ne__")))
    (cob_Ranking : PySem.W.mroIn K C_Ranking (.type "object") = some true)
    (cca_Ranking : PySem.W.findIn K (.ref C_Ranking) "__class__" = some (some (.builtin "object.__class__")))
    (ccb_Ranking : PySem.W.specialIn K (.builtin "object.__class__") "__get__" = some (some (.builtin "getset_descriptor.__get__")))
    (ccc_Ranking : PySem.W.takesIn K (.builtin "object.__class__") = some true)
    (cki_Ranking_tuple : PySem.W.kitOne K (.ref C_Ranking) (.type "tuple") = some false)
    (cki_Ranking_str : PySem.W.kitOne K (.ref C_Ranking) (.type "str") = some false)
    (cki_Ranking_int : PySem.W.kitOne K (.ref C_Ranking) (.type "int") = some false)
    (cki_Ranking_bool : PySem.W.kitOne K (.ref C_Ranking) (.type "bool") = some false)
    (cbo_Ranking : PySem.W.findIn K (.ref C_Ranking) "__bool__" = some none)
    (cfm_Ranking : PySem.W.findIn K (.ref C_Ranking) "__format__" = some (some (.builtin "object.__format__")))
    (crd_Ranking : PySem.W.readsIn K C_Ranking (.type "type") = true)
    (cty_Ranking : PySem.W.typeIn K (.ref C_Ranking) = some (.type "type"))
    (cga_Ranking : PySem.W.specialIn K (.ref C_Ranking) "__getattribute__" = some (some (.builtin "type.__getattribute__")))
    (cn_Ranking__row : PySem.W.findIn K (.ref C_Ranking) "_row" = some none)
    (cn_Ranking__things : PySem.W.findIn K (.ref C_Ranking) "_things" = some none)
    (a_is_index : PySem.W.nsIn K mainGlobals "is_index" = some (some (.ref f_is_index)))
    (l_is_index : K.lookup f_is_index = some ⟨oc_is_index, od_is_index, .func (PySem.W.fnOf "is_index" "is_index" (defArgs st_is_index) (defBody st_is_index) (defScope st_is_index) .none kV_is_index dc_is_index pm_is_index an_is_index cd_is_index ct_is_index), sl_is_index⟩)
    (c_is_index : PySem.W.codeIn K cd_is_index "is_index" = true)
    (k_is_index : PySem.W.keepIn K (.ref f_is_index) = true)
    (a_is_name : PySem.W.nsIn K mainGlobals "is_name" = some (some (.ref f_is_name)))
    (l_is_name : K.lookup f_is_name = some ⟨oc_is_name, od_is_name, .func (PySem.W.fnOf "is_name" "is_name" (defArgs st_is_name) (defBody st_is_name) (defScope st_is_name) .none kV_is_name dc_is_name pm_is_name an_is_name cd_is_name ct_is_name), sl_is_name⟩)
    (c_is_name : PySem.W.codeIn K cd_is_name "is_name" = true)
    (k_is_name : PySem.W.keepIn K (.ref f_is_name) = true)
    (a_is_filled_tuple : PySem.W.nsIn K mainGlobals "is_filled_tuple" = some (some (.ref f_is_filled_tuple)))
    (l_is_filled_tuple : K.lookup f_is_filled_tuple = some ⟨oc_is_filled_tuple, od_is_filled_tuple, .func (PySem.W.fnOf "is_filled_tuple" "is_filled_tuple" (defArgs st_is_filled_tuple) (defBody st_is_filled_tuple) (defScope st_is_filled_tuple) .none kV_is_filled_tuple dc_is_filled_tuple pm_is_filled_tuple an_is_filled_tuple cd_is_filled_tuple ct_is_filled_tuple), sl_is_filled_tuple⟩)
    (c_is_filled_tuple : PySem.W.codeIn K cd_is_filled_tuple "is_filled_tuple" = true)
    (k_is_filled_tuple : PySem.W.keepIn K (.ref f_is_filled_tuple) = true)
    (a_is_one_of : PySem.W.nsIn K mainGlobals "is_one_of" = some (some (.ref f_is_one_of)))
    (l_is_one_of : K.lookup f_is_one_of = some ⟨oc_is_one_of, od_is_one_of, .func (PySem.W.fnOf "is_one_of" "is_one_of" (defArgs st_is_one_of) (defBody st_is_one_of) (defScope st_is_one_of) .none kV_is_one_of dc_is_one_of pm_is_one_of an_is_one_of cd_is_one_of ct_is_one_of), sl_is_one_of⟩)
    (c_is_one_of : PySem.W.codeIn K cd_is_one_of "is_one_of" = true)
    (k_is_one_of : PySem.W.keepIn K (.ref f_is_one_of) = true)
    (a_first_wrong_in_row : PySem.W.nsIn K mainGlobals "first_wrong_in_row" = some (some (.ref f_first_wrong_in_row)))
    (l_first_wrong_in_row : K.lookup f_first_wrong_in_row = some ⟨oc_first_wrong_in_row, od_first_wrong_in_row, .func (PySem.W.fnOf "first_wrong_in_row" "first_wrong_in_row" (defArgs st_first_wrong_in_row) (defBody st_first_wrong_in_row) (defScope st_first_wrong_in_row) .none kV_first_wrong_in_row dc_first_wrong_in_row pm_first_wrong_in_row an_first_wrong_in_row cd_first_wrong_in_row ct_first_wrong_in_row), sl_first_wrong_in_row⟩)
    (c_first_wrong_in_row : PySem.W.codeIn K cd_first_wrong_in_row "first_wrong_in_row" = true)
    (k_first_wrong_in_row : PySem.W.keepIn K (.ref f_first_wrong_in_row) = true)
    (a_first_wrong_on_menu : PySem.W.nsIn K mainGlobals "first_wrong_on_menu" = some (some (.ref f_first_wrong_on_menu)))
    (l_first_wrong_on_menu : K.lookup f_first_wrong_on_menu = some ⟨oc_first_wrong_on_menu, od_first_wrong_on_menu, .func (PySem.W.fnOf "first_wrong_on_menu" "first_wrong_on_menu" (defArgs st_first_wrong_on_menu) (defBody st_first_wrong_on_menu) (defScope st_first_wrong_on_menu) .none kV_first_wrong_on_menu dc_first_wrong_on_menu pm_first_wrong_on_menu an_first_wrong_on_menu cd_first_wrong_on_menu ct_first_wrong_on_menu), sl_first_wrong_on_menu⟩)
    (c_first_wrong_on_menu : PySem.W.codeIn K cd_first_wrong_on_menu "first_wrong_on_menu" = true)
    (k_first_wrong_on_menu : PySem.W.keepIn K (.ref f_first_wrong_on_menu) = true)
    (a_index_of : PySem.W.nsIn K mainGlobals "index_of" = some (some (.ref f_index_of)))
    (l_index_of : K.lookup f_index_of = some ⟨oc_index_of, od_index_of, .func (PySem.W.fnOf "index_of" "index_of" (defArgs st_index_of) (defBody st_index_of) (defScope st_index_of) .none kV_index_of dc_index_of pm_index_of an_index_of cd_index_of ct_index_of), sl_index_of⟩)
    (c_index_of : PySem.W.codeIn K cd_index_of "index_of" = true)
    (k_index_of : PySem.W.keepIn K (.ref f_index_of) = true)
    (a_check_row : PySem.W.nsIn K mainGlobals "check_row" = some (some (.ref f_check_row)))
    (l_check_row : K.lookup f_check_row = some ⟨oc_check_row, od_check_row, .func (PySem.W.fnOf "check_row" "check_row" (defArgs st_check_row) (defBody st_check_row) (defScope st_check_row) .none kV_check_row dc_check_row pm_check_row an_check_row cd_check_row ct_check_row), sl_check_row⟩)
    (c_check_row : PySem.W.codeIn K cd_check_row "check_row" = true)
    (k_check_row : PySem.W.keepIn K (.ref f_check_row) = true)
    (a_check_menu : PySem.W.nsIn K mainGlobals "check_menu" = some (some (.ref f_check_menu)))
    (l_check_menu : K.lookup f_check_menu = some ⟨oc_check_menu, od_check_menu, .func (PySem.W.fnOf "check_menu" "check_menu" (defArgs st_check_menu) (defBody st_check_menu) (defScope st_check_menu) .none kV_check_menu dc_check_menu pm_check_menu an_check_menu cd_check_menu ct_check_menu), sl_check_menu⟩)
    (c_check_menu : PySem.W.codeIn K cd_check_menu "check_menu" = true)
    (k_check_menu : PySem.W.keepIn K (.ref f_check_menu) = true)
    (a_check_thing : PySem.W.nsIn K mainGlobals "check_thing" = some (some (.ref f_check_thing)))
    (l_check_thing : K.lookup f_check_thing = some ⟨oc_check_thing, od_check_thing, .func (PySem.W.fnOf "check_thing" "check_thing" (defArgs st_check_thing) (defBody st_check_thing) (defScope st_check_thing) .none kV_check_thing dc_check_thing pm_check_thing an_check_thing cd_check_thing ct_check_thing), sl_check_thing⟩)
    (c_check_thing : PySem.W.codeIn K cd_check_thing "check_thing" = true)
    (k_check_thing : PySem.W.keepIn K (.ref f_check_thing) = true)
    (a_RankingD_initD : PySem.W.findIn K (.ref C_Ranking) "__init__" = some (some (.ref f_RankingD_initD)))
    (i_RankingD_initD : PySem.W.isFn K (.ref f_RankingD_initD) = true)
    (l_RankingD_initD : K.lookup f_RankingD_initD = some ⟨oc_RankingD_initD, od_RankingD_initD, .func (PySem.W.fnOf "__init__" "Ranking.__init__" (defArgs st_RankingD_initD) (defBody st_RankingD_initD) (defScope st_RankingD_initD) .none kV_RankingD_initD dc_RankingD_initD pm_RankingD_initD an_RankingD_initD cd_RankingD_initD ct_RankingD_initD), sl_RankingD_initD⟩)
    (c_RankingD_initD : PySem.W.codeIn K cd_RankingD_initD "Ranking.__init__" = true)
    (k_RankingD_initD : PySem.W.keepIn K (.ref f_RankingD_initD) = true)
    (a_Ranking_row : PySem.W.findIn K (.ref C_Ranking) "row" = some (some (.ref q_Ranking_row)))
    (pg_Ranking_row : PySem.W.specialIn K (.ref q_Ranking_row) "__get__" = some (some (.builtin "property.__get__")))
    (pt_Ranking_row : PySem.W.takesIn K (.ref q_Ranking_row) = some true)
    (pr_Ranking_row : PySem.W.recIn K q_Ranking_row "property" = some (.ref f_Ranking_row :: rest_Ranking_row))
    (l_Ranking_row : K.lookup f_Ranking_row = some ⟨oc_Ranking_row, od_Ranking_row, .func (PySem.W.fnOf "row" "Ranking.row" (defArgs st_Ranking_row) (defBody st_Ranking_row) (defScope st_Ranking_row) .none kV_Ranking_row dc_Ranking_row pm_Ranking_row an_Ranking_row cd_Ranking_row ct_Ranking_row), sl_Ranking_row⟩)
    (c_Ranking_row : PySem.W.codeIn K cd_Ranking_row "Ranking.row" = true)
    (k_Ranking_row : PySem.W.keepIn K (.ref f_Ranking_row) = true)
    (a_Ranking_best : PySem.W.findIn K (.ref C_Ranking) "best" = some (some (.ref f_Ranking_best)))
    (i_Ranking_best : PySem.W.isFn K (.ref f_Ranking_best) = true)
    (l_Ranking_best : K.lookup f_Ranking_best = some ⟨oc_Ranking_best, od_Ranking_best, .func (PySem.W.fnOf "best" "Ranking.best" (defArgs st_Ranking_best) (defBody st_Ranking_best) (defScope st_Ranking_best) .none kV_Ranking_best dc_Ranking_best pm_Ranking_best an_Ranking_best cd_Ranking_best ct_Ranking_best), sl_Ranking_best⟩)
    (c_Ranking_best : PySem.W.codeIn K cd_Ranking_best "Ranking.best" = true)
    (k_Ranking_best : PySem.W.keepIn K (.ref f_Ranking_best) = true)
    (a_Ranking_below : PySem.W.findIn K (.ref C_Ranking) "below" = some (some (.ref f_Ranking_below)))
    (i_Ranking_below : PySem.W.isFn K (.ref f_Ranking_below) = true)
    (l_Ranking_below : K.lookup f_Ranking_below = some ⟨oc_Ranking_below, od_Ranking_below, .func (PySem.W.fnOf "below" "Ranking.below" (defArgs st_Ranking_below) (defBody st_Ranking_below) (defScope st_Ranking_below) .none kV_Ranking_below dc_Ranking_below pm_Ranking_below an_Ranking_below cd_Ranking_below ct_Ranking_below), sl_Ranking_below⟩)
    (c_Ranking_below : PySem.W.codeIn K cd_Ranking_below "Ranking.below" = true)
    (k_Ranking_below : PySem.W.keepIn K (.ref f_Ranking_below) = true)
    (a_Ranking_place : PySem.W.findIn K (.ref C_Ranking) "place" = some (some (.ref f_Ranking_place)))
    (i_Ranking_place : PySem.W.isFn K (.ref f_Ranking_place) = true)
    (l_Ranking_place : K.lookup f_Ranking_place = some ⟨oc_Ranking_place, od_Ranking_place, .func (PySem.W.fnOf "place" "Ranking.place" (defArgs st_Ranking_place) (defBody st_Ranking_place) (defScope st_Ranking_place) .none kV_Ranking_place dc_Ranking_place pm_Ranking_place an_Ranking_place cd_Ranking_place ct_Ranking_place), sl_Ranking_place⟩)
    (c_Ranking_place : PySem.W.codeIn K cd_Ranking_place "Ranking.place" = true)
    (k_Ranking_place : PySem.W.keepIn K (.ref f_Ranking_place) = true)
    (a_Ranking_without : PySem.W.findIn K (.ref C_Ranking) "without" = some (some (.ref f_Ranking_without)))
    (i_Ranking_without : PySem.W.isFn K (.ref f_Ranking_without) = true)
    (l_Ranking_without : K.lookup f_Ranking_without = some ⟨oc_Ranking_without, od_Ranking_without, .func (PySem.W.fnOf "without" "Ranking.without" (defArgs st_Ranking_without) (defBody st_Ranking_without) (defScope st_Ranking_without) .none kV_Ranking_without dc_Ranking_without pm_Ranking_without an_Ranking_without cd_Ranking_without ct_Ranking_without), sl_Ranking_without⟩)
    (c_Ranking_without : PySem.W.codeIn K cd_Ranking_without "Ranking.without" = true)
    (k_Ranking_without : PySem.W.keepIn K (.ref f_Ranking_without) = true)
    (a_RankingD_getitemD : PySem.W.findIn K (.ref C_Ranking) "__getitem__" = some (some (.ref f_RankingD_getitemD)))
    (i_RankingD_getitemD : PySem.W.isFn K (.ref f_RankingD_getitemD) = true)
    (fi_RankingD_getitemD : PySem.W.fnIn K f_RankingD_getitemD = true)
    (l_RankingD_getitemD : K.lookup f_RankingD_getitemD = some ⟨oc_RankingD_getitemD, od_RankingD_getitemD, .func (PySem.W.fnOf "__getitem__" "Ranking.__getitem__" (defArgs st_RankingD_getitemD) (defBody st_RankingD_getitemD) (defScope st_RankingD_getitemD) .none kV_RankingD_getitemD dc_RankingD_getitemD pm_RankingD_getitemD an_RankingD_getitemD cd_RankingD_getitemD ct_RankingD_getitemD), sl_RankingD_getitemD⟩)
    (c_RankingD_getitemD : PySem.W.codeIn K cd_RankingD_getitemD "Ranking.__getitem__" = true)
    (k_RankingD_getitemD : PySem.W.keepIn K (.ref f_RankingD_getitemD) = true)
    (a_InvalidIndexD_initD : PySem.W.findIn K (.ref E_InvalidIndex) "__init__" = some (some (.ref f_InvalidIndexD_initD)))
    (ti_InvalidIndexD_initD : PySem.W.typeIn K (.ref f_InvalidIndexD_initD) = some (.type "function"))
    (l_InvalidIndexD_initD : K.lookup f_InvalidIndexD_initD = some ⟨oc_InvalidIndexD_initD, od_InvalidIndexD_initD, .func (PySem.W.fnOf "__init__" "InvalidIndex.__init__" (defArgs st_InvalidIndexD_initD) (defBody st_InvalidIndexD_initD) (defScope st_InvalidIndexD_initD) .none kV_InvalidIndexD_initD dc_InvalidIndexD_initD pm_InvalidIndexD_initD an_InvalidIndexD_initD cd_InvalidIndexD_initD ct_InvalidIndexD_initD), sl_InvalidIndexD_initD⟩)
    (c_InvalidIndexD_initD : PySem.W.codeIn K cd_InvalidIndexD_initD "InvalidIndex.__init__" = true)
    (k_InvalidIndexD_initD : PySem.W.keepIn K (.ref f_InvalidIndexD_initD) = true)
    (a_InvalidRowD_initD : PySem.W.findIn K (.ref E_InvalidRow) "__init__" = some (some (.ref f_InvalidRowD_initD)))
    (ti_InvalidRowD_initD : PySem.W.typeIn K (.ref f_InvalidRowD_initD) = some (.type "function"))
    (l_InvalidRowD_initD : K.lookup f_InvalidRowD_initD = some ⟨oc_InvalidRowD_initD, od_InvalidRowD_initD, .func (PySem.W.fnOf "__init__" "InvalidRow.__init__" (defArgs st_InvalidRowD_initD) (defBody st_InvalidRowD_initD) (defScope st_InvalidRowD_initD) .none kV_InvalidRowD_initD dc_InvalidRowD_initD pm_InvalidRowD_initD an_InvalidRowD_initD cd_InvalidRowD_initD ct_InvalidRowD_initD), sl_InvalidRowD_initD⟩)
    (c_InvalidRowD_initD : PySem.W.codeIn K cd_InvalidRowD_initD "InvalidRow.__init__" = true)
    (k_InvalidRowD_initD : PySem.W.keepIn K (.ref f_InvalidRowD_initD) = true)
    (a_InvalidMenuD_initD : PySem.W.findIn K (.ref E_InvalidMenu) "__init__" = some (some (.ref f_InvalidMenuD_initD)))
    (ti_InvalidMenuD_initD : PySem.W.typeIn K (.ref f_InvalidMenuD_initD) = some (.type "function"))
    (l_InvalidMenuD_initD : K.lookup f_InvalidMenuD_initD = some ⟨oc_InvalidMenuD_initD, od_InvalidMenuD_initD, .func (PySem.W.fnOf "__init__" "InvalidMenu.__init__" (defArgs st_InvalidMenuD_initD) (defBody st_InvalidMenuD_initD) (defScope st_InvalidMenuD_initD) .none kV_InvalidMenuD_initD dc_InvalidMenuD_initD pm_InvalidMenuD_initD an_InvalidMenuD_initD cd_InvalidMenuD_initD ct_InvalidMenuD_initD), sl_InvalidMenuD_initD⟩)
    (c_InvalidMenuD_initD : PySem.W.codeIn K cd_InvalidMenuD_initD "InvalidMenu.__init__" = true)
    (k_InvalidMenuD_initD : PySem.W.keepIn K (.ref f_InvalidMenuD_initD) = true)
    (a_UnknownThingD_initD : PySem.W.findIn K (.ref E_UnknownThing) "__init__" = some (some (.ref f_UnknownThingD_initD)))
    (ti_UnknownThingD_initD : PySem.W.typeIn K (.ref f_UnknownThingD_initD) = some (.type "function"))
    (l_UnknownThingD_initD : K.lookup f_UnknownThingD_initD = some ⟨oc_UnknownThingD_initD, od_UnknownThingD_initD, .func (PySem.W.fnOf "__init__" "UnknownThing.__init__" (defArgs st_UnknownThingD_initD) (defBody st_UnknownThingD_initD) (defScope st_UnknownThingD_initD) .none kV_UnknownThingD_initD dc_UnknownThingD_initD pm_UnknownThingD_initD an_UnknownThingD_initD cd_UnknownThingD_initD ct_UnknownThingD_initD), sl_UnknownThingD_initD⟩)
    (c_UnknownThingD_initD : PySem.W.codeIn K cd_UnknownThingD_initD "UnknownThing.__init__" = true)
    (k_UnknownThingD_initD : PySem.W.keepIn K (.ref f_UnknownThingD_initD) = true)
    (a_l_purse : PySem.W.nsIn K mainGlobals "_law_purse" = some (some (.ref f_l_purse)))
    (l_l_purse : K.lookup f_l_purse = some ⟨oc_l_purse, od_l_purse, .func (PySem.W.fnOf "_law_purse" "_law_purse" (defArgs st_l_purse) (defBody st_l_purse) (defScope st_l_purse) .none kV_l_purse dc_l_purse pm_l_purse an_l_purse cd_l_purse ct_l_purse), sl_l_purse⟩)
    (c_l_purse : PySem.W.codeIn K cd_l_purse "_law_purse" = true)
    (k_l_purse : PySem.W.keepIn K (.ref f_l_purse) = true)
    (a_l_draw : PySem.W.nsIn K mainGlobals "_law_draw" = some (some (.ref f_l_draw)))
    (l_l_draw : K.lookup f_l_draw = some ⟨oc_l_draw, od_l_draw, .func (PySem.W.fnOf "_law_draw" "_law_draw" (defArgs st_l_draw) (defBody st_l_draw) (defScope st_l_draw) .none kV_l_draw dc_l_draw pm_l_draw an_l_draw cd_l_draw ct_l_draw), sl_l_draw⟩)
    (c_l_draw : PySem.W.codeIn K cd_l_draw "_law_draw" = true)
    (k_l_draw : PySem.W.keepIn K (.ref f_l_draw) = true)
    (a_l_things : PySem.W.nsIn K mainGlobals "_law_things" = some (some (.ref f_l_things)))
    (l_l_things : K.lookup f_l_things = some ⟨oc_l_things, od_l_things, .func (PySem.W.fnOf "_law_things" "_law_things" (defArgs st_l_things) (defBody st_l_things) (defScope st_l_things) .none kV_l_things dc_l_things pm_l_things an_l_things cd_l_things ct_l_things), sl_l_things⟩)
    (c_l_things : PySem.W.codeIn K cd_l_things "_law_things" = true)
    (k_l_things : PySem.W.keepIn K (.ref f_l_things) = true)
    (a_l_order : PySem.W.nsIn K mainGlobals "_law_order" = some (some (.ref f_l_order)))
    (l_l_order : K.lookup f_l_order = some ⟨oc_l_order, od_l_order, .func (PySem.W.fnOf "_law_order" "_law_order" (defArgs st_l_order) (defBody st_l_order) (defScope st_l_order) .none kV_l_order dc_l_order pm_l_order an_l_order cd_l_order ct_l_order), sl_l_order⟩)
    (c_l_order : PySem.W.codeIn K cd_l_order "_law_order" = true)
    (k_l_order : PySem.W.keepIn K (.ref f_l_order) = true)
    (a_l_sort : PySem.W.nsIn K mainGlobals "_law_sort" = some (some (.ref f_l_sort)))
    (l_l_sort : K.lookup f_l_sort = some ⟨oc_l_sort, od_l_sort, .func (PySem.W.fnOf "_law_sort" "_law_sort" (defArgs st_l_sort) (defBody st_l_sort) (defScope st_l_sort) .none kV_l_sort dc_l_sort pm_l_sort an_l_sort cd_l_sort ct_l_sort), sl_l_sort⟩)
    (c_l_sort : PySem.W.codeIn K cd_l_sort "_law_sort" = true)
    (k_l_sort : PySem.W.keepIn K (.ref f_l_sort) = true)
    (a_l_attribute : PySem.W.nsIn K mainGlobals "_law_attribute" = some (some (.ref f_l_attribute)))
    (l_l_attribute : K.lookup f_l_attribute = some ⟨oc_l_attribute, od_l_attribute, .func (PySem.W.fnOf "_law_attribute" "_law_attribute" (defArgs st_l_attribute) (defBody st_l_attribute) (defScope st_l_attribute) .none kV_l_attribute dc_l_attribute pm_l_attribute an_l_attribute cd_l_attribute ct_l_attribute), sl_l_attribute⟩)
    (c_l_attribute : PySem.W.codeIn K cd_l_attribute "_law_attribute" = true)
    (k_l_attribute : PySem.W.keepIn K (.ref f_l_attribute) = true)
    (a_l_told : PySem.W.nsIn K mainGlobals "_law_told" = some (some (.ref f_l_told)))
    (l_l_told : K.lookup f_l_told = some ⟨oc_l_told, od_l_told, .func (PySem.W.fnOf "_law_told" "_law_told" (defArgs st_l_told) (defBody st_l_told) (defScope st_l_told) .none kV_l_told dc_l_told pm_l_told an_l_told cd_l_told ct_l_told), sl_l_told⟩)
    (c_l_told : PySem.W.codeIn K cd_l_told "_law_told" = true)
    (k_l_told : PySem.W.keepIn K (.ref f_l_told) = true)
    (a_l_off : PySem.W.nsIn K mainGlobals "_law_off" = some (some (.ref f_l_off)))
    (l_l_off : K.lookup f_l_off = some ⟨oc_l_off, od_l_off, .func (PySem.W.fnOf "_law_off" "_law_off" (defArgs st_l_off) (defBody st_l_off) (defScope st_l_off) .none kV_l_off dc_l_off pm_l_off an_l_off cd_l_off ct_l_off), sl_l_off⟩)
    (c_l_off : PySem.W.codeIn K cd_l_off "_law_off" = true)
    (k_l_off : PySem.W.keepIn K (.ref f_l_off) = true)
    (a_l_bent_menu : PySem.W.nsIn K mainGlobals "_law_bent_menu" = some (some (.ref f_l_bent_menu)))
    (l_l_bent_menu : K.lookup f_l_bent_menu = some ⟨oc_l_bent_menu, od_l_bent_menu, .func (PySem.W.fnOf "_law_bent_menu" "_law_bent_menu" (defArgs st_l_bent_menu) (defBody st_l_bent_menu) (defScope st_l_bent_menu) .none kV_l_bent_menu dc_l_bent_menu pm_l_bent_menu an_l_bent_menu cd_l_bent_menu ct_l_bent_menu), sl_l_bent_menu⟩)
    (c_l_bent_menu : PySem.W.codeIn K cd_l_bent_menu "_law_bent_menu" = true)
    (k_l_bent_menu : PySem.W.keepIn K (.ref f_l_bent_menu) = true)
    (a_l_menu_right : PySem.W.nsIn K mainGlobals "_law_menu_right" = some (some (.ref f_l_menu_right)))
    (l_l_menu_right : K.lookup f_l_menu_right = some ⟨oc_l_menu_right, od_l_menu_right, .func (PySem.W.fnOf "_law_menu_right" "_law_menu_right" (defArgs st_l_menu_right) (defBody st_l_menu_right) (defScope st_l_menu_right) .none kV_l_menu_right dc_l_menu_right pm_l_menu_right an_l_menu_right (.ref cc_l_menu_right) ct_l_menu_right), sl_l_menu_right⟩)
    (c_l_menu_right : PySem.W.codeIn K (.ref cc_l_menu_right) "_law_menu_right" = true)
    (tb_l_menu_right : K.lookup cc_l_menu_right = some ⟨.type "code", cod_l_menu_right, .fields cvs_l_menu_right, csl_l_menu_right⟩)
    (tp_l_menu_right : cvs_l_menu_right[11]? = some (.ref pp_l_menu_right))
    (tn_l_menu_right : K.lookup pp_l_menu_right = none)
    (th_l_menu_right : codeOk cvs_l_menu_right cc_l_menu_right pp_l_menu_right = true)
    (k_l_menu_right : PySem.W.keepIn K (.ref f_l_menu_right) = true)
    (a_l_thing_right : PySem.W.nsIn K mainGlobals "_law_thing_right" = some (some (.ref f_l_thing_right)))
    (l_l_thing_right : K.lookup f_l_thing_right = some ⟨oc_l_thing_right, od_l_thing_right, .func (PySem.W.fnOf "_law_thing_right" "_law_thing_right" (defArgs st_l_thing_right) (defBody st_l_thing_right) (defScope st_l_thing_right) .none kV_l_thing_right dc_l_thing_right pm_l_thing_right an_l_thing_right (.ref cc_l_thing_right) ct_l_thing_right), sl_l_thing_right⟩)
    (c_l_thing_right : PySem.W.codeIn K (.ref cc_l_thing_right) "_law_thing_right" = true)
    (tb_l_thing_right : K.lookup cc_l_thing_right = some ⟨.type "code", cod_l_thing_right, .fields cvs_l_thing_right, csl_l_thing_right⟩)
    (tp_l_thing_right : cvs_l_thing_right[11]? = some (.ref pp_l_thing_right))
    (tn_l_thing_right : K.lookup pp_l_thing_right = none)
    (th_l_thing_right : codeOk cvs_l_thing_right cc_l_thing_right pp_l_thing_right = true)
    (k_l_thing_right : PySem.W.keepIn K (.ref f_l_thing_right) = true)
    (a_l_right : PySem.W.nsIn K mainGlobals "_law_right" = some (some (.ref f_l_right)))
    (l_l_right : K.lookup f_l_right = some ⟨oc_l_right, od_l_right, .func (PySem.W.fnOf "_law_right" "_law_right" (defArgs st_l_right) (defBody st_l_right) (defScope st_l_right) .none kV_l_right dc_l_right pm_l_right an_l_right (.ref cc_l_right) ct_l_right), sl_l_right⟩)
    (c_l_right : PySem.W.codeIn K (.ref cc_l_right) "_law_right" = true)
    (tb_l_right : K.lookup cc_l_right = some ⟨.type "code", cod_l_right, .fields cvs_l_right, csl_l_right⟩)
    (tp_l_right : cvs_l_right[11]? = some (.ref pp_l_right))
    (tn_l_right : K.lookup pp_l_right = none)
    (th_l_right : codeOk cvs_l_right cc_l_right pp_l_right = true)
    (k_l_right : PySem.W.keepIn K (.ref f_l_right) = true)
    (a_law : PySem.W.nsIn K mainGlobals "law" = some (some (.ref f_law)))
    (l_law : K.lookup f_law = some ⟨oc_law, od_law, .func (PySem.W.fnOf "law" "law" (defArgs st_law) (defBody st_law) (defScope st_law) .none kV_law dc_law pm_law an_law cd_law ct_law), sl_law⟩)
    (c_law : PySem.W.codeIn K cd_law "law" = true)
    (k_law : PySem.W.keepIn K (.ref f_law) = true)
    (pin_l_menu_right : pp_l_menu_right ∈ ts)
    (pin_l_thing_right : pp_l_thing_right ∈ ts)
    (pin_l_right : pp_l_right ∈ ts)
    (pne_l_menu_right_l_thing_right : pp_l_menu_right ≠ pp_l_thing_right)
    (pne_l_menu_right_l_right : pp_l_menu_right ≠ pp_l_right)
    (pne_l_thing_right_l_right : pp_l_thing_right ≠ pp_l_right)
    (v_MOST_THINGS : PySem.W.nsIn K mainGlobals "MOST_THINGS" = some (some (.int 10 t_MOST_THINGS)))
    (v_LETTERS : PySem.W.nsIn K mainGlobals "LETTERS" = some (some (.str "abcdefghijklmnopqrstuvwxyz" t_LETTERS)))
    (v_DIGITS : PySem.W.nsIn K mainGlobals "DIGITS" = some (some (.str "0123456789" t_DIGITS)))
    (v_LONGEST_NAME : PySem.W.nsIn K mainGlobals "LONGEST_NAME" = some (some (.int 8 t_LONGEST_NAME)))
    (z_len : PySem.W.nsIn K mainGlobals "len" = some none)
    (z_isinstance : PySem.W.nsIn K mainGlobals "isinstance" = some none)
    (z_all : PySem.W.nsIn K mainGlobals "all" = some none)
    (z_enumerate : PySem.W.nsIn K mainGlobals "enumerate" = some none)
    (z_tuple : PySem.W.nsIn K mainGlobals "tuple" = some none)
    (z_sorted : PySem.W.nsIn K mainGlobals "sorted" = some none)
    (z_abs : PySem.W.nsIn K mainGlobals "abs" = some none)
    (z_int : PySem.W.nsIn K mainGlobals "int" = some none)
    (z_divmod : PySem.W.nsIn K mainGlobals "divmod" = some none)
    (z_range : PySem.W.nsIn K mainGlobals "range" = some none)
    (z_list : PySem.W.nsIn K mainGlobals "list" = some none)
    (z_repr : PySem.W.nsIn K mainGlobals "repr" = some none)
    (z_max : PySem.W.nsIn K mainGlobals "max" = some none)
    (z_min : PySem.W.nsIn K mainGlobals "min" = some none)
    (z_str : PySem.W.nsIn K mainGlobals "str" = some none)
    (z_bool : PySem.W.nsIn K mainGlobals "bool" = some none) : ∃ T : Tx K mg, T.a_law = fa ∧ T.P_l_menu_right ∈ ts ∧ T.P_l_thing_right ∈ ts ∧ T.P_l_right ∈ ts := by
  have e := hfa.symm.trans (PySem.W.mg_of X G a_law)
  cases e
  exact ⟨{
    E_WrongValue := E_WrongValue
    g_WrongValue := PySem.W.mg_of X G eg_WrongValue
    E_InvalidText := E_InvalidText
    g_InvalidText := PySem.W.mg_of X G eg_InvalidText
    E_InvalidIndex := E_InvalidIndex
    g_InvalidIndex := PySem.W.mg_of X G eg_InvalidIndex
    E_NotARanking := E_NotARanking
    g_NotARanking := PySem.W.mg_of X G eg_NotARanking
    E_NotAHouse := E_NotAHouse
    g_NotAHouse := PySem.W.mg_of X G eg_NotAHouse
    E_OtherThings := E_OtherThings
    g_OtherThings := PySem.W.mg_of X G eg_OtherThings
    E_InvalidRow := E_InvalidRow
    g_InvalidRow := PySem.W.mg_of X G eg_InvalidRow
    E_InvalidMenu := E_InvalidMenu
    g_InvalidMenu := PySem.W.mg_of X G eg_InvalidMenu
    E_InvalidRankings := E_InvalidRankings
    g_InvalidRankings := PySem.W.mg_of X G eg_InvalidRankings
    E_WrongName := E_WrongName
    g_WrongName := PySem.W.mg_of X G eg_WrongName
    E_UnknownThing := E_UnknownThing
    g_UnknownThing := PySem.W.mg_of X G eg_UnknownThing
    E_NoAnswer := E_NoAnswer
    g_NoAnswer := PySem.W.mg_of X G eg_NoAnswer
    E_TooMany := E_TooMany
    g_TooMany := PySem.W.mg_of X G eg_TooMany
    E_NoHouse := E_NoHouse
    g_NoHouse := PySem.W.mg_of X G eg_NoHouse
    ox_InvalidIndex := ⟨⟨_, _, _, _, _, _, _, _, _, _, _, _, _, _, _, xl_InvalidIndex, xr_InvalidIndex⟩, xs_InvalidIndex, xx_InvalidIndex, xt_InvalidIndex, xk_InvalidIndex⟩
    ek_InvalidIndex := ⟨xcl_InvalidIndex, xga_InvalidIndex, xgg_InvalidIndex, xx_InvalidIndex, xhd_InvalidIndex, xca_InvalidIndex, xcb_InvalidIndex, xcc_InvalidIndex, xob_InvalidIndex⟩
    no_InvalidIndex_given := xn_InvalidIndex
    em_InvalidIndex := xem_InvalidIndex
    kf_InvalidIndex_WrongValue := kf_InvalidIndex_WrongValue
    kf_InvalidIndex_InvalidText := kf_InvalidIndex_InvalidText
    kf_InvalidIndex_InvalidIndex := kf_InvalidIndex_InvalidIndex
    kf_InvalidIndex_NotARanking := kf_InvalidIndex_NotARanking
    kf_InvalidIndex_NotAHouse := kf_InvalidIndex_NotAHouse
    kf_InvalidIndex_OtherThings := kf_InvalidIndex_OtherThings
    kf_InvalidIndex_InvalidRow := kf_InvalidIndex_InvalidRow
    kf_InvalidIndex_InvalidMenu := kf_InvalidIndex_InvalidMenu
    kf_InvalidIndex_InvalidRankings := kf_InvalidIndex_InvalidRankings
    kf_InvalidIndex_WrongName := kf_InvalidIndex_WrongName
    kf_InvalidIndex_UnknownThing := kf_InvalidIndex_UnknownThing
    kf_InvalidIndex_NoAnswer := kf_InvalidIndex_NoAnswer
    kf_InvalidIndex_TooMany := kf_InvalidIndex_TooMany
    kf_InvalidIndex_NoHouse := kf_InvalidIndex_NoHouse
    ox_InvalidRow := ⟨⟨_, _, _, _, _, _, _, _, _, _, _, _, _, _, _, xl_InvalidRow, xr_InvalidRow⟩, xs_InvalidRow, xx_InvalidRow, xt_InvalidRow, xk_InvalidRow⟩
    ek_InvalidRow := ⟨xcl_InvalidRow, xga_InvalidRow, xgg_InvalidRow, xx_InvalidRow, xhd_InvalidRow, xca_InvalidRow, xcb_InvalidRow, xcc_InvalidRow, xob_InvalidRow⟩
    no_InvalidRow_index := xn_InvalidRow
    em_InvalidRow := xem_InvalidRow
    kf_InvalidRow_WrongValue := kf_InvalidRow_WrongValue
    kf_InvalidRow_InvalidText := kf_InvalidRow_InvalidText
    kf_InvalidRow_InvalidIndex := kf_InvalidRow_InvalidIndex
    kf_InvalidRow_NotARanking := kf_InvalidRow_NotARanking
    kf_InvalidRow_NotAHouse := kf_InvalidRow_NotAHouse
    kf_InvalidRow_OtherThings := kf_InvalidRow_OtherThings
    kf_InvalidRow_InvalidRow := kf_InvalidRow_InvalidRow
    kf_InvalidRow_InvalidMenu := kf_InvalidRow_InvalidMenu
    kf_InvalidRow_InvalidRankings := kf_InvalidRow_InvalidRankings
    kf_InvalidRow_WrongName := kf_InvalidRow_WrongName
    kf_InvalidRow_UnknownThing := kf_InvalidRow_UnknownThing
    kf_InvalidRow_NoAnswer := kf_InvalidRow_NoAnswer
    kf_InvalidRow_TooMany := kf_InvalidRow_TooMany
    kf_InvalidRow_NoHouse := kf_InvalidRow_NoHouse
    ox_InvalidMenu := ⟨⟨_, _, _, _, _, _, _, _, _, _, _, _, _, _, _, xl_InvalidMenu, xr_InvalidMenu⟩, xs_InvalidMenu, xx_InvalidMenu, xt_InvalidMenu, xk_InvalidMenu⟩
    ek_InvalidMenu := ⟨xcl_InvalidMenu, xga_InvalidMenu, xgg_InvalidMenu, xx_InvalidMenu, xhd_InvalidMenu, xca_InvalidMenu, xcb_InvalidMenu, xcc_InvalidMenu, xob_InvalidMenu⟩
    no_InvalidMenu_index := xn_InvalidMenu
    em_InvalidMenu := xem_InvalidMenu
    kf_InvalidMenu_WrongValue := kf_InvalidMenu_WrongValue
    kf_InvalidMenu_InvalidText := kf_InvalidMenu_InvalidText
    kf_InvalidMenu_InvalidIndex := kf_InvalidMenu_InvalidIndex
    kf_InvalidMenu_NotARanking := kf_InvalidMenu_NotARanking
    kf_InvalidMenu_NotAHouse := kf_InvalidMenu_NotAHouse
    kf_InvalidMenu_OtherThings := kf_InvalidMenu_OtherThings
    kf_InvalidMenu_InvalidRow := kf_InvalidMenu_InvalidRow
    kf_InvalidMenu_InvalidMenu := kf_InvalidMenu_InvalidMenu
    kf_InvalidMenu_InvalidRankings := kf_InvalidMenu_InvalidRankings
    kf_InvalidMenu_WrongName := kf_InvalidMenu_WrongName
    kf_InvalidMenu_UnknownThing := kf_InvalidMenu_UnknownThing
    kf_InvalidMenu_NoAnswer := kf_InvalidMenu_NoAnswer
    kf_InvalidMenu_TooMany := kf_InvalidMenu_TooMany
    kf_InvalidMenu_NoHouse := kf_InvalidMenu_NoHouse
    ox_UnknownThing := ⟨⟨_, _, _, _, _, _, _, _, _, _, _, _, _, _, _, xl_UnknownThing, xr_UnknownThing⟩, PySem.F.excBase_LookupError, PySem.F.store_LookupError, xs_UnknownThing, xx_UnknownThing, xt_UnknownThing, xk_UnknownThing⟩
    ek_UnknownThing := ⟨xcl_UnknownThing, xga_UnknownThing, xgg_UnknownThing, xx_UnknownThing, xhd_UnknownThing, xca_UnknownThing, xcb_UnknownThing, xcc_UnknownThing, xob_UnknownThing⟩
    no_UnknownThing_given := xn_UnknownThing
    em_UnknownThing := xem_UnknownThing
    kf_UnknownThing_WrongValue := kf_UnknownThing_WrongValue
    kf_UnknownThing_InvalidText := kf_UnknownThing_InvalidText
    kf_UnknownThing_InvalidIndex := kf_UnknownThing_InvalidIndex
    kf_UnknownThing_NotARanking := kf_UnknownThing_NotARanking
    kf_UnknownThing_NotAHouse := kf_UnknownThing_NotAHouse
    kf_UnknownThing_OtherThings := kf_UnknownThing_OtherThings
    kf_UnknownThing_InvalidRow := kf_UnknownThing_InvalidRow
    kf_UnknownThing_InvalidMenu := kf_UnknownThing_InvalidMenu
    kf_UnknownThing_InvalidRankings := kf_UnknownThing_InvalidRankings
    kf_UnknownThing_WrongName := kf_UnknownThing_WrongName
    kf_UnknownThing_UnknownThing := kf_UnknownThing_UnknownThing
    kf_UnknownThing_NoAnswer := kf_UnknownThing_NoAnswer
    kf_UnknownThing_TooMany := kf_UnknownThing_TooMany
    kf_UnknownThing_NoHouse := kf_UnknownThing_NoHouse
    C := C_Ranking
    cl := ⟨cp_Ranking, ch_Ranking, co_Ranking, cs_Ranking⟩
    g_Ranking := PySem.W.mg_of X G cg_Ranking
    ne := cne_Ranking
    ob := cob_Ranking
    ty := fun e => .base (.ins e ⟨cp_Ranking, ch_Ranking, co_Ranking, cs_Ranking⟩ cca_Ranking ccb_Ranking ccc_Ranking cob_Ranking)
    ki_tuple := cki_Ranking_tuple
    ki_str := cki_Ranking_str
    ki_int := cki_Ranking_int
    ki_bool := cki_Ranking_bool
    nobool := cbo_Ranking
    fm := cfm_Ranking
    crd := ⟨crd_Ranking, cga_Ranking⟩
    cty := cty_Ranking
    no__row := cn_Ranking__row
    no__things := cn_Ranking__things
    a_is_index := f_is_index
    fd_is_index := _
    F_is_index := fun_mk (st := st_is_index) l_is_index c_is_index k_is_index
    b_is_index := (fun_mk (st := st_is_index) l_is_index c_is_index k_is_index).binds (ps := ["value", "many"]) fun _ _ _ _ _ _ us hl => match us, hl with | [_, _], _ => rfl
    g_is_index := PySem.W.mg_of X G a_is_index
    a_is_name := f_is_name
    fd_is_name := _
    F_is_name := fun_mk (st := st_is_name) l_is_name c_is_name k_is_name
    b_is_name := (fun_mk (st := st_is_name) l_is_name c_is_name k_is_name).binds (ps := ["value"]) fun _ _ _ _ _ _ us hl => match us, hl with | [_], _ => rfl
    g_is_name := PySem.W.mg_of X G a_is_name
    a_is_filled_tuple := f_is_filled_tuple
    fd_is_filled_tuple := _
    F_is_filled_tuple := fun_mk (st := st_is_filled_tuple) l_is_filled_tuple c_is_filled_tuple k_is_filled_tuple
    b_is_filled_tuple := (fun_mk (st := st_is_filled_tuple) l_is_filled_tuple c_is_filled_tuple k_is_filled_tuple).binds (ps := ["value"]) fun _ _ _ _ _ _ us hl => match us, hl with | [_], _ => rfl
    g_is_filled_tuple := PySem.W.mg_of X G a_is_filled_tuple
    a_is_one_of := f_is_one_of
    fd_is_one_of := _
    F_is_one_of := fun_mk (st := st_is_one_of) l_is_one_of c_is_one_of k_is_one_of
    b_is_one_of := (fun_mk (st := st_is_one_of) l_is_one_of c_is_one_of k_is_one_of).binds (ps := ["value", "things"]) fun _ _ _ _ _ _ us hl => match us, hl with | [_, _], _ => rfl
    g_is_one_of := PySem.W.mg_of X G a_is_one_of
    a_first_wrong_in_row := f_first_wrong_in_row
    fd_first_wrong_in_row := _
    F_first_wrong_in_row := fun_mk (st := st_first_wrong_in_row) l_first_wrong_in_row c_first_wrong_in_row k_first_wrong_in_row
    b_first_wrong_in_row := (fun_mk (st := st_first_wrong_in_row) l_first_wrong_in_row c_first_wrong_in_row k_first_wrong_in_row).binds (ps := ["row"]) fun _ _ _ _ _ _ us hl => match us, hl with | [_], _ => rfl
    g_first_wrong_in_row := PySem.W.mg_of X G a_first_wrong_in_row
    a_first_wrong_on_menu := f_first_wrong_on_menu
    fd_first_wrong_on_menu := _
    F_first_wrong_on_menu := fun_mk (st := st_first_wrong_on_menu) l_first_wrong_on_menu c_first_wrong_on_menu k_first_wrong_on_menu
    b_first_wrong_on_menu := (fun_mk (st := st_first_wrong_on_menu) l_first_wrong_on_menu c_first_wrong_on_menu k_first_wrong_on_menu).binds (ps := ["menu", "things"]) fun _ _ _ _ _ _ us hl => match us, hl with | [_, _], _ => rfl
    g_first_wrong_on_menu := PySem.W.mg_of X G a_first_wrong_on_menu
    a_index_of := f_index_of
    fd_index_of := _
    F_index_of := fun_mk (st := st_index_of) l_index_of c_index_of k_index_of
    b_index_of := (fun_mk (st := st_index_of) l_index_of c_index_of k_index_of).binds (ps := ["name", "names"]) fun _ _ _ _ _ _ us hl => match us, hl with | [_, _], _ => rfl
    g_index_of := PySem.W.mg_of X G a_index_of
    a_check_row := f_check_row
    fd_check_row := _
    F_check_row := fun_mk (st := st_check_row) l_check_row c_check_row k_check_row
    b_check_row := (fun_mk (st := st_check_row) l_check_row c_check_row k_check_row).binds (ps := ["row"]) fun _ _ _ _ _ _ us hl => match us, hl with | [_], _ => rfl
    g_check_row := PySem.W.mg_of X G a_check_row
    a_check_menu := f_check_menu
    fd_check_menu := _
    F_check_menu := fun_mk (st := st_check_menu) l_check_menu c_check_menu k_check_menu
    b_check_menu := (fun_mk (st := st_check_menu) l_check_menu c_check_menu k_check_menu).binds (ps := ["menu", "things"]) fun _ _ _ _ _ _ us hl => match us, hl with | [_, _], _ => rfl
    g_check_menu := PySem.W.mg_of X G a_check_menu
    a_check_thing := f_check_thing
    fd_check_thing := _
    F_check_thing := fun_mk (st := st_check_thing) l_check_thing c_check_thing k_check_thing
    b_check_thing := (fun_mk (st := st_check_thing) l_check_thing c_check_thing k_check_thing).binds (ps := ["thing", "things"]) fun _ _ _ _ _ _ us hl => match us, hl with | [_, _], _ => rfl
    g_check_thing := PySem.W.mg_of X G a_check_thing
    a_RankingD_initD := f_RankingD_initD
    fd_RankingD_initD := _
    F_RankingD_initD := fun_mk (st := st_RankingD_initD) l_RankingD_initD c_RankingD_initD k_RankingD_initD
    b_RankingD_initD := (fun_mk (st := st_RankingD_initD) l_RankingD_initD c_RankingD_initD k_RankingD_initD).binds (ps := ["self", "row"]) fun _ _ _ _ _ _ us hl => match us, hl with | [_, _], _ => rfl
    mkc := ⟨cm_Ranking, a_RankingD_initD, i_RankingD_initD, ck_Ranking⟩
    a_Ranking_row := f_Ranking_row
    fd_Ranking_row := _
    F_Ranking_row := fun_mk (st := st_Ranking_row) l_Ranking_row c_Ranking_row k_Ranking_row
    b_Ranking_row := (fun_mk (st := st_Ranking_row) l_Ranking_row c_Ranking_row k_Ranking_row).binds (ps := ["self"]) fun _ _ _ _ _ _ us hl => match us, hl with | [_], _ => rfl
    q_Ranking_row := q_Ranking_row
    p_row := ⟨a_Ranking_row, pg_Ranking_row, pt_Ranking_row, ⟨_, pr_Ranking_row⟩⟩
    a_Ranking_best := f_Ranking_best
    fd_Ranking_best := _
    F_Ranking_best := fun_mk (st := st_Ranking_best) l_Ranking_best c_Ranking_best k_Ranking_best
    b_Ranking_best := (fun_mk (st := st_Ranking_best) l_Ranking_best c_Ranking_best k_Ranking_best).binds (ps := ["self", "menu"]) fun _ _ _ _ _ _ us hl => match us, hl with | [_, _], _ => rfl
    m_Ranking_best := ⟨a_Ranking_best, i_Ranking_best, k_Ranking_best⟩
    a_Ranking_below := f_Ranking_below
    fd_Ranking_below := _
    F_Ranking_below := fun_mk (st := st_Ranking_below) l_Ranking_below c_Ranking_below k_Ranking_below
    b_Ranking_below := (fun_mk (st := st_Ranking_below) l_Ranking_below c_Ranking_below k_Ranking_below).binds (ps := ["self", "thing"]) fun _ _ _ _ _ _ us hl => match us, hl with | [_, _], _ => rfl
    m_Ranking_below := ⟨a_Ranking_below, i_Ranking_below, k_Ranking_below⟩
    a_Ranking_place := f_Ranking_place
    fd_Ranking_place := _
    F_Ranking_place := fun_mk (st := st_Ranking_place) l_Ranking_place c_Ranking_place k_Ranking_place
    b_Ranking_place := (fun_mk (st := st_Ranking_place) l_Ranking_place c_Ranking_place k_Ranking_place).binds (ps := ["self", "thing"]) fun _ _ _ _ _ _ us hl => match us, hl with | [_, _], _ => rfl
    m_Ranking_place := ⟨a_Ranking_place, i_Ranking_place, k_Ranking_place⟩
    a_Ranking_without := f_Ranking_without
    fd_Ranking_without := _
    F_Ranking_without := fun_mk (st := st_Ranking_without) l_Ranking_without c_Ranking_without k_Ranking_without
    bv_Ranking_without := by exact bindV_of (fun _ => rfl) (fun _ _ => rfl) (fun _ _ _ => rfl) (fun _ _ _ _ => rfl) (fun _ _ _ _ _ => rfl) (fun _ _ _ _ _ _ => rfl)
    m_Ranking_without := ⟨a_Ranking_without, i_Ranking_without, k_Ranking_without⟩
    a_RankingD_getitemD := f_RankingD_getitemD
    fd_RankingD_getitemD := _
    F_RankingD_getitemD := fun_mk (st := st_RankingD_getitemD) l_RankingD_getitemD c_RankingD_getitemD k_RankingD_getitemD
    b_RankingD_getitemD := (fun_mk (st := st_RankingD_getitemD) l_RankingD_getitemD c_RankingD_getitemD k_RankingD_getitemD).binds (ps := ["self", "at"]) fun _ _ _ _ _ _ us hl => match us, hl with | [_, _], _ => rfl
    fi_RankingD_getitemD := fi_RankingD_getitemD
    m_RankingD_getitemD := ⟨a_RankingD_getitemD, i_RankingD_getitemD, k_RankingD_getitemD⟩
    a_InvalidIndexD_initD := f_InvalidIndexD_initD
    fd_InvalidIndexD_initD := _
    F_InvalidIndexD_initD := fun_mk (st := st_InvalidIndexD_initD) l_InvalidIndexD_initD c_InvalidIndexD_initD k_InvalidIndexD_initD
    b_InvalidIndexD_initD := (fun_mk (st := st_InvalidIndexD_initD) l_InvalidIndexD_initD c_InvalidIndexD_initD k_InvalidIndexD_initD).binds (ps := ["self", "given"]) fun _ _ _ _ _ _ us hl => match us, hl with | [_, _], _ => rfl
    ic_InvalidIndex := a_InvalidIndexD_initD
    ti_InvalidIndex := ti_InvalidIndexD_initD
    a_InvalidRowD_initD := f_InvalidRowD_initD
    fd_InvalidRowD_initD := _
    F_InvalidRowD_initD := fun_mk (st := st_InvalidRowD_initD) l_InvalidRowD_initD c_InvalidRowD_initD k_InvalidRowD_initD
    b_InvalidRowD_initD := (fun_mk (st := st_InvalidRowD_initD) l_InvalidRowD_initD c_InvalidRowD_initD k_InvalidRowD_initD).binds (ps := ["self", "index"]) fun _ _ _ _ _ _ us hl => match us, hl with | [_, _], _ => rfl
    ic_InvalidRow := a_InvalidRowD_initD
    ti_InvalidRow := ti_InvalidRowD_initD
    a_InvalidMenuD_initD := f_InvalidMenuD_initD
    fd_InvalidMenuD_initD := _
    F_InvalidMenuD_initD := fun_mk (st := st_InvalidMenuD_initD) l_InvalidMenuD_initD c_InvalidMenuD_initD k_InvalidMenuD_initD
    b_InvalidMenuD_initD := (fun_mk (st := st_InvalidMenuD_initD) l_InvalidMenuD_initD c_InvalidMenuD_initD k_InvalidMenuD_initD).binds (ps := ["self", "index"]) fun _ _ _ _ _ _ us hl => match us, hl with | [_, _], _ => rfl
    ic_InvalidMenu := a_InvalidMenuD_initD
    ti_InvalidMenu := ti_InvalidMenuD_initD
    a_UnknownThingD_initD := f_UnknownThingD_initD
    fd_UnknownThingD_initD := _
    F_UnknownThingD_initD := fun_mk (st := st_UnknownThingD_initD) l_UnknownThingD_initD c_UnknownThingD_initD k_UnknownThingD_initD
    b_UnknownThingD_initD := (fun_mk (st := st_UnknownThingD_initD) l_UnknownThingD_initD c_UnknownThingD_initD k_UnknownThingD_initD).binds (ps := ["self", "given"]) fun _ _ _ _ _ _ us hl => match us, hl with | [_, _], _ => rfl
    ic_UnknownThing := a_UnknownThingD_initD
    ti_UnknownThing := ti_UnknownThingD_initD
    a_l_purse := f_l_purse
    fd_l_purse := _
    F_l_purse := fun_mk (st := st_l_purse) l_l_purse c_l_purse k_l_purse
    b_l_purse := (fun_mk (st := st_l_purse) l_l_purse c_l_purse k_l_purse).binds (ps := ["_law_script", "_law_spot"]) fun _ _ _ _ _ _ us hl => match us, hl with | [_, _], _ => rfl
    g_l_purse := PySem.W.mg_of X G a_l_purse
    a_l_draw := f_l_draw
    fd_l_draw := _
    F_l_draw := fun_mk (st := st_l_draw) l_l_draw c_l_draw k_l_draw
    b_l_draw := (fun_mk (st := st_l_draw) l_l_draw c_l_draw k_l_draw).binds (ps := ["_law_purse_here", "_law_many"]) fun _ _ _ _ _ _ us hl => match us, hl with | [_, _], _ => rfl
    g_l_draw := PySem.W.mg_of X G a_l_draw
    a_l_things := f_l_things
    fd_l_things := _
    F_l_things := fun_mk (st := st_l_things) l_l_things c_l_things k_l_things
    b_l_things := (fun_mk (st := st_l_things) l_l_things c_l_things k_l_things).binds (ps := ["_law_purse_here", "_law_many"]) fun _ _ _ _ _ _ us hl => match us, hl with | [_, _], _ => rfl
    g_l_things := PySem.W.mg_of X G a_l_things
    a_l_order := f_l_order
    fd_l_order := _
    F_l_order := fun_mk (st := st_l_order) l_l_order c_l_order k_l_order
    b_l_order := (fun_mk (st := st_l_order) l_l_order c_l_order k_l_order).binds (ps := ["_law_purse_here", "_law_things_here"]) fun _ _ _ _ _ _ us hl => match us, hl with | [_, _], _ => rfl
    g_l_order := PySem.W.mg_of X G a_l_order
    a_l_sort := f_l_sort
    fd_l_sort := _
    F_l_sort := fun_mk (st := st_l_sort) l_l_sort c_l_sort k_l_sort
    b_l_sort := (fun_mk (st := st_l_sort) l_l_sort c_l_sort k_l_sort).binds (ps := ["_law_e"]) fun _ _ _ _ _ _ us hl => match us, hl with | [_], _ => rfl
    g_l_sort := PySem.W.mg_of X G a_l_sort
    a_l_attribute := f_l_attribute
    fd_l_attribute := _
    F_l_attribute := fun_mk (st := st_l_attribute) l_l_attribute c_l_attribute k_l_attribute
    b_l_attribute := (fun_mk (st := st_l_attribute) l_l_attribute c_l_attribute k_l_attribute).binds (ps := ["_law_e", "_law_word"]) fun _ _ _ _ _ _ us hl => match us, hl with | [_, _], _ => rfl
    g_l_attribute := PySem.W.mg_of X G a_l_attribute
    a_l_told := f_l_told
    fd_l_told := _
    F_l_told := fun_mk (st := st_l_told) l_l_told c_l_told k_l_told
    b_l_told := (fun_mk (st := st_l_told) l_l_told c_l_told k_l_told).binds (ps := ["_law_act"]) fun _ _ _ _ _ _ us hl => match us, hl with | [_], _ => rfl
    g_l_told := PySem.W.mg_of X G a_l_told
    a_l_off := f_l_off
    fd_l_off := _
    F_l_off := fun_mk (st := st_l_off) l_l_off c_l_off k_l_off
    b_l_off := (fun_mk (st := st_l_off) l_l_off c_l_off k_l_off).binds (ps := ["_law_menu", "_law_things_here"]) fun _ _ _ _ _ _ us hl => match us, hl with | [_, _], _ => rfl
    g_l_off := PySem.W.mg_of X G a_l_off
    a_l_bent_menu := f_l_bent_menu
    fd_l_bent_menu := _
    F_l_bent_menu := fun_mk (st := st_l_bent_menu) l_l_bent_menu c_l_bent_menu k_l_bent_menu
    b_l_bent_menu := (fun_mk (st := st_l_bent_menu) l_l_bent_menu c_l_bent_menu k_l_bent_menu).binds (ps := ["_law_purse_here", "_law_things_here"]) fun _ _ _ _ _ _ us hl => match us, hl with | [_, _], _ => rfl
    g_l_bent_menu := PySem.W.mg_of X G a_l_bent_menu
    a_l_menu_right := f_l_menu_right
    fd_l_menu_right := _
    F_l_menu_right := fun_mk (st := st_l_menu_right) l_l_menu_right c_l_menu_right k_l_menu_right
    b_l_menu_right := (fun_mk (st := st_l_menu_right) l_l_menu_right c_l_menu_right k_l_menu_right).binds (ps := ["_law_purse_here", "_law_ranking", "_law_things_here"]) fun _ _ _ _ _ _ us hl => match us, hl with | [_, _, _], _ => rfl
    c_l_menu_right := cc_l_menu_right
    P_l_menu_right := pp_l_menu_right
    M_l_menu_right := ⟨_, _, _, _, _, _, _, _, l_l_menu_right, c_l_menu_right, (fun_mk (st := st_l_menu_right) l_l_menu_right c_l_menu_right k_l_menu_right).binds (ps := ["_law_purse_here", "_law_ranking", "_law_things_here"]) fun _ _ _ _ _ _ us hl => match us, hl with | [_, _, _], _ => rfl⟩
    th_l_menu_right := codeHd_of tb_l_menu_right th_l_menu_right
    tn_l_menu_right := tn_l_menu_right
    g_l_menu_right := PySem.W.mg_of X G a_l_menu_right
    a_l_thing_right := f_l_thing_right
    fd_l_thing_right := _
    F_l_thing_right := fun_mk (st := st_l_thing_right) l_l_thing_right c_l_thing_right k_l_thing_right
    b_l_thing_right := (fun_mk (st := st_l_thing_right) l_l_thing_right c_l_thing_right k_l_thing_right).binds (ps := ["_law_purse_here", "_law_ranking", "_law_things_here"]) fun _ _ _ _ _ _ us hl => match us, hl with | [_, _, _], _ => rfl
    c_l_thing_right := cc_l_thing_right
    P_l_thing_right := pp_l_thing_right
    M_l_thing_right := ⟨_, _, _, _, _, _, _, _, l_l_thing_right, c_l_thing_right, (fun_mk (st := st_l_thing_right) l_l_thing_right c_l_thing_right k_l_thing_right).binds (ps := ["_law_purse_here", "_law_ranking", "_law_things_here"]) fun _ _ _ _ _ _ us hl => match us, hl with | [_, _, _], _ => rfl⟩
    th_l_thing_right := codeHd_of tb_l_thing_right th_l_thing_right
    tn_l_thing_right := tn_l_thing_right
    g_l_thing_right := PySem.W.mg_of X G a_l_thing_right
    a_l_right := f_l_right
    fd_l_right := _
    F_l_right := fun_mk (st := st_l_right) l_l_right c_l_right k_l_right
    b_l_right := (fun_mk (st := st_l_right) l_l_right c_l_right k_l_right).binds (ps := ["_law_purse_here"]) fun _ _ _ _ _ _ us hl => match us, hl with | [_], _ => rfl
    c_l_right := cc_l_right
    P_l_right := pp_l_right
    M_l_right := ⟨_, _, _, _, _, _, _, _, l_l_right, c_l_right, (fun_mk (st := st_l_right) l_l_right c_l_right k_l_right).binds (ps := ["_law_purse_here"]) fun _ _ _ _ _ _ us hl => match us, hl with | [_], _ => rfl⟩
    th_l_right := codeHd_of tb_l_right th_l_right
    tn_l_right := tn_l_right
    g_l_right := PySem.W.mg_of X G a_l_right
    a_law := fa
    fd_law := _
    F_law := fun_mk (st := st_law) l_law c_law k_law
    b_law := (fun_mk (st := st_law) l_law c_law k_law).binds (ps := ["_law_script"]) fun _ _ _ _ _ _ us hl => match us, hl with | [_], _ => rfl
    g_law := PySem.W.mg_of X G a_law
    pne_l_menu_right_l_thing_right := pne_l_menu_right_l_thing_right
    pne_l_menu_right_l_right := pne_l_menu_right_l_right
    pne_l_thing_right_l_right := pne_l_thing_right_l_right
    g_MOST_THINGS := ⟨_, PySem.W.mg_of X G v_MOST_THINGS⟩
    g_LETTERS := ⟨_, PySem.W.mg_of X G v_LETTERS⟩
    g_DIGITS := ⟨_, PySem.W.mg_of X G v_DIGITS⟩
    g_LONGEST_NAME := ⟨_, PySem.W.mg_of X G v_LONGEST_NAME⟩
    n_len := PySem.W.mg_none_of X G z_len
    n_isinstance := PySem.W.mg_none_of X G z_isinstance
    n_all := PySem.W.mg_none_of X G z_all
    n_enumerate := PySem.W.mg_none_of X G z_enumerate
    n_tuple := PySem.W.mg_none_of X G z_tuple
    n_sorted := PySem.W.mg_none_of X G z_sorted
    n_abs := PySem.W.mg_none_of X G z_abs
    n_int := PySem.W.mg_none_of X G z_int
    n_divmod := PySem.W.mg_none_of X G z_divmod
    n_range := PySem.W.mg_none_of X G z_range
    n_list := PySem.W.mg_none_of X G z_list
    n_repr := PySem.W.mg_none_of X G z_repr
    n_max := PySem.W.mg_none_of X G z_max
    n_min := PySem.W.mg_none_of X G z_min
    n_str := PySem.W.mg_none_of X G z_str
    n_bool := PySem.W.mg_none_of X G z_bool }, rfl, pin_l_menu_right, pin_l_thing_right, pin_l_right⟩
end MH
namespace MH
open PySem PySem.Spec PyProof.Rows L2
/-! ### frames -/
theorem _root_.L2.Same.sqt {K : PySem.W.Frag} {H H' : Hp} {a : Addr} {xs : List V} (e : Same H H') (h : SqT K H a xs) : SqT K H' a xs := by
  rcases h with (h | ⟨o, h⟩) | h
  · exact .inl (.inl (e _ _ h))
  · exact .inl (.inr ⟨o, e _ _ h⟩)
  · exact .inr h
theorem _root_.L2.Same.new {H : Hp} {p : Addr} {o : HO} (h : H p = none) : Same H (upd H p o) := fun b x e => by
  rw [upd_ne (ne_of_none e h)]
  exact e
theorem _root_.L2.Same.new' {H H1 : Hp} {p : Addr} {o : HO} (s : Same H H1) (h : H1 p = none) : Same H (upd H1 p o) := s.trans (Same.new h)
/-- all as it was but p -/
def SameB (p : Addr) (H H' : Hp) : Prop := ∀ b o, b ≠ p → H b = some o → H' b = some o
theorem SameB.of {p : Addr} {H H' : Hp} (s : Same H H') : SameB p H H' := fun b o _ e => s b o e
theorem SameB.refl (p : Addr) (H : Hp) : SameB p H H := fun _ _ _ e => e
theorem SameB.trans {p : Addr} {H H1 H2 : Hp} (a : SameB p H H1) (b : SameB p H1 H2) : SameB p H H2 := fun c o n e => b c o n (a c o n e)
theorem SameB.put {p : Addr} {H H1 : Hp} {o : HO} (s : SameB p H H1) : SameB p H (upd H1 p o) := fun b x n e => by
  rw [upd_ne n]
  exact s b x n e
theorem SameB.new {p q : Addr} {H H1 : Hp} {o : HO} (s : SameB p H H1) (h : H1 q = none) : SameB p H (upd H1 q o) := s.trans (SameB.of (Same.new h))
/-- a tuple stands where only a list changed -/
theorem SameB.sqt {K : PySem.W.Frag} {p a : Addr} {H H' : Hp} {xs ys : List V} (s : SameB p H H') (hp : H p = some (.lst ys)) (h : SqT K H a xs) : SqT K H' a xs := by
  rcases h with (h | ⟨o, h⟩) | h
  · exact .inl (.inl (s _ _ (ne_of h hp (by intro q; cases q)) h))
  · exact .inl (.inr ⟨o, s _ _ (ne_of h hp (by intro q; cases q)) h⟩)
  · exact .inr h
theorem tup_of {K : PySem.W.Frag} {H : Hp} {a : Addr} {xs : List V} (h : H a = some (.tup xs)) : SqT K H a xs := .inl (.inl h)
theorem frz_of {K : PySem.W.Frag} {H : Hp} {a : Addr} {o : Obj} {xs : List V} (h : H a = some (.frz o (.tup xs))) : SqT K H a xs := .inl (.inr ⟨o, h⟩)
theorem lst_of {K : PySem.W.Frag} {H : Hp} {a : Addr} {xs : List V} (h : H a = some (.lst xs)) : SqL K H a xs := .inl (.inl h)
theorem le_line {n : Nat} (h : n ≤ 100000) : n ≤ sizeLine := Nat.le_trans h (by decide)
theorem lt_line {n : Nat} (h : n < 100000) : n < sizeLine := Nat.lt_of_lt_of_le h (by decide)

/-! ### the purse -/
def Pu (H : Hp) (p : Addr) : Prop := ∃ x y : Int, H p = some (.lst [.int x, .int y]) ∧ 0 ≤ x ∧ 0 ≤ y ∧ y < 2147483647
theorem Pu.sqt {K : PySem.W.Frag} {H H' : Hp} {p a : Addr} {xs : List V} (u : Pu H p) (s : SameB p H H') (h : SqT K H a xs) : SqT K H' a xs := by
  obtain ⟨x, y, hp, _⟩ := u
  exact s.sqt hp h
theorem Pu.same {H H' : Hp} {p : Addr} (u : Pu H p) (s : Same H H') : Pu H' p := by
  obtain ⟨x, y, hp, h⟩ := u
  exact ⟨x, y, s _ _ hp, h⟩
theorem Pu.put {H : Hp} {p q : Addr} {o u : HO} (a : Pu H p) (hq : H q = some u) (d : ∀ x y : Int, u ≠ .lst [.int x, .int y]) : Pu (upd H q o) p := by
  obtain ⟨x, y, hp, h⟩ := a
  have n : p ≠ q := fun e => by
    subst e
    rw [hp] at hq
    exact d x y (Option.some.inj hq).symm
  exact ⟨x, y, by rw [upd_ne n]; exact hp, h⟩
def spDraw : Sp := fun vs H Q _ => ∃ (p : Addr) (m : Int), vs = [.ref p, .int m] ∧ Pu H p ∧ 0 < m ∧ m < 1000000 ∧ ∀ d H', 0 ≤ d → d < m → SameB p H H' → Pu H' p → Q (.int d) H'

section
variable {P : Program} {w : World} {K : PySem.W.Frag} {mg : Str → Option Value} {base : Heap}
theorem ok_l_draw (T : Tx K mg) : FnOk P w K mg base CX0 5 T.a_l_draw T.fd_l_draw ["_law_purse_here", "_law_many"] spDraw := by
  refine T.F_l_draw.ok sc_l_draw (fun vs H Q E h => ?_) (fun cdv A outer s H vs Q E hr h => ?_)
  · obtain ⟨p, m, rfl, _⟩ := h
    rfl
  · obtain ⟨p, m, rfl, ⟨x, y, hp, hx, hy, hy2⟩, hm, hm2, k⟩ := h
    refine ⟨_, (pss_cons (ps_if (pt_cmpR op_gt (pe_ix ix_list (pv 0) pe_int (fun _ _ => rfl)) pe_int (nomark _))
        (pss_cons (ps_asg (pe_callB call_divmod (by rfl) T.n_divmod (by decide +kernel) (pa_cons (pe_ix ix_list (pv 0) pe_int (fun _ _ => rfl)) (pa_cons (pv 1) pa_nil))) (pg_tup rfl (pgs_cons (pg_sub (pv 0) pe_int set_list) (pgs_cons (pg_name (i := 2) sc_l_draw.nd rfl (Or.inl rfl)) pgs_nil))))
      (pss_one (ps_ret (pv 2))))
        pss_nil)
      (pss_cons (ps_asg (pe_op op_mod (pe_callTy call_int1 (by rfl) T.n_int (by decide +kernel) (pa_cons (pe_op op_add (pe_op op_mul (pe_ix ix_list (pv 0) pe_int (fun _ _ => rfl)) pe_int) pe_int) pa_nil)) pe_int) (pg_sub (pv 0) pe_int set_list))
      (pss_one (ps_ret (pe_op op_mod (pe_callTy call_int1 (by rfl) T.n_int (by decide +kernel) (pa_cons (pe_op op_fdiv (pe_ix ix_list (pv 0) pe_int (fun _ _ => rfl)) pe_int) pa_nil)) (pv 1)))))), ?_⟩
    refine ⟨_, rfl, p, _, 0, _, rfl, rfl, lst_of hp, rfl, _, _, rfl, rfl, _, rfl, ?_⟩
    refine ite2 (fun c => ?_) (fun c => ?_)
    · have c : 0 < x := of_decide_eq_true c
      refine ⟨_, rfl, p, _, 0, _, rfl, rfl, lst_of hp, rfl, _, rfl, _, _, rfl, ⟨hm, by omega⟩, fun t ht => ?_⟩
      have npt : p ≠ t := ne_of_none hp ht
      refine ⟨t, _, rfl, tup_of upd_same, rfl, _, _, rfl, _, rfl, p, _, 0, 0, rfl, rfl, (by rw [upd_ne npt]; exact hp), rfl, _, _, rfl, rfl, ?_⟩
      refine ⟨_, rfl, ?_⟩
      refine k _ _ (Int.emod_nonneg _ (by omega)) (Int.emod_lt_of_pos _ hm) ((SameB.refl p H).new ht).put ⟨x / m, y, ?_, Int.ediv_nonneg hx (by omega), hy, hy2⟩
      rw [upd_same]
      rfl
    · refine ⟨_, rfl, p, _, 1, _, rfl, rfl, lst_of hp, rfl, _, _, rfl, rfl, .inl ⟨by omega, by omega⟩, _, _, rfl, rfl, .inl ⟨_, rfl, _, _, rfl, rfl, (by show (0 : Int) < 2147483647; decide), ?_⟩⟩
      refine ⟨_, rfl, p, _, 1, 1, rfl, rfl, hp, rfl, ?_⟩
      refine ⟨_, rfl, p, _, 1, _, rfl, rfl, lst_of upd_same, rfl, _, _, rfl, rfl, ⟨by decide, by decide⟩, .inl ⟨_, rfl, _, rfl, _, _, rfl, rfl, hm, ?_⟩⟩
      refine k _ _ (Int.emod_nonneg _ (by omega)) (Int.emod_lt_of_pos _ hm) (SameB.refl p H).put ⟨x, _, upd_same, hx, Int.emod_nonneg _ (by decide), Int.emod_lt_of_pos _ (by decide)⟩
end
end MH
namespace MH
open PySem PySem.Spec PyProof.Rows L2
theorem cutV_mem {xs : List V} {lo hi : Option Int} {x : V} (h : x ∈ cutV xs lo hi) : x ∈ xs := List.mem_of_mem_drop (List.mem_of_mem_take h)
def spPurse (K : PySem.W.Frag) : Sp := fun vs H Q _ => ∃ (a : Addr) (ns : List Int) (i : Nat), vs = [.ref a, .int i] ∧ SqL K H a (ns.map V.int) ∧ ns.length ≤ 63 ∧ i < 1000 ∧ ∀ H' p, Same H H' → H p = none → Pu H' p → Q (.ref p) H'
section
variable {P : Program} {w : World} {K : PySem.W.Frag} {mg : Str → Option Value} {base : Heap}
theorem ok_l_purse (T : Tx K mg) : FnOk P w K mg base CX0 5 T.a_l_purse T.fd_l_purse ["_law_script", "_law_spot"] (spPurse K) := by
  refine T.F_l_purse.ok sc_l_purse (fun vs H Q E h => ?_) (fun cdv A outer s H vs Q E hr h => ?_)
  · obtain ⟨a, ns, i, rfl, _⟩ := h
    rfl
  · obtain ⟨a, ns, i, rfl, hS, hlen, hi, k⟩ := h
    refine ⟨_, (pss_cons (ps_set (i := 2) sc_l_purse.nd rfl (Or.inl rfl) (pe_ifExp (pt_cmpR op_lt (pv 1) (pe_callB call_len_seq (by rfl) T.n_len (by decide +kernel) (pa_cons (pv 0) pa_nil)) (nomark _)) (pe_ix ix_list (pv 0) (pv 1) (fun _ _ => rfl)) (pe_op op_mul pe_int (pe_op op_add (pv 1) pe_int))))
      (pss_cons (ps_set (i := 3) sc_l_purse.nd rfl (Or.inl rfl) (pe_op op_add pe_int (pv 1)))
      (pss_cons (ps_for PassesOwn.never rfl (pi_list (pe_op op_cat (pe_slice sl_list (pv 0) po_none (po_some pe_int)) (pe_lst (pa_cons (pv 2) pa_nil)))) (pg_name (i := 4) sc_l_purse.nd rfl (Or.inl rfl))
        (pss_one (ps_set (i := 3) sc_l_purse.nd rfl (Or.inl rfl) (pe_op op_mod (pe_callTy call_int1 (by rfl) T.n_int (by decide +kernel) (pa_cons (pe_op op_add (pe_op op_add (pe_op op_mul (pv 3) pe_int) (pe_op op_mod (pe_callTy call_int1 (by rfl) T.n_int (by decide +kernel) (pa_cons (pv 4) pa_nil)) pe_int)) pe_int) pa_nil)) pe_int))))
      (pss_one (ps_ret (pe_lst (pa_cons (pe_ifExp (pt_cmpR op_ge (pe_callB call_abs (by rfl) T.n_abs (by decide +kernel) (pa_cons (pv 2) pa_nil)) (pe_op op_pow pe_int pe_int) (nomark _)) (pe_callB call_abs (by rfl) T.n_abs (by decide +kernel) (pa_cons (pv 2) pa_nil)) pe_int) (pa_cons (pv 3) pa_nil)))))))), ?_⟩
    refine ⟨_, rfl, _, rfl, a, _, rfl, .inl hS, _, _, rfl, rfl, _, rfl, ?_⟩
    refine ite2 (fun c => ?a1) (fun c => ?a2)
    case' a1 =>
      have c : (i : Int) < ((ns.map V.int).length : Nat) := of_decide_eq_true c
      have c2 : i < ns.length := by
        rw [List.length_map] at c
        omega
      have g : (ns.map V.int)[i]? = some (.int ns[i]) := by
        rw [List.getElem?_map, List.getElem?_eq_getElem c2]
        rfl
      refine ⟨_, rfl, _, rfl, a, _, _, _, rfl, rfl, hS, atI_nat g, ?_⟩
      generalize ns[i] = z
    case' a2 =>
      refine ⟨_, rfl, _, _, rfl, rfl, _, _, rfl, rfl, .inl ⟨by decide, by decide⟩, ?_⟩
      show gName 2 (V.int ((7919 : Int) * ((i : Int) + 5))) _ _ _
      generalize (7919 : Int) * ((i : Int) + 5) = z
    all_goals
      refine ⟨_, rfl, _, _, rfl, rfl, ?_⟩
      refine ⟨_, rfl, 5, rfl, a, _, rfl, hS, fun p np => ?_⟩
      refine ⟨_, rfl, (by show 1 ≤ sizeLine; decide), fun q nq => ?_⟩
      have npq : p ≠ q := fun e => by
        rw [e, upd_same] at nq
        cases nq
      refine ⟨p, q, _, _, rfl, rfl, (by rw [upd_ne npq]; exact upd_same), upd_same, le_line ?_, fun r nr => ?_⟩
      · have q1 := cutV_length (ns.map V.int) none (some 5)
        rw [List.length_map] at q1
        show (cutV (ns.map V.int) none (some 5)).length + 1 ≤ 100000
        omega
      have s1 := ((Same.new np).new' nq).new' nr (o := .lst (cutV (ns.map V.int) none (some 5) ++ [V.int z]))
      refine ⟨r, rfl, ⟨_, lst_of upd_same⟩, for_list (K := K) (a := r) (xs := cutV (ns.map V.int) none (some 5) ++ [V.int z]) (fun j σ H' => ∃ (y : Int) (v : Option V), σ = [some (.ref a), some (.int i), some (.int z), some (.int y), v] ∧ 0 ≤ y ∧ y < 2147483647 ∧ Same H H' ∧ H' r = some (.lst (cutV (ns.map V.int) none (some 5) ++ [V.int z])))
        ⟨(211 : Int) + i, none, rfl, by omega, by omega, s1, upd_same⟩ (fun j σ H' _ ⟨_, _, _, _, _, _, hL⟩ => lst_of hL) ?_ ?_⟩
      · rintro j x σ H' hx ⟨y, v, rfl, h0, h1, s2, hL⟩
        obtain ⟨n, rfl⟩ : ∃ n, x = V.int n := by
          rcases List.mem_append.mp (List.mem_of_getElem? hx) with m | m
          · obtain ⟨n, _, e⟩ := List.mem_map.mp (cutV_mem m)
            exact ⟨n, e.symm⟩
          · exact ⟨z, List.mem_singleton.mp m⟩
        refine ⟨_, rfl, _, _, rfl, rfl, .inl ⟨by omega, by omega⟩, _, rfl, .inl ⟨_, rfl, _, _, rfl, rfl, (by show (0 : Int) < 2147483647; decide), _, _, rfl, rfl, _, _, rfl, rfl, .inl ⟨_, rfl, _, _, rfl, rfl, (by show (0 : Int) < 2147483647; decide), ?_⟩⟩⟩
        exact ⟨_, _, rfl, Int.emod_nonneg _ (by decide), Int.emod_lt_of_pos _ (by decide), s2, hL⟩
      · rintro σ H' ⟨y, v, rfl, h0, h1, s2, hL⟩
        refine ⟨_, rfl, _, rfl, _, _, rfl, rfl, ⟨by decide, by decide, by decide⟩, _, _, rfl, rfl, _, rfl, ?_⟩
        refine ite2 (fun c => ?_) (fun c => ?_)
        · refine ⟨_, rfl, _, rfl, _, rfl, (by show 2 ≤ sizeLine; decide), fun t nt => ?_⟩
          refine k _ _ (s2.new' nt) (s2.free nt) ⟨_, _, upd_same, ?_, h0, h1⟩
          split <;> omega
        · refine ⟨_, rfl, (by show 2 ≤ sizeLine; decide), fun t nt => ?_⟩
          exact k _ _ (s2.new' nt) (s2.free nt) ⟨_, _, upd_same, by omega, h0, h1⟩
end
end MH
namespace MH
open PySem PySem.Spec PyProof.Rows L2
theorem seqIndex_in {d : Int} {n : Nat} (h0 : 0 ≤ d) (h1 : d < n) : seqIndex? d n = some d.toNat := by
  unfold seqIndex?
  simp only
  first
    | (rw [if_pos h0]; rw [if_pos (by omega)])
    | (split <;> simp_all <;> omega)
theorem perm_pop : ∀ {l : List Str} {k : Nat} {z : Str}, l[k]? = some z → (z :: l.eraseIdx k).Perm l
  | [], k, z, h => by simp at h
  | a :: l, 0, z, h => by
    obtain rfl : a = z := Option.some.inj h
    exact List.Perm.refl _
  | a :: l, k + 1, z, h => by
    have ih := perm_pop (l := l) (k := k) (z := z) h
    exact (List.Perm.swap a z _).trans (ih.cons a)
theorem map_erase {α β : Type} (f : α → β) : ∀ (l : List α) (k : Nat), (l.eraseIdx k).map f = (l.map f).eraseIdx k
  | [], k => rfl
  | a :: l, 0 => rfl
  | a :: l, k + 1 => congrArg (f a :: ·) (map_erase f l k)
def spThings (K : PySem.W.Frag) : Sp := fun vs H Q _ => ∃ (p : Addr) (n : Int), vs = [.ref p, .int n] ∧ Pu H p ∧ 0 ≤ n ∧ n ≤ 13 ∧
  ∀ (ss : List Str) (a : Addr) (H' : Hp), ss.Nodup → sortedS ss = true → (∀ z ∈ ss, z ∈ pool) → ss.length = n.toNat → SameB p H H' → Pu H' p → SqT K H' a (ss.map V.str) → Q (.ref a) H'
section
variable {P : Program} {w : World} {K : PySem.W.Frag} {mg : Str → Option Value} {base : Heap}
theorem ok_l_things (T : Tx K mg) : FnOk P w K mg base CX0 6 T.a_l_things T.fd_l_things ["_law_purse_here", "_law_many"] (spThings K) := by
  refine T.F_l_things.ok sc_l_things (fun vs H Q E h => ?_) (fun cdv A outer s H vs Q E hr h => ?_)
  · obtain ⟨p, n, rfl, _⟩ := h
    rfl
  · obtain ⟨p, n, rfl, pu, n0, n13, k⟩ := h
    refine ⟨_, (pss_cons (ps_set (i := 2) sc_l_things.nd rfl (Or.inl rfl) (pe_lst (pa_cons pe_str (pa_cons pe_str (pa_cons pe_str (pa_cons pe_str (pa_cons pe_str (pa_cons pe_str (pa_cons pe_str (pa_cons pe_str (pa_cons pe_str (pa_cons pe_str (pa_cons pe_str (pa_cons pe_str (pa_cons pe_str pa_nil)))))))))))))))
      (pss_cons (ps_set (i := 3) sc_l_things.nd rfl (Or.inl rfl) (pe_lst pa_nil))
      (pss_cons (ps_for PassesOwn.never rfl (pi_range1 (by rfl) T.n_range (pa_cons (pv 1) pa_nil)) (pg_name (i := 4) sc_l_things.nd rfl (Or.inl rfl))
        (pss_one (ps_expr (pe_bm PySem.F.plainAttrs_list PySem.F.slot_list_append PySem.F.type_list_append mt_append (pv 3) (pa_cons (pe_bm PySem.F.plainAttrs_list PySem.F.slot_list_pop PySem.F.type_list_pop mt_popAt (pv 2) (pa_cons (pe_call (ok_l_draw T) (hr.mono (by decide)) rfl T.g_l_draw T.F_l_draw.kp T.b_l_draw .nil pass0 (pa_cons (pv 0) (pa_cons (pe_callB call_len_seq (by rfl) T.n_len (by decide +kernel) (pa_cons (pv 2) pa_nil)) pa_nil))) pa_nil)) pa_nil)))))
      (pss_one (ps_ret (pe_callTy call_tupF (by rfl) T.n_tuple (by decide +kernel) (pa_cons (pe_callB cr_sortedS (by rfl) T.n_sorted (by decide +kernel) (pa_cons (pv 3) pa_nil)) pa_nil))))))), ?_⟩
    obtain ⟨x0, y0, hp0, _⟩ := id pu
    refine ⟨(by show 13 ≤ sizeLine; decide), fun l nl => ?_⟩
    refine ⟨Nat.zero_le _, fun fo nfo => ?_⟩
    have npl : p ≠ l := ne_of_none hp0 nl
    have nlf : l ≠ fo := fun e => by
      rw [e, upd_same] at nfo
      cases nfo
    have nfo' : H fo = none := by
      rw [upd_ne nlf.symm] at nfo
      exact nfo
    have npf : p ≠ fo := ne_of_none hp0 nfo'
    have s0 : Same H (upd (upd H l (.lst (pool.map V.str))) fo (.lst [])) := (Same.new nl).new' nfo
    refine ⟨_, rfl, n, rfl, by omega, by omega, for_range (lo := 0) (n := n.toNat) (fun i σ H' => ∃ (rest found : List Str) (v : Option V), σ = [some (.ref p), some (.int n), some (.ref l), some (.ref fo), v] ∧
      H' l = some (.lst (rest.map V.str)) ∧ H' fo = some (.lst (found.map V.str)) ∧ (rest ++ found).Perm pool ∧ found.length = i ∧ SameB p H H' ∧ Pu H' p)
      ⟨pool, [], none, rfl, (by rw [upd_ne nlf]; exact upd_same), upd_same, List.Perm.refl _, rfl, .of s0, pu.same s0⟩ ?_ ?_⟩
    · rintro i σ H' hi ⟨rest, found, v, rfl, hl, hf, hpm, hlen, sb, pu1⟩
      have hsum : rest.length + found.length = 13 := by
        have := hpm.length_eq
        rw [List.length_append] at this
        exact this
      refine ⟨_, rfl, .inl ⟨rfl, _, lst_of hf⟩, _, rfl, .inl ⟨rfl, _, lst_of hl⟩, _, rfl, _, rfl, l, _, rfl, .inl (lst_of hl), p, _, rfl, pu1, ?_, ?_, fun d H2 d0 d1 sb2 pu2 => ?_⟩
      · rw [List.length_map]
        omega
      · rw [List.length_map]
        omega
      · rw [List.length_map] at d1
        have dk : d.toNat < rest.length := by omega
        have hl2 := sb2 _ _ npl.symm hl
        have hf2 := sb2 _ _ npf.symm hf
        have g : rest[d.toNat]? = some rest[d.toNat] := List.getElem?_eq_getElem dk
        refine ⟨l, _, d, d.toNat, V.str rest[d.toNat], rfl, rfl, hl2, by omega, by omega, seqIndex_in d0 (by rw [List.length_map]; exact d1), ?_, ?_⟩
        · rw [List.getElem?_map, g]
          rfl
        · refine ⟨fo, _, _, rfl, rfl, (by rw [upd_ne nlf.symm]; exact hf2), lt_line (by rw [List.length_map]; omega), ?_⟩
          refine ⟨rest.eraseIdx d.toNat, found ++ [rest[d.toNat]], _, rfl, ?_, ?_, ?_, ?_, ?_, ?_⟩
          · rw [upd_ne nlf, upd_same, map_erase]
          · rw [upd_same, List.map_append]
            rfl
          · refine List.Perm.trans ?_ hpm
            rw [← List.append_assoc]
            exact (List.perm_append_comm (l₂ := [rest[d.toNat]])).trans ((perm_pop g).append_right found)
          · rw [List.length_append, hlen]
            rfl
          · intro b o nb e
            have nbl : b ≠ l := ne_of_none e nl
            have nbf : b ≠ fo := ne_of_none e nfo'
            rw [upd_ne nbf, upd_ne nbl]
            exact sb2 _ _ nb (sb _ _ nb e)
          · obtain ⟨x2, y2, hp2, hh⟩ := pu2
            exact ⟨x2, y2, by rw [upd_ne npf, upd_ne npl]; exact hp2, hh⟩
    · rintro σ H' ⟨rest, found, v, rfl, hl, hf, hpm, hlen, sb, pu1⟩
      have nd : found.Nodup := by
        have : (rest ++ found).Nodup := hpm.nodup_iff.mpr pool_nd
        exact (List.nodup_append.mp this).2.1
      refine ⟨_, rfl, fo, found, rfl, lst_of hf, by omega, fun ys q pm so nq => ⟨q, _, rfl, .inl ⟨lst_of upd_same, fun t ot nt od => ?_⟩⟩⟩
      refine k ys t _ (pm.nodup_iff.mpr nd) so (fun z hz => hpm.subset (List.mem_append_right _ (pm.subset hz))) (by rw [pm.length_eq, hlen]) ((sb.new nq).new nt) ((pu1.same (Same.new nq)).same (Same.new nt)) (frz_of upd_same)
end
end MH
namespace MH
open PySem PySem.Spec PyProof.Rows L2
def spOrder (K : PySem.W.Frag) : Sp := fun vs H Q _ => ∃ (p t : Addr) (ss : List Str), vs = [.ref p, .ref t] ∧ Pu H p ∧ SqT K H t (ss.map V.str) ∧ ss.length ≤ 1000 ∧
  ∀ (row : List Str) (a : Addr) (H' : Hp), row.Perm ss → SameB p H H' → Pu H' p → TupO H' a (row.map V.str) → Q (.ref a) H'
section
variable {P : Program} {w : World} {K : PySem.W.Frag} {mg : Str → Option Value} {base : Heap}
theorem ok_l_order (T : Tx K mg) : FnOk P w K mg base CX0 6 T.a_l_order T.fd_l_order ["_law_purse_here", "_law_things_here"] (spOrder K) := by
  refine T.F_l_order.ok sc_l_order (fun vs H Q E h => ?_) (fun cdv A outer s H vs Q E hr h => ?_)
  · obtain ⟨p, n, ss, rfl, _⟩ := h
    rfl
  · obtain ⟨p, t, ss, rfl, pu, hT, hz, k⟩ := h
    refine ⟨_, (pss_cons (ps_par (i := 2) (j := 3) rfl sc_l_order.nd rfl rfl (by decide) rfl rfl (pa_cons (pe_callTy call_list_of (by rfl) T.n_list (by decide +kernel) (pa_cons (pv 1) pa_nil)) (pa_cons (pe_lst pa_nil) pa_nil)) (by rfl))
      (pss_cons (ps_for PassesOwn.never rfl (pi_range1 (by rfl) T.n_range (pa_cons (pe_callB call_len_seq (by rfl) T.n_len (by decide +kernel) (pa_cons (pv 1) pa_nil)) pa_nil)) (pg_name (i := 4) sc_l_order.nd rfl (Or.inl rfl))
        (pss_one (ps_expr (pe_bm PySem.F.plainAttrs_list PySem.F.slot_list_append PySem.F.type_list_append mt_append (pv 3) (pa_cons (pe_bm PySem.F.plainAttrs_list PySem.F.slot_list_pop PySem.F.type_list_pop mt_popAt (pv 2) (pa_cons (pe_call (ok_l_draw T) (hr.mono (by decide)) rfl T.g_l_draw T.F_l_draw.kp T.b_l_draw .nil pass0 (pa_cons (pv 0) (pa_cons (pe_callB call_len_seq (by rfl) T.n_len (by decide +kernel) (pa_cons (pv 2) pa_nil)) pa_nil))) pa_nil)) pa_nil)))))
      (pss_one (ps_ret (pe_callTy call_tupF (by rfl) T.n_tuple (by decide +kernel) (pa_cons (pv 3) pa_nil)))))), ?_⟩
    obtain ⟨x0, y0, hp0, _⟩ := id pu
    refine ⟨_, rfl, t, _, rfl, .inr hT, fun l nl => ?_⟩
    refine ⟨Nat.zero_le _, fun fo nfo => ⟨_, _, rfl, ?_⟩⟩
    have npl : p ≠ l := ne_of_none hp0 nl
    have nlf : l ≠ fo := fun e => by
      rw [e, upd_same] at nfo
      cases nfo
    have nfo' : H fo = none := by
      rw [upd_ne nlf.symm] at nfo
      exact nfo
    have npf : p ≠ fo := ne_of_none hp0 nfo'
    have s0 : Same H (upd (upd H l (.lst (ss.map V.str))) fo (.lst [])) := (Same.new nl).new' nfo
    refine ⟨_, rfl, t, _, rfl, .inr (s0.sqt hT), _, rfl, by omega, by rw [List.length_map]; omega, for_range (lo := 0) (n := ((((ss.map V.str).length : Nat) : Int)).toNat) (fun i σ H' => ∃ (rest found : List Str) (v : Option V), σ = [some (.ref p), some (.ref t), some (.ref l), some (.ref fo), v] ∧
      H' l = some (.lst (rest.map V.str)) ∧ H' fo = some (.lst (found.map V.str)) ∧ (rest ++ found).Perm ss ∧ found.length = i ∧ SameB p H H' ∧ Pu H' p)
      ⟨ss, [], none, rfl, (by rw [upd_ne nlf]; exact upd_same), upd_same, (by rw [List.append_nil]), rfl, .of s0, pu.same s0⟩ ?_ ?_⟩
    · rintro i σ H' hi ⟨rest, found, v, rfl, hl, hf, hpm, hlen, sb, pu1⟩
      rw [List.length_map] at hi
      have hsum : rest.length + found.length = ss.length := by
        have := hpm.length_eq
        rw [List.length_append] at this
        exact this
      refine ⟨_, rfl, .inl ⟨rfl, _, lst_of hf⟩, _, rfl, .inl ⟨rfl, _, lst_of hl⟩, _, rfl, _, rfl, l, _, rfl, .inl (lst_of hl), p, _, rfl, pu1, ?_, ?_, fun d H2 d0 d1 sb2 pu2 => ?_⟩
      · rw [List.length_map]
        omega
      · rw [List.length_map]
        omega
      · rw [List.length_map] at d1
        have dk : d.toNat < rest.length := by omega
        have hl2 := sb2 _ _ npl.symm hl
        have hf2 := sb2 _ _ npf.symm hf
        have g : rest[d.toNat]? = some rest[d.toNat] := List.getElem?_eq_getElem dk
        refine ⟨l, _, d, d.toNat, V.str rest[d.toNat], rfl, rfl, hl2, by omega, by omega, seqIndex_in d0 (by rw [List.length_map]; exact d1), ?_, ?_⟩
        · rw [List.getElem?_map, g]
          rfl
        · refine ⟨fo, _, _, rfl, rfl, (by rw [upd_ne nlf.symm]; exact hf2), lt_line (by rw [List.length_map]; omega), ?_⟩
          refine ⟨rest.eraseIdx d.toNat, found ++ [rest[d.toNat]], _, rfl, ?_, ?_, ?_, ?_, ?_, ?_⟩
          · rw [upd_ne nlf, upd_same, map_erase]
          · rw [upd_same, List.map_append]
            rfl
          · refine List.Perm.trans ?_ hpm
            rw [← List.append_assoc]
            exact (List.perm_append_comm (l₂ := [rest[d.toNat]])).trans ((perm_pop g).append_right found)
          · rw [List.length_append, hlen]
            rfl
          · intro b o nb e
            have nbl : b ≠ l := ne_of_none e nl
            have nbf : b ≠ fo := ne_of_none e nfo'
            rw [upd_ne nbf, upd_ne nbl]
            exact sb2 _ _ nb (sb _ _ nb e)
          · obtain ⟨x2, y2, hp2, hh⟩ := pu2
            exact ⟨x2, y2, by rw [upd_ne npf, upd_ne npl]; exact hp2, hh⟩
    · rintro σ H' ⟨rest, found, v, rfl, hl, hf, hpm, hlen, sb, pu1⟩
      have e0 : rest = [] := by
        have := hpm.length_eq
        rw [List.length_append, hlen] at this
        simp at this
        exact this
      subst e0
      refine ⟨_, rfl, fo, _, rfl, .inl ⟨lst_of hf, fun t' ot nt od => ?_⟩⟩
      exact k found t' _ hpm (sb.new nt) (pu1.same (Same.new nt)) ⟨ot, upd_same, od⟩
end
end MH
namespace MH
open PySem PySem.Spec PyProof.Rows L2
theorem _root_.L2.SqT.ty {K : PySem.W.Frag} {H : Hp} {a : Addr} {xs : List V} (h : SqT K H a xs) : TyX K H (.ref a) (.type "tuple") := by
  rcases h with (h | ⟨o, h⟩) | ⟨o, its, n, h, c, _⟩
  · exact .base (.tup h)
  · exact .fTuple h
  · exact .kTuple h c
theorem ifT {c : Bool} {A B : Prop} (h : c = true) (a : A) : if c = true then A else B := by
  rw [if_pos h]
  exact a
theorem ifF {c : Bool} {A B : Prop} (h : c = false) (b : B) : if c = true then A else B := by
  rw [h, if_neg Bool.false_ne_true]
  exact b
theorem inV_strs (z : Str) : ∀ ss : List Str, inV (.str z) (ss.map V.str) = decide (z ∈ ss)
  | [] => rfl
  | y :: r => by
    have ih := inV_strs z r
    show (y == z || inV (.str z) (r.map V.str)) = decide (z ∈ y :: r)
    rw [ih]
    by_cases e : y = z
    · subst e
      simp
    · have e2 : ¬ z = y := fun q => e q.symm
      simp [e, e2]
theorem flat_strs (ss : List Str) : (ss.map V.str).all flatV = true := by
  rw [List.all_eq_true]
  intro v hv
  obtain ⟨z, _, rfl⟩ := List.mem_map.mp hv
  rfl
theorem cut_upto (xs : List V) (i : Nat) : cutV xs none (some (i : Int)) = xs.take i := by
  unfold cutV
  rw [HT.sIx_none, HT.sIx_nat, Nat.sub_zero, List.drop_zero]
  rcases Nat.le_total i xs.length with h | h
  · rw [Nat.min_eq_left h]
  · rw [Nat.min_eq_right h, List.take_of_length_le (Nat.le_refl _), List.take_of_length_le h]
theorem cut_from (xs : List V) (i : Nat) : cutV xs (some (i : Int)) none = xs.drop i := by
  unfold cutV
  rw [HT.sIx_none, HT.sIx_nat]
  rcases Nat.le_total i xs.length with h | h
  · rw [Nat.min_eq_left h, List.take_of_length_le]
    rw [List.length_drop]
    exact Nat.le_refl _
  · rw [Nat.min_eq_right h, Nat.sub_self, List.drop_of_length_le h]
    rfl
/-- a slice of a tuple: itself or a new one -/
theorem slA_of {K : PySem.W.Frag} {H : Hp} {a : Addr} {xs : List V} {lo hi : Option Int} {Q : VK} (h : SqT K H a xs) (k : ∀ p H', Same H H' → SqT K H' p (cutV xs lo hi) → Q (.ref p) H') : rSlA K (.ref a) lo hi H Q := by
  refine ⟨a, xs, rfl, h, fun ⟨e1, e2⟩ => ?_, fun _ p np => k p _ (Same.new np) (tup_of upd_same)⟩
  have e : cutV xs lo hi = xs := by
    unfold cutV
    rw [e1, e2, Nat.sub_zero, List.drop_zero, List.take_of_length_le (Nat.le_refl _)]
  exact k a H (Same.refl H) (by rw [e]; exact h)
theorem walk_enumT {K : PySem.W.Frag} {a : Addr} {xs : List V} : Walk (IteT K a) xs.length (fun H => SqT K H a xs) (YPair (fun i => some (.int (i : Nat))) (fun i => xs[i]?)) where
  goes := fun i H hi h => ⟨xs, xs[i], h, by simp [hi]⟩
  stops := fun H h => ⟨xs, h, Nat.le_refl _⟩
  yields := fun i H x H' hi h ⟨T, y, e, n, e2, f⟩ => ⟨T, _, y, e, n, e2, rfl, f _ h⟩

/-- what was told of an object stands, the purse and tables of code aside -/
def Frm (H H' : Hp) : Prop := ∀ b o, H b = some o → (∀ x y : Int, o ≠ .lst [.int x, .int y]) → (∀ ps, o ≠ .tbl ps) → H' b = some o
theorem Frm.of {H H' : Hp} (s : Same H H') : Frm H H' := fun b o e _ _ => s b o e
theorem Frm.trans {H H1 H2 : Hp} (a : Frm H H1) (b : Frm H1 H2) : Frm H H2 := fun c o e n t => b c o (a c o e n t) n t
theorem Frm.sqt {K : PySem.W.Frag} {H H' : Hp} {a : Addr} {xs : List V} (f : Frm H H') (h : SqT K H a xs) : SqT K H' a xs := by
  rcases h with (h | ⟨o, h⟩) | h
  · exact .inl (.inl (f _ _ h (fun _ _ z => nomatch z) fun _ z => nomatch z))
  · exact .inl (.inr ⟨o, f _ _ h (fun _ _ z => nomatch z) fun _ z => nomatch z⟩)
  · exact .inr h
/-- what may stand in a row -/
def El (K : PySem.W.Frag) (H : Hp) (v : V) : Prop := (∃ z : Str, v = .str z ∧ SgOk z ∧ z.length ≤ 1000) ∨ v = .non ∨ (∃ i, v = .int i) ∨ (∃ b, v = .bl b) ∨ (∃ b xs, v = .ref b ∧ SqT K H b xs) ∨ (∃ b, v = .ref b ∧ (H b = some (.lst []) ∨ H b = some (.dK [])))
theorem El.frm {K : PySem.W.Frag} {H H' : Hp} {v : V} (f : Frm H H') (h : El K H v) : El K H' v := by
  rcases h with h | h | h | h | ⟨b, xs, e, h⟩ | ⟨b, e, h | h⟩
  · exact .inl h
  · exact .inr (.inl h)
  · exact .inr (.inr (.inl h))
  · exact .inr (.inr (.inr (.inl h)))
  · exact .inr (.inr (.inr (.inr (.inl ⟨b, xs, e, f.sqt h⟩))))
  · exact .inr (.inr (.inr (.inr (.inr ⟨b, e, .inl (f _ _ h (fun _ _ z => nomatch z) fun _ z => nomatch z)⟩))))
  · exact .inr (.inr (.inr (.inr (.inr ⟨b, e, .inr (f _ _ h (fun _ _ z => nomatch z) fun _ z => nomatch z)⟩))))
theorem El.kind {K : PySem.W.Frag} {H : Hp} {v : V} (h : El K H v) : (∃ z : Str, v = .str z ∧ SgOk z ∧ z.length ≤ 1000) ∨ ((∀ z, v ≠ .str z) ∧ ∃ T : String, TyX K H v (.type T) ∧ kitB T "str" = some false) := by
  rcases h with h | rfl | ⟨i, rfl⟩ | ⟨b, rfl⟩ | ⟨b, xs, rfl, h⟩ | ⟨b, rfl, h | h⟩
  · exact .inl h
  · exact .inr ⟨nofun, _, .base .non, by decide +kernel⟩
  · exact .inr ⟨nofun, _, .base (.int i), by decide +kernel⟩
  · exact .inr ⟨nofun, _, .base (.bl b), by decide +kernel⟩
  · exact .inr ⟨nofun, _, h.ty, by decide +kernel⟩
  · exact .inr ⟨nofun, _, .base (.lst h), by decide +kernel⟩
  · exact .inr ⟨nofun, _, .base (.dK h), by decide +kernel⟩
/-- what a ranking is asked to be made of: a tuple (what it holds), or no tuple -/
def Av (K : PySem.W.Frag) (C : Addr) (H : Hp) (v : V) : Option (List V) → Prop
  | some row => ∃ a, v = .ref a ∧ SqT K H a row ∧ row.length ≤ 1000 ∧ ∀ x ∈ row, El K H x
  | none => v = .non ∨ (∃ i, v = .int i) ∨ (∃ b, v = .bl b) ∨ (∃ z, v = .str z) ∨ (∃ b xs, v = .ref b ∧ H b = some (.lst xs)) ∨ (∃ b, v = .ref b ∧ H b = some (.dK [])) ∨ (∃ b dx fs, v = .ref b ∧ H b = some (.ins C dx fs))
theorem frm_extN {H H' : Hp} (e : LamX.ExtN H H') : Frm H H' := fun b o h _ t => e b o h t
theorem Av.ext {K : PySem.W.Frag} {C : Addr} {H H' : Hp} {v : V} {o : Option (List V)} (e : LamX.ExtN H H') (h : Av K C H v o) : Av K C H' v o := by
  cases o with
  | some row =>
    obtain ⟨a, ea, h1, h2, h3⟩ := h
    exact ⟨a, ea, (frm_extN e).sqt h1, h2, fun x hx => (h3 x hx).frm (frm_extN e)⟩
  | none =>
    rcases h with h | h | h | h | ⟨b, ss, eb, h⟩ | ⟨b, eb, h⟩ | ⟨b, dx, fs, eb, h⟩
    · exact .inl h
    · exact .inr (.inl h)
    · exact .inr (.inr (.inl h))
    · exact .inr (.inr (.inr (.inl h)))
    · exact .inr (.inr (.inr (.inr (.inl ⟨b, ss, eb, e _ _ h fun _ z => nomatch z⟩))))
    · exact .inr (.inr (.inr (.inr (.inr (.inl ⟨b, eb, e _ _ h fun _ z => nomatch z⟩)))))
    · exact .inr (.inr (.inr (.inr (.inr (.inr ⟨b, dx, fs, eb, e _ _ h fun _ z => nomatch z⟩)))))
theorem Av.no {K : PySem.W.Frag} {mg : Str → Option Value} (T : Tx K mg) {H : Hp} {v : V} (h : Av K T.C H v none) : ∃ t, TyX K H v t ∧ PySem.W.kitOne K t (.type "tuple") = some false := by
  rcases h with rfl | ⟨i, rfl⟩ | ⟨b, rfl⟩ | ⟨z, rfl⟩ | ⟨b, ss, rfl, h⟩ | ⟨b, rfl, h⟩ | ⟨b, dx, fs, rfl, h⟩
  · exact ⟨_, .base .non, kit_ty (by decide +kernel)⟩
  · exact ⟨_, .base (.int i), kit_ty (by decide +kernel)⟩
  · exact ⟨_, .base (.bl b), kit_ty (by decide +kernel)⟩
  · exact ⟨_, .base (.str z), kit_ty (by decide +kernel)⟩
  · exact ⟨_, .base (.lst h), kit_ty (by decide +kernel)⟩
  · exact ⟨_, .base (.dK h), kit_ty (by decide +kernel)⟩
  · exact ⟨_, T.ty h, T.ki_tuple⟩
def strOf : V → Str
  | .str z => z
  | _ => ""
def nmV : V → Bool
  | .str z => nameOk z
  | _ => false
theorem nmV_no {v : V} (h : ∀ z, v ≠ .str z) : nmV v = false := by
  cases v <;> first | rfl | exact absurd rfl (h _)
theorem nmV_str {v : V} (h : nmV v = true) : v = .str (strOf v) ∧ nameOk (strOf v) = true := by
  cases v <;> first | exact ⟨rfl, h⟩ | cases h
/-- what cannot stand at this place of a row -/
def badQ (row : List V) (k : Nat) : Bool := decide (10 ≤ k) || (!nmV (row.getD k .non) || decide (row.getD k .non ∈ row.take k))
/-- the first place at which something cannot stand -/
def badV (row : List V) : Option Nat := (List.range row.length).find? (badQ row)
theorem badV_some {row : List V} {i : Nat} (hi : i < row.length) (b : badQ row i = true) (h : ∀ j, j < i → badQ row j = false) : badV row = some i := by
  unfold badV
  rw [List.find?_range_eq_some]
  exact ⟨b, List.mem_range.mpr hi, fun j hj => by rw [h j hj]; rfl⟩
theorem badV_none {row : List V} (h : ∀ j, j < row.length → badQ row j = false) : badV row = none := by
  unfold badV
  rw [List.find?_eq_none]
  intro j hj
  rw [h j (List.mem_range.mp hj)]
  simp
theorem badV_lt {row : List V} {i : Nat} (h : badV row = some i) : i < row.length := List.mem_range.mp (List.mem_of_find?_eq_some h)
theorem getDv {row : List V} {i : Nat} {z : V} (h : row[i]? = some z) : row.getD i .non = z := by
  rw [List.getD_eq_getElem?_getD, h]
  rfl
theorem badQ_ok {row : List V} {k : Nat} (hk : k < row.length) (h : badQ row k = false) : k < 10 ∧ nmV row[k] = true ∧ row[k] ∉ row.take k := by
  have g : row.getD k .non = row[k] := getDv (List.getElem?_eq_getElem hk)
  unfold badQ at h
  rw [g, Bool.or_eq_false_iff, Bool.or_eq_false_iff] at h
  obtain ⟨h1, h2, h3⟩ := h
  exact ⟨Nat.lt_of_not_le (of_decide_eq_false h1), by simpa using h2, of_decide_eq_false h3⟩
/-- ahead of the first wrong place all are names -/
theorem names_take {row : List V} {i : Nat} (h : ∀ j, j < i → badQ row j = false) : row.take i = ((row.take i).map strOf).map V.str := by
  rw [List.map_map]
  have q : ∀ x ∈ row.take i, (V.str ∘ strOf) x = x := fun x hx => by
    obtain ⟨j, hj, e⟩ := List.mem_iff_getElem.mp hx
    rw [List.length_take] at hj
    rw [List.getElem_take] at e
    have := (badQ_ok (by omega) (h j (by omega))).2.1
    rw [e] at this
    exact (nmV_str this).1.symm
  rw [List.map_congr_left q]
  simp
theorem mem_strs {z : Str} : ∀ {ss : List Str}, V.str z ∈ ss.map V.str ↔ z ∈ ss := by
  intro ss
  rw [List.mem_map]
  exact ⟨fun ⟨y, hy, e⟩ => by rw [← V.str.inj e]; exact hy, fun h => ⟨z, h, rfl⟩⟩
structure RowOk (row : List Str) : Prop where
  ne : row ≠ []
  le : row.length ≤ 10
  nd : row.Nodup
  ok : ∀ z ∈ row, nameOk z = true
/-- a row in which all can stand -/
theorem rowOk_of {row : List V} (hne : row ≠ []) (h : badV row = none) : row = (row.map strOf).map V.str ∧ RowOk (row.map strOf) := by
  have h' : ∀ j, (hj : j < row.length) → badQ row j = false := fun j hj => by
    unfold badV at h
    rw [List.find?_eq_none] at h
    have := h j (List.mem_range.mpr hj)
    simpa using this
  have e : row = (row.map strOf).map V.str := by
    have q := names_take (row := row) (i := row.length) h'
    rw [List.take_length] at q
    exact q
  refine ⟨e, ?_, ?_, ?_, fun z hz => ?_⟩
  · cases row with
    | nil => exact absurd rfl hne
    | cons a r => exact List.cons_ne_nil _ _
  · rw [List.length_map]
    by_cases q : row.length ≤ 10
    · exact q
    · have := (badQ_ok (k := 10) (by omega) (h' 10 (by omega))).1
      omega
  · rw [List.nodup_iff_pairwise_ne, List.pairwise_iff_getElem]
    intro i j hi hj hij ee
    rw [List.length_map] at hi hj
    rw [List.getElem_map, List.getElem_map] at ee
    have b1 := badQ_ok hj (h' j hj)
    have b2 := badQ_ok hi (h' i hi)
    refine b1.2.2 ?_
    rw [(nmV_str b1.2.1).1, ← ee, ← (nmV_str b2.2.1).1]
    rw [List.mem_iff_getElem]
    exact ⟨i, by rw [List.length_take]; omega, by rw [List.getElem_take]⟩
  · obtain ⟨x, hx, rfl⟩ := List.mem_map.mp hz
    obtain ⟨j, hj, rfl⟩ := List.mem_iff_getElem.mp hx
    exact (nmV_str (badQ_ok hj (h' j hj)).2.1).2
def optV : Option Nat → V
  | none => .non
  | some i => .int (i : Nat)
/-- the index that is told of what is no row; none of a row -/
def errO : Option (List V) → Option V
  | none => some .non
  | some row => if row = [] then some .non else match badV row with
    | none => none
    | some i => some (.int (i : Nat))
def spIsName (K : PySem.W.Frag) : Sp := fun vs H Q _ => ∃ v : V, vs = [v] ∧ El K H v ∧ ∀ H', Same H H' → Q (.bl (nmV v)) H'
def filledO : Option (List V) → Bool
  | some row => decide (0 < row.length)
  | none => false
def spFilled (K : PySem.W.Frag) (C : Addr) : Sp := fun vs H Q _ => ∃ (v : V) (o : Option (List V)), vs = [v] ∧ Av K C H v o ∧ Q (.bl (filledO o)) H
def spFirst (K : PySem.W.Frag) : Sp := fun vs H Q _ => ∃ (t : Addr) (row : List V), vs = [.ref t] ∧ SqT K H t row ∧ (∀ x ∈ row, El K H x) ∧ ∀ H', Same H H' → Q (optV (badV row)) H'
section
variable {P : Program} {w : World} {K : PySem.W.Frag} {mg : Str → Option Value} {base : Heap}
theorem ok_is_filled_tuple (T : Tx K mg) : FnOk P w K mg base CX0 1 T.a_is_filled_tuple T.fd_is_filled_tuple ["value"] (spFilled K T.C) := by
  refine T.F_is_filled_tuple.ok sc_is_filled_tuple (fun vs H Q E h => ?_) (fun cdv A outer s H vs Q E hr h => ?_)
  · obtain ⟨v, o, rfl, _⟩ := h
    rfl
  · obtain ⟨v, o, rfl, av, k⟩ := h
    refine ⟨_, (pss_one (ps_ret (pe_and (pe_callB call_isi (by rfl) T.n_isinstance (by decide +kernel) (pa_cons (pv 0) (pa_cons (pe_bltn (v := .ty "tuple") (by rfl) T.n_tuple (by decide +kernel) rfl) pa_nil))) (pe_one (pe_cmpR op_gt (pe_callB call_len_seq (by rfl) T.n_len (by decide +kernel) (pa_cons (pv 0) pa_nil)) pe_int (nomark _)))))), ?_⟩
    cases o with
    | some xs =>
      obtain ⟨a, rfl, hT, _⟩ := av
      refine ⟨_, rfl, _, _, _, _, true, rfl, .ty _, hT.ty, kit_ty (by decide +kernel), true, rfl, iteT ?_⟩
      refine ⟨_, rfl, a, _, rfl, .inr hT, _, _, rfl, rfl, ?_⟩
      have e : decide ((0 : Int) < (xs.length : Nat)) = decide (0 < xs.length) := by simp
      show Q (.bl (decide ((0 : Int) < (xs.length : Nat)))) H
      rw [e]
      exact k
    | none =>
      obtain ⟨t, ty, kt⟩ := Av.no T av
      exact ⟨_, rfl, _, _, _, _, false, rfl, .ty _, ty, kt, false, rfl, iteF k⟩
theorem ok_is_name (T : Tx K mg) : FnOk P w K mg base CX0 1 T.a_is_name T.fd_is_name ["value"] (spIsName K) := by
  refine T.F_is_name.ok sc_is_name (fun vs H Q E h => ?_) (fun cdv A outer s H vs Q E hr h => ?_)
  · obtain ⟨z, rfl, _⟩ := h
    rfl
  · obtain ⟨v, rfl, el, k⟩ := h
    refine ⟨_, (pss_cons (ps_if (PW.pt (pw_or (pt_not (pt_val (pe_callB call_isi (by rfl) T.n_isinstance (by decide +kernel) (pa_cons (pv 0) (pa_cons (pe_bltn (v := .ty "str") (by rfl) T.n_str (by decide +kernel) rfl) pa_nil))))) (pw_or1 (pt_not (pt_chain op_le op_le pe_int (pe_callB call_len_str (by rfl) T.n_len (by decide +kernel) (pa_cons (pv 0) pa_nil)) (pe_glob (v := .int 8) rfl T.g_LONGEST_NAME.choose_spec ⟨_, rfl⟩))))))
        (pss_one (ps_ret pe_bl))
        pss_nil)
      (pss_one (ps_ret (pe_and (pe_cmpR op_in_sign (pe_ix ix_str (pv 0) pe_int (fun _ _ => rfl)) (pe_glob (v := .str "abcdefghijklmnopqrstuvwxyz") rfl T.g_LETTERS.choose_spec ⟨_, rfl⟩) (by rfl)) (pe_one (pe_callB (cr_all rfl) (by rfl) T.n_all (by decide +kernel) (pa_cons (pe_lc (own := [("sign", 1)]) (g := gName 1) (tt := tYes) rfl sc_is_name.nd (pi_str (pv 0)) (blkOk_by (own := [("sign", 1)]) (N := names_is_name) (sc := defScope st_is_name) (by decide +kernel)) (fun _ _ _ _ _ => pg_name (i := 1) sc_is_name.nd rfl (Or.inl rfl)) (fun _ _ _ _ _ => pts_nil) (fun _ _ _ _ _ => (pe_or (pe_cmpR op_in_sign (pv 1) (pe_glob (v := .str "abcdefghijklmnopqrstuvwxyz") rfl T.g_LETTERS.choose_spec ⟨_, rfl⟩) (by rfl)) (pe_one (pe_cmpR op_in_sign (pv 1) (pe_glob (v := .str "0123456789") rfl T.g_DIGITS.choose_spec ⟨_, rfl⟩) (by rfl)))))) pa_nil))))))), ?_⟩
    rcases el.kind with ⟨z, rfl, _, hz1⟩ | ⟨nz, t, ty, kt⟩
    rotate_left
    · have z0 := k H (Same.refl H)
      rw [nmV_no nz] at z0
      exact ⟨_, rfl, _, _, _, _, false, rfl, .ty _, ty, kit_ty kt, false, rfl, iteT z0⟩
    have hz : z.length ≤ 100000 := by omega
    have k : ∀ H', Same H H' → Q (.bl (nameOk z)) H' := k
    refine ⟨_, rfl, _, _, _, _, true, rfl, .ty _, .base (.str z), kit_ty (by decide +kernel), true, rfl, iteF ?_⟩
    refine ⟨_, rfl, z, rfl, le_line hz, _, _, rfl, rfl, _, rfl, ?_⟩
    by_cases h1 : 1 ≤ z.length
    · refine ifT (decide_eq_true (show (1 : Int) ≤ (z.length : Nat) by omega)) ?_
      refine ⟨_, _, rfl, rfl, _, rfl, ?_⟩
      by_cases h2 : z.length ≤ 8
      · refine ifF (by simp; omega) ?_
        have hne : z.cps.toList ≠ [] := fun e => by
          have : z.cps.size = 0 := by rw [← Array.length_toList, e]; rfl
          have e2 : z.length = z.cps.size := rfl
          omega
        obtain ⟨c0, rest, ec⟩ : ∃ c r, z.cps.toList = c :: r := List.exists_cons_of_ne_nil hne
        have en : nameOk z = (isL c0 && z.cps.toList.all fun c => isL c || isD c) := by
          unfold nameOk
          rw [decide_eq_true h1, decide_eq_true h2, ec]
          rfl
        refine ⟨_, rfl, z, 0, c0, rfl, rfl, le_line hz, (by rw [ec]; exact atI_nat (j := 0) rfl), c0, letters, rfl, rfl, isL c0, rfl, ?_⟩
        cases hc : isL c0 with
        | false =>
          refine iteF ?_
          have z0 := k H (Same.refl H)
          rw [en, hc] at z0
          exact z0
        | true =>
          refine iteT ?_
          refine ⟨_, rfl, z, rfl, fun D nD => lc_it (w := walk_str) (fun i H' => Same H H' ∧ H' D = some (.lst ((z.cps.toList.take i).map fun c => V.bl (isL c || isD c)))) ⟨Same.new nD, upd_same⟩ (fun _ _ _ _ => trivial) ?_ ?_⟩
          · rintro i x H1 H2 hi ⟨s1, e1⟩ ⟨rfl, c, hc, rfl⟩
            refine ⟨rfl, ?_⟩
            refine ⟨_, rfl, c, letters, rfl, rfl, isL c, rfl, ?_⟩
            have done : ∀ b : Bool, b = (isL c || isD c) → ∃ acc, H2 D = some (.lst acc) ∧ acc.length < sizeLine ∧ (Same H (upd H2 D (.lst (acc ++ [V.bl b]))) ∧ (upd H2 D (.lst (acc ++ [V.bl b]))) D = some (.lst ((z.cps.toList.take (i + 1)).map fun c => V.bl (isL c || isD c)))) := fun b hb => by
              refine ⟨_, e1, lt_line ?_, fun q o e => ?_, ?_⟩
              · have : z.cps.toList.length = z.length := rfl
                rw [List.length_map, List.length_take]
                omega
              · rw [upd_ne (ne_of_none e nD)]
                exact s1 _ _ e
              · rw [upd_same, hb]
                have g : z.cps.toList[i]? = some c := by
                  rw [Array.getElem?_toList]
                  exact hc
                rw [List.take_add_one, g, List.map_append]
                rfl
            cases hl : isL c with
            | true => exact iteT (done true (by rw [hl]; rfl))
            | false => exact iteF ⟨_, rfl, c, digits, rfl, rfl, done (isD c) (by rw [hl]; rfl)⟩
          · rintro H1 ⟨s1, e1⟩
            refine ⟨D, z.cps.toList.map fun c => isL c || isD c, rfl, lst_of ?_, ?_⟩
            · have : z.cps.toList.length ≤ z.cps.size := Nat.le_refl _
              rw [e1, List.take_of_length_le this, List.map_map]
              rfl
            · have z0 := k H1 s1
              rw [en, hc] at z0
              have e3 : (z.cps.toList.map fun c => isL c || isD c).all id = z.cps.toList.all fun c => isL c || isD c := by
                rw [List.all_map]
                rfl
              rw [e3]
              exact z0
      · refine ifT (by simp; omega) ?_
        have z0 := k H (Same.refl H)
        have en : nameOk z = false := by
          unfold nameOk
          rw [decide_eq_false h2]
          simp
        rw [en] at z0
        exact z0
    · refine ifF (decide_eq_false (show ¬ (1 : Int) ≤ (z.length : Nat) by omega)) ?_
      refine ⟨_, rfl, iteT ?_⟩
      have z0 := k H (Same.refl H)
      have en : nameOk z = false := by
        unfold nameOk
        rw [decide_eq_false h1]
        rfl
      rw [en] at z0
      exact z0
theorem ok_first_wrong_in_row (T : Tx K mg) : FnOk P w K mg base CX0 2 T.a_first_wrong_in_row T.fd_first_wrong_in_row ["row"] (spFirst K) := by
  refine T.F_first_wrong_in_row.ok sc_first_wrong_in_row (fun vs H Q E h => ?_) (fun cdv A outer s H vs Q E hr h => ?_)
  · obtain ⟨t, row, rfl, _⟩ := h
    rfl
  · obtain ⟨t, row, rfl, hT, hEl, k⟩ := h
    refine ⟨_, (pss_cons (ps_for PassesOwn.never rfl (pi_enumT (by rfl) T.n_enumerate (pa_cons (pv 0) pa_nil)) (pg_tup rfl (pgs_cons (pg_name (i := 1) sc_first_wrong_in_row.nd rfl (Or.inl rfl)) (pgs_cons (pg_name (i := 2) sc_first_wrong_in_row.nd rfl (Or.inl rfl)) pgs_nil)))
        (pss_one (ps_if (PW.pt (pw_or (pt_cmpR op_ge (pv 1) (pe_glob (v := .int 10) rfl T.g_MOST_THINGS.choose_spec ⟨_, rfl⟩) (nomark _)) (pw_or (pt_not (pt_val (pe_call (ok_is_name T) (hr.mono (by decide)) rfl T.g_is_name T.F_is_name.kp T.b_is_name .nil pass0 (pa_cons (pv 2) pa_nil)))) (pw_or1 (pt_cmpR op_in_seq (pv 2) (pe_slice sl_tupA (pv 0) po_none (po_some (pv 1))) (by rfl))))))
        (pss_one (ps_ret (pv 1)))
        pss_nil)))
      (pss_one (ps_ret pe_non))), ?_⟩
    refine ⟨_, rfl, t, _, rfl, hT, for_it walk_enumT (fun i σ H' => Same H H' ∧ (∀ j, j < i → badQ row j = false) ∧ ∃ v1 v2, σ = [some (.ref t), v1, v2]) ⟨Same.refl H, fun j hj => absurd hj (Nat.not_lt_zero j), none, none, rfl⟩ (fun i σ H' _ h => h.1.sqt hT) ?_ ?_⟩
    · rintro i x σ H1 H2 hi ⟨s1, hb, v1, v2, rfl⟩ ⟨p, y1, y2, rfl, np, rfl, e1, e2⟩
      cases e1
      have s2 := s1.new' np (o := .tup [.int (i : Nat), y2])
      refine ⟨p, _, rfl, tup_of upd_same, rfl, _, _, rfl, _, _, rfl, rfl, ?_⟩
      have g := getDv e2
      refine ⟨_, rfl, _, _, rfl, rfl, _, rfl, ?_⟩
      by_cases h10 : 10 ≤ i
      · refine ifT (decide_eq_true (by omega)) ?_
        have b : badQ row i = true := by
          unfold badQ
          rw [decide_eq_true h10]
          rfl
        have q := k _ s2
        rw [badV_some hi b hb] at q
        exact ⟨_, rfl, q⟩
      · refine ifF (decide_eq_false (by omega)) ?_
        refine ⟨_, rfl, y2, rfl, (hEl y2 (List.mem_of_getElem? e2)).frm (.of s2), fun H2 s3 => ?_⟩
        cases hn : nmV y2 with
        | false =>
          refine ⟨false, rfl, iteT ?_⟩
          have b : badQ row i = true := by
            unfold badQ
            rw [g, hn, decide_eq_false h10]
            rfl
          have q := k _ (s2.trans s3)
          rw [badV_some hi b hb] at q
          exact ⟨_, rfl, q⟩
        | true =>
          refine ⟨true, rfl, iteF ?_⟩
          refine ⟨_, rfl, _, rfl, _, rfl, _, rfl, slA_of (s3.sqt (s2.sqt hT)) fun q H3 s4 hq => ?_⟩
          rw [cut_upto] at hq
          obtain ⟨ez, _⟩ := nmV_str hn
          generalize strOf y2 = z at ez
          subst ez
          have et := names_take hb
          generalize (row.take i).map strOf = ss at et
          rw [et] at hq
          refine ⟨q, _, rfl, .inr hq, rfl, flat_strs _, ?_⟩
          refine ⟨_, rfl, ?_⟩
          show if inV (.str z) (ss.map V.str) = true then _ else _
          rw [inV_strs]
          by_cases hm : z ∈ ss
          · refine ifT (decide_eq_true hm) ?_
            have b : badQ row i = true := by
              unfold badQ
              rw [g, et, decide_eq_true (mem_strs.mpr hm)]
              simp
            have q := k _ ((s2.trans s3).trans s4)
            rw [badV_some hi b hb] at q
            exact ⟨_, rfl, q⟩
          · refine ifF (decide_eq_false hm) ⟨((s2.trans s3).trans s4), fun j hj => ?_, _, _, rfl⟩
            rcases Nat.lt_succ_iff_lt_or_eq.mp hj with hj | rfl
            · exact hb j hj
            · unfold badQ
              rw [g, et, hn, decide_eq_false h10, decide_eq_false (fun m => hm (mem_strs.mp m))]
              rfl
    · rintro σ H1 ⟨s1, hb, v1, v2, rfl⟩
      have q := k H1 s1
      rw [badV_none hb] at q
      exact q
end
end MH
namespace MH
open PySem PySem.Spec PyProof.Rows L2
/-! ### errors are made, rankings read -/
def spErr (C : Addr) (f : Str) : Sp := fun vs H Q _ => ∃ (a : Addr) (v : V), vs = [.ref a, v] ∧ H a = some (exo a C none) ∧ ∀ dx, H dx = none → dx ≠ a → Q .non (upd (upd H dx (exd dx [(f, v)])) a (exo a C (some dx)))
/-- what making an error leaves -/
theorem made_err {K : PySem.W.Frag} {H : Hp} {C : Addr} {f : Str} {v : V} {σ : L2.St} {W : XK} (h : ∀ dd H', Same H H' → H dd = none → H' dd = some (.xd [(f, v)]) → W (.ref C) (some dd) H') :
    ([v] : List V).length ≤ 1000 ∧ ∀ a, H a = none → spErr C f (.ref a :: ([v] ++ [])) (upd H a (exo a C none))
      (fun x H2 => x = .non ∧ ∃ (d : Addr) (fs : List (Str × V)), H2 a = some (exo a C (some d)) ∧ H2 d = some (exd d fs) ∧ H d = none ∧ W (.ref C) (some d) (upd (del H2 a) d (.xd fs))) (fun _ _ _ => False) := by
  refine ⟨by show 1 ≤ 1000; decide, fun a na => ⟨a, v, rfl, upd_same, fun dx ndx hne => ⟨rfl, dx, [(f, v)], upd_same, ?_, ?_, ?_⟩⟩⟩
  · rw [upd_ne hne, upd_same]
  · rw [upd_ne hne] at ndx
    exact ndx
  · rw [upd_ne hne] at ndx
    refine h dx _ (fun b o e => ?_) ndx upd_same
    have n1 : b ≠ a := ne_of_none e na
    have n2 : b ≠ dx := ne_of_none e ndx
    rw [upd_ne n2, del_ne n1, upd_ne n1, upd_ne n2, upd_ne n1]
    exact e
theorem sqt_but {K : PySem.W.Frag} {p a : Addr} {H H' : Hp} {C dx : Addr} {fs : List (Str × V)} {xs : List V} (s : SameB p H H') (hp : H p = some (.ins C dx fs)) (h : SqT K H a xs) : SqT K H' a xs := by
  rcases h with (h | ⟨o, h⟩) | h
  · exact .inl (.inl (s _ _ (ne_of h hp (by intro q; cases q)) h))
  · exact .inl (.inr ⟨o, s _ _ (ne_of h hp (by intro q; cases q)) h⟩)
  · exact .inr h
theorem TupO.but {p a : Addr} {H H' : Hp} {u : HO} {xs : List V} (h : TupO H a xs) (s : SameB p H H') (hp : H p = some u) (d : ∀ o, u ≠ .frz o (.tup xs)) : TupO H' a xs := by
  obtain ⟨o, h1, h2⟩ := h
  refine ⟨o, s _ _ (fun e => ?_) h1, h2⟩
  rw [e, hp] at h1
  exact d o (Option.some.inj h1)
theorem nrt : ¬ (("_row" : Str) = "_things") := by decide +kernel
def pf (t ts : Addr) : List (Str × V) := putF "_things" (.ref ts) (putF "_row" (.ref t) [])
theorem pf_row (t ts : Addr) : (pf t ts).lookup ("_row" : Str) = some (.ref t) := by
  unfold pf
  rw [lookup_putF, if_neg nrt, lookup_putF, if_pos rfl]
theorem pf_things (t ts : Addr) : (pf t ts).lookup ("_things" : Str) = some (.ref ts) := by
  unfold pf
  rw [lookup_putF, if_pos rfl]
theorem pf_no (t ts : Addr) {m : Str} (h1 : ¬ m = "_things") (h2 : ¬ m = "_row") : (pf t ts).lookup m = none := by
  unfold pf
  rw [lookup_putF, if_neg h1, lookup_putF, if_neg h2]
  rfl
/-- a ranking with this row stands at x -/
def RkAt (K : PySem.W.Frag) (C : Addr) (H : Hp) (x : Addr) (row : List Str) : Prop := ∃ (dx t ts : Addr) (th : List Str), H x = some (.ins C dx (pf t ts)) ∧ TupO H t (row.map V.str) ∧ SqT K H ts (th.map V.str) ∧ th.Perm row ∧ sortedS th = true ∧ RowOk row
theorem RkAt.same {K : PySem.W.Frag} {C x : Addr} {H H' : Hp} {row : List Str} (r : RkAt K C H x row) (s : Same H H') : RkAt K C H' x row := by
  obtain ⟨dx, t, ts, th, h1, h2, h3, h4⟩ := r
  exact ⟨dx, t, ts, th, s _ _ h1, h2.same s, s.sqt h3, h4⟩
theorem RkAt.sameB {K : PySem.W.Frag} {C x p : Addr} {H H' : Hp} {row : List Str} {zs : List V} (r : RkAt K C H x row) (s : SameB p H H') (hp : H p = some (.lst zs)) : RkAt K C H' x row := by
  obtain ⟨dx, t, ts, th, h1, h2, h3, h4⟩ := r
  exact ⟨dx, t, ts, th, s _ _ (ne_of h1 hp (by intro q; cases q)) h1, h2.but s hp (by intro o q; cases q), s.sqt hp h3, h4⟩
def spRow (K : PySem.W.Frag) (C : Addr) : Sp := fun vs H Q _ => ∃ (x : Addr) (row : List Str), vs = [.ref x] ∧ RkAt K C H x row ∧ ∀ t, SqT K H t (row.map V.str) → Q (.ref t) H
/-- an error of the class at C1 comes, and keeps v under f -/
def ErrF (C1 : Addr) (f : Str) (H : Hp) (E : XK) (v : V) : Prop := ∀ dd H', Same H H' → H dd = none → H' dd = some (.xd [(f, v)]) → E (.ref C1) (some dd) H'
theorem ErrF.back {C1 : Addr} {f : Str} {H H1 : Hp} {E : XK} {v : V} (h : ErrF C1 f H E v) (s : Same H H1) : ErrF C1 f H1 E v := fun dd H' s' n e => h dd H' (s.trans s') (by
  cases q : H dd with
  | none => rfl
  | some o =>
    rw [s _ _ q] at n
    cases n) e
theorem RkAt.ok {K : PySem.W.Frag} {C x : Addr} {H : Hp} {row : List Str} (r : RkAt K C H x row) : RowOk row := by
  obtain ⟨_, _, _, _, _, _, _, _, _, h⟩ := r
  exact h
def spCheckRow (K : PySem.W.Frag) (C E1 : Addr) : Sp := fun vs H Q E => ∃ (v : V) (o : Option (List V)), vs = [v] ∧ Av K C H v o ∧
  (∀ row, o = some row → errO o = none → ∀ H', Same H H' → Q .non H') ∧ (∀ ix, errO o = some ix → ErrF E1 "index" H E ix)
def spInitX (K : PySem.W.Frag) (C E1 : Addr) : Sp := fun vs H Q E => ∃ (x dx : Addr) (v : V) (o : Option (List V)), vs = [.ref x, v] ∧ H x = some (.ins C dx []) ∧ Av K C H v o ∧ (∀ row, o = some row → ∃ a, v = .ref a ∧ TupO H a row) ∧
  (∀ row, o = some row → errO o = none → ∀ H', SameB x H H' → RkAt K C H' x (row.map strOf) → Q .non H') ∧ (∀ ix, errO o = some ix → ErrF E1 "index" H E ix)
theorem back_none {H H' : Hp} {p : Addr} (s : Same H H') (n : H' p = none) : H p = none := by
  cases q : H p with
  | none => rfl
  | some o =>
    rw [s _ _ q] at n
    cases n
theorem errO_none {row : List V} (h : errO (some row) = none) : row ≠ [] ∧ badV row = none := by
  have h2 : (if row = [] then some V.non else match badV row with | none => none | some i => some (V.int (i : Nat))) = none := h
  by_cases hn : row = []
  · rw [if_pos hn] at h2
    cases h2
  · rw [if_neg hn] at h2
    cases hb : badV row with
    | none => exact ⟨hn, rfl⟩
    | some i =>
      rw [hb] at h2
      cases h2
section
variable {P : Program} {w : World} {K : PySem.W.Frag} {mg : Str → Option Value} {base : Heap}
theorem ok_InvalidRowD_initD (T : Tx K mg) : FnOk P w K mg base CX0 1 T.a_InvalidRowD_initD T.fd_InvalidRowD_initD ["self", "index"] (spErr T.E_InvalidRow "index") := by
  refine T.F_InvalidRowD_initD.ok sc_InvalidRowD_initD (fun vs H Q E h => ?_) (fun cdv A outer s H vs Q E hr h => ?_)
  · obtain ⟨a, v, rfl, _⟩ := h
    rfl
  · obtain ⟨a, v, rfl, ha, k⟩ := h
    refine ⟨_, (pss_one (ps_ost (pv 0) (pv 1))), ?_⟩
    exact ⟨_, rfl, _, rfl, a, T.E_InvalidRow, rfl, T.ox_InvalidRow, T.no_InvalidRow_index, .inl ⟨ha, fun dx nd hne => k dx nd hne⟩⟩
theorem ok_InvalidMenuD_initD (T : Tx K mg) : FnOk P w K mg base CX0 1 T.a_InvalidMenuD_initD T.fd_InvalidMenuD_initD ["self", "index"] (spErr T.E_InvalidMenu "index") := by
  refine T.F_InvalidMenuD_initD.ok sc_InvalidMenuD_initD (fun vs H Q E h => ?_) (fun cdv A outer s H vs Q E hr h => ?_)
  · obtain ⟨a, v, rfl, _⟩ := h
    rfl
  · obtain ⟨a, v, rfl, ha, k⟩ := h
    refine ⟨_, (pss_one (ps_ost (pv 0) (pv 1))), ?_⟩
    exact ⟨_, rfl, _, rfl, a, T.E_InvalidMenu, rfl, T.ox_InvalidMenu, T.no_InvalidMenu_index, .inl ⟨ha, fun dx nd hne => k dx nd hne⟩⟩
theorem ok_InvalidIndexD_initD (T : Tx K mg) : FnOk P w K mg base CX0 1 T.a_InvalidIndexD_initD T.fd_InvalidIndexD_initD ["self", "given"] (spErr T.E_InvalidIndex "given") := by
  refine T.F_InvalidIndexD_initD.ok sc_InvalidIndexD_initD (fun vs H Q E h => ?_) (fun cdv A outer s H vs Q E hr h => ?_)
  · obtain ⟨a, v, rfl, _⟩ := h
    rfl
  · obtain ⟨a, v, rfl, ha, k⟩ := h
    refine ⟨_, (pss_one (ps_ost (pv 0) (pv 1))), ?_⟩
    exact ⟨_, rfl, _, rfl, a, T.E_InvalidIndex, rfl, T.ox_InvalidIndex, T.no_InvalidIndex_given, .inl ⟨ha, fun dx nd hne => k dx nd hne⟩⟩
theorem ok_UnknownThingD_initD (T : Tx K mg) : FnOk P w K mg base CX0 1 T.a_UnknownThingD_initD T.fd_UnknownThingD_initD ["self", "given"] (spErr T.E_UnknownThing "given") := by
  refine T.F_UnknownThingD_initD.ok sc_UnknownThingD_initD (fun vs H Q E h => ?_) (fun cdv A outer s H vs Q E hr h => ?_)
  · obtain ⟨a, v, rfl, _⟩ := h
    rfl
  · obtain ⟨a, v, rfl, ha, k⟩ := h
    refine ⟨_, (pss_one (ps_ostG (B := "LookupError") (newId := "LookupError.__new__") (initId := "LookupError.__init__") (bmB := [Value.type "LookupError", Value.type "Exception", Value.type "BaseException", Value.type "object"]) (pv 0) (pv 1))), ?_⟩
    exact ⟨_, rfl, _, rfl, a, T.E_UnknownThing, rfl, T.ox_UnknownThing, T.no_UnknownThing_given, ha, fun dx nd hne => k dx nd hne⟩
theorem ok_check_row (T : Tx K mg) : FnOk P w K mg base (L2.CX P w) 3 T.a_check_row T.fd_check_row ["row"] (spCheckRow K T.C T.E_InvalidRow) := by
  refine T.F_check_row.okX sc_check_row (fun vs H Q E h => ?_) (fun cdv A outer s H vs Q E hr h => ?_)
  · obtain ⟨v, o, rfl, _⟩ := h
    rfl
  · obtain ⟨v, o, rfl, av, good, bad⟩ := h
    refine ⟨_, (pss_cons (ps_if (pt_not (pt_val (pe_call (ok_is_filled_tuple T) (hr.mono (by decide)) rfl T.g_is_filled_tuple T.F_is_filled_tuple.kp T.b_is_filled_tuple .nil pass0 (pa_cons (pv 0) pa_nil))))
        (pss_one (ps_raise rfl (takes_of rfl rfl rfl rfl) (pmk_oex T.ox_InvalidRow T.ic_InvalidRow T.ti_InvalidRow (ok_InvalidRowD_initD T) (hr.mono (by decide)) T.b_InvalidRowD_initD .nil pass0 rfl T.g_InvalidRow (pa_cons pe_non pa_nil))))
        pss_nil)
      (pss_cons (ps_set (i := 1) sc_check_row.nd rfl (Or.inl rfl) (pe_call (ok_first_wrong_in_row T) (hr.mono (by decide)) rfl T.g_first_wrong_in_row T.F_first_wrong_in_row.kp T.b_first_wrong_in_row .nil pass0 (pa_cons (pv 0) pa_nil)))
      (pss_one (ps_if (pt_cmpR op_notN (pv 1) pe_non (nomark _))
        (pss_one (ps_raise rfl (takes_of rfl rfl rfl rfl) (pmk_oex T.ox_InvalidRow T.ic_InvalidRow T.ti_InvalidRow (ok_InvalidRowD_initD T) (hr.mono (by decide)) T.b_InvalidRowD_initD .nil pass0 rfl T.g_InvalidRow (pa_cons (pv 1) pa_nil))))
        pss_nil)))), ?_⟩
    have left : filledO o = false → errO o = some .non := fun hf => by
      cases o with
      | none => rfl
      | some row =>
        cases row with
        | nil => rfl
        | cons a r => cases hf
    refine ⟨_, rfl, v, o, rfl, av, ?_⟩
    cases hf : filledO o with
    | false =>
      refine ⟨_, rfl, iteT ?_⟩
      refine made_err (K := K) (σ := []) fun dd H' s3 nd hd => ?_
      exact bad _ (left hf) dd H' s3 nd hd
    | true =>
      refine ⟨_, rfl, iteF ?_⟩
      cases o with
      | none => cases hf
      | some row =>
        obtain ⟨a, rfl, hT, hl, hE⟩ := av
        have hne : row ≠ [] := fun e => by
          rw [e] at hf
          cases hf
        refine ⟨_, rfl, a, row, rfl, hT, hE, fun H1 s1 => ?_⟩
        cases hb : badV row with
        | none =>
          refine ⟨_, rfl, rfl, _, rfl, iteF ?_⟩
          exact good row rfl (by unfold errO; simp [hne, hb]) H1 s1
        | some i =>
          refine ⟨_, rfl, rfl, _, rfl, iteT ?_⟩
          refine ⟨_, rfl, made_err (K := K) (σ := []) fun dd H' s3 nd hd => ?_⟩
          exact bad (.int (i : Nat)) (by unfold errO; simp [hne, hb]) dd H' (s1.trans s3) (back_none s1 nd) hd
theorem okX_RankingD_initD (T : Tx K mg) : FnOk P w K mg base (L2.CX P w) 4 T.a_RankingD_initD T.fd_RankingD_initD ["self", "row"] (spInitX K T.C T.E_InvalidRow) := by
  refine T.F_RankingD_initD.okX sc_RankingD_initD (fun vs H Q E h => ?_) (fun cdv A outer s H vs Q E hr h => ?_)
  · obtain ⟨x, dx, v, o, rfl, _⟩ := h
    rfl
  · obtain ⟨x, dx, v, o, rfl, hx, av, tu, good, bad⟩ := h
    refine ⟨_, (pss_cons (ps_expr (pe_call (ok_check_row T) (hr.mono (by decide)) rfl T.g_check_row T.F_check_row.kp T.b_check_row .nil (passX rfl rfl rfl rfl) (pa_cons (pv 1) pa_nil)))
      (pss_cons (ps_fld (pv 0) (pv 1) rfl)
      (pss_one (ps_fld (pv 0) (pe_callTy call_tupF (by rfl) T.n_tuple (by decide +kernel) (pa_cons (pe_callB cr_sortedU (by rfl) T.n_sorted (by decide +kernel) (pa_cons (pv 1) pa_nil)) pa_nil)) rfl)))), ?_⟩
    refine ⟨_, rfl, v, o, rfl, av, fun row eo he H1 s1 => ?_, fun ix he dd H' s3 nd hd => bad ix he dd H' s3 nd hd⟩
    subst eo
    obtain ⟨t, rfl, hTu⟩ := tu row rfl
    have hT := hTu.sqt (K := K)
    obtain ⟨hne, hb⟩ := errO_none he
    obtain ⟨er, ro⟩ := rowOk_of hne hb
    have k := good row rfl he
    generalize row.map strOf = ss at er ro k
    subst er
    have hx1 := s1 _ _ hx
    refine ⟨_, rfl, _, rfl, x, T.C, dx, _, rfl, hx1, T.cl, T.no__row, (by show 0 < 1000; decide), ?_⟩
    have b2 : SameB x H (upd H1 x (.ins T.C dx (putF "_row" (.ref t) []))) := (SameB.of s1).put
    have hT2 := sqt_but (K := K) b2 hx hT
    have hz : ss.length < 64 := by
      have := ro.le
      omega
    refine ⟨_, rfl, t, ss, rfl, hT2, hz, fun ys p pm so np => ⟨p, _, rfl, .inl ⟨lst_of upd_same, fun u ou nu od => ?_⟩⟩⟩
    have b3 := (b2.new np (o := .lst (ys.map V.str))).new nu (o := .frz ou (.tup (ys.map V.str)))
    have npx : x ≠ p := fun e => by
      rw [← e, upd_same] at np
      cases np
    have nux : x ≠ u := fun e => by
      rw [← e, upd_ne npx, upd_same] at nu
      cases nu
    refine ⟨_, rfl, x, T.C, dx, _, rfl, (by rw [upd_ne nux, upd_ne npx]; exact upd_same), T.cl, T.no__things, (by show 1 < 1000; decide), ?_⟩
    refine k _ b3.put ⟨dx, t, u, ys, upd_same, hTu.but b3.put hx (by intro o q; cases q), ?_, pm, so, ro⟩
    refine frz_of (o := ou) ?_
    rw [upd_ne nux.symm]
    exact upd_same
theorem ok_Ranking_row (T : Tx K mg) : FnOk P w K mg base CX0 1 T.a_Ranking_row T.fd_Ranking_row ["self"] (spRow K T.C) := by
  refine T.F_Ranking_row.ok sc_Ranking_row (fun vs H Q E h => ?_) (fun cdv A outer s H vs Q E hr h => ?_)
  · obtain ⟨x, row, rfl, _⟩ := h
    rfl
  · obtain ⟨x, row, rfl, ⟨dx, t, ts, th, hx, hT, _⟩, k⟩ := h
    refine ⟨_, (pss_one (ps_ret (pe_fld (pv 0) rfl))), ?_⟩
    exact ⟨_, rfl, x, T.C, dx, _, _, rfl, hx, T.cl, T.no__row, pf_row t ts, k t hT.sqt⟩
end
end MH
namespace MH
open PySem PySem.Spec PyProof.Rows L2
/-- a text or no text -/
def StrQ (K : PySem.W.Frag) (H : Hp) (v : V) : Prop := (∃ z : Str, v = .str z) ∨ ((∀ z, v ≠ .str z) ∧ ∃ T : String, TyX K H v (.type T) ∧ kitB T "str" = some false)
theorem El.strQ {K : PySem.W.Frag} {H : Hp} {v : V} (h : El K H v) : StrQ K H v := h.kind.imp (fun ⟨z, e, _⟩ => ⟨z, e⟩) id
def oneV (ss : List Str) : V → Bool
  | .str z => decide (z ∈ ss)
  | _ => false
theorem oneV_no {ss : List Str} {v : V} (h : ∀ z, v ≠ .str z) : oneV ss v = false := by
  cases v <;> first | rfl | exact absurd rfl (h _)
theorem oneV_str {ss : List Str} {v : V} (h : oneV ss v = true) : v = .str (strOf v) ∧ strOf v ∈ ss := by
  cases v <;> first | exact ⟨rfl, of_decide_eq_true h⟩ | cases h
theorem oneV_perm {ss tt : List Str} (p : ss.Perm tt) (v : V) : oneV ss v = oneV tt v := by
  cases v <;> first | rfl | exact decide_eq_decide.mpr p.mem_iff
def ltV : V → V → Bool
  | .str a, .str b => decide (a.cps.toList < b.cps.toList)
  | _, _ => false
/-- what cannot stand at this place of a menu -/
def badN (ss : List Str) (row : List V) (k : Nat) : Bool := !oneV ss (row.getD k .non) || (decide (0 < k) && !ltV (row.getD (k - 1) .non) (row.getD k .non))
def badU (ss : List Str) (row : List V) : Option Nat := (List.range row.length).find? (badN ss row)
theorem badU_some {ss : List Str} {row : List V} {i : Nat} (hi : i < row.length) (b : badN ss row i = true) (h : ∀ j, j < i → badN ss row j = false) : badU ss row = some i := by
  unfold badU
  rw [List.find?_range_eq_some]
  exact ⟨b, List.mem_range.mpr hi, fun j hj => by rw [h j hj]; rfl⟩
theorem badU_none {ss : List Str} {row : List V} (h : ∀ j, j < row.length → badN ss row j = false) : badU ss row = none := by
  unfold badU
  rw [List.find?_eq_none]
  intro j hj
  rw [h j (List.mem_range.mp hj)]
  simp
theorem badU_lt {ss : List Str} {row : List V} {i : Nat} (h : badU ss row = some i) : i < row.length := List.mem_range.mp (List.mem_of_find?_eq_some h)
theorem badN_ok {ss : List Str} {row : List V} {k : Nat} (hk : k < row.length) (h : badN ss row k = false) : row[k] = .str (strOf row[k]) ∧ strOf row[k] ∈ ss := by
  have g : row.getD k .non = row[k] := getDv (List.getElem?_eq_getElem hk)
  unfold badN at h
  rw [g, Bool.or_eq_false_iff] at h
  exact oneV_str (by simpa using h.1)
theorem badU_perm {ss tt : List Str} (p : ss.Perm tt) (row : List V) : badU ss row = badU tt row := by
  have e : badN ss row = badN tt row := by
    funext k
    unfold badN
    rw [oneV_perm p]
  unfold badU
  rw [e]
/-- the index that is told of what is no menu; none of a menu -/
def errM (ss : List Str) : Option (List V) → Option V
  | none => some .non
  | some row => if row = [] then some .non else match badU ss row with
    | none => none
    | some i => some (.int (i : Nat))
theorem errM_of {ss : List Str} {row : List V} (h : row ≠ []) : errM ss (some row) = match badU ss row with | none => none | some i => some (V.int (i : Nat)) := if_neg h
theorem errM_none {ss : List Str} {row : List V} (h : errM ss (some row) = none) : row ≠ [] ∧ badU ss row = none := by
  by_cases hn : row = []
  · subst hn
    cases h
  · rw [errM_of hn] at h
    cases hb : badU ss row with
    | none => exact ⟨hn, rfl⟩
    | some i =>
      rw [hb] at h
      cases h
theorem errM_perm {ss tt : List Str} (p : ss.Perm tt) (o : Option (List V)) : errM ss o = errM tt o := by
  cases o with
  | none => rfl
  | some row =>
    by_cases hn : row = []
    · subst hn
      rfl
    · rw [errM_of hn, errM_of hn, badU_perm p]
/-- a menu holds texts among the things -/
theorem menu_strs {ss : List Str} {row : List V} (h : badU ss row = none) : row = (row.map strOf).map V.str ∧ ∀ z ∈ row.map strOf, z ∈ ss := by
  have h' : ∀ j, (hj : j < row.length) → badN ss row j = false := fun j hj => by
    unfold badU at h
    rw [List.find?_eq_none] at h
    have := h j (List.mem_range.mpr hj)
    simpa using this
  have q : ∀ x ∈ row, x = .str (strOf x) ∧ strOf x ∈ ss := fun x hx => by
    obtain ⟨j, hj, rfl⟩ := List.mem_iff_getElem.mp hx
    exact badN_ok hj (h' j hj)
  refine ⟨?_, fun z hz => ?_⟩
  · rw [List.map_map]
    rw [List.map_congr_left (f := V.str ∘ strOf) (g := id) fun x hx => (q x hx).1.symm, List.map_id]
  · obtain ⟨x, hx, rfl⟩ := List.mem_map.mp hz
    exact (q x hx).2
def spOneX (K : PySem.W.Frag) : Sp := fun vs H Q _ => ∃ (v : V) (t : Addr) (ss : List Str), vs = [v, .ref t] ∧ StrQ K H v ∧ SqT K H t (ss.map V.str) ∧ Q (.bl (oneV ss v)) H
def spFirstM (K : PySem.W.Frag) : Sp := fun vs H Q _ => ∃ (m t : Addr) (row : List V) (ss : List Str), vs = [.ref m, .ref t] ∧ SqT K H m row ∧ (∀ x ∈ row, El K H x) ∧ SqT K H t (ss.map V.str) ∧ ∀ H', Same H H' → Q (optV (badU ss row)) H'
def spCheckM (K : PySem.W.Frag) (C E1 : Addr) : Sp := fun vs H Q E => ∃ (v : V) (o : Option (List V)) (t : Addr) (ss : List Str), vs = [v, .ref t] ∧ Av K C H v o ∧ SqT K H t (ss.map V.str) ∧
  (∀ row, o = some row → errM ss o = none → ∀ H', Same H H' → Q .non H') ∧ (∀ ix, errM ss o = some ix → ErrF E1 "index" H E ix)
def spCheckT (K : PySem.W.Frag) (E1 : Addr) : Sp := fun vs H Q E => ∃ (v : V) (t : Addr) (ss : List Str), vs = [v, .ref t] ∧ StrQ K H v ∧ SqT K H t (ss.map V.str) ∧ (oneV ss v = true → Q .non H) ∧ (oneV ss v = false → ErrF E1 "given" H E v)
/-- a whole number, a truth, or no number -/
def IntQ (K : PySem.W.Frag) (H : Hp) (v : V) : Prop := (∃ i, v = .int i) ∨ (∃ b, v = .bl b) ∨ ((∀ i, v ≠ .int i) ∧ ∃ T : String, TyX K H v (.type T) ∧ kitB T "int" = some false)
def inRange (n : Nat) : V → Bool
  | .int i => decide (0 ≤ i) && decide (i < n)
  | _ => false
def spIndexX (K : PySem.W.Frag) : Sp := fun vs H Q _ => ∃ (v : V) (n : Nat), vs = [v, .int n] ∧ IntQ K H v ∧ Q (.bl (inRange n v)) H
section
variable {P : Program} {w : World} {K : PySem.W.Frag} {mg : Str → Option Value} {base : Heap}
theorem ok_is_index (T : Tx K mg) : FnOk P w K mg base CX0 1 T.a_is_index T.fd_is_index ["value", "many"] (spIndexX K) := by
  refine T.F_is_index.ok sc_is_index (fun vs H Q E h => ?_) (fun cdv A outer s H vs Q E hr h => ?_)
  · obtain ⟨j, n, rfl, _⟩ := h
    rfl
  · obtain ⟨v, n, rfl, iq, k⟩ := h
    refine ⟨_, (pss_one (ps_ret (pe_and (pe_callB call_isi (by rfl) T.n_isinstance (by decide +kernel) (pa_cons (pv 0) (pa_cons (pe_bltn (v := .ty "int") (by rfl) T.n_int (by decide +kernel) rfl) pa_nil))) (pe_and (pe_not (pe_callB call_isi (by rfl) T.n_isinstance (by decide +kernel) (pa_cons (pv 0) (pa_cons (pe_bltn (v := .ty "bool") (by rfl) T.n_bool (by decide +kernel) rfl) pa_nil)))) (pe_one (pe_chain op_le op_lt pe_int (pv 0) (pv 1))))))), ?_⟩
    rcases iq with ⟨i, rfl⟩ | ⟨b, rfl⟩ | ⟨ni, t, ty, kt⟩
    · refine ⟨_, rfl, _, _, _, _, true, rfl, .ty _, .base (.int _), kit_ty (by decide +kernel), true, rfl, iteT ?_⟩
      refine ⟨_, rfl, _, _, _, _, false, rfl, .ty _, .base (.int _), kit_ty (by decide +kernel), false, rfl, true, rfl, iteT ?_⟩
      refine ⟨_, rfl, _, _, rfl, rfl, ?_⟩
      have k : Q (.bl (decide (0 ≤ i) && decide (i < n))) H := k
      by_cases h0 : 0 ≤ i
      · refine ⟨_, rfl, ifT (decide_eq_true h0) ?_⟩
        refine ⟨_, rfl, _, _, rfl, rfl, ?_⟩
        rw [decide_eq_true h0, Bool.true_and] at k
        exact k
      · refine ⟨_, rfl, ifF (decide_eq_false h0) ?_⟩
        rw [decide_eq_false h0, Bool.false_and] at k
        exact k
    · refine ⟨_, rfl, _, _, _, _, true, rfl, .ty _, .base (.bl _), kit_ty (by decide +kernel), true, rfl, iteT ?_⟩
      exact ⟨_, rfl, _, _, _, _, true, rfl, .ty _, .base (.bl _), kit_ty (by decide +kernel), true, rfl, false, rfl, iteF k⟩
    · have e : inRange n v = false := by cases v <;> first | rfl | exact absurd rfl (ni _)
      rw [e] at k
      exact ⟨_, rfl, _, _, _, _, false, rfl, .ty _, ty, kit_ty kt, false, rfl, iteF k⟩
theorem ok_is_one_of (T : Tx K mg) : FnOk P w K mg base CX0 1 T.a_is_one_of T.fd_is_one_of ["value", "things"] (spOneX K) := by
  refine T.F_is_one_of.ok sc_is_one_of (fun vs H Q E h => ?_) (fun cdv A outer s H vs Q E hr h => ?_)
  · obtain ⟨z, t, ss, rfl, _⟩ := h
    rfl
  · obtain ⟨v, t, ss, rfl, sq, hT, k⟩ := h
    refine ⟨_, (pss_one (ps_ret (pe_and (pe_callB call_isi (by rfl) T.n_isinstance (by decide +kernel) (pa_cons (pv 0) (pa_cons (pe_bltn (v := .ty "str") (by rfl) T.n_str (by decide +kernel) rfl) pa_nil))) (pe_one (pe_cmpR op_in_seq (pv 0) (pv 1) (by rfl)))))), ?_⟩
    rcases sq with ⟨z, rfl⟩ | ⟨nz, tt, ty, kt⟩
    · refine ⟨_, rfl, _, _, _, _, true, rfl, .ty _, .base (.str z), kit_ty (by decide +kernel), true, rfl, iteT ?_⟩
      refine ⟨_, rfl, _, rfl, t, _, rfl, .inr hT, rfl, flat_strs ss, ?_⟩
      show Q (.bl (inV (.str z) (ss.map V.str))) H
      rw [inV_strs]
      exact k
    · rw [oneV_no nz] at k
      exact ⟨_, rfl, _, _, _, _, false, rfl, .ty _, ty, kit_ty kt, false, rfl, iteF k⟩
theorem ok_first_wrong_on_menu (T : Tx K mg) : FnOk P w K mg base CX0 2 T.a_first_wrong_on_menu T.fd_first_wrong_on_menu ["menu", "things"] (spFirstM K) := by
  refine T.F_first_wrong_on_menu.ok sc_first_wrong_on_menu (fun vs H Q E h => ?_) (fun cdv A outer s H vs Q E hr h => ?_)
  · obtain ⟨m, t, ms, ss, rfl, _⟩ := h
    rfl
  · obtain ⟨m, t, row, ss, rfl, hM, hE, hT, k⟩ := h
    refine ⟨_, (pss_cons (ps_for PassesOwn.never rfl (pi_enumT (by rfl) T.n_enumerate (pa_cons (pv 0) pa_nil)) (pg_tup rfl (pgs_cons (pg_name (i := 2) sc_first_wrong_on_menu.nd rfl (Or.inl rfl)) (pgs_cons (pg_name (i := 3) sc_first_wrong_on_menu.nd rfl (Or.inl rfl)) pgs_nil)))
        (pss_cons (ps_if (pt_not (pt_val (pe_call (ok_is_one_of T) (hr.mono (by decide)) rfl T.g_is_one_of T.F_is_one_of.kp T.b_is_one_of .nil pass0 (pa_cons (pv 3) (pa_cons (pv 1) pa_nil)))))
        (pss_one (ps_ret (pv 2)))
        pss_nil)
      (pss_one (ps_if (PW.pt (pw_and (pt_cmpR op_gt (pv 2) pe_int (nomark _)) (pw_and1 (pt_cmpR op_le_str (pv 3) (pe_ix ix_tup (pv 0) (pe_op op_sub (pv 2) pe_int) (fun _ _ => rfl)) (nomark _)))))
        (pss_one (ps_ret (pv 2)))
        pss_nil))))
      (pss_one (ps_ret pe_non))), ?_⟩
    refine ⟨_, rfl, m, _, rfl, hM, for_it walk_enumT (fun i σ H' => Same H H' ∧ (∀ j, j < i → badN ss row j = false) ∧ ∃ v1 v2, σ = [some (.ref m), some (.ref t), v1, v2]) ⟨Same.refl H, fun j hj => absurd hj (Nat.not_lt_zero j), none, none, rfl⟩ (fun i σ H' _ h => h.1.sqt hM) ?_ ?_⟩
    · rintro i x σ H1 H2 hi ⟨s1, hb, v1, v2, rfl⟩ ⟨p, y1, y2, rfl, np, rfl, e1, e2⟩
      cases e1
      have s2 := s1.new' np (o := .tup [.int (i : Nat), y2])
      refine ⟨p, _, rfl, tup_of upd_same, rfl, _, _, rfl, _, _, rfl, rfl, ?_⟩
      have g := getDv e2
      refine ⟨_, rfl, _, rfl, y2, t, ss, rfl, ((hE y2 (List.mem_of_getElem? e2)).frm (.of s2)).strQ, s2.sqt hT, _, rfl, ?_⟩
      cases ho : oneV ss y2 with
      | false =>
        refine ifT rfl ?_
        have b : badN ss row i = true := by
          unfold badN
          rw [g, ho]
          rfl
        have q := k _ s2
        rw [badU_some hi b hb] at q
        exact ⟨_, rfl, q⟩
      | true =>
        refine ifF rfl ?_
        obtain ⟨ey, _⟩ := oneV_str ho
        generalize strOf y2 = z at ey
        subst ey
        refine ⟨_, rfl, _, _, rfl, rfl, _, rfl, ?_⟩
        have last : ∀ j, j < i + 1 → (badN ss row i = false) → badN ss row j = false := fun j hj e => by
          rcases Nat.lt_succ_iff_lt_or_eq.mp hj with hj | rfl
          · exact hb j hj
          · exact e
        cases i with
        | zero =>
          have b : badN ss row 0 = false := by
            unfold badN
            rw [g, ho]
            rfl
          exact ifF (by decide) (iteF ⟨s2, fun j hj => last j hj b, _, _, rfl⟩)
        | succ i =>
          refine ifT (decide_eq_true (by omega)) ?_
          have hi2 : i < row.length := by omega
          obtain ⟨ep, _⟩ := badN_ok hi2 (hb i (by omega))
          have gp : row[i]? = some row[i] := List.getElem?_eq_getElem hi2
          have gd := getDv gp
          generalize row[i] = yp at ep gp gd
          generalize strOf yp = a at ep
          subst ep
          have ix : (((i + 1 : Nat) : Int) - 1) = (i : Nat) := by omega
          refine ⟨_, rfl, _, rfl, _, rfl, _, _, rfl, rfl, m, _, _, _, rfl, rfl, s2.sqt hM, (by rw [ix]; exact atI_nat gp), _, _, rfl, rfl, _, rfl, ?_⟩
          have bn : badN ss row (i + 1) = !decide (a.cps.toList < z.cps.toList) := by
            unfold badN
            rw [g, ho, show i + 1 - 1 = i from rfl, gd]
            rfl
          cases hc : decide (a.cps.toList < z.cps.toList) with
          | true =>
            rw [hc] at bn
            refine ifF ?_ ⟨s2, fun j hj => last j hj bn, _, _, rfl⟩
            rfl
          | false =>
            rw [hc] at bn
            refine ifT ?_ ?_
            · rfl
            · have q := k _ s2
              rw [badU_some hi bn hb] at q
              exact ⟨_, rfl, q⟩
    · rintro σ H1 ⟨s1, hb, v1, v2, rfl⟩
      have q := k H1 s1
      rw [badU_none hb] at q
      exact q
theorem ok_check_menu (T : Tx K mg) : FnOk P w K mg base (L2.CX P w) 3 T.a_check_menu T.fd_check_menu ["menu", "things"] (spCheckM K T.C T.E_InvalidMenu) := by
  refine T.F_check_menu.okX sc_check_menu (fun vs H Q E h => ?_) (fun cdv A outer s H vs Q E hr h => ?_)
  · obtain ⟨v, o, t, ss, rfl, _⟩ := h
    rfl
  · obtain ⟨v, o, t, ss, rfl, av, hS, good, bad⟩ := h
    refine ⟨_, (pss_cons (ps_if (pt_not (pt_val (pe_call (ok_is_filled_tuple T) (hr.mono (by decide)) rfl T.g_is_filled_tuple T.F_is_filled_tuple.kp T.b_is_filled_tuple .nil pass0 (pa_cons (pv 0) pa_nil))))
        (pss_one (ps_raise rfl (takes_of rfl rfl rfl rfl) (pmk_oex T.ox_InvalidMenu T.ic_InvalidMenu T.ti_InvalidMenu (ok_InvalidMenuD_initD T) (hr.mono (by decide)) T.b_InvalidMenuD_initD .nil pass0 rfl T.g_InvalidMenu (pa_cons pe_non pa_nil))))
        pss_nil)
      (pss_cons (ps_set (i := 2) sc_check_menu.nd rfl (Or.inl rfl) (pe_call (ok_first_wrong_on_menu T) (hr.mono (by decide)) rfl T.g_first_wrong_on_menu T.F_first_wrong_on_menu.kp T.b_first_wrong_on_menu .nil pass0 (pa_cons (pv 0) (pa_cons (pv 1) pa_nil))))
      (pss_one (ps_if (pt_cmpR op_notN (pv 2) pe_non (nomark _))
        (pss_one (ps_raise rfl (takes_of rfl rfl rfl rfl) (pmk_oex T.ox_InvalidMenu T.ic_InvalidMenu T.ti_InvalidMenu (ok_InvalidMenuD_initD T) (hr.mono (by decide)) T.b_InvalidMenuD_initD .nil pass0 rfl T.g_InvalidMenu (pa_cons (pv 2) pa_nil))))
        pss_nil)))), ?_⟩
    have left : filledO o = false → errM ss o = some .non := fun hf => by
      cases o with
      | none => rfl
      | some row =>
        cases row with
        | nil => rfl
        | cons a r => cases hf
    refine ⟨_, rfl, v, o, rfl, av, ?_⟩
    cases hf : filledO o with
    | false =>
      refine ⟨_, rfl, iteT ?_⟩
      refine made_err (K := K) (σ := []) fun dd H' s3 nd hd => ?_
      exact bad _ (left hf) dd H' s3 nd hd
    | true =>
      refine ⟨_, rfl, iteF ?_⟩
      cases o with
      | none => cases hf
      | some row =>
        obtain ⟨a, rfl, hT, hl, hE⟩ := av
        have hne : row ≠ [] := fun e => by
          rw [e] at hf
          cases hf
        refine ⟨_, rfl, _, rfl, a, t, row, ss, rfl, hT, hE, hS, fun H1 s1 => ?_⟩
        cases hb : badU ss row with
        | none =>
          refine ⟨_, rfl, rfl, _, rfl, iteF ?_⟩
          exact good row rfl (by rw [errM_of hne, hb]) H1 s1
        | some i =>
          refine ⟨_, rfl, rfl, _, rfl, iteT ?_⟩
          refine ⟨_, rfl, made_err (K := K) (σ := []) fun dd H' s3 nd hd => ?_⟩
          exact bad (.int (i : Nat)) (by rw [errM_of hne, hb]) dd H' (s1.trans s3) (back_none s1 nd) hd
theorem ok_check_thing (T : Tx K mg) : FnOk P w K mg base (L2.CX P w) 3 T.a_check_thing T.fd_check_thing ["thing", "things"] (spCheckT K T.E_UnknownThing) := by
  refine T.F_check_thing.okX sc_check_thing (fun vs H Q E h => ?_) (fun cdv A outer s H vs Q E hr h => ?_)
  · obtain ⟨z, t, ss, rfl, _⟩ := h
    rfl
  · obtain ⟨v, t, ss, rfl, sq, hT, good, bad⟩ := h
    refine ⟨_, (pss_one (ps_if (pt_not (pt_val (pe_call (ok_is_one_of T) (hr.mono (by decide)) rfl T.g_is_one_of T.F_is_one_of.kp T.b_is_one_of .nil pass0 (pa_cons (pv 0) (pa_cons (pv 1) pa_nil)))))
        (pss_one (ps_raise rfl (takes_of rfl rfl rfl rfl) (pmk_g T.ox_UnknownThing T.ic_UnknownThing T.ti_UnknownThing (ok_UnknownThingD_initD T) (hr.mono (by decide)) T.b_UnknownThingD_initD .nil pass0 rfl T.g_UnknownThing (pa_cons (pv 0) pa_nil))))
        pss_nil)), ?_⟩
    refine ⟨_, rfl, _, rfl, v, t, ss, rfl, sq, hT, _, rfl, ?_⟩
    cases ho : oneV ss v with
    | true => exact ifF rfl (good ho)
    | false =>
      refine ifT rfl ?_
      exact ⟨_, rfl, made_err (K := K) (σ := []) fun dd H' s3 nd hd => bad ho dd H' s3 nd hd⟩
end
end MH
namespace MH
open PySem PySem.Spec PyProof.Rows L2
theorem str_at {ss : List Str} {i : Nat} {y : V} (h : (ss.map V.str)[i]? = some y) : ∃ z, ss[i]? = some z ∧ y = V.str z := by
  rw [List.getElem?_map] at h
  cases e : ss[i]? with
  | none =>
    rw [e] at h
    cases h
  | some z =>
    rw [e] at h
    exact ⟨z, rfl, (Option.some.inj h).symm⟩
def firstIn (row ms : List Str) : Str := (row.filter fun z => decide (z ∈ ms)).headD ""
/-- a comprehension that keeps what is on a menu, and its first -/
theorem take_filter {ss : List Str} {f : Str → Bool} {i : Nat} {z : Str} (h : ss[i]? = some z) : (ss.take (i + 1)).filter f = (ss.take i).filter f ++ (if f z then [z] else []) := by
  rw [List.take_add_one, h, List.filter_append]
  cases hf : f z <;> simp [hf]
theorem filter_ne {row ms : List Str} (hne : ms ≠ []) (hin : ∀ z ∈ ms, z ∈ row) : (row.filter fun z => decide (z ∈ ms)) ≠ [] := by
  obtain ⟨a, r, rfl⟩ := List.exists_cons_of_ne_nil hne
  intro e
  have m : a ∈ row.filter fun z => decide (z ∈ a :: r) := List.mem_filter.mpr ⟨hin a List.mem_cons_self, by simp⟩
  rw [e] at m
  cases m
def less (row ns : List Str) : List Str := row.filter fun z => !decide (z ∈ ns)
def spBestX (K : PySem.W.Frag) (C E1 : Addr) : Sp := fun vs H Q E => ∃ (x : Addr) (v : V) (row : List Str) (o : Option (List V)), vs = [.ref x, v] ∧ RkAt K C H x row ∧ Av K C H v o ∧
  (∀ mrow, o = some mrow → errM row o = none → ∀ H', Same H H' → Q (.str (firstIn row (mrow.map strOf))) H') ∧ (∀ ix, errM row o = some ix → ErrF E1 "index" H E ix)
def spIndexOf (K : PySem.W.Frag) : Sp := fun vs H Q _ => ∃ (z : Str) (t : Addr) (row : List Str) (j : Nat), vs = [.str z, .ref t] ∧ SqT K H t (row.map V.str) ∧ row[j]? = some z ∧ row.Nodup ∧ row.length ≤ 1000 ∧ ∀ H', Same H H' → Q (.int (j : Nat)) H'
def spPlaceX (K : PySem.W.Frag) (C E1 : Addr) : Sp := fun vs H Q E => ∃ (x : Addr) (v : V) (row : List Str), vs = [.ref x, v] ∧ RkAt K C H x row ∧ StrQ K H v ∧
  (∀ (z : Str) (j : Nat), v = .str z → row[j]? = some z → ∀ H', Same H H' → Q (.int (j : Nat)) H') ∧ (oneV row v = false → ErrF E1 "given" H E v)
def spBelowX (K : PySem.W.Frag) (C E1 : Addr) : Sp := fun vs H Q E => ∃ (x : Addr) (v : V) (row : List Str), vs = [.ref x, v] ∧ RkAt K C H x row ∧ StrQ K H v ∧ oneV row v = false ∧ ErrF E1 "given" H E v
def spWithoutX (K : PySem.W.Frag) (C E1 E2 : Addr) : Sp := fun vs H Q E => ∃ (x p : Addr) (row : List Str) (ns : List V), vs = [.ref x, .ref p] ∧ RkAt K C H x row ∧ SqT K H p ns ∧ (∀ v ∈ ns, StrQ K H v) ∧
  ((∃ (i : Nat) (v : V), ns[i]? = some v ∧ oneV row v = false ∧ (∀ j y, j < i → ns[j]? = some y → oneV row y = true) ∧ ErrF E1 "given" H E v) ∨
    (∃ zs : List Str, ns = zs.map V.str ∧ (∀ z ∈ zs, z ∈ row) ∧ less row zs = [] ∧ ErrF E2 "index" H E .non))
def spGetX (K : PySem.W.Frag) (C E1 : Addr) : Sp := fun vs H Q E => ∃ (x : Addr) (v : V) (row : List Str), vs = [.ref x, v] ∧ RkAt K C H x row ∧ IntQ K H v ∧
  (∀ (j : Nat) (z : Str), v = .int (j : Nat) → row[j]? = some z → Q (.str z) H) ∧ (inRange row.length v = false → ErrF E1 "given" H E v)
section
variable {P : Program} {w : World} {K : PySem.W.Frag} {mg : Str → Option Value} {base : Heap}
theorem ok_Ranking_best (T : Tx K mg) : FnOk P w K mg base (L2.CX P w) 4 T.a_Ranking_best T.fd_Ranking_best ["self", "menu"] (spBestX K T.C T.E_InvalidMenu) := by
  refine T.F_Ranking_best.okX sc_Ranking_best (fun vs H Q E h => ?_) (fun cdv A outer s H vs Q E hr h => ?_)
  · obtain ⟨x, v, row, o, rfl, _⟩ := h
    rfl
  · obtain ⟨x, v, row, o, rfl, ⟨dx, t, ts, th, hx, hT, hS, pm, so, ro⟩, av, good, bad⟩ := h
    refine ⟨_, (pss_cons (ps_expr (pe_call (ok_check_menu T) (hr.mono (by decide)) rfl T.g_check_menu T.F_check_menu.kp T.b_check_menu .nil (passX rfl rfl rfl rfl) (pa_cons (pv 1) (pa_cons (pe_fld (pv 0) rfl) pa_nil))))
      (pss_one (ps_ret (pe_ix ix_list (pe_lc (own := [("thing", 2)]) (g := gName 2) (tt := tTest (tOp (rIn K false) (tVar 2) (tVar 1))) rfl sc_Ranking_best.nd (pi_tup (pe_fld (pv 0) rfl)) (blkOk_by (own := [("thing", 2)]) (N := names_Ranking_best) (sc := defScope st_Ranking_best) (by decide +kernel)) (fun _ _ _ _ _ => pg_name (i := 2) sc_Ranking_best.nd rfl (Or.inl rfl)) (fun _ _ _ _ _ => pts_one (pt_cmpR op_in_seq (pv 2) (pv 1) (by rfl))) (fun _ _ _ _ _ => (pv 2))) pe_int (fun _ _ => rfl))))), ?_⟩
    refine ⟨_, rfl, _, rfl, x, T.C, dx, _, _, rfl, hx, T.cl, T.no__things, pf_things t ts, v, o, ts, th, rfl, av, hS, fun mrow eo he H1 s1 => ?_, fun ix he => bad ix (by rw [← errM_perm pm]; exact he)⟩
    subst eo
    obtain ⟨m, rfl, hM, _, _⟩ := av
    rw [errM_perm pm] at he
    obtain ⟨hne0, hb⟩ := errM_none he
    obtain ⟨em, hin⟩ := menu_strs hb
    have k := good mrow rfl he
    have hne : mrow.map strOf ≠ [] := fun e => hne0 (List.map_eq_nil_iff.mp e)
    generalize mrow.map strOf = ms at em hin k hne
    subst em
    refine ⟨_, rfl, x, T.C, dx, _, _, rfl, s1 _ _ hx, T.cl, T.no__row, pf_row t ts, t, rfl, ⟨_, s1.sqt hT.sqt⟩, fun D nD => lc_tup (K := K) (a := t) (xs := row.map V.str)
      (fun i H' => Same H1 H' ∧ H' D = some (.lst (((row.take i).filter fun z => decide (z ∈ ms)).map V.str))) ⟨Same.new nD, upd_same⟩ (fun i H' _ h => h.1.sqt (s1.sqt hT.sqt)) ?_ ?_⟩
    · rintro i y H2 hy ⟨s2, e2⟩
      obtain ⟨z, hz, rfl⟩ := str_at hy
      refine ⟨rfl, ?_⟩
      refine ⟨_, rfl, _, rfl, m, _, rfl, .inr (s2.sqt (s1.sqt hM)), rfl, flat_strs ms, _, rfl, ?_⟩
      have tf := take_filter (f := fun z => decide (z ∈ ms)) hz
      have iv : inV (.str z) (ms.map V.str) = decide (z ∈ ms) := inV_strs z ms
      refine ite2 (fun c => ?_) (fun c => ?_)
      · have c : inV (.str z) (ms.map V.str) = true := c
        rw [iv] at c
        refine ⟨_, rfl, _, e2, lt_line ?_, fun q o e => ?_, ?_⟩
        · rw [List.length_map]
          have q1 := List.length_filter_le (fun z => decide (z ∈ ms)) (row.take i)
          rw [List.length_take] at q1
          have := ro.le
          omega
        · rw [upd_ne (ne_of_none e nD)]
          exact s2 _ _ e
        · rw [upd_same, tf, if_pos c, List.map_append]
          rfl
      · have c : ¬ inV (.str z) (ms.map V.str) = true := c
        rw [iv] at c
        refine ⟨s2, ?_⟩
        rw [tf, if_neg c, List.append_nil]
        exact e2
    · rintro H2 ⟨s2, e2⟩
      rw [List.length_map, List.take_length] at e2
      obtain ⟨a, r, e⟩ := List.exists_cons_of_ne_nil (filter_ne hne hin)
      rw [e] at e2
      refine ⟨D, _, 0, V.str a, rfl, rfl, lst_of e2, atI_nat (j := 0) rfl, ?_⟩
      have kk := k H2 (s1.trans s2)
      have ef : firstIn row ms = a := by
        unfold firstIn
        rw [e]
        rfl
      rw [ef] at kk
      exact kk
theorem ok_index_of (T : Tx K mg) : FnOk P w K mg base CX0 1 T.a_index_of T.fd_index_of ["name", "names"] (spIndexOf K) := by
  refine T.F_index_of.ok sc_index_of (fun vs H Q E h => ?_) (fun cdv A outer s H vs Q E hr h => ?_)
  · obtain ⟨z, t, row, j, rfl, _⟩ := h
    rfl
  · obtain ⟨z, t, row, j, rfl, hT, hj, nd, hl, k⟩ := h
    refine ⟨_, (pss_one (ps_ret (pe_ix ix_list (pe_lc (own := [("at", 2), ("other", 3)]) (g := gTup K 2 (gCons (gName 2) (gCons (gName 3) gNil))) (tt := tTest (tOp rEq (tVar 3) (tVar 0))) rfl sc_index_of.nd (pi_enumT (by rfl) T.n_enumerate (pa_cons (pv 1) pa_nil)) (blkOk_by (own := [("at", 2), ("other", 3)]) (N := names_index_of) (sc := defScope st_index_of) (by decide +kernel)) (fun _ _ _ _ _ => pg_tup rfl (pgs_cons (pg_name (i := 2) sc_index_of.nd rfl (Or.inl rfl)) (pgs_cons (pg_name (i := 3) sc_index_of.nd rfl (Or.inl rfl)) pgs_nil))) (fun _ _ _ _ _ => pts_one (pt_cmpR op_eq (pv 3) (pv 0) (nomark _))) (fun _ _ _ _ _ => (pv 2))) pe_int (fun _ _ => rfl)))), ?_⟩
    refine ⟨_, rfl, t, _, rfl, hT, fun D nD => lc_it walk_enumT (fun i H' => Same H H' ∧ H' D = some (.lst (if j < i then [V.int (j : Nat)] else []))) ⟨Same.new nD, by rw [if_neg (by omega)]; exact upd_same⟩ (fun i H' _ h => h.1.sqt hT) ?_ ?_⟩
    · rintro i x H1 H2 hi ⟨s1, e1⟩ ⟨p, y1, y2, rfl, np, rfl, ee1, ee2⟩
      cases ee1
      rw [List.length_map] at hi
      obtain ⟨y, hy, rfl⟩ := str_at ee2
      have s2 := s1.new' np (o := .tup [.int (i : Nat), .str y])
      have nDp : D ≠ p := ne_of_none e1 np
      refine ⟨p, _, rfl, tup_of upd_same, rfl, _, _, rfl, _, _, rfl, rfl, rfl, ?_⟩
      refine ⟨_, rfl, _, rfl, rfl, _, rfl, ?_⟩
      have e2 := (upd_ne (o := .tup [.int (i : Nat), .str y]) nDp).trans e1
      refine ite2 (fun c => ?_) (fun c => ?_)
      · have c : y = z := by
          have q := of_decide_eq_true c
          cases q
          rfl
        subst c
        have ij : i = j := by
          obtain ⟨h1, q1⟩ := List.getElem?_eq_some_iff.mp hy
          obtain ⟨h2, q2⟩ := List.getElem?_eq_some_iff.mp hj
          exact (List.getElem_inj nd).mp (q1.trans q2.symm)
        subst ij
        rw [if_neg (by omega)] at e2
        refine ⟨_, rfl, _, e2, lt_line (by show 0 < 100000; decide), fun b o h => ?_, ?_⟩
        · rw [upd_ne (ne_of_none h nD)]
          exact s2 _ _ h
        · rw [upd_same, if_pos (by omega)]
          rfl
      · have ij : i ≠ j := fun q => by
          subst q
          rw [hy] at hj
          cases hj
          exact c (decide_eq_true rfl)
        refine ⟨s2, ?_⟩
        rw [e2]
        congr 2
        by_cases q : j < i
        · rw [if_pos q, if_pos (by omega)]
        · rw [if_neg q, if_neg (by omega)]
    · rintro H1 ⟨s1, e1⟩
      rw [List.length_map, if_pos (List.getElem?_eq_some_iff.mp hj).1] at e1
      exact ⟨D, _, 0, V.int (j : Nat), rfl, rfl, lst_of e1, atI_nat (j := 0) rfl, k H1 s1⟩
theorem ok_Ranking_place (T : Tx K mg) : FnOk P w K mg base (L2.CX P w) 4 T.a_Ranking_place T.fd_Ranking_place ["self", "thing"] (spPlaceX K T.C T.E_UnknownThing) := by
  refine T.F_Ranking_place.okX sc_Ranking_place (fun vs H Q E h => ?_) (fun cdv A outer s H vs Q E hr h => ?_)
  · obtain ⟨x, v, row, rfl, _⟩ := h
    rfl
  · obtain ⟨x, v, row, rfl, ⟨dx, t, ts, th, hx, hT, hS, pm, so, ro⟩, sq, good, bad⟩ := h
    refine ⟨_, (pss_cons (ps_expr (pe_call (ok_check_thing T) (hr.mono (by decide)) rfl T.g_check_thing T.F_check_thing.kp T.b_check_thing .nil (passX rfl rfl rfl rfl) (pa_cons (pv 1) (pa_cons (pe_fld (pv 0) rfl) pa_nil))))
      (pss_one (ps_ret (pe_call (ok_index_of T) (hr.mono (by decide)) rfl T.g_index_of T.F_index_of.kp T.b_index_of .nil pass0 (pa_cons (pv 1) (pa_cons (pe_fld (pv 0) rfl) pa_nil)))))), ?_⟩
    refine ⟨_, rfl, _, rfl, x, T.C, dx, _, _, rfl, hx, T.cl, T.no__things, pf_things t ts, v, ts, th, rfl, sq, hS, fun ho => ?_, fun ho => bad (by rw [← oneV_perm pm]; exact ho)⟩
    rw [oneV_perm pm] at ho
    obtain ⟨ev, hm⟩ := oneV_str ho
    generalize strOf v = z at ev hm
    subst ev
    obtain ⟨j, hj0, ej⟩ := List.mem_iff_getElem.mp hm
    have hj : row[j]? = some z := by rw [List.getElem?_eq_getElem hj0, ej]
    exact ⟨_, rfl, _, rfl, x, T.C, dx, _, _, rfl, hx, T.cl, T.no__row, pf_row t ts, z, t, row, j, rfl, hT.sqt, hj, ro.nd, Nat.le_trans ro.le (by decide), good z j rfl hj⟩
theorem ok_Ranking_below (T : Tx K mg) : FnOk P w K mg base (L2.CX P w) 6 T.a_Ranking_below T.fd_Ranking_below ["self", "thing"] (spBelowX K T.C T.E_UnknownThing) := by
  refine T.F_Ranking_below.okX sc_Ranking_below (fun vs H Q E h => ?_) (fun cdv A outer s H vs Q E hr h => ?_)
  · obtain ⟨x, v, row, rfl, _⟩ := h
    rfl
  · obtain ⟨x, v, row, rfl, rk, sq, ho, bad⟩ := h
    obtain ⟨dx, t, ts, th, hx, hT, hS, pm, so, ro⟩ := id rk
    refine ⟨_, (pss_one (ps_ret (pe_callTy call_tupF (by rfl) T.n_tuple (by decide +kernel) (pa_cons (pe_callB cr_sortedU (by rfl) T.n_sorted (by decide +kernel) (pa_cons (pe_slice sl_tupA (pe_fld (pv 0) rfl) (po_some (pe_op op_add (pe_meth (pv 0) T.cl T.m_Ranking_place (ok_Ranking_place T) (hr.mono (by decide)) T.b_Ranking_place .nil (passX rfl rfl rfl rfl) (pa_cons (pv 1) pa_nil)) pe_int)) po_none) pa_nil)) pa_nil)))), ?_⟩
    refine ⟨_, rfl, x, T.C, dx, _, _, rfl, hx, T.cl, T.no__row, pf_row t ts, _, rfl, x, dx, _, rfl, hx, pf_no t ts (by decide +kernel) (by decide +kernel), _, rfl, x, v, row, rfl, rk, sq, fun z j ev hj => ?_, fun _ => bad⟩
    subst ev
    have : oneV row (.str z) = true := decide_eq_true (List.mem_of_getElem? hj)
    rw [this] at ho
    cases ho
theorem ok_RankingD_getitemD (T : Tx K mg) : FnOk P w K mg base (L2.CX P w) 3 T.a_RankingD_getitemD T.fd_RankingD_getitemD ["self", "at"] (spGetX K T.C T.E_InvalidIndex) := by
  refine T.F_RankingD_getitemD.okX sc_RankingD_getitemD (fun vs H Q E h => ?_) (fun cdv A outer s H vs Q E hr h => ?_)
  · obtain ⟨x, v, row, rfl, _⟩ := h
    rfl
  · obtain ⟨x, v, row, rfl, ⟨dx, t, ts, th, hx, hT, _, _, _, ro⟩, iq, good, bad⟩ := h
    refine ⟨_, (pss_cons (ps_if (pt_not (pt_val (pe_call (ok_is_index T) (hr.mono (by decide)) rfl T.g_is_index T.F_is_index.kp T.b_is_index .nil pass0 (pa_cons (pv 1) (pa_cons (pe_callB call_len_seq (by rfl) T.n_len (by decide +kernel) (pa_cons (pe_fld (pv 0) rfl) pa_nil)) pa_nil)))))
        (pss_one (ps_raise rfl (takes_of rfl rfl rfl rfl) (pmk_oex T.ox_InvalidIndex T.ic_InvalidIndex T.ti_InvalidIndex (ok_InvalidIndexD_initD T) (hr.mono (by decide)) T.b_InvalidIndexD_initD .nil pass0 rfl T.g_InvalidIndex (pa_cons (pv 1) pa_nil))))
        pss_nil)
      (pss_one (ps_ret (pe_ix ix_tup (pe_fld (pv 0) rfl) (pv 1) (fun _ _ => rfl))))), ?_⟩
    have hl : (row.map V.str).length = row.length := List.length_map _
    refine ⟨_, rfl, _, rfl, x, T.C, dx, _, _, rfl, hx, T.cl, T.no__row, pf_row t ts, t, _, rfl, .inr hT.sqt, v, _, rfl, iq, ?_⟩
    rw [hl]
    cases hi : inRange row.length v with
    | true =>
      have ⟨j, ev, hj⟩ : ∃ j : Nat, v = .int (j : Nat) ∧ j < row.length := by
        cases v <;> first | cases hi | skip
        rename_i i
        have h2 : (decide (0 ≤ i) && decide (i < row.length)) = true := hi
        rw [Bool.and_eq_true, decide_eq_true_eq, decide_eq_true_eq] at h2
        exact ⟨i.toNat, by rw [Int.toNat_of_nonneg h2.1], by omega⟩
      subst ev
      have gj : row[j]? = some row[j] := List.getElem?_eq_getElem hj
      have g : (row.map V.str)[j]? = some (.str row[j]) := by
        rw [List.getElem?_map, gj]
        rfl
      refine ⟨_, rfl, iteF ?_⟩
      exact ⟨_, rfl, x, T.C, dx, _, _, rfl, hx, T.cl, T.no__row, pf_row t ts, _, rfl, t, _, _, _, rfl, rfl, hT.sqt, atI_nat g, good j _ rfl gj⟩
    | false =>
      refine ⟨_, rfl, iteT ?_⟩
      exact ⟨_, rfl, made_err (K := K) (σ := []) fun dd H' s3 nd hd => bad hi dd H' s3 nd hd⟩
end
end MH
namespace MH
open PySem PySem.Spec PyProof.Rows L2
section
variable {P : Program} {w : World} {K : PySem.W.Frag} {mg : Str → Option Value} {base : Heap}
theorem okR_Ranking_without (T : Tx K mg) : FnR P w K mg base (L2.CX P w) 6 T.a_Ranking_without (fun vs H Q E => ∃ v rest, vs = v :: rest ∧ rest.length ≤ 5 ∧ ∀ p, H p = none → spWithoutX K T.C T.E_UnknownThing T.E_InvalidRow [v, .ref p] (upd H p (.tup rest)) Q E) := by
  refine fun_starX (k := 5) (sp := spWithoutX K T.C T.E_UnknownThing T.E_InvalidRow) T.F_Ranking_without sc_Ranking_without (by decide) T.bv_Ranking_without fun cdv A outer s H vs Q E hr h => ?_
  obtain ⟨x, p, row, ns, rfl, rk, hN, hq, way⟩ := h
  obtain ⟨dx, t, ts, th, hx, hT, hS, pm, so, ro⟩ := id rk
  refine ⟨_, (pss_cons (ps_for (passes_of rfl) rfl (pi_tup (pv 1)) (pg_name (i := 2) sc_Ranking_without.nd rfl (Or.inl rfl))
        (pss_one (ps_expr (pe_call (ok_check_thing T) (hr.mono (by decide)) rfl T.g_check_thing T.F_check_thing.kp T.b_check_thing .nil (passX rfl rfl rfl rfl) (pa_cons (pv 2) (pa_cons (pe_fld (pv 0) rfl) pa_nil))))))
      (pss_one (ps_ret (pe_make T.mkc (okX_RankingD_initD T) (hr.mono (by decide)) rfl T.g_Ranking T.b_RankingD_initD .nil (passX rfl rfl rfl rfl) (pa_cons (pe_callTy call_tupF (by rfl) T.n_tuple (by decide +kernel) (pa_cons (pe_lc (own := [("thing", 3)]) (g := gName 3) (tt := tTest (tOp (rIn K true) (tVar 3) (tVar 1))) rfl sc_Ranking_without.nd (pi_tup (pe_fld (pv 0) rfl)) (blkOk_by (own := [("thing", 3)]) (N := names_Ranking_without) (sc := defScope st_Ranking_without) (by decide +kernel)) (fun _ _ _ _ _ => pg_name (i := 3) sc_Ranking_without.nd rfl (Or.inl rfl)) (fun _ _ _ _ _ => pts_one (pt_cmpR op_notIn_seq (pv 3) (pv 1) (by rfl))) (fun _ _ _ _ _ => (pv 3))) pa_nil)) pa_nil))))), ?_⟩
  refine ⟨_, rfl, p, rfl, ⟨_, hN⟩, for_tup (K := K) (a := p) (xs := ns) (fun i σ H' => H' = H ∧ (∀ j y, j < i → ns[j]? = some y → oneV row y = true) ∧ ∃ v, σ = [some (.ref x), some (.ref p), v, none]) ⟨rfl, fun j y hj => absurd hj (Nat.not_lt_zero j), none, rfl⟩ (fun i σ H' _ h => h.1 ▸ hN) ?_ ?_⟩
  · rintro i y σ H1 hy ⟨rfl, hb, v, rfl⟩
    refine ⟨_, rfl, _, rfl, x, T.C, dx, _, _, rfl, hx, T.cl, T.no__things, pf_things t ts, y, ts, th, rfl, hq y (List.mem_of_getElem? hy), hS, fun ho => ?_, fun ho => ?_⟩
    · rw [oneV_perm pm] at ho
      refine ⟨rfl, fun j z hj hz => ?_, _, rfl⟩
      rcases Nat.lt_succ_iff_lt_or_eq.mp hj with hj | rfl
      · exact hb j z hj hz
      · rw [hy] at hz
        cases hz
        exact ho
    · rw [oneV_perm pm] at ho
      rcases way with ⟨i2, v2, h2, h3, h4, bad⟩ | ⟨zs, rfl, hin, _, _⟩
      · have e : i = i2 := by
          rcases Nat.lt_trichotomy i i2 with q | q | q
          · rw [h4 i y q hy] at ho
            cases ho
          · exact q
          · rw [hb i2 v2 q h2] at h3
            cases h3
        subst e
        rw [hy] at h2
        cases h2
        exact bad
      · obtain ⟨z, hz, rfl⟩ := str_at hy
        have : oneV row (.str z) = true := decide_eq_true (hin z (List.mem_of_getElem? hz))
        rw [this] at ho
        cases ho
  · rintro σ H1 ⟨rfl, hb, v, rfl⟩
    rcases way with ⟨i2, v2, h2, h3, h4, bad⟩ | ⟨ns, rfl, hin, hle, bad⟩
    · obtain ⟨hi, _⟩ := List.getElem?_eq_some_iff.mp h2
      rw [hb i2 v2 hi h2] at h3
      cases h3
    · refine ⟨_, rfl, x, T.C, dx, _, _, rfl, hx, T.cl, T.no__row, pf_row t ts, t, rfl, ⟨_, hT.sqt⟩, fun D nD => lc_tup (K := K) (a := t) (xs := row.map V.str)
        (fun i H' => Same H1 H' ∧ H' D = some (.lst ((less (row.take i) ns).map V.str))) ⟨Same.new nD, upd_same⟩ (fun i H' _ h => h.1.sqt hT.sqt) ?_ ?_⟩
      · rintro i y H2 hy ⟨s2, e2⟩
        obtain ⟨z, hz, rfl⟩ := str_at hy
        refine ⟨rfl, ?_⟩
        refine ⟨_, rfl, _, rfl, p, _, rfl, .inr (s2.sqt hN), rfl, flat_strs ns, _, rfl, ?_⟩
        have tf := take_filter (f := fun z => !decide (z ∈ ns)) hz
        have iv : inV (.str z) (ns.map V.str) = decide (z ∈ ns) := inV_strs z ns
        refine ite2 (fun c => ?_) (fun c => ?_)
        · have c : (!inV (.str z) (ns.map V.str)) = true := c
          rw [iv] at c
          refine ⟨_, rfl, _, e2, lt_line ?_, fun q o e => ?_, ?_⟩
          · rw [List.length_map]
            have q1 := List.length_filter_le (fun z => !decide (z ∈ ns)) (row.take i)
            rw [List.length_take] at q1
            have := ro.le
            show (less (row.take i) ns).length < 100000
            unfold less
            omega
          · rw [upd_ne (ne_of_none e nD)]
            exact s2 _ _ e
          · show upd H2 D _ D = some (.lst ((List.filter _ _).map V.str))
            rw [upd_same, tf, if_pos c, List.map_append]
            rfl
        · have c : ¬ (!inV (.str z) (ns.map V.str)) = true := c
          rw [iv] at c
          refine ⟨s2, ?_⟩
          show H2 D = some (.lst ((List.filter _ _).map V.str))
          rw [tf, if_neg c, List.append_nil]
          exact e2
      · rintro H2 ⟨s2, e2⟩
        rw [List.length_map, List.take_length, hle] at e2
        refine ⟨D, _, rfl, .inl ⟨lst_of e2, fun u ou nu od => ?_⟩⟩
        intro y dy ny ndy hne2
        have s3 := s2.new' nu (o := .frz ou (.tup (([] : List Str).map V.str)))
        have s4 := s3.trans (Same.new ndy (o := .own y))
        have s5 : Same H1 (upd (upd (upd H2 u (.frz ou (.tup (([] : List Str).map V.str)))) dy (.own y)) y (.ins T.C dy [])) := s4.trans (Same.new (by rw [upd_ne hne2.symm]; exact ny))
        have nuy : u ≠ y := fun e => by
          rw [← e, upd_same] at ny
          cases ny
        have nud : u ≠ dy := fun e => by
          rw [← e, upd_same] at ndy
          cases ndy
        have au : TupO (upd (upd (upd H2 u (.frz ou (.tup (([] : List Str).map V.str)))) dy (.own y)) y (.ins T.C dy [])) u [] := ⟨ou, by rw [upd_ne nuy, upd_ne nud, upd_same]; rfl, od⟩
        refine ⟨y, dy, .ref u, some [], rfl, upd_same, ⟨u, rfl, au.sqt, Nat.zero_le _, nofun⟩, fun row' e => ⟨u, rfl, by cases e; exact au⟩, fun row' e he => ?_, fun ix he dd H' sx nd hd => ?_⟩
        · cases he
        · cases he
          exact bad dd H' (s5.trans sx) (back_none s5 nd) hd
end
end MH
namespace MH
open PySem PySem.Spec PyProof.Rows L2
/-- the errors that are raised here: class, word, attribute -/
inductive Kn {K : PySem.W.Frag} {mg : Str → Option Value} (T : Tx K mg) : Addr → Str → Str → Prop
  | row : Kn T T.E_InvalidRow "InvalidRow" "index"
  | menu : Kn T T.E_InvalidMenu "InvalidMenu" "index"
  | ix : Kn T T.E_InvalidIndex "InvalidIndex" "given"
  | thing : Kn T T.E_UnknownThing "UnknownThing" "given"
theorem ExAt.same {H H' : Hp} {a C : Addr} {fs : List (Str × V)} (e : ExAt H a C fs) (s : Same H H') : ExAt H' a C fs := by
  obtain ⟨d, h1, h2⟩ := e
  exact ⟨d, s _ _ h1, s _ _ h2⟩
def spSort {K : PySem.W.Frag} {mg : Str → Option Value} (T : Tx K mg) : Sp := fun vs H Q _ => ∃ (a C : Addr) (fs : List (Str × V)) (word f : Str), vs = [.ref a] ∧ ExAt H a C fs ∧ Kn T C word f ∧ ∀ H', Same H H' → Q (.str word) H'
def spAttr {K : PySem.W.Frag} {mg : Str → Option Value} (T : Tx K mg) : Sp := fun vs H Q _ => ∃ (a C : Addr) (fs : List (Str × V)) (word f : Str) (v : V) (txt : Str), vs = [.ref a, .str word] ∧ ExAt H a C fs ∧ Kn T C word f ∧ fs.lookup f = some v ∧ Shw K H v txt ∧ ∀ H', Same H H' → Q (.str txt) H'
section
variable {P : Program} {w : World} {K : PySem.W.Frag} {mg : Str → Option Value} {base : Heap}
theorem k_l_sort (T : Tx K mg) : FnK P w K mg base 5 T.a_l_sort (spSort T) := by
  refine fun_k T.F_l_sort sc_l_sort T.b_l_sort (fun vs H Q E h => ?_) (fun cdv A fr s H vs Q hg hr h => ?_)
  · obtain ⟨a, C, fs, word, f, rfl, _⟩ := h
    rfl
  · obtain ⟨a, C, fs, word, f, rfl, ex, kn, k⟩ := h
    refine ⟨_, (pss_cons (ps_set (i := 1) sc_l_sort.nd rfl (Or.inl rfl) (pe_lst (pa_cons pe_str (pa_cons pe_str (pa_cons pe_str (pa_cons pe_str (pa_cons pe_str (pa_cons pe_str (pa_cons pe_str pa_nil)))))))))
      (pss_cons (ps_set (i := 1) sc_l_sort.nd rfl (Or.inl rfl) (pe_op op_cat (pv 1) (pe_lst (pa_cons pe_str (pa_cons pe_str (pa_cons pe_str (pa_cons pe_str pa_nil)))))))
      (pss_cons (ps_set (i := 2) sc_l_sort.nd rfl (Or.inl rfl) (pe_lst (pa_cons (pe_callB call_isK (by rfl) T.n_isinstance (by decide +kernel) (pa_cons (pv 0) (pa_cons (pe_glob (v := .ref T.E_InvalidText) rfl T.g_InvalidText rfl) pa_nil))) (pa_cons (pe_callB call_isK (by rfl) T.n_isinstance (by decide +kernel) (pa_cons (pv 0) (pa_cons (pe_glob (v := .ref T.E_InvalidIndex) rfl T.g_InvalidIndex rfl) pa_nil))) (pa_cons (pe_callB call_isK (by rfl) T.n_isinstance (by decide +kernel) (pa_cons (pv 0) (pa_cons (pe_glob (v := .ref T.E_NotARanking) rfl T.g_NotARanking rfl) pa_nil))) pa_nil)))))
      (pss_cons (ps_set (i := 2) sc_l_sort.nd rfl (Or.inl rfl) (pe_op op_cat (pv 2) (pe_lst (pa_cons (pe_callB call_isK (by rfl) T.n_isinstance (by decide +kernel) (pa_cons (pv 0) (pa_cons (pe_glob (v := .ref T.E_NotAHouse) rfl T.g_NotAHouse rfl) pa_nil))) (pa_cons (pe_callB call_isK (by rfl) T.n_isinstance (by decide +kernel) (pa_cons (pv 0) (pa_cons (pe_glob (v := .ref T.E_OtherThings) rfl T.g_OtherThings rfl) pa_nil))) (pa_cons (pe_callB call_isK (by rfl) T.n_isinstance (by decide +kernel) (pa_cons (pv 0) (pa_cons (pe_glob (v := .ref T.E_InvalidRow) rfl T.g_InvalidRow rfl) pa_nil))) pa_nil))))))
      (pss_cons (ps_set (i := 2) sc_l_sort.nd rfl (Or.inl rfl) (pe_op op_cat (pv 2) (pe_lst (pa_cons (pe_callB call_isK (by rfl) T.n_isinstance (by decide +kernel) (pa_cons (pv 0) (pa_cons (pe_glob (v := .ref T.E_InvalidMenu) rfl T.g_InvalidMenu rfl) pa_nil))) (pa_cons (pe_callB call_isK (by rfl) T.n_isinstance (by decide +kernel) (pa_cons (pv 0) (pa_cons (pe_glob (v := .ref T.E_InvalidRankings) rfl T.g_InvalidRankings rfl) pa_nil))) (pa_cons (pe_callB call_isK (by rfl) T.n_isinstance (by decide +kernel) (pa_cons (pv 0) (pa_cons (pe_glob (v := .ref T.E_UnknownThing) rfl T.g_UnknownThing rfl) pa_nil))) pa_nil))))))
      (pss_cons (ps_set (i := 2) sc_l_sort.nd rfl (Or.inl rfl) (pe_op op_cat (pv 2) (pe_lst (pa_cons (pe_callB call_isK (by rfl) T.n_isinstance (by decide +kernel) (pa_cons (pv 0) (pa_cons (pe_glob (v := .ref T.E_TooMany) rfl T.g_TooMany rfl) pa_nil))) (pa_cons (pe_callB call_isK (by rfl) T.n_isinstance (by decide +kernel) (pa_cons (pv 0) (pa_cons (pe_glob (v := .ref T.E_NoHouse) rfl T.g_NoHouse rfl) pa_nil))) pa_nil)))))
      (pss_cons (ps_set (i := 3) sc_l_sort.nd rfl (Or.inl rfl) (pe_lst (pa_cons (pe_callB call_isK (by rfl) T.n_isinstance (by decide +kernel) (pa_cons (pv 0) (pa_cons (pe_glob (v := .ref T.E_WrongValue) rfl T.g_WrongValue rfl) pa_nil))) (pa_cons (pe_callB call_isK (by rfl) T.n_isinstance (by decide +kernel) (pa_cons (pv 0) (pa_cons (pe_glob (v := .ref T.E_WrongName) rfl T.g_WrongName rfl) pa_nil))) (pa_cons (pe_callB call_isK (by rfl) T.n_isinstance (by decide +kernel) (pa_cons (pv 0) (pa_cons (pe_glob (v := .ref T.E_NoAnswer) rfl T.g_NoAnswer rfl) pa_nil))) pa_nil)))))
      (pss_cons (ps_if (PW.pt (pw_or (pt_cmpR op_ne (pe_bm PySem.F.plainAttrs_list PySem.F.slot_list_count PySem.F.type_list_count (mt_bcount hr.units) (pv 2) (pa_cons pe_bl pa_nil)) pe_int (nomark _)) (pw_or1 (pt_cmpR op_ne (pe_bm PySem.F.plainAttrs_list PySem.F.slot_list_count PySem.F.type_list_count (mt_bcount hr.units) (pv 3) (pa_cons pe_bl pa_nil)) pe_int (nomark _)))))
        (pss_one (ps_ret pe_str))
        pss_nil)
      (pss_cons (ps_set (i := 4) sc_l_sort.nd rfl (Or.inl rfl) (pe_bm PySem.F.plainAttrs_list PySem.F.slot_list_index PySem.F.type_list_index mt_index (pv 2) (pa_cons pe_bl pa_nil)))
      (pss_one (ps_ret (pe_ifExp (pt_cmpR op_eq (pe_bm PySem.F.plainAttrs_list PySem.F.slot_list_index PySem.F.type_list_index mt_index (pv 3) (pa_cons pe_bl pa_nil)) (pe_ifExp (pt_cmpR op_lt (pv 4) pe_int (nomark _)) pe_int (pe_ifExp (pt_cmpR op_eq (pv 4) pe_int (nomark _)) pe_int pe_int)) (nomark _)) (pe_ix ix_list (pv 1) (pv 4) (fun _ _ => rfl)) pe_str)))))))))))), ?_⟩
    cases kn with
    | row =>
      refine ⟨(by show 7 ≤ sizeLine; decide), fun p0 n0 => ?_⟩
      have s0 := Same.new n0 (o := .lst [V.str "InvalidText", V.str "InvalidIndex", V.str "NotARanking", V.str "NotAHouse", V.str "OtherThings", V.str "InvalidRow", V.str "InvalidMenu"])
      have h0 : (upd H p0 (.lst [V.str "InvalidText", V.str "InvalidIndex", V.str "NotARanking", V.str "NotAHouse", V.str "OtherThings", V.str "InvalidRow", V.str "InvalidMenu"])) p0 = some (.lst [V.str "InvalidText", V.str "InvalidIndex", V.str "NotARanking", V.str "NotAHouse", V.str "OtherThings", V.str "InvalidRow", V.str "InvalidMenu"]) := upd_same
      generalize upd H p0 (.lst [V.str "InvalidText", V.str "InvalidIndex", V.str "NotARanking", V.str "NotAHouse", V.str "OtherThings", V.str "InvalidRow", V.str "InvalidMenu"]) = H0 at s0 h0 ⊢
      refine ⟨_, rfl, (by show 4 ≤ sizeLine; decide), fun q1 nq1 => ?_⟩
      have xq1 : p0 ≠ q1 := ne_of_none h0 nq1
      refine ⟨p0, q1, _, _, rfl, rfl, (by rw [upd_ne xq1]; exact h0), upd_same, (by show 11 ≤ sizeLine; decide), fun r1 nr1 => ?_⟩
      have s1 := (s0.new' nq1).new' nr1 (o := .lst [V.str "InvalidText", V.str "InvalidIndex", V.str "NotARanking", V.str "NotAHouse", V.str "OtherThings", V.str "InvalidRow", V.str "InvalidMenu", V.str "InvalidRankings", V.str "UnknownThing", V.str "TooMany", V.str "NoHouse"])
      have hw : (upd (upd H0 q1 (.lst [V.str "InvalidRankings", V.str "UnknownThing", V.str "TooMany", V.str "NoHouse"])) r1 (.lst [V.str "InvalidText", V.str "InvalidIndex", V.str "NotARanking", V.str "NotAHouse", V.str "OtherThings", V.str "InvalidRow", V.str "InvalidMenu", V.str "InvalidRankings", V.str "UnknownThing", V.str "TooMany", V.str "NoHouse"])) r1 = some (.lst [V.str "InvalidText", V.str "InvalidIndex", V.str "NotARanking", V.str "NotAHouse", V.str "OtherThings", V.str "InvalidRow", V.str "InvalidMenu", V.str "InvalidRankings", V.str "UnknownThing", V.str "TooMany", V.str "NoHouse"]) := upd_same
      change tSeq _ _ _ _ (upd (upd H0 q1 (.lst [V.str "InvalidRankings", V.str "UnknownThing", V.str "TooMany", V.str "NoHouse"])) r1 (.lst [V.str "InvalidText", V.str "InvalidIndex", V.str "NotARanking", V.str "NotAHouse", V.str "OtherThings", V.str "InvalidRow", V.str "InvalidMenu", V.str "InvalidRankings", V.str "UnknownThing", V.str "TooMany", V.str "NoHouse"]))
      generalize upd (upd H0 q1 (.lst [V.str "InvalidRankings", V.str "UnknownThing", V.str "TooMany", V.str "NoHouse"])) r1 (.lst [V.str "InvalidText", V.str "InvalidIndex", V.str "NotARanking", V.str "NotAHouse", V.str "OtherThings", V.str "InvalidRow", V.str "InvalidMenu", V.str "InvalidRankings", V.str "UnknownThing", V.str "TooMany", V.str "NoHouse"]) = H1 at s1 hw ⊢
      have ex1 := ex.same s1
      refine ⟨_, rfl, a, _, fs, _, .ref T.E_InvalidText, false, rfl, ex1, T.ek_InvalidRow, fun _ h => h, T.kf_InvalidRow_InvalidText, _, rfl, a, _, fs, _, .ref T.E_InvalidIndex, false, rfl, ex1, T.ek_InvalidRow, fun _ h => h, T.kf_InvalidRow_InvalidIndex, _, rfl, a, _, fs, _, .ref T.E_NotARanking, false, rfl, ex1, T.ek_InvalidRow, fun _ h => h, T.kf_InvalidRow_NotARanking, (by show 3 ≤ sizeLine; decide), fun p2 n2 => ?_⟩
      have s2 := s1.new' n2 (o := .lst [V.bl false, V.bl false, V.bl false])
      have hw2 : (upd H1 p2 (.lst [V.bl false, V.bl false, V.bl false])) r1 = some (.lst [V.str "InvalidText", V.str "InvalidIndex", V.str "NotARanking", V.str "NotAHouse", V.str "OtherThings", V.str "InvalidRow", V.str "InvalidMenu", V.str "InvalidRankings", V.str "UnknownThing", V.str "TooMany", V.str "NoHouse"]) := by
        rw [upd_ne (ne_of_none hw n2)]
        exact hw
      have h2 : (upd H1 p2 (.lst [V.bl false, V.bl false, V.bl false])) p2 = some (.lst [V.bl false, V.bl false, V.bl false]) := upd_same
      change tSeq _ _ _ _ (upd H1 p2 (.lst [V.bl false, V.bl false, V.bl false]))
      generalize upd H1 p2 (.lst [V.bl false, V.bl false, V.bl false]) = H2 at s2 hw2 h2 ⊢
      have ex3 := ex.same s2
      refine ⟨_, rfl, _, rfl, a, _, fs, _, .ref T.E_NotAHouse, false, rfl, ex3, T.ek_InvalidRow, fun _ h => h, T.kf_InvalidRow_NotAHouse, _, rfl, a, _, fs, _, .ref T.E_OtherThings, false, rfl, ex3, T.ek_InvalidRow, fun _ h => h, T.kf_InvalidRow_OtherThings, _, rfl, a, _, fs, _, .ref T.E_InvalidRow, true, rfl, ex3, T.ek_InvalidRow, fun _ h => h, T.kf_InvalidRow_InvalidRow, (by show 3 ≤ sizeLine; decide), fun q3 nq3 => ?_⟩
      have xq3 : p2 ≠ q3 := ne_of_none h2 nq3
      refine ⟨p2, q3, _, _, rfl, rfl, (by rw [upd_ne xq3]; exact h2), upd_same, (by show 6 ≤ sizeLine; decide), fun r3 nr3 => ?_⟩
      have s3 := (s2.new' nq3).new' nr3 (o := .lst [V.bl false, V.bl false, V.bl false, V.bl false, V.bl false, V.bl true])
      have h3 : (upd (upd H2 q3 (.lst [V.bl false, V.bl false, V.bl true])) r3 (.lst [V.bl false, V.bl false, V.bl false, V.bl false, V.bl false, V.bl true])) r3 = some (.lst [V.bl false, V.bl false, V.bl false, V.bl false, V.bl false, V.bl true]) := upd_same
      have hw3 : (upd (upd H2 q3 (.lst [V.bl false, V.bl false, V.bl true])) r3 (.lst [V.bl false, V.bl false, V.bl false, V.bl false, V.bl false, V.bl true])) r1 = some (.lst [V.str "InvalidText", V.str "InvalidIndex", V.str "NotARanking", V.str "NotAHouse", V.str "OtherThings", V.str "InvalidRow", V.str "InvalidMenu", V.str "InvalidRankings", V.str "UnknownThing", V.str "TooMany", V.str "NoHouse"]) := by
        have e1 : (upd H2 q3 (.lst [V.bl false, V.bl false, V.bl true])) r1 = some (.lst [V.str "InvalidText", V.str "InvalidIndex", V.str "NotARanking", V.str "NotAHouse", V.str "OtherThings", V.str "InvalidRow", V.str "InvalidMenu", V.str "InvalidRankings", V.str "UnknownThing", V.str "TooMany", V.str "NoHouse"]) := by
          rw [upd_ne (ne_of_none hw2 nq3)]
          exact hw2
        rw [upd_ne (ne_of_none e1 nr3)]
        exact e1
      change tSeq _ _ _ _ (upd (upd H2 q3 (.lst [V.bl false, V.bl false, V.bl true])) r3 (.lst [V.bl false, V.bl false, V.bl false, V.bl false, V.bl false, V.bl true]))
      generalize upd (upd H2 q3 (.lst [V.bl false, V.bl false, V.bl true])) r3 (.lst [V.bl false, V.bl false, V.bl false, V.bl false, V.bl false, V.bl true]) = H3 at s3 hw3 h3 ⊢
      have ex4 := ex.same s3
      refine ⟨_, rfl, _, rfl, a, _, fs, _, .ref T.E_InvalidMenu, false, rfl, ex4, T.ek_InvalidRow, fun _ h => h, T.kf_InvalidRow_InvalidMenu, _, rfl, a, _, fs, _, .ref T.E_InvalidRankings, false, rfl, ex4, T.ek_InvalidRow, fun _ h => h, T.kf_InvalidRow_InvalidRankings, _, rfl, a, _, fs, _, .ref T.E_UnknownThing, false, rfl, ex4, T.ek_InvalidRow, fun _ h => h, T.kf_InvalidRow_UnknownThing, (by show 3 ≤ sizeLine; decide), fun q4 nq4 => ?_⟩
      have xq4 : r3 ≠ q4 := ne_of_none h3 nq4
      refine ⟨r3, q4, _, _, rfl, rfl, (by rw [upd_ne xq4]; exact h3), upd_same, (by show 9 ≤ sizeLine; decide), fun r4 nr4 => ?_⟩
      have s4 := (s3.new' nq4).new' nr4 (o := .lst [V.bl false, V.bl false, V.bl false, V.bl false, V.bl false, V.bl true, V.bl false, V.bl false, V.bl false])
      have h4 : (upd (upd H3 q4 (.lst [V.bl false, V.bl false, V.bl false])) r4 (.lst [V.bl false, V.bl false, V.bl false, V.bl false, V.bl false, V.bl true, V.bl false, V.bl false, V.bl false])) r4 = some (.lst [V.bl false, V.bl false, V.bl false, V.bl false, V.bl false, V.bl true, V.bl false, V.bl false, V.bl false]) := upd_same
      have hw4 : (upd (upd H3 q4 (.lst [V.bl false, V.bl false, V.bl false])) r4 (.lst [V.bl false, V.bl false, V.bl false, V.bl false, V.bl false, V.bl true, V.bl false, V.bl false, V.bl false])) r1 = some (.lst [V.str "InvalidText", V.str "InvalidIndex", V.str "NotARanking", V.str "NotAHouse", V.str "OtherThings", V.str "InvalidRow", V.str "InvalidMenu", V.str "InvalidRankings", V.str "UnknownThing", V.str "TooMany", V.str "NoHouse"]) := by
        have e1 : (upd H3 q4 (.lst [V.bl false, V.bl false, V.bl false])) r1 = some (.lst [V.str "InvalidText", V.str "InvalidIndex", V.str "NotARanking", V.str "NotAHouse", V.str "OtherThings", V.str "InvalidRow", V.str "InvalidMenu", V.str "InvalidRankings", V.str "UnknownThing", V.str "TooMany", V.str "NoHouse"]) := by
          rw [upd_ne (ne_of_none hw3 nq4)]
          exact hw3
        rw [upd_ne (ne_of_none e1 nr4)]
        exact e1
      change tSeq _ _ _ _ (upd (upd H3 q4 (.lst [V.bl false, V.bl false, V.bl false])) r4 (.lst [V.bl false, V.bl false, V.bl false, V.bl false, V.bl false, V.bl true, V.bl false, V.bl false, V.bl false]))
      generalize upd (upd H3 q4 (.lst [V.bl false, V.bl false, V.bl false])) r4 (.lst [V.bl false, V.bl false, V.bl false, V.bl false, V.bl false, V.bl true, V.bl false, V.bl false, V.bl false]) = H4 at s4 hw4 h4 ⊢
      have ex5 := ex.same s4
      refine ⟨_, rfl, _, rfl, a, _, fs, _, .ref T.E_TooMany, false, rfl, ex5, T.ek_InvalidRow, fun _ h => h, T.kf_InvalidRow_TooMany, _, rfl, a, _, fs, _, .ref T.E_NoHouse, false, rfl, ex5, T.ek_InvalidRow, fun _ h => h, T.kf_InvalidRow_NoHouse, (by show 2 ≤ sizeLine; decide), fun q5 nq5 => ?_⟩
      have xq5 : r4 ≠ q5 := ne_of_none h4 nq5
      refine ⟨r4, q5, _, _, rfl, rfl, (by rw [upd_ne xq5]; exact h4), upd_same, (by show 11 ≤ sizeLine; decide), fun r5 nr5 => ?_⟩
      have s5 := (s4.new' nq5).new' nr5 (o := .lst [V.bl false, V.bl false, V.bl false, V.bl false, V.bl false, V.bl true, V.bl false, V.bl false, V.bl false, V.bl false, V.bl false])
      have h5 : (upd (upd H4 q5 (.lst [V.bl false, V.bl false])) r5 (.lst [V.bl false, V.bl false, V.bl false, V.bl false, V.bl false, V.bl true, V.bl false, V.bl false, V.bl false, V.bl false, V.bl false])) r5 = some (.lst [V.bl false, V.bl false, V.bl false, V.bl false, V.bl false, V.bl true, V.bl false, V.bl false, V.bl false, V.bl false, V.bl false]) := upd_same
      have hw5 : (upd (upd H4 q5 (.lst [V.bl false, V.bl false])) r5 (.lst [V.bl false, V.bl false, V.bl false, V.bl false, V.bl false, V.bl true, V.bl false, V.bl false, V.bl false, V.bl false, V.bl false])) r1 = some (.lst [V.str "InvalidText", V.str "InvalidIndex", V.str "NotARanking", V.str "NotAHouse", V.str "OtherThings", V.str "InvalidRow", V.str "InvalidMenu", V.str "InvalidRankings", V.str "UnknownThing", V.str "TooMany", V.str "NoHouse"]) := by
        have e1 : (upd H4 q5 (.lst [V.bl false, V.bl false])) r1 = some (.lst [V.str "InvalidText", V.str "InvalidIndex", V.str "NotARanking", V.str "NotAHouse", V.str "OtherThings", V.str "InvalidRow", V.str "InvalidMenu", V.str "InvalidRankings", V.str "UnknownThing", V.str "TooMany", V.str "NoHouse"]) := by
          rw [upd_ne (ne_of_none hw4 nq5)]
          exact hw4
        rw [upd_ne (ne_of_none e1 nr5)]
        exact e1
      change tSeq _ _ _ _ (upd (upd H4 q5 (.lst [V.bl false, V.bl false])) r5 (.lst [V.bl false, V.bl false, V.bl false, V.bl false, V.bl false, V.bl true, V.bl false, V.bl false, V.bl false, V.bl false, V.bl false]))
      generalize upd (upd H4 q5 (.lst [V.bl false, V.bl false])) r5 (.lst [V.bl false, V.bl false, V.bl false, V.bl false, V.bl false, V.bl true, V.bl false, V.bl false, V.bl false, V.bl false, V.bl false]) = H5 at s5 hw5 h5 ⊢
      have ex6 := ex.same s5
      refine ⟨_, rfl, a, _, fs, _, .ref T.E_WrongValue, true, rfl, ex6, T.ek_InvalidRow, fun _ h => h, T.kf_InvalidRow_WrongValue, _, rfl, a, _, fs, _, .ref T.E_WrongName, false, rfl, ex6, T.ek_InvalidRow, fun _ h => h, T.kf_InvalidRow_WrongName, _, rfl, a, _, fs, _, .ref T.E_NoAnswer, false, rfl, ex6, T.ek_InvalidRow, fun _ h => h, T.kf_InvalidRow_NoAnswer, (by show 3 ≤ sizeLine; decide), fun p6 n6 => ?_⟩
      have s6 := s5.new' n6 (o := .lst [V.bl true, V.bl false, V.bl false])
      have h6 : (upd H5 p6 (.lst [V.bl true, V.bl false, V.bl false])) p6 = some (.lst [V.bl true, V.bl false, V.bl false]) := upd_same
      have hw6 : (upd H5 p6 (.lst [V.bl true, V.bl false, V.bl false])) r1 = some (.lst [V.str "InvalidText", V.str "InvalidIndex", V.str "NotARanking", V.str "NotAHouse", V.str "OtherThings", V.str "InvalidRow", V.str "InvalidMenu", V.str "InvalidRankings", V.str "UnknownThing", V.str "TooMany", V.str "NoHouse"]) := by
        rw [upd_ne (ne_of_none hw5 n6)]
        exact hw5
      have hf6 : (upd H5 p6 (.lst [V.bl true, V.bl false, V.bl false])) r5 = some (.lst [V.bl false, V.bl false, V.bl false, V.bl false, V.bl false, V.bl true, V.bl false, V.bl false, V.bl false, V.bl false, V.bl false]) := by
        rw [upd_ne (ne_of_none h5 n6)]
        exact h5
      change tSeq _ _ _ _ (upd H5 p6 (.lst [V.bl true, V.bl false, V.bl false]))
      generalize upd H5 p6 (.lst [V.bl true, V.bl false, V.bl false]) = H6 at s6 hw6 h6 hf6 ⊢
      refine ⟨_, rfl, .inl ⟨rfl, _, lst_of hf6⟩, r5, [false, false, false, false, false, true, false, false, false, false, false], true, rfl, rfl, lst_of hf6, (by decide), rfl, _, rfl, ifF (by decide) ?_⟩
      refine ⟨_, rfl, .inl ⟨rfl, _, lst_of h6⟩, p6, [true, false, false], true, rfl, rfl, lst_of h6, (by decide), rfl, _, rfl, ifF (by decide) ?_⟩
      refine ⟨_, rfl, .inl ⟨rfl, _, lst_of hf6⟩, r5, _, .bl true, 5, .bl true, rfl, rfl, lst_of hf6, rfl, rfl, rfl, rfl, (fun m z hm hz => ?_), ?_⟩
      · match m, hm, hz with
        | 0, _, hz => cases hz; rfl
        | 1, _, hz => cases hz; rfl
        | 2, _, hz => cases hz; rfl
        | 3, _, hz => cases hz; rfl
        | 4, _, hz => cases hz; rfl
        | m + 5, hm, _ => omega
      refine ⟨_, rfl, .inl ⟨rfl, _, lst_of h6⟩, p6, _, .bl true, 0, .bl true, rfl, rfl, lst_of h6, rfl, rfl, rfl, rfl, (fun m z hm hz => ?_), ?_⟩
      · omega
      refine ⟨_, rfl, 5, 8, rfl, rfl, _, rfl, ifT (by decide) ?_⟩
      refine ⟨rfl, _, rfl, ifT (by decide) ?_⟩
      exact ⟨_, rfl, _, rfl, r1, _, _, _, rfl, rfl, lst_of hw6, atI_nat (j := 5) rfl, k _ s6⟩
    | menu =>
      refine ⟨(by show 7 ≤ sizeLine; decide), fun p0 n0 => ?_⟩
      have s0 := Same.new n0 (o := .lst [V.str "InvalidText", V.str "InvalidIndex", V.str "NotARanking", V.str "NotAHouse", V.str "OtherThings", V.str "InvalidRow", V.str "InvalidMenu"])
      have h0 : (upd H p0 (.lst [V.str "InvalidText", V.str "InvalidIndex", V.str "NotARanking", V.str "NotAHouse", V.str "OtherThings", V.str "InvalidRow", V.str "InvalidMenu"])) p0 = some (.lst [V.str "InvalidText", V.str "InvalidIndex", V.str "NotARanking", V.str "NotAHouse", V.str "OtherThings", V.str "InvalidRow", V.str "InvalidMenu"]) := upd_same
      generalize upd H p0 (.lst [V.str "InvalidText", V.str "InvalidIndex", V.str "NotARanking", V.str "NotAHouse", V.str "OtherThings", V.str "InvalidRow", V.str "InvalidMenu"]) = H0 at s0 h0 ⊢
      refine ⟨_, rfl, (by show 4 ≤ sizeLine; decide), fun q1 nq1 => ?_⟩
      have xq1 : p0 ≠ q1 := ne_of_none h0 nq1
      refine ⟨p0, q1, _, _, rfl, rfl, (by rw [upd_ne xq1]; exact h0), upd_same, (by show 11 ≤ sizeLine; decide), fun r1 nr1 => ?_⟩
      have s1 := (s0.new' nq1).new' nr1 (o := .lst [V.str "InvalidText", V.str "InvalidIndex", V.str "NotARanking", V.str "NotAHouse", V.str "OtherThings", V.str "InvalidRow", V.str "InvalidMenu", V.str "InvalidRankings", V.str "UnknownThing", V.str "TooMany", V.str "NoHouse"])
      have hw : (upd (upd H0 q1 (.lst [V.str "InvalidRankings", V.str "UnknownThing", V.str "TooMany", V.str "NoHouse"])) r1 (.lst [V.str "InvalidText", V.str "InvalidIndex", V.str "NotARanking", V.str "NotAHouse", V.str "OtherThings", V.str "InvalidRow", V.str "InvalidMenu", V.str "InvalidRankings", V.str "UnknownThing", V.str "TooMany", V.str "NoHouse"])) r1 = some (.lst [V.str "InvalidText", V.str "InvalidIndex", V.str "NotARanking", V.str "NotAHouse", V.str "OtherThings", V.str "InvalidRow", V.str "InvalidMenu", V.str "InvalidRankings", V.str "UnknownThing", V.str "TooMany", V.str "NoHouse"]) := upd_same
      change tSeq _ _ _ _ (upd (upd H0 q1 (.lst [V.str "InvalidRankings", V.str "UnknownThing", V.str "TooMany", V.str "NoHouse"])) r1 (.lst [V.str "InvalidText", V.str "InvalidIndex", V.str "NotARanking", V.str "NotAHouse", V.str "OtherThings", V.str "InvalidRow", V.str "InvalidMenu", V.str "InvalidRankings", V.str "UnknownThing", V.str "TooMany", V.str "NoHouse"]))
      generalize upd (upd H0 q1 (.lst [V.str "InvalidRankings", V.str "UnknownThing", V.str "TooMany", V.str "NoHouse"])) r1 (.lst [V.str "InvalidText", V.str "InvalidIndex", V.str "NotARanking", V.str "NotAHouse", V.str "OtherThings", V.str "InvalidRow", V.str "InvalidMenu", V.str "InvalidRankings", V.str "UnknownThing", V.str "TooMany", V.str "NoHouse"]) = H1 at s1 hw ⊢
      have ex1 := ex.same s1
      refine ⟨_, rfl, a, _, fs, _, .ref T.E_InvalidText, false, rfl, ex1, T.ek_InvalidMenu, fun _ h => h, T.kf_InvalidMenu_InvalidText, _, rfl, a, _, fs, _, .ref T.E_InvalidIndex, false, rfl, ex1, T.ek_InvalidMenu, fun _ h => h, T.kf_InvalidMenu_InvalidIndex, _, rfl, a, _, fs, _, .ref T.E_NotARanking, false, rfl, ex1, T.ek_InvalidMenu, fun _ h => h, T.kf_InvalidMenu_NotARanking, (by show 3 ≤ sizeLine; decide), fun p2 n2 => ?_⟩
      have s2 := s1.new' n2 (o := .lst [V.bl false, V.bl false, V.bl false])
      have hw2 : (upd H1 p2 (.lst [V.bl false, V.bl false, V.bl false])) r1 = some (.lst [V.str "InvalidText", V.str "InvalidIndex", V.str "NotARanking", V.str "NotAHouse", V.str "OtherThings", V.str "InvalidRow", V.str "InvalidMenu", V.str "InvalidRankings", V.str "UnknownThing", V.str "TooMany", V.str "NoHouse"]) := by
        rw [upd_ne (ne_of_none hw n2)]
        exact hw
      have h2 : (upd H1 p2 (.lst [V.bl false, V.bl false, V.bl false])) p2 = some (.lst [V.bl false, V.bl false, V.bl false]) := upd_same
      change tSeq _ _ _ _ (upd H1 p2 (.lst [V.bl false, V.bl false, V.bl false]))
      generalize upd H1 p2 (.lst [V.bl false, V.bl false, V.bl false]) = H2 at s2 hw2 h2 ⊢
      have ex3 := ex.same s2
      refine ⟨_, rfl, _, rfl, a, _, fs, _, .ref T.E_NotAHouse, false, rfl, ex3, T.ek_InvalidMenu, fun _ h => h, T.kf_InvalidMenu_NotAHouse, _, rfl, a, _, fs, _, .ref T.E_OtherThings, false, rfl, ex3, T.ek_InvalidMenu, fun _ h => h, T.kf_InvalidMenu_OtherThings, _, rfl, a, _, fs, _, .ref T.E_InvalidRow, false, rfl, ex3, T.ek_InvalidMenu, fun _ h => h, T.kf_InvalidMenu_InvalidRow, (by show 3 ≤ sizeLine; decide), fun q3 nq3 => ?_⟩
      have xq3 : p2 ≠ q3 := ne_of_none h2 nq3
      refine ⟨p2, q3, _, _, rfl, rfl, (by rw [upd_ne xq3]; exact h2), upd_same, (by show 6 ≤ sizeLine; decide), fun r3 nr3 => ?_⟩
      have s3 := (s2.new' nq3).new' nr3 (o := .lst [V.bl false, V.bl false, V.bl false, V.bl false, V.bl false, V.bl false])
      have h3 : (upd (upd H2 q3 (.lst [V.bl false, V.bl false, V.bl false])) r3 (.lst [V.bl false, V.bl false, V.bl false, V.bl false, V.bl false, V.bl false])) r3 = some (.lst [V.bl false, V.bl false, V.bl false, V.bl false, V.bl false, V.bl false]) := upd_same
      have hw3 : (upd (upd H2 q3 (.lst [V.bl false, V.bl false, V.bl false])) r3 (.lst [V.bl false, V.bl false, V.bl false, V.bl false, V.bl false, V.bl false])) r1 = some (.lst [V.str "InvalidText", V.str "InvalidIndex", V.str "NotARanking", V.str "NotAHouse", V.str "OtherThings", V.str "InvalidRow", V.str "InvalidMenu", V.str "InvalidRankings", V.str "UnknownThing", V.str "TooMany", V.str "NoHouse"]) := by
        have e1 : (upd H2 q3 (.lst [V.bl false, V.bl false, V.bl false])) r1 = some (.lst [V.str "InvalidText", V.str "InvalidIndex", V.str "NotARanking", V.str "NotAHouse", V.str "OtherThings", V.str "InvalidRow", V.str "InvalidMenu", V.str "InvalidRankings", V.str "UnknownThing", V.str "TooMany", V.str "NoHouse"]) := by
          rw [upd_ne (ne_of_none hw2 nq3)]
          exact hw2
        rw [upd_ne (ne_of_none e1 nr3)]
        exact e1
      change tSeq _ _ _ _ (upd (upd H2 q3 (.lst [V.bl false, V.bl false, V.bl false])) r3 (.lst [V.bl false, V.bl false, V.bl false, V.bl false, V.bl false, V.bl false]))
      generalize upd (upd H2 q3 (.lst [V.bl false, V.bl false, V.bl false])) r3 (.lst [V.bl false, V.bl false, V.bl false, V.bl false, V.bl false, V.bl false]) = H3 at s3 hw3 h3 ⊢
      have ex4 := ex.same s3
      refine ⟨_, rfl, _, rfl, a, _, fs, _, .ref T.E_InvalidMenu, true, rfl, ex4, T.ek_InvalidMenu, fun _ h => h, T.kf_InvalidMenu_InvalidMenu, _, rfl, a, _, fs, _, .ref T.E_InvalidRankings, false, rfl, ex4, T.ek_InvalidMenu, fun _ h => h, T.kf_InvalidMenu_InvalidRankings, _, rfl, a, _, fs, _, .ref T.E_UnknownThing, false, rfl, ex4, T.ek_InvalidMenu, fun _ h => h, T.kf_InvalidMenu_UnknownThing, (by show 3 ≤ sizeLine; decide), fun q4 nq4 => ?_⟩
      have xq4 : r3 ≠ q4 := ne_of_none h3 nq4
      refine ⟨r3, q4, _, _, rfl, rfl, (by rw [upd_ne xq4]; exact h3), upd_same, (by show 9 ≤ sizeLine; decide), fun r4 nr4 => ?_⟩
      have s4 := (s3.new' nq4).new' nr4 (o := .lst [V.bl false, V.bl false, V.bl false, V.bl false, V.bl false, V.bl false, V.bl true, V.bl false, V.bl false])
      have h4 : (upd (upd H3 q4 (.lst [V.bl true, V.bl false, V.bl false])) r4 (.lst [V.bl false, V.bl false, V.bl false, V.bl false, V.bl false, V.bl false, V.bl true, V.bl false, V.bl false])) r4 = some (.lst [V.bl false, V.bl false, V.bl false, V.bl false, V.bl false, V.bl false, V.bl true, V.bl false, V.bl false]) := upd_same
      have hw4 : (upd (upd H3 q4 (.lst [V.bl true, V.bl false, V.bl false])) r4 (.lst [V.bl false, V.bl false, V.bl false, V.bl false, V.bl false, V.bl false, V.bl true, V.bl false, V.bl false])) r1 = some (.lst [V.str "InvalidText", V.str "InvalidIndex", V.str "NotARanking", V.str "NotAHouse", V.str "OtherThings", V.str "InvalidRow", V.str "InvalidMenu", V.str "InvalidRankings", V.str "UnknownThing", V.str "TooMany", V.str "NoHouse"]) := by
        have e1 : (upd H3 q4 (.lst [V.bl true, V.bl false, V.bl false])) r1 = some (.lst [V.str "InvalidText", V.str "InvalidIndex", V.str "NotARanking", V.str "NotAHouse", V.str "OtherThings", V.str "InvalidRow", V.str "InvalidMenu", V.str "InvalidRankings", V.str "UnknownThing", V.str "TooMany", V.str "NoHouse"]) := by
          rw [upd_ne (ne_of_none hw3 nq4)]
          exact hw3
        rw [upd_ne (ne_of_none e1 nr4)]
        exact e1
      change tSeq _ _ _ _ (upd (upd H3 q4 (.lst [V.bl true, V.bl false, V.bl false])) r4 (.lst [V.bl false, V.bl false, V.bl false, V.bl false, V.bl false, V.bl false, V.bl true, V.bl false, V.bl false]))
      generalize upd (upd H3 q4 (.lst [V.bl true, V.bl false, V.bl false])) r4 (.lst [V.bl false, V.bl false, V.bl false, V.bl false, V.bl false, V.bl false, V.bl true, V.bl false, V.bl false]) = H4 at s4 hw4 h4 ⊢
      have ex5 := ex.same s4
      refine ⟨_, rfl, _, rfl, a, _, fs, _, .ref T.E_TooMany, false, rfl, ex5, T.ek_InvalidMenu, fun _ h => h, T.kf_InvalidMenu_TooMany, _, rfl, a, _, fs, _, .ref T.E_NoHouse, false, rfl, ex5, T.ek_InvalidMenu, fun _ h => h, T.kf_InvalidMenu_NoHouse, (by show 2 ≤ sizeLine; decide), fun q5 nq5 => ?_⟩
      have xq5 : r4 ≠ q5 := ne_of_none h4 nq5
      refine ⟨r4, q5, _, _, rfl, rfl, (by rw [upd_ne xq5]; exact h4), upd_same, (by show 11 ≤ sizeLine; decide), fun r5 nr5 => ?_⟩
      have s5 := (s4.new' nq5).new' nr5 (o := .lst [V.bl false, V.bl false, V.bl false, V.bl false, V.bl false, V.bl false, V.bl true, V.bl false, V.bl false, V.bl false, V.bl false])
      have h5 : (upd (upd H4 q5 (.lst [V.bl false, V.bl false])) r5 (.lst [V.bl false, V.bl false, V.bl false, V.bl false, V.bl false, V.bl false, V.bl true, V.bl false, V.bl false, V.bl false, V.bl false])) r5 = some (.lst [V.bl false, V.bl false, V.bl false, V.bl false, V.bl false, V.bl false, V.bl true, V.bl false, V.bl false, V.bl false, V.bl false]) := upd_same
      have hw5 : (upd (upd H4 q5 (.lst [V.bl false, V.bl false])) r5 (.lst [V.bl false, V.bl false, V.bl false, V.bl false, V.bl false, V.bl false, V.bl true, V.bl false, V.bl false, V.bl false, V.bl false])) r1 = some (.lst [V.str "InvalidText", V.str "InvalidIndex", V.str "NotARanking", V.str "NotAHouse", V.str "OtherThings", V.str "InvalidRow", V.str "InvalidMenu", V.str "InvalidRankings", V.str "UnknownThing", V.str "TooMany", V.str "NoHouse"]) := by
        have e1 : (upd H4 q5 (.lst [V.bl false, V.bl false])) r1 = some (.lst [V.str "InvalidText", V.str "InvalidIndex", V.str "NotARanking", V.str "NotAHouse", V.str "OtherThings", V.str "InvalidRow", V.str "InvalidMenu", V.str "InvalidRankings", V.str "UnknownThing", V.str "TooMany", V.str "NoHouse"]) := by
          rw [upd_ne (ne_of_none hw4 nq5)]
          exact hw4
        rw [upd_ne (ne_of_none e1 nr5)]
        exact e1
      change tSeq _ _ _ _ (upd (upd H4 q5 (.lst [V.bl false, V.bl false])) r5 (.lst [V.bl false, V.bl false, V.bl false, V.bl false, V.bl false, V.bl false, V.bl true, V.bl false, V.bl false, V.bl false, V.bl false]))
      generalize upd (upd H4 q5 (.lst [V.bl false, V.bl false])) r5 (.lst [V.bl false, V.bl false, V.bl false, V.bl false, V.bl false, V.bl false, V.bl true, V.bl false, V.bl false, V.bl false, V.bl false]) = H5 at s5 hw5 h5 ⊢
      have ex6 := ex.same s5
      refine ⟨_, rfl, a, _, fs, _, .ref T.E_WrongValue, true, rfl, ex6, T.ek_InvalidMenu, fun _ h => h, T.kf_InvalidMenu_WrongValue, _, rfl, a, _, fs, _, .ref T.E_WrongName, false, rfl, ex6, T.ek_InvalidMenu, fun _ h => h, T.kf_InvalidMenu_WrongName, _, rfl, a, _, fs, _, .ref T.E_NoAnswer, false, rfl, ex6, T.ek_InvalidMenu, fun _ h => h, T.kf_InvalidMenu_NoAnswer, (by show 3 ≤ sizeLine; decide), fun p6 n6 => ?_⟩
      have s6 := s5.new' n6 (o := .lst [V.bl true, V.bl false, V.bl false])
      have h6 : (upd H5 p6 (.lst [V.bl true, V.bl false, V.bl false])) p6 = some (.lst [V.bl true, V.bl false, V.bl false]) := upd_same
      have hw6 : (upd H5 p6 (.lst [V.bl true, V.bl false, V.bl false])) r1 = some (.lst [V.str "InvalidText", V.str "InvalidIndex", V.str "NotARanking", V.str "NotAHouse", V.str "OtherThings", V.str "InvalidRow", V.str "InvalidMenu", V.str "InvalidRankings", V.str "UnknownThing", V.str "TooMany", V.str "NoHouse"]) := by
        rw [upd_ne (ne_of_none hw5 n6)]
        exact hw5
      have hf6 : (upd H5 p6 (.lst [V.bl true, V.bl false, V.bl false])) r5 = some (.lst [V.bl false, V.bl false, V.bl false, V.bl false, V.bl false, V.bl false, V.bl true, V.bl false, V.bl false, V.bl false, V.bl false]) := by
        rw [upd_ne (ne_of_none h5 n6)]
        exact h5
      change tSeq _ _ _ _ (upd H5 p6 (.lst [V.bl true, V.bl false, V.bl false]))
      generalize upd H5 p6 (.lst [V.bl true, V.bl false, V.bl false]) = H6 at s6 hw6 h6 hf6 ⊢
      refine ⟨_, rfl, .inl ⟨rfl, _, lst_of hf6⟩, r5, [false, false, false, false, false, false, true, false, false, false, false], true, rfl, rfl, lst_of hf6, (by decide), rfl, _, rfl, ifF (by decide) ?_⟩
      refine ⟨_, rfl, .inl ⟨rfl, _, lst_of h6⟩, p6, [true, false, false], true, rfl, rfl, lst_of h6, (by decide), rfl, _, rfl, ifF (by decide) ?_⟩
      refine ⟨_, rfl, .inl ⟨rfl, _, lst_of hf6⟩, r5, _, .bl true, 6, .bl true, rfl, rfl, lst_of hf6, rfl, rfl, rfl, rfl, (fun m z hm hz => ?_), ?_⟩
      · match m, hm, hz with
        | 0, _, hz => cases hz; rfl
        | 1, _, hz => cases hz; rfl
        | 2, _, hz => cases hz; rfl
        | 3, _, hz => cases hz; rfl
        | 4, _, hz => cases hz; rfl
        | 5, _, hz => cases hz; rfl
        | m + 6, hm, _ => omega
      refine ⟨_, rfl, .inl ⟨rfl, _, lst_of h6⟩, p6, _, .bl true, 0, .bl true, rfl, rfl, lst_of h6, rfl, rfl, rfl, rfl, (fun m z hm hz => ?_), ?_⟩
      · omega
      refine ⟨_, rfl, 6, 8, rfl, rfl, _, rfl, ifT (by decide) ?_⟩
      refine ⟨rfl, _, rfl, ifT (by decide) ?_⟩
      exact ⟨_, rfl, _, rfl, r1, _, _, _, rfl, rfl, lst_of hw6, atI_nat (j := 6) rfl, k _ s6⟩
    | ix =>
      refine ⟨(by show 7 ≤ sizeLine; decide), fun p0 n0 => ?_⟩
      have s0 := Same.new n0 (o := .lst [V.str "InvalidText", V.str "InvalidIndex", V.str "NotARanking", V.str "NotAHouse", V.str "OtherThings", V.str "InvalidRow", V.str "InvalidMenu"])
      have h0 : (upd H p0 (.lst [V.str "InvalidText", V.str "InvalidIndex", V.str "NotARanking", V.str "NotAHouse", V.str "OtherThings", V.str "InvalidRow", V.str "InvalidMenu"])) p0 = some (.lst [V.str "InvalidText", V.str "InvalidIndex", V.str "NotARanking", V.str "NotAHouse", V.str "OtherThings", V.str "InvalidRow", V.str "InvalidMenu"]) := upd_same
      generalize upd H p0 (.lst [V.str "InvalidText", V.str "InvalidIndex", V.str "NotARanking", V.str "NotAHouse", V.str "OtherThings", V.str "InvalidRow", V.str "InvalidMenu"]) = H0 at s0 h0 ⊢
      refine ⟨_, rfl, (by show 4 ≤ sizeLine; decide), fun q1 nq1 => ?_⟩
      have xq1 : p0 ≠ q1 := ne_of_none h0 nq1
      refine ⟨p0, q1, _, _, rfl, rfl, (by rw [upd_ne xq1]; exact h0), upd_same, (by show 11 ≤ sizeLine; decide), fun r1 nr1 => ?_⟩
      have s1 := (s0.new' nq1).new' nr1 (o := .lst [V.str "InvalidText", V.str "InvalidIndex", V.str "NotARanking", V.str "NotAHouse", V.str "OtherThings", V.str "InvalidRow", V.str "InvalidMenu", V.str "InvalidRankings", V.str "UnknownThing", V.str "TooMany", V.str "NoHouse"])
      have hw : (upd (upd H0 q1 (.lst [V.str "InvalidRankings", V.str "UnknownThing", V.str "TooMany", V.str "NoHouse"])) r1 (.lst [V.str "InvalidText", V.str "InvalidIndex", V.str "NotARanking", V.str "NotAHouse", V.str "OtherThings", V.str "InvalidRow", V.str "InvalidMenu", V.str "InvalidRankings", V.str "UnknownThing", V.str "TooMany", V.str "NoHouse"])) r1 = some (.lst [V.str "InvalidText", V.str "InvalidIndex", V.str "NotARanking", V.str "NotAHouse", V.str "OtherThings", V.str "InvalidRow", V.str "InvalidMenu", V.str "InvalidRankings", V.str "UnknownThing", V.str "TooMany", V.str "NoHouse"]) := upd_same
      change tSeq _ _ _ _ (upd (upd H0 q1 (.lst [V.str "InvalidRankings", V.str "UnknownThing", V.str "TooMany", V.str "NoHouse"])) r1 (.lst [V.str "InvalidText", V.str "InvalidIndex", V.str "NotARanking", V.str "NotAHouse", V.str "OtherThings", V.str "InvalidRow", V.str "InvalidMenu", V.str "InvalidRankings", V.str "UnknownThing", V.str "TooMany", V.str "NoHouse"]))
      generalize upd (upd H0 q1 (.lst [V.str "InvalidRankings", V.str "UnknownThing", V.str "TooMany", V.str "NoHouse"])) r1 (.lst [V.str "InvalidText", V.str "InvalidIndex", V.str "NotARanking", V.str "NotAHouse", V.str "OtherThings", V.str "InvalidRow", V.str "InvalidMenu", V.str "InvalidRankings", V.str "UnknownThing", V.str "TooMany", V.str "NoHouse"]) = H1 at s1 hw ⊢
      have ex1 := ex.same s1
      refine ⟨_, rfl, a, _, fs, _, .ref T.E_InvalidText, false, rfl, ex1, T.ek_InvalidIndex, fun _ h => h, T.kf_InvalidIndex_InvalidText, _, rfl, a, _, fs, _, .ref T.E_InvalidIndex, true, rfl, ex1, T.ek_InvalidIndex, fun _ h => h, T.kf_InvalidIndex_InvalidIndex, _, rfl, a, _, fs, _, .ref T.E_NotARanking, false, rfl, ex1, T.ek_InvalidIndex, fun _ h => h, T.kf_InvalidIndex_NotARanking, (by show 3 ≤ sizeLine; decide), fun p2 n2 => ?_⟩
      have s2 := s1.new' n2 (o := .lst [V.bl false, V.bl true, V.bl false])
      have hw2 : (upd H1 p2 (.lst [V.bl false, V.bl true, V.bl false])) r1 = some (.lst [V.str "InvalidText", V.str "InvalidIndex", V.str "NotARanking", V.str "NotAHouse", V.str "OtherThings", V.str "InvalidRow", V.str "InvalidMenu", V.str "InvalidRankings", V.str "UnknownThing", V.str "TooMany", V.str "NoHouse"]) := by
        rw [upd_ne (ne_of_none hw n2)]
        exact hw
      have h2 : (upd H1 p2 (.lst [V.bl false, V.bl true, V.bl false])) p2 = some (.lst [V.bl false, V.bl true, V.bl false]) := upd_same
      change tSeq _ _ _ _ (upd H1 p2 (.lst [V.bl false, V.bl true, V.bl false]))
      generalize upd H1 p2 (.lst [V.bl false, V.bl true, V.bl false]) = H2 at s2 hw2 h2 ⊢
      have ex3 := ex.same s2
      refine ⟨_, rfl, _, rfl, a, _, fs, _, .ref T.E_NotAHouse, false, rfl, ex3, T.ek_InvalidIndex, fun _ h => h, T.kf_InvalidIndex_NotAHouse, _, rfl, a, _, fs, _, .ref T.E_OtherThings, false, rfl, ex3, T.ek_InvalidIndex, fun _ h => h, T.kf_InvalidIndex_OtherThings, _, rfl, a, _, fs, _, .ref T.E_InvalidRow, false, rfl, ex3, T.ek_InvalidIndex, fun _ h => h, T.kf_InvalidIndex_InvalidRow, (by show 3 ≤ sizeLine; decide), fun q3 nq3 => ?_⟩
      have xq3 : p2 ≠ q3 := ne_of_none h2 nq3
      refine ⟨p2, q3, _, _, rfl, rfl, (by rw [upd_ne xq3]; exact h2), upd_same, (by show 6 ≤ sizeLine; decide), fun r3 nr3 => ?_⟩
      have s3 := (s2.new' nq3).new' nr3 (o := .lst [V.bl false, V.bl true, V.bl false, V.bl false, V.bl false, V.bl false])
      have h3 : (upd (upd H2 q3 (.lst [V.bl false, V.bl false, V.bl false])) r3 (.lst [V.bl false, V.bl true, V.bl false, V.bl false, V.bl false, V.bl false])) r3 = some (.lst [V.bl false, V.bl true, V.bl false, V.bl false, V.bl false, V.bl false]) := upd_same
      have hw3 : (upd (upd H2 q3 (.lst [V.bl false, V.bl false, V.bl false])) r3 (.lst [V.bl false, V.bl true, V.bl false, V.bl false, V.bl false, V.bl false])) r1 = some (.lst [V.str "InvalidText", V.str "InvalidIndex", V.str "NotARanking", V.str "NotAHouse", V.str "OtherThings", V.str "InvalidRow", V.str "InvalidMenu", V.str "InvalidRankings", V.str "UnknownThing", V.str "TooMany", V.str "NoHouse"]) := by
        have e1 : (upd H2 q3 (.lst [V.bl false, V.bl false, V.bl false])) r1 = some (.lst [V.str "InvalidText", V.str "InvalidIndex", V.str "NotARanking", V.str "NotAHouse", V.str "OtherThings", V.str "InvalidRow", V.str "InvalidMenu", V.str "InvalidRankings", V.str "UnknownThing", V.str "TooMany", V.str "NoHouse"]) := by
          rw [upd_ne (ne_of_none hw2 nq3)]
          exact hw2
        rw [upd_ne (ne_of_none e1 nr3)]
        exact e1
      change tSeq _ _ _ _ (upd (upd H2 q3 (.lst [V.bl false, V.bl false, V.bl false])) r3 (.lst [V.bl false, V.bl true, V.bl false, V.bl false, V.bl false, V.bl false]))
      generalize upd (upd H2 q3 (.lst [V.bl false, V.bl false, V.bl false])) r3 (.lst [V.bl false, V.bl true, V.bl false, V.bl false, V.bl false, V.bl false]) = H3 at s3 hw3 h3 ⊢
      have ex4 := ex.same s3
      refine ⟨_, rfl, _, rfl, a, _, fs, _, .ref T.E_InvalidMenu, false, rfl, ex4, T.ek_InvalidIndex, fun _ h => h, T.kf_InvalidIndex_InvalidMenu, _, rfl, a, _, fs, _, .ref T.E_InvalidRankings, false, rfl, ex4, T.ek_InvalidIndex, fun _ h => h, T.kf_InvalidIndex_InvalidRankings, _, rfl, a, _, fs, _, .ref T.E_UnknownThing, false, rfl, ex4, T.ek_InvalidIndex, fun _ h => h, T.kf_InvalidIndex_UnknownThing, (by show 3 ≤ sizeLine; decide), fun q4 nq4 => ?_⟩
      have xq4 : r3 ≠ q4 := ne_of_none h3 nq4
      refine ⟨r3, q4, _, _, rfl, rfl, (by rw [upd_ne xq4]; exact h3), upd_same, (by show 9 ≤ sizeLine; decide), fun r4 nr4 => ?_⟩
      have s4 := (s3.new' nq4).new' nr4 (o := .lst [V.bl false, V.bl true, V.bl false, V.bl false, V.bl false, V.bl false, V.bl false, V.bl false, V.bl false])
      have h4 : (upd (upd H3 q4 (.lst [V.bl false, V.bl false, V.bl false])) r4 (.lst [V.bl false, V.bl true, V.bl false, V.bl false, V.bl false, V.bl false, V.bl false, V.bl false, V.bl false])) r4 = some (.lst [V.bl false, V.bl true, V.bl false, V.bl false, V.bl false, V.bl false, V.bl false, V.bl false, V.bl false]) := upd_same
      have hw4 : (upd (upd H3 q4 (.lst [V.bl false, V.bl false, V.bl false])) r4 (.lst [V.bl false, V.bl true, V.bl false, V.bl false, V.bl false, V.bl false, V.bl false, V.bl false, V.bl false])) r1 = some (.lst [V.str "InvalidText", V.str "InvalidIndex", V.str "NotARanking", V.str "NotAHouse", V.str "OtherThings", V.str "InvalidRow", V.str "InvalidMenu", V.str "InvalidRankings", V.str "UnknownThing", V.str "TooMany", V.str "NoHouse"]) := by
        have e1 : (upd H3 q4 (.lst [V.bl false, V.bl false, V.bl false])) r1 = some (.lst [V.str "InvalidText", V.str "InvalidIndex", V.str "NotARanking", V.str "NotAHouse", V.str "OtherThings", V.str "InvalidRow", V.str "InvalidMenu", V.str "InvalidRankings", V.str "UnknownThing", V.str "TooMany", V.str "NoHouse"]) := by
          rw [upd_ne (ne_of_none hw3 nq4)]
          exact hw3
        rw [upd_ne (ne_of_none e1 nr4)]
        exact e1
      change tSeq _ _ _ _ (upd (upd H3 q4 (.lst [V.bl false, V.bl false, V.bl false])) r4 (.lst [V.bl false, V.bl true, V.bl false, V.bl false, V.bl false, V.bl false, V.bl false, V.bl false, V.bl false]))
      generalize upd (upd H3 q4 (.lst [V.bl false, V.bl false, V.bl false])) r4 (.lst [V.bl false, V.bl true, V.bl false, V.bl false, V.bl false, V.bl false, V.bl false, V.bl false, V.bl false]) = H4 at s4 hw4 h4 ⊢
      have ex5 := ex.same s4
      refine ⟨_, rfl, _, rfl, a, _, fs, _, .ref T.E_TooMany, false, rfl, ex5, T.ek_InvalidIndex, fun _ h => h, T.kf_InvalidIndex_TooMany, _, rfl, a, _, fs, _, .ref T.E_NoHouse, false, rfl, ex5, T.ek_InvalidIndex, fun _ h => h, T.kf_InvalidIndex_NoHouse, (by show 2 ≤ sizeLine; decide), fun q5 nq5 => ?_⟩
      have xq5 : r4 ≠ q5 := ne_of_none h4 nq5
      refine ⟨r4, q5, _, _, rfl, rfl, (by rw [upd_ne xq5]; exact h4), upd_same, (by show 11 ≤ sizeLine; decide), fun r5 nr5 => ?_⟩
      have s5 := (s4.new' nq5).new' nr5 (o := .lst [V.bl false, V.bl true, V.bl false, V.bl false, V.bl false, V.bl false, V.bl false, V.bl false, V.bl false, V.bl false, V.bl false])
      have h5 : (upd (upd H4 q5 (.lst [V.bl false, V.bl false])) r5 (.lst [V.bl false, V.bl true, V.bl false, V.bl false, V.bl false, V.bl false, V.bl false, V.bl false, V.bl false, V.bl false, V.bl false])) r5 = some (.lst [V.bl false, V.bl true, V.bl false, V.bl false, V.bl false, V.bl false, V.bl false, V.bl false, V.bl false, V.bl false, V.bl false]) := upd_same
      have hw5 : (upd (upd H4 q5 (.lst [V.bl false, V.bl false])) r5 (.lst [V.bl false, V.bl true, V.bl false, V.bl false, V.bl false, V.bl false, V.bl false, V.bl false, V.bl false, V.bl false, V.bl false])) r1 = some (.lst [V.str "InvalidText", V.str "InvalidIndex", V.str "NotARanking", V.str "NotAHouse", V.str "OtherThings", V.str "InvalidRow", V.str "InvalidMenu", V.str "InvalidRankings", V.str "UnknownThing", V.str "TooMany", V.str "NoHouse"]) := by
        have e1 : (upd H4 q5 (.lst [V.bl false, V.bl false])) r1 = some (.lst [V.str "InvalidText", V.str "InvalidIndex", V.str "NotARanking", V.str "NotAHouse", V.str "OtherThings", V.str "InvalidRow", V.str "InvalidMenu", V.str "InvalidRankings", V.str "UnknownThing", V.str "TooMany", V.str "NoHouse"]) := by
          rw [upd_ne (ne_of_none hw4 nq5)]
          exact hw4
        rw [upd_ne (ne_of_none e1 nr5)]
        exact e1
      change tSeq _ _ _ _ (upd (upd H4 q5 (.lst [V.bl false, V.bl false])) r5 (.lst [V.bl false, V.bl true, V.bl false, V.bl false, V.bl false, V.bl false, V.bl false, V.bl false, V.bl false, V.bl false, V.bl false]))
      generalize upd (upd H4 q5 (.lst [V.bl false, V.bl false])) r5 (.lst [V.bl false, V.bl true, V.bl false, V.bl false, V.bl false, V.bl false, V.bl false, V.bl false, V.bl false, V.bl false, V.bl false]) = H5 at s5 hw5 h5 ⊢
      have ex6 := ex.same s5
      refine ⟨_, rfl, a, _, fs, _, .ref T.E_WrongValue, true, rfl, ex6, T.ek_InvalidIndex, fun _ h => h, T.kf_InvalidIndex_WrongValue, _, rfl, a, _, fs, _, .ref T.E_WrongName, false, rfl, ex6, T.ek_InvalidIndex, fun _ h => h, T.kf_InvalidIndex_WrongName, _, rfl, a, _, fs, _, .ref T.E_NoAnswer, false, rfl, ex6, T.ek_InvalidIndex, fun _ h => h, T.kf_InvalidIndex_NoAnswer, (by show 3 ≤ sizeLine; decide), fun p6 n6 => ?_⟩
      have s6 := s5.new' n6 (o := .lst [V.bl true, V.bl false, V.bl false])
      have h6 : (upd H5 p6 (.lst [V.bl true, V.bl false, V.bl false])) p6 = some (.lst [V.bl true, V.bl false, V.bl false]) := upd_same
      have hw6 : (upd H5 p6 (.lst [V.bl true, V.bl false, V.bl false])) r1 = some (.lst [V.str "InvalidText", V.str "InvalidIndex", V.str "NotARanking", V.str "NotAHouse", V.str "OtherThings", V.str "InvalidRow", V.str "InvalidMenu", V.str "InvalidRankings", V.str "UnknownThing", V.str "TooMany", V.str "NoHouse"]) := by
        rw [upd_ne (ne_of_none hw5 n6)]
        exact hw5
      have hf6 : (upd H5 p6 (.lst [V.bl true, V.bl false, V.bl false])) r5 = some (.lst [V.bl false, V.bl true, V.bl false, V.bl false, V.bl false, V.bl false, V.bl false, V.bl false, V.bl false, V.bl false, V.bl false]) := by
        rw [upd_ne (ne_of_none h5 n6)]
        exact h5
      change tSeq _ _ _ _ (upd H5 p6 (.lst [V.bl true, V.bl false, V.bl false]))
      generalize upd H5 p6 (.lst [V.bl true, V.bl false, V.bl false]) = H6 at s6 hw6 h6 hf6 ⊢
      refine ⟨_, rfl, .inl ⟨rfl, _, lst_of hf6⟩, r5, [false, true, false, false, false, false, false, false, false, false, false], true, rfl, rfl, lst_of hf6, (by decide), rfl, _, rfl, ifF (by decide) ?_⟩
      refine ⟨_, rfl, .inl ⟨rfl, _, lst_of h6⟩, p6, [true, false, false], true, rfl, rfl, lst_of h6, (by decide), rfl, _, rfl, ifF (by decide) ?_⟩
      refine ⟨_, rfl, .inl ⟨rfl, _, lst_of hf6⟩, r5, _, .bl true, 1, .bl true, rfl, rfl, lst_of hf6, rfl, rfl, rfl, rfl, (fun m z hm hz => ?_), ?_⟩
      · match m, hm, hz with
        | 0, _, hz => cases hz; rfl
        | m + 1, hm, _ => omega
      refine ⟨_, rfl, .inl ⟨rfl, _, lst_of h6⟩, p6, _, .bl true, 0, .bl true, rfl, rfl, lst_of h6, rfl, rfl, rfl, rfl, (fun m z hm hz => ?_), ?_⟩
      · omega
      refine ⟨_, rfl, 1, 8, rfl, rfl, _, rfl, ifT (by decide) ?_⟩
      refine ⟨rfl, _, rfl, ifT (by decide) ?_⟩
      exact ⟨_, rfl, _, rfl, r1, _, _, _, rfl, rfl, lst_of hw6, atI_nat (j := 1) rfl, k _ s6⟩
    | thing =>
      refine ⟨(by show 7 ≤ sizeLine; decide), fun p0 n0 => ?_⟩
      have s0 := Same.new n0 (o := .lst [V.str "InvalidText", V.str "InvalidIndex", V.str "NotARanking", V.str "NotAHouse", V.str "OtherThings", V.str "InvalidRow", V.str "InvalidMenu"])
      have h0 : (upd H p0 (.lst [V.str "InvalidText", V.str "InvalidIndex", V.str "NotARanking", V.str "NotAHouse", V.str "OtherThings", V.str "InvalidRow", V.str "InvalidMenu"])) p0 = some (.lst [V.str "InvalidText", V.str "InvalidIndex", V.str "NotARanking", V.str "NotAHouse", V.str "OtherThings", V.str "InvalidRow", V.str "InvalidMenu"]) := upd_same
      generalize upd H p0 (.lst [V.str "InvalidText", V.str "InvalidIndex", V.str "NotARanking", V.str "NotAHouse", V.str "OtherThings", V.str "InvalidRow", V.str "InvalidMenu"]) = H0 at s0 h0 ⊢
      refine ⟨_, rfl, (by show 4 ≤ sizeLine; decide), fun q1 nq1 => ?_⟩
      have xq1 : p0 ≠ q1 := ne_of_none h0 nq1
      refine ⟨p0, q1, _, _, rfl, rfl, (by rw [upd_ne xq1]; exact h0), upd_same, (by show 11 ≤ sizeLine; decide), fun r1 nr1 => ?_⟩
      have s1 := (s0.new' nq1).new' nr1 (o := .lst [V.str "InvalidText", V.str "InvalidIndex", V.str "NotARanking", V.str "NotAHouse", V.str "OtherThings", V.str "InvalidRow", V.str "InvalidMenu", V.str "InvalidRankings", V.str "UnknownThing", V.str "TooMany", V.str "NoHouse"])
      have hw : (upd (upd H0 q1 (.lst [V.str "InvalidRankings", V.str "UnknownThing", V.str "TooMany", V.str "NoHouse"])) r1 (.lst [V.str "InvalidText", V.str "InvalidIndex", V.str "NotARanking", V.str "NotAHouse", V.str "OtherThings", V.str "InvalidRow", V.str "InvalidMenu", V.str "InvalidRankings", V.str "UnknownThing", V.str "TooMany", V.str "NoHouse"])) r1 = some (.lst [V.str "InvalidText", V.str "InvalidIndex", V.str "NotARanking", V.str "NotAHouse", V.str "OtherThings", V.str "InvalidRow", V.str "InvalidMenu", V.str "InvalidRankings", V.str "UnknownThing", V.str "TooMany", V.str "NoHouse"]) := upd_same
      change tSeq _ _ _ _ (upd (upd H0 q1 (.lst [V.str "InvalidRankings", V.str "UnknownThing", V.str "TooMany", V.str "NoHouse"])) r1 (.lst [V.str "InvalidText", V.str "InvalidIndex", V.str "NotARanking", V.str "NotAHouse", V.str "OtherThings", V.str "InvalidRow", V.str "InvalidMenu", V.str "InvalidRankings", V.str "UnknownThing", V.str "TooMany", V.str "NoHouse"]))
      generalize upd (upd H0 q1 (.lst [V.str "InvalidRankings", V.str "UnknownThing", V.str "TooMany", V.str "NoHouse"])) r1 (.lst [V.str "InvalidText", V.str "InvalidIndex", V.str "NotARanking", V.str "NotAHouse", V.str "OtherThings", V.str "InvalidRow", V.str "InvalidMenu", V.str "InvalidRankings", V.str "UnknownThing", V.str "TooMany", V.str "NoHouse"]) = H1 at s1 hw ⊢
      have ex1 := ex.same s1
      refine ⟨_, rfl, a, _, fs, _, .ref T.E_InvalidText, false, rfl, ex1, T.ek_UnknownThing, fun _ h => h, T.kf_UnknownThing_InvalidText, _, rfl, a, _, fs, _, .ref T.E_InvalidIndex, false, rfl, ex1, T.ek_UnknownThing, fun _ h => h, T.kf_UnknownThing_InvalidIndex, _, rfl, a, _, fs, _, .ref T.E_NotARanking, false, rfl, ex1, T.ek_UnknownThing, fun _ h => h, T.kf_UnknownThing_NotARanking, (by show 3 ≤ sizeLine; decide), fun p2 n2 => ?_⟩
      have s2 := s1.new' n2 (o := .lst [V.bl false, V.bl false, V.bl false])
      have hw2 : (upd H1 p2 (.lst [V.bl false, V.bl false, V.bl false])) r1 = some (.lst [V.str "InvalidText", V.str "InvalidIndex", V.str "NotARanking", V.str "NotAHouse", V.str "OtherThings", V.str "InvalidRow", V.str "InvalidMenu", V.str "InvalidRankings", V.str "UnknownThing", V.str "TooMany", V.str "NoHouse"]) := by
        rw [upd_ne (ne_of_none hw n2)]
        exact hw
      have h2 : (upd H1 p2 (.lst [V.bl false, V.bl false, V.bl false])) p2 = some (.lst [V.bl false, V.bl false, V.bl false]) := upd_same
      change tSeq _ _ _ _ (upd H1 p2 (.lst [V.bl false, V.bl false, V.bl false]))
      generalize upd H1 p2 (.lst [V.bl false, V.bl false, V.bl false]) = H2 at s2 hw2 h2 ⊢
      have ex3 := ex.same s2
      refine ⟨_, rfl, _, rfl, a, _, fs, _, .ref T.E_NotAHouse, false, rfl, ex3, T.ek_UnknownThing, fun _ h => h, T.kf_UnknownThing_NotAHouse, _, rfl, a, _, fs, _, .ref T.E_OtherThings, false, rfl, ex3, T.ek_UnknownThing, fun _ h => h, T.kf_UnknownThing_OtherThings, _, rfl, a, _, fs, _, .ref T.E_InvalidRow, false, rfl, ex3, T.ek_UnknownThing, fun _ h => h, T.kf_UnknownThing_InvalidRow, (by show 3 ≤ sizeLine; decide), fun q3 nq3 => ?_⟩
      have xq3 : p2 ≠ q3 := ne_of_none h2 nq3
      refine ⟨p2, q3, _, _, rfl, rfl, (by rw [upd_ne xq3]; exact h2), upd_same, (by show 6 ≤ sizeLine; decide), fun r3 nr3 => ?_⟩
      have s3 := (s2.new' nq3).new' nr3 (o := .lst [V.bl false, V.bl false, V.bl false, V.bl false, V.bl false, V.bl false])
      have h3 : (upd (upd H2 q3 (.lst [V.bl false, V.bl false, V.bl false])) r3 (.lst [V.bl false, V.bl false, V.bl false, V.bl false, V.bl false, V.bl false])) r3 = some (.lst [V.bl false, V.bl false, V.bl false, V.bl false, V.bl false, V.bl false]) := upd_same
      have hw3 : (upd (upd H2 q3 (.lst [V.bl false, V.bl false, V.bl false])) r3 (.lst [V.bl false, V.bl false, V.bl false, V.bl false, V.bl false, V.bl false])) r1 = some (.lst [V.str "InvalidText", V.str "InvalidIndex", V.str "NotARanking", V.str "NotAHouse", V.str "OtherThings", V.str "InvalidRow", V.str "InvalidMenu", V.str "InvalidRankings", V.str "UnknownThing", V.str "TooMany", V.str "NoHouse"]) := by
        have e1 : (upd H2 q3 (.lst [V.bl false, V.bl false, V.bl false])) r1 = some (.lst [V.str "InvalidText", V.str "InvalidIndex", V.str "NotARanking", V.str "NotAHouse", V.str "OtherThings", V.str "InvalidRow", V.str "InvalidMenu", V.str "InvalidRankings", V.str "UnknownThing", V.str "TooMany", V.str "NoHouse"]) := by
          rw [upd_ne (ne_of_none hw2 nq3)]
          exact hw2
        rw [upd_ne (ne_of_none e1 nr3)]
        exact e1
      change tSeq _ _ _ _ (upd (upd H2 q3 (.lst [V.bl false, V.bl false, V.bl false])) r3 (.lst [V.bl false, V.bl false, V.bl false, V.bl false, V.bl false, V.bl false]))
      generalize upd (upd H2 q3 (.lst [V.bl false, V.bl false, V.bl false])) r3 (.lst [V.bl false, V.bl false, V.bl false, V.bl false, V.bl false, V.bl false]) = H3 at s3 hw3 h3 ⊢
      have ex4 := ex.same s3
      refine ⟨_, rfl, _, rfl, a, _, fs, _, .ref T.E_InvalidMenu, false, rfl, ex4, T.ek_UnknownThing, fun _ h => h, T.kf_UnknownThing_InvalidMenu, _, rfl, a, _, fs, _, .ref T.E_InvalidRankings, false, rfl, ex4, T.ek_UnknownThing, fun _ h => h, T.kf_UnknownThing_InvalidRankings, _, rfl, a, _, fs, _, .ref T.E_UnknownThing, true, rfl, ex4, T.ek_UnknownThing, fun _ h => h, T.kf_UnknownThing_UnknownThing, (by show 3 ≤ sizeLine; decide), fun q4 nq4 => ?_⟩
      have xq4 : r3 ≠ q4 := ne_of_none h3 nq4
      refine ⟨r3, q4, _, _, rfl, rfl, (by rw [upd_ne xq4]; exact h3), upd_same, (by show 9 ≤ sizeLine; decide), fun r4 nr4 => ?_⟩
      have s4 := (s3.new' nq4).new' nr4 (o := .lst [V.bl false, V.bl false, V.bl false, V.bl false, V.bl false, V.bl false, V.bl false, V.bl false, V.bl true])
      have h4 : (upd (upd H3 q4 (.lst [V.bl false, V.bl false, V.bl true])) r4 (.lst [V.bl false, V.bl false, V.bl false, V.bl false, V.bl false, V.bl false, V.bl false, V.bl false, V.bl true])) r4 = some (.lst [V.bl false, V.bl false, V.bl false, V.bl false, V.bl false, V.bl false, V.bl false, V.bl false, V.bl true]) := upd_same
      have hw4 : (upd (upd H3 q4 (.lst [V.bl false, V.bl false, V.bl true])) r4 (.lst [V.bl false, V.bl false, V.bl false, V.bl false, V.bl false, V.bl false, V.bl false, V.bl false, V.bl true])) r1 = some (.lst [V.str "InvalidText", V.str "InvalidIndex", V.str "NotARanking", V.str "NotAHouse", V.str "OtherThings", V.str "InvalidRow", V.str "InvalidMenu", V.str "InvalidRankings", V.str "UnknownThing", V.str "TooMany", V.str "NoHouse"]) := by
        have e1 : (upd H3 q4 (.lst [V.bl false, V.bl false, V.bl true])) r1 = some (.lst [V.str "InvalidText", V.str "InvalidIndex", V.str "NotARanking", V.str "NotAHouse", V.str "OtherThings", V.str "InvalidRow", V.str "InvalidMenu", V.str "InvalidRankings", V.str "UnknownThing", V.str "TooMany", V.str "NoHouse"]) := by
          rw [upd_ne (ne_of_none hw3 nq4)]
          exact hw3
        rw [upd_ne (ne_of_none e1 nr4)]
        exact e1
      change tSeq _ _ _ _ (upd (upd H3 q4 (.lst [V.bl false, V.bl false, V.bl true])) r4 (.lst [V.bl false, V.bl false, V.bl false, V.bl false, V.bl false, V.bl false, V.bl false, V.bl false, V.bl true]))
      generalize upd (upd H3 q4 (.lst [V.bl false, V.bl false, V.bl true])) r4 (.lst [V.bl false, V.bl false, V.bl false, V.bl false, V.bl false, V.bl false, V.bl false, V.bl false, V.bl true]) = H4 at s4 hw4 h4 ⊢
      have ex5 := ex.same s4
      refine ⟨_, rfl, _, rfl, a, _, fs, _, .ref T.E_TooMany, false, rfl, ex5, T.ek_UnknownThing, fun _ h => h, T.kf_UnknownThing_TooMany, _, rfl, a, _, fs, _, .ref T.E_NoHouse, false, rfl, ex5, T.ek_UnknownThing, fun _ h => h, T.kf_UnknownThing_NoHouse, (by show 2 ≤ sizeLine; decide), fun q5 nq5 => ?_⟩
      have xq5 : r4 ≠ q5 := ne_of_none h4 nq5
      refine ⟨r4, q5, _, _, rfl, rfl, (by rw [upd_ne xq5]; exact h4), upd_same, (by show 11 ≤ sizeLine; decide), fun r5 nr5 => ?_⟩
      have s5 := (s4.new' nq5).new' nr5 (o := .lst [V.bl false, V.bl false, V.bl false, V.bl false, V.bl false, V.bl false, V.bl false, V.bl false, V.bl true, V.bl false, V.bl false])
      have h5 : (upd (upd H4 q5 (.lst [V.bl false, V.bl false])) r5 (.lst [V.bl false, V.bl false, V.bl false, V.bl false, V.bl false, V.bl false, V.bl false, V.bl false, V.bl true, V.bl false, V.bl false])) r5 = some (.lst [V.bl false, V.bl false, V.bl false, V.bl false, V.bl false, V.bl false, V.bl false, V.bl false, V.bl true, V.bl false, V.bl false]) := upd_same
      have hw5 : (upd (upd H4 q5 (.lst [V.bl false, V.bl false])) r5 (.lst [V.bl false, V.bl false, V.bl false, V.bl false, V.bl false, V.bl false, V.bl false, V.bl false, V.bl true, V.bl false, V.bl false])) r1 = some (.lst [V.str "InvalidText", V.str "InvalidIndex", V.str "NotARanking", V.str "NotAHouse", V.str "OtherThings", V.str "InvalidRow", V.str "InvalidMenu", V.str "InvalidRankings", V.str "UnknownThing", V.str "TooMany", V.str "NoHouse"]) := by
        have e1 : (upd H4 q5 (.lst [V.bl false, V.bl false])) r1 = some (.lst [V.str "InvalidText", V.str "InvalidIndex", V.str "NotARanking", V.str "NotAHouse", V.str "OtherThings", V.str "InvalidRow", V.str "InvalidMenu", V.str "InvalidRankings", V.str "UnknownThing", V.str "TooMany", V.str "NoHouse"]) := by
          rw [upd_ne (ne_of_none hw4 nq5)]
          exact hw4
        rw [upd_ne (ne_of_none e1 nr5)]
        exact e1
      change tSeq _ _ _ _ (upd (upd H4 q5 (.lst [V.bl false, V.bl false])) r5 (.lst [V.bl false, V.bl false, V.bl false, V.bl false, V.bl false, V.bl false, V.bl false, V.bl false, V.bl true, V.bl false, V.bl false]))
      generalize upd (upd H4 q5 (.lst [V.bl false, V.bl false])) r5 (.lst [V.bl false, V.bl false, V.bl false, V.bl false, V.bl false, V.bl false, V.bl false, V.bl false, V.bl true, V.bl false, V.bl false]) = H5 at s5 hw5 h5 ⊢
      have ex6 := ex.same s5
      refine ⟨_, rfl, a, _, fs, _, .ref T.E_WrongValue, false, rfl, ex6, T.ek_UnknownThing, fun _ h => h, T.kf_UnknownThing_WrongValue, _, rfl, a, _, fs, _, .ref T.E_WrongName, true, rfl, ex6, T.ek_UnknownThing, fun _ h => h, T.kf_UnknownThing_WrongName, _, rfl, a, _, fs, _, .ref T.E_NoAnswer, false, rfl, ex6, T.ek_UnknownThing, fun _ h => h, T.kf_UnknownThing_NoAnswer, (by show 3 ≤ sizeLine; decide), fun p6 n6 => ?_⟩
      have s6 := s5.new' n6 (o := .lst [V.bl false, V.bl true, V.bl false])
      have h6 : (upd H5 p6 (.lst [V.bl false, V.bl true, V.bl false])) p6 = some (.lst [V.bl false, V.bl true, V.bl false]) := upd_same
      have hw6 : (upd H5 p6 (.lst [V.bl false, V.bl true, V.bl false])) r1 = some (.lst [V.str "InvalidText", V.str "InvalidIndex", V.str "NotARanking", V.str "NotAHouse", V.str "OtherThings", V.str "InvalidRow", V.str "InvalidMenu", V.str "InvalidRankings", V.str "UnknownThing", V.str "TooMany", V.str "NoHouse"]) := by
        rw [upd_ne (ne_of_none hw5 n6)]
        exact hw5
      have hf6 : (upd H5 p6 (.lst [V.bl false, V.bl true, V.bl false])) r5 = some (.lst [V.bl false, V.bl false, V.bl false, V.bl false, V.bl false, V.bl false, V.bl false, V.bl false, V.bl true, V.bl false, V.bl false]) := by
        rw [upd_ne (ne_of_none h5 n6)]
        exact h5
      change tSeq _ _ _ _ (upd H5 p6 (.lst [V.bl false, V.bl true, V.bl false]))
      generalize upd H5 p6 (.lst [V.bl false, V.bl true, V.bl false]) = H6 at s6 hw6 h6 hf6 ⊢
      refine ⟨_, rfl, .inl ⟨rfl, _, lst_of hf6⟩, r5, [false, false, false, false, false, false, false, false, true, false, false], true, rfl, rfl, lst_of hf6, (by decide), rfl, _, rfl, ifF (by decide) ?_⟩
      refine ⟨_, rfl, .inl ⟨rfl, _, lst_of h6⟩, p6, [false, true, false], true, rfl, rfl, lst_of h6, (by decide), rfl, _, rfl, ifF (by decide) ?_⟩
      refine ⟨_, rfl, .inl ⟨rfl, _, lst_of hf6⟩, r5, _, .bl true, 8, .bl true, rfl, rfl, lst_of hf6, rfl, rfl, rfl, rfl, (fun m z hm hz => ?_), ?_⟩
      · match m, hm, hz with
        | 0, _, hz => cases hz; rfl
        | 1, _, hz => cases hz; rfl
        | 2, _, hz => cases hz; rfl
        | 3, _, hz => cases hz; rfl
        | 4, _, hz => cases hz; rfl
        | 5, _, hz => cases hz; rfl
        | 6, _, hz => cases hz; rfl
        | 7, _, hz => cases hz; rfl
        | m + 8, hm, _ => omega
      refine ⟨_, rfl, .inl ⟨rfl, _, lst_of h6⟩, p6, _, .bl true, 1, .bl true, rfl, rfl, lst_of h6, rfl, rfl, rfl, rfl, (fun m z hm hz => ?_), ?_⟩
      · match m, hm, hz with
        | 0, _, hz => cases hz; rfl
        | m + 1, hm, _ => omega
      refine ⟨_, rfl, 8, 8, rfl, rfl, _, rfl, ifF (by decide) ?_⟩
      refine ⟨_, rfl, rfl, _, rfl, ifT (by decide) ?_⟩
      refine ⟨rfl, _, rfl, ifT (by decide) ?_⟩
      exact ⟨_, rfl, _, rfl, r1, _, _, _, rfl, rfl, lst_of hw6, atI_nat (j := 8) rfl, k _ s6⟩
theorem k_l_attribute (T : Tx K mg) : FnK P w K mg base 5 T.a_l_attribute (spAttr T) := by
  refine fun_k T.F_l_attribute sc_l_attribute T.b_l_attribute (fun vs H Q E h => ?_) (fun cdv A fr s H vs Q hg hr h => ?_)
  · obtain ⟨a, C, fs, word, f, v, txt, rfl, _⟩ := h
    rfl
  · obtain ⟨a, C, fs, word, f, v, txt, rfl, ex, kn, hv, hs, k⟩ := h
    refine ⟨_, (pss_cons (ps_if (pt_cmpR op_in_seq (pv 1) (pe_lst (pa_cons pe_str (pa_cons pe_str (pa_cons pe_str pa_nil)))) (by rfl))
        (pss_one (ps_ret (pe_callB (call_reprV hg hr.units) (by rfl) T.n_repr (by decide +kernel) (pa_cons (pe_xk (pv 0)) pa_nil))))
        pss_nil)
      (pss_cons (ps_if (pt_cmpR op_eq (pv 1) pe_str (nomark _))
        (pss_one (ps_ret (pe_callB (call_reprV hg hr.units) (by rfl) T.n_repr (by decide +kernel) (pa_cons (pe_xk (pv 0)) pa_nil))))
        pss_nil)
      (pss_cons (ps_if (pt_cmpR op_eq (pv 1) pe_str (nomark _))
        (pss_one (ps_ret (pe_callB (call_reprV hg hr.units) (by rfl) T.n_repr (by decide +kernel) (pa_cons (pe_xk (pv 0)) pa_nil))))
        pss_nil)
      (pss_one (ps_ret (pe_ifExp (pt_cmpR op_eq (pv 1) pe_str (nomark _)) pe_str (pe_callB (call_reprV hg hr.units) (by rfl) T.n_repr (by decide +kernel) (pa_cons (pe_xk (pv 0)) pa_nil)))))))), ?_⟩
    cases kn with
    | row =>
      refine ⟨_, rfl, (by show 3 ≤ sizeLine; decide), fun p1 n1 => ⟨p1, _, rfl, .inl (lst_of upd_same), rfl, rfl, _, rfl, ifT (by decide +kernel) ?_⟩⟩
      have s1 := Same.new n1 (o := .lst [.str "InvalidRow", .str "InvalidMenu", .str "InvalidRankings"])
      exact ⟨_, rfl, a, T.E_InvalidRow, fs, v, rfl, ex.same s1, T.ek_InvalidRow, T.no_InvalidRow_index, hv, v, txt, rfl, extN_shw (extN_of s1) hs, k _ s1⟩
    | menu =>
      refine ⟨_, rfl, (by show 3 ≤ sizeLine; decide), fun p1 n1 => ⟨p1, _, rfl, .inl (lst_of upd_same), rfl, rfl, _, rfl, ifT (by decide +kernel) ?_⟩⟩
      have s1 := Same.new n1 (o := .lst [.str "InvalidRow", .str "InvalidMenu", .str "InvalidRankings"])
      exact ⟨_, rfl, a, T.E_InvalidMenu, fs, v, rfl, ex.same s1, T.ek_InvalidMenu, T.no_InvalidMenu_index, hv, v, txt, rfl, extN_shw (extN_of s1) hs, k _ s1⟩
    | ix =>
      refine ⟨_, rfl, (by show 3 ≤ sizeLine; decide), fun p1 n1 => ⟨p1, _, rfl, .inl (lst_of upd_same), rfl, rfl, _, rfl, ifF (by decide +kernel) ?_⟩⟩
      have s1 := Same.new n1 (o := .lst [.str "InvalidRow", .str "InvalidMenu", .str "InvalidRankings"])
      refine ⟨_, rfl, rfl, _, rfl, ifF (by decide +kernel) ?_⟩
      refine ⟨_, rfl, rfl, _, rfl, ifF (by decide +kernel) ?_⟩
      refine ⟨_, rfl, rfl, _, rfl, ifF (by decide +kernel) ?_⟩
      exact ⟨_, rfl, a, T.E_InvalidIndex, fs, v, rfl, ex.same s1, T.ek_InvalidIndex, T.no_InvalidIndex_given, hv, v, txt, rfl, extN_shw (extN_of s1) hs, k _ s1⟩
    | thing =>
      refine ⟨_, rfl, (by show 3 ≤ sizeLine; decide), fun p1 n1 => ⟨p1, _, rfl, .inl (lst_of upd_same), rfl, rfl, _, rfl, ifF (by decide +kernel) ?_⟩⟩
      have s1 := Same.new n1 (o := .lst [.str "InvalidRow", .str "InvalidMenu", .str "InvalidRankings"])
      refine ⟨_, rfl, rfl, _, rfl, ifF (by decide +kernel) ?_⟩
      refine ⟨_, rfl, rfl, _, rfl, ifF (by decide +kernel) ?_⟩
      refine ⟨_, rfl, rfl, _, rfl, ifF (by decide +kernel) ?_⟩
      exact ⟨_, rfl, a, T.E_UnknownThing, fs, v, rfl, ex.same s1, T.ek_UnknownThing, T.no_UnknownThing_given, hv, v, txt, rfl, extN_shw (extN_of s1) hs, k _ s1⟩
end
end MH
namespace MH
open PySem PySem.Spec PyProof.Rows L2
/-- what an error that is let out is to be -/
def ErrOut {K : PySem.W.Frag} {mg : Str → Option Value} (T : Tx K mg) (Q : VK) : XK := fun cls d H' => ∃ (C : Addr) (word f : Str) (dd : Addr) (fs : List (Str × V)) (v : V) (txt : Str), Kn T C word f ∧ cls = .ref C ∧ d = some dd ∧ H' dd = some (.xd fs) ∧ fs.lookup f = some v ∧ Shw K H' v txt ∧
  ∀ p H2, Same H' H2 → H' p = none → H2 p = some (.tup [.str word, .str txt]) → Q (.ref p) H2
def RetOut (Q : VK) : VK := fun v H' => ∃ v', (some (some v) : Option (Option V)) = some (some v') ∧ (2 ≤ sizeLine ∧ ∀ p, H' p = none → Q (.ref p) (upd H' p (.tup [.str "returned", v'])))
theorem ret_out {Q : VK} {v : V} {H' : Hp} (h : ∀ p, H' p = none → Q (.ref p) (upd H' p (.tup [.str "returned", v]))) : RetOut Q v H' := ⟨v, rfl, by decide, h⟩
def TTold {K : PySem.W.Frag} {mg : Str → Option Value} (T : Tx K mg) : (XK → Hp → VK → Prop) → Hp → VK → Prop := fun tl H Q => tl (ErrOut T Q) H (RetOut Q)
theorem told_ok {X : Cx} (T : Tx X.K X.mg) {q : Str} {cdg : Value} (hg : X.A.guards = some []) (hr : Room (8 + 1) X.A) :
    LamX.GivesTo X names_l_told "_law_told" (defScope st_l_told) T.a_l_told cdg (defBody st_l_told) "_law_act" q (TTold T) := by
  intro f c' s H Q tl act hc h
  have hr1 : L2H.RoomH 8 (X.A.deeper (envOfC "_law_told" (defScope st_l_told) s.heap.objs.size T.a_l_told cdg)) := L2H.roomH_of (hr.deeper _)
  refine ⟨_, pss_cons (ps_try_asK (X := (cxOf C8.CX0 X.prog X.w X.K X.mg X.base names_l_told "_law_told" (defScope st_l_told) T.a_l_told cdg X.A X.stack s H C8.E0).nox) (c1 := .ref T.E_WrongValue) (c2 := .ref T.E_WrongName) (c3 := .ref T.E_NoAnswer) (i := 2)
      (tb := fun W D σ H => ∃ Ech : XK, (∀ cls d σ' H', Ech cls d H' → W cls d σ' H') ∧ σ[0]? = some (some (.ref f)) ∧ H c' = some (LamX.CodeO c' q) ∧ tl Ech H (fun v H' => gName 1 v σ H' D.nx))
      rfl rfl rfl sc_l_told.nd rfl rfl ⟨rfl, by decide, .inl T.g_WrongValue⟩ ⟨rfl, by decide, .inl T.g_WrongName⟩ ⟨rfl, by decide, .inl T.g_NoAnswer⟩ LamX.takes0 (fun W pn xe tk _ => ?_)
      (fun a pn => pss_cons (ps_set (i := 3) sc_l_told.nd rfl (Or.inl rfl) (pe_callk (k_l_sort T) hg (L2H.RoomH.mono (j := 5) (k := 8) ⟨hr1.dp, hr1.un⟩ (by decide)) rfl T.g_l_sort T.F_l_sort.kp (pa_cons (pv 2) pa_nil)))
        (pss_one (ps_ret (pe_tup (pa_cons (pv 3) (pa_cons (pe_callk (k_l_attribute T) hg (L2H.RoomH.mono (j := 5) (k := 8) ⟨hr1.dp, hr1.un⟩ (by decide)) rfl T.g_l_attribute T.F_l_attribute.kp (pa_cons (pv 2) (pa_cons (pv 3) pa_nil))) pa_nil)))))))
      (pss_one (ps_ret (pe_tup (pa_cons pe_str (pa_cons (pv 1) pa_nil))))), ?_⟩
  · refine ⟨fun pins s' σ H' D I h' => ?_⟩
    obtain ⟨Ech, hW, h1, h2, h3⟩ := h'
    exact PSs.run (X := (cxOf C8.CX0 X.prog X.w X.K X.mg X.base names_l_told "_law_told" (defScope st_l_told) T.a_l_told cdg X.A X.stack s H C8.E0).tr pn xe) (pss_one (ps_set (i := 1) sc_l_told.nd rfl (Or.inl rfl) (act W pn xe Ech _ _ tk hW))) pins s' σ H' D I ⟨h1, h2, h3⟩
  · refine ⟨ErrOut T Q, fun cls d σ' H' e => ?_, rfl, hc, h⟩
    obtain ⟨C, word, fl, dd, fs, v, txt, kn, rfl, rfl, hd, hv, hs, k⟩ := e
    refine ⟨true, ?_, fun _ => ⟨C, dd, rfl, rfl, fun a hl na => ?_⟩, nofun⟩
    · cases kn
      · exact T.em_InvalidRow
      · exact T.em_InvalidMenu
      · exact T.em_InvalidIndex
      · exact T.em_UnknownThing
    · have hl4 : σ'.length = 4 := hl
      have g2 : (σ'.set 2 (some (.ref a)))[2]? = some (some (.ref a)) := List.getElem?_set_self (by omega)
      have s0 : Same H' (upd H' a (exk a C dd)) := Same.new na
      have ex : ExAt (upd H' a (exk a C dd)) a C fs := ⟨dd, upd_same, s0 _ _ hd⟩
      have hs0 := extN_shw (extN_of s0) hs
      generalize upd H' a (exk a C dd) = H1 at s0 ex hs0 ⊢
      refine ⟨_, g2, a, C, fs, word, fl, rfl, ex, kn, fun H2 s2 => ?_⟩
      have g3 : ((σ'.set 2 (some (.ref a))).set 3 (some (.str word)))[3]? = some (some (.str word)) := List.getElem?_set_self (by rw [List.length_set]; omega)
      have g4 : ((σ'.set 2 (some (.ref a))).set 3 (some (.str word)))[2]? = some (some (.ref a)) := by
        rw [List.getElem?_set_ne (by decide)]
        exact g2
      refine ⟨_, g3, _, g4, _, g3, a, C, fs, word, fl, v, txt, rfl, ex.same s2, kn, hv, extN_shw (extN_of s2) hs0, fun H3 s3 => ⟨(by show 2 ≤ sizeLine; decide), fun p np => ?_⟩⟩
      have s4 := (s0.trans s2).trans s3
      have np0 : H' p = none := by
        cases z : H' p with
        | none => rfl
        | some o =>
          rw [s4 _ _ z] at np
          cases np
      exact k p _ (s4.new' np) np0 upd_same

/-- the tables of code of the defs that make lambdas -/
def TBs {K : PySem.W.Frag} {mg : Str → Option Value} (T : Tx K mg) (base : Heap) : Prop := LamX.TabB base mg T.c_l_menu_right T.P_l_menu_right ∧ LamX.TabB base mg T.c_l_thing_right T.P_l_thing_right ∧ LamX.TabB base mg T.c_l_right T.P_l_right
abbrev lamQ (q : Str) : Str := (q ++ ".<locals>.") ++ "<lambda>"
abbrev tabsOf {K : PySem.W.Frag} {mg : Str → Option Value} (T : Tx K mg) (q1 q2 q3 : Str) : List (Addr × Str) := [(T.P_l_menu_right, (q1 ++ ".<locals>.") ++ "<lambda>"), (T.P_l_thing_right, (q2 ++ ".<locals>.") ++ "<lambda>"), (T.P_l_right, (q3 ++ ".<locals>.") ++ "<lambda>")]
/-- told(lambda: ..) -/
theorem pe_told {X : Cx} {c P : Addr} {q : Str} {TL : List (Addr × Str)} {params : Arguments} {body : Expr} {scope : Scope} {t : XK → TE} {p lpos pos : Pos} (T : Tx X.K X.mg) (TB : LamX.TabB X.base X.mg c P) (hm : (P, q) ∈ TL) (hu : ∀ p ∈ TL, p.1 = P → p.2 = q) (hcode : X.env.code = .ref c) (hg : X.A.guards = some []) (hr : Room 9 X.A) (gl : Gl X "_law_told")
    (hq : X.env.qual ++ "<lambda>" = q) (L : LamX.LamS X.env.scope scope) (hdef : defaultsOf params X.env = ([], []))
    (hbind : ∀ (q : Str) (cl : List (Str × Addr)) (pm cv ctv : Value), bindArgs (PySem.W.kla_fn "<lambda>" q params body scope cl pm cv ctv) ⟨[], []⟩ = pure [])
    (hbody : ∀ (A : Around) (outer : List Env) (s : Shared) (H : Hp) (E : XK) (f c' : Addr), Room 7 (A.deeper (LamX.lamEnv X scope s.heap.objs.size f c')) → PE (LamX.lamCx X A outer s H E scope f c') body (t E)) :
    PE X (.Call (.Name "_law_told" p) [.Lambda params body scope lpos] [] pos) (LamX.tLam TL (TTold T) t) := by
  subst hq
  obtain ⟨oc, od, kV, doc, pm, an, cdv, ct, osl, lk, hcg, hb⟩ := T.F_l_told.shape T.b_l_told
  exact LamX.pe_lamcall (k := 7) gl T.g_l_told T.F_l_told.kp lk hcg hb sc_l_told rfl (Or.inl rfl) (told_ok T hg hr) TB hcode hm hu hr L hdef hbind hbody
theorem pe_told_l_menu_right {X : Cx} {q1 q2 q3 : Str} {params : Arguments} {body : Expr} {scope : Scope} {t : XK → TE} {p lpos pos : Pos} (T : Tx X.K X.mg) (TB : TBs T X.base) (hcode : X.env.code = .ref T.c_l_menu_right) (hg : X.A.guards = some []) (hr : Room 9 X.A) (gl : Gl X "_law_told")
    (hq : X.env.qual ++ "<lambda>" = (q1 ++ ".<locals>.") ++ "<lambda>") (L : LamX.LamS X.env.scope scope) (hdef : defaultsOf params X.env = ([], []))
    (hbind : ∀ (q : Str) (cl : List (Str × Addr)) (pm cv ctv : Value), bindArgs (PySem.W.kla_fn "<lambda>" q params body scope cl pm cv ctv) ⟨[], []⟩ = pure [])
    (hbody : ∀ (A : Around) (outer : List Env) (s : Shared) (H : Hp) (E : XK) (f c' : Addr), Room 7 (A.deeper (LamX.lamEnv X scope s.heap.objs.size f c')) → PE (LamX.lamCx X A outer s H E scope f c') body (t E)) :
    PE X (.Call (.Name "_law_told" p) [.Lambda params body scope lpos] [] pos) (LamX.tLam (tabsOf T q1 q2 q3) (TTold T) t) :=
  pe_told T TB.1 List.mem_cons_self (fun x hx e => by
    rcases List.mem_cons.mp hx with rfl | hx
    · rfl
    rcases List.mem_cons.mp hx with rfl | hx
    · exact absurd e (T.pne_l_menu_right_l_thing_right).symm
    cases List.mem_singleton.mp hx
    exact absurd e (T.pne_l_menu_right_l_right).symm) hcode hg hr gl hq L hdef hbind hbody
theorem pe_told_l_thing_right {X : Cx} {q1 q2 q3 : Str} {params : Arguments} {body : Expr} {scope : Scope} {t : XK → TE} {p lpos pos : Pos} (T : Tx X.K X.mg) (TB : TBs T X.base) (hcode : X.env.code = .ref T.c_l_thing_right) (hg : X.A.guards = some []) (hr : Room 9 X.A) (gl : Gl X "_law_told")
    (hq : X.env.qual ++ "<lambda>" = (q2 ++ ".<locals>.") ++ "<lambda>") (L : LamX.LamS X.env.scope scope) (hdef : defaultsOf params X.env = ([], []))
    (hbind : ∀ (q : Str) (cl : List (Str × Addr)) (pm cv ctv : Value), bindArgs (PySem.W.kla_fn "<lambda>" q params body scope cl pm cv ctv) ⟨[], []⟩ = pure [])
    (hbody : ∀ (A : Around) (outer : List Env) (s : Shared) (H : Hp) (E : XK) (f c' : Addr), Room 7 (A.deeper (LamX.lamEnv X scope s.heap.objs.size f c')) → PE (LamX.lamCx X A outer s H E scope f c') body (t E)) :
    PE X (.Call (.Name "_law_told" p) [.Lambda params body scope lpos] [] pos) (LamX.tLam (tabsOf T q1 q2 q3) (TTold T) t) :=
  pe_told T TB.2.1 (List.mem_cons_of_mem _ List.mem_cons_self) (fun x hx e => by
    rcases List.mem_cons.mp hx with rfl | hx
    · exact absurd e T.pne_l_menu_right_l_thing_right
    rcases List.mem_cons.mp hx with rfl | hx
    · rfl
    cases List.mem_singleton.mp hx
    exact absurd e (T.pne_l_thing_right_l_right).symm) hcode hg hr gl hq L hdef hbind hbody
theorem pe_told_l_right {X : Cx} {q1 q2 q3 : Str} {params : Arguments} {body : Expr} {scope : Scope} {t : XK → TE} {p lpos pos : Pos} (T : Tx X.K X.mg) (TB : TBs T X.base) (hcode : X.env.code = .ref T.c_l_right) (hg : X.A.guards = some []) (hr : Room 9 X.A) (gl : Gl X "_law_told")
    (hq : X.env.qual ++ "<lambda>" = (q3 ++ ".<locals>.") ++ "<lambda>") (L : LamX.LamS X.env.scope scope) (hdef : defaultsOf params X.env = ([], []))
    (hbind : ∀ (q : Str) (cl : List (Str × Addr)) (pm cv ctv : Value), bindArgs (PySem.W.kla_fn "<lambda>" q params body scope cl pm cv ctv) ⟨[], []⟩ = pure [])
    (hbody : ∀ (A : Around) (outer : List Env) (s : Shared) (H : Hp) (E : XK) (f c' : Addr), Room 7 (A.deeper (LamX.lamEnv X scope s.heap.objs.size f c')) → PE (LamX.lamCx X A outer s H E scope f c') body (t E)) :
    PE X (.Call (.Name "_law_told" p) [.Lambda params body scope lpos] [] pos) (LamX.tLam (tabsOf T q1 q2 q3) (TTold T) t) :=
  pe_told T TB.2.2 (List.mem_cons_of_mem _ (List.mem_cons_of_mem _ List.mem_cons_self)) (fun x hx e => by
    rcases List.mem_cons.mp hx with rfl | hx
    · exact absurd e T.pne_l_menu_right_l_right
    rcases List.mem_cons.mp hx with rfl | hx
    · exact absurd e T.pne_l_thing_right_l_right
    cases List.mem_singleton.mp hx
    rfl) hcode hg hr gl hq L hdef hbind hbody
end MH
namespace MH
open PySem PySem.Spec PyProof.Rows L2
/-- what the other side finds -/
def wrongM (ss : List Str) : Option (List V) → V
  | none => .non
  | some row => if row = [] then .non else match badU ss row with
    | none => .int (-1)
    | some i => .int (i : Nat)
theorem wrongM_of {ss : List Str} {row : List V} (h : row ≠ []) : wrongM ss (some row) = match badU ss row with | none => V.int (-1) | some i => V.int (i : Nat) := if_neg h
theorem wrongM_none {ss : List Str} {o : Option (List V)} (h : errM ss o = none) : ∃ row, o = some row ∧ row ≠ [] ∧ badU ss row = none ∧ wrongM ss o = .int (-1) := by
  cases o with
  | none => cases h
  | some row =>
    obtain ⟨hne, hb⟩ := errM_none h
    refine ⟨row, rfl, hne, hb, ?_⟩
    rw [wrongM_of hne, hb]
theorem wrongM_some {ss : List Str} {o : Option (List V)} {ix : V} (h : errM ss o = some ix) : wrongM ss o = ix ∧ (ix = .non ∨ ∃ (row : List V) (i : Nat), o = some row ∧ badU ss row = some i ∧ ix = .int (i : Nat)) := by
  cases o with
  | none =>
    cases h
    exact ⟨rfl, .inl rfl⟩
  | some row =>
    by_cases hne : row = []
    · subst hne
      cases h
      exact ⟨rfl, .inl rfl⟩
    · rw [errM_of hne] at h
      rw [wrongM_of hne]
      cases hb : badU ss row with
      | none =>
        rw [hb] at h
        cases h
      | some i =>
        rw [hb] at h
        cases h
        exact ⟨rfl, .inr ⟨row, i, rfl, hb, rfl⟩⟩
def ixTxt : V → Str
  | .int i => (PyData.int i).shown
  | _ => "None"
/-- what is told of an index -/
theorem ixM_shw {K : PySem.W.Frag} {C : Addr} {H : Hp} {v : V} {ss : List Str} {o : Option (List V)} {ix : V} (av : Av K C H v o) (h : errM ss o = some ix) (H2 : Hp) : Shw K H2 ix (ixTxt ix) := by
  rcases (wrongM_some h).2 with rfl | ⟨row, i, rfl, hb, rfl⟩
  · refine .inl ⟨.none, .non, rfl, by simp only [PyData.depth]; decide, by decide, ?_⟩
    rw [PyData.shown_none]
    rfl
  · obtain ⟨a, _, _, hl, _⟩ := av
    have := badU_lt hb
    refine .inl ⟨.int (i : Nat), .int _, ?_, by simp only [PyData.depth]; decide, (show 101 ≤ 100000 by decide), rfl⟩
    have h1 : ((i : Nat) : Int).natAbs = i := rfl
    show decide (((i : Nat) : Int).natAbs < 10 ^ 100) = true
    rw [h1]
    refine decide_eq_true (Nat.lt_of_lt_of_le (show i < 1000 by omega) ?_)
    exact Nat.le_trans (show 1000 ≤ 10 ^ 3 by decide) (Nat.pow_le_pow_right (by decide) (by decide))
def spOff (K : PySem.W.Frag) (C : Addr) : Sp := fun vs H Q _ => ∃ (v : V) (o : Option (List V)) (t : Addr) (ss : List Str), vs = [v, .ref t] ∧ Av K C H v o ∧ SqT K H t (ss.map V.str) ∧ ∀ H', Same H H' → Q (wrongM ss o) H'
section
variable {P : Program} {w : World} {K : PySem.W.Frag} {mg : Str → Option Value} {base : Heap}
theorem ok_l_off (T : Tx K mg) : FnOk P w K mg base CX0 5 T.a_l_off T.fd_l_off ["_law_menu", "_law_things_here"] (spOff K T.C) := by
  refine T.F_l_off.ok sc_l_off (fun vs H Q E h => ?_) (fun cdv A outer s H vs Q E hr h => ?_)
  · obtain ⟨v, o, t, ss, rfl, _⟩ := h
    rfl
  · obtain ⟨v, o, th, ss, rfl, av, hS, k⟩ := h
    refine ⟨_, (pss_cons (ps_if (PW.pt (pw_or (pt_not (pt_val (pe_callB call_isi (by rfl) T.n_isinstance (by decide +kernel) (pa_cons (pv 0) (pa_cons (pe_bltn (v := .ty "tuple") (by rfl) T.n_tuple (by decide +kernel) rfl) pa_nil))))) (pw_or1 (pt_cmpR (op_eqT0 hr.units0) (pv 0) (pe_tup pa_nil) (nomark _)))))
        (pss_one (ps_ret pe_non))
        pss_nil)
      (pss_cons (ps_for PassesOwn.never rfl (pi_range1 (by rfl) T.n_range (pa_cons (pe_callB call_len_seq (by rfl) T.n_len (by decide +kernel) (pa_cons (pv 0) pa_nil)) pa_nil)) (pg_name (i := 2) sc_l_off.nd rfl (Or.inl rfl))
        (pss_one (ps_if (PW.pt (pw_or (pt_not (pt_val (pe_callB call_isi (by rfl) T.n_isinstance (by decide +kernel) (pa_cons (pe_ix ix_tup (pv 0) (pv 2) (fun _ _ => rfl)) (pa_cons (pe_bltn (v := .ty "str") (by rfl) T.n_str (by decide +kernel) rfl) pa_nil))))) (pw_or (pt_cmpR op_notIn_seq (pe_ix ix_tup (pv 0) (pv 2) (fun _ _ => rfl)) (pv 1) (by rfl)) (pw_or1 (PW.pt (pw_and (pt_cmpR op_gt (pv 2) pe_int (nomark _)) (pw_and1 (pt_not (pt_cmpR op_lt_str (pe_ix ix_tup (pv 0) (pe_op op_sub (pv 2) pe_int) (fun _ _ => rfl)) (pe_ix ix_tup (pv 0) (pv 2) (fun _ _ => rfl)) (nomark _))))))))))
        (pss_one (ps_ret (pv 2)))
        pss_nil)))
      (pss_one (ps_ret (pe_un un_neg pe_int))))), ?_⟩
    cases o with
    | none =>
      obtain ⟨t, ty, kt⟩ := Av.no T av
      exact ⟨_, rfl, _, _, _, _, false, rfl, .ty _, ty, kt, false, rfl, iteT (k H (Same.refl H))⟩
    | some row =>
    obtain ⟨t, rfl, hT, hlen, hE⟩ := av
    refine ⟨_, rfl, _, _, _, _, true, rfl, .ty _, hT.ty, kit_ty (by decide +kernel), true, rfl, iteF ?_⟩
    refine ⟨_, rfl, by decide, fun e ne => ?_⟩
    have s1 := Same.new ne (o := .tup [])
    refine ⟨t, e, row, rfl, rfl, s1.sqt hT, tup_of upd_same, ?_⟩
    by_cases hne : row = []
    · rw [decide_eq_true hne]
      subst hne
      exact ⟨_, rfl, iteT (k _ s1)⟩
    have ed : decide (row = []) = false := decide_eq_false hne
    rw [ed]
    refine ⟨_, rfl, iteF ?_⟩
    have hT1 := s1.sqt (K := K) hT
    generalize upd H e (.tup []) = H1 at s1 hT1 ⊢
    refine ⟨_, rfl, t, _, rfl, .inr hT1, _, rfl, by omega, by omega, for_range (lo := 0) (n := ((((row.length : Nat) : Int)).toNat)) (fun i σ H' => ∃ v, σ = [some (.ref t), some (.ref th), v] ∧ Same H H' ∧ ∀ j, j < i → badN ss row j = false) ⟨none, rfl, s1, fun j hj => absurd hj (Nat.not_lt_zero j)⟩ ?_ ?_⟩
    · rintro i σ H' hi ⟨v, rfl, s2, hb⟩
      have hi2 : i < row.length := by omega
      have hT2 := s2.sqt (K := K) hT
      have g : row[i]? = some row[i] := List.getElem?_eq_getElem hi2
      have gd := getDv g
      generalize row[i] = y at g gd
      rw [show (0 : Int) + (i : Nat) = (i : Nat) from Int.zero_add _]
      have ret : badN ss row i = true → ({ nx := fun σ' H' => ∃ v, σ' = [some (.ref t), some (.ref th), v] ∧ Same H H' ∧ ∀ j, j < i + 1 → badN ss row j = false, rt := Q } : Ends).rt (.int (i : Nat)) H' := fun b => by
        have q := k H' s2
        rw [wrongM_of hne, badU_some hi2 b hb] at q
        exact q
      rcases ((hE y (List.mem_of_getElem? g)).frm (.of s2)).strQ with ⟨z, rfl⟩ | ⟨nz, T0, ty, kt⟩
      · refine ⟨_, rfl, _, rfl, t, _, _, _, rfl, rfl, hT2, atI_nat g, _, _, _, _, true, rfl, .ty _, .base (.str z), kit_ty (by decide +kernel), true, rfl, iteF ?_⟩
        refine ⟨_, rfl, _, rfl, t, _, _, _, rfl, rfl, hT2, atI_nat g, _, rfl, th, _, rfl, .inr (s2.sqt hS), rfl, flat_strs _, ?_⟩
        show ∃ k, V.bl (!inV (.str z) (ss.map V.str)) = V.bl k ∧ _
        rw [inV_strs]
        by_cases hm : z ∈ ss
        · rw [decide_eq_true hm]
          refine ⟨_, rfl, iteF ?_⟩
          have ho : oneV ss (.str z) = true := decide_eq_true hm
          refine ⟨_, rfl, _, _, rfl, rfl, _, rfl, ?_⟩
          cases i with
          | zero =>
            have b : badN ss row 0 = false := by
              unfold badN
              rw [gd, ho]
              rfl
            refine ifF (by decide) (iteF ⟨_, rfl, s2, fun j hj => ?_⟩)
            rcases Nat.lt_succ_iff_lt_or_eq.mp hj with hj | rfl
            · exact hb j hj
            · exact b
          | succ i =>
            refine ifT (decide_eq_true (by omega)) ?_
            have hi3 : i < row.length := by omega
            obtain ⟨ep, _⟩ := badN_ok hi3 (hb i (by omega))
            have gp : row[i]? = some row[i] := List.getElem?_eq_getElem hi3
            have gd2 := getDv gp
            generalize row[i] = yp at ep gp gd2
            generalize strOf yp = a at ep
            subst ep
            have ix : (((i + 1 : Nat) : Int) - 1) = (i : Nat) := by omega
            have bn : badN ss row (i + 1) = !decide (a.cps.toList < z.cps.toList) := by
              unfold badN
              rw [gd, ho, show i + 1 - 1 = i from rfl, gd2]
              rfl
            refine ⟨_, rfl, _, rfl, _, _, rfl, rfl, t, _, _, _, rfl, rfl, hT2, (by rw [ix]; exact atI_nat gp), _, rfl, _, rfl, t, _, _, _, rfl, rfl, hT2, atI_nat g, _, _, rfl, rfl, _, rfl, ?_⟩
            cases hc : decide (a.cps.toList < z.cps.toList) with
            | true =>
              rw [hc] at bn
              refine ifF rfl ⟨_, rfl, s2, fun j hj => ?_⟩
              rcases Nat.lt_succ_iff_lt_or_eq.mp hj with hj | rfl
              · exact hb j hj
              · exact bn
            | false =>
              rw [hc] at bn
              exact ifT rfl ⟨_, rfl, ret bn⟩
        · rw [decide_eq_false hm]
          refine ⟨_, rfl, iteT ?_⟩
          have b : badN ss row i = true := by
            unfold badN
            rw [gd, show oneV ss (.str z) = false from decide_eq_false hm]
            rfl
          exact ⟨_, rfl, ret b⟩
      · refine ⟨_, rfl, _, rfl, t, _, _, _, rfl, rfl, hT2, atI_nat g, _, _, _, _, false, rfl, .ty _, ty, kit_ty kt, false, rfl, iteT ?_⟩
        have b : badN ss row i = true := by
          unfold badN
          rw [gd, oneV_no nz]
          rfl
        exact ⟨_, rfl, ret b⟩
    · rintro σ H' ⟨v, rfl, s2, hb⟩
      have q := k H' s2
      rw [wrongM_of hne, badU_none (fun j hj => hb j (by omega))] at q
      exact ⟨1, rfl, q⟩
end
end MH
namespace MH
open PySem PySem.Spec PyProof.Rows L2
/-- all but the purse and the tables of code stand -/
def SameT (p : Addr) (H H' : Hp) : Prop := ∀ b o, b ≠ p → H b = some o → (∀ ps, o ≠ .tbl ps) → H' b = some o
theorem SameT.refl (p : Addr) (H : Hp) : SameT p H H := fun _ _ _ e _ => e
theorem SameT.trans {p : Addr} {H H1 H2 : Hp} (a : SameT p H H1) (b : SameT p H1 H2) : SameT p H H2 := fun c o n e t => b c o n (a c o n e t) t
theorem SameT.of {p : Addr} {H H' : Hp} (s : SameB p H H') : SameT p H H' := fun b o n e _ => s b o n e
theorem SameT.ofN {p : Addr} {H H' : Hp} (s : LamX.ExtN H H') : SameT p H H' := fun b o _ e t => s b o e t
theorem Pu.extN {H H' : Hp} {p : Addr} (u : Pu H p) (s : LamX.ExtN H H') : Pu H' p := by
  obtain ⟨x, y, hp, h⟩ := u
  exact ⟨x, y, s _ _ hp (fun _ z => nomatch z), h⟩
theorem tabs_pu {TT : List (Addr × Str)} {H H' : Hp} {p : Addr} (t : LamX.Tabs TT H) (u : Pu H p) (s : SameB p H H') : LamX.Tabs TT H' := by
  obtain ⟨x, y, hp, _⟩ := u
  exact tabs_but t hp (fun _ z => nomatch z) (fun _ _ z => nomatch z) s
theorem SameT.frm {p : Addr} {H H' : Hp} (s : SameT p H H') (u : Pu H p) : Frm H H' := fun b o e n t => s b o (fun q => by
  subst q
  obtain ⟨x, y, hp, _⟩ := u
  rw [hp] at e
  exact n x y (Option.some.inj e).symm) e t
/-- how it stands between two acts -/
structure Std {K : PySem.W.Frag} {mg : Str → Option Value} (T : Tx K mg) (q1 q2 q3 : Str) (p : Addr) (H0 H : Hp) : Prop where
  st : SameT p H0 H
  pu : Pu H p
  tb : LamX.Tabs (tabsOf T q1 q2 q3) H
section
variable {K : PySem.W.Frag} {mg : Str → Option Value} {T : Tx K mg} {q1 q2 q3 : Str} {p : Addr} {H0 H H' : Hp}
theorem Std.same (d : Std T q1 q2 q3 p H0 H) (s : Same H H') : Std T q1 q2 q3 p H0 H' := ⟨d.st.trans (.of (.of s)), d.pu.same s, tabs_same d.tb s⟩
theorem Std.but (d : Std T q1 q2 q3 p H0 H) (s : SameB p H H') (u : Pu H' p) : Std T q1 q2 q3 p H0 H' := ⟨d.st.trans (.of s), u, tabs_pu d.tb d.pu s⟩
theorem Std.ext (d : Std T q1 q2 q3 p H0 H) (s : LamX.ExtN H H') (t : LamX.Tabs (tabsOf T q1 q2 q3) H') : Std T q1 q2 q3 p H0 H' := ⟨d.st.trans (.ofN s), d.pu.extN s, t⟩
theorem Std.frm (d : Std T q1 q2 q3 p H0 H) (u : Pu H0 p) : Frm H0 H := d.st.frm u
end
theorem frm_but {H H' : Hp} {p : Addr} (s : SameB p H H') (u : Pu H p) : Frm H H' := SameT.frm (.of s) u
/-- t + u -/
theorem catA_of {K : PySem.W.Frag} {H : Hp} {a b : Addr} {xs ys : List V} {Q : VK} (ha : SqT K H a xs) (hb : SqT K H b ys) (hl : xs.length + ys.length ≤ 1000) (k : ∀ p H', Same H H' → SqT K H' p (xs ++ ys) → Q (.ref p) H') : rCatA K (.ref a) (.ref b) H Q := by
  refine ⟨a, b, xs, ys, rfl, rfl, ha, hb, le_line (by omega), fun e => ?_, fun _ e => ?_, fun _ _ p np => k p _ (Same.new np) (tup_of upd_same)⟩
  · subst e
    exact k b H (Same.refl H) hb
  · subst e
    refine k a H (Same.refl H) ?_
    rw [List.append_nil]
    exact ha
theorem at_in {l : List V} {d : Int} (h0 : 0 ≤ d) (h1 : d < (l.length : Nat)) : ∃ c, atI l d = some c ∧ c ∈ l := by
  have hk : d.toNat < l.length := by omega
  have ed : d = ((d.toNat : Nat) : Int) := by omega
  have g : l[d.toNat]? = some l[d.toNat] := List.getElem?_eq_getElem hk
  have q : atI l ((d.toNat : Nat) : Int) = some l[d.toNat] := atI_nat g
  exact ⟨_, by rw [← ed] at q; exact q, List.getElem_mem hk⟩
theorem sg_name {z : Str} (h : nameOk z = true) : SgOk z := by
  unfold nameOk at h
  simp only [Bool.and_eq_true, decide_eq_true_eq] at h
  have q := h.2.2.2
  rw [List.all_eq_true] at q
  intro c hc
  have w := q c hc
  rw [Bool.or_eq_true] at w
  rcases w with w | w
  · have := isL_le w
    omega
  · have := isD_le w
    omega
theorem el_name {K : PySem.W.Frag} {H : Hp} {z : Str} (h : nameOk z = true) : El K H (.str z) := .inl ⟨z, rfl, sg_name h, Nat.le_trans (nameOk_len h) (by decide)⟩
theorem el_lit {K : PySem.W.Frag} {H : Hp} (s : String) (h : (Str.ofString s).length ≤ 1000) : El K H (.str (Str.ofString s)) := .inl ⟨_, rfl, sg_ofString s, h⟩
theorem two_shaped {a b : Str} (ga : SgOk a) (gb : SgOk b) : SeqAt.shaped (.tuple [.str a, .str b]) = true := shaped_of (d := .tuple [.str a, .str b]) (okDs_strs (ss := [a, b]) fun z hz => by
  rcases List.mem_cons.mp hz with rfl | hz
  · exact sg_iff.mpr ga
  · rw [List.mem_singleton.mp hz]
    exact sg_iff.mpr gb) (by simp only [PyData.depth, PyData.depthAll]; decide)
theorem eqv_two (a b : Str) : PyData.eqv (.tuple [.str a, .str b]) (.tuple [.str a, .str b]) = true := by
  simp [PyData.eqv, PyData.eqvAll]
theorem ne_two {K : PySem.W.Frag} {H : Hp} {p q : Addr} {a b : Str} {Q : VK} (ga : SgOk a) (gb : SgOk b) (hp : H p = some (.tup [.str a, .str b])) (hq : H q = some (.tup [.str a, .str b])) (k : Q (.bl false) H) : rNeD K (.ref p) (.ref q) H Q := by
  refine ⟨.tuple [.str a, .str b], .tuple [.str a, .str b], .tup (tup_of hp) (.cons (.str _) (.cons (.str _) .nil)), .tup (tup_of hq) (.cons (.str _) (.cons (.str _) .nil)), two_shaped ga gb, two_shaped ga gb, ?_⟩
  rw [eqv_two]
  exact k
theorem eq_two {K : PySem.W.Frag} {H : Hp} {p q : Addr} {a b : Str} {Q : VK} (ga : SgOk a) (gb : SgOk b) (hp : H p = some (.tup [.str a, .str b])) (hq : H q = some (.tup [.str a, .str b])) (k : Q (.bl true) H) : rEqD K (.ref p) (.ref q) H Q := by
  refine ⟨.tuple [.str a, .str b], .tuple [.str a, .str b], .tup (tup_of hp) (.cons (.str _) (.cons (.str _) .nil)), .tup (tup_of hq) (.cons (.str _) (.cons (.str _) .nil)), two_shaped ga gb, two_shaped ga gb, ?_⟩
  rw [eqv_two]
  exact k
def spRight {K : PySem.W.Frag} {mg : Str → Option Value} (T : Tx K mg) (q1 q2 q3 : Str) : Sp := fun vs H Q _ => ∃ p : Addr, vs = [.ref p] ∧ Pu H p ∧ LamX.Tabs (tabsOf T q1 q2 q3) H ∧ ∀ H', SameT p H H' → LamX.Tabs (tabsOf T q1 q2 q3) H' → Q (.bl true) H'
theorem new2 {H : Hp} {p : Addr} {o : HO} (h : H p = none) : Same H (upd H p o) ∧ (upd H p o) p = some o := ⟨Same.new h, upd_same⟩
theorem no_part {σ : L2.St} {H : Hp} {Q : Option Int → Hp → Prop} (h : Q none H) : tNoPart σ H Q := h

def spBentM (K : PySem.W.Frag) (C : Addr) : Sp := fun vs H Q _ => ∃ (p t : Addr) (ss : List Str), vs = [.ref p, .ref t] ∧ Pu H p ∧ SqT K H t (ss.map V.str) ∧ ss ≠ [] ∧ ss.length ≤ 10 ∧ (∀ z ∈ ss, nameOk z = true) ∧
  ∀ v o H', Av K C H' v o → SameB p H H' → Pu H' p → Q v H'
section
variable {P : Program} {w : World} {K : PySem.W.Frag} {mg : Str → Option Value} {base : Heap}
theorem ok_l_bent_menu (T : Tx K mg) : FnOk P w K mg base CX0 6 T.a_l_bent_menu T.fd_l_bent_menu ["_law_purse_here", "_law_things_here"] (spBentM K T.C) := by
  refine T.F_l_bent_menu.ok sc_l_bent_menu (fun vs H Q E h => ?_) (fun cdv A outer s H vs Q E hr h => ?_)
  · obtain ⟨p, t, ss, rfl, _⟩ := h
    rfl
  · obtain ⟨p, t, ss, rfl, pu, hS, sne, sl, sok, k⟩ := h
    refine ⟨_, (pss_cons (ps_set (i := 2) sc_l_bent_menu.nd rfl (Or.inl rfl) (pe_callTy call_tupF (by rfl) T.n_tuple (by decide +kernel) (pa_cons (pe_lc (own := [("_law_thing", 7)]) (g := gName 7) (tt := _) rfl sc_l_bent_menu.nd (pi_tup (pv 1)) (blkOk_by (own := [("_law_thing", 7)]) (N := names_l_bent_menu) (sc := defScope st_l_bent_menu) (by decide +kernel)) (fun _ _ _ _ _ => pg_name (i := 7) sc_l_bent_menu.nd rfl (Or.inl rfl)) (fun _ _ _ _ _ => pts_one (pt_cmpR op_eq (pe_call (ok_l_draw T) (hr.mono (by decide)) rfl T.g_l_draw T.F_l_draw.kp T.b_l_draw .nil pass0 (pa_cons (pv 0) (pa_cons pe_int pa_nil))) pe_int (nomark _))) (fun _ _ _ _ _ => (pv 7))) pa_nil)))
      (pss_cons (ps_set (i := 3) sc_l_bent_menu.nd rfl (Or.inl rfl) (pe_lst (pa_cons pe_non (pa_cons pe_int (pa_cons pe_bl (pa_cons pe_str (pa_cons pe_str (pa_cons (pe_tup pa_nil) (pa_cons (pe_lst pa_nil) (pa_cons pe_str (pa_cons (pe_ix ix_tup (pv 1) pe_int (fun _ _ => rfl)) (pa_cons (pe_ix ix_tup (pv 1) (pe_un un_neg pe_int) (fun _ _ => rfl)) pa_nil))))))))))))
      (pss_cons (ps_for PassesOwn.never rfl (pi_range1 (by rfl) T.n_range (pa_cons (pe_call (ok_l_draw T) (hr.mono (by decide)) rfl T.g_l_draw T.F_l_draw.kp T.b_l_draw .nil pass0 (pa_cons (pv 0) (pa_cons pe_int pa_nil))) pa_nil)) (pg_name (i := 4) sc_l_bent_menu.nd rfl (Or.inl rfl))
        (pss_cons (ps_par (i := 5) (j := 6) rfl sc_l_bent_menu.nd rfl rfl (by decide) rfl rfl (pa_cons (pe_call (ok_l_draw T) (hr.mono (by decide)) rfl T.g_l_draw T.F_l_draw.kp T.b_l_draw .nil pass0 (pa_cons (pv 0) (pa_cons (pe_op op_add (pe_callB call_len_seq (by rfl) T.n_len (by decide +kernel) (pa_cons (pv 2) pa_nil)) pe_int) pa_nil))) (pa_cons (pe_call (ok_l_draw T) (hr.mono (by decide)) rfl T.g_l_draw T.F_l_draw.kp T.b_l_draw .nil pass0 (pa_cons (pv 0) (pa_cons pe_int pa_nil))) pa_nil)) (by rfl))
      (pss_one (ps_set (i := 2) sc_l_bent_menu.nd rfl (Or.inl rfl) (pe_op op_catA (pe_op op_catA (pe_slice sl_tupA (pv 2) po_none (po_some (pv 5))) (pe_tup (pa_cons (pe_ix ix_list (pv 3) (pe_call (ok_l_draw T) (hr.mono (by decide)) rfl T.g_l_draw T.F_l_draw.kp T.b_l_draw .nil pass0 (pa_cons (pv 0) (pa_cons pe_int pa_nil))) (fun _ _ => rfl)) pa_nil))) (pe_slice sl_tupA (pv 2) (po_some (pe_op op_add (pv 5) (pv 6))) po_none))))))
      (pss_one (ps_ret (pe_ix ix_list (pe_lst (pa_cons (pv 2) (pa_cons (pv 2) (pa_cons (pe_backT (pv 2)) (pa_cons (pe_callTy call_list_of (by rfl) T.n_list (by decide +kernel) (pa_cons (pv 2) pa_nil)) (pa_cons (pe_op op_catA (pv 2) (pe_slice sl_tupA (pv 2) (po_some (pe_un un_neg pe_int)) po_none)) pa_nil)))))) (pe_call (ok_l_draw T) (hr.mono (by decide)) rfl T.g_l_draw T.F_l_draw.kp T.b_l_draw .nil pass0 (pa_cons (pv 0) (pa_cons pe_int pa_nil))) (fun _ _ => rfl))))))), ?_⟩
    refine ⟨_, rfl, t, rfl, ⟨_, hS⟩, fun D nD => ?_⟩
    have Dp : D ≠ p := fun e => by
      obtain ⟨x, y, hp, _⟩ := pu
      rw [← e, nD] at hp
      cases hp
    refine lc_tup (K := K) (a := t) (xs := ss.map V.str) (fun i H' => SameB p H H' ∧ Pu H' p ∧ ∃ ms : List Str, H' D = some (.lst (ms.map V.str)) ∧ (∀ z ∈ ms, z ∈ ss) ∧ ms.length ≤ i) ⟨.of (Same.new nD), pu.same (Same.new nD), [], upd_same, nofun, Nat.le_refl _⟩ (fun i H' _ h => (frm_but h.1 pu).sqt hS) ?_ ?_
    · rintro i y H2 hy ⟨sb2, pu2, ms, e2, hin, hl⟩
      obtain ⟨z, hz, rfl⟩ := str_at hy
      refine ⟨rfl, ?_⟩
      have il : i < ss.length := (List.getElem?_eq_some_iff.mp hz).1
      refine ⟨_, rfl, p, 2, rfl, pu2, by decide, by decide, fun d H3 d0 d1 sb3 pu3 => ⟨rfl, _, rfl, ?_⟩⟩
      have e3 := sb3 _ _ Dp e2
      refine ite2 (fun c => ?_) (fun c => ?_)
      · refine ⟨_, rfl, _, e3, lt_line (by rw [List.length_map]; omega), fun b o n e => ?_, ?_, ms ++ [z], ?_, fun x hx => ?_, ?_⟩
        · rw [upd_ne (ne_of_none e nD)]
          exact sb3 _ _ n (sb2 _ _ n e)
        · obtain ⟨x, y, hp, hh⟩ := pu3
          exact ⟨x, y, by rw [upd_ne Dp.symm]; exact hp, hh⟩
        · rw [upd_same, List.map_append]
          rfl
        · rcases List.mem_append.mp hx with hx | hx
          · exact hin x hx
          · rw [List.mem_singleton.mp hx]
            exact List.mem_of_getElem? hz
        · rw [List.length_append, List.length_singleton]
          omega
      · exact ⟨sb2.trans sb3, pu3, ms, e3, hin, Nat.le_succ_of_le hl⟩
    · rintro H2 ⟨sb2, pu2, ms, e2, hin, hl⟩
      rw [List.length_map] at hl
      refine ⟨D, _, rfl, .inl ⟨lst_of e2, fun u ou nu od => ?_⟩⟩
      have s3 := Same.new nu (o := .frz ou (.tup (ms.map V.str)))
      have hu : SqT K (upd H2 u (.frz ou (.tup (ms.map V.str)))) u (ms.map V.str) := frz_of upd_same
      have pu3 := pu2.same s3
      have sb3 := sb2.trans (.of s3)
      generalize upd H2 u (.frz ou (.tup (ms.map V.str))) = H3 at s3 hu pu3 sb3 ⊢
      have hS3 := (frm_but sb3 pu).sqt hS
      refine ⟨by decide, fun t1 n1 => ?_⟩
      obtain ⟨r1, h1⟩ := new2 n1 (o := .tup [])
      generalize upd H3 t1 (.tup []) = H4 at r1 h1 ⊢
      refine ⟨Nat.zero_le _, fun l2 n2 => ?_⟩
      obtain ⟨r2, h2⟩ := new2 n2 (o := .lst [])
      generalize upd H4 l2 (.lst []) = H5 at r2 h2 ⊢
      have hS5 := r2.sqt (r1.sqt hS3)
      obtain ⟨z0, rest0, er0⟩ := List.exists_cons_of_ne_nil sne
      have at0 : atI (ss.map V.str) 0 = some (.str z0) := by
        rw [er0]
        exact atI_nat (j := 0) rfl
      have m0 : z0 ∈ ss := by rw [er0]; exact List.mem_cons_self
      obtain ⟨zl, atl, ml⟩ : ∃ z, atI (ss.map V.str) (-1) = some (.str z) ∧ z ∈ ss := by
        refine ⟨ss.getLast sne, ?_, List.getLast_mem sne⟩
        conv => lhs; rw [← List.dropLast_concat_getLast sne]
        rw [List.map_append]
        exact atI_last _ _
      refine ⟨_, rfl, t, _, 0, _, rfl, rfl, hS5, at0, ?_⟩
      refine ⟨_, rfl, 1, rfl, t, _, -1, _, rfl, rfl, hS5, atl, ?_⟩
      refine ⟨(by show 10 ≤ sizeLine; decide), fun L nL => ?_⟩
      obtain ⟨r3, h3⟩ := new2 nL (o := .lst [V.non, V.int 0, V.bl true, V.str "", V.str "zz0", V.ref t1, V.ref l2, V.str "A", V.str z0, V.str zl])
      change tSeq _ _ _ _ (upd H5 L (.lst [V.non, V.int 0, V.bl true, V.str "", V.str "zz0", V.ref t1, V.ref l2, V.str "A", V.str z0, V.str zl]))
      generalize upd H5 L (.lst [V.non, V.int 0, V.bl true, V.str "", V.str "zz0", V.ref t1, V.ref l2, V.str "A", V.str z0, V.str zl]) = H0 at r3 h3 ⊢
      have s30 := (r1.trans r2).trans r3
      have pu0 := pu3.same s30
      have sb0 := sb3.trans (.of s30)
      have odEl : ∀ v ∈ [V.non, V.int 0, V.bl true, V.str "", V.str "zz0", V.ref t1, V.ref l2, V.str "A", V.str z0, V.str zl], El K H0 v := by
        simp only [List.forall_mem_cons, List.not_mem_nil, false_implies, implies_true, and_true]
        exact ⟨.inr (.inl rfl), .inr (.inr (.inl ⟨_, rfl⟩)), .inr (.inr (.inr (.inl ⟨_, rfl⟩))), el_lit _ (by decide +kernel), el_lit _ (by decide +kernel),
          .inr (.inr (.inr (.inr (.inl ⟨t1, _, rfl, tup_of (r3 _ _ (r2 _ _ h1))⟩)))), .inr (.inr (.inr (.inr (.inr ⟨l2, rfl, .inl (r3 _ _ h2)⟩)))), el_lit _ (by decide +kernel), el_name (sok _ m0), el_name (sok _ ml)⟩
      have odl : ([V.non, V.int 0, V.bl true, V.str "", V.str "zz0", V.ref t1, V.ref l2, V.str "A", V.str z0, V.str zl]).length = 10 := rfl
      generalize [V.non, V.int 0, V.bl true, V.str "", V.str "zz0", V.ref t1, V.ref l2, V.str "A", V.str z0, V.str zl] = od at h3 odEl odl
      have Lp : ∀ {H' : Hp}, Frm H0 H' → H' L = some (.lst od) := fun f => f _ _ h3 (fun x y z => by
        have q := congrArg List.length (HO.lst.inj z)
        rw [odl] at q
        exact absurd (show 10 = 2 from q) (by decide)) fun _ z => nomatch z
      have odF : ∀ {H' : Hp}, Frm H0 H' → ∀ v ∈ od, El K H' v := fun f v hv => (odEl v hv).frm f
      have msEl : ∀ x ∈ ms.map V.str, El K H0 x := fun x hx => by
        obtain ⟨z, hz, rfl⟩ := List.mem_map.mp hx
        exact el_name (sok z (hin z hz))
      refine ⟨_, rfl, p, 3, rfl, pu0, by decide, by decide, fun nch K5 c0 c1 sbA puA => ?_⟩
      refine ⟨nch, rfl, by omega, by omega, for_range (lo := 0) (n := nch.toNat) (fun j σ H' => ∃ (b : Addr) (bent : List V) (v4 v5 v6 v7 : Option V), σ = [some (.ref p), some (.ref t), some (.ref b), some (.ref L), v4, v5, v6, v7] ∧ SameB p H0 H' ∧ Pu H' p ∧ SqT K H' b bent ∧ bent.length ≤ 10 + j ∧ ∀ x ∈ bent, El K H' x)
        ⟨u, ms.map V.str, _, _, _, _, rfl, sbA, puA, (frm_but sbA pu0).sqt (s30.sqt hu), (by rw [List.length_map]; omega), fun x hx => (msEl x hx).frm (frm_but sbA pu0)⟩ ?_ ?_⟩
      · rintro j σ H6 hj ⟨b, bent, v4, v5, v6, v7, rfl, sb6, pu6, hB, lB, eB⟩
        have hj3 : j < 3 := by omega
        refine ⟨_, rfl, _, rfl, b, bent, rfl, .inr hB, _, _, rfl, rfl, p, _, rfl, pu6, by omega, by omega, fun at1 H7 e0 e1 sb7 pu7 => ?_⟩
        refine ⟨_, rfl, p, 2, rfl, pu7, by decide, by decide, fun way H8 w0 w1 sb8 pu8 => ?_⟩
        have f68 := (frm_but sb7 pu6).trans (frm_but sb8 pu7)
        have sb08 := (sb6.trans sb7).trans sb8
        refine ⟨_, _, rfl, ?_⟩
        refine ⟨_, rfl, _, rfl, _, rfl, slA_of (f68.sqt hB) fun x1 H9 s9 hx1 => ?_⟩
        have pu9 := pu8.same s9
        have sb09 := sb08.trans (.of s9)
        refine ⟨_, rfl, _, rfl, p, 10, rfl, pu9, by decide, by decide, fun d H10 d0 d1 sb10 pu10 => ?_⟩
        have sb010 := sb09.trans sb10
        obtain ⟨c, ac, mc⟩ := at_in (l := od) d0 (by rw [odl]; exact d1)
        refine ⟨L, od, d, c, rfl, rfl, lst_of (Lp (frm_but sb010 pu0)), ac, ?_⟩
        refine ⟨(by show 1 ≤ sizeLine; decide), fun x2 n2 => ?_⟩
        obtain ⟨s11, a11⟩ := new2 n2 (o := .tup [c])
        generalize upd H10 x2 (.tup [c]) = H11 at s11 a11 ⊢
        have hx1' := s11.sqt ((frm_but sb10 pu9).sqt hx1)
        have c1 := cutV_length bent none (some at1)
        refine catA_of hx1' (tup_of a11) (by simp only [List.length_cons, List.length_nil]; omega) fun x3 H12 s12 hx3 => ?_
        have f12 := (((f68.trans (.of s9)).trans (frm_but sb10 pu9)).trans (.of s11)).trans (.of s12)
        refine ⟨_, rfl, _, rfl, _, rfl, _, _, rfl, rfl, _, rfl, ?_⟩
        refine no_part ?_
        refine slA_of (f12.sqt hB) fun x4 H13 s13 hx4 => ?_
        have c2 := cutV_length bent (some (at1 + way)) none
        refine catA_of (s13.sqt hx3) hx4 (by simp only [List.length_append, List.length_cons, List.length_nil]; omega) fun x5 H14 s14 hx5 => ?_
        have f14 := (f12.trans (.of s13)).trans (.of s14)
        have sb014 := sb010.trans (.of (((s11.trans s12).trans s13).trans s14))
        have pu14 := pu10.same (((s11.trans s12).trans s13).trans s14)
        refine ⟨x5, _, _, _, _, _, rfl, sb014, pu14, hx5, ?_, fun x hx => ?_⟩
        · have q1 : ∀ (z : Int), 0 ≤ z → (cutV bent none (some z)).length = min z.toNat bent.length := fun z hz => by
            obtain ⟨n, rfl⟩ := Int.eq_ofNat_of_zero_le hz
            rw [cut_upto, List.length_take]
            rfl
          have q2 : ∀ (z : Int), 0 ≤ z → (cutV bent (some z) none).length = bent.length - z.toNat := fun z hz => by
            obtain ⟨n, rfl⟩ := Int.eq_ofNat_of_zero_le hz
            rw [cut_from, List.length_drop]
            rfl
          have q3 := q1 at1 e0
          have q4 := q2 (at1 + way) (by omega)
          simp only [List.length_append, List.length_cons, List.length_nil]
          omega
        · rcases List.mem_append.mp hx with hx | hx
          · rcases List.mem_append.mp hx with hx | hx
            · exact (eB x (cutV_mem hx)).frm f14
            · rw [List.mem_singleton.mp hx]
              exact odF (frm_but sb014 pu0) c mc
          · exact (eB x (cutV_mem hx)).frm f14
      · rintro σ H6 ⟨b, bent, v4, v5, v6, v7, rfl, sb6, pu6, hB, lB, eB⟩
        refine ⟨_, rfl, _, rfl, _, rfl, b, bent, rfl, hB, fun y1 n1 => ?_⟩
        obtain ⟨g1, k1⟩ := new2 n1 (o := .tup bent.reverse)
        generalize upd H6 y1 (.tup bent.reverse) = G1 at g1 k1 ⊢
        refine ⟨_, rfl, b, _, rfl, .inr (g1.sqt hB), fun y2 n2 => ?_⟩
        obtain ⟨g2, k2⟩ := new2 n2 (o := .lst bent)
        generalize upd G1 y2 (.lst bent) = G2 at g2 k2 ⊢
        have hB2 := g2.sqt (g1.sqt hB)
        refine ⟨_, rfl, _, rfl, 1, rfl, _, rfl, ?_⟩
        refine no_part ?_
        refine slA_of hB2 fun y3 G3 g3 hy3 => ?_
        have c3 := cutV_length bent (some (-1)) none
        refine catA_of (g3.sqt hB2) hy3 (by omega) fun y4 G4 g4 hy4 => ?_
        refine ⟨(by show 5 ≤ sizeLine; decide), fun Z nZ => ?_⟩
        obtain ⟨g5, k5⟩ := new2 nZ (o := .lst [V.ref b, V.ref b, V.ref y1, V.ref y2, V.ref y4])
        generalize upd G4 Z (.lst [V.ref b, V.ref b, V.ref y1, V.ref y2, V.ref y4]) = G5 at g5 k5 ⊢
        have g35 := (g3.trans g4).trans g5
        have g25 := g2.trans g35
        have g05 := g1.trans g25
        have pu5 := pu6.same g05
        have el5 : ∀ x ∈ bent, El K G5 x := fun x hx => (eB x hx).frm (.of g05)
        refine ⟨_, rfl, p, 5, rfl, pu5, by decide, by decide, fun d G6 d0 d1 sb7 pu7 => ?_⟩
        have av5 : ∀ v ∈ [V.ref b, V.ref b, V.ref y1, V.ref y2, V.ref y4], ∃ o, Av K T.C G6 v o := by
          have f := frm_but sb7 pu5
          have hb : ∃ o, Av K T.C G6 (V.ref b) o := ⟨some bent, b, rfl, f.sqt (g05.sqt hB), by omega, fun x hx => (el5 x hx).frm f⟩
          simp only [List.forall_mem_cons, List.not_mem_nil, false_implies, implies_true, and_true]
          refine ⟨hb, hb, ⟨some bent.reverse, y1, rfl, f.sqt (tup_of (g25 _ _ k1)), by rw [List.length_reverse]; omega, fun x hx => (el5 x (List.mem_reverse.mp hx)).frm f⟩, ⟨none, .inr (.inr (.inr (.inr (.inl ⟨y2, bent, rfl, ?_⟩))))⟩, ⟨some _, y4, rfl, f.sqt (g5.sqt hy4), by rw [List.length_append]; omega, fun x hx => ?_⟩⟩
          · obtain ⟨x, y, hp, _⟩ := pu6.same g1
            exact sb7 _ _ (ne_of_none hp n2).symm (g35 _ _ k2)
          · rcases List.mem_append.mp hx with hx | hx
            · exact (el5 x hx).frm f
            · exact (el5 x (cutV_mem hx)).frm f
        have k6 : G6 Z = some (.lst [V.ref b, V.ref b, V.ref y1, V.ref y2, V.ref y4]) := sb7 _ _ (fun e => by
          obtain ⟨x, y, hp, _⟩ := pu5
          rw [← e, k5] at hp
          have := congrArg List.length (HO.lst.inj (Option.some.inj hp))
          exact absurd (show 5 = 2 from this) (by decide)) k5
        obtain ⟨c, ac, mc⟩ := at_in (l := [V.ref b, V.ref b, V.ref y1, V.ref y2, V.ref y4]) d0 (by show d < ((5 : Nat) : Int); omega)
        obtain ⟨o, av⟩ := av5 c mc
        exact ⟨Z, _, d, c, rfl, rfl, lst_of k6, ac, k c o G6 av (((sb0.trans sb6).trans (.of g05)).trans sb7) pu7⟩
end
end MH
namespace MH
open PySem PySem.Spec PyProof.Rows L2
theorem RkAt.frm {K : PySem.W.Frag} {C x : Addr} {H H' : Hp} {row : List Str} (r : RkAt K C H x row) (f : Frm H H') : RkAt K C H' x row := by
  obtain ⟨dx, t, ts, th, h1, ⟨o, h2, h3⟩, h4, h5⟩ := r
  exact ⟨dx, t, ts, th, f _ _ h1 (fun _ _ z => nomatch z) (fun _ z => nomatch z), ⟨o, f _ _ h2 (fun _ _ z => nomatch z) (fun _ z => nomatch z), h3⟩, f.sqt h4, h5⟩
/-- what an error tells -/
theorem err_outF {K : PySem.W.Frag} {mg : Str → Option Value} (T : Tx K mg) {TL : List (Addr × Str)} {H1 H0 : Hp} {v : V} {C1 : Addr} {word f txt : Str} {R : VK} (kn : Kn T C1 word f) (hs : Shw K H0 v txt) (t1 : LamX.Tabs TL H1) (e0 : Same H1 H0)
    (hR : ∀ p H2, LamX.ExtN H1 H2 → LamX.Tabs TL H2 → H2 p = some (.tup [.str word, .str txt]) → R (.ref p) H2) : ErrF C1 f H0 (ErrOut T R) v := by
  intro dd H' s nd hd
  refine ⟨C1, word, f, dd, _, v, txt, kn, rfl, rfl, hd, by simp [List.lookup], extN_shw (extN_of s) hs, fun p H3 s3 np hp => ?_⟩
  have s23 := (e0.trans s).trans s3
  exact hR p _ (extN_of s23) (tabs_same t1 s23) hp
theorem ret_outF {TL : List (Addr × Str)} {H1 H' : Hp} {v : V} {R : VK} (t1 : LamX.Tabs TL H1) (s2 : Same H1 H')
    (hR : ∀ p H2, LamX.ExtN H1 H2 → LamX.Tabs TL H2 → H2 p = some (.tup [.str "returned", v]) → R (.ref p) H2) : RetOut R v H' := by
  refine ret_out fun p np => ?_
  have s3 := s2.new' np (o := .tup [.str "returned", v])
  exact hR p _ (extN_of s3) (tabs_same t1 s3) upd_same
theorem firstIn_mem {row ms : List Str} (hne : ms ≠ []) (hin : ∀ z ∈ ms, z ∈ row) : firstIn row ms ∈ ms := by
  obtain ⟨a, r, e⟩ := List.exists_cons_of_ne_nil (filter_ne hne hin)
  have m : a ∈ row.filter fun z => decide (z ∈ ms) := by
    rw [e]
    exact List.mem_cons_self
  unfold firstIn
  rw [e]
  exact of_decide_eq_true (List.mem_filter.mp m).2
def spMenuR {K : PySem.W.Frag} {mg : Str → Option Value} (T : Tx K mg) (q1 q2 q3 : Str) : Sp := fun vs H Q _ => ∃ (p x t : Addr) (row ss : List Str), vs = [.ref p, .ref x, .ref t] ∧ Pu H p ∧ RkAt K T.C H x row ∧ SqT K H t (ss.map V.str) ∧ row.Perm ss ∧ LamX.Tabs (tabsOf T q1 q2 q3) H ∧
  ∀ H', Std T q1 q2 q3 p H H' → Q (.bl true) H'
theorem Std.refl {K : PySem.W.Frag} {mg : Str → Option Value} {T : Tx K mg} {q1 q2 q3 : Str} {p : Addr} {H : Hp} (u : Pu H p) (t : LamX.Tabs (tabsOf T q1 q2 q3) H) : Std T q1 q2 q3 p H H := ⟨.refl _ _, u, t⟩
section
variable {P : Program} {w : World} {K : PySem.W.Frag} {mg : Str → Option Value} {base : Heap}
theorem g_l_menu_right_q {q1 q2 q3 : Str} (T : Tx K mg) (TB : TBs T base) (M : MkFn K q1 st_l_menu_right T.a_l_menu_right T.c_l_menu_right ["_law_purse_here", "_law_ranking", "_law_things_here"]) : FnG P w K mg base 10 T.a_l_menu_right (spMenuR T q1 q2 q3) := by
  refine fun_m M sc_l_menu_right (fun vs H Q E h => ?_) (fun A fr s H vs Q hg hr h => ?_)
  · obtain ⟨p, x, t, row, ss, rfl, _⟩ := h
    rfl
  · obtain ⟨p, x, t, row, ss, rfl, pu, rk, hS, pm, tb, k⟩ := h
    refine ⟨_, (pss_cons (ps_set (i := 5) sc_l_menu_right.nd rfl (Or.inr rfl) (pe_call (ok_l_bent_menu T) (hr.mono (by decide)) rfl T.g_l_bent_menu T.F_l_bent_menu.kp T.b_l_bent_menu .nil pass0 (pa_cons (pv 0) (pa_cons (pv 2) pa_nil))))
      (pss_cons (ps_set (i := 3) sc_l_menu_right.nd rfl (Or.inl rfl) (pe_call (ok_l_off T) (hr.mono (by decide)) rfl T.g_l_off T.F_l_off.kp T.b_l_off .nil pass0 (pa_cons (pv 5) (pa_cons (pv 2) pa_nil))))
      (pss_cons (ps_set (i := 4) sc_l_menu_right.nd rfl (Or.inl rfl) (pe_told_l_menu_right (q1 := q1) (q2 := q2) (q3 := q3) T TB rfl hg (hr.mono (by decide)) rfl rfl (LamX.lamS_by (show LamX.lamSB (defScope st_l_menu_right) _ = true by decide +kernel)) rfl (fun _ _ _ _ _ => rfl) (fun A outer s H E f c' hr => (pe_meth (pv 1) T.cl T.m_Ranking_best (ok_Ranking_best T) (hr.mono (by decide)) T.b_Ranking_best .nil (passX rfl rfl rfl rfl) (pa_cons (pv 5) pa_nil)))))
      (pss_cons (ps_if (pt_cmpR op_ne (pv 3) (pe_un un_neg pe_int) (nomark _))
        (pss_one (ps_ret (pe_cmpR (op_eqD hr.units) (pv 4) (pe_tup (pa_cons pe_str (pa_cons (pe_callB (call_reprV hg hr.units) (by rfl) T.n_repr (by decide +kernel) (pa_cons (pv 3) pa_nil)) pa_nil))) (nomark _))))
        pss_nil)
      (pss_one (ps_ret (pe_and (pe_cmpR op_eq (pe_ix ix_tup (pv 4) pe_int (fun _ _ => rfl)) pe_str (nomark _)) (pe_one (pe_cmpR op_in_seq (pe_ix ix_tup (pv 4) pe_int (fun _ _ => rfl)) (pv 5) (by rfl)))))))))), ?_⟩
    have D0 := Std.refl pu tb
    have ro := rk.ok
    have sne : ss ≠ [] := fun e => ro.ne (by
      rw [e] at pm
      exact List.perm_nil.mp pm)
    have sl : ss.length ≤ 10 := by
      rw [← pm.length_eq]
      exact ro.le
    refine ⟨_, rfl, _, rfl, p, t, ss, rfl, pu, hS, sne, sl, fun z hz => ro.ok z (pm.symm.subset hz), fun v o H1 av sb1 pu1 => ?_⟩
    have D1 := D0.but sb1 pu1
    refine ⟨_, rfl, _, rfl, v, o, t, ss, rfl, av, (D1.frm pu).sqt hS, fun H2 s2 => ?_⟩
    have D2 := D1.same s2
    refine ⟨D2.tb, fun H3 e3 t3 => ?_⟩
    have D3 := D2.ext e3 t3
    have av3 := (av.ext (extN_of s2)).ext e3
    have rk3 := rk.frm (D3.frm pu)
    obtain ⟨dx, tt, ts, th, hx, _⟩ := id rk3
    cases he : errM ss o with
    | some ix =>
      obtain ⟨ew, ei⟩ := wrongM_some he
      have he' : errM row o = some ix := by rw [errM_perm pm, he]
      refine (show ∀ {tl : XK → Hp → VK → Prop} {H : Hp} {R : VK}, tl (ErrOut T R) H (RetOut R) → TTold T tl H R from fun h => h) ?_
      refine ⟨_, rfl, x, dx, _, rfl, hx, pf_no tt ts (by decide +kernel) (by decide +kernel), _, rfl, x, v, row, o, rfl, rk3, av3, fun mrow eo he2 => ?_, fun ix2 he2 => ?_⟩
      · subst eo
        rw [he'] at he2
        cases he2
      · rw [he'] at he2
        cases he2
        refine err_outF T .menu (ixM_shw av3 he H3) t3 (Same.refl _) fun q H4 e4 t4 hq => ?_
        have D4 := D3.ext e4 t4
        rw [ew]
        have hne : (!decide (ix = V.int (-1))) = true := by
          rw [decide_eq_false fun e => ?_]
          · rfl
          · rcases ei with rfl | ⟨_, i, _, _, rfl⟩
            · cases e
            · have := V.int.inj e
              omega
        have hsc : scal ix (.int (-1)) = true := by
          rcases ei with rfl | ⟨_, i, _, _, rfl⟩ <;> rfl
        refine ⟨_, rfl, 1, rfl, hsc, _, rfl, ifT hne ?_⟩
        have hs := ixM_shw (H2 := H4) av3 he
        refine ⟨_, rfl, _, rfl, ix, ixTxt ix, rfl, hs, (by show 2 ≤ sizeLine; decide), fun y ny => ?_⟩
        exact eq_two (sg_ofString _) hs.sg ((Same.new ny) _ _ hq) upd_same (k _ (D4.same (Same.new ny)))
    | none =>
      obtain ⟨mrow, rfl, hne, hb, ew⟩ := wrongM_none he
      have he' : errM row (some mrow) = none := by rw [errM_perm pm, he]
      obtain ⟨m, rfl, hM, hl, hE⟩ := id av3
      obtain ⟨em, hin⟩ := menu_strs hb
      refine (show ∀ {tl : XK → Hp → VK → Prop} {H : Hp} {R : VK}, tl (ErrOut T R) H (RetOut R) → TTold T tl H R from fun h => h) ?_
      refine ⟨_, rfl, x, dx, _, rfl, hx, pf_no tt ts (by decide +kernel) (by decide +kernel), _, rfl, x, .ref m, row, some mrow, rfl, rk3, av3, fun mrow2 eo he2 H4 s4 => ?_, fun ix2 he2 => ?_⟩
      · cases eo
        refine ret_outF t3 s4 fun q H5 e5 t5 hq => ?_
        have D5 := D3.ext e5 t5
        rw [ew]
        refine ⟨_, rfl, 1, rfl, rfl, _, rfl, ifF (by decide) ?_⟩
        refine ⟨_, rfl, q, _, 0, _, rfl, rfl, tup_of hq, atI_nat (j := 0) rfl, rfl, _, rfl, ifT (by decide) ?_⟩
        have hM5 := (frm_extN e5).sqt hM
        rw [em] at hM5
        refine ⟨_, rfl, q, _, 1, _, rfl, rfl, tup_of hq, atI_nat (j := 1) rfl, _, rfl, m, _, rfl, .inr hM5, rfl, flat_strs _, ?_⟩
        show Q (.bl (inV (.str (firstIn row (mrow.map strOf))) ((mrow.map strOf).map V.str))) H5
        rw [inV_strs, decide_eq_true (firstIn_mem (fun e => hne (List.map_eq_nil_iff.mp e)) fun z hz => pm.symm.subset (hin z hz))]
        exact k _ D5
      · rw [he'] at he2
        cases he2
end
end MH
namespace MH
open PySem PySem.Spec PyProof.Rows L2
theorem sql_ty {K : PySem.W.Frag} {H : Hp} {a : Addr} {xs : List V} (h : SqL K H a xs) : TyX K H (.ref a) (.type "list") := by
  rcases h with (h | ⟨o, h⟩) | ⟨o, its, n, h, c, _⟩
  · exact .base (.lst h)
  · exact .base (.frz h)
  · exact .kList h c
theorem cost_names : ∀ {l : List Str}, (∀ z ∈ l, nameOk z = true) → costAll (l.map PyData.str) ≤ l.length * 84
  | [], _ => Nat.le_refl _
  | x :: r, h => by
    have a := nameOk_len (h x List.mem_cons_self)
    have b := cost_names fun z hz => h z (List.mem_cons_of_mem x hz)
    show 10 * x.length + 2 + 2 + costAll (r.map PyData.str) ≤ (r.length + 1) * 84
    omega
/-- a value that one text shows, whatever comes -/
def Shn (K : PySem.W.Frag) (H0 : Hp) (v : V) : Prop := ∃ txt, ∀ H', Frm H0 H' → Shw K H' v txt
theorem shn_data {K : PySem.W.Frag} {H0 : Hp} {v : V} {d : PyData} (h : ∀ H', Frm H0 H' → Dp K H' v d) (ok : okD d = true) (dep : d.depth ≤ 60) (cst : cost d ≤ 100000) : Shn K H0 v := ⟨_, fun H' f => .inl ⟨d, h H' f, ok, dep, cst, rfl⟩⟩
theorem shn_str {K : PySem.W.Frag} {H0 : Hp} {z : Str} (h : SgOk z) (h2 : z.length ≤ 9000) : Shn K H0 (.str z) :=
  shn_data (fun _ _ => .str z) (sg_iff.mpr h) (by simp only [PyData.depth]; decide) (by show 10 * z.length + 2 ≤ 100000; omega)
theorem shn_atom {K : PySem.W.Frag} {H0 : Hp} {v : V} {d : PyData} (h : ∀ H, Dp K H v d) (ok : okD d = true) (dep : d.depth = 0) (cst : cost d ≤ 1000) : Shn K H0 v := shn_data (fun H _ => h H) ok (by rw [dep]; decide) (by omega)
theorem shw_strQ {K : PySem.W.Frag} {H : Hp} {v : V} {txt : Str} (h : Shw K H v txt) : StrQ K H v := by
  rcases h with ⟨d, hd, ok, dep, cst, _⟩ | ⟨a, rfl, e, _⟩
  · cases hd with
    | non => exact .inr ⟨nofun, _, .base .non, by decide +kernel⟩
    | bl b => exact .inr ⟨nofun, _, .base (.bl b), by decide +kernel⟩
    | int i => exact .inr ⟨nofun, _, .base (.int i), by decide +kernel⟩
    | str x => exact .inl ⟨x, rfl⟩
    | lst h1 h2 => exact .inr ⟨nofun, _, sql_ty h1, by decide +kernel⟩
    | tup h1 h2 => exact .inr ⟨nofun, _, h1.ty, by decide +kernel⟩
  · exact .inr ⟨nofun, _, .base (.dK e), by decide +kernel⟩
theorem shw_int {K : PySem.W.Frag} {H : Hp} {v : V} {txt : Str} (h : Shw K H v txt) : IntQ K H v := by
  rcases h with ⟨d, hd, ok, dep, cst, _⟩ | ⟨a, rfl, e, _⟩
  · cases hd with
    | non => exact .inr (.inr ⟨nofun, _, .base .non, by decide +kernel⟩)
    | bl b => exact .inr (.inl ⟨b, rfl⟩)
    | int i => exact .inl ⟨i, rfl⟩
    | str x => exact .inr (.inr ⟨nofun, _, .base (.str x), by decide +kernel⟩)
    | lst h1 h2 => exact .inr (.inr ⟨nofun, _, sql_ty h1, by decide +kernel⟩)
    | tup h1 h2 => exact .inr (.inr ⟨nofun, _, h1.ty, by decide +kernel⟩)
  · exact .inr (.inr ⟨nofun, _, .base (.dK e), by decide +kernel⟩)
theorem pool_x : ∀ z ∈ pool, z ++ "x" ∉ pool := by decide +kernel
theorem pool_lits : ("" : Str) ∉ pool ∧ ("zz0" : Str) ∉ pool ∧ ("A" : Str) ∉ pool := by decide +kernel
theorem Std.updN {K : PySem.W.Frag} {mg : Str → Option Value} {T : Tx K mg} {q1 q2 q3 : Str} {p W : Addr} {H0 H1 H : Hp} {xs ys : List V} (d1 : Std T q1 q2 q3 p H0 H1) (n : H1 W = none) (d : Std T q1 q2 q3 p H0 H) (hW : H W = some (.lst xs)) : Std T q1 q2 q3 p H0 (upd H W (.lst ys)) := by
  have nW : W ≠ p := fun e => by
    obtain ⟨x, y, hp, _⟩ := d1.pu
    rw [← e, n] at hp
    cases hp
  refine ⟨fun b o hb e t => ?_, ?_, tabs_but d.tb hW (fun _ z => nomatch z) (fun _ _ z => nomatch z) fun b o hb e => by rw [upd_ne hb]; exact e⟩
  · have h1 := d1.st b o hb e t
    rw [upd_ne (ne_of_none h1 n)]
    exact d.st b o hb e t
  · obtain ⟨x, y, hp, hh⟩ := d.pu
    exact ⟨x, y, by rw [upd_ne nW.symm]; exact hp, hh⟩
theorem Frm.updN {H0 H1 H : Hp} {W : Addr} {u : HO} (f1 : Frm H0 H1) (n : H1 W = none) (f : Frm H0 H) : Frm H0 (upd H W u) := fun b o e x t => by
  rw [upd_ne (ne_of_none (f1 b o e x t) n)]
  exact f b o e x t
/-- one more answer stands in the list -/
theorem kept_upd {H1 H : Hp} {W y : Addr} {u : HO} {u' zs : List V} (h : H y = some (.tup zs)) (hW : H W = some (.lst u')) : (upd H W u) y = some (.tup zs) := by
  have : y ≠ W := fun e => by
    rw [e, hW] at h
    cases h
  rw [upd_ne this]
  exact h
theorem eqv_four (a b : Str) : PyData.eqv (.list [.tuple [.str a, .str b], .tuple [.str a, .str b], .tuple [.str a, .str b], .tuple [.str a, .str b]]) (.list [.tuple [.str a, .str b], .tuple [.str a, .str b], .tuple [.str a, .str b], .tuple [.str a, .str b]]) = true := by
  simp [PyData.eqv, PyData.eqvAll]
theorem four_shaped {a b : Str} (ga : SgOk a) (gb : SgOk b) : SeqAt.shaped (.list [.tuple [.str a, .str b], .tuple [.str a, .str b], .tuple [.str a, .str b], .tuple [.str a, .str b]]) = true := by
  have e : okD (.tuple [.str a, .str b]) = true := okDs_strs (ss := [a, b]) fun z hz => by
    rcases List.mem_cons.mp hz with rfl | hz
    · exact sg_iff.mpr ga
    · rw [List.mem_singleton.mp hz]
      exact sg_iff.mpr gb
  refine shaped_of (d := .list [.tuple [.str a, .str b], .tuple [.str a, .str b], .tuple [.str a, .str b], .tuple [.str a, .str b]]) ?_ (by simp only [PyData.depth, PyData.depthAll]; decide)
  show (okD (.tuple [.str a, .str b]) && (okD (.tuple [.str a, .str b]) && (okD (.tuple [.str a, .str b]) && (okD (.tuple [.str a, .str b]) && true)))) = true
  rw [e]
  rfl
theorem dp_two {K : PySem.W.Frag} {H : Hp} {y : Addr} {a b : Str} (h : H y = some (.tup [.str a, .str b])) : Dp K H (.ref y) (.tuple [.str a, .str b]) := .tup (tup_of h) (.cons (.str _) (.cons (.str _) .nil))
def spThingR {K : PySem.W.Frag} {mg : Str → Option Value} (T : Tx K mg) (q1 q2 q3 : Str) : Sp := fun vs H Q _ => ∃ (p x t : Addr) (row ss : List Str), vs = [.ref p, .ref x, .ref t] ∧ Pu H p ∧ RkAt K T.C H x row ∧ SqT K H t (ss.map V.str) ∧ row.Perm ss ∧ (∀ z ∈ ss, z ∈ pool) ∧ LamX.Tabs (tabsOf T q1 q2 q3) H ∧
  ∀ H', Std T q1 q2 q3 p H H' → Q (.bl true) H'
section
variable {P : Program} {w : World} {K : PySem.W.Frag} {mg : Str → Option Value} {base : Heap}
theorem g_l_thing_right_q {q1 q2 q3 : Str} (T : Tx K mg) (TB : TBs T base) (M : MkFn K q2 st_l_thing_right T.a_l_thing_right T.c_l_thing_right ["_law_purse_here", "_law_ranking", "_law_things_here"]) : FnG P w K mg base 10 T.a_l_thing_right (spThingR T q1 q2 q3) := by
  refine fun_m M sc_l_thing_right (fun vs H Q E h => ?_) (fun A fr s H vs Q hg hr h => ?_)
  · obtain ⟨p, x, t, row, ss, rfl, _⟩ := h
    rfl
  · obtain ⟨p, x, t, row, ss, rfl, pu, rk, hS, pm, inp, tb, k⟩ := h
    refine ⟨_, (pss_cons (ps_set (i := 3) sc_l_thing_right.nd rfl (Or.inl rfl) (pe_lst (pa_cons pe_non (pa_cons pe_int (pa_cons pe_bl (pa_cons pe_str (pa_cons pe_str (pa_cons (pe_tup pa_nil) (pa_cons (pe_lst pa_nil) (pa_cons pe_dnewK (pa_cons (pv 2) (pa_cons (pe_callTy call_list_of (by rfl) T.n_list (by decide +kernel) (pa_cons (pv 2) pa_nil)) (pa_cons (pe_op op_add_str (pe_ix ix_tup (pv 2) pe_int (fun _ _ => rfl)) pe_str) (pa_cons pe_str (pa_cons pe_int (pa_cons (pe_un un_neg pe_int) pa_nil))))))))))))))))
      (pss_cons (ps_asg (pe_tup (pa_cons (pe_ix ix_list (pv 3) (pe_call (ok_l_draw T) (hr.mono (by decide)) rfl T.g_l_draw T.F_l_draw.kp T.b_l_draw .nil pass0 (pa_cons (pv 0) (pa_cons pe_int pa_nil))) (fun _ _ => rfl)) (pa_cons (pe_lst (pa_cons (pe_un un_neg pe_int) (pa_cons (pe_callB call_len_seq (by rfl) T.n_len (by decide +kernel) (pa_cons (pv 2) pa_nil)) (pa_cons pe_bl (pa_cons pe_non (pa_cons pe_str (pa_cons (pe_op op_pow pe_int pe_int) (pa_cons (pe_tup pa_nil) (pa_cons pe_bl pa_nil))))))))) pa_nil))) (pg_tup rfl (pgs_cons (pg_name (i := 9) sc_l_thing_right.nd rfl (Or.inr rfl)) (pgs_cons (pg_name (i := 4) sc_l_thing_right.nd rfl (Or.inl rfl)) pgs_nil))))
      (pss_cons (ps_set (i := 7) sc_l_thing_right.nd rfl (Or.inr rfl) (pe_ix ix_list (pv 4) (pe_call (ok_l_draw T) (hr.mono (by decide)) rfl T.g_l_draw T.F_l_draw.kp T.b_l_draw .nil pass0 (pa_cons (pv 0) (pa_cons pe_int pa_nil))) (fun _ _ => rfl)))
      (pss_cons (ps_asg (pe_tup (pa_cons (pe_tup (pa_cons pe_str (pa_cons (pe_callB (call_reprV hg hr.units) (by rfl) T.n_repr (by decide +kernel) (pa_cons (pv 9) pa_nil)) pa_nil))) (pa_cons (pe_ix ix_tup (pv 2) (pe_call (ok_l_draw T) (hr.mono (by decide)) rfl T.g_l_draw T.F_l_draw.kp T.b_l_draw .nil pass0 (pa_cons (pv 0) (pa_cons (pe_callB call_len_seq (by rfl) T.n_len (by decide +kernel) (pa_cons (pv 2) pa_nil)) pa_nil))) (fun _ _ => rfl)) pa_nil))) (pg_tup rfl (pgs_cons (pg_name (i := 5) sc_l_thing_right.nd rfl (Or.inl rfl)) (pgs_cons (pg_name (i := 8) sc_l_thing_right.nd rfl (Or.inr rfl)) pgs_nil))))
      (pss_cons (ps_set (i := 6) sc_l_thing_right.nd rfl (Or.inl rfl) (pe_lst (pa_cons (pe_told_l_thing_right (q1 := q1) (q2 := q2) (q3 := q3) T TB rfl hg (hr.mono (by decide)) rfl rfl (LamX.lamS_by (show LamX.lamSB (defScope st_l_thing_right) _ = true by decide +kernel)) rfl (fun _ _ _ _ _ => rfl) (fun A outer s H E f c' hr => (pe_meth (pv 1) T.cl T.m_Ranking_below (ok_Ranking_below T) (hr.mono (by decide)) T.b_Ranking_below .nil (passX rfl rfl rfl rfl) (pa_cons (pv 9) pa_nil)))) pa_nil)))
      (pss_cons (ps_expr (pe_bm PySem.F.plainAttrs_list PySem.F.slot_list_append PySem.F.type_list_append mt_append (pv 6) (pa_cons (pe_told_l_thing_right (q1 := q1) (q2 := q2) (q3 := q3) T TB rfl hg (hr.mono (by decide)) rfl rfl (LamX.lamS_by (show LamX.lamSB (defScope st_l_thing_right) _ = true by decide +kernel)) rfl (fun _ _ _ _ _ => rfl) (fun A outer s H E f c' hr => (pe_meth (pv 1) T.cl T.m_Ranking_place (ok_Ranking_place T) (hr.mono (by decide)) T.b_Ranking_place .nil (passX rfl rfl rfl rfl) (pa_cons (pv 9) pa_nil)))) pa_nil)))
      (pss_cons (ps_expr (pe_bm PySem.F.plainAttrs_list PySem.F.slot_list_append PySem.F.type_list_append mt_append (pv 6) (pa_cons (pe_told_l_thing_right (q1 := q1) (q2 := q2) (q3 := q3) T TB rfl hg (hr.mono (by decide)) rfl rfl (LamX.lamS_by (show LamX.lamSB (defScope st_l_thing_right) _ = true by decide +kernel)) rfl (fun _ _ _ _ _ => rfl) (fun A outer s H E f c' hr => (pe_methR (pv 1) T.cl T.m_Ranking_without (okR_Ranking_without T) (hr.mono (by decide)) (passX rfl rfl rfl rfl) (pa_cons (pv 9) pa_nil)))) pa_nil)))
      (pss_cons (ps_expr (pe_bm PySem.F.plainAttrs_list PySem.F.slot_list_append PySem.F.type_list_append mt_append (pv 6) (pa_cons (pe_told_l_thing_right (q1 := q1) (q2 := q2) (q3 := q3) T TB rfl hg (hr.mono (by decide)) rfl rfl (LamX.lamS_by (show LamX.lamSB (defScope st_l_thing_right) _ = true by decide +kernel)) rfl (fun _ _ _ _ _ => rfl) (fun A outer s H E f c' hr => (pe_methR (pv 1) T.cl T.m_Ranking_without (okR_Ranking_without T) (hr.mono (by decide)) (passX rfl rfl rfl rfl) (pa_cons (pv 8) (pa_cons (pv 9) (pa_cons (pv 8) pa_nil)))))) pa_nil)))
      (pss_cons (ps_if (PW.pt (pw_or (pt_cmpR (op_neD hr.units) (pv 6) (pe_op op_rep (pe_lst (pa_cons (pv 5) pa_nil)) pe_int) (nomark _)) (pw_or1 (pt_cmpR (op_neD hr.units) (pe_told_l_thing_right (q1 := q1) (q2 := q2) (q3 := q3) T TB rfl hg (hr.mono (by decide)) rfl rfl (LamX.lamS_by (show LamX.lamSB (defScope st_l_thing_right) _ = true by decide +kernel)) rfl (fun _ _ _ _ _ => rfl) (fun A outer s H E f c' hr => (pe_itO T.m_RankingD_getitemD T.fi_RankingD_getitemD (ok_RankingD_getitemD T) (hr.mono (by decide)) T.b_RankingD_getitemD (passX rfl rfl rfl rfl) (pv 1) (pv 7) (fun _ _ => rfl)))) (pe_tup (pa_cons pe_str (pa_cons (pe_callB (call_reprV hg hr.units) (by rfl) T.n_repr (by decide +kernel) (pa_cons (pv 7) pa_nil)) pa_nil))) (nomark _)))))
        (pss_one (ps_ret pe_bl))
        pss_nil)
      (pss_one (ps_ret (pe_and (pe_cmpR op_eq (pe_ix ix_tup (pe_told_l_thing_right (q1 := q1) (q2 := q2) (q3 := q3) T TB rfl hg (hr.mono (by decide)) rfl rfl (LamX.lamS_by (show LamX.lamSB (defScope st_l_thing_right) _ = true by decide +kernel)) rfl (fun _ _ _ _ _ => rfl) (fun A outer s H E f c' hr => (pe_meth (pv 1) T.cl T.m_Ranking_place (ok_Ranking_place T) (hr.mono (by decide)) T.b_Ranking_place .nil (passX rfl rfl rfl rfl) (pa_cons (pv 8) pa_nil)))) pe_int (fun _ _ => rfl)) pe_str (nomark _)) (pe_one (pe_cmpR op_eq (pe_itO T.m_RankingD_getitemD T.fi_RankingD_getitemD (ok_RankingD_getitemD T) (hr.mono (by decide)) T.b_RankingD_getitemD pass00 (pv 1) pe_int (fun _ _ => rfl)) (pe_ix ix_tup (pe_prop (pv 1) T.cl T.p_row (ok_Ranking_row T) (hr.mono (by decide)) T.b_Ranking_row .nil pass0 (by rfl)) pe_int (fun _ _ => rfl)) (nomark _))))))))))))))), ?_⟩
    have D0 := Std.refl pu tb
    have ro := rk.ok
    have sne : ss ≠ [] := fun e => ro.ne (by
      rw [e] at pm
      exact List.perm_nil.mp pm)
    have sl : ss.length ≤ 10 := by
      rw [← pm.length_eq]
      exact ro.le
    have spos : 0 < ss.length := List.length_pos_iff.mpr sne
    have sok : ∀ z ∈ ss, nameOk z = true := fun z hz => pool_ok z (inp z hz)
    have rin : ∀ z ∈ row, z ∈ pool := fun z hz => inp z (pm.subset hz)
    refine ⟨by decide, fun t1 n1 => ?_⟩
    obtain ⟨r1, h1⟩ := new2 n1 (o := .tup [])
    generalize upd H t1 (.tup []) = K1 at r1 h1 ⊢
    refine ⟨Nat.zero_le _, fun l2 n2 => ?_⟩
    obtain ⟨r2, h2⟩ := new2 n2 (o := .lst [])
    generalize upd K1 l2 (.lst []) = K2 at r2 h2 ⊢
    intro d3 n3
    obtain ⟨r3, h3⟩ := new2 n3 (o := .dK [])
    generalize upd K2 d3 (.dK []) = K3 at r3 h3 ⊢
    have hS3 := r3.sqt (r2.sqt (r1.sqt hS))
    refine ⟨_, rfl, _, rfl, t, _, rfl, .inr hS3, fun l4 n4 => ?_⟩
    obtain ⟨r4, h4⟩ := new2 n4 (o := .lst (ss.map V.str))
    generalize upd K3 l4 (.lst (ss.map V.str)) = K4 at r4 h4 ⊢
    obtain ⟨z0, rest0, er0⟩ := List.exists_cons_of_ne_nil sne
    have at0 : atI (ss.map V.str) 0 = some (.str z0) := by
      rw [er0]
      exact atI_nat (j := 0) rfl
    have m0 : z0 ∈ ss := by rw [er0]; exact List.mem_cons_self
    have zl := nameOk_len (sok z0 m0)
    refine ⟨_, rfl, t, _, 0, _, rfl, rfl, r4.sqt hS3, at0, _, _, rfl, rfl, le_line (by show z0.length + 1 ≤ 100000; omega), ?_⟩
    refine ⟨1, rfl, ?_⟩
    refine ⟨(by show 14 ≤ sizeLine; decide), fun L nL => ?_⟩
    obtain ⟨r5, h5⟩ := new2 nL (o := .lst [V.non, V.int 0, V.bl true, V.str "", V.str "zz0", V.ref t1, V.ref l2, V.ref d3, V.ref t, V.ref l4, V.str (z0 ++ "x"), V.str "A", V.int 1, V.int (-1)])
    change tSeq _ _ _ _ (upd K4 L (.lst [V.non, V.int 0, V.bl true, V.str "", V.str "zz0", V.ref t1, V.ref l2, V.ref d3, V.ref t, V.ref l4, V.str (z0 ++ "x"), V.str "A", V.int 1, V.int (-1)]))
    generalize upd K4 L (.lst [V.non, V.int 0, V.bl true, V.str "", V.str "zz0", V.ref t1, V.ref l2, V.ref d3, V.ref t, V.ref l4, V.str (z0 ++ "x"), V.str "A", V.int 1, V.int (-1)]) = H0 at r5 h5 ⊢
    have r05 := (((r1.trans r2).trans r3).trans r4).trans r5
    have D1 := D0.same r05
    have hS5 : SqT K H0 t (ss.map V.str) := r05.sqt hS
    have dps := okDs_strs (ss := ss) fun z hz => sg_iff.mpr (sg_name (sok z hz))
    have cst := cost_names sok
    have odOk : ∀ v ∈ [V.non, V.int 0, V.bl true, V.str "", V.str "zz0", V.ref t1, V.ref l2, V.ref d3, V.ref t, V.ref l4, V.str (z0 ++ "x"), V.str "A", V.int 1, V.int (-1)], oneV row v = false := by
      have nr : ∀ z : Str, z ∉ pool → oneV row (.str z) = false := fun z hz => decide_eq_false fun m => hz (rin z m)
      simp only [List.forall_mem_cons, List.not_mem_nil, false_implies, implies_true, and_true]
      exact ⟨rfl, rfl, rfl, nr _ pool_lits.1, nr _ pool_lits.2.1, rfl, rfl, rfl, rfl, rfl, nr _ (pool_x z0 (inp z0 m0)), nr _ pool_lits.2.2, rfl, rfl⟩
    have odSh : ∀ v ∈ [V.non, V.int 0, V.bl true, V.str "", V.str "zz0", V.ref t1, V.ref l2, V.ref d3, V.ref t, V.ref l4, V.str (z0 ++ "x"), V.str "A", V.int 1, V.int (-1)], Shn K H0 v := by
      have kt : ∀ {b : Addr} {xs : List V}, H0 b = some (.tup xs) → ∀ H', Frm H0 H' → H' b = some (.tup xs) := fun e H' f => f _ _ e (fun _ _ z => nomatch z) fun _ z => nomatch z
      have e4 : ∀ H', Frm H0 H' → H' l4 = some (.lst (ss.map V.str)) := fun H' f => f _ _ (r5 _ _ h4) (fun x y z => by
        rw [er0] at z
        exact nomatch (List.cons.inj (HO.lst.inj z)).1) fun _ z => nomatch z
      have e2 : ∀ H', Frm H0 H' → H' l2 = some (.lst []) := fun H' f => f _ _ (r5 _ _ (r4 _ _ (r3 _ _ h2))) (fun _ _ z => nomatch z) fun _ z => nomatch z
      have e3 : ∀ H', Frm H0 H' → H' d3 = some (.dK []) := fun H' f => f _ _ (r5 _ _ (r4 _ _ h3)) (fun _ _ z => nomatch z) fun _ z => nomatch z
      simp only [List.forall_mem_cons, List.not_mem_nil, false_implies, implies_true, and_true]
      refine ⟨shn_atom (fun _ => .non) rfl rfl (by decide), shn_atom (fun _ => .int 0) rfl rfl (by decide), shn_atom (fun _ => .bl true) rfl rfl (by decide), shn_str (sg_ofString _) (by decide +kernel), shn_str (sg_ofString _) (by decide +kernel),
        shn_data (fun H' f => .tup (tup_of (kt (r5 _ _ (r4 _ _ (r3 _ _ (r2 _ _ h1)))) H' f)) .nil) (by decide +kernel) (by decide +kernel) (by decide +kernel), shn_data (fun H' f => .lst (lst_of (e2 H' f)) .nil) (by decide +kernel) (by decide +kernel) (by decide +kernel), ⟨_, fun H' f => .inr ⟨d3, rfl, e3 H' f, rfl⟩⟩,
        shn_data (fun H' f => .tup (f.sqt hS5) (dp_strs ss)) dps (by simp only [PyData.depth, depth_strs]; decide) (by show costAll _ + 3 ≤ 100000; omega), shn_data (fun H' f => .lst (lst_of (e4 H' f)) (dp_strs ss)) dps (by simp only [PyData.depth, depth_strs]; decide) (by show costAll _ + 3 ≤ 100000; omega),
        shn_str (sg_append (sg_name (sok z0 m0)) (sg_ofString _)) (by rw [strLen_append]; have : ("x" : Str).length = 1 := rfl; omega), shn_str (sg_ofString _) (by decide +kernel), shn_atom (fun _ => .int 1) (by decide +kernel) rfl (by decide), shn_atom (fun _ => .int (-1)) (by decide +kernel) rfl (by decide)⟩
    have odl : ([V.non, V.int 0, V.bl true, V.str "", V.str "zz0", V.ref t1, V.ref l2, V.ref d3, V.ref t, V.ref l4, V.str (z0 ++ "x"), V.str "A", V.int 1, V.int (-1)]).length = 14 := rfl
    generalize [V.non, V.int 0, V.bl true, V.str "", V.str "zz0", V.ref t1, V.ref l2, V.ref d3, V.ref t, V.ref l4, V.str (z0 ++ "x"), V.str "A", V.int 1, V.int (-1)] = od at h5 odOk odSh odl
    refine ⟨_, rfl, _, rfl, p, 14, rfl, D1.pu, by decide, by decide, fun d H1 d0 d1 sb1 pu1 => ?_⟩
    have D2 := D1.but sb1 pu1
    have Lnp : L ≠ p := fun e => by
      obtain ⟨x, y, hp, _⟩ := D1.pu
      rw [← e, h5] at hp
      have := congrArg List.length (HO.lst.inj (Option.some.inj hp))
      rw [odl] at this
      exact absurd (show 14 = 2 from this) (by decide)
    obtain ⟨c, ac, mc⟩ := at_in (l := od) d0 (by rw [odl]; exact d1)
    refine ⟨L, od, d, c, rfl, rfl, lst_of (sb1 _ _ Lnp h5), ac, ?_⟩
    have cOk := odOk c mc
    obtain ⟨txt, cSh⟩ := odSh c mc
    have pu0 := D1.pu
    have D2f := frm_but sb1 pu0
    refine ⟨1, rfl, ?_⟩
    refine ⟨_, rfl, t, _, rfl, .inr (D2f.sqt hS5), ?_⟩
    refine ⟨_, _, rfl, rfl, ⟨by decide, by decide⟩, ?_⟩
    refine ⟨by decide, fun t5 n5 => ?_⟩
    obtain ⟨r6, h6⟩ := new2 n5 (o := .tup [])
    generalize upd H1 t5 (.tup []) = H2 at r6 h6 ⊢
    refine ⟨(by show 8 ≤ sizeLine; decide), fun F nF => ?_⟩
    refine ⟨(by show 2 ≤ sizeLine; decide), fun tp ntp => ⟨tp, _, rfl, tup_of upd_same, rfl, _, _, rfl, _, _, rfl, rfl, ?_⟩⟩
    change tSeq _ _ _ _ (upd (upd H2 F (.lst [V.int (-1), V.int ((ss.map V.str).length : Nat), V.bl true, V.non, V.str "0", V.int ((10 : Int) ^ (20 : Int).toNat), V.ref t5, V.bl false])) tp (.tup [c, V.ref F]))
    have r7 : Same H2 (upd (upd H2 F (.lst [V.int (-1), V.int ((ss.map V.str).length : Nat), V.bl true, V.non, V.str "0", V.int ((10 : Int) ^ (20 : Int).toNat), V.ref t5, V.bl false])) tp (.tup [c, V.ref F])) := (Same.new nF).trans (Same.new ntp)
    have h7 : (upd (upd H2 F (.lst [V.int (-1), V.int ((ss.map V.str).length : Nat), V.bl true, V.non, V.str "0", V.int ((10 : Int) ^ (20 : Int).toNat), V.ref t5, V.bl false])) tp (.tup [c, V.ref F])) F = some (.lst [V.int (-1), V.int ((ss.map V.str).length : Nat), V.bl true, V.non, V.str "0", V.int ((10 : Int) ^ (20 : Int).toNat), V.ref t5, V.bl false]) := (Same.new ntp) _ _ upd_same
    generalize upd (upd H2 F (.lst [V.int (-1), V.int ((ss.map V.str).length : Nat), V.bl true, V.non, V.str "0", V.int ((10 : Int) ^ (20 : Int).toNat), V.ref t5, V.bl false])) tp (.tup [c, V.ref F]) = H3 at r7 h7 ⊢
    have D3 := (D2.same r6).same r7
    have faSh : ∀ v ∈ [V.int (-1), V.int ((ss.map V.str).length : Nat), V.bl true, V.non, V.str "0", V.int ((10 : Int) ^ (20 : Int).toNat), V.ref t5, V.bl false], Shn K H3 v := by
      have e5 : ∀ H', Frm H3 H' → H' t5 = some (.tup []) := fun H' f => f _ _ (r7 _ _ h6) (fun _ _ z => nomatch z) fun _ z => nomatch z
      have okn : okD (.int ((ss.map V.str).length : Nat)) = true := by
        have h1 : (((ss.map V.str).length : Nat) : Int).natAbs = (ss.map V.str).length := rfl
        show decide ((((ss.map V.str).length : Nat) : Int).natAbs < 10 ^ 100) = true
        rw [h1, List.length_map]
        refine decide_eq_true (Nat.lt_of_lt_of_le (show ss.length < 1000 by omega) ?_)
        exact Nat.le_trans (show 1000 ≤ 10 ^ 3 by decide) (Nat.pow_le_pow_right (by decide) (by decide))
      simp only [List.forall_mem_cons, List.not_mem_nil, false_implies, implies_true, and_true]
      exact ⟨shn_atom (fun _ => .int (-1)) (by decide +kernel) rfl (by decide), shn_atom (fun _ => .int _) okn rfl (show 101 ≤ 1000 by decide), shn_atom (fun _ => .bl true) rfl rfl (by decide), shn_atom (fun _ => .non) rfl rfl (by decide), shn_str (sg_ofString _) (by decide +kernel), shn_atom (fun _ => .int _) (by decide +kernel) rfl (show 101 ≤ 1000 by decide),
        shn_data (fun H' f => .tup (tup_of (e5 H' f)) .nil) (by decide +kernel) (by decide +kernel) (by decide +kernel), shn_atom (fun _ => .bl false) rfl rfl (by decide)⟩
    have faBad : ∀ v ∈ [V.int (-1), V.int ((ss.map V.str).length : Nat), V.bl true, V.non, V.str "0", V.int ((10 : Int) ^ (20 : Int).toNat), V.ref t5, V.bl false], inRange row.length v = false := by
      have lr : row.length = ss.length := pm.length_eq
      have l2 : (ss.map V.str).length = ss.length := List.length_map _
      simp only [List.forall_mem_cons, List.not_mem_nil, false_implies, implies_true, and_true]
      refine ⟨rfl, ?_, rfl, rfl, rfl, ?_, rfl, rfl⟩
      · show (decide ((0 : Int) ≤ ((ss.map V.str).length : Nat)) && decide ((((ss.map V.str).length : Nat) : Int) < row.length)) = false
        rw [l2, lr, decide_eq_false (show ¬ ((ss.length : Nat) : Int) < (ss.length : Nat) by omega), Bool.and_false]
      · show (decide ((0 : Int) ≤ (10 : Int) ^ (20 : Int).toNat) && decide ((10 : Int) ^ (20 : Int).toNat < row.length)) = false
        have big : (10 : Int) ^ (20 : Int).toNat = 100000000000000000000 := by decide +kernel
        rw [big, decide_eq_false (show ¬ (100000000000000000000 : Int) < (row.length : Nat) by omega), Bool.and_false]
    have fal : ([V.int (-1), V.int ((ss.map V.str).length : Nat), V.bl true, V.non, V.str "0", V.int ((10 : Int) ^ (20 : Int).toNat), V.ref t5, V.bl false]).length = 8 := rfl
    generalize [V.int (-1), V.int ((ss.map V.str).length : Nat), V.bl true, V.non, V.str "0", V.int ((10 : Int) ^ (20 : Int).toNat), V.ref t5, V.bl false] = fa at h7 faSh faBad fal
    refine ⟨_, rfl, _, rfl, p, 8, rfl, D3.pu, by decide, by decide, fun d H4 d0 d1 sb4 pu4 => ?_⟩
    have D4 := D3.but sb4 pu4
    have Fnp : F ≠ p := fun e => by
      obtain ⟨x, y, hp, _⟩ := D3.pu
      rw [← e, h7] at hp
      have := congrArg List.length (HO.lst.inj (Option.some.inj hp))
      rw [fal] at this
      exact absurd (show 8 = 2 from this) (by decide)
    obtain ⟨ci, aci, mci⟩ := at_in (l := fa) d0 (by rw [fal]; exact d1)
    refine ⟨F, fa, d, ci, rfl, rfl, lst_of (sb4 _ _ Fnp h7), aci, ?_⟩
    have iBad := faBad ci mci
    obtain ⟨itx, iSh⟩ := faSh ci mci
    have f3 : Frm H0 H3 := (D2f.trans (.of r6)).trans (.of r7)
    have f4 := frm_but sb4 D3.pu
    have hs := cSh _ (f3.trans f4)
    refine ⟨_, rfl, c, txt, rfl, hs, (by show 2 ≤ sizeLine; decide), fun du ndu => ?_⟩
    obtain ⟨r8, h8⟩ := new2 ndu (o := .tup [.str "UnknownThing", .str txt])
    have hs8 := extN_shw (extN_of r8) hs
    have hSd : SqT K (upd H4 du (.tup [.str "UnknownThing", .str txt])) t (ss.map V.str) := r8.sqt ((f3.trans f4).sqt hS5)
    have D5 := D4.same r8
    generalize upd H4 du (.tup [.str "UnknownThing", .str txt]) = H5 at r8 h8 hs8 hSd D5 ⊢
    refine ⟨_, rfl, _, rfl, _, rfl, t, _, rfl, .inr hSd, p, _, rfl, D5.pu, by rw [List.length_map]; omega, by rw [List.length_map]; omega, fun d H6 d0 d1 sb6 pu6 => ?_⟩
    have D6 := D5.but sb6 pu6
    have f6 := frm_but sb6 D5.pu
    obtain ⟨cs, acs, mcs⟩ := at_in (l := ss.map V.str) d0 d1
    obtain ⟨sure, hsure, rfl⟩ := List.mem_map.mp mcs
    refine ⟨t, _, d, _, rfl, rfl, f6.sqt hSd, acs, ?_⟩
    refine ⟨(by show 2 ≤ sizeLine; decide), fun tq ntq => ⟨tq, _, rfl, tup_of upd_same, rfl, _, _, rfl, _, _, rfl, rfl, ?_⟩⟩
    change tSeq _ _ _ _ (upd H6 tq (.tup [V.ref du, V.str sure]))
    have r9 := Same.new ntq (o := .tup [V.ref du, V.str sure])
    generalize upd H6 tq (.tup [V.ref du, V.str sure]) = H7 at r9 ⊢
    have D7 := D6.same r9
    have f57 : Frm H5 H7 := f6.trans (.of r9)
    have f7 : Frm H H7 := D7.frm pu
    have hdu : H7 du = some (.tup [.str "UnknownThing", .str txt]) := f57 _ _ h8 (fun _ _ z => nomatch z) fun _ z => nomatch z
    have suOk : oneV row (.str sure) = true := decide_eq_true (pm.symm.subset hsure)
    have tsh : SgOk txt := hs.sg
    -- what a call told gives, at any later time
    have f07 : Frm H0 H7 := ((f3.trans f4).trans (.of r8)).trans f57
    have f37 : Frm H3 H7 := (f4.trans (.of r8)).trans f57
    have cAt : ∀ {H' : Hp}, Frm H7 H' → Shw K H' c txt := fun f => cSh _ (f07.trans f)
    have iAt : ∀ {H' : Hp}, Frm H7 H' → Shw K H' ci itx := fun f => iSh _ (f37.trans f)
    refine ⟨D7.tb, fun H8 e8 t8 => ?_⟩
    have D8 := D7.ext e8 t8
    have tell : ∀ {H : Hp}, Frm H7 H → RkAt K T.C H x row := fun f => rk.frm (f7.trans f)
    have f8 := frm_extN e8
    obtain ⟨dx, tt, ts, th, hx, _⟩ := id (tell f8)
    refine (show ∀ {tl : XK → Hp → VK → Prop} {H : Hp} {R : VK}, tl (ErrOut T R) H (RetOut R) → TTold T tl H R from fun h => h) ?_
    refine ⟨_, rfl, x, dx, _, rfl, hx, pf_no tt ts (by decide +kernel) (by decide +kernel), _, rfl, x, c, row, rfl, tell f8, shw_strQ (cAt f8), cOk, err_outF T .thing (cAt f8) t8 (Same.refl _) fun y1 H9 e9 t9 hy1 => ?_⟩
    have D9 := D8.ext e9 t9
    refine ⟨(by show 1 ≤ sizeLine; decide), fun W nW => ?_⟩
    have D10 := D9.same (Same.new nW (o := .lst [V.ref y1]))
    have f9 := f8.trans (frm_extN e9)
    have f10 : Frm H7 (upd H9 W (.lst [V.ref y1])) := f9.trans (.of (Same.new nW))
    have w10 : (upd H9 W (.lst [V.ref y1])) W = some (.lst [V.ref y1]) := upd_same
    have a10 : (upd H9 W (.lst [V.ref y1])) y1 = some (.tup [.str "UnknownThing", .str txt]) := (Same.new nW) _ _ hy1
    change tSeq _ _ _ _ (upd H9 W (.lst [V.ref y1]))
    generalize upd H9 W (.lst [V.ref y1]) = H10 at D10 f10 w10 a10 ⊢
    -- place
    refine ⟨_, rfl, .inl ⟨rfl, _, lst_of w10⟩, D10.tb, fun H11 e11 t11 => ?_⟩
    have D11 := D10.ext e11 t11
    have f11 := f10.trans (frm_extN e11)
    obtain ⟨dx, tt, ts, th, hx, _⟩ := id (tell f11)
    refine (show ∀ {tl : XK → Hp → VK → Prop} {H : Hp} {R : VK}, tl (ErrOut T R) H (RetOut R) → TTold T tl H R from fun h => h) ?_
    refine ⟨_, rfl, x, dx, _, rfl, hx, pf_no tt ts (by decide +kernel) (by decide +kernel), _, rfl, x, c, row, rfl, tell f11, shw_strQ (cAt f11), (fun z j ev hj => ?_), fun _ => err_outF T .thing (cAt f11) t11 (Same.refl _) fun y2 H12 e12 t12 hy2 => ?_⟩
    · subst ev
      have : oneV row (.str z) = true := decide_eq_true (List.mem_of_getElem? hj)
      rw [this] at cOk
      cases cOk
    have w12 := e12 _ _ (e11 _ _ w10 fun _ z => nomatch z) fun _ z => nomatch z
    have a12 := e12 _ _ (e11 _ _ a10 fun _ z => nomatch z) fun _ z => nomatch z
    have D12 := D11.ext e12 t12
    have f12 := f11.trans (frm_extN e12)
    refine ⟨W, _, _, rfl, rfl, w12, (by show 1 < sizeLine; decide), ?_⟩
    have D13 : Std T q1 q2 q3 p H (upd H12 W (.lst ([V.ref y1] ++ [V.ref y2]))) := D9.updN nW D12 w12
    have f13 : Frm H7 (upd H12 W (.lst ([V.ref y1] ++ [V.ref y2]))) := f9.updN nW f12
    have w13 : (upd H12 W (.lst ([V.ref y1] ++ [V.ref y2]))) W = some (.lst [V.ref y1, V.ref y2]) := upd_same
    have a13 : (upd H12 W (.lst ([V.ref y1] ++ [V.ref y2]))) y1 = some (.tup [.str "UnknownThing", .str txt]) := kept_upd (H1 := H12) a12 w12
    have b13 : (upd H12 W (.lst ([V.ref y1] ++ [V.ref y2]))) y2 = some (.tup [.str "UnknownThing", .str txt]) := kept_upd (H1 := H12) hy2 w12
    change tSeq _ _ _ _ (upd H12 W (.lst ([V.ref y1] ++ [V.ref y2])))
    generalize upd H12 W (.lst ([V.ref y1] ++ [V.ref y2])) = H13 at D13 f13 w13 a13 b13 ⊢
    -- without
    refine ⟨_, rfl, .inl ⟨rfl, _, lst_of w13⟩, D13.tb, fun H14 e14 t14 => ?_⟩
    have D14 := D13.ext e14 t14
    have f14 := f13.trans (frm_extN e14)
    obtain ⟨dx, tt, ts, th, hx, _⟩ := id (tell f14)
    refine (show ∀ {tl : XK → Hp → VK → Prop} {H : Hp} {R : VK}, tl (ErrOut T R) H (RetOut R) → TTold T tl H R from fun h => h) ?_
    refine ⟨_, rfl, x, dx, _, rfl, hx, pf_no tt ts (by decide +kernel) (by decide +kernel), _, rfl, _, [c], rfl, (by show 1 ≤ 5; decide), fun pp npp => ?_⟩
    have g14 : Frm H7 (upd H14 pp (.tup [c])) := f14.trans (.of (Same.new npp))
    refine ⟨x, pp, row, [c], rfl, tell g14, tup_of upd_same, fun v hv => by rw [List.mem_singleton.mp hv]; exact shw_strQ (cAt g14), .inl ⟨0, c, rfl, cOk, fun j y hj => absurd hj (Nat.not_lt_zero j), err_outF T .thing (cAt g14) t14 (Same.new npp) fun y3 H15 e15 t15 hy3 => ?_⟩⟩
    have keep15 : ∀ {b : Addr} {o : HO}, H13 b = some o → (∀ ps, o ≠ .tbl ps) → H15 b = some o := fun e t => e15 _ _ (e14 _ _ e t) t
    have w15 := keep15 w13 fun _ z => nomatch z
    have a15 := keep15 a13 fun _ z => nomatch z
    have b15 := keep15 b13 fun _ z => nomatch z
    have D15 := D14.ext e15 t15
    have f15 := f14.trans (frm_extN e15)
    refine ⟨W, _, _, rfl, rfl, w15, (by show 2 < sizeLine; decide), ?_⟩
    have D16 : Std T q1 q2 q3 p H (upd H15 W (.lst ([V.ref y1, V.ref y2] ++ [V.ref y3]))) := D9.updN nW D15 w15
    have f16 : Frm H7 (upd H15 W (.lst ([V.ref y1, V.ref y2] ++ [V.ref y3]))) := f9.updN nW f15
    have w16 : (upd H15 W (.lst ([V.ref y1, V.ref y2] ++ [V.ref y3]))) W = some (.lst [V.ref y1, V.ref y2, V.ref y3]) := upd_same
    have a16 : (upd H15 W (.lst ([V.ref y1, V.ref y2] ++ [V.ref y3]))) y1 = some (.tup [.str "UnknownThing", .str txt]) := kept_upd (H1 := H15) a15 w15
    have b16 : (upd H15 W (.lst ([V.ref y1, V.ref y2] ++ [V.ref y3]))) y2 = some (.tup [.str "UnknownThing", .str txt]) := kept_upd (H1 := H15) b15 w15
    have c16 : (upd H15 W (.lst ([V.ref y1, V.ref y2] ++ [V.ref y3]))) y3 = some (.tup [.str "UnknownThing", .str txt]) := kept_upd (H1 := H15) hy3 w15
    change tSeq _ _ _ _ (upd H15 W (.lst ([V.ref y1, V.ref y2] ++ [V.ref y3])))
    generalize upd H15 W (.lst ([V.ref y1, V.ref y2] ++ [V.ref y3])) = H16 at D16 f16 w16 a16 b16 c16 ⊢
    -- without of three
    refine ⟨_, rfl, .inl ⟨rfl, _, lst_of w16⟩, D16.tb, fun H17 e17 t17 => ?_⟩
    have D17 := D16.ext e17 t17
    have f17 := f16.trans (frm_extN e17)
    obtain ⟨dx, tt, ts, th, hx, _⟩ := id (tell f17)
    refine (show ∀ {tl : XK → Hp → VK → Prop} {H : Hp} {R : VK}, tl (ErrOut T R) H (RetOut R) → TTold T tl H R from fun h => h) ?_
    refine ⟨_, rfl, x, dx, _, rfl, hx, pf_no tt ts (by decide +kernel) (by decide +kernel), _, rfl, _, rfl, _, rfl, _, [V.str sure, c, V.str sure], rfl, (by show 3 ≤ 5; decide), fun pp npp => ?_⟩
    have g17 : Frm H7 (upd H17 pp (.tup [V.str sure, c, V.str sure])) := f17.trans (.of (Same.new npp))
    refine ⟨x, pp, row, [V.str sure, c, V.str sure], rfl, tell g17, tup_of upd_same, ?_, .inl ⟨1, c, rfl, cOk, fun j y hj hy => ?_, err_outF T .thing (cAt g17) t17 (Same.new npp) fun y4 H18 e18 t18 hy4 => ?_⟩⟩
    · intro v hv
      rcases List.mem_cons.mp hv with rfl | hv
      · exact .inl ⟨sure, rfl⟩
      rcases List.mem_cons.mp hv with rfl | hv
      · exact shw_strQ (cAt g17)
      · rw [List.mem_singleton.mp hv]
        exact .inl ⟨sure, rfl⟩
    · obtain rfl : j = 0 := by omega
      cases hy
      exact suOk
    have keep18 : ∀ {b : Addr} {o : HO}, H16 b = some o → (∀ ps, o ≠ .tbl ps) → H18 b = some o := fun e t => e18 _ _ (e17 _ _ e t) t
    have w18 := keep18 w16 fun _ z => nomatch z
    have D18 := D17.ext e18 t18
    have f18 := f17.trans (frm_extN e18)
    refine ⟨W, _, _, rfl, rfl, w18, (by show 3 < sizeLine; decide), ?_⟩
    have D19 : Std T q1 q2 q3 p H (upd H18 W (.lst ([V.ref y1, V.ref y2, V.ref y3] ++ [V.ref y4]))) := D9.updN nW D18 w18
    have f19 : Frm H7 (upd H18 W (.lst ([V.ref y1, V.ref y2, V.ref y3] ++ [V.ref y4]))) := f9.updN nW f18
    have w19 : (upd H18 W (.lst ([V.ref y1, V.ref y2, V.ref y3] ++ [V.ref y4]))) W = some (.lst [V.ref y1, V.ref y2, V.ref y3, V.ref y4]) := upd_same
    have a19 : (upd H18 W (.lst ([V.ref y1, V.ref y2, V.ref y3] ++ [V.ref y4]))) y1 = some (.tup [.str "UnknownThing", .str txt]) := kept_upd (H1 := H18) (keep18 a16 fun _ z => nomatch z) w18
    have b19 : (upd H18 W (.lst ([V.ref y1, V.ref y2, V.ref y3] ++ [V.ref y4]))) y2 = some (.tup [.str "UnknownThing", .str txt]) := kept_upd (H1 := H18) (keep18 b16 fun _ z => nomatch z) w18
    have c19 : (upd H18 W (.lst ([V.ref y1, V.ref y2, V.ref y3] ++ [V.ref y4]))) y3 = some (.tup [.str "UnknownThing", .str txt]) := kept_upd (H1 := H18) (keep18 c16 fun _ z => nomatch z) w18
    have d19 : (upd H18 W (.lst ([V.ref y1, V.ref y2, V.ref y3] ++ [V.ref y4]))) y4 = some (.tup [.str "UnknownThing", .str txt]) := kept_upd (H1 := H18) hy4 w18
    change tSeq _ _ _ _ (upd H18 W (.lst ([V.ref y1, V.ref y2, V.ref y3] ++ [V.ref y4])))
    generalize upd H18 W (.lst ([V.ref y1, V.ref y2, V.ref y3] ++ [V.ref y4])) = H19 at D19 f19 w19 a19 b19 c19 d19 ⊢
    have hd19 : H19 du = some (.tup [.str "UnknownThing", .str txt]) := f19 _ _ hdu (fun _ _ z => nomatch z) fun _ z => nomatch z
    -- all four are due
    refine ⟨_, rfl, _, rfl, (by show 1 ≤ sizeLine; decide), fun m1 k1 => ⟨m1, 4, [V.ref du], rfl, rfl, upd_same, by decide, by decide, (by show 4 ≤ sizeLine; decide), fun m2 k2 => ?_⟩⟩
    have s19 := (Same.new k1 (o := .lst [V.ref du])).trans (Same.new k2 (o := .lst (List.replicate (4 : Int).toNat [V.ref du]).flatten))
    have m2l : (upd (upd H19 m1 (.lst [V.ref du])) m2 (.lst (List.replicate (4 : Int).toNat [V.ref du]).flatten)) m2 = some (.lst [V.ref du, V.ref du, V.ref du, V.ref du]) := upd_same
    have D20 := D19.same s19
    have f20 := f19.trans (.of s19)
    generalize upd (upd H19 m1 (.lst [V.ref du])) m2 (.lst (List.replicate (4 : Int).toNat [V.ref du]).flatten) = H20 at s19 m2l D20 f20 ⊢
    have du20 := dp_two (K := K) (s19 _ _ hd19)
    refine ⟨_, _, .lst (lst_of (s19 _ _ w19)) (.cons (dp_two (s19 _ _ a19)) (.cons (dp_two (s19 _ _ b19)) (.cons (dp_two (s19 _ _ c19)) (.cons (dp_two (s19 _ _ d19)) .nil)))), .lst (lst_of m2l) (.cons du20 (.cons du20 (.cons du20 (.cons du20 .nil)))), four_shaped (sg_ofString _) tsh, four_shaped (sg_ofString _) tsh, ?_⟩
    rw [eqv_four]
    refine ⟨_, rfl, iteF ?_⟩
    -- the index
    refine ⟨D20.tb, fun H21 e21 t21 => ?_⟩
    have D21 := D20.ext e21 t21
    have f21 := f20.trans (frm_extN e21)
    obtain ⟨dx, tt, ts, th, hx, _⟩ := id (tell f21)
    refine (show ∀ {tl : XK → Hp → VK → Prop} {H : Hp} {R : VK}, tl (ErrOut T R) H (RetOut R) → TTold T tl H R from fun h => h) ?_
    refine ⟨_, rfl, _, rfl, x, dx, _, rfl, hx, x, ci, row, rfl, tell f21, shw_int (iAt f21), (fun j z ev hj => ?_), fun _ => err_outF T .ix (iAt f21) t21 (Same.refl _) fun y5 H22 e22 t22 hy5 => ?_⟩
    · subst ev
      have hj2 := (List.getElem?_eq_some_iff.mp hj).1
      have : inRange row.length (.int (j : Nat)) = true := by
        show (decide ((0 : Int) ≤ (j : Nat)) && decide (((j : Nat) : Int) < row.length)) = true
        rw [decide_eq_true (show (0 : Int) ≤ (j : Nat) by omega), decide_eq_true (show ((j : Nat) : Int) < row.length by omega)]
        rfl
      rw [this] at iBad
      cases iBad
    have D22 := D21.ext e22 t22
    have f22 := f21.trans (frm_extN e22)
    refine ⟨_, rfl, ci, itx, rfl, iAt f22, (by show 2 ≤ sizeLine; decide), fun m3 k3 => ?_⟩
    have s23 := Same.new k3 (o := .tup [.str "InvalidIndex", .str itx])
    refine ne_two (sg_ofString _) (iAt f22).sg (s23 _ _ hy5) upd_same ?_
    refine ⟨_, rfl, iteF ?_⟩
    have D23 := D22.same s23
    have f23 := f22.trans (.of s23)
    generalize upd H22 m3 (.tup [.str "InvalidIndex", .str itx]) = H23 at D23 f23 ⊢
    -- what is known is found
    refine ⟨D23.tb, fun H24 e24 t24 => ?_⟩
    have D24 := D23.ext e24 t24
    have f24 := f23.trans (frm_extN e24)
    obtain ⟨dx, tt, ts, th, hx, _⟩ := id (tell f24)
    refine (show ∀ {tl : XK → Hp → VK → Prop} {H : Hp} {R : VK}, tl (ErrOut T R) H (RetOut R) → TTold T tl H R from fun h => h) ?_
    refine ⟨_, rfl, x, dx, _, rfl, hx, pf_no tt ts (by decide +kernel) (by decide +kernel), _, rfl, x, V.str sure, row, rfl, tell f24, .inl ⟨sure, rfl⟩, (fun z j ev hj H24a sq => ret_outF t24 sq fun y6 H25 e25 t25 hy6 => ?_), fun ho => ?_⟩
    rotate_left
    · rw [suOk] at ho
      cases ho
    have D25 := D24.ext e25 t25
    have f25 := f24.trans (frm_extN e25)
    refine ⟨y6, _, 0, _, rfl, rfl, tup_of hy6, atI_nat (j := 0) rfl, rfl, _, rfl, ifT (by decide) ?_⟩
    obtain ⟨dx, tt, ts, th, hx, _⟩ := id (tell f25)
    obtain ⟨r0, rr, er⟩ := List.exists_cons_of_ne_nil ro.ne
    have at00 : atI (row.map V.str) 0 = some (.str r0) := by
      rw [er]
      exact atI_nat (j := 0) rfl
    refine ⟨_, rfl, x, dx, _, rfl, hx, x, .int 0, row, rfl, tell f25, .inl ⟨0, rfl⟩, (fun j z ev hj => ?_), fun hb => ?_⟩
    · have j0 : j = 0 := by
        have := V.int.inj ev
        omega
      subst j0
      rw [er] at hj
      cases hj
      refine ⟨_, rfl, x, dx, _, rfl, hx, x, row, rfl, tell f25, fun tr htr => ⟨tr, _, 0, _, rfl, rfl, htr, at00, rfl, ?_⟩⟩
      show Q (.bl (decide (V.str r0 = V.str r0))) H25
      rw [decide_eq_true rfl]
      exact k _ D25
    · have pos : 0 < row.length := List.length_pos_iff.mpr ro.ne
      have : inRange row.length (.int 0) = true := by
        show (decide ((0 : Int) ≤ 0) && decide ((0 : Int) < row.length)) = true
        rw [decide_eq_true (show (0 : Int) ≤ 0 by omega), decide_eq_true (show (0 : Int) < row.length by omega)]
        rfl
      rw [this] at hb
      cases hb
end
end MH
namespace MH
open PySem PySem.Spec PyProof.Rows L2
theorem Std.trans {K : PySem.W.Frag} {mg : Str → Option Value} {T : Tx K mg} {q1 q2 q3 : Str} {p : Addr} {H0 H1 H2 : Hp} (a : Std T q1 q2 q3 p H0 H1) (b : Std T q1 q2 q3 p H1 H2) : Std T q1 q2 q3 p H0 H2 := ⟨a.st.trans b.st, b.pu, b.tb⟩
theorem eqvAll_refl : ∀ ss : List Str, PyData.eqvAll (ss.map PyData.str) (ss.map PyData.str) = true
  | [] => by simp [PyData.eqvAll]
  | x :: r => by
    rw [List.map_cons, PyData.eqvAll, eqvAll_refl r, PyData.eqv]
    simp
theorem firstIn_all {row ss : List Str} (pm : row.Perm ss) {r0 : Str} {r : List Str} (e : row = r0 :: r) : firstIn row ss = r0 := by
  unfold firstIn
  have q : row.filter (fun z => decide (z ∈ ss)) = row := List.filter_eq_self.mpr fun z hz => decide_eq_true (pm.subset hz)
  rw [q, e]
  rfl
theorem less_nil {row : List Str} {z0 zl : Str} (h3 : row.length < 3) (a : atI (row.map V.str) 0 = some (.str z0)) (b : atI (row.map V.str) (-1) = some (.str zl)) : less row [z0, zl, z0] = [] := by
  unfold less
  rw [List.filter_eq_nil_iff]
  intro z hz
  match row, h3, a, b, hz with
  | [x], _, a, b, hz =>
    have : x = z0 := by simpa [atI, ixN] using a
    rw [List.mem_singleton.mp hz, this]
    simp
  | [x, y], _, a, b, hz =>
    have e1 : x = z0 := by simpa [atI, ixN] using a
    have e2 : y = zl := by simpa [atI, ixN] using b
    subst e1
    subst e2
    rcases List.mem_cons.mp hz with rfl | hz
    · simp
    · rw [List.mem_singleton.mp hz]
      simp
def spRightK {K : PySem.W.Frag} {mg : Str → Option Value} (T : Tx K mg) (q1 q2 q3 : Str) : Sp := fun vs H Q _ => ∃ p : Addr, vs = [.ref p] ∧ Pu H p ∧ LamX.Tabs (tabsOf T q1 q2 q3) H ∧ ∀ H', SameT p H H' → LamX.Tabs (tabsOf T q1 q2 q3) H' → Q (.bl true) H'
section
variable {P : Program} {w : World} {K : PySem.W.Frag} {mg : Str → Option Value} {base : Heap}
theorem g_l_right_q {q1 q2 q3 : Str} (T : Tx K mg) (TB : TBs T base) (M1 : MkFn K q1 st_l_menu_right T.a_l_menu_right T.c_l_menu_right ["_law_purse_here", "_law_ranking", "_law_things_here"]) (M2 : MkFn K q2 st_l_thing_right T.a_l_thing_right T.c_l_thing_right ["_law_purse_here", "_law_ranking", "_law_things_here"]) (M3 : MkFn K q3 st_l_right T.a_l_right T.c_l_right ["_law_purse_here"]) : FnG P w K mg base 11 T.a_l_right (spRightK T q1 q2 q3) := by
  refine fun_m M3 sc_l_right (fun vs H Q E h => ?_) (fun A fr s H vs Q hg hr h => ?_)
  · obtain ⟨p, rfl, _⟩ := h
    rfl
  · obtain ⟨p, rfl, pu, tb, k⟩ := h
    have g_l_menu_right := fun (T' : Tx K mg) (TB' : TBs T' base) => g_l_menu_right_q (P := P) (w := w) (q2 := q2) (q3 := q3) T TB M1
    have g_l_thing_right := fun (T' : Tx K mg) (TB' : TBs T' base) => g_l_thing_right_q (P := P) (w := w) (q1 := q1) (q3 := q3) T TB M2
    refine ⟨_, (pss_cons (ps_set (i := 1) sc_l_right.nd rfl (Or.inl rfl) (pe_call (ok_l_things T) (hr.mono (by decide)) rfl T.g_l_things T.F_l_things.kp T.b_l_things .nil pass0 (pa_cons (pv 0) (pa_cons (pe_op op_add pe_int (pe_call (ok_l_draw T) (hr.mono (by decide)) rfl T.g_l_draw T.F_l_draw.kp T.b_l_draw .nil pass0 (pa_cons (pv 0) (pa_cons pe_int pa_nil)))) pa_nil))))
      (pss_cons (ps_set (i := 5) sc_l_right.nd rfl (Or.inr rfl) (pe_call (ok_l_order T) (hr.mono (by decide)) rfl T.g_l_order T.F_l_order.kp T.b_l_order .nil pass0 (pa_cons (pv 0) (pa_cons (pv 1) pa_nil))))
      (pss_cons (ps_set (i := 4) sc_l_right.nd rfl (Or.inr rfl) (pe_make T.mkc (okX_RankingD_initD T) (hr.mono (by decide)) rfl T.g_Ranking T.b_RankingD_initD .nil pass00 (pa_cons (pv 5) pa_nil)))
      (pss_cons (ps_for PassesOwn.never rfl (pi_range1 (by rfl) T.n_range (pa_cons pe_int pa_nil)) (pg_name (i := 2) sc_l_right.nd rfl (Or.inl rfl))
        (pss_one (ps_if (PW.pt (pw_or (pt_not (pt_val (pe_callg (g_l_menu_right T TB) hg (hr.mono (by decide)) rfl T.g_l_menu_right T.F_l_menu_right.kp (pa_cons (pv 0) (pa_cons (pv 4) (pa_cons (pv 1) pa_nil)))))) (pw_or1 (pt_not (pt_val (pe_callg (g_l_thing_right T TB) hg (hr.mono (by decide)) rfl T.g_l_thing_right T.F_l_thing_right.kp (pa_cons (pv 0) (pa_cons (pv 4) (pa_cons (pv 1) pa_nil)))))))))
        (pss_one (ps_ret pe_bl))
        pss_nil)))
      (pss_cons (ps_if (pt_cmpR op_lt (pe_callB call_len_seq (by rfl) T.n_len (by decide +kernel) (pa_cons (pv 1) pa_nil)) pe_int (nomark _))
        (pss_cons (ps_set (i := 3) sc_l_right.nd rfl (Or.inl rfl) (pe_told_l_right (q1 := q1) (q2 := q2) (q3 := q3) T TB rfl hg (hr.mono (by decide)) rfl rfl (LamX.lamS_by (show LamX.lamSB (defScope st_l_right) _ = true by decide +kernel)) rfl (fun _ _ _ _ _ => rfl) (fun A outer s H E f c' hr => (pe_methR (pv 4) T.cl T.m_Ranking_without (okR_Ranking_without T) (hr.mono (by decide)) (passX rfl rfl rfl rfl) (pa_cons (pe_ix (r := rIxT K) ix_tup (pv 5) pe_int (fun _ _ => rfl)) (pa_cons (pe_ix (r := rIxT K) ix_tup (pv 5) (pe_un un_neg pe_int) (fun _ _ => rfl)) (pa_cons (pe_ix (r := rIxT K) ix_tup (pv 5) pe_int (fun _ _ => rfl)) pa_nil)))))))
      (pss_one (ps_if (pt_cmpR (op_neD hr.units) (pv 3) (pe_tup (pa_cons pe_str (pa_cons pe_str pa_nil))) (nomark _))
        (pss_one (ps_ret pe_bl))
        pss_nil)))
        pss_nil)
      (pss_one (ps_ret (pe_and (pe_cmpR (op_eqD hr.units) (pe_prop (pv 4) T.cl T.p_row (ok_Ranking_row T) (hr.mono (by decide)) T.b_Ranking_row .nil pass0 (by rfl)) (pv 5) (nomark _)) (pe_one (pe_cmpR op_eq (pe_meth (pv 4) T.cl T.m_Ranking_best (ok_Ranking_best T) (hr.mono (by decide)) T.b_Ranking_best .nil pass00 (pa_cons (pv 1) pa_nil)) (pe_ix ix_tup (pv 5) pe_int (fun _ _ => rfl)) (nomark _))))))))))), ?_⟩
    refine ⟨_, rfl, _, rfl, p, 8, rfl, pu, by decide, by decide, fun d H1 d0 d1 sb1 pu1 => ⟨_, _, rfl, rfl, p, 1 + d, rfl, pu1, by omega, by omega, fun ss a H2 nd so inp len sb2 pu2 hA => ?_⟩⟩
    refine ⟨_, rfl, _, rfl, p, a, ss, rfl, pu2, hA, by omega, fun row a2 H3 pm sb3 pu3 hT0 => ?_⟩
    have rowok : ∀ z ∈ row, nameOk z = true := fun z hz => pool_ok z (inp z (pm.subset hz))
    have rownd : row.Nodup := pm.nodup_iff.mpr nd
    have rowlen : row.length ≤ 8 ∧ 0 < row.length ∧ row.length = ss.length := by
      have := pm.length_eq
      omega
    have rne : row ≠ [] := fun e => by
      rw [e] at rowlen
      exact absurd rowlen.2.1 (by decide)
    have D3 : Std T q1 q2 q3 p H H3 := (((Std.refl pu tb).but sb1 pu1).but sb2 pu2).but sb3 pu3
    have len0 : (row.map V.str).length = row.length := List.length_map _
    have errs : errO (some (row.map V.str)) = none := by
      have hne : row.map V.str ≠ [] := fun e => rne (List.map_eq_nil_iff.mp e)
      have e : errO (some (row.map V.str)) = match badV (row.map V.str) with | none => none | some i => some (V.int (i : Nat)) := if_neg hne
      rw [e, badV_none fun j hj => ?_]
      rw [len0] at hj
      have g : (row.map V.str)[j]? = some (.str row[j]) := by
        rw [List.getElem?_map, List.getElem?_eq_getElem hj]
        rfl
      unfold badQ
      rw [getDv g]
      have n1 : nmV (.str row[j]) = true := rowok _ (List.getElem_mem hj)
      have n2 : V.str row[j] ∉ (row.map V.str).take j := fun m => by
        rw [← List.map_take, mem_strs] at m
        obtain ⟨t, ht, e⟩ := List.mem_iff_getElem.mp m
        rw [List.length_take] at ht
        rw [List.getElem_take] at e
        have := (List.getElem_inj rownd).mp e
        omega
      rw [n1, decide_eq_false n2, decide_eq_false (by omega)]
      rfl
    have strs_id : (row.map V.str).map strOf = row := by
      rw [List.map_map]
      exact List.map_id row
    obtain ⟨z0, rest0, er0⟩ := List.exists_cons_of_ne_nil rne
    have at0 : atI (row.map V.str) 0 = some (.str z0) := by
      rw [er0]
      exact atI_nat (j := 0) rfl
    have m0 : z0 ∈ row := by rw [er0]; exact List.mem_cons_self
    obtain ⟨zl, atl, ml⟩ : ∃ z, atI (row.map V.str) (-1) = some (.str z) ∧ z ∈ row := by
      refine ⟨row.getLast rne, ?_, List.getLast_mem rne⟩
      conv => lhs; rw [← List.dropLast_concat_getLast rne]
      rw [List.map_append]
      exact atI_last _ _
    have errMn : errM row (some (ss.map V.str)) = none := by
      have lenS : (ss.map V.str).length = ss.length := List.length_map _
      have hne : ss.map V.str ≠ [] := fun e => by
        have := congrArg List.length e
        rw [lenS, List.length_nil] at this
        omega
      have gs : ∀ j (hj : j < ss.length), (ss.map V.str)[j]? = some (.str ss[j]) := fun j hj => by
        rw [List.getElem?_map, List.getElem?_eq_getElem hj]
        rfl
      have pw := List.pairwise_iff_getElem.mp (sorted_lt nd so)
      rw [errM_of hne, badU_none fun j hj => ?_]
      rw [lenS] at hj
      have o1 : oneV row (.str ss[j]) = true := decide_eq_true (pm.symm.subset (List.getElem_mem hj))
      unfold badN
      rw [getDv (gs j hj), o1]
      cases j with
      | zero => rfl
      | succ j =>
        have hj2 : j < ss.length := by omega
        rw [show j + 1 - 1 = j from rfl, getDv (gs j hj2)]
        have lt : ltV (.str ss[j]) (.str ss[j + 1]) = true := decide_eq_true (show ss[j].cps.toList < ss[j + 1].cps.toList from pw j (j + 1) hj2 hj (by omega))
        rw [lt]
        simp
    refine ⟨_, rfl, ?_⟩
    intro x dx nx ndx hne2
    have s0 : Same H3 (upd (upd H3 dx (.own x)) x (.ins T.C dx [])) := Same.new' (Same.new ndx) (by rw [upd_ne hne2.symm]; exact nx)
    have tu0 : TupO (upd (upd H3 dx (.own x)) x (.ins T.C dx [])) a2 (row.map V.str) := hT0.same fun b o e => s0 b o e
    refine ⟨x, dx, .ref a2, some (row.map V.str), rfl, upd_same, ⟨a2, rfl, tu0.sqt, by rw [len0]; omega, fun v hv => ?_⟩, fun row' e => ⟨a2, rfl, by cases e; exact tu0⟩, fun row' e he H4 s4 rk => ⟨rfl, ?_⟩, fun ix he => absurd (he.symm.trans errs) nofun⟩
    · obtain ⟨z, hz, rfl⟩ := List.mem_map.mp hv
      exact el_name (rowok z hz)
    cases e
    rw [strs_id] at rk
    have s34 : Same H3 H4 := fun b o e => by
      have nb : b ≠ x := ne_of_none e nx
      refine s4 b o nb ?_
      rw [upd_ne nb, upd_ne (ne_of_none e ndx)]
      exact e
    have D4 := D3.same s34
    have hA4 : SqT K H4 a (ss.map V.str) := s34.sqt ((frm_but sb3 pu2).sqt hA)
    have hT4 : SqT K H4 a2 (row.map V.str) := s34.sqt hT0.sqt
    have pu4 := D4.pu
    have tb4 := D4.tb
    refine ⟨4, rfl, by decide, by decide, for_range (lo := 0) (n := 4) (fun i σ H' => ∃ v4 v5, σ = [some (.ref p), some (.ref a), v4, v5, some (.ref x), some (.ref a2)] ∧ Std T q1 q2 q3 p H4 H') ⟨none, none, rfl, .refl pu4 tb4⟩ ?_ ?_⟩
    · rintro i σ H' hi ⟨v4, v5, rfl, Da⟩
      have fa := Da.frm pu4
      refine ⟨_, rfl, _, rfl, _, rfl, p, x, a, row, ss, rfl, Da.pu, rk.frm fa, fa.sqt hA4, pm, Da.tb, fun Hb db => ⟨_, rfl, iteF ?_⟩⟩
      have Db := Da.trans db
      have fb := Db.frm pu4
      exact ⟨_, rfl, _, rfl, _, rfl, p, x, a, row, ss, rfl, Db.pu, rk.frm fb, fb.sqt hA4, pm, inp, Db.tb, fun Hc dc => ⟨_, rfl, iteF ⟨_, _, rfl, Db.trans dc⟩⟩⟩
    · rintro σ Ha ⟨v4, v5, rfl, Da⟩
      have fin : ∀ (Hz : Hp), Std T q1 q2 q3 p H4 Hz → ∀ v, (tRet (tAndV (tOp (rEqD K) (tProp T.C (spRow K T.C) [] E0 (tVar 4)) (tVar 5)) (tOp rEq (tMeth T.C "best" (spBestX K T.C T.E_InvalidMenu) [] E0 (tVar 4) (tCons (tVar 1) tNil)) (tOp (rIxT K) (tVar 5) (tC (V.int 0))))) { nx := fun _ H' => Q .non H', rt := Q } [some (.ref p), some (.ref a), v4, v, some (.ref x), some (.ref a2)] Hz) := by
        intro Hz Dz v
        have fz := Dz.frm pu4
        have rkz := rk.frm fz
        obtain ⟨dx, tt, ts, th, hx, _⟩ := id rkz
        have sh : SeqAt.shaped (.tuple (row.map PyData.str)) = true := shaped_of (d := .tuple (row.map PyData.str)) (okDs_strs fun y hy => sg_iff.mpr (sg_name (rowok y hy))) (by simp only [PyData.depth, depth_strs]; decide)
        refine ⟨_, rfl, x, dx, _, rfl, hx, x, row, rfl, rkz, fun tr htr => ⟨_, rfl, .tuple (row.map PyData.str), .tuple (row.map PyData.str), .tup htr (dp_strs row), .tup (fz.sqt hT4) (dp_strs row), sh, sh, ?_⟩⟩
        have e : PyData.eqv (.tuple (row.map PyData.str)) (.tuple (row.map PyData.str)) = true := by
          rw [PyData.eqv]
          exact eqvAll_refl row
        rw [e]
        refine ⟨_, rfl, iteT ?_⟩
        refine ⟨_, rfl, x, dx, _, rfl, hx, pf_no tt ts (by decide +kernel) (by decide +kernel), _, rfl, x, .ref a, row, some (ss.map V.str), rfl, rkz, ⟨a, rfl, fz.sqt hA4, (by rw [List.length_map]; omega), fun v hv => ?_⟩, fun mrow em he H5 s5 => ?_, fun ix he => absurd (he.symm.trans errMn) nofun⟩
        · obtain ⟨z, hz, rfl⟩ := List.mem_map.mp hv
          exact el_name (pool_ok z (inp z hz))
        cases em
        have id2 : (ss.map V.str).map strOf = ss := by
          rw [List.map_map]
          exact List.map_id ss
        rw [id2, firstIn_all pm er0]
        refine ⟨_, rfl, a2, _, 0, _, rfl, rfl, s5.sqt (fz.sqt hT4), at0, rfl, ?_⟩
        show Q (.bl (decide (V.str z0 = V.str z0))) H5
        rw [decide_eq_true rfl]
        exact k _ ((D4.trans (Dz.same s5)).st) (Dz.same s5).tb
      have fa := Da.frm pu4
      refine ⟨_, rfl, a, _, rfl, .inr (fa.sqt hA4), _, _, rfl, rfl, _, rfl, ?_⟩
      refine ite2 (fun c => ?_) (fun c => ?_)
      · have h3 : row.length < 3 := by
          have := of_decide_eq_true c
          rw [List.length_map] at this
          omega
        refine ⟨Da.tb, fun Hb eb tb' => ?_⟩
        have Db := Da.ext eb tb'
        have fb := Db.frm pu4
        have rkb := rk.frm fb
        have hTb := fb.sqt hT4
        obtain ⟨dx, tt, ts, th, hx, _⟩ := id rkb
        refine (show ∀ {tl : XK → Hp → VK → Prop} {H : Hp} {R : VK}, tl (ErrOut T R) H (RetOut R) → TTold T tl H R from fun h => h) ?_
        have shn : ∀ H', Shw K H' V.non "None" := fun H' => .inl ⟨.none, .non, rfl, by simp only [PyData.depth]; decide, by decide, by rw [PyData.shown_none]⟩
        refine ⟨_, rfl, x, dx, _, rfl, hx, pf_no tt ts (by decide +kernel) (by decide +kernel), _, rfl, a2, _, 0, _, rfl, rfl, hTb, at0, _, rfl, 1, rfl, a2, _, -1, _, rfl, rfl, hTb, atl, _, rfl, a2, _, 0, _, rfl, rfl, hTb, at0, _, [V.str z0, V.str zl, V.str z0], rfl, (by show 3 ≤ 5; decide), fun pp npp => ?_⟩
        refine ⟨x, pp, row, [V.str z0, V.str zl, V.str z0], rfl, rkb.frm (.of (Same.new npp)), tup_of upd_same, ?_, .inr ⟨[z0, zl, z0], rfl, ?_, less_nil h3 at0 atl, err_outF T .row (shn _) tb' (Same.new npp) fun y1 Hc ec tc hy1 => ?_⟩⟩
        · simp only [List.forall_mem_cons, List.not_mem_nil, false_implies, implies_true, and_true]
          exact ⟨.inl ⟨_, rfl⟩, .inl ⟨_, rfl⟩, .inl ⟨_, rfl⟩⟩
        · simp only [List.forall_mem_cons, List.not_mem_nil, false_implies, implies_true, and_true]
          exact ⟨m0, ml, m0⟩
        have Dc := Db.ext ec tc
        refine ⟨_, rfl, (by show 2 ≤ sizeLine; decide), fun m1 k1 => ?_⟩
        refine ne_two (sg_ofString _) (sg_ofString _) ((Same.new k1) _ _ hy1) upd_same ?_
        exact ⟨_, rfl, iteF (fin _ (Dc.same (Same.new k1)) _)⟩
      · exact fin Ha Da _
theorem g_l_right (T : Tx K mg) (TB : TBs T base) : FnG P w K mg base 11 T.a_l_right (spRightK T "_law_menu_right" "_law_thing_right" "_law_right") := g_l_right_q T TB T.M_l_menu_right T.M_l_thing_right T.M_l_right
end
end MH
namespace MH
open PySem PySem.Spec PyProof.Rows L2
theorem _root_.L2.Same.sql {K : PySem.W.Frag} {H H' : Hp} {a : Addr} {xs : List V} (e : Same H H') (h : SqL K H a xs) : SqL K H' a xs := by
  rcases h with (h | ⟨o, h⟩) | h
  · exact .inl (.inl (e _ _ h))
  · exact .inl (.inr ⟨o, e _ _ h⟩)
  · exact .inr h
def qsLaw : List Str := [(("_law_menu_right" : Str) ++ ".<locals>.") ++ "<lambda>", (("_law_thing_right" : Str) ++ ".<locals>.") ++ "<lambda>", (("_law_right" : Str) ++ ".<locals>.") ++ "<lambda>"]
def spLaw (TS : List Addr) (K : PySem.W.Frag) : Sp := fun vs H Q _ => ∃ (a : Addr) (ns : List Int), vs = [.ref a] ∧ SqL K H a (ns.map V.int) ∧ ns.length ≤ 63 ∧ LamX.Tabs (TS.zip qsLaw) H ∧ ∀ H', Q (.bl true) H'
section
variable {P : Program} {w : World} {K : PySem.W.Frag} {mg : Str → Option Value} {base : Heap}
theorem g_law (T : Tx K mg) (TB : TBs T base) : FnG P w K mg base 12 T.a_law (spLaw [T.P_l_menu_right, T.P_l_thing_right, T.P_l_right] K) := by
  refine fun_g T.F_law sc_law T.b_law (fun vs H Q E h => ?_) (fun cdv A fr s H vs Q hg hr h => ?_)
  · obtain ⟨a, ns, rfl, _⟩ := h
    rfl
  · obtain ⟨a, ns, rfl, hS, hlen, tb, k⟩ := h
    refine ⟨_, (pss_one (ps_ret (pe_callB (cr_all rfl) (by rfl) T.n_all (by decide +kernel) (pa_cons (pe_lc (own := [("_law_spot", 1)]) (g := gName 1) (tt := tYes) rfl sc_law.nd (pi_range1 (by rfl) T.n_range (pa_cons (pe_callB (call_max2 rfl) (by rfl) T.n_max (by decide +kernel) (pa_cons pe_int (pa_cons (pe_callB (call_min2 rfl) (by rfl) T.n_min (by decide +kernel) (pa_cons (pe_callB call_len_seq (by rfl) T.n_len (by decide +kernel) (pa_cons (pv 0) pa_nil)) (pa_cons pe_int pa_nil))) pa_nil))) pa_nil)) (blkOk_by (own := [("_law_spot", 1)]) (N := names_law) (sc := defScope st_law) (by decide +kernel)) (fun _ _ _ _ _ => pg_name (i := 1) sc_law.nd rfl (Or.inl rfl)) (fun _ _ _ _ _ => pts_nil) (fun _ _ _ _ _ => (pe_callg (g_l_right T TB) hg (hr.mono (by decide)) rfl T.g_l_right T.F_l_right.kp (pa_cons (pe_call (ok_l_purse T) (hr.mono (by decide)) rfl T.g_l_purse T.F_l_purse.kp T.b_l_purse .nil pass0 (pa_cons (pv 0) (pa_cons (pv 1) pa_nil))) pa_nil)))) pa_nil)))), ?_⟩
    have tb : LamX.Tabs (tabsOf T "_law_menu_right" "_law_thing_right" "_law_right") H := tb
    have hl : (ns.map V.int).length = ns.length := List.length_map _
    refine ⟨_, rfl, a, _, rfl, .inl hS, _, _, rfl, _, _, rfl, _, rfl, ?_, ?_, fun D nD => lc_range (lo := 0) (n := _) (fun i H' => LamX.ExtN H H' ∧ LamX.Tabs (tabsOf T "_law_menu_right" "_law_thing_right" "_law_right") H' ∧ H' D = some (.lst (List.replicate i (V.bl true)))) ⟨extN_new nD, tabs_same tb (Same.new nD), upd_same⟩ ?_ ?_⟩
    · omega
    · omega
    · rintro i H1 hi ⟨s1, t1, e1⟩
      have hi : i < 100 := by omega
      refine ⟨rfl, ?_⟩
      rw [show (0 : Int) + (i : Int) = ((i : Nat) : Int) from Int.zero_add _]
      refine ⟨_, rfl, _, rfl, a, ns, i, rfl, extN_sql s1 hS, hlen, by omega, fun H2 p s2 np pu => ⟨p, rfl, pu, tabs_same t1 s2, fun H3 sb t3 => ?_⟩⟩
      have nDp : D ≠ p := fun e => by
        rw [e, np] at e1
        cases e1
      have e3 := sb _ _ nDp (s2 _ _ e1) (fun _ z => nomatch z)
      refine ⟨_, e3, lt_line (by rw [List.length_replicate]; omega), fun b o e ht => ?_, ?_, ?_⟩
      · rw [upd_ne (ne_of_none e nD)]
        have h1 := s1 _ _ e ht
        exact sb _ _ (ne_of_none h1 np) (s2 _ _ h1) ht
      · exact tabs_but t3 e3 (fun _ z => nomatch z) (fun _ _ z => nomatch z) fun b o n e => by rw [upd_ne n]; exact e
      · rw [upd_same, List.replicate_succ']
    · rintro H1 ⟨s1, t1, e1⟩
      refine ⟨D, List.replicate _ true, rfl, lst_of (by rw [e1, List.map_replicate]), ?_⟩
      have e : ∀ n : Nat, (List.replicate n true).all id = true := fun n => List.all_eq_true.mpr fun b hb => List.eq_of_mem_replicate hb
      rw [e]
      exact k _
end
theorem walk0 {l : PySem.W.OpenLaw} {q : Program} {loose : List Str} {XP : (Str → Option Value) → Heap → Prop} {as : List Addr} {K : Params → PySem.W.Frag} {e : ∀ P, as = (K P).map (·.1)} {ts : List Addr} {d : DefRec}
    (hn : l.most = some 63) (hdf : d.params.defaults = []) (hd : d.name = "law")
    (F : ∀ (w : World) (mg : Str → Option Value) (fa : Addr) (h : Heap), (K w.params).In h → h.Ns mainGlobals mg → mg "law" = some (.ref fa) → ∃ T : Tx (K w.params) mg, T.a_law = fa ∧ T.P_l_menu_right ∈ ts ∧ T.P_l_thing_right ∈ ts ∧ T.P_l_right ∈ ts) : PySem.W.WalkO q loose XP (PySem.W.kmHook K as e ts).says l.row.toRowW d [] (fun f vs => PySem.call f vs) := by
  refine walk_tL (sp := spLaw) (k := 12) hn (by decide) hdf ⟨rfl, by decide, by decide⟩ (fun w h Y => PySem.W.km_in_of Y) (fun w mg fa h Y KX G hmg => ?_) fun TS K H a ns hl hH hS => ⟨a, ns, rfl, hS, hl, fun x hx => ?_, fun _ => rfl⟩
  · rw [hd] at hmg
    obtain ⟨T, rfl, hP1, hP2, hP3⟩ := F w mg fa h KX G hmg
    have m1 : (T.c_l_menu_right, T.P_l_menu_right) ∈ [(T.c_l_menu_right, T.P_l_menu_right), (T.c_l_thing_right, T.P_l_thing_right), (T.c_l_right, T.P_l_right)] := List.mem_cons_self
    have m2 : (T.c_l_thing_right, T.P_l_thing_right) ∈ [(T.c_l_menu_right, T.P_l_menu_right), (T.c_l_thing_right, T.P_l_thing_right), (T.c_l_right, T.P_l_right)] := List.mem_cons_of_mem _ List.mem_cons_self
    have m3 : (T.c_l_right, T.P_l_right) ∈ [(T.c_l_menu_right, T.P_l_menu_right), (T.c_l_thing_right, T.P_l_thing_right), (T.c_l_right, T.P_l_right)] := List.mem_cons_of_mem _ (List.mem_cons_of_mem _ List.mem_cons_self)
    refine ⟨[(T.c_l_menu_right, T.P_l_menu_right), (T.c_l_thing_right, T.P_l_thing_right), (T.c_l_right, T.P_l_right)], ?_, ?_, ?_, fun base _ _ TB => g_law T ⟨TB _ m1, TB _ m2, TB _ m3⟩⟩
    · simp only [List.forall_mem_cons, List.not_mem_nil, false_implies, implies_true, and_true]
      exact ⟨PySem.W.km_tabs_of Y _ hP1, PySem.W.km_tabs_of Y _ hP2, PySem.W.km_tabs_of Y _ hP3⟩
    · simp only [List.forall_mem_cons, List.not_mem_nil, false_implies, implies_true, and_true]
      exact ⟨T.tn_l_menu_right, T.tn_l_thing_right, T.tn_l_right⟩
    · simp only [List.forall_mem_cons, List.not_mem_nil, false_implies, implies_true, and_true]
      exact ⟨PySem.W.codeHd_of_K KX T.th_l_menu_right, PySem.W.codeHd_of_K KX T.th_l_thing_right, PySem.W.codeHd_of_K KX T.th_l_right⟩
  · exact LamX.TabS.nil (hH _ (List.of_mem_zip hx).1)
end MH
open PySem PySem.W PyProof.Rows in
set_option maxRecDepth 100000 in
set_option maxHeartbeats 0 in
theorem PySem.Challenge.cw_menuhouses_k06_ranking_calls_refused_holds : PySem.Challenge.rw_menuhouses_k06_ranking_calls_refused.Holds := by
  w_on; o_law; k_head; (case hw => w_witness2)
  k_fill
  refine MH.walk0 (l := PySem.Challenge.rw_menuhouses_k06_ranking_calls_refused) rfl rfl rfl ?F
  case F =>
    intro w mg fa h KX G hmg
    refine' MH.tx_of KX G hmg ?eg_WrongValue ?eg_InvalidText ?eg_InvalidIndex ?eg_NotARanking ?eg_NotAHouse ?eg_OtherThings ?eg_InvalidRow ?eg_InvalidMenu ?eg_InvalidRankings ?eg_WrongName ?eg_UnknownThing ?eg_NoAnswer ?eg_TooMany ?eg_NoHouse ?xl_InvalidIndex ?xr_InvalidIndex ?xs_InvalidIndex ?xx_InvalidIndex ?xt_InvalidIndex ?xk_InvalidIndex ?xn_InvalidIndex ?xga_InvalidIndex ?xgg_InvalidIndex ?xhd_InvalidIndex ?xcl_InvalidIndex ?xca_InvalidIndex ?xcb_InvalidIndex ?xcc_InvalidIndex ?xob_InvalidIndex ?xem_InvalidIndex ?kf_InvalidIndex_WrongValue ?kf_InvalidIndex_InvalidText ?kf_InvalidIndex_InvalidIndex ?kf_InvalidIndex_NotARanking ?kf_InvalidIndex_NotAHouse ?kf_InvalidIndex_OtherThings ?kf_InvalidIndex_InvalidRow ?kf_InvalidIndex_InvalidMenu ?kf_InvalidIndex_InvalidRankings ?kf_InvalidIndex_WrongName ?kf_InvalidIndex_UnknownThing ?kf_InvalidIndex_NoAnswer ?kf_InvalidIndex_TooMany ?kf_InvalidIndex_NoHouse ?xl_InvalidRow ?xr_InvalidRow ?xs_InvalidRow ?xx_InvalidRow ?xt_InvalidRow ?xk_InvalidRow ?xn_InvalidRow ?xga_InvalidRow ?xgg_InvalidRow ?xhd_InvalidRow ?xcl_InvalidRow ?xca_InvalidRow ?xcb_InvalidRow ?xcc_InvalidRow ?xob_InvalidRow ?xem_InvalidRow ?kf_InvalidRow_WrongValue ?kf_InvalidRow_InvalidText ?kf_InvalidRow_InvalidIndex ?kf_InvalidRow_NotARanking ?kf_InvalidRow_NotAHouse ?kf_InvalidRow_OtherThings ?kf_InvalidRow_InvalidRow ?kf_InvalidRow_InvalidMenu ?kf_InvalidRow_InvalidRankings ?kf_InvalidRow_WrongName ?kf_InvalidRow_UnknownThing ?kf_InvalidRow_NoAnswer ?kf_InvalidRow_TooMany ?kf_InvalidRow_NoHouse ?xl_InvalidMenu ?xr_InvalidMenu ?xs_InvalidMenu ?xx_InvalidMenu ?xt_InvalidMenu ?xk_InvalidMenu ?xn_InvalidMenu ?xga_InvalidMenu ?xgg_InvalidMenu ?xhd_InvalidMenu ?xcl_InvalidMenu ?xca_InvalidMenu ?xcb_InvalidMenu ?xcc_InvalidMenu ?xob_InvalidMenu ?xem_InvalidMenu ?kf_InvalidMenu_WrongValue ?kf_InvalidMenu_InvalidText ?kf_InvalidMenu_InvalidIndex ?kf_InvalidMenu_NotARanking ?kf_InvalidMenu_NotAHouse ?kf_InvalidMenu_OtherThings ?kf_InvalidMenu_InvalidRow ?kf_InvalidMenu_InvalidMenu ?kf_InvalidMenu_InvalidRankings ?kf_InvalidMenu_WrongName ?kf_InvalidMenu_UnknownThing ?kf_InvalidMenu_NoAnswer ?kf_InvalidMenu_TooMany ?kf_InvalidMenu_NoHouse ?xl_UnknownThing ?xr_UnknownThing ?xs_UnknownThing ?xx_UnknownThing ?xt_UnknownThing ?xk_UnknownThing ?xn_UnknownThing ?xga_UnknownThing ?xgg_UnknownThing ?xhd_UnknownThing ?xcl_UnknownThing ?xca_UnknownThing ?xcb_UnknownThing ?xcc_UnknownThing ?xob_UnknownThing ?xem_UnknownThing ?kf_UnknownThing_WrongValue ?kf_UnknownThing_InvalidText ?kf_UnknownThing_InvalidIndex ?kf_UnknownThing_NotARanking ?kf_UnknownThing_NotAHouse ?kf_UnknownThing_OtherThings ?kf_UnknownThing_InvalidRow ?kf_UnknownThing_InvalidMenu ?kf_UnknownThing_InvalidRankings ?kf_UnknownThing_WrongName ?kf_UnknownThing_UnknownThing ?kf_UnknownThing_NoAnswer ?kf_UnknownThing_TooMany ?kf_UnknownThing_NoHouse ?cg_Ranking ?cp_Ranking ?ch_Ranking ?co_Ranking ?cs_Ranking ?cm_Ranking ?ck_Ranking ?cne_Ranking ?cob_Ranking ?cca_Ranking ?ccb_Ranking ?ccc_Ranking ?cki_Ranking_tuple ?cki_Ranking_str ?cki_Ranking_int ?cki_Ranking_bool ?cbo_Ranking ?cfm_Ranking ?crd_Ranking ?cty_Ranking ?cga_Ranking ?cn_Ranking__row ?cn_Ranking__things ?a_is_index ?l_is_index ?c_is_index ?k_is_index ?a_is_name ?l_is_name ?c_is_name ?k_is_name ?a_is_filled_tuple ?l_is_filled_tuple ?c_is_filled_tuple ?k_is_filled_tuple ?a_is_one_of ?l_is_one_of ?c_is_one_of ?k_is_one_of ?a_first_wrong_in_row ?l_first_wrong_in_row ?c_first_wrong_in_row ?k_first_wrong_in_row ?a_first_wrong_on_menu ?l_first_wrong_on_menu ?c_first_wrong_on_menu ?k_first_wrong_on_menu ?a_index_of ?l_index_of ?c_index_of ?k_index_of ?a_check_row ?l_check_row ?c_check_row ?k_check_row ?a_check_menu ?l_check_menu ?c_check_menu ?k_check_menu ?a_check_thing ?l_check_thing ?c_check_thing ?k_check_thing ?a_RankingD_initD ?i_RankingD_initD ?l_RankingD_initD ?c_RankingD_initD ?k_RankingD_initD ?a_Ranking_row ?pg_Ranking_row ?pt_Ranking_row ?pr_Ranking_row ?l_Ranking_row ?c_Ranking_row ?k_Ranking_row ?a_Ranking_best ?i_Ranking_best ?l_Ranking_best ?c_Ranking_best ?k_Ranking_best ?a_Ranking_below ?i_Ranking_below ?l_Ranking_below ?c_Ranking_below ?k_Ranking_below ?a_Ranking_place ?i_Ranking_place ?l_Ranking_place ?c_Ranking_place ?k_Ranking_place ?a_Ranking_without ?i_Ranking_without ?l_Ranking_without ?c_Ranking_without ?k_Ranking_without ?a_RankingD_getitemD ?i_RankingD_getitemD ?fi_RankingD_getitemD ?l_RankingD_getitemD ?c_RankingD_getitemD ?k_RankingD_getitemD ?a_InvalidIndexD_initD ?ti_InvalidIndexD_initD ?l_InvalidIndexD_initD ?c_InvalidIndexD_initD ?k_InvalidIndexD_initD ?a_InvalidRowD_initD ?ti_InvalidRowD_initD ?l_InvalidRowD_initD ?c_InvalidRowD_initD ?k_InvalidRowD_initD ?a_InvalidMenuD_initD ?ti_InvalidMenuD_initD ?l_InvalidMenuD_initD ?c_InvalidMenuD_initD ?k_InvalidMenuD_initD ?a_UnknownThingD_initD ?ti_UnknownThingD_initD ?l_UnknownThingD_initD ?c_UnknownThingD_initD ?k_UnknownThingD_initD ?a_l_purse ?l_l_purse ?c_l_purse ?k_l_purse ?a_l_draw ?l_l_draw ?c_l_draw ?k_l_draw ?a_l_things ?l_l_things ?c_l_things ?k_l_things ?a_l_order ?l_l_order ?c_l_order ?k_l_order ?a_l_sort ?l_l_sort ?c_l_sort ?k_l_sort ?a_l_attribute ?l_l_attribute ?c_l_attribute ?k_l_attribute ?a_l_told ?l_l_told ?c_l_told ?k_l_told ?a_l_off ?l_l_off ?c_l_off ?k_l_off ?a_l_bent_menu ?l_l_bent_menu ?c_l_bent_menu ?k_l_bent_menu ?a_l_menu_right ?l_l_menu_right ?c_l_menu_right ?tb_l_menu_right ?tp_l_menu_right ?tn_l_menu_right ?th_l_menu_right ?k_l_menu_right ?a_l_thing_right ?l_l_thing_right ?c_l_thing_right ?tb_l_thing_right ?tp_l_thing_right ?tn_l_thing_right ?th_l_thing_right ?k_l_thing_right ?a_l_right ?l_l_right ?c_l_right ?tb_l_right ?tp_l_right ?tn_l_right ?th_l_right ?k_l_right ?a_law ?l_law ?c_law ?k_law ?pin_l_menu_right ?pin_l_thing_right ?pin_l_right ?pne_l_menu_right_l_thing_right ?pne_l_menu_right_l_right ?pne_l_thing_right_l_right ?v_MOST_THINGS ?v_LETTERS ?v_DIGITS ?v_LONGEST_NAME ?z_len ?z_isinstance ?z_all ?z_enumerate ?z_tuple ?z_sorted ?z_abs ?z_int ?z_divmod ?z_range ?z_list ?z_repr ?z_max ?z_min ?z_str ?z_bool
    (case eg_WrongValue => k_is)
    (case eg_InvalidText => k_is)
    (case eg_InvalidIndex => k_is)
    (case eg_NotARanking => k_is)
    (case eg_NotAHouse => k_is)
    (case eg_OtherThings => k_is)
    (case eg_InvalidRow => k_is)
    (case eg_InvalidMenu => k_is)
    (case eg_InvalidRankings => k_is)
    (case eg_WrongName => k_is)
    (case eg_UnknownThing => k_is)
    (case eg_NoAnswer => k_is)
    (case eg_TooMany => k_is)
    (case eg_NoHouse => k_is)
    (case xl_InvalidIndex => first | k_is | rfl)
    (case xr_InvalidIndex => first | k_is | rfl)
    (case xs_InvalidIndex => first | k_is | rfl)
    (case xx_InvalidIndex => first | k_is | rfl)
    (case xt_InvalidIndex => first | k_is | rfl)
    (case xk_InvalidIndex => first | k_is | rfl)
    (case xn_InvalidIndex => first | k_is | rfl)
    (case xga_InvalidIndex => first | k_is | rfl)
    (case xgg_InvalidIndex => first | k_is | rfl)
    (case xhd_InvalidIndex => first | k_is | rfl)
    (case xcl_InvalidIndex => first | k_is | rfl)
    (case xca_InvalidIndex => first | k_is | rfl)
    (case xcb_InvalidIndex => first | k_is | rfl)
    (case xcc_InvalidIndex => first | k_is | rfl)
    (case xob_InvalidIndex => first | k_is | rfl)
    (case xem_InvalidIndex => first | k_is | rfl)
    (case kf_InvalidIndex_WrongValue => first | k_is | rfl)
    (case kf_InvalidIndex_InvalidText => first | k_is | rfl)
    (case kf_InvalidIndex_InvalidIndex => first | k_is | rfl)
    (case kf_InvalidIndex_NotARanking => first | k_is | rfl)
    (case kf_InvalidIndex_NotAHouse => first | k_is | rfl)
    (case kf_InvalidIndex_OtherThings => first | k_is | rfl)
    (case kf_InvalidIndex_InvalidRow => first | k_is | rfl)
    (case kf_InvalidIndex_InvalidMenu => first | k_is | rfl)
    (case kf_InvalidIndex_InvalidRankings => first | k_is | rfl)
    (case kf_InvalidIndex_WrongName => first | k_is | rfl)
    (case kf_InvalidIndex_UnknownThing => first | k_is | rfl)
    (case kf_InvalidIndex_NoAnswer => first | k_is | rfl)
    (case kf_InvalidIndex_TooMany => first | k_is | rfl)
    (case kf_InvalidIndex_NoHouse => first | k_is | rfl)
    (case xl_InvalidRow => first | k_is | rfl)
    (case xr_InvalidRow => first | k_is | rfl)
    (case xs_InvalidRow => first | k_is | rfl)
    (case xx_InvalidRow => first | k_is | rfl)
    (case xt_InvalidRow => first | k_is | rfl)
    (case xk_InvalidRow => first | k_is | rfl)
    (case xn_InvalidRow => first | k_is | rfl)
    (case xga_InvalidRow => first | k_is | rfl)
    (case xgg_InvalidRow => first | k_is | rfl)
    (case xhd_InvalidRow => first | k_is | rfl)
    (case xcl_InvalidRow => first | k_is | rfl)
    (case xca_InvalidRow => first | k_is | rfl)
    (case xcb_InvalidRow => first | k_is | rfl)
    (case xcc_InvalidRow => first | k_is | rfl)
    (case xob_InvalidRow => first | k_is | rfl)
    (case xem_InvalidRow => first | k_is | rfl)
    (case kf_InvalidRow_WrongValue => first | k_is | rfl)
    (case kf_InvalidRow_InvalidText => first | k_is | rfl)
    (case kf_InvalidRow_InvalidIndex => first | k_is | rfl)
    (case kf_InvalidRow_NotARanking => first | k_is | rfl)
    (case kf_InvalidRow_NotAHouse => first | k_is | rfl)
    (case kf_InvalidRow_OtherThings => first | k_is | rfl)
    (case kf_InvalidRow_InvalidRow => first | k_is | rfl)
    (case kf_InvalidRow_InvalidMenu => first | k_is | rfl)
    (case kf_InvalidRow_InvalidRankings => first | k_is | rfl)
    (case kf_InvalidRow_WrongName => first | k_is | rfl)
    (case kf_InvalidRow_UnknownThing => first | k_is | rfl)
    (case kf_InvalidRow_NoAnswer => first | k_is | rfl)
    (case kf_InvalidRow_TooMany => first | k_is | rfl)
    (case kf_InvalidRow_NoHouse => first | k_is | rfl)
    (case xl_InvalidMenu => first | k_is | rfl)
    (case xr_InvalidMenu => first | k_is | rfl)
    (case xs_InvalidMenu => first | k_is | rfl)
    (case xx_InvalidMenu => first | k_is | rfl)
    (case xt_InvalidMenu => first | k_is | rfl)
    (case xk_InvalidMenu => first | k_is | rfl)
    (case xn_InvalidMenu => first | k_is | rfl)
    (case xga_InvalidMenu => first | k_is | rfl)
    (case xgg_InvalidMenu => first | k_is | rfl)
    (case xhd_InvalidMenu => first | k_is | rfl)
    (case xcl_InvalidMenu => first | k_is | rfl)
    (case xca_InvalidMenu => first | k_is | rfl)
    (case xcb_InvalidMenu => first | k_is | rfl)
    (case xcc_InvalidMenu => first | k_is | rfl)
    (case xob_InvalidMenu => first | k_is | rfl)
    (case xem_InvalidMenu => first | k_is | rfl)
    (case kf_InvalidMenu_WrongValue => first | k_is | rfl)
    (case kf_InvalidMenu_InvalidText => first | k_is | rfl)
    (case kf_InvalidMenu_InvalidIndex => first | k_is | rfl)
    (case kf_InvalidMenu_NotARanking => first | k_is | rfl)
    (case kf_InvalidMenu_NotAHouse => first | k_is | rfl)
    (case kf_InvalidMenu_OtherThings => first | k_is | rfl)
    (case kf_InvalidMenu_InvalidRow => first | k_is | rfl)
    (case kf_InvalidMenu_InvalidMenu => first | k_is | rfl)
    (case kf_InvalidMenu_InvalidRankings => first | k_is | rfl)
    (case kf_InvalidMenu_WrongName => first | k_is | rfl)
    (case kf_InvalidMenu_UnknownThing => first | k_is | rfl)
    (case kf_InvalidMenu_NoAnswer => first | k_is | rfl)
    (case kf_InvalidMenu_TooMany => first | k_is | rfl)
    (case kf_InvalidMenu_NoHouse => first | k_is | rfl)
    (case xl_UnknownThing => first | k_is | rfl)
    (case xr_UnknownThing => first | k_is | rfl)
    (case xs_UnknownThing => first | k_is | rfl)
    (case xx_UnknownThing => first | k_is | rfl)
    (case xt_UnknownThing => first | k_is | rfl)
    (case xk_UnknownThing => first | k_is | rfl)
    (case xn_UnknownThing => first | k_is | rfl)
    (case xga_UnknownThing => first | k_is | rfl)
    (case xgg_UnknownThing => first | k_is | rfl)
    (case xhd_UnknownThing => first | k_is | rfl)
    (case xcl_UnknownThing => first | k_is | rfl)
    (case xca_UnknownThing => first | k_is | rfl)
    (case xcb_UnknownThing => first | k_is | rfl)
    (case xcc_UnknownThing => first | k_is | rfl)
    (case xob_UnknownThing => first | k_is | rfl)
    (case xem_UnknownThing => first | k_is | rfl)
    (case kf_UnknownThing_WrongValue => first | k_is | rfl)
    (case kf_UnknownThing_InvalidText => first | k_is | rfl)
    (case kf_UnknownThing_InvalidIndex => first | k_is | rfl)
    (case kf_UnknownThing_NotARanking => first | k_is | rfl)
    (case kf_UnknownThing_NotAHouse => first | k_is | rfl)
    (case kf_UnknownThing_OtherThings => first | k_is | rfl)
    (case kf_UnknownThing_InvalidRow => first | k_is | rfl)
    (case kf_UnknownThing_InvalidMenu => first | k_is | rfl)
    (case kf_UnknownThing_InvalidRankings => first | k_is | rfl)
    (case kf_UnknownThing_WrongName => first | k_is | rfl)
    (case kf_UnknownThing_UnknownThing => first | k_is | rfl)
    (case kf_UnknownThing_NoAnswer => first | k_is | rfl)
    (case kf_UnknownThing_TooMany => first | k_is | rfl)
    (case kf_UnknownThing_NoHouse => first | k_is | rfl)
    (case cg_Ranking => k_is)
    (case cp_Ranking => k_is)
    (case ch_Ranking => k_is)
    (case co_Ranking => k_is)
    (case cs_Ranking => k_is)
    (case cm_Ranking => k_is)
    (case ck_Ranking => k_is)
    (case cne_Ranking => k_is)
    (case cob_Ranking => k_is)
    (case cca_Ranking => k_is)
    (case ccb_Ranking => k_is)
    (case ccc_Ranking => k_is)
    (case cki_Ranking_tuple => first | k_is | rfl)
    (case cki_Ranking_str => first | k_is | rfl)
    (case cki_Ranking_int => first | k_is | rfl)
    (case cki_Ranking_bool => first | k_is | rfl)
    (case cbo_Ranking => k_is)
    (case cfm_Ranking => k_is)
    (case crd_Ranking => k_is)
    (case cty_Ranking => k_is)
    (case cga_Ranking => k_is)
    (case cn_Ranking__row => k_is)
    (case cn_Ranking__things => k_is)
    (case a_is_index => k_is)
    (case l_is_index => k_is)
    (case c_is_index => k_is)
    (case k_is_index => k_is)
    (case a_is_name => k_is)
    (case l_is_name => k_is)
    (case c_is_name => k_is)
    (case k_is_name => k_is)
    (case a_is_filled_tuple => k_is)
    (case l_is_filled_tuple => k_is)
    (case c_is_filled_tuple => k_is)
    (case k_is_filled_tuple => k_is)
    (case a_is_one_of => k_is)
    (case l_is_one_of => k_is)
    (case c_is_one_of => k_is)
    (case k_is_one_of => k_is)
    (case a_first_wrong_in_row => k_is)
    (case l_first_wrong_in_row => k_is)
    (case c_first_wrong_in_row => k_is)
    (case k_first_wrong_in_row => k_is)
    (case a_first_wrong_on_menu => k_is)
    (case l_first_wrong_on_menu => k_is)
    (case c_first_wrong_on_menu => k_is)
    (case k_first_wrong_on_menu => k_is)
    (case a_index_of => k_is)
    (case l_index_of => k_is)
    (case c_index_of => k_is)
    (case k_index_of => k_is)
    (case a_check_row => k_is)
    (case l_check_row => k_is)
    (case c_check_row => k_is)
    (case k_check_row => k_is)
    (case a_check_menu => k_is)
    (case l_check_menu => k_is)
    (case c_check_menu => k_is)
    (case k_check_menu => k_is)
    (case a_check_thing => k_is)
    (case l_check_thing => k_is)
    (case c_check_thing => k_is)
    (case k_check_thing => k_is)
    (case a_RankingD_initD => k_is)
    (case i_RankingD_initD => k_is)
    (case l_RankingD_initD => k_is)
    (case c_RankingD_initD => k_is)
    (case k_RankingD_initD => k_is)
    (case a_Ranking_row => k_is)
    (case pg_Ranking_row => k_is)
    (case pt_Ranking_row => k_is)
    (case pr_Ranking_row => k_is)
    (case l_Ranking_row => k_is)
    (case c_Ranking_row => k_is)
    (case k_Ranking_row => k_is)
    (case a_Ranking_best => k_is)
    (case i_Ranking_best => k_is)
    (case l_Ranking_best => k_is)
    (case c_Ranking_best => k_is)
    (case k_Ranking_best => k_is)
    (case a_Ranking_below => k_is)
    (case i_Ranking_below => k_is)
    (case l_Ranking_below => k_is)
    (case c_Ranking_below => k_is)
    (case k_Ranking_below => k_is)
    (case a_Ranking_place => k_is)
    (case i_Ranking_place => k_is)
    (case l_Ranking_place => k_is)
    (case c_Ranking_place => k_is)
    (case k_Ranking_place => k_is)
    (case a_Ranking_without => k_is)
    (case i_Ranking_without => k_is)
    (case l_Ranking_without => k_is)
    (case c_Ranking_without => k_is)
    (case k_Ranking_without => k_is)
    (case a_RankingD_getitemD => k_is)
    (case i_RankingD_getitemD => k_is)
    (case fi_RankingD_getitemD => k_is)
    (case l_RankingD_getitemD => k_is)
    (case c_RankingD_getitemD => k_is)
    (case k_RankingD_getitemD => k_is)
    (case a_InvalidIndexD_initD => k_is)
    (case ti_InvalidIndexD_initD => k_is)
    (case l_InvalidIndexD_initD => k_is)
    (case c_InvalidIndexD_initD => k_is)
    (case k_InvalidIndexD_initD => k_is)
    (case a_InvalidRowD_initD => k_is)
    (case ti_InvalidRowD_initD => k_is)
    (case l_InvalidRowD_initD => k_is)
    (case c_InvalidRowD_initD => k_is)
    (case k_InvalidRowD_initD => k_is)
    (case a_InvalidMenuD_initD => k_is)
    (case ti_InvalidMenuD_initD => k_is)
    (case l_InvalidMenuD_initD => k_is)
    (case c_InvalidMenuD_initD => k_is)
    (case k_InvalidMenuD_initD => k_is)
    (case a_UnknownThingD_initD => k_is)
    (case ti_UnknownThingD_initD => k_is)
    (case l_UnknownThingD_initD => k_is)
    (case c_UnknownThingD_initD => k_is)
    (case k_UnknownThingD_initD => k_is)
    (case a_l_purse => k_is)
    (case l_l_purse => k_is)
    (case c_l_purse => k_is)
    (case k_l_purse => k_is)
    (case a_l_draw => k_is)
    (case l_l_draw => k_is)
    (case c_l_draw => k_is)
    (case k_l_draw => k_is)
    (case a_l_things => k_is)
    (case l_l_things => k_is)
    (case c_l_things => k_is)
    (case k_l_things => k_is)
    (case a_l_order => k_is)
    (case l_l_order => k_is)
    (case c_l_order => k_is)
    (case k_l_order => k_is)
    (case a_l_sort => k_is)
    (case l_l_sort => k_is)
    (case c_l_sort => k_is)
    (case k_l_sort => k_is)
    (case a_l_attribute => k_is)
    (case l_l_attribute => k_is)
    (case c_l_attribute => k_is)
    (case k_l_attribute => k_is)
    (case a_l_told => k_is)
    (case l_l_told => k_is)
    (case c_l_told => k_is)
    (case k_l_told => k_is)
    (case a_l_off => k_is)
    (case l_l_off => k_is)
    (case c_l_off => k_is)
    (case k_l_off => k_is)
    (case a_l_bent_menu => k_is)
    (case l_l_bent_menu => k_is)
    (case c_l_bent_menu => k_is)
    (case k_l_bent_menu => k_is)
    (case a_l_menu_right => k_is)
    (case l_l_menu_right => k_is)
    (case c_l_menu_right => k_is)
    (case tb_l_menu_right => first | k_is | rfl | decide)
    (case tp_l_menu_right => first | k_is | rfl | decide)
    (case tn_l_menu_right => first | k_is | rfl | decide)
    (case th_l_menu_right => first | k_is | rfl | decide)
    (case k_l_menu_right => k_is)
    (case a_l_thing_right => k_is)
    (case l_l_thing_right => k_is)
    (case c_l_thing_right => k_is)
    (case tb_l_thing_right => first | k_is | rfl | decide)
    (case tp_l_thing_right => first | k_is | rfl | decide)
    (case tn_l_thing_right => first | k_is | rfl | decide)
    (case th_l_thing_right => first | k_is | rfl | decide)
    (case k_l_thing_right => k_is)
    (case a_l_right => k_is)
    (case l_l_right => k_is)
    (case c_l_right => k_is)
    (case tb_l_right => first | k_is | rfl | decide)
    (case tp_l_right => first | k_is | rfl | decide)
    (case tn_l_right => first | k_is | rfl | decide)
    (case th_l_right => first | k_is | rfl | decide)
    (case k_l_right => k_is)
    (case a_law => k_is)
    (case l_law => k_is)
    (case c_law => k_is)
    (case k_law => k_is)
    (case pin_l_menu_right => decide)
    (case pin_l_thing_right => decide)
    (case pin_l_right => decide)
    (case pne_l_menu_right_l_thing_right => decide)
    (case pne_l_menu_right_l_right => decide)
    (case pne_l_thing_right_l_right => decide)
    (case v_MOST_THINGS => k_is)
    (case v_LETTERS => k_is)
    (case v_DIGITS => k_is)
    (case v_LONGEST_NAME => k_is)
    (case z_len => k_is)
    (case z_isinstance => k_is)
    (case z_all => k_is)
    (case z_enumerate => k_is)
    (case z_tuple => k_is)
    (case z_sorted => k_is)
    (case z_abs => k_is)
    (case z_int => k_is)
    (case z_divmod => k_is)
    (case z_range => k_is)
    (case z_list => k_is)
    (case z_repr => k_is)
    (case z_max => k_is)
    (case z_min => k_is)
    (case z_str => k_is)
    (case z_bool => k_is)
